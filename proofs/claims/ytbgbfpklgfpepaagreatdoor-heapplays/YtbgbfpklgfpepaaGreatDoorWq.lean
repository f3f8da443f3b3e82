import Derived.Test.YtbgbfpklgfpepaaGreatDoorWp
set_option maxRecDepth 1000000
set_option maxHeartbeats 80000000
namespace Go.Proofs.YtbgbfpklgfpepaaGreatDoor
open Tryz
open Go.RowKit
open Go.MuLone
open Go.Proofs.YtbgbfpklgfpepaaGreatDoor.M (RS gJ mayB bE)
set_option linter.unusedVariables false
def gZ(e:Int)(p:Nat):Sn8:=⟨e,p,none,0,0,0,0,0,0,0,none,0,0⟩
def zL(E:Nat->Prop)(w1 W:World)(hb bS lim o n:Nat)(v:Value)(l:List He8)(c:Cl8)(cn:Nat)(gc:Nat->Nat)(e:Ending)(w':World):Prop:=∃ s gd,e=.returned (aU s)/\s.af=0/\s.fa=none/\s.fn=0/\s.fc=0/\s.v<18446744073709551616/\M.Bytes w' (.slice s.da s.dn s.dc) s.dn gd/\(∀ y,(Value.slice s.da s.dn s.dc).ownBlock=some y->W.heap.size<=y)/\gG E W w1 w' hb bS lim o n v l c s gd cn gc
def oB(E:Nat->Prop)(W:World):Nat->Prop:=fun y=>E y\/y=W.heap.size+1
section
variable {E:Nat->Prop} {w1 W w2 W':World} {hb sb lw bS lim o:Nat} {x:Bx} {t:Bt} {fr:Nat->List Nat} {ls:List (Nat×Nat)} {S:Sb} {n:Nat} {v:Value} {l:List He8} {c:Cl8} {s:Sn8} {gd:Nat->Nat} {cn:Nat} {gc:Nat->Nat}
theorem wN(W:World)(c:Cl8):Kt nO W (gE W c):=((Kt.refl nO W).alloc (bP c)).alloc gK
theorem wF(W:World)(c:Cl8):(gE W c).heap[W.heap.size+1]?=some gK:=by
 have:=nH (W.alloc (bP c)) gK;rwa [World.size_alloc] at this
theorem BA8.dn(A:BA8 E W W x sb hb v l)(H:HW w1 W hb sb lw x t fr ls S 0):BA8 (oB E W) (gE W c) (gE W c) x sb hb v l:=by
 have A':=A.keep (wN W c);refine A'.beside fun y hy=>?_
 rcases hy with hy|rfl
 ·obtain⟨a1,a2,a3,_⟩:=A'.ex y hy;exact⟨a1,a2,a3,rfl⟩
 ·refine⟨lH (wF W c),fun e=>?_,fun e=>?_,rfl⟩
  ·have:=H.slt e;omega
  ·have:=lH H.bx;omega
theorem gG.box(h:gG (oB E W) (gE W c) w1 w2 hb bS lim o n v l c s gd cn gc):w2.heap[W.heap.size+1]?=some gK:=by
 obtain⟨sb,lw,x',t',fr',ls',S',n',H,_,_,_,_,A,_,_⟩:=h;exact(A.ex _ (.inr rfl)).2.2.2.trans (wF W c)
theorem gG.fin(h:gG (oB E W) (gE W c) w1 w2 hb bS lim o n v l c s gd cn gc)(A0:BA8 E W W x sb hb v l)(hw:w1.heap.size<=W.heap.size)(k:Kt (fun y=>y=W.heap.size+1) w2 W'):gG E W w1 W' hb bS lim o n v l c s gd cn gc:=by
 have hx:=h.box;obtain⟨sb,lw,x',t',fr',ls',S',n',H,e1,e2,e3,e4,A,hg,J⟩:=h;refine⟨sb,lw,x',t',fr',ls',S',n',H.other hx (by omega) pH.1 pH.2.1 pH.2.2 k,e1,e2,e3,e4,?_,hg,J⟩;refine(A.beside (F:=E) (W1:=W) fun y hy=>?_).wr k (fun e=>?_) (fun e=>?_)
 ·obtain⟨a1,a2,a3,a4⟩:=A.ex y (.inl hy);exact⟨a1,a2,a3,a4.trans ((wN W c).block y (A0.ex y hy).1 id)⟩
 ·have:=A0.B.lt e;omega
 ·have:=(A0.ex _ e).1;omega
theorem zN(W:World)(gd:Nat->Nat):M.Bytes W (.slice none 0 0) 0 gd:=⟨fun i hi=>by omega,_,_,rfl,.inl rfl⟩
theorem zL.num{er:Int}{p:Nat}(A:BA8 E W W x sb hb v l)(hw:w1.heap.size<=W.heap.size)(hp:p<18446744073709551616)(h:gG (oB E W) (gE W c) w1 w2 hb bS lim o n v l c (gZ er p) (fun _=>0) cn gc)(k:Kt (fun y=>y=W.heap.size+1) w2 W'):zL E w1 W hb bS lim o n v l c cn gc (.returned (mX er p)) W':=
 ⟨gZ er p,fun _=>0,rfl,rfl,rfl,rfl,rfl,hp,zN _ _,(fun y e=>by simp[gZ,Value.ownBlock] at e),h.fin A hw k⟩
theorem UG{f g g':Nat->Nat}{q:Nat}(h:g 0=g' 0):M.upd f q 1 g=M.upd f q 1 g':=by
 funext j
 unfold M.upd;by_cases e:q<=j/\j<q+1
 ·rw[if_pos e,if_pos e,show j-q=0 by omega,h]
 ·rw[if_neg e,if_neg e]
theorem UF{ls:List (Nat×Nat)}{o r:Nat}{fr:Nat->List Nat}{x:Bx}{t:Bt}(s:Sf x t fr ls)(hr:t.m.n=r*2 ^ x.o):(eS x.o r fr).1<=r:=by
 have:=xA ls x.o r fr (s.tops hr);omega
theorem YO(C:Cn8 bS lim o)(P:iZ E w1 W hb bS lim o n v l)(h1 : 1<=c.op)(h2:c.op<=14)(hp:c.p<18446744073709551616)(ha:c.a<18446744073709551616)(hb':c.b<18446744073709551616)(hcv:M.Bytes W c.v cn gc)(hcn:cn<=9223372036854775807)(hco : 0<cn->∀ y,c.v.ownBlock=some y->y<w1.heap.size):
  Calls prog 30 #[.pointer (some ⟨hb,0,none⟩),bJ c] W (zL E w1 W hb bS lim o n v l c cn gc):=by
 obtain⟨sb,lw,x,t,fr,ls,S,H0,rfl,rfl,rfl,hn,A0,L,by0⟩:=P;have hw:w1.heap.size<=W.heap.size:=H0.po.pl.kp.size;have kA:=wN W c;have H:=H0.keep kA;have A:=A0.dn (c:=c) H0;have hnl:=H0.nle hn;have hl64:=C.l;have hp1:cL 1=true:=(jZ _).2 ⟨0,rfl⟩;let G:=fun (er:Int) (p:Nat) w2=>gG (oB E W) (gE W c) w1 w2 hb x.bS x.lim x.o n v l c (gZ er p) (fun _=>0) cn gc
 have hcs:c.op=1\/c.op=2\/c.op=3\/c.op=4\/c.op=5\/c.op=6\/c.op=7\/c.op=8\/c.op=9\/c.op=10\/c.op=11\/c.op=12\/c.op=13\/c.op=14:=by omega
 rcases hcs with h|h|h|h|h|h|h|h|h|h|h|h|h|h
 ·refine(pZ (.inl ⟨h,rfl,rfl⟩) (R:=fun p er w2=>p<18446744073709551616/\G er p w2) ((FS H c.a ha c.d _ rfl).mono ?_)).mono ?_
  ·rintro e w2 ⟨p,er,rfl,hR⟩;have hA:=uN (gd:=fun _=>0) (cn:=cn) (gc:=gc) C H hn A L by0 (NC h) (by unfold bZ;rw[h];rfl) (by unfold eU;rw[if_pos (.inl h)]) ha (by decide) hp1 (show max c.a 16=max (max c.a 1) 16 by omega) (fun e=>by rw[h] at e;exact absurd e (by decide)) hR.ot (s:=gZ er p) rfl rfl rfl;exact⟨p,er,rfl,(hR.go H).2,hA.box,(hR.go H).2,hA⟩
  ·rintro e w' ⟨p,er,w2,rfl,⟨g1,g2⟩,k⟩;exact .num A0 hw g1 g2 k
 ·refine(pZ (.inr (.inl ⟨h,rfl,rfl⟩)) (R:=fun p er w2=>p<18446744073709551616/\G er p w2) ?_).mono ?_
  ·by_cases hpr:c.a*c.b<18446744073709551616
   ·have hpe:O.prE c.a c.b=0:=by
     unfold O.prE;rw[if_neg];rintro ⟨h0,h3⟩;rw[Nat.div_lt_iff_lt_mul (Nat.pos_of_ne_zero h0),Nat.mul_comm] at h3;omega
    have hpv:O.prV c.a c.b=c.a*c.b:=by
     unfold O.prV;rw[if_neg]
     ·exact Nat.mod_eq_of_lt hpr
     ·rintro ⟨h0,h3⟩;rw[Nat.div_lt_iff_lt_mul (Nat.pos_of_ne_zero h0),Nat.mul_comm] at h3;omega
    refine(YU H c.a c.b ha hb' c.d hpr _ rfl).mono ?_;rintro e w2 ⟨p,er,rfl,hR⟩;have hA:=uN (gd:=fun _=>0) (cn:=cn) (gc:=gc) C H hn A L by0 (MX h ha hb' hpe) (by unfold bZ;rw[h];rfl) (by unfold eU;rw[if_neg (by omega),if_neg (by omega),if_pos ⟨h,hpe⟩]) (by rw[hpv];exact hpr) (by decide) hp1 (show max (c.a*c.b) 16=max (max (O.prV c.a c.b) 1) 16 by rw[hpv];omega) (fun e=>trivial) hR.ot (s:=gZ er p) rfl rfl rfl;exact⟨p,er,rfl,(hR.go H).2,hA.box,(hR.go H).2,hA⟩
   ·have h0:c.a≠0:=fun e=>by rw[e,Nat.zero_mul] at hpr;omega
    have hov : 18446744073709551615/c.a<c.b:=by
     rw[Nat.div_lt_iff_lt_mul (Nat.pos_of_ne_zero h0),Nat.mul_comm];omega
    have hpe:O.prE c.a c.b=3:=by
     unfold O.prE;rw[if_pos ⟨h0,hov⟩]
    refine(zfH H c.a c.b ha hb' c.d h0 hov).mono ?_;rintro e w2 ⟨rfl,kp⟩;have hA:=gV (gd:=fun _=>0) (cn:=cn) (gc:=gc) (c:=c) (s:=gZ 3 0) H hn A kp (fun _ e=>absurd e (by decide)) (oO C hnl (er:=3) (fun w v s Q B hQ hW=>CK h ha hb' _ rfl (.inr ⟨hpe,rfl,rfl⟩) hQ hW) rfl rfl rfl L by0);exact⟨0,3,rfl,by decide,hA.box,by decide,hA⟩
  ·rintro e w' ⟨p,er,w2,rfl,⟨g1,g2⟩,k⟩;exact .num A0 hw g1 g2 k
 ·refine(pZ (.inr (.inr (.inl ⟨h,rfl,rfl⟩))) (R:=fun p er w2=>p<18446744073709551616/\G er p w2) ?_).mono ?_
  ·cases hP:cL c.a with
   | true=>
    refine(zi6 H c.a c.b ha hb' c.d hP _ rfl).mono ?_;rintro e w2 ⟨p,er,rfl,hR⟩;have hA:=uN (gd:=fun _=>0) (cn:=cn) (gc:=gc) C H hn A L by0 (zQ h) (by unfold bZ;rw[h];rfl) (by unfold eU;rw[if_neg (by omega),if_pos h]) hb' ha hP rfl (fun e=>by rw[h] at e;exact absurd e (by decide)) hR.ot (s:=gZ er p) rfl rfl rfl;exact⟨p,er,rfl,(hR.go H).2,hA.box,(hR.go H).2,hA⟩
   | false=>
    refine(zfS H c.a c.b ha hb' c.d hP).mono ?_;rintro e w2 ⟨rfl,kp⟩;have hA:=gV (gd:=fun _=>0) (cn:=cn) (gc:=gc) (c:=c) (s:=gZ 1 0) H hn A kp (fun _ e=>absurd e (by decide)) (AH C hnl (zQ h) hb' ha (LM hP) (by decide) rfl rfl rfl L by0);exact⟨0,1,rfl,by decide,hA.box,by decide,hA⟩
  ·rintro e w' ⟨p,er,w2,rfl,⟨g1,g2⟩,k⟩;exact .num A0 hw g1 g2 k
 ·refine(pZ (.inr (.inr (.inr (.inl ⟨h,rfl,rfl⟩)))) (R:=fun p er w2=>p<18446744073709551616/\G er p w2) ((zjN H c.p c.a hp ha c.d _ rfl).mono ?_)).mono ?_
  ·rintro e w2 ⟨p,er,rfl,hR⟩;have hA:=zho (gd:=fun _=>0) (cn:=cn) (gc:=gc) C H hn A L by0 h ha hp rfl hR (s:=gZ er p) rfl rfl rfl;exact⟨p,er,rfl,(hR.go hp H).2,hA.box,(hR.go hp H).2,hA⟩
  ·rintro e w' ⟨p,er,w2,rfl,⟨g1,g2⟩,k⟩;exact .num A0 hw g1 g2 k
 ·refine(wW (.inl ⟨h,rfl,rfl⟩) (R:=fun er w2=>G er 0 w2) ((MA H c.p hp).mono ?_)).mono ?_
  ·rintro e w2 ⟨er,rfl,hR⟩;have hA:=VF (gd:=fun _=>0) (cn:=cn) (gc:=gc) C H hn A L by0 h hp hR (s:=gZ er 0) rfl rfl rfl;exact⟨er,rfl,hA.box,hA⟩
  ·rintro e w' ⟨er,w2,rfl,g2,k⟩;exact .num A0 hw (by decide) g2 k
 ·refine(pZ (.inr (.inr (.inr (.inr (.inl ⟨h,rfl,rfl⟩))))) (R:=fun p er w2=>p<18446744073709551616/\G er p w2) ((ZI H c.p hp).mono ?_)).mono ?_
  ·rintro e w2 ⟨z,er,rfl,hR,kp⟩;have hz:z<18446744073709551616:=by
    rcases hR with ⟨_,hl⟩|⟨_,e,_⟩
    ·obtain⟨hh,o⟩:=H.so;have h1:=o.inside hl;have n4:=o.po.nums.2.2.2.1;omega
    ·omega
   have hA:=ziZ (gd:=fun _=>0) (cn:=cn) (gc:=gc) C H hn A L by0 h hp hR kp (s:=gZ er z) rfl rfl rfl;exact⟨z,er,rfl,hz,hA.box,hz,hA⟩
  ·rintro e w' ⟨p,er,w2,rfl,⟨g1,g2⟩,k⟩;exact .num A0 hw g1 g2 k
 ·refine(LR h (R:=fun p er w2=>p<18446744073709551616/\G er p w2) ((LZ H c.p hp).mono ?_)).mono ?_
  ·rintro e w2 ⟨z,er,rfl,hR,kp⟩;have hz:z<256:=by
    rcases hR with ⟨_,hw,e⟩|⟨_,_,e⟩
    ·obtain⟨a,y,g1,g2,g3⟩:=pN hw;obtain⟨i,b,hi,e1,e2,_⟩:=L.find g1;obtain⟨hh,o⟩:=H.so;have hin:=(o.inside g1).1;have hbm:=List.mem_of_getElem? hi;rw[e,show c.p-x.bS=c.p-x.bS+0 by rfl,<-qO (p:=c.p) (j:=0) (by omega) (by omega) (by omega) (by0 b hbm)];exact(A.B.bt b hbm).1 _ (by omega)
    ·omega
   have hA:=VE (gd:=fun _=>0) (cn:=cn) (gc:=gc) C H hn A L by0 h hp hR kp (s:=gZ er z) rfl rfl rfl;exact⟨z,er,rfl,hz,hA.box,by omega,hA⟩
  ·rintro e w' ⟨p,er,w2,rfl,⟨g1,g2⟩,k⟩;exact .num A0 hw g1 g2 k
 ·refine(LT h ha (R:=fun er w2=>G er 0 w2) ((UX H c.p (c.a%256) hp (by omega)).mono ?_)).mono ?_
  ·rintro e w2 ⟨er,rfl,hR⟩;have hS:So8 w1 (gE W c) hb sb lw x t fr ls S c.p 1 (M.byteOf c.a) er w2:=by
    rcases hR with ⟨e,hw,wr⟩|⟨e,hw,kp⟩
    ·rw[UG (g':=M.byteOf c.a) (by unfold M.byteOf;simp)] at wr;exact .ok (by decide) hw e wr
    ·exact .bad (by decide) hw e kp
   have hA:=xM (gd:=fun _=>0) (cn:=cn) (gc:=gc) C H hn A L by0 (by unfold bZ;rw[h];rfl) (OI h ha) hp (by decide) hS (s:=gZ er 0) rfl rfl rfl;exact⟨er,rfl,hA.box,hA⟩
  ·rintro e w' ⟨er,w2,rfl,g2,k⟩;exact .num A0 hw (by decide) g2 k
 ·refine(pZ (.inr (.inr (.inr (.inr (.inr ⟨h,rfl,rfl⟩))))) (R:=fun p er w2=>p<18446744073709551616/\G er p w2) ((zhy H c.p hp).mono ?_)).mono ?_
  ·rintro e w2 ⟨z,er,rfl,hR,kp⟩;have hz:z<18446744073709551616:=by
    rcases hR with ⟨_,hw,e⟩|⟨_,_,e⟩
    ·obtain⟨a,y,g1,g2,g3⟩:=pN hw;obtain⟨i,b,hi,e1,e2,_⟩:=L.find g1;obtain⟨hh,o⟩:=H.so;have hin:=(o.inside g1).1;have hbm:=List.mem_of_getElem? hi;have:=M.wordTo_lt (fun i=>t.f (c.p-x.bS+i)) 8 (fun j hj=>by
      show t.f (c.p-x.bS+j)<256
      rw[<-qO (p:=c.p) (j:=j) (by omega) (by omega) (by omega) (by0 b hbm)];exact(A.B.bt b hbm).1 _ (by omega))
     rw[e];exact this
    ·omega
   have hA:=ZP (gd:=fun _=>0) (cn:=cn) (gc:=gc) C H hn A L by0 h hp hR kp (s:=gZ er z) rfl rfl rfl;exact⟨z,er,rfl,hz,hA.box,hz,hA⟩
  ·rintro e w' ⟨p,er,w2,rfl,⟨g1,g2⟩,k⟩;exact .num A0 hw g1 g2 k
 ·refine(wW (.inr (.inl ⟨h,rfl,rfl⟩)) (R:=fun er w2=>G er 0 w2) ((zfU H c.p c.a hp ha).mono ?_)).mono ?_
  ·rintro e w2 ⟨er,rfl,hR⟩;have hS:So8 w1 (gE W c) hb sb lw x t fr ls S c.p 8 (M.byteOf c.a) er w2:=by
    rcases hR with ⟨e,hw,wr⟩|⟨e,hw,kp⟩
    ·exact .ok (by decide) hw e wr
    ·exact .bad (by decide) hw e kp
   have hA:=xM (gd:=fun _=>0) (cn:=cn) (gc:=gc) C H hn A L by0 (by unfold bZ;rw[h];rfl) (MC h ha) hp (by decide) hS (s:=gZ er 0) rfl rfl rfl;exact⟨er,rfl,hA.box,hA⟩
  ·rintro e w' ⟨er,w2,rfl,g2,k⟩;exact .num A0 hw (by decide) g2 k
 ·refine(QJ h (R:=fun va vn vc er w2=>gG (oB E W) (gE W c) w1 w2 hb x.bS x.lim x.o n v l c ⟨er,0,va,vn,vc,0,0,0,0,0,none,0,0⟩ (fun i=>t.f (c.p-x.bS+i)) cn gc/\M.Bytes w2 (.slice va vn vc) vn (fun i=>t.f (c.p-x.bS+i))/\∀ y,(Value.slice va vn vc).ownBlock=some y->(gE W c).heap.size<=y) ((zS H c.p c.a hp ha).mono ?_)).mono ?_
  ·rintro e w2 ⟨u,er,rfl,hR,kp⟩;obtain⟨va,vn,vc,rfl⟩:∃ va vn vc,u=.slice va vn vc:=by
    cases hR with
    | nil g _ hv=>exact⟨_,_,_,hv⟩
    | ok g _ _ hv=>exact⟨_,_,_,hv⟩
    | bad _ _ hv=>exact⟨_,_,_,hv⟩
   obtain⟨hA,hB,hN⟩:=VD (gd:=fun i=>t.f (c.p-x.bS+i)) (cn:=cn) (gc:=gc) C H hn A L by0 h hp ha hR kp (s:=⟨er,0,va,vn,vc,0,0,0,0,0,none,0,0⟩) rfl rfl rfl rfl;exact⟨va,vn,vc,er,rfl,hA.box,hA,hB,hN⟩
  ·rintro e w' ⟨va,vn,vc,er,w2,rfl,⟨g1,g2,g3⟩,k⟩;refine⟨⟨er,0,va,vn,vc,0,0,0,0,0,none,0,0⟩,_,rfl,rfl,rfl,rfl,rfl,(show(0:Nat)<18446744073709551616 by decide),g2.kept (cH k) (fun y hy e=>?_),(fun y hy=>Nat.le_trans kA.size (g3 y hy)),g1.fin A0 hw k⟩;have a1:=g3 y hy;have a2:=lH (wF W c);omega
 ·refine(wW (.inr (.inr ⟨h,rfl,rfl⟩)) (R:=fun er w2=>G er 0 w2) ?_).mono ?_
  ·have hcv':=hcv.keep (cH kA);obtain⟨ca,cc,hce⟩:∃ ca cc,c.v=.slice ca cn cc:=by
    obtain⟨_,ca,cc,e,_⟩:=hcv;exact⟨ca,cc,e⟩
   rw[hce] at hcv' hco ⊢;refine(RC H c.p cn hp hcn ca cc gc hcv' (fun h0 y hy=>?_)).mono ?_
   ·have a1:=hco h0 y hy;have a2:=H.nw;omega
   ·rintro e w2 ⟨er,rfl,hR⟩;have hS:So8 w1 (gE W c) hb sb lw x t fr ls S c.p cn gc er w2:=by
     cases hR with
     | nil hn e kp=>exact .nil hn e kp
     | ok hn hw e wr=>exact .ok hn hw e wr
     | bad hn hw e kp=>exact .bad hn hw e kp
    have hA:=xM (gd:=fun _=>0) (cn:=cn) (gc:=gc) C H hn A L by0 (by unfold bZ;rw[h];rfl) (MB h) hp hcn hS (s:=gZ er 0) rfl rfl rfl;exact⟨er,rfl,hA.box,hA⟩
  ·rintro e w' ⟨er,w2,rfl,g2,k⟩;exact .num A0 hw (by decide) g2 k
 ·have hpg:=H.pgs hn;refine(QI h (R:=fun q w2=>q<=64/\gG (oB E W) (gE W c) w1 w2 hb x.bS x.lim x.o n v l c (gZ 0 q) (fun _=>0) cn gc) ((LW H hpg).mono ?_)).mono ?_
  ·rintro e w2 ⟨rfl,x',t',nx,htn⟩;obtain⟨hh,o⟩:=H.so;have hle:=UF (o:=0) o.sf hpg;have hA:=VC (gd:=fun _=>0) (cn:=cn) (gc:=gc) C H hn A L by0 h nx htn (s:=gZ 0 (eS x.o n fr).1) rfl rfl;exact⟨_,rfl,by omega,hA.box,by omega,hA⟩
  ·rintro e w' ⟨q,w2,rfl,⟨g1,g2⟩,k⟩;exact .num A0 hw (by omega) g2 k
 ·refine(QH h (R:=fun h' L' B' F' w2=>gG (oB E W) (gE W c) w1 w2 hb x.bS x.lim x.o n v l c ⟨0,0,none,0,0,h',L',B',F',0,none,0,0⟩ (fun _=>0) cn gc) ((tQ H).mono ?_)).mono ?_
  ·rintro e w2 ⟨rfl,kp⟩;have hA:=ZO (gd:=fun _=>0) (cn:=cn) (gc:=gc) C H hn A L by0 h kp (s:=⟨0,0,none,0,0,x.n,cT fV t.m t.m.n,cT fW t.m t.m.n,cT fM t.m t.m.n,0,none,0,0⟩) rfl rfl rfl rfl rfl;exact⟨_,_,_,_,rfl,hA.box,hA⟩
  ·rintro e w' ⟨h',L',B',F',w2,rfl,g2,k⟩;exact⟨⟨0,0,none,0,0,h',L',B',F',0,none,0,0⟩,fun _=>0,rfl,rfl,rfl,rfl,rfl,(show(0:Nat)<18446744073709551616 by decide),zN _ _,(fun y e=>by simp[Value.ownBlock] at e),g2.fin A0 hw k⟩
end
theorem zic(bS:Nat)(hb:bS<18446744073709551616)(lim o:Nat)(hl:lim<=64)(ho:o<=8)(c:Cl8)(ha:c.a<18446744073709551616)(hb2:c.b<18446744073709551616)(w:World):
  Calls prog 61 #[cA bS (lim:Int) (o:Int),bJ c] w fun e w'=>e=.returned (.int .u64 ((eU bS (lim:Int) (o:Int) c:Nat):Int))/\Kt nO w w':=by
 by_cases h1:c.op=1
 ·have:=OY bS hb (lim:Int) (o:Int) (by omega) (by omega) (by omega) (by omega) c h1 ha hb2 w;unfold eU;rw[if_pos (.inl h1)];exact this
 by_cases h4:c.op=4
 ·have:=OX bS hb (lim:Int) (o:Int) (by omega) (by omega) (by omega) (by omega) c h4 ha hb2 w;unfold eU;rw[if_pos (.inr h4)];exact this
 by_cases h3:c.op=3
 ·have:=RT bS hb (lim:Int) (o:Int) (by omega) (by omega) (by omega) (by omega) c h3 ha hb2 w;unfold eU;rw[if_neg (by omega),if_pos h3];exact this
 by_cases h2:c.op=2
 ·by_cases he:O.prE c.a c.b=0
  ·have:=VK bS hb (lim:Int) (o:Int) (by omega) (by omega) (by omega) (by omega) c h2 ha hb2 he (by
    unfold O.prV;split
    ·exact(by decide:(0:Nat)<2 ^ 64)
    ·exact Nat.mod_lt _ (by decide)) w
   unfold eU;rw[if_neg (by omega),if_neg h3,if_pos ⟨h2,he⟩];exact this
  ·have:=VJ bS hb (lim:Int) (o:Int) (by omega) (by omega) (by omega) (by omega) c h2 ha hb2 he w;unfold eU;rw[if_neg (by omega),if_neg h3,if_neg (fun e=>he e.2)];exact this
 ·have:=RO bS hb (lim:Int) (o:Int) (by omega) (by omega) (by omega) (by omega) c ⟨h1,h2,h3,h4⟩ ha hb2 w;unfold eU;rw[if_neg (by omega),if_neg h3,if_neg (fun e=>h2 e.1)];exact this
def nD(tv:Value)(yb y:Nat):Prop:=y=yb\/tv.ownBlock=some y
structure PV8(w1 V:World)(yb hb bS lim o n:Nat)(v:Value)(l:List He8)(tv:Value)(lr:List Nat):Prop where
 P:iZ (nD tv yb) w1 V hb bS lim o n v l
 bb:V.heap[yb]?=some (aM bS (lim:Int) (o:Int) (n:Int) v)
 gt:GS w1 V 27 1 tv lr.length (kZ lr)
 yn:w1.heap.size<=yb
 nt:∀ y,tv.ownBlock=some y->¬jE v l y
 tn:∀ y,tv.ownBlock=some y->w1.heap.size<=y
theorem iZ.keep{E:Nat->Prop}{w1 W W':World}{hb bS lim o n:Nat}{v:Value}{l:List He8}(P:iZ E w1 W hb bS lim o n v l)(k:Kt nO W W'):iZ E w1 W' hb bS lim o n v l:=by
 obtain⟨sb,lw,x,t,fr,ls,S,H,e1,e2,e3,hn,A,L,by0⟩:=P;exact⟨sb,lw,x,t,fr,ls,S,H.keep k,e1,e2,e3,hn,(A.keep k).beside fun y hy=>by
  obtain⟨a1,a2,a3,_⟩:=(A.keep k).ex y hy;exact⟨a1,a2,a3,rfl⟩,L,by0⟩
theorem iZ.kp{E:Nat->Prop}{w1 W:World}{hb bS lim o n:Nat}{v:Value}{l:List He8}(P:iZ E w1 W hb bS lim o n v l):Kt nO w1 W:=by
 obtain⟨sb,lw,x,t,fr,ls,S,H,_⟩:=P;exact H.po.pl.kp
section
variable {w1 V V':World} {yb hb bS lim o n:Nat} {v:Value} {l:List He8} {tv:Value} {lr:List Nat}
theorem PV8.keep(h:PV8 w1 V yb hb bS lim o n v l tv lr)(k:Kt nO V V'):PV8 w1 V' yb hb bS lim o n v l tv lr:=⟨h.P.keep k,bK h.bb k,h.gt.keep k,h.yn,h.nt,h.tn⟩
theorem sZ:¬Go.Proofs.YtbgbfpklgfpepaaGreatDoor.pty 63/\63≠135/\63≠91:=by unfold Go.Proofs.YtbgbfpklgfpepaaGreatDoor.pty;decide
theorem wC:¬Go.Proofs.YtbgbfpklgfpepaaGreatDoor.pty 53/\53≠135/\53≠91:=by unfold Go.Proofs.YtbgbfpklgfpepaaGreatDoor.pty;decide
theorem iZ.lt{E:Nat->Prop}(h:iZ E w1 V hb bS lim o n v l){y:Nat}(hy:jE v l y\/E y):y<V.heap.size:=by
 obtain⟨sb,lw,x,t,fr,ls,S,H,e1,e2,e3,hn,A,L,by0⟩:=h;exact hy.elim A.B.lt (fun e=>(A.ex y e).1)
theorem PV8.wr(h:PV8 w1 V yb hb bS lim o n v l tv lr){y0:Nat}{cs:Array Value}{z:Nat×Nat}(hy:V.heap[y0]?=some (.cells cs 63 z))(hn:w1.heap.size<=y0)(h1:¬jE v l y0)(k:Kt (fun y=>y=y0) V V'):PV8 w1 V' yb hb bS lim o n v l tv lr:=by
 have hyb:yb≠y0:=fun e=>by
  subst e;exact absurd (bM hy h.bb) (by decide)
 have htv:tv.ownBlock≠some y0:=fun e=>by
  obtain⟨cs',hcs⟩:=cB h.gt.own e;exact absurd (bM hy hcs) (by decide)
 have hE:¬nD tv yb y0:=fun e=>e.elim (fun e=>hyb e.symm) htv
 obtain⟨⟨sb,lw,x,t,fr,ls,S,H,e1,e2,e3,hx,A,L,by0⟩,bb,gt,yn,nt,tn⟩:=h;have A':=A.wr k h1 hE;have H':=H.other hy hn sZ.1 sZ.2.1 sZ.2.2 k;refine⟨⟨sb,lw,x,t,fr,ls,S,H',e1,e2,e3,hx,A'.beside fun y hy=>?_,L,by0⟩,(k.block _ (lH bb) hyb).trans bb,gt.kept8 H'.po.pl.kp (fun y hy2=>k.block y (A.ex y (.inr hy2)).1 (fun e=>htv (e▸hy2))),yn,nt,tn⟩;obtain⟨a1,a2,a3,_⟩:=A'.ex y hy;exact⟨a1,a2,a3,rfl⟩
theorem BK8.setB{W:World}{u:Value}{l:List He8}(B:BK8 W u l){y bS:Nat}{L o n:Int}{va:Option Addr}{vm vc:Nat}(hy:W.heap[y]?=some (aM bS L o n (.slice va vm vc))):¬jE u l y:=by
 rintro (h|⟨a,ha,h⟩)
 ·obtain⟨cs,hcs⟩:=cB B.own h;exact absurd (bM hcs hy) (by decide)
 ·obtain⟨_,q,u,hc⟩:=B.byte ha h;simp only[World.cell?,hy] at hc;match q with
  | 0=>simp at hc
  | 1=>simp at hc
  | 2=>simp at hc
  | 3=>simp at hc
  | 4=>simp at hc
  | q+5=>simp at hc
theorem TE{W:World}{y bS bS':Nat}{lim o n lim' o' n':Int}{v v':Value}(h:W.heap[y]?=some (aM bS lim o n v)):(set5 W y (.int .u64 bS') (.int .i64 lim') (.int .i64 o') (.int .i64 n') v').heap[y]?=some (aM bS' lim' o' n' v'):=by
 have:=bB (bB (bB (bB (bB h 0 (.int .u64 bS')) 1 (.int .i64 lim')) 2 (.int .i64 o')) 3 (.int .i64 n')) 4 v';simpa using this
theorem PV8.book{n':Nat}{u:Value}{l':List He8}(h:iZ (nD tv yb) w1 V hb bS lim o n' u l'){va:Option Addr}{vm vc:Nat}(bb:V.heap[yb]?=some (aM bS (lim:Int) (o:Int) (n:Int) (.slice va vm vc)))(gt:GS w1 V 27 1 tv lr.length (kZ lr))(yn:w1.heap.size<=yb)(nt:∀ y,tv.ownBlock=some y->¬jE u l' y)(tn:∀ y,tv.ownBlock=some y->w1.heap.size<=y):PV8 w1 (set5 V yb (.int .u64 bS) (.int .i64 lim) (.int .i64 o) (.int .i64 n') u) yb hb bS lim o n' u l' tv lr:=by
 have k:=fA (W:=V) (y:=yb) (.int .u64 bS) (.int .i64 lim) (.int .i64 o) (.int .i64 n') u;obtain⟨sb,lw,x,t,fr,ls,S,H,e1,e2,e3,hx,A,L,by0⟩:=h;have H':=H.other bb yn wC.1 wC.2.1 wC.2.2 k;have h1:=A.B.setB bb;have htv:∀ y,tv.ownBlock=some y->y≠yb:=fun y e e2=>by
  subst e2;obtain⟨cs',hcs⟩:=cB gt.own e;exact absurd (bM bb hcs) (by decide)
 have bb':=TE (bS':=bS) (lim':=(lim:Int)) (o':=(o:Int)) (n':=(n':Int)) (v':=u) bb;refine⟨⟨sb,lw,x,t,fr,ls,S,H',e1,e2,e3,hx,⟨A.B.kept k (fun y hy e=>h1 (e▸hy)),A.ap,fun y hy=>?_⟩,L,by0⟩,bb',gt.kept8 H'.po.pl.kp (fun y hy2=>k.block y (A.ex y (.inr hy2)).1 (htv y hy2)),yn,nt,tn⟩;obtain⟨a1,a2,a3,_⟩:=A.ex y hy;exact⟨Nat.lt_of_lt_of_le a1 k.size,a2,a3,rfl⟩
structure QV8(w1 V:World)(yb yc hb bS lim o n n':Nat)(v:Value)(l:List He8)(tv:Value)(lr:List Nat)(c:Cl8)(D:List (Value×Nat×(Nat->Nat)))(sb lw:Nat)(x:Bx)(t:Bt)(fr:Nat->List Nat)(ls:List (Nat×Nat))(S:Sb):Prop where
 H:HW w1 V hb sb lw x t fr ls S 0
 e1:x.bS=bS
 e2:x.lim=lim
 e3:x.o=o
 hn:x.n=n'*RS o
 A:BA8 (nD tv yb) V V x sb hb v l
 bb:V.heap[yb]?=some (aM bS (lim:Int) (o:Int) (n:Int) v)
 cb:V.heap[yc]?=some (bP c)
 gt:GS w1 V 27 1 tv lr.length (kZ lr)
 yn:w1.heap.size<=yb
 nt:∀ y,tv.ownBlock=some y->¬jE v l y
 tn:∀ y,tv.ownBlock=some y->w1.heap.size<=y
 ds:∀ d∈D,M.Bytes V d.1 d.2.1 d.2.2/\∀ y,d.1.ownBlock=some y->tv.ownBlock≠some y
variable {n' yc:Nat} {c:Cl8} {D:List (Value×Nat×(Nat->Nat))} {sb lw:Nat} {x:Bx} {t:Bt} {fr:Nat->List Nat} {ls:List (Nat×Nat)} {S:Sb}
theorem sM{W W':World}{y:Nat}{c:Cl8}(h:W.heap[y]?=some (bP c))(k:Kt nO W W'):W'.heap[y]?=some (bP c):=(k.block _ (lH h) id).trans h
theorem BA8.here{E:Nat->Prop}{W0 W:World}{hb:Nat}(A:BA8 E W0 W x sb hb v l):BA8 E W W x sb hb v l:=A.beside fun y hy=>by
 obtain⟨a1,a2,a3,_⟩:=A.ex y hy;exact⟨a1,a2,a3,rfl⟩
theorem QV8.keep(h:QV8 w1 V yb yc hb bS lim o n n' v l tv lr c D sb lw x t fr ls S)(k:Kt nO V V'):QV8 w1 V' yb yc hb bS lim o n n' v l tv lr c D sb lw x t fr ls S:=
 ⟨h.H.keep k,h.e1,h.e2,h.e3,h.hn,(h.A.keep k).here,bK h.bb k,sM h.cb k,h.gt.keep k,h.yn,h.nt,h.tn,fun d hd=>⟨(h.ds d hd).1.keep (cH k),(h.ds d hd).2⟩⟩
theorem QV8.wr(h:QV8 w1 V yb yc hb bS lim o n n' v l tv lr c D sb lw x t fr ls S){ys:Nat}{s:Sn8}(hy:V.heap[ys]?=some (bA s))(hn:w1.heap.size<=ys)(h1:¬jE v l ys)(k:Kt (fun y=>y=ys) V V'):QV8 w1 V' yb yc hb bS lim o n n' v l tv lr c D sb lw x t fr ls S:=by
 have hyb:yb≠ys:=fun e=>by
  subst e;exact absurd (bM hy h.bb) (by decide)
 have hyc:yc≠ys:=fun e=>by
  subst e;exact absurd (bM hy h.cb) (by decide)
 have htv:tv.ownBlock≠some ys:=fun e=>by
  obtain⟨cs',hcs⟩:=cB h.gt.own e;exact absurd (bM hy hcs) (by decide)
 have hE:¬nD tv yb ys:=fun e=>e.elim (fun e=>hyb e.symm) htv
 have H':=h.H.other hy hn pH.1 pH.2.1 pH.2.2 k;refine⟨H',h.e1,h.e2,h.e3,h.hn,(h.A.wr k h1 hE).here,(k.block _ (lH h.bb) hyb).trans h.bb,(k.block _ (lH h.cb) hyc).trans h.cb,h.gt.kept8 H'.po.pl.kp (fun y hy2=>k.block y (h.A.ex y (.inr hy2)).1 (fun e=>htv (e▸hy2))),h.yn,h.nt,h.tn,fun d hd=>⟨?_,(h.ds d hd).2⟩⟩;obtain⟨q1,ao,cap,q2,q3⟩:=(h.ds d hd).1;refine⟨q1,ao,cap,q2,?_⟩;rcases q3 with q3|⟨a,rfl,hlt,hc⟩
 ·exact .inl q3
 ·by_cases h0:d.2.1=0
  ·exact .inl h0
  ·have c0:=hc 0 (by omega);obtain⟨ab,ao,rfl⟩:=M.addr_plain c0;refine .inr ⟨_,rfl,Nat.lt_of_lt_of_le hlt k.size,fun j hj=>?_⟩;rw[<-hc j hj];have hne:ab≠ys:=fun e=>by
    subst e;rw[Addr.add_lit] at c0;simp only[World.cell?,hy] at c0;match ao with
    | 0=>simp at c0
    | 1=>simp at c0
    | 2=>simp at c0
    | 3=>simp at c0
    | 4=>simp at c0
    | 5=>simp at c0
    | 6=>simp at c0
    | 7=>simp at c0
    | 8=>simp at c0
    | q+9=>simp at c0
   rw[Addr.add_lit];have hb2:=k.block ab hlt hne;simp only[World.cell?,hb2]
theorem WU(lr:List Nat)(p:Nat):kZ (lr ++ [p])=kZ lr ++ [.int .u64 p]:=by unfold kZ;simp
theorem IG{W W':World}{g cap:Nat}(H:HW w1 W hb sb lw x t fr ls S 0)(A:BA8 (nD tv yb) W W x sb hb v l)(gt:GS w1 W 27 1 tv lr.length (kZ lr))(nt:∀ y,tv.ownBlock=some y->¬jE v l y)(hbb:tv.ownBlock≠some yb){p:Nat}(h2:GS w1 W' 27 1 (.slice (some ⟨g,0,none⟩) (lr.length + 1) cap) (lr.length + 1) (kZ lr ++ [.int .u64 p]))(h4:g<W'.heap.size)(h5:Kt (fun b=>tv.ownBlock=some b) W W')(h6:tv.ownBlock=some g\/W.heap.size<=g):
  HW w1 W' hb sb lw x t fr ls S 0/\BA8 (nD (.slice (some ⟨g,0,none⟩) (lr.length + 1) cap) yb) W' W' x sb hb v l/\GS w1 W' 27 1 (.slice (some ⟨g,0,none⟩) (lr.length + 1) cap) (lr ++ [p]).length (kZ (lr ++ [p]))/\¬jE v l g:=by
 have hH:HW w1 W' hb sb lw x t fr ls S 0:=by
  cases hvb:tv.ownBlock with
  | none=>exact H.keep ⟨h5.os,h5.tape,h5.output,h5.size,fun i hi _=>h5.block i hi (by rw[hvb];intro e;cases e)⟩
  | some y0=>
   have k0:Kt (fun y=>y=y0) W W':=h5.mono (fun y _ e=>by rw[hvb] at e;injection e with e;exact e.symm);obtain⟨cs,hcs⟩:=cB gt.own hvb;exact H.apart8 hcs (A.ex y0 (.inr hvb)).2.1 k0 h2.kp
 refine⟨hH,⟨A.B.kept h5 (fun y hy e=>nt y e hy),A.ap,fun y hy=>?_⟩,by rw[WU,List.length_append];exact h2,fun e=>?_⟩
 ·rcases hy with rfl|hy
  ·obtain⟨a1,a2,a3,_⟩:=A.ex y (.inl rfl);exact⟨Nat.lt_of_lt_of_le a1 h5.size,a2,a3,rfl⟩
  ·have:y=g:=by
    simp[Value.ownBlock] at hy;exact hy.symm
   subst this;refine⟨h4,?_,?_,rfl⟩
   ·rcases h6 with e|e
    ·exact(A.ex _ (.inr e)).2.1
    ·exact fun e2=>absurd (H.slt e2) (Nat.not_lt.2 e)
   ·rcases h6 with e|e
    ·exact(A.ex _ (.inr e)).2.2.1
    ·intro e2;have:=lH H.bx;omega
 ·rcases h6 with e2|e2
  ·exact nt _ e2 e
  ·exact absurd (A.B.lt e) (Nat.not_lt.2 e2)
theorem PV8.push(h:PV8 w1 V yb hb bS lim o n v l tv lr)(p:Nat)(hl:lr.length<=5000):∃ g cap w',(∀ t,(Builtin.append_ #[59,59] t #[tv,.slice (some ⟨V.heap.size,0,none⟩) 1 1]).run prog (V.alloc (.cells #[.int .u64 p] 27))=.ok (.slice (some ⟨g,0,none⟩) (lr.length + 1) cap) w')/\PV8 w1 w' yb hb bS lim o n v l (.slice (some ⟨g,0,none⟩) (lr.length + 1) cap) (lr ++ [p]):=by
 obtain⟨g,cap,w',h1,h2,h3,h4,h5,h6⟩:=DK h.gt (p:Int) hl;obtain⟨⟨sb,lw,x,t,fr,ls,S,H,e1,e2,e3,hx,A,L,by0⟩,bb,gt,yn,nt,tn⟩:=h;have hbb:tv.ownBlock≠some yb:=fun e=>by
  obtain⟨cs',hcs⟩:=cB gt.own e;exact absurd (bM bb hcs) (by decide)
 obtain⟨t1,t2,t3,t4⟩:=IG H A gt nt hbb h2 h4 h5 h6;have one:∀ y,(Value.slice (some ⟨g,0,none⟩) (lr.length+1) cap).ownBlock=some y->y=g:=fun y e=>by
  simp[Value.ownBlock] at e;exact e.symm
 exact⟨g,cap,w',h1,⟨⟨sb,lw,x,t,fr,ls,S,t1,e1,e2,e3,hx,t2,L,by0⟩,(h5.block _ (lH bb) hbb).trans bb,t3,yn,fun y e=>by rw[one y e];exact t4,fun y e=>by rw[one y e];exact h3⟩⟩
theorem QV8.push(h:QV8 w1 V yb yc hb bS lim o n n' v l tv lr c D sb lw x t fr ls S)(p:Nat)(hl:lr.length<=5000):∃ g cap w',(∀ t,(Builtin.append_ #[59,59] t #[tv,.slice (some ⟨V.heap.size,0,none⟩) 1 1]).run prog (V.alloc (.cells #[.int .u64 p] 27))=.ok (.slice (some ⟨g,0,none⟩) (lr.length + 1) cap) w')/\QV8 w1 w' yb yc hb bS lim o n n' v l (.slice (some ⟨g,0,none⟩) (lr.length + 1) cap) (lr ++ [p]) c [] sb lw x t fr ls S/\(∀ d∈D,M.Bytes w' d.1 d.2.1 d.2.2)/\∀ (ys:Nat) (s:Sn8),V.heap[ys]?=some (bA s)->w'.heap[ys]?=some (bA s):=by
 obtain⟨g,cap,w',h1,h2,h3,h4,h5,h6⟩:=DK h.gt (p:Int) hl;obtain⟨H,e1,e2,e3,hx,A,bb,cb,gt,yn,nt,tn,ds⟩:=h;have hbb:tv.ownBlock≠some yb:=fun e=>by
  obtain⟨cs',hcs⟩:=cB gt.own e;exact absurd (bM bb hcs) (by decide)
 have hcb:tv.ownBlock≠some yc:=fun e=>by
  obtain⟨cs',hcs⟩:=cB gt.own e;exact absurd (bM cb hcs) (by decide)
 obtain⟨t1,t2,t3,t4⟩:=IG H A gt nt hbb h2 h4 h5 h6;have one:∀ y,(Value.slice (some ⟨g,0,none⟩) (lr.length+1) cap).ownBlock=some y->y=g:=fun y e=>by
  simp[Value.ownBlock] at e;exact e.symm
 refine⟨g,cap,w',h1,⟨t1,e1,e2,e3,hx,t2,(h5.block _ (lH bb) hbb).trans bb,(h5.block _ (lH cb) hcb).trans cb,t3,yn,fun y e=>by rw[one y e];exact t4,fun y e=>by rw[one y e];exact h3,fun d hd=>by cases hd⟩,fun d hd=>(ds d hd).1.kept (cH h5) (fun y e=>(ds d hd).2 y e),fun ys s hy=>(h5.block _ (lH hy) fun e=>?_).trans hy⟩;obtain⟨cs',hcs⟩:=cB gt.own e;exact absurd (bM hy hcs) (by decide)
end
section
variable {w1 V V':World} {yb yc hb bS lim o n n':Nat} {v:Value} {l:List He8} {tv:Value} {lr:List Nat} {c:Cl8} {s:Sn8} {D:List (Value×Nat×(Nat->Nat))} {sb lw:Nat} {x:Bx} {t:Bt} {fr:Nat->List Nat} {ls:List (Nat×Nat)} {S:Sb} {gd:Nat->Nat} {cn:Nat} {gc:Nat->Nat}
theorem PV8.done(C:Cn8 bS lim o)(h:PV8 w1 V yb hb bS lim o n v l tv lr)(cb:V.heap[yc]?=some (bP c))(h1 : 1<=c.op)(h2:c.op<=14)(hp:c.p<18446744073709551616)(ha:c.a<18446744073709551616)(hb':c.b<18446744073709551616)(hcv:M.Bytes w1 c.v cn gc)(hcn:cn<=9223372036854775807)(hco : 0<cn->∀ y,c.v.ownBlock=some y->y<w1.heap.size):
  Calls prog 30 #[.pointer (some ⟨hb,0,none⟩),bJ c] V fun e w'=>∃ s gd n' sb lw x t fr ls S,e=.returned (aU s)/\s.af=0/\s.fa=none/\s.fn=0/\s.fc=0/\s.v<18446744073709551616/\QV8 w1 w' yb yc hb bS lim o n n' v l tv lr c [(.slice s.da s.dn s.dc,s.dn,gd)] sb lw x t fr ls S/\(bZ c.op=true->s.e=0->aG x ls S s.v (eU bS (lim:Int) (o:Int) c))/\Jg bS lim o n n' x ls S t.f l c s gd cn gc:=by
 obtain⟨P,bb,gt,yn,nt,tn⟩:=h;have hkp:=P.kp;have htl:∀ y,tv.ownBlock=some y->y<V.heap.size:=fun y e=>P.lt (.inr (.inr e))
 have P2:iZ (fun y=>nD tv yb y\/y=yc) w1 V hb bS lim o n v l:=by
  obtain⟨sb,lw,x,t,fr,ls,S,H,e1,e2,e3,hn,A,L,by0⟩:=P;refine⟨sb,lw,x,t,fr,ls,S,H,e1,e2,e3,hn,A.beside fun y hy=>?_,L,by0⟩;rcases hy with hy|rfl
  ·exact A.ex y hy
  ·obtain⟨hh,oo⟩:=H.so;refine⟨lH cb,?_,fun e=>?_,rfl⟩
   ·rintro (e|e)
    ·exact sZ.1 (oo.sw.pl.pty cb (.inl e))
    ·subst e;exact absurd (bM cb oo.sw.bx) (by decide)
   ·subst e;exact absurd (bM cb H.bx) (by decide)
 refine(YO C P2 h1 h2 hp ha hb' (hcv.keep (cH hkp)) hcn hco).mono ?_;rintro e w' ⟨s,gd,rfl,s1,s2,s3,s4,s5,hB,hN,sb,lw,x,t,fr,ls,S,n',H,e1,e2,e3,hn,A,hg,J⟩;refine⟨s,gd,n',sb,lw,x,t,fr,ls,S,rfl,s1,s2,s3,s4,s5,⟨H,e1,e2,e3,hn,A.beside fun y hy=>?_,(A.ex yb (.inl (.inl rfl))).2.2.2.trans bb,(A.ex yc (.inr rfl)).2.2.2.trans cb,gt.kept8 H.po.pl.kp (fun y hy=>(A.ex y (.inl (.inr hy))).2.2.2),yn,nt,tn,fun d hd=>?_⟩,hg,J⟩
 ·obtain⟨a1,a2,a3,_⟩:=A.ex y (.inl hy);exact⟨a1,a2,a3,rfl⟩
 ·rw[List.mem_singleton] at hd;subst hd;refine⟨hB,fun y e e2=>?_⟩;have q1:=hN y e;have q2:=htl y e2;omega
theorem QV8.more(h:QV8 w1 V yb yc hb bS lim o n n' v l tv lr c D sb lw x t fr ls S){u:Value}{m:Nat}{f:Nat->Nat}(hB:M.Bytes V u m f)(hne:∀ y,u.ownBlock=some y->tv.ownBlock≠some y):QV8 w1 V yb yc hb bS lim o n n' v l tv lr c ((u,m,f) :: D) sb lw x t fr ls S:=
 ⟨h.H,h.e1,h.e2,h.e3,h.hn,h.A,h.bb,h.cb,h.gt,h.yn,h.nt,h.tn,fun d hd=>by
  rcases List.mem_cons.1 hd with rfl|hd
  ·exact⟨hB,hne⟩
  ·exact h.ds d hd⟩
theorem QV8.judge(h:QV8 w1 V yb yc hb bS lim o n n' v l tv lr c D sb lw x t fr ls S)(J:Jg bS lim o n n' x ls S t.f l c s gd cn gc)(s1:Sn8)(E:Sr8 s s1 (n'*RS o))(hd:M.Bytes V (.slice s1.da s1.dn s1.dc) s1.dn gd)(hcv:M.Bytes w1 c.v cn gc)(hF:bZ c.op=true->s.e=0->s1.fn=eU bS (lim:Int) (o:Int) c/\s1.fc=s1.fn/\∃ fb,s1.fa=some ⟨fb,0,none⟩/\M.Bytes V (.slice s1.fa s1.fn s1.fc) s1.fn (fun i=>t.f (s.v-bS+i))):
  Calls prog 62 #[aK bS (lim:Int) (o:Int) (n:Int) v,bJ c,aU s1] V fun e w'=>∃ ua um uc l',e=.returned (.tuple #[aK bS (lim:Int) (o:Int) (n':Int) (.slice ua um uc),.bool true])/\Kt nO V w'/\iZ (nD tv yb) w1 w' hb bS lim o n' (.slice ua um uc) l'/\∀ y,tv.ownBlock=some y->¬jE (.slice ua um uc) l' y:=by
 refine(J v s1 V E h.A.B hd (hcv.keep (cH h.H.po.pl.kp)) hF).mono ?_;rintro e w' ⟨n2,ua,um,uc,rfl,k,rfl,l',B,L,by',hn⟩;refine⟨ua,um,uc,l',rfl,k,⟨sb,lw,x,t,fr,ls,S,h.H.keep k,h.e1,h.e2,h.e3,h.hn,(h.A.new h.H k B hn).here,L,by'⟩,fun y e=>?_⟩;rintro (e2|⟨a,ha,e2⟩)
 ·obtain⟨cs,hcs⟩:=cB B.own e2;obtain⟨cs',hcs'⟩:=cB (h.gt.keep k).own e;exact absurd (bM hcs hcs') (by decide)
 ·rcases hn a ha y e2 with e3|e3
  ·exact h.nt y e (.inr e3)
  ·have:=(h.A.ex y (.inr e)).1;omega
end
end Go.Proofs.YtbgbfpklgfpepaaGreatDoor
