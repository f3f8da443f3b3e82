import Derived.Test.YtkfmheelhinjdaaGreatDoorXa
set_option maxRecDepth 1000000
set_option maxHeartbeats 80000000
namespace Go.Proofs.YtkfmheelhinjdaaGreatDoor.W
open _root_.Go.Proofs.Tryz
open Go.RowKit
set_option linter.unusedVariables false
def ok6(I:Img)(k a:Nat):Bool:=!(isF (I.pg a) (I.pg a).od && decide ((I.pg a).od<(k:Int)) && decide (a%(2*2 ^ (I.pg a).od.toNat)=0)) || !isF (I.pg (a+2 ^ (I.pg a).od.toNat)) (I.pg a).od
def ok11(I:Img)(a:Nat):Bool:=!(decide ((I.pg a).kd=4) && decide ((I.pg a).lv=(celN9 (I.pg a).cl.toNat:Int))) || (decide ((I.pg a).nx = -1) && decide ((I.pg a).pv = -1))
theorem zc0(b:Nat)(I:Img)(V:ImV)(k r:Nat)(hS:Sn9 I k r)(w:World)(hI:ImAt w b I V):
  Calls prog 175 #[.pointer (some ⟨b,0,none⟩)] w fun e w'=>e=aZ (fst1 I.np (ok11 I))/\Kt nO w w':=by
 obtain⟨-,⟨pa,pc,hp⟩,-,-,-,-,bp,-,-⟩:=hI.d.sl;obtain⟨c0,c1,c2,c3,c4,c5,c6,c7,c8⟩:=hI.cells;rw[hp] at c5;obtain⟨EE,hEE⟩:=xe (aZ (fst1 I.np (ok11 I)));rw[<-hEE];have HE:=aA hEE;have HI:=aA hI;have HS:=aA hS;have SP:=aA hp;have hnp:=hS.np1;obtain⟨n,hn⟩:=xe (I.np);rw[<-hn] at hnp c5;have HN:=aA hn;clear hEE hI hp hS hn bp;go_enter func175,ntmps175;go_wp2_with fail;go_loopw [9] (fun i W=>∃ a:Nat,a<=n/\i=.int .i64 a/\Hid (Kt nO w W/\∀ x,x<a->ok11 I x=true)) (fun i _=>n-(intOf i).toNat)
 case atStart=>exact⟨0,Nat.zero_le _,rfl,aA ⟨Kt.refl _ _,fun x hx=>by omega⟩⟩
 case round=>
  clear c0 c1 c2 c3 c4 c5 c6 c7 c8;obtain⟨a,ha,rfl,hR⟩:=hrel;have A0:=aA (HI.out.keep hR.out.1);by_cases hlt:a<n
  ·have hai:(a:Int)<n:=(by omega);have hlt':a<I.np:=(by rw[<-HN.out];exact hlt);obtain⟨bl,o,oc',hv',hpi,hpc⟩:=A0.out.page a hlt';rw[SP.out] at hv';injection hv' with e1 e2 e3
   subst e1;obtain⟨kd,od,cc,ll,y1,y2,y3,y4,y5,y6,y7,y8,-⟩:=HS.out.pg a hlt';have FB:=aA (show ok11 I a=false->bM (a:Int)=EE from fun h=>by rw[HE.out,fK hlt' hR.out.2 h];rfl);have GA:=aA (show ok11 I a=true->∀ x,x<a+1->ok11 I x=true from fun h x hx=>by
    by_cases e:x=a
    ·rw[e];exact h
    ·exact hR.out.2 x (by omega))
   have OK:=aA (show ok11 I a=(!(decide ((I.pg a).kd=4) && decide ((I.pg a).lv=(celN9 (I.pg a).cl.toNat:Int))) || (decide ((I.pg a).nx = -1) && decide ((I.pg a).pv = -1)))from rfl);have PB:=aA (PbI.mk' (w:=w) A0.out hR.out.1 (I.pg a));obtain⟨d0,d1,d2,d3,d4,d5,d6,d7,d8,d9,d10⟩:=hpc.c;have HFU:=aA (fun W=>CX (I.pg a) cc y5 y6 W);rw[y5,Int.toNat_natCast] at OK;generalize ok11 I a=okv at *;generalize I.pg a=p at *;obtain⟨pkd,pod,pcl,plv,pnx,ppv,pfs,pb0,pb1,pb2,pb3⟩:=p;dsimp only at d0 d1 d2 d3 d4 d5 d6 d7 d8 d9 d10 OK y1 HFU;generalize decide (plv=(celN9 cc:Int))=fu at *;clear hpi hpc e2 e3 y1 y2 y3 y4 y5 y6 y7 y8;by_cases hk4:pkd=4
   ·subst hk4
    cases fu with
    | false=>
     have R2:=aA (GA.out (by rw[OK.out];simp));go_wp2_with fail;generalize wr.alloc (aO ⟨4,pod,pcl,plv,pnx,ppv,pfs,pb0,pb1,pb2,pb3⟩)=W1 at *;generalize wr.heap.size=g at *;refine(HFU.out _).mono ?_;rintro e w1 ⟨rfl,hk⟩;have K1:=aA (nT PB.out.k hk);clear hk d0 d1 d2 d3 d4 d5 d6 d7 d8 d9 d10;go_wp2_with fail;have R3:=aA (show Kt nO w w1/\_ from⟨K1.out,R2.out⟩);go_round
     case rel=>exact⟨a+1,by omega,by go_num,R3⟩
     case measure=>simp[intOf];omega
    | true=>
     by_cases hn1:pnx = -1
     ·subst hn1;by_cases hn2:ppv = -1
      ·subst hn2;have R2:=aA (GA.out (by rw[OK.out];simp));go_wp2_with fail;generalize wr.alloc (aO ⟨4,pod,pcl,plv,-1,-1,pfs,pb0,pb1,pb2,pb3⟩)=W1 at *;generalize wr.heap.size=g at *;refine(HFU.out _).mono ?_;rintro e w1 ⟨rfl,hk⟩;have PB2:=aA (PB.out.keep hk);obtain⟨q0,q1,q2,q3,q4,q5,q6,q7,q8,q9,q10⟩:=cA PB2.out.pb;clear hk d0 d1 d2 d3 d4 d5 d6 d7 d8 d9 d10;go_wp2_with fail;refine(cM _ _).mono ?_;rintro e w2 ⟨rfl,rfl⟩;have R3:=aA (show Kt nO w w2/\_ from⟨PB2.out.k,R2.out⟩);go_wp2_with fail;go_round
       case rel=>exact⟨a+1,by omega,by go_num,R3⟩
       case measure=>simp[intOf];omega
      ·have R2:=aA (FB.out (by rw[OK.out];simp[hn2]));have f2:(ppv == -1)=false:=(by rw[beq_eq_false_iff_ne];exact hn2);clear hn2;go_wp2_with fail;generalize wr.alloc (aO ⟨4,pod,pcl,plv,-1,ppv,pfs,pb0,pb1,pb2,pb3⟩)=W1 at *;generalize wr.heap.size=g at *;refine(HFU.out _).mono ?_;rintro e w1 ⟨rfl,hk⟩;have PB2:=aA (PB.out.keep hk);obtain⟨q0,q1,q2,q3,q4,q5,q6,q7,q8,q9,q10⟩:=cA PB2.out.pb;clear hk d0 d1 d2 d3 d4 d5 d6 d7 d8 d9 d10;go_wp2_with fail;refine(dJ _ _).mono ?_;rintro e w2 ⟨rfl,rfl⟩;exact⟨rfl,R2.out,PB2.out.k⟩
     ·have R2:=aA (FB.out (by rw[OK.out];simp[hn1]));have f2:(pnx == -1)=false:=(by rw[beq_eq_false_iff_ne];exact hn1);clear hn1;go_wp2_with fail;generalize wr.alloc (aO ⟨4,pod,pcl,plv,pnx,ppv,pfs,pb0,pb1,pb2,pb3⟩)=W1 at *;generalize wr.heap.size=g at *;refine(HFU.out _).mono ?_;rintro e w1 ⟨rfl,hk⟩;have PB2:=aA (PB.out.keep hk);obtain⟨q0,q1,q2,q3,q4,q5,q6,q7,q8,q9,q10⟩:=cA PB2.out.pb;clear hk d0 d1 d2 d3 d4 d5 d6 d7 d8 d9 d10;go_wp2_with fail;refine(dJ _ _).mono ?_;rintro e w2 ⟨rfl,rfl⟩;exact⟨rfl,R2.out,PB2.out.k⟩
   ·have R2:=aA (show Kt nO w (wr.alloc (aO ⟨pkd,pod,pcl,plv,pnx,ppv,pfs,pb0,pb1,pb2,pb3⟩))/\_ from⟨hR.out.1.alloc _,GA.out (by rw[OK.out];simp[hk4])⟩);have f2:(pkd == 4)=false:=(by rw[beq_eq_false_iff_ne];exact hk4);clear hk4;go_wp2_with fail;go_round
    case rel=>exact⟨a+1,by omega,by go_num,R2⟩
    case measure=>simp[intOf];omega
  ·obtain rfl:a=n:=(by omega);have hai:¬(a:Int)<a:=(by omega);have E:=aA (show Ending.returned (.tuple #[])=EE by rw[HE.out,fst1_ok (fun x hx=>hR.out.2 x (by rw[HN.out];exact hx))];rfl);go_wp2_with fail;first|go_end0|go_ret
   exact⟨E.out,hR.out.1⟩
theorem zeK(b:Nat)(I:Img)(V:ImV)(k r:Nat)(hS:Sn9 I k r)(w:World)(hI:ImAt w b I V):
  Calls prog 170 #[.pointer (some ⟨b,0,none⟩)] w fun e w'=>e=aZ (fst1 I.np (ok6 I k))/\Kt nO w w':=by
 obtain⟨-,⟨pa,pc,hp⟩,-,-,-,-,bp,-,-⟩:=hI.d.sl;obtain⟨c0,c1,c2,c3,c4,c5,c6,c7,c8⟩:=hI.cells;rw[hp] at c5;obtain⟨EE,hEE⟩:=xe (aZ (fst1 I.np (ok6 I k)));rw[<-hEE];have HE:=aA hEE;have HI:=aA hI;have HS:=aA hS;have SP:=aA hp;have hnp:=hS.np1;have hk8:=hS.k8;obtain⟨n,hn⟩:=xe (I.np);rw[<-hn] at hnp c5;have HN:=aA hn;clear hEE hI hp hS hn bp;go_enter func170,ntmps170;go_wp2_with fail;go_loopw [11] (fun i W=>∃ a:Nat,a<=n/\i=.int .i64 a/\Hid (Kt nO w W/\∀ x,x<a->ok6 I k x=true)) (fun i _=>n-(intOf i).toNat)
 case atStart=>exact⟨0,Nat.zero_le _,rfl,aA ⟨Kt.refl _ _,fun x hx=>by omega⟩⟩
 case round=>
  clear c0 c1 c2 c3 c4 c5 c6 c7 c8;obtain⟨a,ha,rfl,hR⟩:=hrel;have A0:=aA (HI.out.keep hR.out.1);by_cases hlt:a<n
  ·have hai:(a:Int)<n:=(by omega);have hlt':a<I.np:=(by rw[<-HN.out];exact hlt);obtain⟨bl,o,oc',hv',hpi,hpc⟩:=A0.out.page a hlt';rw[SP.out] at hv';injection hv' with e1 e2 e3
   subst e1;obtain⟨kd,od,cc,ll,y1,y2,y3,y4,y5,y6,y7,y8,-⟩:=HS.out.pg a hlt';have hod8:od<=8:=(by omega);have hP:=M.pow8 od hod8;have FB:=aA (show ok6 I k a=false->bM (a:Int)=EE from fun h=>by rw[HE.out,fK hlt' hR.out.2 h];rfl);have GA:=aA (show ok6 I k a=true->∀ x,x<a+1->ok6 I k x=true from fun h x hx=>by
    by_cases e:x=a
    ·rw[e];exact h
    ·exact hR.out.2 x (by omega))
   have OK:=aA (show ok6 I k a=(!(isF (I.pg a) (od:Int) && decide ((od:Int)<k) && decide (a%(2*2 ^ od)=0)) || !isF (I.pg (a+2 ^ od)) (od:Int))by unfold ok6;rw[y3,Int.toNat_natCast]);have FIT:=aA (show od<k->a%(2*2 ^ od)=0->a+2 ^ od<n from fun h1 h=>by
    have:=mul_fits (HS.out.dvd (od+1) (by omega)) (by rw[Nat.pow_succ,Nat.mul_comm];exact h) hlt';rw[HN.out];have hp:=Nat.two_pow_pos od;rw[Nat.pow_succ] at this;omega)
   have PB:=aA (PbI.mk' (w:=w) A0.out hR.out.1 (I.pg a));obtain⟨d0,d1,d2,d3,d4,d5,d6,d7,d8,d9,d10⟩:=hpc.c;have HFR:=aA (fun W=>qM (I.pg a) (od:Int) W);generalize ok6 I k a=okv at *;obtain⟨fv,hfv⟩:=xe (isF (I.pg a) (od:Int));rw[<-hfv] at OK HFR;clear hfv;generalize I.pg a=p at *;obtain⟨pkd,pod,pcl,plv,pnx,ppv,pfs,pb0,pb1,pb2,pb3⟩:=p;dsimp only at d0 d1 d2 d3 d4 d5 d6 d7 d8 d9 d10 y3;subst y3;obtain⟨P,hPP⟩:=xe (2 ^ od);rw[<-hPP] at FIT hP OK;have hP1:=hP.1;have hP2:=hP.2;have hQ0:¬((2:Int)*(P:Int))=0:=UT hP1;have SH:=aA (pG hod8 hPP);clear hPP hpi hpc e2 e3 hP y1 y2 y5 y6 y7 y8
   cases fv with
   | false=>
    have R2:=aA (GA.out (by rw[OK.out];simp));go_wp2_with fail;generalize wr.alloc (aO ⟨pkd,(od:Int),pcl,plv,pnx,ppv,pfs,pb0,pb1,pb2,pb3⟩)=W1 at *;generalize wr.heap.size=g at *;refine(HFR.out _).mono ?_;rintro e w1 ⟨rfl,hk⟩;have K1:=aA (nT PB.out.k hk);clear hk d0 d1 d2 d3 d4 d5 d6 d7 d8 d9 d10;go_wp2_with fail;have R3:=aA (show Kt nO w w1/\_ from⟨K1.out,R2.out⟩);go_round
    case rel=>exact⟨a+1,by omega,by go_num,R3⟩
    case measure=>simp[intOf];omega
   | true=>
    by_cases hok:od<k
    case neg=>
     have R2:=aA (GA.out (by rw[OK.out];simp[hok]));have f1:decide ((od:Int)<k)=false:=decide_eq_false (by omega);have f2:¬(od:Int)<k:=(by omega);clear hok;go_wp2_with fail;generalize wr.alloc (aO ⟨pkd,(od:Int),pcl,plv,pnx,ppv,pfs,pb0,pb1,pb2,pb3⟩)=W1 at *;generalize wr.heap.size=g at *;refine(HFR.out _).mono ?_;rintro e w1 ⟨rfl,hk⟩;have PB2:=aA (PB.out.keep hk);obtain⟨c0,c1,c2,c3,c4,c5,c6,c7,c8⟩:=PB2.out.im.cells;rw[HS.out.ord] at c2;clear hk d0 d1 d2 d3 d4 d5 d6 d7 d8 d9 d10;go_wp2_with fail;have R3:=aA (show Kt nO w w1/\_ from⟨PB2.out.k,R2.out⟩);go_round
     case rel=>exact⟨a+1,by omega,by go_num,R3⟩
     case measure=>simp[intOf];omega
    have f1:decide ((od:Int)<k)=true:=decide_eq_true (by omega);have f2:(od:Int)<k:=(by omega);by_cases hal:a%(2*P)=0
    case neg=>
     have R2:=aA (GA.out (by rw[OK.out];simp[hal]));have f3:((a:Int)%(2*(P:Int)) == 0)=false:=UQ hal;obtain⟨hsh1,hsh2,hsh3⟩:=SH.out;clear hok hal;go_wp2_with fail;generalize wr.alloc (aO ⟨pkd,(od:Int),pcl,plv,pnx,ppv,pfs,pb0,pb1,pb2,pb3⟩)=W1 at *;generalize wr.heap.size=g at *;refine(HFR.out _).mono ?_;rintro e w1 ⟨rfl,hk⟩;have PB2:=aA (PB.out.keep hk);obtain⟨c0,c1,c2,c3,c4,c5,c6,c7,c8⟩:=PB2.out.im.cells;rw[HS.out.ord] at c2;clear hk d0 d1 d2 d3 d4 d5 d6 d7 d8 d9 d10;go_wp2_with fail;have R3:=aA (show Kt nO w w1/\_ from⟨PB2.out.k,R2.out⟩);go_round
     case rel=>exact⟨a+1,by omega,by go_num,R3⟩
     case measure=>simp[intOf];omega
    have f3:((a:Int)%(2*(P:Int)) == 0)=true:=UR hal;have hfit:=FIT.out hok hal;have OK2:=aA (show okv=!isF (I.pg (a+P)) (od:Int)by rw[OK.out];simp[hok,hal]);obtain⟨t,ht⟩:=xe (a+P);have hti:(a:Int)+(P:Int)=t:=(by omega);rw[<-ht] at OK2 hfit;have htl:(t:Int)<n:=(by omega);have htn:t<I.np:=(by rw[<-HN.out];exact hfit);clear hok hal ht;have HFT:=aA (fun W=>qM (I.pg t) (od:Int) W);obtain⟨fw,hfw⟩:=xe (isF (I.pg t) (od:Int));rw[<-hfw] at OK2 HFT;clear hfw;obtain⟨hsh1,hsh2,hsh3⟩:=SH.out;go_wp2_with fail;generalize wr.alloc (aO ⟨pkd,(od:Int),pcl,plv,pnx,ppv,pfs,pb0,pb1,pb2,pb3⟩)=W1 at *;generalize wr.heap.size=g at *;refine(HFR.out _).mono ?_;rintro e w1 ⟨rfl,hk⟩;have PB2:=aA (PB.out.keep hk);obtain⟨c0,c1,c2,c3,c4,c5,c6,c7,c8⟩:=PB2.out.im.cells;rw[HS.out.ord] at c2;rw[SP.out,<-HN.out] at c5;have hq0:=PB2.out.im.pageK SP.out t htn ⟨w1,Kt.refl _ _⟩;clear hk d0 d1 d2 d3 d4 d5 d6 d7 d8 d9 d10;generalize I.pg t=q at *;obtain⟨qkd,qod,qcl,qlv,qnx,qpv,qfs,qb0,qb1,qb2,qb3⟩:=q;obtain⟨d0,d1,d2,d3,d4,d5,d6,d7,d8,d9,d10⟩:=hq0.c;dsimp only[KW.v] at d0 d1 d2 d3 d4 d5 d6 d7 d8 d9 d10;clear hq0
    cases fw with
    | false=>
     have R2:=aA (GA.out (by rw[OK2.out];rfl));go_wp2_with fail;refine(HFT.out _).mono ?_;rintro e w2 ⟨rfl,hk⟩;have K2:=aA (nT PB2.out.k hk);clear hk d0 d1 d2 d3 d4 d5 d6 d7 d8 d9 d10;go_wp2_with fail;refine(cM _ _).mono ?_;rintro e w3 ⟨rfl,rfl⟩;have R3:=aA (show Kt nO w w3/\_ from⟨K2.out,R2.out⟩);go_wp2_with fail;go_round
     case rel=>exact⟨a+1,by omega,by go_num,R3⟩
     case measure=>simp[intOf];omega
    | true=>
     have R2:=aA (FB.out (by rw[OK2.out];rfl));go_wp2_with fail;refine(HFT.out _).mono ?_;rintro e w2 ⟨rfl,hk⟩;have K2:=aA (nT PB2.out.k hk);clear hk d0 d1 d2 d3 d4 d5 d6 d7 d8 d9 d10;go_wp2_with fail;refine(dJ _ _).mono ?_;rintro e w3 ⟨rfl,rfl⟩;exact⟨rfl,R2.out,K2.out⟩
  ·obtain rfl:a=n:=(by omega);have hai:¬(a:Int)<a:=(by omega);have E:=aA (show Ending.returned (.tuple #[])=EE by rw[HE.out,fst1_ok (fun x hx=>hR.out.2 x (by rw[HN.out];exact hx))];rfl);go_wp2_with fail;first|go_end0|go_ret
   exact⟨E.out,hR.out.1⟩
abbrev wsP(p:Pg):List Nat:=[p.b0,p.b1,p.b2,p.b3]
def ok5(p:Pg):Bool:=!decide (p.kd=4) || ((decide (0<p.lv) && decide (p.lv=(aU (wsP p):Int))) && decide (bQ 256 (wsP p) (celN9 p.cl.toNat) = -1))
theorem zj4(p:Pg)(h:PgIn p):fG (wsP p) (cS 256)=wsP p:=by
 have e:cS 256=256:=by decide
 rw[e];unfold fG kC;rw[if_pos (by decide)];unfold over dU;rfl
theorem vO{w:World}{g:Nat}{p:Pg}(h:w.heap[g]?=some (aO p))(hp:PgIn p):Src w (.slice (some ⟨g,7,none⟩) 4 4) (wsP p):=by
 refine⟨fun i=>?_,some ⟨g,7,none⟩,4,rfl,.inr ⟨⟨g,7,none⟩,rfl,lH h,fun j hj=>?_⟩⟩
 ·obtain⟨-,-,-,-,-,-,-,h0,h1,h2,h3⟩:=hp;match i with
  | 0=>exact h0
  | 1=>exact h1
  | 2=>exact h2
  | 3=>exact h3
  | n+4=>simp
 ·have hj4:j<4:=hj;match j,hj4 with
  | 0,_=>simp[World.cell?,h,Addr.add]
  | 1,_=>simp[World.cell?,h,Addr.add]
  | 2,_=>simp[World.cell?,h,Addr.add]
  | 3,_=>simp[World.cell?,h,Addr.add]
theorem zfb(b:Nat)(I:Img)(V:ImV)(k r:Nat)(hS:Sn9 I k r)(w:World)(hI:ImAt w b I V):
  Calls prog 169 #[.pointer (some ⟨b,0,none⟩)] w fun e w'=>e=aZ (fst1 I.np fun i=>ok5 (I.pg i))/\Kt nO w w':=by
 obtain⟨-,⟨pa,pc,hp⟩,-,-,-,-,bp,-,-⟩:=hI.d.sl;obtain⟨c0,c1,c2,c3,c4,c5,c6,c7,c8⟩:=hI.cells;rw[hp] at c5;obtain⟨EE,hEE⟩:=xe (aZ (fst1 I.np fun i=>ok5 (I.pg i)));rw[<-hEE];have HE:=aA hEE;have HI:=aA hI;have HS:=aA hS;have SP:=aA hp;have hnp:=hS.np1;obtain⟨n,hn⟩:=xe (I.np);rw[<-hn] at hnp c5;have HN:=aA hn;clear hEE hI hp hS hn bp;go_enter func169,ntmps169;go_wp2_with fail;go_loopw [10] (fun i W=>∃ a:Nat,a<=n/\i=.int .i64 a/\Hid (Kt nO w W/\∀ x,x<a->ok5 (I.pg x)=true)) (fun i _=>n-(intOf i).toNat)
 case atStart=>exact⟨0,Nat.zero_le _,rfl,aA ⟨Kt.refl _ _,fun x hx=>by omega⟩⟩
 case round=>
  clear c0 c1 c2 c3 c4 c5 c6 c7 c8;obtain⟨a,ha,rfl,hR⟩:=hrel;have A0:=aA (HI.out.keep hR.out.1);by_cases hlt:a<n
  ·have hai:(a:Int)<n:=(by omega);have hlt':a<I.np:=(by rw[<-HN.out];exact hlt);obtain⟨bl,o,oc',hv',hpi,hpc⟩:=A0.out.page a hlt';rw[SP.out] at hv';injection hv' with e1 e2 e3
   subst e1;obtain⟨kd,od,cc,ll,y1,y2,y3,y4,y5,y6,y7,y8,-⟩:=HS.out.pg a hlt';have FB:=aA (show ok5 (I.pg a)=false->bM (a:Int)=EE from fun h=>by rw[HE.out,fK (ok:=fun i=>ok5 (I.pg i)) hlt' hR.out.2 h];rfl);have GA:=aA (show ok5 (I.pg a)=true->∀ x,x<a+1->ok5 (I.pg x)=true from fun h x hx=>by
    by_cases e:x=a
    ·rw[e];exact h
    ·exact hR.out.2 x (by omega))
   have OK:=aA (show ok5 (I.pg a)=(!decide ((I.pg a).kd=4) || ((decide (0<(I.pg a).lv) && decide ((I.pg a).lv=(aU (wsP (I.pg a)):Int))) && decide (bQ 256 (wsP (I.pg a)) (celN9 (I.pg a).cl.toNat) = -1)))from rfl);rw[y5,Int.toNat_natCast] at OK;have PB:=aA (PbI.mk' (w:=w) A0.out hR.out.1 (I.pg a));have SR:=aA (vO PB.out.pb hpi);have OW:=aA (zj4 (I.pg a) hpi);have HCE:=aA (fun W=>wE (I.pg a) cc y5 y6 W);have hcb:=mN cc y6;generalize celN9 cc=cn at *;obtain⟨d0,d1,d2,d3,d4,d5,d6,d7,d8,d9,d10⟩:=hpc.c;generalize ok5 (I.pg a)=okv at *;generalize I.pg a=p at *;clear hpi hpc e2 e3 y1 y2 y3 y4 y5 y6 y7 y8;by_cases hk4:p.kd=4
   case neg=>
    have R2:=aA (show Kt nO w (wr.alloc (aO p))/\_ from⟨hR.out.1.alloc _,GA.out (by rw[OK.out];simp[hk4])⟩);have f2:(p.kd != 4)=true:=(by rw[bne_iff_ne];exact hk4);clear hk4;go_wp2_with fail;go_round
    case rel=>exact⟨a+1,by omega,by go_num,R2⟩
    case measure=>simp[intOf];omega
   have OK2:=aA (show okv=((decide (0<p.lv) && decide (p.lv=(aU (wsP p):Int))) && decide (bQ 256 (wsP p) cn = -1))by rw[OK.out,decide_eq_true hk4];rfl);have f2:(p.kd != 4)=false:=(by rw[bne_eq_false_iff_eq];exact hk4);clear hk4;generalize hws:wsP p=ws at *;clear hws;go_wp2_with fail;generalize wr.alloc (aO p)=W1 at *;generalize wr.heap.size=g at *;refine(rV (.slice (some ⟨g,7,none⟩) 4 4) ws 256 (by decide) (by decide) W1 SR.out).mono ?_;rintro e w1 ⟨rfl,hset,hk,hsz⟩;rw[OW.out] at hset;have PB1:=aA (PB.out.keep hk);have ST:=aA hset;generalize W1.heap.size+1=sb at *;generalize W1.heap.size=sc at *;obtain⟨cw,hcw⟩:=xe (aU ws);have HCT:=aA (fun (x:KW w1)=>tB sb sc _ ws x.v (ST.out.kept x.k (fun x=>x) (fun x=>x)));rw[<-hcw] at HCT;have HNX:=aA (fun (W:World) (hW:Kt nO w1 W)=>BO sb sc _ ws (cn:Int) (by omega) W (ST.out.kept hW (fun x=>x) (fun x=>x)));obtain⟨nv,hnv⟩:=xe (bQ 256 ws cn);have HNE:nxt (cS 256) ws (cn:Int)=nv:=(by rw[hnv];unfold nxt;rw[Int.toNat_natCast];rfl);rw[HNE] at HNX;rw[<-hcw,<-hnv] at OK2;clear hset hk hsz hcw hnv HNE OK;obtain⟨p0,p1,p2,p3,p4,p5,p6,p7,p8,p9,p10⟩:=PB1.out.all;clear d0 d1 d2 d3 d4 d5 d6 d7 d8 d9 d10;by_cases g1 : 0<p.lv
   case neg=>
    have R2:=aA (FB.out (by rw[OK2.out,decide_eq_false g1];rfl));have f1:decide (0<p.lv)=false:=decide_eq_false g1;go_wp2_with fail;refine gD (by kernel_rfl) (by kernel_rfl) (by exact List.cons_ne_nil _ _) ?_;dsimp only[List.dropLast,List.getLast];repeat (go_big_quiet_step (fail))
    refine wpQuiet_nil ?_;refine⟨rfl,?_⟩;rintro _ ⟨x,rfl⟩;exact gC (p:=(a:Int)) rfl rfl rfl fun _ hd=>⟨hd,R2.out,nT PB1.out.k x.k⟩
   have f1:decide (0<p.lv)=true:=decide_eq_true g1;by_cases g2:p.lv=(cw:Int)
   case neg=>
    have R2:=aA (FB.out (by rw[OK2.out,decide_eq_false g2];simp));have f3:(p.lv == (cw:Int))=false:=(by rw[beq_eq_false_iff_ne];exact g2);clear g2;go_wp2_with fail;refine gD (by kernel_rfl) (by kernel_rfl) (by exact List.cons_ne_nil _ _) ?_;dsimp only[List.dropLast,List.getLast];repeat (go_big_quiet_step (first|(go_at_call 218;exact Calls.kept_of ((HCT.out _).mono fun _ _ ⟨h1,h2⟩=>⟨h1,h2▸Kt.refl _ _⟩))))
    refine wpQuiet_nil ?_;refine⟨rfl,?_⟩;rintro _ ⟨x,rfl⟩;exact gC (p:=(a:Int)) rfl rfl rfl fun _ hd=>⟨hd,R2.out,nT PB1.out.k x.k⟩
   have OK3:=aA (show okv=decide (nv = -1)by rw[OK2.out,f1,decide_eq_true g2];rfl);have f3:(p.lv == (cw:Int))=true:=(by rw[beq_iff_eq];exact g2);have HMY:=aA (fun W=>cM (a:Int) W);clear g2;go_wp2_with fail;refine bT (by kernel_rfl) (by kernel_rfl) ?_;repeat (go_big_quiet_step (first|(go_at_call 218;exact Calls.kept_of ((HCT.out _).mono fun _ _ ⟨h1,h2⟩=>⟨h1,h2▸Kt.refl _ _⟩))|(go_at_call 212;exact Calls.kept_of ((HMY.out _).mono fun _ _ ⟨h1,h2⟩=>⟨h1,h2▸Kt.refl _ _⟩))))
   refine wpQuiet_nil ?_;intro x;go_wp2_with fail;refine(HCE.out _).mono ?_;rintro e w3 ⟨rfl,hk⟩;have K3:=aA (nT PB1.out.k (nT x.k hk));have NX:=aA (HNX.out w3 (nT x.k hk));clear p0 p1 p2 p3 p4 p5 p6 p7 p8 p9 p10 hk;by_cases g3:nv = -1
   case neg=>
    have R2:=aA (FB.out (by rw[OK3.out,decide_eq_false g3]));have f4:(nv == -1)=false:=(by rw[beq_eq_false_iff_ne];exact g3);clear g3;go_wp2_with fail;refine NX.out.mono ?_;rintro e w4 ⟨rfl,rfl⟩;go_wp2_with fail;refine(dJ _ _).mono ?_;rintro e w5 ⟨rfl,rfl⟩;exact⟨rfl,R2.out,K3.out⟩
   have R2:=aA (show Kt nO w w3/\_ from⟨K3.out,GA.out (by rw[OK3.out,decide_eq_true g3])⟩);have f4:(nv == -1)=true:=(by rw[beq_iff_eq];exact g3);clear g3;go_wp2_with fail;refine NX.out.mono ?_;rintro e w4 ⟨rfl,rfl⟩;go_wp2_with fail;refine(cM _ _).mono ?_;rintro e w5 ⟨rfl,rfl⟩;go_wp2_with fail;go_round
   case rel=>exact⟨a+1,by omega,by go_num,R2⟩
   case measure=>simp[intOf];omega
  ·obtain rfl:a=n:=(by omega);have hai:¬(a:Int)<a:=(by omega);have E:=aA (show Ending.returned (.tuple #[])=EE by rw[HE.out,fst1_ok (fun x hx=>hR.out.2 x (by rw[HN.out];exact hx))];rfl);go_wp2_with fail;first|go_end0|go_ret
   exact⟨E.out,hR.out.1⟩
set_option maxHeartbeats 8000000
set_option maxRecDepth 6000
def eB:Option Nat->Int
 | none => -1
 | some p=>(p:Int)
theorem mG(j:Nat)(h:j<=9) : 2 ^ j<=512:=Nat.pow_le_pow_right (by decide) h (n:=2)
theorem mL(k:Nat)(hk:k<=9)(w:World):Calls prog 99 #[.int .i64 k] w fun e w'=>e=.returned (.int .i64 ((2 ^ k:Nat):Int))/\w'=w:=by
 go_enter func99,ntmps99;go_wp2
 go_loop [3,4] (fun r i=>∃ j:Nat,j<=k/\i=.int .i64 j/\r=.int .i64 ((2 ^ j:Nat):Int)) (fun _ i=>k-(intOf i).toNat)
 case atStart=>exact⟨0,by omega,rfl,by simp⟩
 case round=>
  obtain⟨j,hj,rfl,rfl⟩:=hrel;obtain⟨P,hP⟩:=xe (2 ^ j);have hP9:=mG j (by omega);rw[<-hP] at hP9 ⊢;by_cases hlt:j<k
  ·have hN2:=aA (show 2 ^ (j+1)=P*2 from by rw[hP,Nat.pow_succ]);have hji:(j:Int)<k:=(by omega);clear hP;go_wp2
   refine⟨⟨j+1,by omega,by simp,?_⟩,by simp[intOf];omega⟩;rw[hN2.out];simp
  ·obtain rfl:j=k:=(by omega);have E:=aA (show 2 ^ j=P from hP.symm);clear hP;go_wp2
   go_ret;exact⟨dY (by rw[<-E.out];simp),rfl⟩
theorem II(x a b:Int)(w:World):Calls prog 144 #[.int .i64 x,.int .i64 a,.int .i64 b] w fun e w'=>e=.returned (.bool (wiB x a b))/\w'=w:=by
 by_cases h:a<=x
 ·go_enter func144,ntmps144;go_wp2
  go_ret;exact⟨cH (by simp[wiB,h]),rfl⟩
 ·go_enter func144,ntmps144;go_wp2
  go_ret;exact⟨cH (decide_eq_false (by omega)).symm,rfl⟩
theorem pQ(p:Pg)(c:Nat)(hc:p.cl=(c:Int))(h7:c<=7)(w:World):Calls prog 64 #[dV p] w fun e w'=>e=.returned (.int .i64 ((celN9 c:Nat):Int))/\Kt nO w w':=by
 obtain⟨kd,od,cl,lv,nx,pv,fs,b0,b1,b2,b3⟩:=p;dsimp only at hc;subst hc;have PW:=aA (fun W=>mL c (by omega) W);have hd:(256:Int)/((2 ^ c:Nat):Int)=((celN9 c:Nat):Int):=by unfold celN9;rfl
 have hd2:(256:Int).tdiv ((2 ^ c:Nat):Int)=((celN9 c:Nat):Int):=by rw[Int.tdiv_eq_ediv_of_nonneg (by decide)];exact hd
 have hp : 0<2 ^ c:=Nat.two_pow_pos c;have hb:=mG c (by omega);have hcn:celN9 c<=256:=by unfold celN9;exact Nat.div_le_self _ _
 generalize celN9 c=cn at *;generalize 2 ^ c=P at *;have h0:¬(P:Int)=0:=by omega
 have h1:¬(P:Int) = -1:=by omega
 go_enter func64,ntmps64;go_wp2_with fail;refine(PW.out _).mono ?_;rintro e w1 ⟨rfl,rfl⟩;go_wp2_with fail;go_ret;exact⟨rfl,(Kt.refl _ w).alloc _⟩
def jU(p:Pg):Bool:=decide (p.cl=0/\p.lv=0/\p.nx = -1/\p.pv = -1/\p.fs = -1/\p.b0=0/\p.b1=0/\p.b2=0/\p.b3=0)
theorem rO(p:Pg)(w:World):Calls prog 146 #[dV p] w fun e w'=>e=.returned (.bool (jU p))/\Kt nO w w':=by
 obtain⟨kd,od,cl,lv,nx,pv,fs,b0,b1,b2,b3⟩:=p;obtain⟨bb,hbb⟩:=xe (jU ⟨kd,od,cl,lv,nx,pv,fs,b0,b1,b2,b3⟩);rw[<-hbb];have NO:=aA (show ¬(cl=0/\lv=0/\nx = -1/\pv = -1/\fs = -1/\b0=0/\b1=0/\b2=0/\b3=0)->bb=false from fun h=>hbb.trans (decide_eq_false h));have YES:=aA (show(cl=0/\lv=0/\nx = -1/\pv = -1/\fs = -1/\b0=0/\b1=0/\b2=0/\b3=0)->bb=true from fun h=>hbb.trans (decide_eq_true h));clear hbb;by_cases h1:cl=0
 case neg=>
  have q1:(cl == 0)=false:=by rw[beq_eq_false_iff_ne];exact h1
  have:=NO.out (fun h=>h1 h.1);subst this;clear h1;go_enter func146,ntmps146;go_wp2_with fail;go_ret;exact⟨rfl,(Kt.refl _ w).alloc _⟩
 by_cases h2:lv=0
 case neg=>
  have q1:(lv == 0)=false:=by rw[beq_eq_false_iff_ne];exact h2
  have:=NO.out (fun h=>h2 h.2.1);subst this h1;clear h2;go_enter func146,ntmps146;go_wp2_with fail;go_ret;exact⟨rfl,(Kt.refl _ w).alloc _⟩
 by_cases h3:nx = -1
 case neg=>
  have q1:(nx == -1)=false:=by rw[beq_eq_false_iff_ne];exact h3
  have:=NO.out (fun h=>h3 h.2.2.1);subst this h1 h2;clear h3;go_enter func146,ntmps146;go_wp2_with fail;go_ret;exact⟨rfl,(Kt.refl _ w).alloc _⟩
 by_cases h4:pv = -1
 case neg=>
  have q1:(pv == -1)=false:=by rw[beq_eq_false_iff_ne];exact h4
  have:=NO.out (fun h=>h4 h.2.2.2.1);subst this h1 h2 h3;clear h4;go_enter func146,ntmps146;go_wp2_with fail;go_ret;exact⟨rfl,(Kt.refl _ w).alloc _⟩
 by_cases h5:fs = -1
 case neg=>
  have q1:(fs == -1)=false:=by rw[beq_eq_false_iff_ne];exact h5
  have:=NO.out (fun h=>h5 h.2.2.2.2.1);subst this h1 h2 h3 h4;clear h5;go_enter func146,ntmps146;go_wp2_with fail;go_ret;exact⟨rfl,(Kt.refl _ w).alloc _⟩
 by_cases h6:b0=0
 case neg=>
  have q1:((b0:Int) == 0)=false:=by rw[beq_eq_false_iff_ne];omega
  have q2:(b0 == 0)=false:=by rw[beq_eq_false_iff_ne];exact h6
  have:=NO.out (fun h=>h6 h.2.2.2.2.2.1);subst this h1 h2 h3 h4 h5;clear h6;go_enter func146,ntmps146;go_wp2_with fail;go_ret;exact⟨rfl,(Kt.refl _ w).alloc _⟩
 by_cases h7:b1=0
 case neg=>
  have q1:((b1:Int) == 0)=false:=by rw[beq_eq_false_iff_ne];omega
  have q2:(b1 == 0)=false:=by rw[beq_eq_false_iff_ne];exact h7
  have:=NO.out (fun h=>h7 h.2.2.2.2.2.2.1);subst this h1 h2 h3 h4 h5 h6;clear h7;go_enter func146,ntmps146;go_wp2_with fail;go_ret;exact⟨rfl,(Kt.refl _ w).alloc _⟩
 by_cases h8:b2=0
 case neg=>
  have q1:((b2:Int) == 0)=false:=by rw[beq_eq_false_iff_ne];omega
  have q2:(b2 == 0)=false:=by rw[beq_eq_false_iff_ne];exact h8
  have:=NO.out (fun h=>h8 h.2.2.2.2.2.2.2.1);subst this h1 h2 h3 h4 h5 h6 h7;clear h8;go_enter func146,ntmps146;go_wp2_with fail;go_ret;exact⟨rfl,(Kt.refl _ w).alloc _⟩
 by_cases h9:b3=0
 case neg=>
  have q1:((b3:Int) == 0)=false:=by rw[beq_eq_false_iff_ne];omega
  have q2:(b3 == 0)=false:=by rw[beq_eq_false_iff_ne];exact h9
  have:=NO.out (fun h=>h9 h.2.2.2.2.2.2.2.2);subst this h1 h2 h3 h4 h5 h6 h7 h8;clear h9;go_enter func146,ntmps146;go_wp2_with fail;go_ret;exact⟨rfl,(Kt.refl _ w).alloc _⟩
 have:=YES.out ⟨h1,h2,h3,h4,h5,h6,h7,h8,h9⟩;subst this h1 h2 h3 h4 h5 h6 h7 h8 h9;go_enter func146,ntmps146;go_wp2_with fail;go_ret;exact⟨rfl,(Kt.refl _ w).alloc _⟩
end Go.Proofs.YtkfmheelhinjdaaGreatDoor.W
