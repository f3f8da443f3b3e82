import Derived.Test.YtfmgnljlkdmndaaGreatDoorXm
import Derived.Test.YtfmgnljlkdmndaaGreatDoorWn
set_option maxRecDepth 1000000
set_option maxHeartbeats 80000000
namespace Go.Proofs.YtfmgnljlkdmndaaGreatDoor
open Tryz
open Go.RowKit
set_option linter.unusedVariables false
theorem mQ{W:World}{b:Nat}{e:TypeId}{size:Nat}{v:Value}{n:Nat}{i:List Value}(h:W.ownsRow b e size v n i):∃ f a,v=.slice f n a:=by
 rcases h.2 with ⟨h0,c⟩|⟨g,cap,d,h0,_⟩
 ·exact⟨none,0,by rw[h0,c]⟩
 ·exact⟨_,_,h0⟩
theorem vF{W:World}{b:Nat}{e:TypeId}{size:Nat}{v:Value}{n:Nat}{c:List Value}(h:W.ownsRow b e size v n c){y:Nat}(hy:v.ownBlock=some y):∃ cs,W.heap[y]?=some (.cells cs e (0,0)):=by
 rcases h.2 with ⟨h0,_⟩|⟨g,cap,a,h0,hb,hg,d⟩
 ·rw[h0] at hy;simp[Value.ownBlock] at hy
 ·rw[h0] at hy;simp[Value.ownBlock] at hy;subst hy;exact⟨_,hg⟩
end Go.Proofs.YtfmgnljlkdmndaaGreatDoor
namespace Go.Proofs.YtfmgnljlkdmndaaGreatDoor.W
open Tryz
open Go.RowKit
set_option linter.unusedVariables false
theorem kP{P:World->Prop}(w:World)(h:∀ W,W=w->P W):P w:=h w rfl
theorem uS(I:Img)(V:ImV)(g:Nat)(o:Int)(hg:g<I.np)(w:World)(i:ImD w I V):
  Calls prog 133 #[imA I V,.int .i64 g,.int .i64 o] w fun e C=>e=.returned (.bool (isF (I.pg g) o))/\Kt nO w C:=by
 obtain⟨⟨B,t,m⟩,⟨z,v,hp⟩,⟨D,G,q⟩,⟨ha,hc,r⟩,⟨y,x,n⟩,-⟩:=i.sl;obtain⟨vm,N,R,vh,vt⟩:=V;dsimp only at m hp q r n;subst m hp q r n;have f:=aA (show ImAt (w.alloc (aQ I _)) w.heap.size I _ from⟨nH _ _,i.keep ((Kt.refl _ w).alloc _)⟩);have j:=aA (show Kt nO w (w.alloc (aQ I _))from(Kt.refl _ w).alloc (aQ I ⟨.slice B I.nm t,.slice z I.np v,.slice D I.no G,.slice ha I.hd.length hc,.slice y I.pt.length x⟩));obtain⟨c0,c1,c2,c3,c4,c5,T,c7,c8⟩:=f.o.cells;obtain⟨bl,K,Z,E,-,h⟩:=f.o.page g hg
 cases E
 obtain⟨L,d1,J,d3,Q,X,S,Y,P,U,u⟩:=h.c;have s:(g:Int)<I.np:=by omega
 obtain⟨l,b⟩:=xe (isF (I.pg g) o);rw[<-b];have k:=aA b;generalize I.pg g=p at *;clear i h hg b;by_cases a:p.kd=0
 ·have A:(p.kd == 0)=true:=by rw[co];exact a
  by_cases d:p.od=o
  ·have F:(p.od == o)=true:=(by rw[co];exact d);have e:l=true:=(by rw[k.o];unfold isF;rw[af a,af d];rfl);subst e;clear a d;go_enter func133,ntmps133;go_wp2_with fail;go_ret;exact⟨rfl,j.o⟩
  ·have F:(p.od == o)=false:=(by rw[ag];exact d);have e:l=false:=(by rw[k.o];unfold isF;rw[ah d];simp);subst e;clear a d;go_enter func133,ntmps133;go_wp2_with fail;go_ret;exact⟨rfl,j.o⟩
 ·have A:(p.kd == 0)=false:=by rw[ag];exact a
  have e:l=false:=by rw[k.o];unfold isF;rw[ah a];rfl
  subst e;clear a;go_enter func133,ntmps133;go_wp2_with fail;go_ret;exact⟨rfl,j.o⟩
theorem XU(I:Img)(V:ImV)(s:I.np<=1024)(w:World)(hI:ImD w I V):
  Calls prog 79 #[imA I V] w fun e w'=>e=.returned (.int .i64 (fE (fst1 I.np fun i=>rngB I.ord I.np (I.pg i))))/\Kt nO w w':=by
 obtain⟨⟨ma,mc,hm⟩,⟨pa,pc,hp⟩,⟨ra,rc,hr⟩,⟨ha,hc,hh⟩,⟨ta,tc,ht⟩,-⟩:=hI.sl;obtain⟨vm,vp,vr,vh,vt⟩:=V;dsimp only at hm hp hr hh ht;subst hm hp hr hh ht;have D:=aA (show ImAt (w.alloc (aQ I _)) w.heap.size I _ from⟨nH _ _,hI.keep ((Kt.refl _ w).alloc _)⟩);have l:=aA (show Kt nO w (w.alloc (aQ I _))from(Kt.refl _ w).alloc (aQ I ⟨.slice ma I.nm mc,.slice pa I.np pc,.slice ra I.no rc,.slice ha I.hd.length hc,.slice ta I.pt.length tc⟩));obtain⟨c0,c1,c2,c3,c4,c5,Q,c7,R⟩:=D.o.cells;obtain⟨ok,v⟩:=xe (fun i=>rngB I.ord I.np (I.pg i));rw[<-v];have a2:=aA (show ∀ i,ok i=rngB I.ord I.np (I.pg i)from fun i=>by rw[v]);have t:=aA (fun x a b W=>MJ x a b W);obtain⟨n,L⟩:=xe (I.np);have NP:=aA L;obtain⟨rr,o⟩:=xe (fE (fst1 I.np ok));rw[<-o];have a1:=aA (show ∀ a,a<n->(∀ j,j<a->ok j=true)->ok a=false->rr=(a:Int)from fun a h1 h2 h3=>by rw[o,gA (by omega) h2 h3];rfl);have N:=aA (show(∀ j,j<n->ok j=true)->rr = -1 from fun h=>by rw[o,fst1_ok (by rw[<-L];exact h)];rfl);obtain⟨z,hz⟩:∃ z:Int,z=(I.np:Int)-1:=⟨_,rfl⟩;have a9:wrap64 ((n:Int)-1)=z:=by rw[wrap64];omega
 have ZE:=aA hz;rw[<-L] at c5 s D l;rw[<-L];have a5:=aA s;clear hI v L o hz s;go_enter func79,ntmps79;go_wp2_with fail;clear c0 c1 c2 c3 c4 c5 Q c7 R;generalize w.heap.size=ib at *;generalize w.alloc (aQ I ⟨.slice ma I.nm mc,.slice pa n pc,.slice ra I.no rc,.slice ha I.hd.length hc,.slice ta I.pt.length tc⟩)=W0 at *;go_loopw [4] (fun X W=>∃ a:Nat,a<=n/\X=.int .i64 a/\Hd (Kt nO W0 W/\∀ j,j<a->ok j=true)) (fun X _=>n-(intOf X).toNat)
 case atStart=>exact⟨0,az _,rfl,aA ⟨Kt.refl _ _,fun j hj=>by omega⟩⟩
 case round=>
  obtain⟨a,Z,rfl,u⟩:=hrel;have k:=aA (D.o.keep u.o.1);by_cases m:a<n
  ·have a4:(a:Int)<n:=(by omega);obtain⟨c0,c1,c2,c3,c4,c5,Q,c7,R⟩:=k.o.cells;dsimp only at c5;obtain⟨bl,oo,oc,hv,-,K⟩:=k.o.page a (by rw[<-NP.o];exact m);injection hv with e1 e2 e3
   subst e1;clear e2 e3;obtain⟨d0,d1,d2,d3,d4,d5,d6,d7,d8,d9,a3⟩:=K.c;have a0:=aA (a2.o a);have d:=aA (a1.o a m u.o.2);have G:=aA m;generalize I.pg a=p at *;clear K m Z;go_upto_region 6 with fail;refine kP (P:=fun W=>Code.wp prog _ _ _ W) _ ?_;intro W1 hW;have k1:Kt nO wr W1:=(by subst hW;exact(Kt.refl _ wr).alloc _);have X1:W1.heap[wr.heap.size]?=some (aW p):=(by subst hW;exact nH _ _);have o1:W1.cell? ⟨ib,2,none⟩=some (.int .i64 I.ord):=(k.o.keep k1).cells.2.2.1;have q:=aA (nT u.o.1 k1);obtain⟨e0,e1,e2,e3,e4,e5,e6⟩:=GL X1;have J:=aA u.o.2;clear hW k1 X1 u c0 c1 c2 c3 c4 c5 Q c7 R d0 d1 d2 d3 d4 d5 d6 d7 d8 d9 a3 k;generalize wr.heap.size=pb at *;obtain⟨b1,F⟩:∃ b,b=wiB p.kd 0 4:=⟨_,rfl⟩;obtain⟨b2,B⟩:∃ b,b=wiB p.od 0 I.ord:=⟨_,rfl⟩;obtain⟨b3,r⟩:∃ b,b=wiB p.cl 0 7:=⟨_,rfl⟩;obtain⟨b4,A⟩:∃ b,b=wiB p.lv 0 256:=⟨_,rfl⟩;obtain⟨b5,C⟩:∃ b,b=wiB p.nx (-1) z:=⟨_,rfl⟩;obtain⟨b6,y⟩:∃ b,b=wiB p.pv (-1) z:=⟨_,rfl⟩;obtain⟨b7,E⟩:∃ b,b=wiB p.fs (-1) 255:=⟨_,rfl⟩;have f:=aA (show ok a=(b1 && (b2 && (b3 && (b4 && (b5 && (b6 && b7))))))by rw[a0.o,F,B,r,A,C,y,E,ZE.o];rfl);have T:=aA F;have a8:=aA B;have Y:=aA r;have a7:=aA A;have a6:=aA C;have S:=aA y;have U:=aA E;clear F B r A C y E;go_wp2_with fail;refine(t.o _ _ _ _).mono ?_;rintro e w1 ⟨rfl,rfl⟩;rw[<-T.o]
   cases b1 with
   | false=>
    have g:=d.o (by rw[f.o];simp);subst g;go_wp2_with fail;go_ret;exact⟨rfl,nT l.o q.o⟩
   | true=>
    go_wp2_with fail;refine(t.o _ _ _ _).mono ?_;rintro e w2 ⟨rfl,rfl⟩;rw[<-a8.o]
    cases b2 with
    | false=>
     have g:=d.o (by rw[f.o];simp);subst g;go_wp2_with fail;go_ret;exact⟨rfl,nT l.o q.o⟩
    | true=>
     go_wp2_with fail;refine(t.o _ _ _ _).mono ?_;rintro e w3 ⟨rfl,rfl⟩;rw[<-Y.o]
     cases b3 with
     | false=>
      have g:=d.o (by rw[f.o];simp);subst g;go_wp2_with fail;go_ret;exact⟨rfl,nT l.o q.o⟩
     | true=>
      go_wp2_with fail;refine(t.o _ _ _ _).mono ?_;rintro e w4 ⟨rfl,rfl⟩;rw[<-a7.o]
      cases b4 with
      | false=>
       have g:=d.o (by rw[f.o];simp);subst g;go_wp2_with fail;go_ret;exact⟨rfl,nT l.o q.o⟩
      | true=>
       go_wp2_with fail;refine(t.o _ _ _ _).mono ?_;rintro e w5 ⟨rfl,rfl⟩;rw[<-a6.o]
       cases b5 with
       | false=>
        have g:=d.o (by rw[f.o];simp);subst g;go_wp2_with fail;go_ret;exact⟨rfl,nT l.o q.o⟩
       | true=>
        go_wp2_with fail;refine(t.o _ _ _ _).mono ?_;rintro e w6 ⟨rfl,rfl⟩;rw[<-S.o]
        cases b6 with
        | false=>
         have g:=d.o (by rw[f.o];simp);subst g;go_wp2_with fail;go_ret;exact⟨rfl,nT l.o q.o⟩
        | true=>
         go_wp2_with fail;refine(t.o _ _ _ _).mono ?_;rintro e w7 ⟨rfl,rfl⟩;rw[<-U.o]
         cases b7 with
         | false=>
          have g:=d.o (by rw[f.o];simp);subst g;go_wp2_with fail;go_ret;exact⟨rfl,nT l.o q.o⟩
         | true=>
          have eo:ok a=true:=(by rw[f.o];rfl);go_wp2_with fail;have hw:wrap64 ((a:Int)+1)=((a+1:Nat):Int):=(by have:=a5.o;have:=G.o;rw[wrap64];omega);rw[hw];exact⟨⟨a+1,by have:=G.o;omega,rfl,aA ⟨q.o,fun j hj=>by
           by_cases e:j=a
           ·rw[e];exact eo
           ·exact J.o j (by omega)⟩⟩,by have:=G.o;simp only[intOf,aa];omega⟩
  ·have a4:¬(a:Int)<n:=(by omega);obtain⟨c0,c1,c2,c3,c4,c5,Q,c7,R⟩:=k.o.cells;dsimp only at c5;have g:=N.o (fun j hj=>u.o.2 j (by omega));subst g;go_wp2_with fail;go_ret;exact⟨rfl,nT l.o u.o.1⟩
end Go.Proofs.YtfmgnljlkdmndaaGreatDoor.W
namespace Go.Proofs.YtfmgnljlkdmndaaGreatDoor
open Tryz
open Go.RowKit
set_option linter.unusedVariables false
theorem zgj{w s a bS R lim n f}(h:M.SpA w s a bS R lim n f)(c : 0<n):∃ g,a=some g:=by
 obtain⟨cap,hb,b⟩:=h.ex
 cases a with
 | none=>exact absurd b.1 (by omega)
 | some g=>exact⟨g,rfl⟩
theorem BdAt.withP{W:World}{b s:Nat}{a:Option Nat}{m:Nat}{B:Bs}{l c:Nat}{L:Nat->Nat}{bS R lim n o:Nat}{P d:Nat->Option Pg}{t:Bt}(h:BdAt W ⟨b,s,a,m,B,l,c,L,bS,R,lim,n,o,P⟩ t):BdAt W ⟨b,s,a,m,B,l,c,L,bS,R,lim,n,o,d⟩ t:=
 ⟨h.sp,h.mp,h.ls,h.bs,h.lr,h.mo,h.iL,h.hR⟩
def OC(w:World)(b s m:Nat)(B:Bs)(l c:Nat)(L:Nat->Nat)(bS R lim o:Nat)(mp:Mp)(hd:Nat->Nat)(PP:Nat->Option Pg)(j:Nat)(W:World):Prop:=∃ a f,BdAt W ⟨b,s,a,m,B,l,c,L,bS,R,lim,j*R,o,PP⟩ ⟨f,mp,hd⟩/\Kt nO w W/\w.heap.size<=s/\(∀ g,a=some g->w.heap.size<=g)/\W.heap[w.heap.size]?=some (bJ bS (lim:Int) (o:Int))
theorem rL{w W W':World}{s:Nat}{a:Option Nat}(b:Kt nO w W)(hs:w.heap.size<=s)(ha:∀ g,a=some g->w.heap.size<=g)(k:Kt (M.own s a) W W'):Kt nO w W':=
 b.trans k (fun _ _ e=>e) (fun y hy e=>by
  rcases e with rfl|e
  ·omega
  ·have:=ha y e;omega)
def OpY(w:World)(bS lim o r:Nat)(mp:Mp)(gg hd:Nat->Nat)(PP:Nat->Option Pg)(e:Ending)(w':World):Prop:=∃ lw x f,e=.returned (.tuple #[.pointer (some ⟨lw,0,none⟩),.int .i64 0])/\Pol w w' lw x ⟨f,mp,hd⟩/\x.bS=bS/\x.R=4096*2 ^ o/\x.lim=lim/\x.n=r*(4096*2 ^ o)/\x.o=o/\x.P=PP/\∀ i,i<x.n->f i=gg i
theorem WZ(bS:Nat)(a5:bS<18446744073709551616)(lim o:Nat)(hl:lim<=64)(ho:o<=8)(hm:M.mayB bS (lim:Int) (o:Int)=true)(r nb np:Nat)(hr:r<=lim)(q:np=r*2 ^ o)(a6:nb=np*4096)(ba pa qa:Option Addr)(bc pc qc nq:Nat)(gg:Nat->Nat)(J:Nat->Option Pg)(g0 q0 T:Nat)(hd:List Nat)(u:∀ i,hd.getD i 0<18446744073709551616)(hN:hd.length=o+1)(mp:Mp)(a1:mp.o=o)(w:World)(a4:M.Bytes w (.slice ba nb bc) nb gg)(hh:nD w g0 q0 hd)
  (Q:∀ W,Kt nO w W->Calls prog 97 #[.int .i64 o,.slice pa np pc,.slice qa nq qc] W fun e t=>∃ b,e=.returned (.tuple #[.pointer (some ⟨b,0,none⟩),.int .i64 0])/\Hd (∃ B',MpA t b B' mp/\(∀ x,aO b B' o x->W.heap.size<=x)/\Kt nO W t)):
  Calls prog 49 #[dM bS (lim:Int) (o:Int),.int .i64 r,.slice ba nb bc,.slice pa np pc,.slice qa nq qc,.slice (some ⟨g0,q0,none⟩) (o+1) T] w fun e t=>OpY w bS lim o r mp gg (fun i=>hd.getD i 0) J e t:=by
 have K3:=aA ((Kt.refl nO w).alloc (bJ bS (lim:Int) (o:Int)));have X3:=aA (nH w (bJ bS (lim:Int) (o:Int)));have NW:=aA (fun W=>M.New_ok bS a5 (lim:Int) (o:Int) (by omega) (by omega) (by omega) (by omega) hm (fun _=>0) W);have a0:=aA Q;have b5:=aA a4;have HH:=aA hh;have HN:=aA hN;have a8:=aA u;have b1:=aA a1;have a2 : 2 ^ o<=2 ^ 8:=bj (by decide) ho;have b6:np<=16384:=by rw[q];exact an (Nat.mul_le_mul (show r<=64 by omega) a2) (by decide)
 have S:(r:Int)*2 ^ o=(np:Int):=by rw[q];simp
 have a7:IntKind.i64.wrap ((r:Int)*2 ^ o)=(np:Int):=by rw[S,IntKind.wrap_i64];omega
 have c1:(0:Int)<=(o:Int):=by omega
 have c0:¬(o:Int)<0:=by omega
 have b2:¬(lim:Int)<r:=by omega
 have K:(np:Int)*4096=(nb:Int):=by omega
 have b7:(np:Int)<=16384:=by omega
 have a3:=aA (show nb=r*(4096*2 ^ o)by rw[a6,q,cx,aq (2 ^ o) 4096]);clear hm Q a4 hh hN u S a2 b6 q a6 a1;go_enter func49,ntmps49;obtain⟨E,I,A⟩:=dI X3.o;go_wp2_with fail;generalize w.alloc (bJ bS (lim:Int) (o:Int))=W3 at *;refine(NW.o _).mono ?_;rintro e w4 ⟨s,rfl,hS,Z,hs⟩;have d:Kt nO W3 w4:=dF Z;have S4:=aA (show M.SpA w4 s none bS (M.RS o) lim 0 (fun _=>0)from by simpa using hS);have b0:=aA (show w.heap.size<=s from an K3.o.size hs);have X4:=aA ((d.block _ (lH X3.o) (fun x=>x)).trans X3.o);have K4:=aA (nT K3.o d);clear E I A d Z hS hs X3 K3 NW;obtain⟨E,I,A⟩:=dI X4.o;go_wp2_with fail;clear a7 b2 K;refine(a0.o _ K4.o).mono ?_;rintro e w5 ⟨m,rfl,hM⟩;obtain⟨B,U,Y,d⟩:=hM.o;have M5:=aA U;have b3:=aA (show ∀ y,aO m B o y->w.heap.size<=y from fun y hy=>an K4.o.size (Y y hy));have K5:=aA (nT K4.o d);have X5:=aA ((d.block _ (lH X4.o) (fun x=>x)).trans X4.o);have S5:=aA (S4.o.keep (fL d));clear d E I A a0 S4 X4 hM U Y;obtain⟨E,I,A⟩:=dI X5.o;have OB:=aA (UO bS s m o (lim:Int) ho hd HN.o a8.o g0 q0 T w5 (HH.o.keep K5.o));go_wp2_with fail;refine OB.o.mono ?_;rintro e w6 ⟨b,rfl,hO⟩;have k6:Kt nO w5 w6:=by obtain⟨_,_,_,h,_⟩:=hO;exact h.kp
 obtain⟨l,c,L,v,p,F,h3,h4⟩:=hO.bd rfl (S5.o.keep (fL k6)) (M5.o.keep k6) b1.o rfl;have hz:=K5.o.size;have S6:=aA (show OC w b s m B l c L bS (4096*2 ^ o) lim o mp (fun i=>hd.getD i 0) J 0 w6 from⟨none,_,by rw[Nat.zero_mul];exact v.withP,nT K5.o k6,b0.o,(fun g e=>by cases e),(k6.block _ (lH X5.o) (fun x=>x)).trans X5.o⟩);have C:=aA (show w.heap.size<=b/\w.heap.size<=l/\∀ k,k<=o->w.heap.size<=L k from⟨an hz p,an hz F,fun k d=>an hz (h3 k d)⟩);clear E I A OB S5 hO k6 v p F h3 h4 hz X5 M5 K5;go_wp2_with fail;go_loopw [74] (fun i W'=>∃ j:Nat,j<=r/\i=.int .i64 j/\Hd (OC w b s m B l c L bS (4096*2 ^ o) lim o mp (fun i=>hd.getD i 0) J j W')) (fun i _=>r-(intOf i).toNat)
 case atStart=>exact⟨0,az _,rfl,S6⟩
 case round=>
  clear S6;obtain⟨j,hj,rfl,hI⟩:=hrel;obtain⟨a,f,p,F,h3,h4,h5⟩:=hI.o;have G:=aA p;have X:=aA F;have A3:=aA h3;have A4:=aA h4;have A5:=aA h5;clear hI p F h3 h4 h5;by_cases b9:j<r
  ·have b4:(j:Int)<r:=(by omega);have CM:=aA (M.Commit_ok s a bS (4096*2 ^ o) lim (j*(4096*2 ^ o)) f wr G.o.sp ⟨j,rfl,by omega⟩);go_wp2_with fail;refine CM.o.mono ?_;rintro e w7 ⟨rfl,g',hS,d,hg⟩;have D:=aA (show OC w b s m B l c L bS (4096*2 ^ o) lim o mp (fun i=>hd.getD i 0) J (j+1) w7 from by
    have hz:=X.o.size;have v:=G.o.space (dF d) (a':=some g') (n':=j*(4096*2 ^ o)+4096*2 ^ o) hS;refine⟨some g',_,by rw[av,aL];exact v,rL X.o A3.o A4.o (dF d),A3.o,fun g e=>?_,?_⟩
    ·cases e
     rcases hg with e|e
     ·exact A4.o g' e
     ·omega
    ·refine((dF d).block _ (lH A5.o) (fun e=>?_)).trans A5.o;obtain⟨cs,t',z,p,F⟩:=mO G.o.sp e;rw[A5.o] at p
     cases p
     rcases F with e2|e2 <;> exact absurd e2 (by decide))
   clear hS d hg CM;go_wp2_with fail;exact⟨⟨j+1,by omega,by simp,D⟩,by simp[intOf];omega⟩
  ·obtain rfl:j=r:=(by omega);have b4:¬(j:Int)<j:=(by omega);obtain⟨E,I,A⟩:=dI A5.o;have WR:=aA (show Calls prog 69 #[.pointer (some ⟨s,0,none⟩),.int .u64 bS,.slice ba nb bc] wr fun e t=>e=.returned (.int .i64 0)/\Kt nO w t/\∃ f',BdAt t ⟨b,s,a,m,B,l,c,L,bS,4096*2 ^ o,lim,j*(4096*2 ^ o),o,J⟩ ⟨f',mp,fun i=>hd.getD i 0⟩/\∀ i,i<nb->f' i=gg i from by
    rcases Nat.eq_zero_or_pos nb with h0|h0
    ·rw[h0];refine(M.Write_zero s (bS:Int) ba bc wr).mono ?_;rintro e t ⟨rfl,d⟩;exact⟨rfl,nT X.o (dF d),f,G.o.keep (dF d),fun i hi=>by omega⟩
    ·have b8:=a3.o;obtain⟨g,hg⟩:=zgj G.o.sp (show 0<j*(4096*2 ^ o)by omega);have p:M.SpA wr s a bS (4096*2 ^ o) lim (j*(4096*2 ^ o)) f:=G.o.sp;have hg:a=some g:=hg;rw[hg] at p;refine(M.Write_in s g bS (4096*2 ^ o) lim (j*(4096*2 ^ o)) f bS nb _ gg wr p h0 ⟨aj _,by omega⟩ (b5.o.kept (fL X.o) (fun _ _ e=>e))).mono ?_;rintro e t ⟨rfl,V,d⟩;rw[<-hg] at V d;refine⟨rfl,rL X.o A3.o A4.o (dF d),_,G.o.space (dF d) V,fun i hi=>?_⟩;unfold M.upd;rw[ae (by omega)];congr 1
     omega)
   go_wp2_with fail;refine WR.o.mono ?_;rintro e w8 ⟨rfl,d,f',v,N⟩;have D:=aA (show ∃ x:Bx,Pol w (w8.alloc (rK x)) w8.heap.size x ⟨f',mp,fun i=>hd.getD i 0⟩/\x.bS=bS/\x.R=4096*2 ^ o/\x.lim=lim/\x.n=j*(4096*2 ^ o)/\x.o=o/\x.P=J/\x.s=s/\x.m=m/\x.b=b from by
    refine⟨_,⟨nH _ _,v.keep ((Kt.refl nO w8).alloc _),?_,d.alloc _⟩,rfl,rfl,rfl,rfl,rfl,rfl,rfl,rfl,rfl⟩;rintro y (hy|rfl|rfl|rfl)
    ·rcases hy with hy|hy|⟨k,d,rfl⟩
     ·rcases hy with rfl|hy
      ·exact A3.o
      ·exact A4.o y hy
     ·exact b3.o y hy
     ·exact C.o.2.2 k d
    ·exact C.o.1
    ·exact C.o.2.1
    ·exact d.size)
   have a9:=aA N;clear d WR E I A v N;go_wp2_with fail;obtain⟨x,hL,e1,e2,e3,e4,e5,eP,e6,e7,e8⟩:=D.o;refine⟨rfl,.tuple #[.pointer (some ⟨w8.heap.size,0,none⟩),.int .i64 0],by simp[results,results49,go_sem],_,x,f',rfl,?_,e1,e2,e3,e4,e5,eP,fun i hi=>a9.o i (by rw[a3.o,<-e4];exact hi)⟩;rw[rK,e6,e7,e8] at hL;exact hL
end Go.Proofs.YtfmgnljlkdmndaaGreatDoor
namespace Go.Proofs.YtfmgnljlkdmndaaGreatDoor.W
open Tryz
open Go.RowKit
set_option linter.unusedVariables false
def Gd9(I:Img)(g:Nat):Prop:=((I.pg g).kd=1\/(I.pg g).kd=3)\/(hdOk (I.pg g) g=true/\∀ i,i<2 ^ (I.pg g).od.toNat-1->rsOk (I.pg g) (I.pg (g+1+i))=true)
theorem QK{p q:Pg}(h:rsOk p q=true):q.kd=p.kd+1:=by have:q=aU (p.kd+1) p.od:=bw h;rw[this];rfl
theorem zM{p:Pg}{a:Nat}(h:hdOk p a=true):(p.kd=4/\p.od=0)\/((p.kd=0\/p.kd=2)/\a%2 ^ p.od.toNat=0):=by
 unfold hdOk at h;split at h
 ·rename_i e;exact .inl ⟨e,by simpa using h⟩
 ·split at h
  ·rename_i e;simp only[bu,bW] at h;exact .inr ⟨e,h.1⟩
  ·cases h
theorem CU{I:Img} : ∀ n a,r4F I n a=none->I.np<=a+n->∀ g,a<=g->g<I.np->Gd9 I g
 | 0,a,_,l,g,k,c=>absurd c (by omega)
 | n+1,a,h,l,g,k,c=>by
  unfold r4F at h;rw[ac (by omega)] at h;by_cases b:hdOk (I.pg a) a=false
  ·rw[ae b] at h;cases h
  rw[ac b] at h;have b:hdOk (I.pg a) a=true:=by simpa using b
  cases e:fst1 (2 ^ (I.pg a).od.toNat-1) (fun i=>rsOk (I.pg a) (I.pg (a+1+i)))with
  | some i=>rw[e] at h;cases h
  | none=>
   rw[e] at h;have d:=fst1_none e;have hp : 0<2 ^ (I.pg a).od.toNat:=ax _;by_cases m:g=a
   ·subst m;exact .inr ⟨b,d⟩
   ·by_cases f:g<a+2 ^ (I.pg a).od.toNat
    ·left
     obtain⟨i,rfl⟩:∃ i,g=a+1+i:=⟨g-(a+1),by omega⟩;have:=QK (d i (by omega));rcases zM b with ⟨_,p⟩|⟨j|j,_⟩
     ·exfalso
      have o:(I.pg a).od.toNat=0:=(by omega);rw[o] at f;omega
     ·left;omega
     ·right;omega
    ·exact CU n _ h (by omega) g (by omega) c
structure BOk(I:Img)(k:Nat)(x:Nat×Nat):Prop where
 s16 : 16<=x.2
 sR:x.2<=4096*2 ^ k
 pw:∃ e,e<=20/\x.2=2 ^ e
 al:x.1%x.2=0
 lo:I.bS<=x.1
 hi:x.1-I.bS+x.2<=I.nm
theorem vQ{bS g sz:Nat}{ws:List Nat}{x:Nat×Nat} : ∀ {j:Nat},x∈ceB bS g sz ws j->∃ i,i<j/\x=(bS+g*4096+i*sz,sz)
 | 0,h=>by simp[ceB] at h
 | j+1,h=>by
  unfold ceB at h;split at h
  ·rcases List.mem_append.1 h with h|h
   ·obtain⟨i,b,a⟩:=vQ h;exact⟨i,by omega,a⟩
   ·exact⟨j,by omega,by simpa using h⟩
  ·obtain⟨i,b,a⟩:=vQ h;exact⟨i,by omega,a⟩
theorem WN{bS g q c i:Nat}(hb:bS=4096*q)(hc:c<=7)(hi:i<celN9 c) : 16<=16*2 ^ c/\16*2 ^ c<=4096/\16*2 ^ c=2 ^ (4+c)/\(bS+g*4096+i*(16*2 ^ c))%(16*2 ^ c)=0/\i*(16*2 ^ c)+16*2 ^ c<=4096:=by
 subst hb;unfold celN9 at hi;have:c=0\/c=1\/c=2\/c=3\/c=4\/c=5\/c=6\/c=7:=by omega
 rcases this with rfl|rfl|rfl|rfl|rfl|rfl|rfl|rfl <;> simp at hi ⊢ <;> omega
theorem ON{I:Img}{k r:Nat}(hS:Sn9 I k r)(B:r4 I=none){g:Nat}(hg:g<I.np){x:Nat×Nat}(hx:x∈pgB I g):
  BOk I k x/\I.bS+g*4096<=x.1/\x.1<I.bS+(g+1)*4096/\((I.pg g).kd=2\/(I.pg g).kd=4)/\((I.pg g).kd=4->x.1+x.2<=I.bS+(g+1)*4096)/\((I.pg g).kd=2->x.1+x.2=I.bS+g*4096+4096*2 ^ (I.pg g).od.toNat):=by
 obtain⟨kd,o,c,l,Q,T,R,t,S,z,-⟩:=hS.pg g hg;have f:=CU _ _ B (by omega) g (by omega) hg;have d:=hS.bm;unfold M.RS at d;have s : 0<2 ^ k:=ax k;obtain⟨q,hq⟩:∃ q,I.bS=4096*q:=by have : 4096 ∣ I.bS:=Nat.dvd_trans ⟨2 ^ k,rfl⟩ (cz d);exact this
 have F:=hS.nm;unfold pgB at hx;split at hx
 ·rename_i b;have p:(I.pg g).od.toNat=o:=by omega
  rw[p] at hx ⊢;obtain rfl:x=(I.bS+g*4096,4096*2 ^ o):=by simpa using hx
  rcases f with f|⟨K,_⟩
  ·omega
  rcases zM K with ⟨h,_⟩|⟨_,e⟩
  ·omega
  rw[p] at e;have ok : 2 ^ o ∣ 2 ^ k:=Nat.pow_dvd_pow 2 t;have G : 0<2 ^ o:=ax o;have D : 4096*2 ^ o ∣ I.bS:=Nat.dvd_trans (Nat.mul_dvd_mul_left _ ok) (cz d);have n : 2 ^ o ∣ g:=cz e;have N : 2 ^ o ∣ I.np:=by rw[hS.np];exact Nat.dvd_trans ok ⟨r,aq _ _⟩
  have dX:g+2 ^ o<=I.np:=by
   obtain⟨u,L⟩:=n;obtain⟨v,E⟩:=N;have m:u<v:=by refine Nat.lt_of_mul_lt_mul_left (a:=2 ^ o) ?_;rw[<-L,<-E];exact hg
   have:=Nat.mul_le_mul_left (2 ^ o) (Nat.succ_le_of_lt m);rw[Nat.mul_succ] at this;omega
  have le : 2 ^ o<=2 ^ k:=Nat.le_of_dvd s ok;refine⟨⟨by show 16<=4096*2 ^ o;omega,by show 4096*2 ^ o<=_;omega,⟨12+o,by have:=hS.k8;omega,by show 4096*2 ^ o=_;rw[Nat.pow_add]⟩,?_,by show I.bS<=I.bS+g*4096;omega,by show I.bS+g*4096-I.bS+4096*2 ^ o<=I.nm;omega⟩,by show _<=I.bS+g*4096;omega,by show I.bS+g*4096<_;omega,.inl b,fun h=>by omega,fun _=>rfl⟩;refine Nat.mod_eq_zero_of_dvd (Nat.dvd_add D ?_);rw[aq g];exact Nat.mul_dvd_mul_left _ n
 ·rename_i b;split at hx
  ·rename_i j;have y:(I.pg g).cl.toNat=c:=(by omega);rw[y] at hx;obtain⟨i,hi,rfl⟩:=vQ hx;obtain⟨w,P,C,J,U⟩:=WN (g:=g) hq z hi;generalize hz : 16*2 ^ c=sz at *;have A : 4096<=4096*2 ^ k:=Nat.le_mul_of_pos_right _ s;refine⟨⟨w,by show sz<=_;omega,⟨4+c,by omega,C⟩,J,by show I.bS<=I.bS+g*4096+i*sz;omega,?_⟩,by show _<=I.bS+g*4096+i*sz;omega,by show I.bS+g*4096+i*sz<_;omega,.inr j,fun _=>by show I.bS+g*4096+i*sz+sz<=_;omega,fun h=>absurd h b⟩;show I.bS+g*4096+i*sz-I.bS+sz<=I.nm
   omega
  ·simp at hx
theorem CT{I:Img}{x:Nat×Nat} : ∀ {j:Nat},x∈bkL I j->∃ g,g<j/\x∈pgB I g
 | 0,h=>by simp[bkL] at h
 | j+1,h=>by
  rcases List.mem_append.1 h with h|h
  ·obtain⟨g,b,a⟩:=CT h;exact⟨g,by omega,a⟩
  ·exact⟨j,by omega,h⟩
theorem blks_ok{I:Img}{x:Nat×Nat}(hx:x∈blks I):(∃ r,Sn9 I I.ord.toNat r)/\BOk I I.ord.toNat x:=by
 unfold blks at hx;split at hx
 ·rename_i h;obtain⟨r,hS⟩:=sn9_chk h;obtain⟨g,a,b⟩:=CT hx;exact⟨⟨r,hS⟩,(ON hS (chk_zero h 3 (by decide)) a b).1⟩
 ·simp at hx
theorem WB(I:Img)(V:ImV)(k r:Nat)(hS:Sn9 I k r)(p:Nat)(w:World)(A:ImD w I V):
  Calls prog 134 #[imA I V,.int .u64 p] w fun e w'=>e=.returned (.int .i64 (iA (decP I p)))/\Kt nO w w':=by
 obtain⟨⟨ma,R,L⟩,⟨S,Y,hp⟩,⟨P,Q,T⟩,⟨ha,hc,X⟩,⟨Z,E,J⟩,-⟩:=A.sl;obtain⟨vm,vp,vr,vh,vt⟩:=V;dsimp only at L hp T X J;subst L hp T X J;have t:=aA (show ImAt (w.alloc (aQ I _)) w.heap.size I _ from⟨nH _ _,A.keep ((Kt.refl _ w).alloc _)⟩);have F:=aA (show Kt nO w (w.alloc (aQ I _))from(Kt.refl _ w).alloc (aQ I ⟨.slice ma I.nm R,.slice S I.np Y,.slice P I.no Q,.slice ha I.hd.length hc,.slice Z I.pt.length E⟩));obtain⟨c0,c1,c2,c3,c4,c5,G,c7,U⟩:=t.o.cells;have g:=aA hS.np1;have s:=aA hS.be;have o:=aA hS.nm;obtain⟨D,d⟩:=xe (iA (decP I p));rw[<-d];have z:=aA (show ∀ a,a<I.np->p=I.bS+4096*a->D=(a:Int)from fun a h1 h2=>by
  have:=hS.nm;rw[d];unfold decP;rw[ae ⟨by omega,by omega,by omega⟩];show(((p-I.bS)/4096:Nat):Int)=_
  omega)
 have n:=aA (show(∀ a,a<I.np->¬p=I.bS+4096*a)->D = -1 from fun h=>by have:=hS.nm;rw[d];unfold decP;rw[ac (fun hc=>h ((p-I.bS)/4096) (by omega) (by omega))];rfl)
 clear A d hS;go_enter func134,ntmps134;go_wp2_with fail;clear c0 c1 c2 c3 c4 c5 G c7 U;generalize w.heap.size=ib at *;generalize w.alloc (aQ I ⟨.slice ma I.nm R,.slice S I.np Y,.slice P I.no Q,.slice ha I.hd.length hc,.slice Z I.pt.length E⟩)=W0 at *;go_loopw [5] (fun v W=>∃ a:Nat,a<=I.np/\v=.int .i64 a/\Hd (Kt nO W0 W/\∀ j,j<a->¬p=I.bS+4096*j)) (fun v _=>I.np-(intOf v).toNat)
 case atStart=>exact⟨0,az _,rfl,aA ⟨Kt.refl _ _,fun j N=>by omega⟩⟩
 case round=>
  obtain⟨a,y,rfl,l⟩:=hrel;have x:=aA (t.o.keep l.o.1);obtain⟨c0,c1,c2,c3,c4,c5,G,c7,U⟩:=x.o.cells;dsimp only at c5;by_cases f:a<I.np
  ·have B:(a:Int)<I.np:=(by omega);obtain⟨bS,c⟩:∃ b,b=I.bS:=⟨_,rfl⟩;rw[<-c] at c0;obtain⟨q,hq⟩:=xe (bS+4096*a);have g1:IntKind.u64.wrap (a:Int)=a:=(by have:=g.o;rw[wrap_u64];omega);have g2:IntKind.u64.wrap (4096*(a:Int))=4096*(a:Int):=(by have:=g.o;rw[wrap_u64];omega);have g3:IntKind.u64.wrap ((bS:Int)+4096*(a:Int))=(q:Int):=(by have:=s.o;have:=o.o;rw[wrap_u64];omega);have g4:(bS:Int)+4096*(a:Int)=q:=(by omega);have g5:IntKind.u64.wrap (q:Int)=q:=(by have:=s.o;have:=o.o;rw[wrap_u64];omega);have u:=aA (show p=q->D=(a:Int)from fun h=>z.o a f (by rw[h,hq,c]));have m:=aA (show ¬p=q->∀ j,j<a+1->¬p=I.bS+4096*j from fun h j N=>by
    by_cases e:j=a
    ·rw[e,<-c,<-hq];exact h
    ·exact l.o.2 j (by omega))
   have K:=aA l.o.1;have i:=aA f;clear c hq f y l;by_cases h:p=q
   ·have C:=u.o h;subst C;have q1:((p:Int) == (q:Int))=true:=(by rw[co];omega);have q2:(p == q)=true:=(by rw[co];exact h);clear h;go_wp2_with fail;go_ret;exact⟨rfl,nT F.o (nT K.o (Kt.refl nO wr))⟩
   ·have q1:((p:Int) == (q:Int))=false:=(by rw[ag];omega);have q2:(p == q)=false:=(by rw[ag];exact h);have N1:=aA (m.o h);clear h;go_wp2_with fail;have hw:wrap64 ((a:Int)+1)=((a+1:Nat):Int):=(by have:=g.o;have:=i.o;rw[wrap64];omega);rw[hw];exact⟨⟨a+1,by have:=i.o;omega,rfl,aA ⟨nT K.o (Kt.refl nO wr),N1.o⟩⟩,by have:=i.o;simp only[intOf,aa];omega⟩
  ·have B:¬(a:Int)<I.np:=(by omega);have C:=n.o (fun j N=>l.o.2 j (by omega));subst C;go_wp2_with fail;go_ret;exact⟨rfl,nT F.o l.o.1⟩
end Go.Proofs.YtfmgnljlkdmndaaGreatDoor.W
