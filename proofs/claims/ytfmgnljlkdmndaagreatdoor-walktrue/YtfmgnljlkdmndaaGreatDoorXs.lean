import Derived.Test.YtfmgnljlkdmndaaGreatDoorXr
set_option maxRecDepth 1000000
set_option maxHeartbeats 80000000
namespace Go.Proofs.YtfmgnljlkdmndaaGreatDoor.W
open Tryz
open Go.RowKit
set_option linter.unusedVariables false
theorem wT{x:Nat}(h:x<=100000):wrap64 (x:Int)=x:=by unfold wrap64;omega
theorem QC{t s lo:Nat}(h:lo=t*2 ^ s)(hl:lo<=100000):wrap64 ((t:Int)*2 ^ s)=(lo:Int):=by
 have e:((2:Int) ^ s)=((2 ^ s:Nat):Int):=by simp
 have a:(t:Int)*((2 ^ s:Nat):Int)=(lo:Int):=by rw[h];simp
 rw[e,a];exact wT hl
def onF(I:Img)(j i:Nat):Bool:=isF (I.pg (i*2 ^ (j+1))) (j:Int) != isF (I.pg (i*2 ^ (j+1)+2 ^ j)) (j:Int)
def r7k(I:Img)(j:Nat):Option Nat:=
 match fst1 (I.np/2 ^ (j+1)) (fun i=>aE (I.pr j) i == onF I j i)with
 | some i=>some (i*2 ^ (j+1))
 | none=>if bI (64*(I.pr j).length) (I.pr j) (I.np/2 ^ (j+1)) = -1 then none else some I.np
def r7(I:Img):Option Nat:=fstO I.no (r7k I)
theorem UT(zs:List Nat)(h : 64*zs.length<=1048576):dX ((64*zs.length:Nat):Int)=64*zs.length/\dA zs (64*zs.length)=zs:=by
 constructor
 ·unfold dX;split <;> (try split) <;> omega
 ·unfold dA kE;rw[ae (by omega)];exact JH zs _ (by simp[eW];omega)
theorem half_lt{np j i:Nat}(h:i<np/2 ^ (j+1)):i*2 ^ (j+1)+2 ^ j<np:=by
 have a:(i+1)*2 ^ (j+1)<=np:=by have:i+1<=np/2 ^ (j+1):=h;exact an (ak _ this) (Nat.div_mul_le_self _ _)
 rw[av,aL,ci] at a;rw[ci];have:=ax j;omega
structure SbI(w W:World)(b sb sc:Nat)(I:Img)(V:ImV)(n:Nat)(ws:List Nat):Prop where
 im:ImAt W b I V
 st:SetAt W sb sc n ws
 k:Kt nO w W
theorem SbI.keep{w W W':World}{b c sc:Nat}{I:Img}{V:ImV}{n:Nat}{ws:List Nat}(h:SbI w W b c sc I V n ws)(a:Kt nO W W'):SbI w W' b c sc I V n ws:=
 ⟨h.im.keep a,h.st.kept a (fun x=>x) (fun x=>x),nT h.k a⟩
theorem zfM(b:Nat)(I:Img)(V:ImV)(k r:Nat)(hS:Sn9 I k r)(w:World)(hI:ImAt w b I V):
  Calls prog 143 #[.pointer (some ⟨b,0,none⟩)] w fun e w'=>e=bG (r7 I)/\Kt nO w w':=by
 obtain⟨-,⟨pa,pc,hp⟩,⟨ra,rc,hr⟩,-,-,-,bp,br,-⟩:=hI.d.sl;obtain⟨c0,c1,c2,c3,c4,c5,G,c7,c8⟩:=hI.cells;rw[hr] at G;obtain⟨EE,a7⟩:=xe (bG (r7 I));rw[<-a7];have HE:=aA a7;have HI:=aA hI;have HS:=aA hS;have SP:=aA hp;have SR:=aA hr;have e8:=hS.np1;have h0:=hS.k8;rw[hS.no] at G br;have f9:=aA (fun (j:Nat) (hj:j<=8) (W:World) (hW:ImAt W b I V)=>LD b I V j W hW hj bp);obtain⟨n,hn⟩:=xe (I.np);rw[<-hn] at e8;have HN:=aA hn;clear a7 hI hp hr hS hn bp;go_enter func143,ntmps143;go_wp2_with fail;go_loopw [15] (fun i W=>∃ a:Nat,a<=k/\i=.int .i64 a/\Hd (Kt nO w W/\∀ x,x<a->r7k I x=none)) (fun i _=>k-(intOf i).toNat)
 case atStart=>exact⟨0,az _,rfl,aA ⟨Kt.refl _ _,fun x hx=>by omega⟩⟩
 case round=>
  clear c0 c1 c2 c3 c4 c5 G c7 c8;obtain⟨a,ha,rfl,hR⟩:=hrel;have A0:=aA (HI.o.keep hR.o.1);by_cases e0:a<k
  ·have e7:(a:Int)<k:=(by omega);have A:a<I.no:=(by rw[HS.o.no];exact e0);have F:a<=8:=(by omega);obtain⟨ws,_,h9,h7,b4,b1⟩:=A0.o.d.prs;rw[SR.o] at b4;injection b4 with e1 e2 e3
   subst e1;rcases b1 with b1|⟨bl,o,rfl,_,a1⟩
   ·omega
   obtain⟨Y,a9⟩:=a1 a A;obtain⟨hz,za,zc,b8,_⟩:=a9;have D:=aA (a1 a A).2;have FB:=aA (show ∀ p,r7k I a=some p->cG (p:Int)=EE from fun p h=>by rw[HE.o,r7,FK A hR.o.2 h];rfl);have GA:=aA (show r7k I a=none->∀ x,x<a+1->r7k I x=none from fun h x hx=>by
    by_cases e:x=a
    ·rw[e];exact h
    ·exact hR.o.2 x (by omega))
   have RK:=aA (show r7k I a=(match fst1 (I.np/2 ^ (a+1)) (fun i=>aE (I.pr a) i == onF I a i)with|some i=>some (i*2 ^ (a+1))|none=>if bI (64*(I.pr a).length) (I.pr a) (I.np/2 ^ (a+1)) = -1 then none else some I.np)from rfl);have R:=HS.o.pl a e0;rw[b8] at Y D;generalize r7k I a=rk at *;obtain⟨zs,a4⟩:=xe (I.pr a);rw[<-a4] at D RK Y R;have h3:=aA a4;obtain⟨pn,m⟩:=xe (I.np/2 ^ (a+1));have g1:pn<=1024:=(by rw[m];exact an (df _ _) HS.o.np1);have e9:zs.length<=17:=(by rw[R];unfold fD;rw[<-m];omega);have f8:pn<=64*zs.length:=(by rw[R];unfold fD;rw[<-m];omega);rw[<-m] at RK;have b6:=aA m;obtain⟨u,a2⟩:=xe (64*zs.length);have a6:=aA (UT zs (by omega));have b2:(zs.length:Int)*64=(u:Int):=(by omega);obtain⟨zl,y⟩:=xe (zs.length);rw[<-y] at b2 e9 Y D;rw[<-a2] at a6 RK f8;have f0:=aA y;have g9:=aA a2;have g6:=aA (rZ F (rfl : 2 ^ a=2 ^ a));have g0:=aA (show a+1<=9 by omega);clear a1 hz b8 m a4 a2 y e2 e3 R;go_wp2_with fail;refine(pP (.slice za zl zc) zs (u:Int) (by omega) (by omega) wr (by have:=f0.o;subst this;exact D.o)).mono ?_;rintro e w1 ⟨rfl,z,hk,f5⟩;rw[a6.o.1,a6.o.2] at z;have SB:=aA (show SbI w w1 b (wr.heap.size+1) wr.heap.size I V u zs from⟨A0.o.keep hk,z,nT hR.o.1 hk⟩);generalize wr.heap.size+1=sb at *;generalize wr.heap.size=sc at *;have PO:=aA (f9.o a F w1 SB.o.im);rw[<-b6.o] at PO;clear z hk f5 Y D;go_wp2_with fail;refine PO.o.mono ?_;rintro e w2 ⟨rfl,rfl⟩;clear PO;go_wp2_with fail;obtain⟨s,hs⟩:=xe (a+1);obtain⟨P,hP⟩:=xe (2 ^ a);have Q:=M.pow8 a F;rw[<-hP] at Q;have g2:=Q.1;have g4:=Q.2;have l:=aA (show P=2 ^ a/\s=a+1 from⟨hP,hs⟩);clear hP hs Q;go_loopw [29] (fun i W=>∃ t:Nat,t<=pn/\i=.int .i64 t/\Hd (SbI w W b sb sc I V u zs/\∀ x,x<t->(aE zs x == onF I a x)=true)) (fun i _=>pn-(intOf i).toNat)
   case atStart=>exact⟨0,az _,rfl,aA ⟨SB.o,fun x hx=>by omega⟩⟩
   case round=>
    clear SB;obtain⟨t,ht,rfl,c⟩:=hrel;by_cases b0:t<pn
    ·have e6:(t:Int)<pn:=(by omega);obtain⟨lo,q⟩:=xe (t*2 ^ (a+1));obtain⟨U,N⟩:=xe (lo+P);have a0:U<I.np:=by
      have:=half_lt (j:=a) (by rw[<-b6.o];exact b0:t<I.np/2 ^ (a+1));rw[N,q,l.o.1];exact this
     have B:lo<I.np:=(by omega);have g8:(lo:Int)<n:=(by rw[HN.o];omega);have h8:(U:Int)<n:=(by rw[HN.o];omega);have LO:=aA q;have UP:=aA N;have g:=aA (show onF I a t=(isF (I.pg lo) (a:Int) != isF (I.pg U) (a:Int))by unfold onF;rw[<-q,<-l.o.1,<-N]);have g5:lo<=1024:=(by have:=HS.o.np1;omega);have e4:(lo:Int)+(P:Int)=U:=(by omega);have h5:(a:Int)+1=(s:Int):=(by have:=l.o.2;omega);have g7:s<=9:=(by have:=l.o.2;omega);have f7:P<=100000:=(by omega);have b3:U<=100000:=(by have:=HS.o.np1;omega);have c9:lo<=100000:=(by omega);have T:=aA (show wrap64 ((t:Int)*2 ^ s)=(lo:Int)/\wrap64 ((1:Int)*2 ^ a)=(P:Int)/\((2:Int) ^ a)=(P:Int)/\wrap64 (P:Int)=P/\wrap64 ((lo:Int)+(P:Int))=(U:Int)from⟨QC (by rw[q,l.o.2]) c9,(rZ F l.o.1).1,(rZ F l.o.1).2.1,wT f7,by rw[e4];exact wT b3⟩);have K:=aA (show(aE zs t == onF I a t)=false->cG (lo:Int)=EE from fun h=>FB.o lo (by rw[RK.o,gA b0 c.o.2 h];exact congrArg some q.symm))
     have X:=aA (show(aE zs t == onF I a t)=true->∀ x,x<t+1->(aE zs x == onF I a x)=true from fun h x hx=>by
      by_cases e:x=t
      ·rw[e];exact h
      ·exact c.o.2 x (by omega))
     obtain⟨c0,c1,c2,c3,c4,c5,G,c7,c8⟩:=c.o.1.im.all;rw[SP.o,<-HN.o] at c5;have f6:∃ a5 o',pa=some ⟨a5,o',none⟩:=by
      obtain⟨a5,o',h4,b9,_⟩:=c.o.1.im.page lo B;rw[SP.o] at b9;injection b9 with e1
      exact⟨a5,o',e1⟩
     obtain⟨pb,po,rfl⟩:=f6;obtain⟨Y,d1,d2,d3,d4,d5,d6,d7,d8,d9,J⟩:=iP (c.o.1.im.pageK SP.o lo B);obtain⟨v0,v1,v2,v3,v4,v5,v6,v7,v8,v9,v10⟩:=iP (c.o.1.im.pageK SP.o U a0);have S:=aA (fun W=>qP (I.pg lo) (a:Int) W);have L:=aA (fun W=>qP (I.pg U) (a:Int) W);generalize isF (I.pg lo) (a:Int)=f1 at *;generalize isF (I.pg U) (a:Int)=f2 at *;have C:=aA (fun (x:KW wr)=>nL sb sc u zs (t:Int) x.v (c.o.1.keep x.k).st);have b5:cT u zs (t:Int)=aE zs t:=by unfold cT aD;rw[af (by omega),aa,bf]
     rw[b5] at C;generalize aE zs t=bv at *;generalize onF I a t=ov at *;clear q N b5 a0 B;clear e4;go_wp2_with fail;simp only[T.o.1,T.o.2.2.1,T.o.2.2.2.1,T.o.2.2.2.2]
     cases f1
     ·cases f2
      ·skip
       refine cS (by kernel_rfl) (by kernel_rfl) ?_;repeat (go_big_quiet_step (first|(go_at_call 191;first|(with_reducible exact Calls.kept_of (S.o _))|(with_reducible exact Calls.kept_of (L.o _)))))
       refine wpQuiet_nil ?_;intro x;clear c0 c1 c2 c3 c4 c5 G c7 c8 Y d1 d2 d3 d4 d5 d6 d7 d8 d9 J v0 v1 v2 v3 v4 v5 v6 v7 v8 v9 v10;go_wp2_with fail;refine(C.o x).mono ?_;rintro e w3 ⟨rfl,rfl⟩
       cases bv with
       | false=>
         have f:=aA (X.o (by rw[g.o];rfl));go_wp2_with fail;refine(dD _ _).mono ?_;rintro e w4 ⟨rfl,rfl⟩;have Z:=aA (show SbI w x.v b sb sc I V u zs/\_ from⟨c.o.1.keep x.k,f.o⟩);go_wp2_with fail;go_round
         case rel=>exact⟨t+1,by omega,by go_num,Z⟩
         case measure=>simp[intOf];omega
       | true=>
         have f:=aA (K.o (by rw[g.o];rfl));go_wp2_with fail;refine(dY _ _).mono ?_;rintro e w4 ⟨rfl,rfl⟩;exact⟨rfl,f.o,nT c.o.1.k x.k⟩
      ·skip
       refine cS (by kernel_rfl) (by kernel_rfl) ?_;repeat (go_big_quiet_step (first|(go_at_call 191;first|(with_reducible exact Calls.kept_of (S.o _))|(with_reducible exact Calls.kept_of (L.o _)))))
       refine wpQuiet_nil ?_;intro x;clear c0 c1 c2 c3 c4 c5 G c7 c8 Y d1 d2 d3 d4 d5 d6 d7 d8 d9 J v0 v1 v2 v3 v4 v5 v6 v7 v8 v9 v10;go_wp2_with fail;refine(C.o x).mono ?_;rintro e w3 ⟨rfl,rfl⟩
       cases bv with
       | false=>
         have f:=aA (K.o (by rw[g.o];rfl));go_wp2_with fail;refine(dY _ _).mono ?_;rintro e w4 ⟨rfl,rfl⟩;exact⟨rfl,f.o,nT c.o.1.k x.k⟩
       | true=>
         have f:=aA (X.o (by rw[g.o];rfl));go_wp2_with fail;refine(dD _ _).mono ?_;rintro e w4 ⟨rfl,rfl⟩;have Z:=aA (show SbI w x.v b sb sc I V u zs/\_ from⟨c.o.1.keep x.k,f.o⟩);go_wp2_with fail;go_round
         case rel=>exact⟨t+1,by omega,by go_num,Z⟩
         case measure=>simp[intOf];omega
     ·cases f2
      ·skip
       refine cS (by kernel_rfl) (by kernel_rfl) ?_;repeat (go_big_quiet_step (first|(go_at_call 191;first|(with_reducible exact Calls.kept_of (S.o _))|(with_reducible exact Calls.kept_of (L.o _)))))
       refine wpQuiet_nil ?_;intro x;clear c0 c1 c2 c3 c4 c5 G c7 c8 Y d1 d2 d3 d4 d5 d6 d7 d8 d9 J v0 v1 v2 v3 v4 v5 v6 v7 v8 v9 v10;go_wp2_with fail;refine(C.o x).mono ?_;rintro e w3 ⟨rfl,rfl⟩
       cases bv with
       | false=>
         have f:=aA (K.o (by rw[g.o];rfl));go_wp2_with fail;refine(dY _ _).mono ?_;rintro e w4 ⟨rfl,rfl⟩;exact⟨rfl,f.o,nT c.o.1.k x.k⟩
       | true=>
         have f:=aA (X.o (by rw[g.o];rfl));go_wp2_with fail;refine(dD _ _).mono ?_;rintro e w4 ⟨rfl,rfl⟩;have Z:=aA (show SbI w x.v b sb sc I V u zs/\_ from⟨c.o.1.keep x.k,f.o⟩);go_wp2_with fail;go_round
         case rel=>exact⟨t+1,by omega,by go_num,Z⟩
         case measure=>simp[intOf];omega
      ·skip
       refine cS (by kernel_rfl) (by kernel_rfl) ?_;repeat (go_big_quiet_step (first|(go_at_call 191;first|(with_reducible exact Calls.kept_of (S.o _))|(with_reducible exact Calls.kept_of (L.o _)))))
       refine wpQuiet_nil ?_;intro x;clear c0 c1 c2 c3 c4 c5 G c7 c8 Y d1 d2 d3 d4 d5 d6 d7 d8 d9 J v0 v1 v2 v3 v4 v5 v6 v7 v8 v9 v10;go_wp2_with fail;refine(C.o x).mono ?_;rintro e w3 ⟨rfl,rfl⟩
       cases bv with
       | false=>
         have f:=aA (X.o (by rw[g.o];rfl));go_wp2_with fail;refine(dD _ _).mono ?_;rintro e w4 ⟨rfl,rfl⟩;have Z:=aA (show SbI w x.v b sb sc I V u zs/\_ from⟨c.o.1.keep x.k,f.o⟩);go_wp2_with fail;go_round
         case rel=>exact⟨t+1,by omega,by go_num,Z⟩
         case measure=>simp[intOf];omega
       | true=>
         have f:=aA (K.o (by rw[g.o];rfl));go_wp2_with fail;refine(dY _ _).mono ?_;rintro e w4 ⟨rfl,rfl⟩;exact⟨rfl,f.o,nT c.o.1.k x.k⟩
    ·have e5:t=pn:=(by omega);have e6:¬(t:Int)<pn:=(by omega);have F0:=aA (show fst1 pn (fun i=>aE zs i == onF I a i)=none from fst1_ok (fun x hx=>c.o.2 x (by omega)));obtain⟨nv,a3⟩:=xe (bI u zs pn);have b7:=aA (show rk=if nv = -1 then none else some I.np by rw[RK.o,F0.o,<-a3]);have a8:=aA (fun (x:KW wr)=>vZ sb sc u zs (pn:Int) (by omega) x.v (c.o.1.keep x.k).st);have e:nxt u zs (pn:Int)=nv:=(by rw[a3];unfold nxt;rw[aa]);rw[e] at a8;obtain⟨c0,c1,c2,c3,c4,c5,G,c7,c8⟩:=c.o.1.im.all;rw[SP.o,<-HN.o] at c5;clear e a3 e5;by_cases g3:nv = -1
     case neg=>
      have f:=aA (FB.o n (by rw[b7.o,ac g3,HN.o]));have f4:(nv == -1)=false:=(by rw[ag];exact g3);clear g3;go_wp2_with fail;refine gQ (by kernel_rfl) (by kernel_rfl) (by exact da _ _) ?_;dsimp only[List.dropLast,List.getLast];repeat (go_big_quiet_step (first|(go_at_call 92;exact Calls.kept_of ((a8.o _).mono fun _ _ ⟨h1,h2⟩=>⟨h1,h2▸Kt.refl _ _⟩))))
      refine wpQuiet_nil ?_;refine⟨rfl,?_⟩;rintro _ ⟨x,rfl⟩;exact gP (p:=(n:Int)) rfl rfl rfl fun _ hd=>⟨hd,f.o,nT c.o.1.k x.k⟩
     have f:=aA (GA.o (by rw[b7.o,ae g3]));have f4:(nv == -1)=true:=(by rw[co];exact g3);have f3:=aA (fun W=>dD (n:Int) W);clear g3;go_wp2_with fail;refine cS (by kernel_rfl) (by kernel_rfl) ?_;repeat (go_big_quiet_step (first|(go_at_call 92;exact Calls.kept_of ((a8.o _).mono fun _ _ ⟨h1,h2⟩=>⟨h1,h2▸Kt.refl _ _⟩))|(go_at_call 185;exact Calls.kept_of ((f3.o _).mono fun _ _ ⟨h1,h2⟩=>⟨h1,h2▸Kt.refl _ _⟩))))
     refine wpQuiet_nil ?_;intro x;have Z:=aA (show Kt nO w x.v/\_ from⟨nT c.o.1.k x.k,f.o⟩);clear c0 c1 c2 c3 c4 c5 G c7 c8;go_wp2_with fail;go_round
     case rel=>exact⟨a+1,by omega,by go_num,Z⟩
     case measure=>simp[intOf];omega
  ·have h6:a=k:=(by omega);have e7:¬(a:Int)<k:=(by omega);have E:=aA (show Ending.returned (.tuple #[])=EE by rw[HE.o,r7,fstO_ok (fun x hx=>hR.o.2 x (by rw[HS.o.no] at hx;omega))];rfl);go_wp2_with fail;first|go_end0|go_ret
   exact⟨E.o,hR.o.1⟩
end Go.Proofs.YtfmgnljlkdmndaaGreatDoor.W
