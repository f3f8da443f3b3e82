import Derived.Test.YtfmgnljlkdmndaaGreatDoorXa
import Derived.Test.YtfmgnljlkdmndaaGreatDoorXn
set_option maxRecDepth 1000000
set_option maxHeartbeats 0
namespace Go.Proofs.YtfmgnljlkdmndaaGreatDoor
namespace W
open Tryz RowKit
set_option linter.unusedVariables false
abbrev wsP(p:Pg):List Nat:=[p.b0,p.b1,p.b2,p.b3]
def ok5(p:Pg):Bool:=!decide (p.kd=4) || ((decide (0<p.lv) && decide (p.lv=(aY (wsP p):Int))) && decide (bI 256 (wsP p) (celN9 p.cl.toNat) = -1))
theorem zk0(p:Pg)(h:PgIn p):cZ (wsP p) (dU 256)=wsP p:=by
 have e:dU 256=256:=by decide
 rw[e];unfold cZ jZ;rw[ae (by decide)];unfold over eS;rfl
theorem wM{w:Wd}{g:Nat}{p:Pg}(h:w.heap[g]?=some (aV p))(hp:PgIn p):Src w (.slice (some ⟨g,7,none⟩) 4 4) (wsP p):=by
 refine⟨fun i=>?_,some ⟨g,7,none⟩,4,rfl,.inr ⟨⟨g,7,none⟩,rfl,lH h,fun j d=>?_⟩⟩
 ·obtain⟨-,-,-,-,-,-,-,h0,b,e,c⟩:=hp;match i with
  | 0=>exact h0
  | 1=>exact b
  | 2=>exact e
  | 3=>exact c
  | n+4=>simp
 ·have a:j<4:=d;match j,a with
  | 0,_=>simp[World.cell?,h,Addr.add]
  | 1,_=>simp[World.cell?,h,Addr.add]
  | 2,_=>simp[World.cell?,h,Addr.add]
  | 3,_=>simp[World.cell?,h,Addr.add]
theorem zfI(b:Nat)(I:Img)(V:ImV)(k r:Nat)(hS:Sn9 I k r)(w:Wd)(T:ImAt w b I V):Calls prog 141 #[.pointer (some ⟨b,0,none⟩)] w fun e w'=>e=bG (fst1 I.np fun i=>ok5 (I.pg i))/\Kt nO w w':=by
 obtain⟨-,⟨pa,pc,hp⟩,-,-,-,-,bp,-,-⟩:=T.d.sl;obtain⟨c0,c1,c2,c3,c4,c5,c6,c7,c8⟩:=T.cells;rw[hp] at c5;obtain⟨EE,z⟩:=xe (bG (fst1 I.np fun i=>ok5 (I.pg i)));rw[<-z];have HE:=aA z;have HI:=aA T;have HS:=aA hS;have SP:=aA hp;have a3:=hS.gj;obtain⟨n,hn⟩:=xe (I.np);rw[<-hn] at a3 c5;have HN:=aA hn;clear z T hp hS hn bp;go_enter func141,ntmps141;go_wp2_with fail;go_loopw [10] (fun i W=>∃ a:Nat,a<=n/\i=.int .i64 a/\Hd (Kt nO w W/\∀ x,x<a->ok5 (I.pg x)=true)) (fun i _=>n-(intOf i).toNat)
 case atStart=>exact⟨0,az _,rfl,aA ⟨Kt.refl _ _,fun x hx=>by omega⟩⟩
 case round=>
  clear c0 c1 c2 c3 c4 c5 c6 c7 c8;obtain⟨a,ha,rfl,hR⟩:=hrel;have A0:=aA (HI.o.dk hR.o.1);by_cases a1:a<n
  ·have a8:(a:Int)<n:=(by omega);have l:a<I.np:=(by rw[<-HN.o];exact a1);obtain⟨bl,o,a9,N,A,K⟩:=A0.o.ew a l;rw[SP.o] at N;injection N with e1 e2 e3
   subst e1;obtain⟨kd,od,X,ll,y1,y2,y3,y4,y5,y6,y7,y8,-⟩:=HS.o.pg a l;have Y:=aA (show ok5 (I.pg a)=false->cE (a:Int)=EE from fun h=>by rw[HE.o,fY (ok:=fun i=>ok5 (I.pg i)) l hR.o.2 h];rfl);have GA:=aA (show ok5 (I.pg a)=true->∀ x,x<a+1->ok5 (I.pg x)=true from fun h x hx=>by
    by_cases e:x=a;·rw[e];exact h
    ·exact hR.o.2 x (by omega))
   have S:=aA (show ok5 (I.pg a)=(!decide ((I.pg a).kd=4) || ((decide (0<(I.pg a).lv) && decide ((I.pg a).lv=(aY (wsP (I.pg a)):Int))) && decide (bI 256 (wsP (I.pg a)) (celN9 (I.pg a).cl.toNat) = -1)))from rfl);rw[y5,aa] at S;have PB:=aA (PbI.mk' (w:=w) A0.o hR.o.1 (I.pg a));have SR:=aA (wM PB.o.pb A);have OW:=aA (zk0 (I.pg a) A);have a2:=aA (fun W=>xJ (I.pg a) X y5 y6 W);have b0:=nK X y6;generalize celN9 X=U at *;obtain⟨d0,d1,d2,d3,d4,d5,d6,d7,d8,d9,a6⟩:=K.c;generalize ok5 (I.pg a)=J at *;generalize I.pg a=p at *;clear A K e2 e3 y1 y2 y3 y4 y5 y6 y7 y8;by_cases f:p.kd=4
   case neg=>
    have s:=aA (show Kt nO w (wr.alloc (aV p))/\_ from⟨hR.o.1.alloc _,GA.o (by rw[S.o];simp[f])⟩);have f2:(p.kd != 4)=true:=(by rw[cx];exact f);clear f;go_wp2_with fail;go_round
    case rel=>exact⟨a+1,by omega,by go_num,s⟩
    case measure=>simp[intOf];omega
   have m:=aA (show J=((decide (0<p.lv) && decide (p.lv=(aY (wsP p):Int))) && decide (bI 256 (wsP p) U = -1))by rw[S.o,af f];rfl);have f2:(p.kd != 4)=false:=(by rw[ay];exact f);clear f;generalize a4:wsP p=ws at *;clear a4;go_wp2_with fail;generalize wr.alloc (aV p)=W1 at *;generalize wr.heap.size=g at *;refine(pQ (.slice (some ⟨g,7,none⟩) 4 4) ws 256 (by decide) (by decide) W1 SR.o).mono ?_;rintro e w1 ⟨rfl,j,D,a5⟩;rw[OW.o] at j;have q:=aA (PB.o.dk D);have ST:=aA j;generalize W1.heap.size+1=sb at *;generalize W1.heap.size=sc at *;obtain⟨Z,t⟩:=xe (aY ws);have u:=aA (fun (x:KW w1)=>uC sb sc _ ws x.v (ST.o.kept x.k (fun x=>x) (fun x=>x)));rw[<-t] at u;have P:=aA (fun (W:Wd) (hW:Kt nO w1 W)=>wD sb sc _ ws (U:Int) (by omega) W (ST.o.kept hW (fun x=>x) (fun x=>x)));obtain⟨G,y⟩:=xe (bI 256 ws U);have Q:ez (dU 256) ws (U:Int)=G:=(by rw[y];unfold ez;rw[aa];rfl);rw[Q] at P;rw[<-t,<-y] at m;clear j D a5 t y Q S;obtain⟨p0,p1,p2,p3,p4,p5,p6,p7,p8,p9,a7⟩:=q.o.all;clear d0 d1 d2 d3 d4 d5 d6 d7 d8 d9 a6;by_cases g1 : 0<p.lv
   case neg=>
    have s:=aA (Y.o (by rw[m.o,ah g1];rfl));have f1:decide (0<p.lv)=false:=ah g1;go_wp2_with fail;refine gO (by kernel_rfl) (by kernel_rfl) (by exact db _ _) ?_;dsimp only[List.dropLast,List.getLast];repeat (go_big_quiet_step (fail))
    refine wpQuiet_nil ?_;refine⟨rfl,?_⟩;rintro _ ⟨x,rfl⟩;exact gN (p:=(a:Int)) rfl rfl rfl fun _ hd=>⟨hd,s.o,nT q.o.k x.k⟩
   have f1:decide (0<p.lv)=true:=af g1;by_cases C:p.lv=(Z:Int)
   case neg=>
    have s:=aA (Y.o (by rw[m.o,ah C];simp));have f3:(p.lv == (Z:Int))=false:=(by rw[ag];exact C);clear C;go_wp2_with fail;refine gO (by kernel_rfl) (by kernel_rfl) (by exact db _ _) ?_;dsimp only[List.dropLast,List.getLast];repeat (go_big_quiet_step (first|(go_at_call 190;exact Calls.ek ((u.o _).mono fun _ _ ⟨L,F⟩=>⟨L,F▸Kt.refl _ _⟩))))
    refine wpQuiet_nil ?_;refine⟨rfl,?_⟩;rintro _ ⟨x,rfl⟩;exact gN (p:=(a:Int)) rfl rfl rfl fun _ hd=>⟨hd,s.o,nT q.o.k x.k⟩
   have R:=aA (show J=decide (G = -1)by rw[m.o,f1,af C];rfl);have f3:(p.lv == (Z:Int))=true:=(by rw[cu];exact C);have a0:=aA (fun W=>dC (a:Int) W);clear C;go_wp2_with fail;refine cR (by kernel_rfl) (by kernel_rfl) ?_;repeat (go_big_quiet_step (first|(go_at_call 190;exact Calls.ek ((u.o _).mono fun _ _ ⟨L,F⟩=>⟨L,F▸Kt.refl _ _⟩))|(go_at_call 185;exact Calls.ek ((a0.o _).mono fun _ _ ⟨L,F⟩=>⟨L,F▸Kt.refl _ _⟩))))
   refine wpQuiet_nil ?_;intro x;go_wp2_with fail;refine(a2.o _).mono ?_;rintro e w3 ⟨rfl,D⟩;have K3:=aA (nT q.o.k (nT x.k D));have NX:=aA (P.o w3 (nT x.k D));clear p0 p1 p2 p3 p4 p5 p6 p7 p8 p9 a7 D;by_cases B:G = -1
   case neg=>have s:=aA (Y.o (by rw[R.o,ah B]));have f4:(G == -1)=false:=(by rw[ag];exact B);clear B;go_wp2_with fail;refine NX.o.mono ?_;rintro e w4 ⟨rfl,rfl⟩;go_wp2_with fail;refine(dW _ _).mono ?_;rintro e w5 ⟨rfl,rfl⟩;exact⟨rfl,s.o,K3.o⟩
   have s:=aA (show Kt nO w w3/\_ from⟨K3.o,GA.o (by rw[R.o,af B])⟩);have f4:(G == -1)=true:=(by rw[cu];exact B);clear B;go_wp2_with fail;refine NX.o.mono ?_;rintro e w4 ⟨rfl,rfl⟩;go_wp2_with fail;refine(dC _ _).mono ?_;rintro e w5 ⟨rfl,rfl⟩;go_wp2_with fail;go_round
   case rel=>exact⟨a+1,by omega,by go_num,s⟩
   case measure=>simp[intOf];omega
  ·obtain rfl:a=n:=(by omega);have a8:¬(a:Int)<a:=(by omega);have E:=aA (show Ending.returned (.tuple #[])=EE by rw[HE.o,fst1_ok (fun x hx=>hR.o.2 x (by rw[HN.o];exact hx))];rfl);go_wp2_with fail;first|go_end0|go_ret
   exact⟨E.o,hR.o.1⟩
theorem wH{x:Nat}(h:x<=100000):wrap64 (x:Int)=x:=by unfold wrap64;omega
theorem TI{t s lo:Nat}(h:lo=t*2 ^ s)(hl:lo<=100000):wrap64 ((t:Int)*2 ^ s)=(lo:Int):=by
 have e:((2:Int) ^ s)=((2 ^ s:Nat):Int):=by simp
 have a:(t:Int)*((2 ^ s:Nat):Int)=(lo:Int):=by rw[h];simp
 rw[e,a];exact wH hl
def onF(I:Img)(j i:Nat):Bool:=isF (I.pg (i*2 ^ (j+1))) (j:Int) != isF (I.pg (i*2 ^ (j+1)+2 ^ j)) (j:Int)
def r7k(I:Img)(j:Nat):Option Nat:=
 match fst1 (I.np/2 ^ (j+1)) (fun i=>aE (I.pr j) i == onF I j i)with
 | some i=>some (i*2 ^ (j+1))
 | none=>if bI (64*(I.pr j).length) (I.pr j) (I.np/2 ^ (j+1)) = -1 then none else some I.np
def r7(I:Img):Option Nat:=fstO I.no (r7k I)
theorem XO(zs:List Nat)(h : 64*zs.length<=1048576):dU ((64*zs.length:Nat):Int)=64*zs.length/\cZ zs (64*zs.length)=zs:=by
 constructor;·unfold dU;split <;> (try split) <;> omega
 ·unfold cZ jZ;rw[ae (by omega)];exact JT zs _ (by simp[eS];omega)
theorem half_lt{np j i:Nat}(h:i<np/2 ^ (j+1)):i*2 ^ (j+1)+2 ^ j<np:=by
 have a:(i+1)*2 ^ (j+1)<=np:=by have:i+1<=np/2 ^ (j+1):=h;exact an (ak _ this) (Nat.div_mul_le_self _ _)
 rw[av,aL,co] at a;rw[co];have:=ax j;omega
structure SbI(w W:Wd)(b sb sc:Nat)(I:Img)(V:ImV)(n:Nat)(ws:List Nat):Prop where
 im:ImAt W b I V
 st:SetAt W sb sc n ws
 k:Kt nO w W
theorem SbI.dk{w W W':Wd}{b c sc:Nat}{I:Img}{V:ImV}{n:Nat}{ws:List Nat}(h:SbI w W b c sc I V n ws)(a:Kt nO W W'):SbI w W' b c sc I V n ws:=
 ⟨h.im.dk a,h.st.kept a (fun x=>x) (fun x=>x),nT h.k a⟩
theorem zfQ(b:Nat)(I:Img)(V:ImV)(k r:Nat)(hS:Sn9 I k r)(w:Wd)(hI:ImAt w b I V):Calls prog 143 #[.pointer (some ⟨b,0,none⟩)] w fun e w'=>e=bG (r7 I)/\Kt nO w w':=by
 obtain⟨-,⟨pa,pc,hp⟩,⟨ra,rc,hr⟩,-,-,-,bp,br,-⟩:=hI.d.sl;obtain⟨c0,c1,c2,c3,c4,c5,G,c7,c8⟩:=hI.cells;rw[hr] at G;obtain⟨EE,a6⟩:=xe (bG (r7 I));rw[<-a6];have HE:=aA a6;have HI:=aA hI;have HS:=aA hS;have SP:=aA hp;have SR:=aA hr;have f7:=hS.gj;have h9:=hS.k8;rw[hS.no] at G br;have e8:=aA (fun (j:Nat) (hj:j<=8) (W:Wd) (hW:ImAt W b I V)=>MN b I V j W hW hj bp);obtain⟨n,hn⟩:=xe (I.np);rw[<-hn] at f7;have HN:=aA hn;clear a6 hI hp hr hS hn bp;go_enter func143,ntmps143;go_wp2_with fail;go_loopw [15] (fun i W=>∃ a:Nat,a<=k/\i=.int .i64 a/\Hd (Kt nO w W/\∀ x,x<a->r7k I x=none)) (fun i _=>k-(intOf i).toNat)
 case atStart=>exact⟨0,az _,rfl,aA ⟨Kt.refl _ _,fun x hx=>by omega⟩⟩
 case round=>
  clear c0 c1 c2 c3 c4 c5 G c7 c8;obtain⟨a,ha,rfl,hR⟩:=hrel;have A0:=aA (HI.o.dk hR.o.1);by_cases b9:a<k
  ·have f9:(a:Int)<k:=(by omega);have F:a<I.no:=(by rw[HS.o.no];exact b9);have z:a<=8:=(by omega);obtain⟨ws,_,h3,g7,b5,e0⟩:=A0.o.d.jg;rw[SR.o] at b5;injection b5 with e1 e2 e3
   subst e1;rcases e0 with e0|⟨bl,o,rfl,_,a8⟩
   ·omega
   obtain⟨Z,b0⟩:=a8 a F;obtain⟨hz,za,zc,b2,_⟩:=b0;have C:=aA (a8 a F).2;have FB:=aA (show ∀ p,r7k I a=some p->cE (p:Int)=EE from fun p h=>by rw[HE.o,r7,FV F hR.o.2 h];rfl);have GA:=aA (show r7k I a=none->∀ x,x<a+1->r7k I x=none from fun h x hx=>by
    by_cases e:x=a;·rw[e];exact h
    ·exact hR.o.2 x (by omega))
   have RK:=aA (show r7k I a=(match fst1 (I.np/2 ^ (a+1)) (fun i=>aE (I.pr a) i == onF I a i)with|some i=>some (i*2 ^ (a+1))|none=>if bI (64*(I.pr a).length) (I.pr a) (I.np/2 ^ (a+1)) = -1 then none else some I.np)from rfl);have N:=HS.o.pl a b9;rw[b2] at Z C;generalize r7k I a=rk at *;obtain⟨zs,a1⟩:=xe (I.pr a);rw[<-a1] at C RK Z N;have h8:=aA a1;obtain⟨pn,m⟩:=xe (I.np/2 ^ (a+1));have g0:pn<=1024:=(by rw[m];exact an (dg _ _) HS.o.gj);have e9:zs.length<=17:=(by rw[N];unfold pwN;rw[<-m];omega);have f5:pn<=64*zs.length:=(by rw[N];unfold pwN;rw[<-m];omega);rw[<-m] at RK;have b1:=aA m;obtain⟨u,a7⟩:=xe (64*zs.length);have a3:=aA (XO zs (by omega));have b7:(zs.length:Int)*64=(u:Int):=(by omega);obtain⟨zl,y⟩:=xe (zs.length);rw[<-y] at b7 e9 Z C;rw[<-a7] at a3 RK f5;have e6:=aA y;have g6:=aA a7;have g8:=aA (rY z (rfl : 2 ^ a=2 ^ a));have g5:=aA (show a+1<=9 by omega);clear a8 hz b2 m a1 a7 y e2 e3 N;go_wp2_with fail;refine(pQ (.slice za zl zc) zs (u:Int) (by omega) (by omega) wr (by have:=e6.o;subst this;exact C.o)).mono ?_;rintro e w1 ⟨rfl,A,hk,f8⟩;rw[a3.o.1,a3.o.2] at A;have SB:=aA (show SbI w w1 b (wr.heap.size+1) wr.heap.size I V u zs from⟨A0.o.dk hk,A,nT hR.o.1 hk⟩);generalize wr.heap.size+1=sb at *;generalize wr.heap.size=sc at *;have PO:=aA (e8.o a z w1 SB.o.im);rw[<-b1.o] at PO;clear A hk f8 Z C;go_wp2_with fail;refine PO.o.mono ?_;rintro e w2 ⟨rfl,rfl⟩;clear PO;go_wp2_with fail;obtain⟨s,hs⟩:=xe (a+1);obtain⟨P,hP⟩:=xe (2 ^ a);have S:=M.pow8 a z;rw[<-hP] at S;have g4:=S.1;have g2:=S.2;have l:=aA (show P=2 ^ a/\s=a+1 from⟨hP,hs⟩);clear hP hs S;go_loopw [29] (fun i W=>∃ t:Nat,t<=pn/\i=.int .i64 t/\Hd (SbI w W b sb sc I V u zs/\∀ x,x<t->(aE zs x == onF I a x)=true)) (fun i _=>pn-(intOf i).toNat)
   case atStart=>exact⟨0,az _,rfl,aA ⟨SB.o,fun x hx=>by omega⟩⟩
   case round=>
    clear SB;obtain⟨t,ht,rfl,c⟩:=hrel;by_cases e4:t<pn
    ·have f3:(t:Int)<pn:=(by omega);obtain⟨lo,q⟩:=xe (t*2 ^ (a+1));obtain⟨Q,R⟩:=xe (lo+P);have a0:Q<I.np:=by
      have:=half_lt (j:=a) (by rw[<-b1.o];exact e4:t<I.np/2 ^ (a+1));rw[R,q,l.o.1];exact this
     have B:lo<I.np:=(by omega);have g9:(lo:Int)<n:=(by rw[HN.o];omega);have h0:(Q:Int)<n:=(by rw[HN.o];omega);have LO:=aA q;have UP:=aA R;have g:=aA (show onF I a t=(isF (I.pg lo) (a:Int) != isF (I.pg Q) (a:Int))by unfold onF;rw[<-q,<-l.o.1,<-R]);have g1:lo<=1024:=(by have:=HS.o.gj;omega);have b4:(lo:Int)+(P:Int)=Q:=(by omega);have h4:(a:Int)+1=(s:Int):=(by have:=l.o.2;omega);have h6:s<=9:=(by have:=l.o.2;omega);have e7:P<=100000:=(by omega);have b3:Q<=100000:=(by have:=HS.o.gj;omega);have c9:lo<=100000:=(by omega);have J:=aA (show wrap64 ((t:Int)*2 ^ s)=(lo:Int)/\wrap64 ((1:Int)*2 ^ a)=(P:Int)/\((2:Int) ^ a)=(P:Int)/\wrap64 (P:Int)=P/\wrap64 ((lo:Int)+(P:Int))=(Q:Int)from⟨TI (by rw[q,l.o.2]) c9,(rY z l.o.1).1,(rY z l.o.1).2.1,wH e7,by rw[b4];exact wH b3⟩);have U:=aA (show(aE zs t == onF I a t)=false->cE (lo:Int)=EE from fun h=>FB.o lo (by rw[RK.o,fY e4 c.o.2 h];exact congrArg some q.symm))
     have X:=aA (show(aE zs t == onF I a t)=true->∀ x,x<t+1->(aE zs x == onF I a x)=true from fun h x hx=>by
      by_cases e:x=t;·rw[e];exact h
      ·exact c.o.2 x (by omega))
     obtain⟨c0,c1,c2,c3,c4,c5,G,c7,c8⟩:=c.o.1.im.all;rw[SP.o,<-HN.o] at c5;have f0:∃ a2 o',pa=some ⟨a2,o',none⟩:=by
      obtain⟨a2,o',h7,b8,_⟩:=c.o.1.im.ew lo B;rw[SP.o] at b8;injection b8 with e1
      exact⟨a2,o',e1⟩
     obtain⟨pb,po,rfl⟩:=f0;obtain⟨Z,d1,d2,d3,d4,d5,d6,d7,d8,d9,Y⟩:=iN (c.o.1.im.go SP.o lo B);obtain⟨v0,v1,v2,v3,v4,v5,v6,v7,v8,v9,v10⟩:=iN (c.o.1.im.go SP.o Q a0);have K:=aA (fun W=>qR (I.pg lo) (a:Int) W);have L:=aA (fun W=>qR (I.pg Q) (a:Int) W);generalize isF (I.pg lo) (a:Int)=f1 at *;generalize isF (I.pg Q) (a:Int)=f2 at *;have D:=aA (fun (x:KW wr)=>nJ sb sc u zs (t:Int) x.v (c.o.1.dk x.k).st);have a9:cS u zs (t:Int)=aE zs t:=by unfold cS aD;rw[af (by omega),aa,bf]
     rw[a9] at D;generalize aE zs t=bv at *;generalize onF I a t=ov at *;clear q R a9 a0 B;clear b4;go_wp2_with fail;simp only[J.o.1,J.o.2.2.1,J.o.2.2.2.1,J.o.2.2.2.2]
     cases f1
     ·cases f2
      ·skip
       refine cR (by kernel_rfl) (by kernel_rfl) ?_;repeat (go_big_quiet_step (first|(go_at_call 191;first|(with_reducible exact Calls.ek (K.o _))|(with_reducible exact Calls.ek (L.o _)))))
       refine wpQuiet_nil ?_;intro x;clear c0 c1 c2 c3 c4 c5 G c7 c8 Z d1 d2 d3 d4 d5 d6 d7 d8 d9 Y v0 v1 v2 v3 v4 v5 v6 v7 v8 v9 v10;go_wp2_with fail;refine(D.o x).mono ?_;rintro e w3 ⟨rfl,rfl⟩
       cases bv with
       | false=>
         have f:=aA (X.o (by rw[g.o];rfl));go_wp2_with fail;refine(dC _ _).mono ?_;rintro e w4 ⟨rfl,rfl⟩;have T:=aA (show SbI w x.v b sb sc I V u zs/\_ from⟨c.o.1.dk x.k,f.o⟩);go_wp2_with fail;go_round
         case rel=>exact⟨t+1,by omega,by go_num,T⟩
         case measure=>simp[intOf];omega
       | true=>have f:=aA (U.o (by rw[g.o];rfl));go_wp2_with fail;refine(dW _ _).mono ?_;rintro e w4 ⟨rfl,rfl⟩;exact⟨rfl,f.o,nT c.o.1.k x.k⟩
      ·skip
       refine cR (by kernel_rfl) (by kernel_rfl) ?_;repeat (go_big_quiet_step (first|(go_at_call 191;first|(with_reducible exact Calls.ek (K.o _))|(with_reducible exact Calls.ek (L.o _)))))
       refine wpQuiet_nil ?_;intro x;clear c0 c1 c2 c3 c4 c5 G c7 c8 Z d1 d2 d3 d4 d5 d6 d7 d8 d9 Y v0 v1 v2 v3 v4 v5 v6 v7 v8 v9 v10;go_wp2_with fail;refine(D.o x).mono ?_;rintro e w3 ⟨rfl,rfl⟩
       cases bv with
       | false=>have f:=aA (U.o (by rw[g.o];rfl));go_wp2_with fail;refine(dW _ _).mono ?_;rintro e w4 ⟨rfl,rfl⟩;exact⟨rfl,f.o,nT c.o.1.k x.k⟩
       | true=>
         have f:=aA (X.o (by rw[g.o];rfl));go_wp2_with fail;refine(dC _ _).mono ?_;rintro e w4 ⟨rfl,rfl⟩;have T:=aA (show SbI w x.v b sb sc I V u zs/\_ from⟨c.o.1.dk x.k,f.o⟩);go_wp2_with fail;go_round
         case rel=>exact⟨t+1,by omega,by go_num,T⟩
         case measure=>simp[intOf];omega
     ·cases f2
      ·skip
       refine cR (by kernel_rfl) (by kernel_rfl) ?_;repeat (go_big_quiet_step (first|(go_at_call 191;first|(with_reducible exact Calls.ek (K.o _))|(with_reducible exact Calls.ek (L.o _)))))
       refine wpQuiet_nil ?_;intro x;clear c0 c1 c2 c3 c4 c5 G c7 c8 Z d1 d2 d3 d4 d5 d6 d7 d8 d9 Y v0 v1 v2 v3 v4 v5 v6 v7 v8 v9 v10;go_wp2_with fail;refine(D.o x).mono ?_;rintro e w3 ⟨rfl,rfl⟩
       cases bv with
       | false=>have f:=aA (U.o (by rw[g.o];rfl));go_wp2_with fail;refine(dW _ _).mono ?_;rintro e w4 ⟨rfl,rfl⟩;exact⟨rfl,f.o,nT c.o.1.k x.k⟩
       | true=>
         have f:=aA (X.o (by rw[g.o];rfl));go_wp2_with fail;refine(dC _ _).mono ?_;rintro e w4 ⟨rfl,rfl⟩;have T:=aA (show SbI w x.v b sb sc I V u zs/\_ from⟨c.o.1.dk x.k,f.o⟩);go_wp2_with fail;go_round
         case rel=>exact⟨t+1,by omega,by go_num,T⟩
         case measure=>simp[intOf];omega
      ·skip
       refine cR (by kernel_rfl) (by kernel_rfl) ?_;repeat (go_big_quiet_step (first|(go_at_call 191;first|(with_reducible exact Calls.ek (K.o _))|(with_reducible exact Calls.ek (L.o _)))))
       refine wpQuiet_nil ?_;intro x;clear c0 c1 c2 c3 c4 c5 G c7 c8 Z d1 d2 d3 d4 d5 d6 d7 d8 d9 Y v0 v1 v2 v3 v4 v5 v6 v7 v8 v9 v10;go_wp2_with fail;refine(D.o x).mono ?_;rintro e w3 ⟨rfl,rfl⟩
       cases bv with
       | false=>
         have f:=aA (X.o (by rw[g.o];rfl));go_wp2_with fail;refine(dC _ _).mono ?_;rintro e w4 ⟨rfl,rfl⟩;have T:=aA (show SbI w x.v b sb sc I V u zs/\_ from⟨c.o.1.dk x.k,f.o⟩);go_wp2_with fail;go_round
         case rel=>exact⟨t+1,by omega,by go_num,T⟩
         case measure=>simp[intOf];omega
       | true=>have f:=aA (U.o (by rw[g.o];rfl));go_wp2_with fail;refine(dW _ _).mono ?_;rintro e w4 ⟨rfl,rfl⟩;exact⟨rfl,f.o,nT c.o.1.k x.k⟩
    ·have e5:t=pn:=(by omega);have f3:¬(t:Int)<pn:=(by omega);have F0:=aA (show fst1 pn (fun i=>aE zs i == onF I a i)=none from fst1_ok (fun x hx=>c.o.2 x (by omega)));obtain⟨nv,a5⟩:=xe (bI u zs pn);have b6:=aA (show rk=if nv = -1 then none else some I.np by rw[RK.o,F0.o,<-a5]);have a4:=aA (fun (x:KW wr)=>wD sb sc u zs (pn:Int) (by omega) x.v (c.o.1.dk x.k).st);have e:ez u zs (pn:Int)=nv:=(by rw[a5];unfold ez;rw[aa]);rw[e] at a4;obtain⟨c0,c1,c2,c3,c4,c5,G,c7,c8⟩:=c.o.1.im.all;rw[SP.o,<-HN.o] at c5;clear e a5 e5;by_cases g3:nv = -1
     case neg=>
      have f:=aA (FB.o n (by rw[b6.o,ac g3,HN.o]));have f4:(nv == -1)=false:=(by rw[ag];exact g3);clear g3;go_wp2_with fail;refine gO (by kernel_rfl) (by kernel_rfl) (by exact db _ _) ?_;dsimp only[List.dropLast,List.getLast];repeat (go_big_quiet_step (first|(go_at_call 92;exact Calls.ek ((a4.o _).mono fun _ _ ⟨h1,h2⟩=>⟨h1,h2▸Kt.refl _ _⟩))))
      refine wpQuiet_nil ?_;refine⟨rfl,?_⟩;rintro _ ⟨x,rfl⟩;exact gN (p:=(n:Int)) rfl rfl rfl fun _ hd=>⟨hd,f.o,nT c.o.1.k x.k⟩
     have f:=aA (GA.o (by rw[b6.o,ae g3]));have f4:(nv == -1)=true:=(by rw[cu];exact g3);have f6:=aA (fun W=>dC (n:Int) W);clear g3;go_wp2_with fail;refine cR (by kernel_rfl) (by kernel_rfl) ?_;repeat (go_big_quiet_step (first|(go_at_call 92;exact Calls.ek ((a4.o _).mono fun _ _ ⟨h1,h2⟩=>⟨h1,h2▸Kt.refl _ _⟩))|(go_at_call 185;exact Calls.ek ((f6.o _).mono fun _ _ ⟨h1,h2⟩=>⟨h1,h2▸Kt.refl _ _⟩))))
     refine wpQuiet_nil ?_;intro x;have T:=aA (show Kt nO w x.v/\_ from⟨nT c.o.1.k x.k,f.o⟩);clear c0 c1 c2 c3 c4 c5 G c7 c8;go_wp2_with fail;go_round
     case rel=>exact⟨a+1,by omega,by go_num,T⟩
     case measure=>simp[intOf];omega
  ·have h5:a=k:=(by omega);have f9:¬(a:Int)<k:=(by omega);have E:=aA (show Ending.returned (.tuple #[])=EE by rw[HE.o,r7,fstO_ok (fun x hx=>hR.o.2 x (by rw[HS.o.no] at hx;omega))];rfl);go_wp2_with fail;first|go_end0|go_ret
   exact⟨E.o,hR.o.1⟩
end W
namespace M
open Tryz RowKit
set_option linter.unusedVariables false
theorem YW(bS:Nat)(dl ord:Int)(f : -9223372036854775808<=dl)(d:dl<=9223372036854775807)(b : -9223372036854775808<=ord)(c:ord<=9223372036854775807)(h:¬Bounds dl ord)(w:Wd):Calls prog 7 #[.agg #[.int .u64 bS,.int .i64 dl,.int .i64 ord]] w fun e a=>e=.returned (.bool false)/\Kt nO w a:=by
 by_cases g:ord<0
 ·clear h;go_enter func7,ntmps7;go_wp2
  go_ret;exact⟨rfl,(Kt.refl _ w).alloc _⟩
 ·by_cases h2 : 8<ord
  ·clear h;go_enter func7,ntmps7;go_wp2
   go_ret;exact⟨rfl,(Kt.refl _ w).alloc _⟩
  ·by_cases i:dl<1
   ·clear h;go_enter func7,ntmps7;go_wp2
    go_ret;exact⟨rfl,(Kt.refl _ w).alloc _⟩
   ·have j : 64<dl:=(by unfold Bounds at h;omega);clear h;go_enter func7,ntmps7;go_wp2
    go_ret;exact⟨rfl,(Kt.refl _ w).alloc _⟩
theorem TJ(bS:Nat)(C:bS<18446744073709551616)(dl k:Nat)(T:k<=8)(N : 1<=dl)(s:dl<=64)(w:Wd):Calls prog 7 #[.agg #[.int .u64 bS,.int .i64 dl,.int .i64 k]] w fun e F=>e=.returned (.bool (mayB bS dl k))/\Kt nO w F:=by
 have A:Bounds (dl:Int) (k:Int):=by unfold Bounds;omega
 have f:=aA (show mayB bS dl k=(decide (dl*2 ^ k<=1024) && (decide (bS≠0) && decide (bS%RS k=0) && decide (bS+dl*RS k<=9223372036854775808)))from by unfold mayB;rw[af A,aa,aa,bf])
 clear A;go_enter func7,ntmps7;go_wp2
 go_loop [3,4,5] (fun pg r i=>∃ j:Nat,j<=k/\i=.int .i64 j/\pg=.int .i64 ((dl*2 ^ j:Nat):Int)/\r=.int .u64 ((4096*2 ^ j:Nat):Int)) (fun _ _ i=>k-(intOf i).toNat)
 case atStart=>exact⟨0,by omega,rfl,by simp,by simp⟩
 case round=>
  obtain⟨j,Q,rfl,rfl,rfl⟩:=hrel;obtain⟨P,h⟩:=xe (2 ^ j);have g:=pow8 j (by omega);rw[<-h] at g ⊢;obtain⟨d,a⟩:=xe (dl*P);have B:d<=16384:=by rw[a];exact an (Nat.mul_le_mul s g.2) (by decide)
  rw[<-a];obtain⟨R,hR⟩:=xe (4096*P);have G:R<=1048576:=by omega
  rw[<-hR];by_cases K:j<k
  ·have n:=aA (show dl*2 ^ (j+1)=d*2 from by rw[a,h,co,cy]);have t:=aA (show 4096*2 ^ (j+1)=R*2 from by rw[hR,h,co,cy]);have I:(j:Int)<k:=(by omega);clear h a hR;go_wp2
   refine⟨⟨j+1,by omega,by simp,?_,?_⟩,by simp[intOf];omega⟩;·rw[n.o];simp
   ·rw[t.o];simp
  ·obtain rfl:j=k:=(by omega);have z:RS j=R:=(by rw[hR,h];rfl);obtain⟨lr,c⟩:=xe (dl*R);have b:lr=4096*d:=(by rw[c,hR,a,Nat.mul_left_comm]);have D:(R:Int)*(dl:Int)=lr:=(by rw[c,Int.mul_comm];simp);have l:=aA (show mayB bS dl j=(decide (d<=1024) && (decide (bS≠0) && decide (bS%R=0) && decide (bS+lr<=9223372036854775808)))from by
    rw[f.o,z,<-h,<-a,<-c])
   clear z f;have J:¬(R:Int)=0:=(by omega);clear h a hR c g;by_cases o:d<=1024
   ·have q:=aA (af o);have p:¬(1024:Int)<d:=(by omega);by_cases h0:bS=0
    ·have y:((bS:Int) == 0)=true:=(by rw[h0];rfl);have u:=aA h0;clear h0 b;go_wp2
     go_ret;exact⟨cN (by rw[l.o,u.o];simp),(Kt.refl _ w).alloc _⟩
    ·have y:((bS:Int) == 0)=false:=(by rw[ag];omega);have u:=aA (show decide (bS≠0)=true from af h0);by_cases m:bS%R=0
     ·have E:((bS:Int)%(R:Int) != 0)=false:=(by rw[ay];omega);have v:=aA (show decide (bS%R=0)=true from af m);clear m;by_cases S:bS<=9223372036854775808
      ·have x:(bS:Int)<=9223372036854775808:=(by omega);go_wp2
       go_ret;exact⟨cN (by rw[l.o,u.o,q.o,v.o,bf,bf,bf,decide_eq_decide];omega),(Kt.refl _ w).alloc _⟩
      ·have x:¬(bS:Int)<=9223372036854775808:=(by omega);have L:=aA (show decide (bS+lr<=9223372036854775808)=false from ah (by omega));go_wp2
       go_ret;exact⟨cN (by rw[l.o,L.o];simp),(Kt.refl _ w).alloc _⟩
     ·have E:((bS:Int)%(R:Int) != 0)=true:=(by rw[cx];omega);have v:=aA (show decide (bS%R=0)=false from ah m);clear m b;go_wp2
      go_ret;exact⟨cN (by rw[l.o,v.o];simp),(Kt.refl _ w).alloc _⟩
   ·have q:=aA (show decide (d<=1024)=false from ah o);have p:(1024:Int)<d:=(by omega);clear o b;go_wp2
    go_ret;exact⟨cN (by rw[l.o,q.o];simp),(Kt.refl _ w).alloc _⟩
theorem May_any(bS:Nat)(a:bS<18446744073709551616)(dl ord:Int)(f : -9223372036854775808<=dl)(d:dl<=9223372036854775807)(b : -9223372036854775808<=ord)(c:ord<=9223372036854775807)(w:Wd):Calls prog 7 #[.agg #[.int .u64 bS,.int .i64 dl,.int .i64 ord]] w fun e i=>e=.returned (.bool (mayB bS dl ord))/\Kt nO w i:=by
 by_cases h:Bounds dl ord;·have g:=h;unfold Bounds at g;obtain⟨l,rfl⟩:=au (by omega : 0<=dl);obtain⟨k,rfl⟩:=au g.1;exact TJ bS a l k (by omega) (by omega) (by omega) w
 ·have e:mayB bS dl ord=false:=by unfold mayB;rw[ah h,eb,eb]
  rw[e];exact YW bS dl ord f d b c h w
theorem R_any(bS dl:Int)(k:Nat)(m:k<=8)(w:Wd):Calls prog 128 #[.agg #[.int .u64 bS,.int .i64 dl,.int .i64 k]] w fun e d=>e=.returned (.int .u64 ((RS k:Nat):Int))/\Kt nO w d:=by
 go_enter func128,ntmps128;go_wp2
 go_loop [3,4] (fun r i=>∃ j:Nat,j<=k/\i=.int .i64 j/\r=.int .u64 ((4096*2 ^ j:Nat):Int)) (fun _ i=>k-(intOf i).toNat)
 case atStart=>exact⟨0,by omega,rfl,by simp⟩
 case round=>
  obtain⟨j,l,rfl,rfl⟩:=hrel;obtain⟨P,a⟩:=xe (2 ^ j);have b:=pow8 j (by omega);rw[<-a] at b ⊢;obtain⟨R,hR⟩:=xe (4096*P);have f:R<=1048576:=by omega
  rw[<-hR];by_cases h:j<k
  ·have c:=aA (show 4096*2 ^ (j+1)=R*2 from by rw[hR,a,co,cy]);have g:(j:Int)<k:=(by omega);clear a hR;go_wp2
   refine⟨⟨j+1,by omega,by simp,?_⟩,by simp[intOf];omega⟩;rw[c.o];simp
  ·obtain rfl:j=k:=(by omega);have E:=aA (show RS j=R by rw[hR,a];rfl);clear a hR;go_wp2
   go_ret;exact⟨dX (by rw[E.o]),(Kt.refl _ w).alloc _⟩
end M
end Go.Proofs.YtfmgnljlkdmndaaGreatDoor
