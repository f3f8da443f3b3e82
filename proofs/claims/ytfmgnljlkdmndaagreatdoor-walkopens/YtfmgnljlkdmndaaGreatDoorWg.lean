import Derived.Test.YtfmgnljlkdmndaaGreatDoorXg
set_option maxRecDepth 1000000
set_option maxHeartbeats 0
namespace Go.Proofs.YtfmgnljlkdmndaaGreatDoor
namespace W
open Tryz RowKit
set_option linter.unusedVariables false
theorem zJ(i:Nat)(hi:i<=100000)(w:Wd):Calls prog 184 #[.int .i64 i] w fun e f=>e=.returned (.int .u64 ((2 ^ (i%64):Nat):Int))/\f=w:=by
 obtain⟨r,b⟩:=xe (i%64);have g:(i:Int)%64=(r:Int):=by omega
 have a:r<64:=by omega
 rw[<-b];clear b;go_enter func184,ntmps184;go_wp2_with fail;go_loop [3,4] (fun x i=>∃ k:Nat,k<=r/\i=.int .i64 k/\x=.int .u64 ((2 ^ k:Nat):Int)) (fun _ i=>r-(intOf i).toNat)
 case atStart=>exact⟨0,by omega,rfl,rfl⟩
 case round=>
  obtain⟨k,m,rfl,rfl⟩:=hrel;by_cases j:k<r;·have d:(k:Int)<r:=(by omega);have hp : 2 ^ (k+1)=2 ^ k*2:=co 2 k;have hb : 2 ^ (k+1)<=2 ^ 63:=(mM _ _).2 (by omega);obtain⟨z,hz⟩:=xe (2 ^ k);have c:=aA (show 2 ^ (k+1)=z*2 by rw[hz,hp]);have h:z*2<=9223372036854775808:=(by rw[c.o] at hb;exact hb);rw[<-hz];have l:((z:Int)*2)%18446744073709551616=((z*2:Nat):Int):=(by omega);clear hz hb hp;go_wp2_with fail;exact⟨⟨k+1,by omega,by simp,by rw[c.o];simp⟩,by simp[intOf];omega⟩
  ·obtain rfl:k=r:=(by omega);go_wp2_with fail;go_ret;exact⟨rfl,rfl⟩
theorem TU{w:Wd}{x:Nat}{p:Pg}(h:w.heap[x]?=some (aV p))(k:Nat)(a:k<4):w.cell? ⟨x,7+k,none⟩=some (.int .u64 (((wsP p).getD k 0:Nat):Int)):=by
 match k,a with
 | 0,_=>simp[World.cell?,h]
 | 1,_=>simp[World.cell?,h]
 | 2,_=>simp[World.cell?,h]
 | 3,_=>simp[World.cell?,h]
 | _+4,a=>omega
theorem OG{p:Pg}(ok:PgIn p)(k:Nat):(wsP p).getD k 0<18446744073709551616:=by
 match k with
 | 0=>exact ok.b0
 | 1=>exact ok.b1
 | 2=>exact ok.b2
 | 3=>exact ok.b3
 | k+4=>simp[List.getD]
theorem rU(p:Pg)(ok:PgIn p)(c:Nat)(hc:c<256)(w:Wd):Calls prog 131 #[gV p,.int .i64 c] w fun e o=>e=.returned (.bool (aE (wsP p) c))/\Kt nO w o:=by
 obtain⟨k,f⟩:=xe (c/64);obtain⟨r,d⟩:=xe (c%64);obtain⟨z,hz⟩:=xe (2 ^ r);obtain⟨x,hx⟩:=xe ((wsP p).getD k 0);obtain⟨y,hy⟩:=xe (x/z);obtain⟨b,hb⟩:=xe (y%2);have G:x<18446744073709551616:=by rw[hx];exact OG ok k
 have B : 1<=z:=by rw[hz];exact ap (by decide)
 have m:y<=x:=by rw[hy];exact dg _ _
 have h:aE (wsP p) c=decide ((b:Int)=1):=by
  have:aE (wsP p) c=(b == 1):=by unfold aE;rw[<-f,<-d,<-hz,<-hx,<-hy,<-hb]
  rw[this];by_cases e:b=1;·simp[e]
  ·have:¬(b:Int)=1:=by omega
   simp[e,this]
 have s:=aA ((kz w).alloc (aV p));have l:=aA (nH w (aV p));have I:=aA (show 2 ^ (c%64)=z by rw[hz,d]);have u:=aA hx;rw[h];have a:k<4:=by omega
 have j:(c:Int)/64=(k:Int):=by omega
 have F:(c:Int).tdiv 64=(k:Int):=by rw[f];rfl
 have n:(x:Int)/(z:Int)=y:=by rw[hy];simp
 have t:(x:Int).tdiv (z:Int)=y:=by rw[hy];rfl
 have i:(y:Int)%2=(b:Int):=by omega
 have C:(y:Int).tmod 2=(b:Int):=by rw[hb];rfl
 have A:¬(z:Int)=0:=by omega
 have v:IntKind.i64.wrap (k:Int)=k:=by rw[cz];omega
 have D:IntKind.u64.wrap (y:Int)=y:=by rw[wrap_u64];omega
 have J:IntKind.u64.wrap (b:Int)=b:=by rw[wrap_u64];omega
 have g:(k:Int)<4:=by omega
 clear h f d hz hx hy hb;go_enter func131,ntmps131;go_wp2_with fail;generalize w.alloc (aV p)=E at *;have c7:=TU l.o k a;rw[<-u.o] at c7;have q:E.drew.cell? ⟨w.heap.size,7+k,none⟩=some (.int .u64 x):=c7;go_region_with (go_at_call 184;refine(zJ c (by omega) _).mono ?_;rintro e K ⟨rfl,rfl⟩;rw[I.o])
 all_goals
  go_wp2_with fail;go_ret;exact⟨rfl,s.o.drew⟩
def jW(f:Nat->Nat):Nat->Nat
 | 0=>0
 | d+1=>jW f d*256+f (7-d)
theorem CR(f:Nat->Nat)(h:∀ i,i<8->f i<256):∀ d,d<=8->jW f d<256 ^ d
 | 0,_=>by simp[jW]
 | d+1,hd=>by have a:=CR f h d (by omega);have b:=h (7-d) (by omega);rw[jW,co];omega
theorem CJ(f:Nat->Nat):∀ d e,d+e=8->jW f d*256 ^ e+M.wordTo f e=M.wordTo f 8
 | 0,e,h=>by
  have:e=8:=by omega
  rw[this];simp[jW]
 | d+1,e,h=>by rw[<-CJ f d (e+1) (by omega),jW,show 7-d=e by omega,M.wordTo,av,co,cy,aq 256];omega
theorem zS(I:Img)(V:ImV)(q:Nat)(hq:q+8<=I.nm)(m:I.nm<=4194304)(w:Wd)(B:ImD w I V):Calls prog 135 #[imA I V,.int .u64 q] w fun e w'=>e=.returned (.int .u64 ((M.word I.mem q:Nat):Int))/\Kt nO w w':=by
 obtain⟨⟨Z,mc,R⟩,⟨U,X,hp⟩,⟨ra,rc,hr⟩,⟨ha,hc,Q⟩,⟨ta,L,P⟩,-⟩:=B.sl;obtain⟨vm,vp,vr,vh,vt⟩:=V;dsimp only at R hp hr Q P;subst R hp hr Q P;have c:=aA (show ImAt (w.alloc (imO I _)) w.heap.size I _ from⟨nH _ _,B.dk ((Kt.refl _ w).alloc _)⟩);have K0:=aA (show Kt nO w (w.alloc (imO I _))from(Kt.refl _ w).alloc (imO I ⟨.slice Z I.nm mc,.slice U I.np X,.slice ra I.no rc,.slice ha I.hd.length hc,.slice ta I.pt.length L⟩));obtain⟨c0,c1,c2,c3,c4,c5,c6,c7,Y⟩:=c.o.cells;obtain⟨F,J⟩:=xe (fun i=>I.mem (q+i));have l:=aA (show ∀ i,F i=I.mem (q+i)from fun i=>by rw[J]);obtain⟨rr,b⟩:=xe (M.word I.mem q);rw[<-b];have RR:=aA (show rr=M.wordTo F 8 by rw[b,J];rfl);have j:=aA hq;have C:=aA m;clear B b J hq m;go_enter func135,ntmps135;go_wp2_with fail;clear c0 c1 c2 c3 c4 c5 c6 c7 Y;generalize w.heap.size=ib at *;generalize w.alloc (imO I ⟨.slice Z I.nm mc,.slice U I.np X,.slice ra I.no rc,.slice ha I.hd.length hc,.slice ta I.pt.length L⟩)=W0 at *;have p:=aA (show ∀ i,i<8->F i<256 from fun i hi=>by obtain⟨bl,o,e,-,hc⟩:=c.o.d.mem.at (q+i) (by have:=j.o;omega);rw[l.o];exact(hc (q+i) (by have:=j.o;omega)).1)
 go_loopw [5,6] (fun v K W=>∃ d e:Nat,d+e=8/\v=.int .u64 (jW F d:Int)/\K=.int .u64 e/\Hd (Kt nO W0 W)) (fun _ K _=>(intOf K).toNat)
 case atStart=>exact⟨0,8,rfl,rfl,rfl,aA (Kt.refl _ _)⟩
 case round=>
  obtain⟨d,e,G,rfl,rfl,t⟩:=hrel;have r:=aA (c.o.dk t.o);obtain⟨c0,c1,c2,c3,c4,c5,c6,c7,Y⟩:=r.o.cells;dsimp only at c4;by_cases hlt : 0<e;·have A:(0:Int)<(e:Int):=(by omega);obtain⟨a,rfl⟩:∃ a,e=a+1:=⟨e-1,by omega⟩;obtain⟨bl,o,e1,-,hc⟩:=r.o.d.mem.at (q+a) (by have:=j.o;omega);obtain⟨E,s⟩:=hc (q+a) (by have:=j.o;omega);subst e1;obtain⟨D,hD⟩:=xe (jW F d);obtain⟨x,hx⟩:=xe (F a);rw[<-l.o,<-hx] at E s;have f:=CR F p.o d (by omega);rw[<-hD] at f ⊢;have S:D<72057594037927936:=bg f (by exact bj (by decide) (show d<=7 by omega));have DN:=aA (show jW F (d+1)=D*256+x by rw[jW,<-hD,show 7-d=a by omega,hx]);obtain⟨g,hg⟩:=xe (q+a);rw[<-hg] at s;obtain⟨k,h⟩:=xe (a+1);obtain⟨n,y⟩:=xe (g+1);have a3:n<=4194304:=(by have:=j.o;have:=C.o;omega);have u:g<I.nm:=(by have:=j.o;omega);have a0:(g:Int)<I.nm:=(by omega);have s1:IntKind.u64.wrap ((q:Int)+(k:Int))=(n:Int):=(by rw[wrap_u64];omega);have a4:(q:Int)+(k:Int)=n:=(by omega);have s2:IntKind.u64.wrap ((n:Int)-1)=(g:Int):=(by rw[wrap_u64];omega);have a2:(n:Int)-1=(g:Int):=(by omega);have s3:IntKind.u64.wrap ((k:Int)-1)=(a:Int):=(by rw[wrap_u64];omega);have a1:(k:Int)-1=(a:Int):=(by omega);have s5:IntKind.u64.wrap ((D:Int)*256+(x:Int))=((D*256+x:Nat):Int):=(by rw[wrap_u64];omega);have s6:IntKind.u64.wrap (x:Int)=x:=(by rw[wrap_u64];omega);rw[<-h];have N:(0:Int)<(k:Int):=(by omega);have EQ:=aA (show d+1+a=8/\k=a+1 from⟨by omega,h⟩);have S5:=aA s5;have KG:=aA t.o;clear hlt A G hc f hD hx hg h y u t s5;go_wp2_with fail;exact⟨⟨d+1,a,EQ.o.1,by rw[DN.o];simp,rfl,KG⟩,by have:=EQ.o.2;simp only[intOf,aa];omega⟩
  ·obtain rfl:e=0:=(by omega);obtain rfl:d=8:=(by omega);have T:rr=jW F 8:=(by have:=CJ F 8 0 rfl;rw[RR.o,<-this];simp[M.wordTo]);have ER:=aA T;clear T;go_wp2_with fail;go_ret;exact⟨congrArg (fun z:Nat=>Ending.returned (.int .u64 z)) ER.o.symm,nT K0.o t.o⟩
theorem OE(I:Img)(V:ImV)(g:Nat)(c b:Nat)(hg:g<I.np)(i:(I.pg g).cl=(b:Int))(h7:b<=7)(z:(I.pg g).kd=4->∃ l:Nat,(I.pg g).lv=(l:Int)/\l<=celN9 b)(w:Wd)(Z:ImD w I V):Calls prog 136 #[imA I V,.int .i64 g,.int .i64 c] w fun e w'=>e=.returned (.bool (prS (c:Int) (I.pg g)))/\Kt nO w w':=by
 obtain⟨⟨ma,mc,hm⟩,⟨pa,pc,hp⟩,⟨ra,rc,hr⟩,⟨ha,hc,hh⟩,⟨ta,S,ht⟩,-⟩:=Z.sl;obtain⟨vm,vp,vr,vh,vt⟩:=V;dsimp only at hm hp hr hh ht;subst hm hp hr hh ht;have m:=aA (show ImAt (w.alloc (imO I _)) w.heap.size I _ from⟨nH _ _,Z.dk ((Kt.refl _ w).alloc _)⟩);have K0:=aA (show Kt nO w (w.alloc (imO I _))from(Kt.refl _ w).alloc (imO I ⟨.slice ma I.nm mc,.slice pa I.np pc,.slice ra I.no rc,.slice ha I.hd.length hc,.slice ta I.pt.length S⟩));obtain⟨c0,c1,c2,c3,c4,c5,c6,c7,c8⟩:=m.o.cells;obtain⟨bl,oo,oc,hv,-,u⟩:=m.o.ew g hg
 cases hv
 obtain⟨d0,d1,d2,d3,d4,d5,d6,d7,d8,d9,a0⟩:=u.c;have a1:(g:Int)<I.np:=by omega
 have J:=aA (fun W=>sJ (I.pg g) b i h7 W);obtain⟨t,q⟩:=xe (prS (c:Int) (I.pg g));rw[<-q];have s:=aA (show t=(decide ((I.pg g).kd=4) && (decide ((I.pg g).cl=(c:Int)) && !decide ((I.pg g).lv=(celN9 b:Int))))by rw[q,prS,i,aa]);have r:=aA z;have HC:=aA i;generalize I.pg g=p at *;clear Z u hg q z i;go_enter func136,ntmps136;go_upto_region 2 with fail;refine kO (P:=fun W=>Code.wp prog _ _ _ W) _ ?_;intro a U;have k1:Kt nO (w.alloc (imO I ⟨.slice ma I.nm mc,.slice (some ⟨bl,oo,none⟩) I.np pc,.slice ra I.no rc,.slice ha I.hd.length hc,.slice ta I.pt.length S⟩)) a:=by subst U;exact(Kt.refl _ _).alloc _
 have X1:a.heap[w.heap.size+1]?=some (aV p):=by subst U;have:=nH (w.alloc (imO I ⟨.slice ma I.nm mc,.slice (some ⟨bl,oo,none⟩) I.np pc,.slice ra I.no rc,.slice ha I.hd.length hc,.slice ta I.pt.length S⟩)) (aV p);rwa [World.size_alloc] at this
 have L:=aA (nT K0.o k1);generalize w.heap.size+1=pb at *;have X:∀ x:KW a,x.v.heap[pb]?=some (aV p):=fun x=>(x.k.block _ (lH X1) (fun y=>y)).trans X1
 clear U k1 X1 c0 c1 c2 c3 c4 c5 c6 c7 c8 d0 d1 d2 d3 d4 d5 d6 d7 d8 d9 a0 m;have C:∀ x:KW a,x.v.cell? ⟨pb,0,none⟩=some (.int .i64 p.kd):=fun x=>by simp[World.cell?,X x]
 have G:∀ x:KW a,x.v.cell? ⟨pb,1,none⟩=some (.int .i64 p.od):=fun x=>by simp[World.cell?,X x]
 have Q:∀ x:KW a,x.v.cell? ⟨pb,2,none⟩=some (.int .i64 p.cl):=fun x=>by simp[World.cell?,X x]
 have N:∀ x:KW a,x.v.cell? ⟨pb,3,none⟩=some (.int .i64 p.lv):=fun x=>by simp[World.cell?,X x]
 have B:∀ x:KW a,x.v.cell? ⟨pb,4,none⟩=some (.int .i64 p.nx):=fun x=>by simp[World.cell?,X x]
 have D:∀ x:KW a,x.v.cell? ⟨pb,5,none⟩=some (.int .i64 p.pv):=fun x=>by simp[World.cell?,X x]
 have R:∀ x:KW a,x.v.cell? ⟨pb,6,none⟩=some (.int .i64 p.fs):=fun x=>by simp[World.cell?,X x]
 have K:∀ x:KW a,x.v.cell? ⟨pb,7,none⟩=some (.int .u64 p.b0):=fun x=>by simp[World.cell?,X x]
 have E:∀ x:KW a,x.v.cell? ⟨pb,8,none⟩=some (.int .u64 p.b1):=fun x=>by simp[World.cell?,X x]
 have F:∀ x:KW a,x.v.cell? ⟨pb,9,none⟩=some (.int .u64 p.b2):=fun x=>by simp[World.cell?,X x]
 have f:∀ x:KW a,x.v.cell? ⟨pb,10,none⟩=some (.int .u64 p.b3):=fun x=>by simp[World.cell?,X x]
 by_cases h:p.kd=4
 case neg=>
  have q1:(p.kd == 4)=false:=by rw[ag];exact h
  have n:t=false:=by rw[s.o,ah h];rfl
  subst n;clear h;refine cR (by kernel_rfl) (by kernel_rfl) ?_;repeat (go_big_quiet_step (first|(go_at_call 132;exact Calls.ek (J.o _))))
  refine wpQuiet_nil ?_;intro y;have o:=aA (nT L.o y.k);clear C G Q N B D R K E F f X;generalize y.v=W6 at *;go_wp2_with fail;go_ret;exact⟨rfl,o.o⟩
 have q1:(p.kd == 4)=true:=by rw[cu];exact h
 obtain⟨l,hl,d⟩:=r.o h;have HL:=aA hl;have A:=aA d;by_cases j:p.cl=(c:Int)
 case neg=>
  have q2:(p.cl == (c:Int))=false:=by rw[ag];exact j
  have n:t=false:=by rw[s.o,ah j];simp
  subst n;clear h j hl d;refine cR (by kernel_rfl) (by kernel_rfl) ?_;repeat (go_big_quiet_step (first|(go_at_call 132;exact Calls.ek (J.o _))))
  refine wpQuiet_nil ?_;intro y;have o:=aA (nT L.o y.k);clear C G Q N B D R K E F f X;generalize y.v=W6 at *;go_wp2_with fail;go_ret;exact⟨rfl,o.o⟩
 have q2:(p.cl == (c:Int))=true:=by rw[cu];exact j
 by_cases T:l=celN9 b
 ·have Y:¬p.lv<(celN9 b:Int):=by omega
  have q4:decide (p.lv<(celN9 b:Int))=false:=ah Y;have n:t=false:=by rw[s.o,hl,T];simp
  subst n;generalize celN9 b=cn at *;clear h j T hl d HL A;clear r s;refine cR (by kernel_rfl) (by kernel_rfl) ?_;repeat (go_big_quiet_step (first|(go_at_call 132;exact Calls.ek (J.o _))))
  refine wpQuiet_nil ?_;intro y;have o:=aA (nT L.o y.k);clear C G Q N B D R K E F f X;generalize y.v=W6 at *;go_wp2_with fail;go_ret;exact⟨rfl,o.o⟩
 ·have Y:p.lv<(celN9 b:Int):=by omega
  have q4:decide (p.lv<(celN9 b:Int))=true:=af Y;have n:t=true:=by rw[s.o,af h,af j,ah (by omega)];rfl
  subst n;generalize celN9 b=cn at *;clear h j T hl d HL A;clear r s;refine cR (by kernel_rfl) (by kernel_rfl) ?_;repeat (go_big_quiet_step (first|(go_at_call 132;exact Calls.ek (J.o _))))
  refine wpQuiet_nil ?_;intro y;have o:=aA (nT L.o y.k);clear C G Q N B D R K E F f X;generalize y.v=W6 at *;go_wp2_with fail;go_ret;exact⟨rfl,o.o⟩
theorem tB{I:Img}{a m:Nat}(c:m<I.np/2 ^ (a+1))(b:∀ x,x<m->x<I.np/2 ^ (a+1)->aE (I.pr a) x=onF I a x)(d:¬aE (I.pr a) m=onF I a m):r7k I a=some (m*2 ^ (a+1)):=by unfold r7k;rw[fY c (fun x hx=>by rw[b x hx (by omega)];simp) (by simpa using d)]
theorem zkz{I:Img}{a m:Nat}(f:I.np/2 ^ (a+1)<=m)(hl:m<64*(I.pr a).length)(c:∀ x,x<m->x<I.np/2 ^ (a+1)->aE (I.pr a) x=onF I a x)(b:aE (I.pr a) m=true):r7k I a=some I.np:=by
 unfold r7k;rw[fst1_ok (fun x hx=>by rw[c x (by omega) hx];simp)];show(if _ then _ else _)=_
 rw[ac];intro e;rcases nxtN_of (n:=64*(I.pr a).length) (ws:=I.pr a) (k:=I.np/2 ^ (a+1))with ⟨g,d⟩|⟨j,g,-⟩
 ·rw[d m f hl] at b;cases b
 ·omega
theorem r7k_good{I:Img}{a:Nat}(f:∀ x,x<I.np/2 ^ (a+1)->aE (I.pr a) x=onF I a x)(g:∀ x,I.np/2 ^ (a+1)<=x->x<64*(I.pr a).length->aE (I.pr a) x=false):r7k I a=none:=by
 unfold r7k;rw[fst1_ok (fun x hx=>by rw[f x hx];simp)];show(if _ then _ else _)=_
 rw[ae];rcases nxtN_of (n:=64*(I.pr a).length) (ws:=I.pr a) (k:=I.np/2 ^ (a+1))with ⟨d,c⟩|⟨j,d,c,e,b,-⟩
 ·exact d
 ·rw[g j c e] at b;cases b
structure B7(I:Img)(a m:Nat):Prop where
 lo:∀ x,x<m->x<I.np/2 ^ (a+1)->aE (I.pr a) x=onF I a x
 hi:∀ x,I.np/2 ^ (a+1)<=x->x<m->aE (I.pr a) x=false
theorem YY(I:Img)(V:ImV)(k r:Nat)(hS:Sn9 I k r)(w:Wd)(hI:ImD w I V):Calls prog 83 #[imA I V] w fun e w'=>e=.returned (.int .i64 (fA (r7 I)))/\Kt nO w w':=by
 obtain⟨⟨ma,mc,hm⟩,⟨pa,pc,hp⟩,⟨ra,rc,hr⟩,⟨ha,hc,hh⟩,⟨ta,tc,ht⟩,-⟩:=hI.sl;obtain⟨vm,vp,vr,vh,vt⟩:=V;dsimp only at hm hp hr hh ht;subst hm hp hr hh ht;have d5:=aA (show ImAt (w.alloc (imO I _)) w.heap.size I _ from⟨nH _ _,hI.dk ((Kt.refl _ w).alloc _)⟩);have K0:=aA (show Kt nO w (w.alloc (imO I _))from(Kt.refl _ w).alloc (imO I ⟨.slice ma I.nm mc,.slice pa I.np pc,.slice ra I.no rc,.slice ha I.hd.length hc,.slice ta I.pt.length tc⟩));obtain⟨c0,c1,c2,c3,c4,c5,t,c7,E⟩:=d5.o.cells;have d8:=aA hS.gj;have s:=aA hS.k8;have HO:=aA hS.ord;have h9:=aA hS.no;have HS:=aA hS;obtain⟨rr,a0⟩:=xe (fA (r7 I));rw[<-a0];have h5:=aA (show ∀ a p,a<k->(∀ j,j<a->r7k I j=none)->r7k I a=some p->rr=(p:Int)from fun a p u F h3=>by rw[a0,r7,FV (by rw[hS.no];exact u) F h3];rfl);have e7:=aA (show(∀ j,j<k->r7k I j=none)->rr = -1 from fun h=>by rw[a0,r7,fstO_ok (fun a ha=>h a (by rw[<-hS.no];exact ha))];rfl);have OP:=aA (fun g o hg W hI=>uW I ⟨.slice ma I.nm mc,.slice pa I.np pc,.slice ra I.no rc,.slice ha I.hd.length hc,.slice ta I.pt.length tc⟩ g o hg W hI);clear hI a0 hS;go_enter func83,ntmps83;go_wp2_with fail;clear c0 c1 c2 c3 c4 c5 t c7 E;generalize w.heap.size=ib at *;generalize w.alloc (imO I ⟨.slice ma I.nm mc,.slice pa I.np pc,.slice ra I.no rc,.slice ha I.hd.length hc,.slice ta I.pt.length tc⟩)=W0 at *;go_loopw [3] (fun iv W=>∃ a:Nat,a<=k/\iv=.int .i64 a/\Hd (Kt nO W0 W/\∀ j,j<a->r7k I j=none)) (fun iv _=>k-(intOf iv).toNat)
 case atStart=>exact⟨0,az _,rfl,aA ⟨Kt.refl _ _,fun j hj=>by omega⟩⟩
 case round=>
  obtain⟨a,h0,rfl,hG⟩:=hrel;have a3:=aA (d5.o.dk hG.o.1);obtain⟨c0,c1,c2,c3,c4,c5,t,c7,E⟩:=a3.o.cells;dsimp only at c5 t;by_cases f:a<k
  ·have i5:(a:Int)<I.ord:=(by rw[HO.o];omega);have K:=aA f;have D:=aA (fun p h=>h5.o a p f hG.o.2 h);have e6:=aA (show r7k I a=none->∀ j,j<a+1->r7k I j=none from fun eo j hj=>by
    by_cases e:j=a;·rw[e];exact eo
    ·exact hG.o.2 j (by omega))
   have KG:=aA hG.o.1;have HW:=aA (show wrap64 ((a:Int)+1)=((a+1:Nat):Int)by have:=s.o;rw[wrap64];omega);obtain⟨Q,hQ⟩:=xe (2 ^ (a+1));have PJ:=aA (fun W=>nE (a+1) (by have:=s.o;omega) W);obtain⟨P,hP⟩:=xe (2 ^ a);have PA:=aA (fun W=>nE a (by have:=s.o;omega) W);rw[<-hQ] at PJ;rw[<-hP] at PA;have h6 : 1<=Q:=(by rw[hQ];exact ax _);have e5:Q<=512:=(by rw[hQ];exact nD _ (by have:=s.o;omega));have d1:P<=512:=(by rw[hP];exact nD _ (by have:=s.o;omega));obtain⟨pn,Y⟩:=xe (I.np/Q);have a5:pn<=1024:=(by rw[Y];exact an (dg _ _) d8.o);have c:=aA (show pn=I.np/2 ^ (a+1)by rw[Y,hQ]);have l:=aA (show Q=2 ^ (a+1)/\P=2 ^ a/\Q<=512/\P<=512/\pn<=1024 from⟨hQ,hP,e5,d1,a5⟩);have s1:IntKind.i64.wrap ((a:Int)+1)=((a+1:Nat):Int):=(by have:=s.o;rw[cz];omega);have s2:(I.np:Int).tdiv (Q:Int)=pn:=(by rw[Y];rfl);have s3:(I.np:Int)/(Q:Int)=pn:=(by rw[Y];simp);have s4:IntKind.i64.wrap (pn:Int)=pn:=(by rw[cz];omega);have s5:¬(Q:Int)=0:=(by omega);have s6:((Q:Int) == 0)=false:=(by rw[ag];omega);have s7:¬(Q:Int) = -1:=(by omega);obtain⟨j1,b4⟩:=xe (a+1);rw[<-b4] at s1 PJ;have a7:=aA b4;clear hQ hP Y b4 h6 e5 d1 f h0 hG a5;go_wp2_with fail;clear c0 c1 c2 c3 c4 c5 t c7 E;obtain⟨c0,c1,c2,c3,c4,c5,t,c7,E⟩:=a3.o.all;dsimp only at c4 c5 t c7 E;refine cR (by kernel_rfl) (by kernel_rfl) ?_;repeat (go_big_quiet_step (first|(go_at_call 129;exact Calls.ek ((PJ.o _).mono fun _ _ ⟨u,F⟩=>⟨u,F▸Kt.refl _ _⟩))))
   refine wpQuiet_nil ?_;intro x;have e8:=aA (a3.o.dk x.k);have b6:=aA (nT KG.o x.k);clear c0 c1 c2 c3 c4 c5 t c7 E s1 s2 s3 s4 s5 s6 s7 a3 KG;generalize x.v=wq at *;obtain⟨c0,c1,c2,c3,c4,c5,t,c7,E⟩:=e8.o.cells;dsimp only at c5 t;go_wp2_with fail;clear c0 c1 c2 c3 c4 c5 t c7 E;obtain⟨L,hL⟩:=xe ((I.pr a).length);have R:=aA (show L=(I.pr a).length/\pn<=64*L/\L<=17 from⟨hL,by have:=HS.o.pl a K.o;rw[pwN,<-c.o,<-hL] at this;omega,by have:=HS.o.pl a K.o;rw[pwN,<-c.o,<-hL] at this;have:=l.o;omega⟩);clear hL;go_loopw [5] (fun mv W=>∃ m:Nat,m<=64*L/\mv=.int .i64 m/\Hd (Kt nO wq W/\B7 I a m)) (fun mv _=>64*L-(intOf mv).toNat)
   case atStart=>exact⟨0,az _,rfl,aA ⟨Kt.refl _ _,⟨fun x hx=>by omega,fun x u F=>by omega⟩⟩⟩
   case round=>
    obtain⟨m,hm,rfl,hJ⟩:=hrel;have KJ:=aA hJ.o.1;have C:=aA hJ.o.2;have G:=aA (e8.o.dk KJ.o);clear hJ;obtain⟨c0,c1,c2,c3,c4,c5,t,c7,E⟩:=G.o.cells;dsimp only at c5 t;obtain⟨ws,_,j0,i9,g8,e9⟩:=G.o.d.jg;injection g8 with e1 e2 e3
    subst e1;have d2:a<I.no:=(by rw[h9.o];exact K.o);rcases e9 with e9|⟨bl,o,rfl,_,f5⟩
    ·omega
    obtain⟨dw,b3,za,zc,b0,N⟩:=f5 a d2;have i8:(a:Int)<I.no:=(by omega);rw[b0,<-R.o.1] at dw;clear f5 e2 e3 d2;obtain⟨b5,U⟩:∃ x,x=64*L:=⟨_,rfl⟩;have l1 : 64*(L:Int)=b5:=(by omega);have i6:=aA U;by_cases f:m<64*L
    ·have f8:(m:Int)<b5:=(by omega);have i4:=R.o.2.2;have Z:=aA f;rcases N with N|⟨ad,rfl,-,N⟩
     ·have:=R.o.1;rw[N] at this;simp at this;omega
     obtain⟨q,hq⟩:=xe (m/64);obtain⟨rm,b7⟩:∃ q,q=m%64:=⟨_,rfl⟩;have d3:q<L:=(by omega);have xw:=N q (by rw[<-R.o.1];exact d3);obtain⟨wv,a2⟩:∃ x,x=(I.pr a).getD q 0:=⟨_,rfl⟩;have d6:wv<18446744073709551616:=(by rw[a2];exact b3 q);rw[<-a2] at xw;have f6:=aA (show aE (I.pr a) m=(wv/2 ^ rm%2 == 1)by unfold aE;rw[a2,hq,b7]);have g1:(m:Int)/64=(q:Int):=(by omega);have g2:(m:Int).tdiv 64=(q:Int):=(by rw[hq];rfl);have g3:(m:Int)%64=(rm:Int):=(by omega);have g4:(m:Int).tmod 64=(rm:Int):=(by rw[b7];rfl);have g5:(q:Int)<L:=(by omega);have e4:rm<64:=(by omega);have a6:=aA e4;have i7:q<=17:=(by have:=R.o.2.2;omega);have g6:=aA d6;have i:=aA (show wrap64 ((m:Int)+1)=((m+1:Nat):Int)by rw[wrap64];omega);clear b3 b0 N f hq b7 a2 U hm d3 d6;go_wp2_with fail;clear c0 c1 c2 c3 c4 c5 t c7 E xw dw;have d4:=aA (nT b6.o KJ.o);obtain⟨wy,b8⟩:∃ W,W=wr:=⟨_,rfl⟩;rw[<-b8] at KJ G d4;rw[<-b8];clear b8;go_loopw [6,7] (fun bv jv W=>∃ j:Nat,j<=rm/\jv=.int .i64 j/\bv=.int .u64 ((wv/2 ^ j:Nat):Int)/\W=wy) (fun _ jv _=>rm-(intOf jv).toNat)
     case atStart=>exact⟨0,az _,rfl,by simp,rfl⟩
     case round=>
      obtain⟨j,hj,rfl,rfl,rfl⟩:=hrel;obtain⟨z,hz⟩:=xe (wv/2 ^ j);have g9:z<18446744073709551616:=(by have:=g6.o;rw[hz];exact Nat.lt_of_le_of_lt (dg _ _) this);rw[<-hz];by_cases f:j<rm;·have h7:(j:Int)<rm:=(by omega);have HZ:=aA (show wv/2 ^ (j+1)=z/2 by rw[hz,co,Nat.div_div_eq_div_mul]);have c9:=aA f;have f0:=aA (show wrap64 ((j:Int)+1)=((j+1:Nat):Int)by have:=a6.o;rw[wrap64];omega);clear hz f hj;go_wp2_with fail;exact⟨⟨j+1,c9.o,by first|go_num|rw[f0.o],by rw[HZ.o];simp,by first|rfl|trivial⟩,by have:=c9.o;have:=a6.o;first|(rw[f0.o];simp only[intOf,aa];omega)|(simp[intOf];omega)⟩
      ·have h7:¬(j:Int)<rm:=(by omega);obtain⟨bv,a8⟩:∃ b,b=aE (I.pr a) m:=⟨_,rfl⟩;obtain⟨y,hy⟩:=xe (z%2);have f1:(z:Int)%2=(y:Int):=(by omega);have f2:(z:Int).tmod 2=(y:Int):=(by rw[hy];rfl);have f3:IntKind.u64.wrap (y:Int)=y:=(by rw[wrap_u64];omega);have f4:((y:Int) == 1)=bv:=by
        rw[a8,f6.o,show rm=j by omega,<-hz,<-hy];by_cases e:y=1;·rw[e];rfl
        ·have:¬(y:Int)=1:=by omega
         rw[ag.2 this,ag.2 e]
       have BV:=aA a8.symm;clear hz g9 f hj a8 hy;by_cases S:m<pn
       case neg=>
        have F:(pn:Int)<=m:=(by omega);have h3:¬(m:Int)<pn:=(by omega);obtain⟨c0,c1,c2,c3,c4,c5,t,c7,E⟩:=G.o.cells;dsimp only at c5
        cases bv with
        | true=>have J:=D.o I.np (zkz (by rw[<-c.o];omega) (by rw[<-R.o.1];exact Z.o) C.o.lo BV.o);clear S;subst J;go_wp2_with fail;go_ret;exact⟨rfl,nT K0.o d4.o⟩
        | false=>
         have B2:=aA (show B7 I a (m+1)from⟨fun x hx h=>C.o.lo x (by rw[c.o] at S;omega) h,fun x u F=>by
          by_cases e:x=m;·subst e;exact BV.o
          ·exact C.o.hi x u (by omega)⟩)
         clear S;go_wp2_with fail;go_round
         case rel=>exact⟨m+1,Z.o,by first|go_num|rw[i.o],aA ⟨KJ.o,B2.o⟩⟩
         case measure=>have:=Z.o;have:=R.o.2.2;first|(rw[i.o];simp only[intOf,aa];omega)|(simp[intOf];omega)
       have F:¬(pn:Int)<=m:=(by omega);have h3:(m:Int)<pn:=(by omega);have B:=aA S;have g7:=aA (show m*2 ^ (a+1)+2 ^ a<I.np from half_lt (by rw[<-c.o];exact S));obtain⟨A,T⟩:∃ p,p=m*Q:=⟨_,rfl⟩;have P9:=aA (show m*Q=A/\A+P<I.np/\A=m*2 ^ (a+1)from⟨T.symm,by have:=g7.o;rw[T,l.o.1,l.o.2.1];exact this,by rw[T,l.o.1]⟩);have n:=aA (show onF I a m=(isF (I.pg A) (a:Int) != isF (I.pg (A+P)) (a:Int))by rw[onF,P9.o.2.2,l.o.2.1]);obtain⟨b1,e0⟩:∃ b,b=isF (I.pg A) (a:Int):=⟨_,rfl⟩;obtain⟨b2,d9⟩:∃ b,b=isF (I.pg (A+P)) (a:Int):=⟨_,rfl⟩;have d0:=aA (fun W hW=>OP.o A (a:Int) (by have:=P9.o;omega) W hW);have b9:=aA (fun W hW=>OP.o (A+P) (a:Int) P9.o.2.1 W hW);rw[<-e0] at n d0;rw[<-d9] at n b9;obtain⟨p2,a9⟩:∃ p,p=A+P:=⟨_,rfl⟩;rw[<-a9] at b9;have i0:IntKind.i64.wrap ((a:Int)+1)=(j1:Int):=(by have:=a7.o;have:=s.o;have:=K.o;rw[cz];omega);have i1:(a:Int)+1=(j1:Int):=(by have:=a7.o;omega);have i2:(m:Int)*(Q:Int)=A:=(by rw[T,Int.natCast_mul]);have a4:A<=1024:=(by have:=P9.o;have:=d8.o;omega);have f9:a<=8:=(by have:=s.o;have:=K.o;omega);have g0:j1<=9:=(by have:=a7.o;omega);obtain⟨c0,c1,c2,c3,c4,c5,t,c7,E⟩:=G.o.cells;dsimp only at c5;have h8:=aA a9;clear S T e0 d9 a9;go_wp2_with fail;refine(PJ.o _).mono ?_;rintro e w5 ⟨rfl,rfl⟩;go_wp2_with fail;refine(d0.o _ G.o.d).mono ?_;rintro e w6 ⟨rfl,k6⟩;have d7:=aA (G.o.dk k6);have f7:=aA (nT KJ.o k6);clear k6 c0 c1 c2 c3 c4 c5 t c7 E i0 i1 i2;go_wp2_with fail;obtain⟨c0,c1,c2,c3,c4,c5,t,c7,E⟩:=d7.o.all;dsimp only at c4 c5 t c7 E;have i3:IntKind.i64.wrap ((A:Int)+(P:Int))=(p2:Int):=(by have:=h8.o;have:=l.o;rw[cz];omega);refine cR (by kernel_rfl) (by kernel_rfl) ?_;repeat (go_big_quiet_step (first|(go_at_call 129;exact Calls.ek ((PA.o _).mono fun _ _ ⟨u,F⟩=>⟨u,F▸Kt.refl _ _⟩))|(go_at_call 133;exact Calls.ek (b9.o _ (d7.o.dk (KW.k _)).d))))
       refine wpQuiet_nil ?_;intro x;have X:=aA (nT f7.o x.k);have a1:=aA (nT b6.o X.o);clear c0 c1 c2 c3 c4 c5 t c7 E i3 a4 f9 g0;generalize x.v=wz at *
       cases b1 with
       | false=>
        cases b2 with
        | false=>
         cases bv with
         | false=>
          have B2:=aA (show B7 I a (m+1)from⟨fun x hx h=>by
           by_cases e:x=m;·subst e;rw[BV.o,n.o];decide
           ·exact C.o.lo x (by omega) h,fun x u F=>C.o.hi x u (by have:=B.o;rw[c.o] at this;omega)⟩)
          go_wp2_with fail;go_round
          case rel=>exact⟨m+1,Z.o,by first|go_num|rw[i.o],aA ⟨X.o,B2.o⟩⟩
          case measure=>have:=Z.o;have:=R.o.2.2;first|(rw[i.o];simp only[intOf,aa];omega)|(simp[intOf];omega)
         | true=>have J:=D.o (m*2 ^ (a+1)) (tB (by rw[<-c.o];exact B.o) C.o.lo (by rw[BV.o,n.o];decide));rw[show((m*2 ^ (a+1):Nat):Int)=(A:Int)by rw[<-l.o.1,P9.o.1]] at J;subst J;go_wp2_with fail;go_ret;exact⟨rfl,nT K0.o a1.o⟩
        | true=>
         cases bv with
         | false=>have J:=D.o (m*2 ^ (a+1)) (tB (by rw[<-c.o];exact B.o) C.o.lo (by rw[BV.o,n.o];decide));rw[show((m*2 ^ (a+1):Nat):Int)=(A:Int)by rw[<-l.o.1,P9.o.1]] at J;subst J;go_wp2_with fail;go_ret;exact⟨rfl,nT K0.o a1.o⟩
         | true=>
          have B2:=aA (show B7 I a (m+1)from⟨fun x hx h=>by
           by_cases e:x=m;·subst e;rw[BV.o,n.o];decide
           ·exact C.o.lo x (by omega) h,fun x u F=>C.o.hi x u (by have:=B.o;rw[c.o] at this;omega)⟩)
          go_wp2_with fail;go_round
          case rel=>exact⟨m+1,Z.o,by first|go_num|rw[i.o],aA ⟨X.o,B2.o⟩⟩
          case measure=>have:=Z.o;have:=R.o.2.2;first|(rw[i.o];simp only[intOf,aa];omega)|(simp[intOf];omega)
       | true=>
        cases b2 with
        | false=>
         cases bv with
         | false=>have J:=D.o (m*2 ^ (a+1)) (tB (by rw[<-c.o];exact B.o) C.o.lo (by rw[BV.o,n.o];decide));rw[show((m*2 ^ (a+1):Nat):Int)=(A:Int)by rw[<-l.o.1,P9.o.1]] at J;subst J;go_wp2_with fail;go_ret;exact⟨rfl,nT K0.o a1.o⟩
         | true=>
          have B2:=aA (show B7 I a (m+1)from⟨fun x hx h=>by
           by_cases e:x=m;·subst e;rw[BV.o,n.o];decide
           ·exact C.o.lo x (by omega) h,fun x u F=>C.o.hi x u (by have:=B.o;rw[c.o] at this;omega)⟩)
          go_wp2_with fail;go_round
          case rel=>exact⟨m+1,Z.o,by first|go_num|rw[i.o],aA ⟨X.o,B2.o⟩⟩
          case measure=>have:=Z.o;have:=R.o.2.2;first|(rw[i.o];simp only[intOf,aa];omega)|(simp[intOf];omega)
        | true=>
         cases bv with
         | false=>
          have B2:=aA (show B7 I a (m+1)from⟨fun x hx h=>by
           by_cases e:x=m;·subst e;rw[BV.o,n.o];decide
           ·exact C.o.lo x (by omega) h,fun x u F=>C.o.hi x u (by have:=B.o;rw[c.o] at this;omega)⟩)
          go_wp2_with fail;go_round
          case rel=>exact⟨m+1,Z.o,by first|go_num|rw[i.o],aA ⟨X.o,B2.o⟩⟩
          case measure=>have:=Z.o;have:=R.o.2.2;first|(rw[i.o];simp only[intOf,aa];omega)|(simp[intOf];omega)
         | true=>have J:=D.o (m*2 ^ (a+1)) (tB (by rw[<-c.o];exact B.o) C.o.lo (by rw[BV.o,n.o];decide));rw[show((m*2 ^ (a+1):Nat):Int)=(A:Int)by rw[<-l.o.1,P9.o.1]] at J;subst J;go_wp2_with fail;go_ret;exact⟨rfl,nT K0.o a1.o⟩
    ·have f8:¬(m:Int)<b5:=(by omega);have i4:=R.o.2.2;have EO:=aA (e6.o (r7k_good (fun x hx=>C.o.lo x (by have:=R.o.2.1;rw[c.o] at this;omega) hx) (fun x u F=>C.o.hi x u (by rw[<-R.o.1] at F;omega))));have h4:=aA (nT b6.o KJ.o);clear f hm U b3 b0 N;go_wp2_with fail;go_round
     case rel=>exact⟨a+1,by have:=K.o;omega,by first|go_num|rw[HW.o],aA ⟨h4.o,EO.o⟩⟩
     case measure=>have:=K.o;have:=s.o;first|(rw[HW.o];simp only[intOf,aa];omega)|(simp[intOf];omega)
  ·have i5:¬(a:Int)<I.ord:=(by rw[HO.o];omega);have J:=e7.o (fun j hj=>hG.o.2 j (by omega));subst J;go_wp2_with fail;go_ret;exact⟨rfl,nT K0.o hG.o.1⟩
end W
end Go.Proofs.YtfmgnljlkdmndaaGreatDoor
