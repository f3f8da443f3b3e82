import Derived.Test.YtfmgnljlkdmndaaGreatDoorWa
set_option maxRecDepth 1000000
set_option maxHeartbeats 80000000
namespace Go.Proofs.YtfmgnljlkdmndaaGreatDoor.W
open Tryz
open Go.RowKit
set_option linter.unusedVariables false
theorem zE(i:Nat)(hi:i<=100000)(w:World):
  Calls prog 184 #[.int .i64 i] w fun e g=>e=.returned (.int .u64 ((2 ^ (i%64):Nat):Int))/\g=w:=by
 obtain⟨r,a⟩:=xe (i%64);have j:(i:Int)%64=(r:Int):=by omega
 have b:r<64:=by omega
 rw[<-a];clear a;go_enter func184,ntmps184;go_wp2_with fail;go_loop [3,4] (fun x i=>∃ k:Nat,k<=r/\i=.int .i64 k/\x=.int .u64 ((2 ^ k:Nat):Int)) (fun _ i=>r-(intOf i).toNat)
 case atStart=>exact⟨0,by omega,rfl,rfl⟩
 case round=>
  obtain⟨k,m,rfl,rfl⟩:=hrel;by_cases l:k<r
  ·have h:(k:Int)<r:=(by omega);have hp : 2 ^ (k+1)=2 ^ k*2:=ci 2 k;have hb : 2 ^ (k+1)<=2 ^ 63:=(mM _ _).2 (by omega);obtain⟨z,hz⟩:=xe (2 ^ k);have c:=aA (show 2 ^ (k+1)=z*2 by rw[hz,hp]);have d:z*2<=9223372036854775808:=(by rw[c.o] at hb;exact hb);rw[<-hz];have f:((z:Int)*2)%18446744073709551616=((z*2:Nat):Int):=(by omega);clear hz hb hp;go_wp2_with fail;exact⟨⟨k+1,by omega,by simp,by rw[c.o];simp⟩,by simp[intOf];omega⟩
  ·obtain rfl:k=r:=(by omega);go_wp2_with fail;go_ret;exact⟨rfl,rfl⟩
theorem WO{w:World}{x:Nat}{p:Pg}(h:w.heap[x]?=some (aW p))(k:Nat)(a:k<4):w.cell? ⟨x,7+k,none⟩=some (.int .u64 (((wsP p).getD k 0:Nat):Int)):=by
 match k,a with
 | 0,_=>simp[World.cell?,h]
 | 1,_=>simp[World.cell?,h]
 | 2,_=>simp[World.cell?,h]
 | 3,_=>simp[World.cell?,h]
 | _+4,a=>omega
theorem QM{p:Pg}(ok:PgIn p)(k:Nat):(wsP p).getD k 0<18446744073709551616:=by
 match k with
 | 0=>exact ok.b0
 | 1=>exact ok.b1
 | 2=>exact ok.b2
 | 3=>exact ok.b3
 | k+4=>simp[List.getD]
theorem rV(p:Pg)(ok:PgIn p)(c:Nat)(hc:c<256)(w:World):
  Calls prog 131 #[gX p,.int .i64 c] w fun e B=>e=.returned (.bool (aE (wsP p) c))/\Kt nO w B:=by
 obtain⟨k,a⟩:=xe (c/64);obtain⟨r,f⟩:=xe (c%64);obtain⟨z,hz⟩:=xe (2 ^ r);obtain⟨x,hx⟩:=xe ((wsP p).getD k 0);obtain⟨y,hy⟩:=xe (x/z);obtain⟨b,hb⟩:=xe (y%2);have q:x<18446744073709551616:=by rw[hx];exact QM ok k
 have l : 1<=z:=by rw[hz];exact ap (by decide)
 have m:y<=x:=by rw[hy];exact df _ _
 have h:aE (wsP p) c=decide ((b:Int)=1):=by
  have:aE (wsP p) c=(b == 1):=by unfold aE;rw[<-a,<-f,<-hz,<-hx,<-hy,<-hb]
  rw[this];by_cases e:b=1
  ·simp[e]
  ·have:¬(b:Int)=1:=by omega
   simp[e,this]
 have o:=aA ((Kt.refl nO w).alloc (aW p));have s:=aA (nH w (aW p));have C:=aA (show 2 ^ (c%64)=z by rw[hz,f]);have j:=aA hx;rw[h];have d:k<4:=by omega
 have D:(c:Int)/64=(k:Int):=by omega
 have F:(c:Int).tdiv 64=(k:Int):=by rw[a];rfl
 have G:(x:Int)/(z:Int)=y:=by rw[hy];simp
 have v:(x:Int).tdiv (z:Int)=y:=by rw[hy];rfl
 have n:(y:Int)%2=(b:Int):=by omega
 have t:(y:Int).tmod 2=(b:Int):=by rw[hb];rfl
 have u:¬(z:Int)=0:=by omega
 have E:IntKind.i64.wrap (k:Int)=k:=by rw[IntKind.wrap_i64];omega
 have A:IntKind.u64.wrap (y:Int)=y:=by rw[wrap_u64];omega
 have i:IntKind.u64.wrap (b:Int)=b:=by rw[wrap_u64];omega
 have g:(k:Int)<4:=by omega
 clear h a f hz hx hy hb;go_enter func131,ntmps131;go_wp2_with fail;generalize w.alloc (aW p)=J at *;have c7:=WO s.o k d;rw[<-j.o] at c7;have I:J.drew.cell? ⟨w.heap.size,7+k,none⟩=some (.int .u64 x):=c7;go_region_with (go_at_call 184;refine(zE c (by omega) _).mono ?_;rintro e K ⟨rfl,rfl⟩;rw[C.o])
 all_goals
  go_wp2_with fail;go_ret;exact⟨rfl,o.o.drew⟩
def jX(f:Nat->Nat):Nat->Nat
 | 0=>0
 | d+1=>jX f d*256+f (7-d)
theorem zZ(f:Nat->Nat)(h:∀ i,i<8->f i<256):∀ d,d<=8->jX f d<256 ^ d
 | 0,_=>by simp[jX]
 | d+1,hd=>by have a:=zZ f h d (by omega);have b:=h (7-d) (by omega);rw[jX,ci];omega
theorem zY(f:Nat->Nat):∀ d e,d+e=8->jX f d*256 ^ e+M.wordTo f e=M.wordTo f 8
 | 0,e,h=>by
  have:e=8:=by omega
  rw[this];simp[jX]
 | d+1,e,h=>by rw[<-zY f d (e+1) (by omega),jX,show 7-d=e by omega,M.wordTo,av,ci,cx,aq 256];omega
theorem zX(I:Img)(V:ImV)(q:Nat)(hq:q+8<=I.nm)(s:I.nm<=4194304)(w:World)(J:ImD w I V):
  Calls prog 135 #[imA I V,.int .u64 q] w fun e w'=>e=.returned (.int .u64 ((M.word I.mem q:Nat):Int))/\Kt nO w w':=by
 obtain⟨⟨ma,X,R⟩,⟨Y,pc,hp⟩,⟨T,U,Z⟩,⟨ha,hc,hh⟩,⟨ta,L,P⟩,-⟩:=J.sl;obtain⟨vm,vp,vr,vh,vt⟩:=V;dsimp only at R hp Z hh P;subst R hp Z hh P;have h:=aA (show ImAt (w.alloc (aQ I _)) w.heap.size I _ from⟨nH _ _,J.keep ((Kt.refl _ w).alloc _)⟩);have K0:=aA (show Kt nO w (w.alloc (aQ I _))from(Kt.refl _ w).alloc (aQ I ⟨.slice ma I.nm X,.slice Y I.np pc,.slice T I.no U,.slice ha I.hd.length hc,.slice ta I.pt.length L⟩));obtain⟨c0,c1,c2,c3,c4,c5,N,c7,c8⟩:=h.o.cells;obtain⟨F,y⟩:=xe (fun i=>I.mem (q+i));have p:=aA (show ∀ i,F i=I.mem (q+i)from fun i=>by rw[y]);obtain⟨rr,c⟩:=xe (M.word I.mem q);rw[<-c];have RR:=aA (show rr=M.wordTo F 8 by rw[c,y];rfl);have j:=aA hq;have C:=aA s;clear J c y hq s;go_enter func135,ntmps135;go_wp2_with fail;clear c0 c1 c2 c3 c4 c5 N c7 c8;generalize w.heap.size=ib at *;generalize w.alloc (aQ I ⟨.slice ma I.nm X,.slice Y I.np pc,.slice T I.no U,.slice ha I.hd.length hc,.slice ta I.pt.length L⟩)=W0 at *;have n:=aA (show ∀ i,i<8->F i<256 from fun i hi=>by obtain⟨bl,o,e,-,hc⟩:=h.o.d.mem.at (q+i) (by have:=j.o;omega);rw[p.o];exact(hc (q+i) (by have:=j.o;omega)).1)
 go_loopw [5,6] (fun v u W=>∃ d e:Nat,d+e=8/\v=.int .u64 (jX F d:Int)/\u=.int .u64 e/\Hd (Kt nO W0 W)) (fun _ u _=>(intOf u).toNat)
 case atStart=>exact⟨0,8,rfl,rfl,rfl,aA (Kt.refl _ _)⟩
 case round=>
  obtain⟨d,e,B,rfl,rfl,t⟩:=hrel;have l:=aA (h.o.keep t.o);obtain⟨c0,c1,c2,c3,c4,c5,N,c7,c8⟩:=l.o.cells;dsimp only at c4;by_cases hlt : 0<e
  ·have E:(0:Int)<(e:Int):=(by omega);obtain⟨a,rfl⟩:∃ a,e=a+1:=⟨e-1,by omega⟩;obtain⟨bl,o,e1,-,hc⟩:=l.o.d.mem.at (q+a) (by have:=j.o;omega);obtain⟨K,r⟩:=hc (q+a) (by have:=j.o;omega);subst e1;obtain⟨D,hD⟩:=xe (jX F d);obtain⟨x,hx⟩:=xe (F a);rw[<-p.o,<-hx] at K r;have f:=zZ F n.o d (by omega);rw[<-hD] at f ⊢;have a0:D<72057594037927936:=bg f (by exact bj (by decide) (show d<=7 by omega));have DN:=aA (show jX F (d+1)=D*256+x by rw[jX,<-hD,show 7-d=a by omega,hx]);obtain⟨g,hg⟩:=xe (q+a);rw[<-hg] at r;obtain⟨k,b⟩:=xe (a+1);obtain⟨m,A⟩:=xe (g+1);have a3:m<=4194304:=(by have:=j.o;have:=C.o;omega);have G:g<I.nm:=(by have:=j.o;omega);have a2:(g:Int)<I.nm:=(by omega);have s1:IntKind.u64.wrap ((q:Int)+(k:Int))=(m:Int):=(by rw[wrap_u64];omega);have a1:(q:Int)+(k:Int)=m:=(by omega);have s2:IntKind.u64.wrap ((m:Int)-1)=(g:Int):=(by rw[wrap_u64];omega);have a4:(m:Int)-1=(g:Int):=(by omega);have s3:IntKind.u64.wrap ((k:Int)-1)=(a:Int):=(by rw[wrap_u64];omega);have a5:(k:Int)-1=(a:Int):=(by omega);have s5:IntKind.u64.wrap ((D:Int)*256+(x:Int))=((D*256+x:Nat):Int):=(by rw[wrap_u64];omega);have s6:IntKind.u64.wrap (x:Int)=x:=(by rw[wrap_u64];omega);rw[<-b];have Q:(0:Int)<(k:Int):=(by omega);have S:=aA (show d+1+a=8/\k=a+1 from⟨by omega,b⟩);have S5:=aA s5;have KG:=aA t.o;clear hlt E B hc f hD hx hg b A G t s5;go_wp2_with fail;exact⟨⟨d+1,a,S.o.1,by rw[DN.o];simp,rfl,KG⟩,by have:=S.o.2;simp only[intOf,aa];omega⟩
  ·obtain rfl:e=0:=(by omega);obtain rfl:d=8:=(by omega);have er:rr=jX F 8:=(by have:=zY F 8 0 rfl;rw[RR.o,<-this];simp[M.wordTo]);have ER:=aA er;clear er;go_wp2_with fail;go_ret;exact⟨congrArg (fun z:Nat=>Ending.returned (.int .u64 z)) ER.o.symm,nT K0.o t.o⟩
theorem QL(I:Img)(V:ImV)(g:Nat)(c b:Nat)(hg:g<I.np)(h:(I.pg g).cl=(b:Int))(h7:b<=7)(z:(I.pg g).kd=4->∃ l:Nat,(I.pg g).lv=(l:Int)/\l<=celN9 b)(w:World)(Z:ImD w I V):
  Calls prog 136 #[imA I V,.int .i64 g,.int .i64 c] w fun e w'=>e=.returned (.bool (prS (c:Int) (I.pg g)))/\Kt nO w w':=by
 obtain⟨⟨ma,mc,hm⟩,⟨pa,pc,hp⟩,⟨U,Y,hr⟩,⟨ha,hc,hh⟩,⟨ta,S,ht⟩,-⟩:=Z.sl;obtain⟨vm,vp,vr,vh,vt⟩:=V;dsimp only at hm hp hr hh ht;subst hm hp hr hh ht;have r:=aA (show ImAt (w.alloc (aQ I _)) w.heap.size I _ from⟨nH _ _,Z.keep ((Kt.refl _ w).alloc _)⟩);have K0:=aA (show Kt nO w (w.alloc (aQ I _))from(Kt.refl _ w).alloc (aQ I ⟨.slice ma I.nm mc,.slice pa I.np pc,.slice U I.no Y,.slice ha I.hd.length hc,.slice ta I.pt.length S⟩));obtain⟨c0,c1,c2,c3,c4,c5,c6,c7,c8⟩:=r.o.cells;obtain⟨bl,oo,oc,hv,-,t⟩:=r.o.page g hg
 cases hv
 obtain⟨d0,d1,d2,d3,d4,d5,d6,d7,d8,d9,a0⟩:=t.c;have a1:(g:Int)<I.np:=by omega
 have K:=aA (fun W=>sK (I.pg g) b h h7 W);obtain⟨A,n⟩:=xe (prS (c:Int) (I.pg g));rw[<-n];have s:=aA (show A=(decide ((I.pg g).kd=4) && (decide ((I.pg g).cl=(c:Int)) && !decide ((I.pg g).lv=(celN9 b:Int))))by rw[n,prS,h,aa]);have j:=aA z;have HC:=aA h;generalize I.pg g=p at *;clear Z t hg n z h;go_enter func136,ntmps136;go_upto_region 2 with fail;refine kP (P:=fun W=>Code.wp prog _ _ _ W) _ ?_;intro a hW;have k1:Kt nO (w.alloc (aQ I ⟨.slice ma I.nm mc,.slice (some ⟨bl,oo,none⟩) I.np pc,.slice U I.no Y,.slice ha I.hd.length hc,.slice ta I.pt.length S⟩)) a:=by subst hW;exact(Kt.refl _ _).alloc _
 have X1:a.heap[w.heap.size+1]?=some (aW p):=by subst hW;have:=nH (w.alloc (aQ I ⟨.slice ma I.nm mc,.slice (some ⟨bl,oo,none⟩) I.np pc,.slice U I.no Y,.slice ha I.hd.length hc,.slice ta I.pt.length S⟩)) (aW p);rwa [World.size_alloc] at this
 have B:=aA (nT K0.o k1);generalize w.heap.size+1=pb at *;have X:∀ x:KW a,x.v.heap[pb]?=some (aW p):=fun x=>(x.k.block _ (lH X1) (fun y=>y)).trans X1
 clear hW k1 X1 c0 c1 c2 c3 c4 c5 c6 c7 c8 d0 d1 d2 d3 d4 d5 d6 d7 d8 d9 a0 r;have G:∀ x:KW a,x.v.cell? ⟨pb,0,none⟩=some (.int .i64 p.kd):=fun x=>by simp[World.cell?,X x]
 have E:∀ x:KW a,x.v.cell? ⟨pb,1,none⟩=some (.int .i64 p.od):=fun x=>by simp[World.cell?,X x]
 have C:∀ x:KW a,x.v.cell? ⟨pb,2,none⟩=some (.int .i64 p.cl):=fun x=>by simp[World.cell?,X x]
 have F:∀ x:KW a,x.v.cell? ⟨pb,3,none⟩=some (.int .i64 p.lv):=fun x=>by simp[World.cell?,X x]
 have J:∀ x:KW a,x.v.cell? ⟨pb,4,none⟩=some (.int .i64 p.nx):=fun x=>by simp[World.cell?,X x]
 have L:∀ x:KW a,x.v.cell? ⟨pb,5,none⟩=some (.int .i64 p.pv):=fun x=>by simp[World.cell?,X x]
 have Q:∀ x:KW a,x.v.cell? ⟨pb,6,none⟩=some (.int .i64 p.fs):=fun x=>by simp[World.cell?,X x]
 have R:∀ x:KW a,x.v.cell? ⟨pb,7,none⟩=some (.int .u64 p.b0):=fun x=>by simp[World.cell?,X x]
 have D:∀ x:KW a,x.v.cell? ⟨pb,8,none⟩=some (.int .u64 p.b1):=fun x=>by simp[World.cell?,X x]
 have N:∀ x:KW a,x.v.cell? ⟨pb,9,none⟩=some (.int .u64 p.b2):=fun x=>by simp[World.cell?,X x]
 have f:∀ x:KW a,x.v.cell? ⟨pb,10,none⟩=some (.int .u64 p.b3):=fun x=>by simp[World.cell?,X x]
 by_cases i:p.kd=4
 case neg=>
  have q1:(p.kd == 4)=false:=by rw[ag];exact i
  have m:A=false:=by rw[s.o,ah i];rfl
  subst m;clear i;refine cS (by kernel_rfl) (by kernel_rfl) ?_;repeat (go_big_quiet_step (first|(go_at_call 132;exact Calls.kept_of (K.o _))))
  refine wpQuiet_nil ?_;intro y;have o:=aA (nT B.o y.k);clear G E C F J L Q R D N f X;generalize y.v=T at *;go_wp2_with fail;go_ret;exact⟨rfl,o.o⟩
 have q1:(p.kd == 4)=true:=by rw[co];exact i
 obtain⟨l,hl,d⟩:=j.o i;have HL:=aA hl;have u:=aA d;by_cases q:p.cl=(c:Int)
 case neg=>
  have q2:(p.cl == (c:Int))=false:=by rw[ag];exact q
  have m:A=false:=by rw[s.o,ah q];simp
  subst m;clear i q hl d;refine cS (by kernel_rfl) (by kernel_rfl) ?_;repeat (go_big_quiet_step (first|(go_at_call 132;exact Calls.kept_of (K.o _))))
  refine wpQuiet_nil ?_;intro y;have o:=aA (nT B.o y.k);clear G E C F J L Q R D N f X;generalize y.v=T at *;go_wp2_with fail;go_ret;exact⟨rfl,o.o⟩
 have q2:(p.cl == (c:Int))=true:=by rw[co];exact q
 by_cases h3:l=celN9 b
 ·have q3:¬p.lv<(celN9 b:Int):=by omega
  have q4:decide (p.lv<(celN9 b:Int))=false:=ah q3;have m:A=false:=by rw[s.o,hl,h3];simp
  subst m;generalize celN9 b=cn at *;clear i q h3 hl d HL u;clear j s;refine cS (by kernel_rfl) (by kernel_rfl) ?_;repeat (go_big_quiet_step (first|(go_at_call 132;exact Calls.kept_of (K.o _))))
  refine wpQuiet_nil ?_;intro y;have o:=aA (nT B.o y.k);clear G E C F J L Q R D N f X;generalize y.v=T at *;go_wp2_with fail;go_ret;exact⟨rfl,o.o⟩
 ·have q3:p.lv<(celN9 b:Int):=by omega
  have q4:decide (p.lv<(celN9 b:Int))=true:=af q3;have m:A=true:=by rw[s.o,af i,af q,ah (by omega)];rfl
  subst m;generalize celN9 b=cn at *;clear i q h3 hl d HL u;clear j s;refine cS (by kernel_rfl) (by kernel_rfl) ?_;repeat (go_big_quiet_step (first|(go_at_call 132;exact Calls.kept_of (K.o _))))
  refine wpQuiet_nil ?_;intro y;have o:=aA (nT B.o y.k);clear G E C F J L Q R D N f X;generalize y.v=T at *;go_wp2_with fail;go_ret;exact⟨rfl,o.o⟩
theorem rD{w a:World}(h:M.Kt M.nO w a):Kt nO w a:=⟨h.os,h.tape,h.output,h.size,h.block⟩
theorem ZJ(I:Img)(V:ImV)(k L:Nat)(hk:k<=8)(hL:L<=64)(a1:I.ord=(k:Int))(b3:I.lim=(L:Int))(w:World)(hI:ImD w I V):
  Calls prog 78 #[imA I V] w fun e w'=>e=.returned (.int .i64 (fE (r2 I k)))/\Kt nO w w':=by
 have a6:=hI.reg;have d9:=aA hI.hds.1;obtain⟨-,-,-,-,-,bm,bp,br,bt⟩:=hI.sl;obtain⟨⟨ma,mc,hm⟩,⟨pa,pc,hp⟩,⟨ra,rc,hr⟩,⟨ha,hc,hh⟩,⟨ta,tc,ht⟩,-⟩:=hI.sl;obtain⟨vm,vp,vr,vh,vt⟩:=V;dsimp only at hm hp hr hh ht;subst hm hp hr hh ht;have a0:=aA (show ImAt (w.alloc (aQ I _)) w.heap.size I _ from⟨nH _ _,hI.keep ((Kt.refl _ w).alloc _)⟩);have K0:=aA (show Kt nO w (w.alloc (aQ I _))from(Kt.refl _ w).alloc (aQ I ⟨.slice ma I.nm mc,.slice pa I.np pc,.slice ra I.no rc,.slice ha I.hd.length hc,.slice ta I.pt.length tc⟩));obtain⟨c0,c1,c2,c3,c4,c5,a,c7,c⟩:=a0.o.cells;have A:=aA (show LnI w ((w.alloc (aQ I ⟨.slice ma I.nm mc,.slice pa I.np pc,.slice ra I.no rc,.slice ha I.hd.length hc,.slice ta I.pt.length tc⟩)).alloc (.cells #[.int .u64 I.bS,.int .i64 I.lim,.int .i64 I.ord] 24 (0,0))) w.heap.size (w.heap.size+1) I ⟨.slice ma I.nm mc,.slice pa I.np pc,.slice ra I.no rc,.slice ha I.hd.length hc,.slice ta I.pt.length tc⟩from⟨a0.o.keep ((Kt.refl _ _).alloc _),by have:=nH (w.alloc (aQ I ⟨.slice ma I.nm mc,.slice pa I.np pc,.slice ra I.no rc,.slice ha I.hd.length hc,.slice ta I.pt.length tc⟩)) (.cells #[.int .u64 I.bS,.int .i64 I.lim,.int .i64 I.ord] 24 (0,0));rwa [World.size_alloc] at this,K0.o.alloc _⟩);obtain⟨S,Y⟩:=xe (fE (r2 I k));rw[<-Y];have G:=aA Y;have E:=aA a1;have C:=aA b3;have c9:=aA (M.pow8 k hk);have BM:=aA bm;have BP:=aA bp;have BR:=aA br;have d8:=aA a6;clear hI Y a1 b3 a0 K0 bm bp br a6;go_enter func78,ntmps78;go_upto_region 2 with fail;refine kP (P:=fun W=>Code.wp prog _ _ _ W) _ ?_;intro W0 hW;rw[<-hW] at A;clear hW c0 c1 c2 c3 c4 c5 a c7 c;generalize w.heap.size+1=g at *;generalize w.heap.size=ib at *;obtain⟨c0,c1,c2,c3,c4,c5,a,c7,c⟩:=A.o.im.cells;have B:W0.cell? ⟨g,1,none⟩=some (.int .i64 I.lim):=by simp[World.cell?,A.o.cf]
 rw[C.o] at B;have IN:=aA (fun W=>MJ I.reg 0 (L:Int) W);have y:wiB I.reg 0 I.lim=wiB I.reg 0 (L:Int):=by rw[C.o]
 obtain⟨b0,u⟩:∃ b,b=wiB I.reg 0 (L:Int):=⟨_,rfl⟩;rw[<-u] at IN y;go_wp2_with fail;refine(IN.o _).mono ?_;rintro e w1 ⟨rfl,rfl⟩;clear c0 c1 c2 c3 c4 c5 a c7 c B
 cases b0 with
 | false=>
  have m:S=0:=by rw[G.o,r2,y,ae rfl];rfl
  subst m;clear u y;go_wp2_with fail;go_ret;exact⟨rfl,A.o.k⟩
 | true=>
  have J : 0<=I.reg/\I.reg<=(L:Int):=by unfold wiB at u;exact bw u.symm
  obtain⟨r,hr⟩:=au J.1;have HR:=aA hr;have b7:r<=64:=by omega
  obtain⟨n,hn⟩:=xe (r*2 ^ k);have a4:n<=16384:=by rw[hn];exact an (Nat.mul_le_mul b7 c9.o.2) (by decide)
  obtain⟨P,hP⟩:=xe (2 ^ k);obtain⟨R,X⟩:=xe (M.RS k);have a3:R=4096*P:=by rw[X,M.RS,hP]
  have F:r*P=n:=by rw[hP,hn]
  obtain⟨z,hz⟩:=xe (n*4096);have d1:IntKind.u64.wrap ((r:Int)*(R:Int))=(z:Int):=by have e3:r*R=z:=(by rw[hz,<-F,a3,cx,aq P]);have Z:(r:Int)*(R:Int)=z:=(by rw[<-e3,Int.natCast_mul]);rw[Z,wrap_u64];omega
  have b8:IntKind.i64.wrap ((r:Int)*(P:Int))=(n:Int):=by have Z:(r:Int)*(P:Int)=n:=(by rw[<-F,Int.natCast_mul]);rw[Z,IntKind.wrap_i64];omega
  have b5:wrap64 ((r:Int)*(P:Int))=(n:Int):=by have Z:(r:Int)*(P:Int)=n:=(by rw[<-F,Int.natCast_mul]);rw[Z,wrap64];omega
  have HN:=aA (show I.reg.toNat*2 ^ k=n by rw[hr,aa,hn]);have l:=aA (show r2 I k=(if I.nm≠n*4096 then some 1 else if I.np≠n then some 2 else if I.no≠k then some 3 else if fst1 I.no (fun j=>decide ((I.pr j).length=fD I.np j))≠none then some 3 else if I.hd.length≠k+1 then some 4 else if I.pt.length≠8 then some 5 else none)by unfold r2;rw[ac (by rw[y];simp),HN.o]);have RC:=aA (fun W=>(M.R_any (I.bS:Int) (L:Int) k hk W).mono (fun e w' (h:e=.returned (.int .u64 ((M.RS k:Nat):Int))/\M.Kt M.nO W w')=>(⟨h.1,rD h.2⟩:e=.returned (.int .u64 ((M.RS k:Nat):Int))/\Kt nO W w')));rw[<-X] at RC;have PW:=aA (fun W=>nG k (by omega) W);rw[<-hP] at PW;have f1:IntKind.u64.wrap (I.nm:Int)=I.nm:=by have:=BM.o;rw[wrap_u64];omega
  have f2:IntKind.u64.wrap (r:Int)=r:=by rw[wrap_u64];omega
  have HZ:=aA hz;have b4:=aA a4;clear u y J hr hn hP X a3 F hz a4;obtain⟨c0,c1,c2,c3,c4,c5,a,c7,c⟩:=A.o.im.all;obtain⟨B,p⟩:=A.o.all;have q0:∀ x:KW w1,x.v.cell? ⟨g,0,none⟩=some (.int .u64 I.bS):=fun x=>by simp[World.cell?,(A.o.keep x.k).cf]
  rw[C.o] at B;rw[E.o] at p;rw[HR.o] at c3;dsimp only at c4 c5 a c7 c;by_cases f:I.nm=z
  case neg=>
   have K:((I.nm:Int) != (z:Int))=true:=(by rw[cu];omega);have m:S=1:=(by rw[G.o,l.o,<-HZ.o,ae f];rfl);clear f;subst m;go_wp2_with fail;refine cS (by kernel_rfl) (by kernel_rfl) ?_;repeat (go_big_quiet_step (first|(go_at_call 128;exact Calls.kept_of (RC.o _))))
   refine wpQuiet_nil ?_;intro x;have KX:=aA (nT A.o.k x.k);clear c0 c1 c2 c3 c4 c5 a c7 c q0 B p;generalize x.v=W1 at *;go_wp2_with fail;go_ret;exact⟨rfl,KX.o⟩
  have K:((I.nm:Int) != (z:Int))=false:=by rw[ay];omega
  have E1:=aA (show I.nm=n*4096 from f.trans HZ.o);clear f;go_wp2_with fail;refine cS (by kernel_rfl) (by kernel_rfl) ?_;repeat (go_big_quiet_step (first|(go_at_call 128;exact Calls.kept_of (RC.o _))))
  refine wpQuiet_nil ?_;intro x;have L1:=aA (A.o.keep x.k);clear c0 c1 c2 c3 c4 c5 a c7 c q0 B p A d1 f1 f2 K;generalize x.v=W1 at *;obtain⟨c0,c1,c2,c3,c4,c5,a,c7,c⟩:=L1.o.im.all;obtain⟨B,p⟩:=L1.o.all;rw[C.o] at B;rw[E.o] at p;rw[HR.o] at c3;dsimp only at c4 c5 a c7 c;by_cases f:I.np=n
  case neg=>
   have K:((I.np:Int) != (n:Int))=true:=(by rw[cu];omega);have m:S=2:=(by rw[G.o,l.o,ac (bi E1.o),ae f];rfl);clear f;subst m;go_wp2_with fail;refine cS (by kernel_rfl) (by kernel_rfl) ?_;repeat (go_big_quiet_step (first|(go_at_call 129;exact Calls.kept_of ((PW.o _).mono fun _ _ ⟨f,h2⟩=>⟨f,h2▸Kt.refl _ _⟩))))
   refine wpQuiet_nil ?_;intro x;have KX:=aA (nT L1.o.k x.k);clear c0 c1 c2 c3 c4 c5 a c7 c B p;generalize x.v=W1 at *;go_wp2_with fail;go_ret;exact⟨rfl,KX.o⟩
  have K:((I.np:Int) != (n:Int))=false:=by rw[ay];omega
  have E2:=aA f;clear f;go_wp2_with fail;refine cS (by kernel_rfl) (by kernel_rfl) ?_;repeat (go_big_quiet_step (first|(go_at_call 129;exact Calls.kept_of ((PW.o _).mono fun _ _ ⟨f,h2⟩=>⟨f,h2▸Kt.refl _ _⟩))))
  refine wpQuiet_nil ?_;intro x;have L2:=aA (L1.o.keep x.k);clear c0 c1 c2 c3 c4 c5 a c7 c B p L1 b8 b5 K;generalize x.v=W2 at *;obtain⟨c0,c1,c2,c3,c4,c5,a,c7,c⟩:=L2.o.im.cells;have p:W2.cell? ⟨g,2,none⟩=some (.int .i64 I.ord):=by simp[World.cell?,L2.o.cf]
  rw[E.o] at p;dsimp only at c4 c5 a c7 c;by_cases f:I.no=k
  case neg=>
   have K:((I.no:Int) != (k:Int))=true:=(by rw[cu];omega);have m:S=3:=(by rw[G.o,l.o,ac (bi E1.o),ac (bi E2.o),ae f];rfl);clear f;subst m;go_wp2_with fail;go_ret;exact⟨rfl,L2.o.k⟩
  have K:((I.no:Int) != (k:Int))=false:=by rw[ay];omega
  have U:=aA f;clear f;go_wp2_with fail;clear c0 c1 c2 c3 c4 c5 a c7 c p K;go_loopw [4] (fun iv W=>∃ j:Nat,j<=k/\iv=.int .i64 j/\Hd (LnI w W ib g I ⟨.slice ma I.nm mc,.slice pa I.np pc,.slice ra I.no rc,.slice ha I.hd.length hc,.slice ta I.pt.length tc⟩/\∀ x,x<j->decide ((I.pr x).length=fD I.np x)=true)) (fun iv _=>k-(intOf iv).toNat)
  case atStart=>exact⟨0,az _,rfl,aA ⟨L2.o,fun x hx=>by omega⟩⟩
  case round=>
   clear L2;obtain⟨j,hj,rfl,hR⟩:=hrel;have L3:=aA hR.o.1;have s:=aA hR.o.2;clear hR;obtain⟨c0,c1,c2,c3,c4,c5,a,c7,c⟩:=L3.o.im.cells;have p:wr.cell? ⟨g,2,none⟩=some (.int .i64 I.ord):=(by simp[World.cell?,L3.o.cf]);rw[E.o] at p;dsimp only at c4 c5 a c7 c;by_cases D:j<k
   ·have b9:(j:Int)<k:=(by omega);have HJ:=aA D;have d2:=aA (show j+1<=k from D);have HW:=aA (show wrap64 ((j:Int)+1)=((j+1:Nat):Int)by rw[wrap64];omega);clear D hj;obtain⟨Q,hQ⟩:=xe (2 ^ (j+1));have PJ:=aA (fun W=>nG (j+1) (by have:=HJ.o;omega) W);rw[<-hQ] at PJ;have d5 : 1<=Q:=(by rw[hQ];exact ax _);have d6:Q<=512:=(by rw[hQ];exact nF _ (by have:=HJ.o;omega));obtain⟨pn,t⟩:=xe (I.np/Q);have PN:=aA (show(pn+63)/64=fD I.np j by rw[fD,t,hQ]);have d3:pn<=16384:=(by have:=b4.o;rw[t,E2.o];exact an (df _ _) this);have s1:IntKind.i64.wrap ((j:Int)+1)=((j+1:Nat):Int):=(by have:=HJ.o;rw[IntKind.wrap_i64];omega);have s2:(I.np:Int).tdiv (Q:Int)=pn:=(by rw[t];rfl);have s3:(I.np:Int)/(Q:Int)=pn:=(by rw[t];simp);have s4:IntKind.i64.wrap (pn:Int)=pn:=(by rw[IntKind.wrap_i64];omega);have s5:¬(Q:Int)=0:=(by omega);have s6:((Q:Int) == 0)=false:=(by rw[ag];omega);have s7:¬(Q:Int) = -1:=(by omega);obtain⟨j1,a8⟩:=xe (j+1);rw[<-a8] at s1 PJ;clear hQ t a8;go_wp2_with fail;clear c0 c1 c2 c3 c4 c5 a c7 c p;obtain⟨c0,c1,c2,c3,c4,c5,a,c7,c⟩:=L3.o.im.all;dsimp only at c4 c5 a c7 c;refine cS (by kernel_rfl) (by kernel_rfl) ?_;repeat (go_big_quiet_step (first|(go_at_call 129;exact Calls.kept_of ((PJ.o _).mono fun _ _ ⟨f,h2⟩=>⟨f,h2▸Kt.refl _ _⟩))))
    refine wpQuiet_nil ?_;intro x;have L4:=aA (L3.o.keep x.k);clear c0 c1 c2 c3 c4 c5 a c7 c s1 s2 s3 s4 s5 s6 s7 L3;generalize x.v=W4 at *;obtain⟨c0,c1,c2,c3,c4,c5,a,c7,c⟩:=L4.o.im.cells;dsimp only at c4 c5 a c7 c;obtain⟨ws,_,d7,e0,b6,a7⟩:=L4.o.im.d.prs;injection b6 with e1 Z e3
    subst e1;have N:j<I.no:=(by rw[U.o];exact HJ.o);rcases a7 with a7|⟨bl,o,rfl,_,a9⟩
    ·omega
    obtain⟨d0,hz,za,zc,a5,_⟩:=a9 j N;rw[a5] at d0;have d4:(j:Int)<I.no:=(by omega);obtain⟨zl,T⟩:=xe ((I.pr j).length);rw[<-T] at d0;obtain⟨q,hq⟩:=xe (fD I.np j);have t1:((pn:Int)+63)/64=(q:Int):=(by rw[hq,<-PN.o];omega);have HQ:=aA hq;have b2:=aA T;clear a9 hz a5 T hq Z e3 N;by_cases h4:zl=q
    case neg=>
     have g4:((zl:Int) != (q:Int))=true:=(by rw[cu];omega);have m:S=3:=by
      rw[G.o,l.o,ac (bi E1.o),ac (bi E2.o),ac (bi U.o),ae]
      ·rfl
      ·rw[gA (i:=j) (by rw[U.o];exact HJ.o) s.o (ah (by rw[<-b2.o,<-HQ.o];exact h4))];exact Option.some_ne_none _
     clear h4;subst m;go_wp2_with fail;go_ret;exact⟨rfl,L4.o.k⟩
    have g4:((zl:Int) != (q:Int))=false:=(by rw[ay];omega);have b1:=aA (show ∀ x,x<j+1->decide ((I.pr x).length=fD I.np x)=true from fun x hx=>by
     by_cases e:x=j
     ·rw[e,<-b2.o,<-HQ.o];exact af h4
     ·exact s.o x (by omega))
    clear h4;go_wp2_with fail;go_round
    case rel=>exact⟨j+1,d2.o,by first|rw[HW.o]|go_num,aA ⟨L4.o,b1.o⟩⟩
    case measure=>first|(rw[HW.o];have:=HJ.o;simp only[intOf,aa];omega)|(have:=HJ.o;simp[intOf];omega)
   ·have b9:¬(j:Int)<k:=(by omega);have a2:j=k:=(by omega);have E4:=aA (show ¬fst1 I.no (fun j=>decide ((I.pr j).length=fD I.np j))≠none from fun h=>h (fst1_ok (fun x hx=>s.o x (by rw[a2,<-U.o];exact hx))));clear D hj a2;by_cases h5:I.hd.length=k+1
    case neg=>
     have g5:((I.hd.length:Int) != (k:Int)+1)=true:=(by rw[cu];omega);have m:S=4:=(by rw[G.o,l.o,ac (bi E1.o),ac (bi E2.o),ac (bi U.o),ac E4.o,ae h5];rfl);clear h5;subst m;go_wp2_with fail;go_ret;exact⟨rfl,L3.o.k⟩
    have g5:((I.hd.length:Int) != (k:Int)+1)=false:=(by rw[ay];omega);have E5:=aA h5;clear h5;by_cases h6:I.pt.length=8
    case neg=>
     have g6:((I.pt.length:Int) != 8)=true:=(by rw[cu];omega);have m:S=5:=(by rw[G.o,l.o,ac (bi E1.o),ac (bi E2.o),ac (bi U.o),ac E4.o,ac (bi E5.o),ae h6];rfl);clear h6;subst m;go_wp2_with fail;go_ret;exact⟨rfl,L3.o.k⟩
    have g6:((I.pt.length:Int) != 8)=false:=(by rw[ay];omega);have m:S = -1:=(by rw[G.o,l.o,ac (bi E1.o),ac (bi E2.o),ac (bi U.o),ac E4.o,ac (bi E5.o),ac (bi h6)];rfl);clear h6;subst m;go_wp2_with fail;go_ret;exact⟨rfl,L3.o.k⟩
end Go.Proofs.YtfmgnljlkdmndaaGreatDoor.W
