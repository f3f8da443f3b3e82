import Derived.Test.YtkfmheelhinjdaaGreatDoorWf
import Derived.Test.YtkfmheelhinjdaaGreatDoorWe
import Derived.Test.YtkfmheelhinjdaaGreatDoorXm
set_option maxRecDepth 1000000
set_option maxHeartbeats 80000000
namespace Go.Proofs.YtkfmheelhinjdaaGreatDoor.W
open Tryz
open Go.RowKit
set_option linter.unusedVariables false
set_option maxHeartbeats 8000000
set_option maxRecDepth 6000
theorem wB(i:Nat)(hi:i<=100000)(w:World):
  Calls prog 191 #[.int .i64 i] w fun e w'=>e=.returned (.int .u64 ((2 ^ (i%64):Nat):Int))/\w'=w:=by
 obtain⟨r,hr⟩:=xe (i%64);have hri:(i:Int)%64=(r:Int):=by omega
 have hr64:r<64:=by omega
 rw[<-hr];clear hr;go_enter func191,ntmps191;go_wp2_with fail;go_loop [3,4] (fun x i=>∃ k:Nat,k<=r/\i=.int .i64 k/\x=.int .u64 ((2 ^ k:Nat):Int)) (fun _ i=>r-(intOf i).toNat)
 case atStart=>exact⟨0,by omega,rfl,rfl⟩
 case round=>
  obtain⟨k,hk,rfl,rfl⟩:=hrel;by_cases hlt:k<r
  ·have hki:(k:Int)<r:=(by omega);have hp : 2 ^ (k+1)=2 ^ k*2:=Nat.pow_succ 2 k;have hb : 2 ^ (k+1)<=2 ^ 63:=(mI _ _).2 (by omega);obtain⟨z,hz⟩:=xe (2 ^ k);have HZ:=aA (show 2 ^ (k+1)=z*2 by rw[hz,hp]);have hzb:z*2<=9223372036854775808:=(by rw[HZ.out] at hb;exact hb);rw[<-hz];have hwp:((z:Int)*2)%18446744073709551616=((z*2:Nat):Int):=(by omega);clear hz hb hp;go_wp2_with fail;exact⟨⟨k+1,by omega,by simp,by rw[HZ.out];simp⟩,by simp[intOf];omega⟩
  ·obtain rfl:k=r:=(by omega);go_wp2_with fail;go_ret;exact⟨rfl,rfl⟩
theorem PY{w:World}{x:Nat}{p:Pg}(h:w.heap[x]?=some (aQ p))(k:Nat)(hk:k<4):w.cell? ⟨x,7+k,none⟩=some (.int .u64 (((wsP p).getD k 0:Nat):Int)):=by
 match k,hk with
 | 0,_=>simp[World.cell?,h]
 | 1,_=>simp[World.cell?,h]
 | 2,_=>simp[World.cell?,h]
 | 3,_=>simp[World.cell?,h]
 | _+4,hk=>omega
theorem JO{p:Pg}(ok:PgIn p)(k:Nat):(wsP p).getD k 0<18446744073709551616:=by
 match k with
 | 0=>exact ok.b0
 | 1=>exact ok.b1
 | 2=>exact ok.b2
 | 3=>exact ok.b3
 | k+4=>simp[List.getD]
theorem qO(p:Pg)(ok:PgIn p)(c:Nat)(hc:c<256)(w:World):
  Calls prog 143 #[dU p,.int .i64 c] w fun e w'=>e=.returned (.bool (aE (wsP p) c))/\Kt nO w w':=by
 obtain⟨k,hk⟩:=xe (c/64);obtain⟨r,hr⟩:=xe (c%64);obtain⟨z,hz⟩:=xe (2 ^ r);obtain⟨x,hx⟩:=xe ((wsP p).getD k 0);obtain⟨y,hy⟩:=xe (x/z);obtain⟨b,hb⟩:=xe (y%2);have hxl:x<18446744073709551616:=by rw[hx];exact JO ok k
 have hz1 : 1<=z:=by rw[hz];exact Nat.pow_pos (by decide)
 have hyx:y<=x:=by rw[hy];exact Nat.div_le_self _ _
 have hv:aE (wsP p) c=decide ((b:Int)=1):=by
  have:aE (wsP p) c=(b == 1):=by unfold aE;rw[<-hk,<-hr,<-hz,<-hx,<-hy,<-hb]
  rw[this];by_cases e:b=1
  ·simp[e]
  ·have:¬(b:Int)=1:=by omega
   simp[e,this]
 have K0:=aA ((Kt.refl nO w).alloc (aQ p));have X0:=aA (nH w (aQ p));have HZ:=aA (show 2 ^ (c%64)=z by rw[hz,hr]);have HX:=aA hx;rw[hv];have hk4:k<4:=by omega
 have hki:(c:Int)/64=(k:Int):=by omega
 have hkt:(c:Int).tdiv 64=(k:Int):=by rw[hk];rfl
 have hyi:(x:Int)/(z:Int)=y:=by rw[hy];simp
 have hyt:(x:Int).tdiv (z:Int)=y:=by rw[hy];rfl
 have hbi:(y:Int)%2=(b:Int):=by omega
 have hbt:(y:Int).tmod 2=(b:Int):=by rw[hb];rfl
 have hz0:¬(z:Int)=0:=by omega
 have hkw:IntKind.i64.wrap (k:Int)=k:=by rw[IntKind.wrap_i64];omega
 have hyw:IntKind.u64.wrap (y:Int)=y:=by rw[wrap_u64];omega
 have hbw:IntKind.u64.wrap (b:Int)=b:=by rw[wrap_u64];omega
 have hk4i:(k:Int)<4:=by omega
 clear hv hk hr hz hx hy hb;go_enter func143,ntmps143;go_wp2_with fail;generalize w.alloc (aQ p)=W1 at *;have c7:=PY X0.out k hk4;rw[<-HX.out] at c7;have c7d:W1.drew.cell? ⟨w.heap.size,7+k,none⟩=some (.int .u64 x):=c7;go_region_with (go_at_call 191;refine(wB c (by omega) _).mono ?_;rintro e w2 ⟨rfl,rfl⟩;rw[HZ.out])
 all_goals
  go_wp2_with fail;go_ret;exact⟨rfl,K0.out.drew⟩
def jL(f:Nat->Nat):Nat->Nat
 | 0=>0
 | d+1=>jL f d*256+f (7-d)
theorem xF(f:Nat->Nat)(h:∀ i,i<8->f i<256):∀ d,d<=8->jL f d<256 ^ d
 | 0,_=>by simp[jL]
 | d+1,hd=>by
  have h1:=xF f h d (by omega);have h2:=h (7-d) (by omega);rw[jL,Nat.pow_succ];omega
theorem xE(f:Nat->Nat):∀ d e,d+e=8->jL f d*256 ^ e+M.wordTo f e=M.wordTo f 8
 | 0,e,h=>by
  have:e=8:=by omega
  rw[this];simp[jL]
 | d+1,e,h=>by
  rw[<-xE f d (e+1) (by omega),jL,show 7-d=e by omega,M.wordTo,Nat.add_mul,Nat.pow_succ,Nat.mul_assoc,Nat.mul_comm 256];omega
theorem wS(I:Img)(V:ImV)(q:Nat)(hq:q+8<=I.nm)(hnm:I.nm<=4194304)(w:World)(hI:ImD w I V):
  Calls prog 149 #[imA I V,.int .u64 q] w fun e w'=>e=.returned (.int .u64 ((M.word I.mem q:Nat):Int))/\Kt nO w w':=by
 obtain⟨⟨ma,mc,hm⟩,⟨pa,pc,hp⟩,⟨ra,rc,hr⟩,⟨ha,hc,hh⟩,⟨ta,tc,ht⟩,-⟩:=hI.sl;obtain⟨vm,vp,vr,vh,vt⟩:=V;dsimp only at hm hp hr hh ht;subst hm hp hr hh ht;have IM0:=aA (show ImAt (w.alloc (aC I _)) w.heap.size I _ from⟨nH _ _,hI.keep ((Kt.refl _ w).alloc _)⟩);have K0:=aA (show Kt nO w (w.alloc (aC I _))from(Kt.refl _ w).alloc (aC I ⟨.slice ma I.nm mc,.slice pa I.np pc,.slice ra I.no rc,.slice ha I.hd.length hc,.slice ta I.pt.length tc⟩));obtain⟨c0,c1,c2,c3,c4,c5,c6,c7,c8⟩:=IM0.out.cells;obtain⟨F,hF⟩:=xe (fun i=>I.mem (q+i));have HFE:=aA (show ∀ i,F i=I.mem (q+i)from fun i=>by rw[hF]);obtain⟨rr,hrr⟩:=xe (M.word I.mem q);rw[<-hrr];have RR:=aA (show rr=M.wordTo F 8 by rw[hrr,hF];rfl);have HQ:=aA hq;have HNM:=aA hnm;clear hI hrr hF hq hnm;go_enter func149,ntmps149;go_wp2_with fail;clear c0 c1 c2 c3 c4 c5 c6 c7 c8;generalize w.heap.size=ib at *;generalize w.alloc (aC I ⟨.slice ma I.nm mc,.slice pa I.np pc,.slice ra I.no rc,.slice ha I.hd.length hc,.slice ta I.pt.length tc⟩)=W0 at *;have F256:=aA (show ∀ i,i<8->F i<256 from fun i hi=>by
  obtain⟨bl,o,e,-,hc⟩:=IM0.out.d.mem.at (q+i) (by have:=HQ.out;omega);rw[HFE.out];exact(hc (q+i) (by have:=HQ.out;omega)).1)
 go_loopw [5,6] (fun v iv W=>∃ d e:Nat,d+e=8/\v=.int .u64 (jL F d:Int)/\iv=.int .u64 e/\Hid (Kt nO W0 W)) (fun _ iv _=>(intOf iv).toNat)
 case atStart=>exact⟨0,8,rfl,rfl,rfl,aA (Kt.refl _ _)⟩
 case round=>
  obtain⟨d,e,hde,rfl,rfl,hG⟩:=hrel;have IMa:=aA (IM0.out.keep hG.out);obtain⟨c0,c1,c2,c3,c4,c5,c6,c7,c8⟩:=IMa.out.cells;dsimp only at c4;by_cases hlt : 0<e
  ·have hei:(0:Int)<(e:Int):=(by omega);obtain⟨e',rfl⟩:∃ e',e=e'+1:=⟨e-1,by omega⟩;obtain⟨bl,o,e1,-,hc⟩:=IMa.out.d.mem.at (q+e') (by have:=HQ.out;omega);obtain⟨hx1,hx2⟩:=hc (q+e') (by have:=HQ.out;omega);subst e1;obtain⟨D,hD⟩:=xe (jL F d);obtain⟨x,hx⟩:=xe (F e');rw[<-HFE.out,<-hx] at hx1 hx2;have hDl:=xF F F256.out d (by omega);rw[<-hD] at hDl ⊢;have hDl2:D<72057594037927936:=Nat.lt_of_lt_of_le hDl (by exact Nat.pow_le_pow_right (by decide) (show d<=7 by omega));have DN:=aA (show jL F (d+1)=D*256+x by rw[jL,<-hD,show 7-d=e' by omega,hx]);obtain⟨g,hg⟩:=xe (q+e');rw[<-hg] at hx2;obtain⟨e2,he2⟩:=xe (e'+1);obtain⟨g2,hg2⟩:=xe (g+1);have hgb:g2<=4194304:=(by have:=HQ.out;have:=HNM.out;omega);have hgm:g<I.nm:=(by have:=HQ.out;omega);have hgi:(g:Int)<I.nm:=(by omega);have s1:IntKind.u64.wrap ((q:Int)+(e2:Int))=(g2:Int):=(by rw[wrap_u64];omega);have s1':(q:Int)+(e2:Int)=g2:=(by omega);have s2:IntKind.u64.wrap ((g2:Int)-1)=(g:Int):=(by rw[wrap_u64];omega);have s2':(g2:Int)-1=(g:Int):=(by omega);have s3:IntKind.u64.wrap ((e2:Int)-1)=(e':Int):=(by rw[wrap_u64];omega);have s3':(e2:Int)-1=(e':Int):=(by omega);have s5:IntKind.u64.wrap ((D:Int)*256+(x:Int))=((D*256+x:Nat):Int):=(by rw[wrap_u64];omega);have s6:IntKind.u64.wrap (x:Int)=x:=(by rw[wrap_u64];omega);rw[<-he2];have hei2:(0:Int)<(e2:Int):=(by omega);have EQ:=aA (show d+1+e'=8/\e2=e'+1 from⟨by omega,he2⟩);have S5:=aA s5;have KG:=aA hG.out;clear hlt hei hde hc hDl hD hx hg he2 hg2 hgm hG s5;go_wp2_with fail;exact⟨⟨d+1,e',EQ.out.1,by rw[DN.out];simp,rfl,KG⟩,by have:=EQ.out.2;simp only[intOf,Int.toNat_natCast];omega⟩
  ·obtain rfl:e=0:=(by omega);obtain rfl:d=8:=(by omega);have er:rr=jL F 8:=(by have:=xE F 8 0 rfl;rw[RR.out,<-this];simp[M.wordTo]);have ER:=aA er;clear er;go_wp2_with fail;go_ret;exact⟨congrArg (fun z:Nat=>Ending.returned (.int .u64 z)) ER.out.symm,nT K0.out hG.out⟩
theorem JN(I:Img)(V:ImV)(g:Nat)(c cc:Nat)(hg:g<I.np)(hcl:(I.pg g).cl=(cc:Int))(h7:cc<=7)(hlv:(I.pg g).kd=4->∃ l:Nat,(I.pg g).lv=(l:Int)/\l<=celN9 cc)(w:World)(hI:ImD w I V):
  Calls prog 150 #[imA I V,.int .i64 g,.int .i64 c] w fun e w'=>e=.returned (.bool (prS (c:Int) (I.pg g)))/\Kt nO w w':=by
 obtain⟨⟨ma,mc,hm⟩,⟨pa,pc,hp⟩,⟨ra,rc,hr⟩,⟨ha,hc,hh⟩,⟨ta,tc,ht⟩,-⟩:=hI.sl;obtain⟨vm,vp,vr,vh,vt⟩:=V;dsimp only at hm hp hr hh ht;subst hm hp hr hh ht;have IM0:=aA (show ImAt (w.alloc (aC I _)) w.heap.size I _ from⟨nH _ _,hI.keep ((Kt.refl _ w).alloc _)⟩);have K0:=aA (show Kt nO w (w.alloc (aC I _))from(Kt.refl _ w).alloc (aC I ⟨.slice ma I.nm mc,.slice pa I.np pc,.slice ra I.no rc,.slice ha I.hd.length hc,.slice ta I.pt.length tc⟩));obtain⟨c0,c1,c2,c3,c4,c5,c6,c7,c8⟩:=IM0.out.cells;obtain⟨bl,oo,oc,hv,-,hpc⟩:=IM0.out.page g hg
 cases hv
 obtain⟨d0,d1,d2,d3,d4,d5,d6,d7,d8,d9,d10⟩:=hpc.c;have hgi:(g:Int)<I.np:=by omega
 have CE:=aA (fun W=>rE (I.pg g) cc hcl h7 W);obtain⟨bb,hbb⟩:=xe (prS (c:Int) (I.pg g));rw[<-hbb];have HB:=aA (show bb=(decide ((I.pg g).kd=4) && (decide ((I.pg g).cl=(c:Int)) && !decide ((I.pg g).lv=(celN9 cc:Int))))by rw[hbb,prS,hcl,Int.toNat_natCast]);have HLV:=aA hlv;have HC:=aA hcl;generalize I.pg g=p at *;clear hI hpc hg hbb hlv hcl;go_enter func150,ntmps150;go_upto_region 2 with fail;refine jS (P:=fun W=>Code.wp prog _ _ _ W) _ ?_;intro W1 hW;have k1:Kt nO (w.alloc (aC I ⟨.slice ma I.nm mc,.slice (some ⟨bl,oo,none⟩) I.np pc,.slice ra I.no rc,.slice ha I.hd.length hc,.slice ta I.pt.length tc⟩)) W1:=by subst hW;exact(Kt.refl _ _).alloc _
 have X1:W1.heap[w.heap.size+1]?=some (aQ p):=by subst hW;have:=nH (w.alloc (aC I ⟨.slice ma I.nm mc,.slice (some ⟨bl,oo,none⟩) I.np pc,.slice ra I.no rc,.slice ha I.hd.length hc,.slice ta I.pt.length tc⟩)) (aQ p);rwa [World.size_alloc] at this
 have KE:=aA (nT K0.out k1);generalize w.heap.size+1=pb at *;have X:∀ x:KW W1,x.v.heap[pb]?=some (aQ p):=fun x=>(x.k.block _ (lH X1) (fun y=>y)).trans X1
 clear hW k1 X1 c0 c1 c2 c3 c4 c5 c6 c7 c8 d0 d1 d2 d3 d4 d5 d6 d7 d8 d9 d10 IM0;have e0:∀ x:KW W1,x.v.cell? ⟨pb,0,none⟩=some (.int .i64 p.kd):=fun x=>by simp[World.cell?,X x]
 have e1:∀ x:KW W1,x.v.cell? ⟨pb,1,none⟩=some (.int .i64 p.od):=fun x=>by simp[World.cell?,X x]
 have e2:∀ x:KW W1,x.v.cell? ⟨pb,2,none⟩=some (.int .i64 p.cl):=fun x=>by simp[World.cell?,X x]
 have e3:∀ x:KW W1,x.v.cell? ⟨pb,3,none⟩=some (.int .i64 p.lv):=fun x=>by simp[World.cell?,X x]
 have e4:∀ x:KW W1,x.v.cell? ⟨pb,4,none⟩=some (.int .i64 p.nx):=fun x=>by simp[World.cell?,X x]
 have e5:∀ x:KW W1,x.v.cell? ⟨pb,5,none⟩=some (.int .i64 p.pv):=fun x=>by simp[World.cell?,X x]
 have e6:∀ x:KW W1,x.v.cell? ⟨pb,6,none⟩=some (.int .i64 p.fs):=fun x=>by simp[World.cell?,X x]
 have e7:∀ x:KW W1,x.v.cell? ⟨pb,7,none⟩=some (.int .u64 p.b0):=fun x=>by simp[World.cell?,X x]
 have e8:∀ x:KW W1,x.v.cell? ⟨pb,8,none⟩=some (.int .u64 p.b1):=fun x=>by simp[World.cell?,X x]
 have e9:∀ x:KW W1,x.v.cell? ⟨pb,9,none⟩=some (.int .u64 p.b2):=fun x=>by simp[World.cell?,X x]
 have e10:∀ x:KW W1,x.v.cell? ⟨pb,10,none⟩=some (.int .u64 p.b3):=fun x=>by simp[World.cell?,X x]
 by_cases h1:p.kd=4
 case neg=>
  have q1:(p.kd == 4)=false:=by rw[beq_eq_false_iff_ne];exact h1
  have eb:bb=false:=by rw[HB.out,decide_eq_false h1];rfl
  subst eb;clear h1;refine bT (by kernel_rfl) (by kernel_rfl) ?_;repeat (go_big_quiet_step (first|(go_at_call 64;exact Calls.kept_of (CE.out _))))
  refine wpQuiet_nil ?_;intro y;have YK:=aA (nT KE.out y.k);clear e0 e1 e2 e3 e4 e5 e6 e7 e8 e9 e10 X;generalize y.v=W6 at *;go_wp2_with fail;go_ret;exact⟨rfl,YK.out⟩
 have q1:(p.kd == 4)=true:=by rw[beq_iff_eq];exact h1
 obtain⟨l,hl,hle⟩:=HLV.out h1;have HL:=aA hl;have HLE:=aA hle;by_cases h2:p.cl=(c:Int)
 case neg=>
  have q2:(p.cl == (c:Int))=false:=by rw[beq_eq_false_iff_ne];exact h2
  have eb:bb=false:=by rw[HB.out,decide_eq_false h2];simp
  subst eb;clear h1 h2 hl hle;refine bT (by kernel_rfl) (by kernel_rfl) ?_;repeat (go_big_quiet_step (first|(go_at_call 64;exact Calls.kept_of (CE.out _))))
  refine wpQuiet_nil ?_;intro y;have YK:=aA (nT KE.out y.k);clear e0 e1 e2 e3 e4 e5 e6 e7 e8 e9 e10 X;generalize y.v=W6 at *;go_wp2_with fail;go_ret;exact⟨rfl,YK.out⟩
 have q2:(p.cl == (c:Int))=true:=by rw[beq_iff_eq];exact h2
 by_cases h3:l=celN9 cc
 ·have q3:¬p.lv<(celN9 cc:Int):=by omega
  have q4:decide (p.lv<(celN9 cc:Int))=false:=decide_eq_false q3;have eb:bb=false:=by rw[HB.out,hl,h3];simp
  subst eb;generalize celN9 cc=cn at *;clear h1 h2 h3 hl hle HL HLE;clear HLV HB;refine bT (by kernel_rfl) (by kernel_rfl) ?_;repeat (go_big_quiet_step (first|(go_at_call 64;exact Calls.kept_of (CE.out _))))
  refine wpQuiet_nil ?_;intro y;have YK:=aA (nT KE.out y.k);clear e0 e1 e2 e3 e4 e5 e6 e7 e8 e9 e10 X;generalize y.v=W6 at *;go_wp2_with fail;go_ret;exact⟨rfl,YK.out⟩
 ·have q3:p.lv<(celN9 cc:Int):=by omega
  have q4:decide (p.lv<(celN9 cc:Int))=true:=decide_eq_true q3;have eb:bb=true:=by
   rw[HB.out,decide_eq_true h1,decide_eq_true h2,decide_eq_false (by omega)];rfl
  subst eb;generalize celN9 cc=cn at *;clear h1 h2 h3 hl hle HL HLE;clear HLV HB;refine bT (by kernel_rfl) (by kernel_rfl) ?_;repeat (go_big_quiet_step (first|(go_at_call 64;exact Calls.kept_of (CE.out _))))
  refine wpQuiet_nil ?_;intro y;have YK:=aA (nT KE.out y.k);clear e0 e1 e2 e3 e4 e5 e6 e7 e8 e9 e10 X;generalize y.v=W6 at *;go_wp2_with fail;go_ret;exact⟨rfl,YK.out⟩
set_option maxHeartbeats 8000000
set_option maxRecDepth 6000
theorem qD{w w':World}(h:M.Kt M.nO w w'):Kt nO w w':=⟨h.os,h.tape,h.output,h.size,h.block⟩
theorem WK(I:Img)(V:ImV)(k L:Nat)(hk:k<=8)(hL:L<=64)(hko:I.ord=(k:Int))(hlo:I.lim=(L:Int))(w:World)(hI:ImD w I V):
  Calls prog 101 #[imA I V] w fun e w'=>e=.returned (.int .i64 (eA (r2 I k)))/\Kt nO w w':=by
 have hrg:=hI.reg;have HHD:=aA hI.hds.1;obtain⟨-,-,-,-,-,bm,bp,br,bt⟩:=hI.sl;obtain⟨⟨ma,mc,hm⟩,⟨pa,pc,hp⟩,⟨ra,rc,hr⟩,⟨ha,hc,hh⟩,⟨ta,tc,ht⟩,-⟩:=hI.sl;obtain⟨vm,vp,vr,vh,vt⟩:=V;dsimp only at hm hp hr hh ht;subst hm hp hr hh ht;have IM0:=aA (show ImAt (w.alloc (aC I _)) w.heap.size I _ from⟨nH _ _,hI.keep ((Kt.refl _ w).alloc _)⟩);have K0:=aA (show Kt nO w (w.alloc (aC I _))from(Kt.refl _ w).alloc (aC I ⟨.slice ma I.nm mc,.slice pa I.np pc,.slice ra I.no rc,.slice ha I.hd.length hc,.slice ta I.pt.length tc⟩));obtain⟨c0,c1,c2,c3,c4,c5,c6,c7,c8⟩:=IM0.out.cells;have L0:=aA (show LnI w ((w.alloc (aC I ⟨.slice ma I.nm mc,.slice pa I.np pc,.slice ra I.no rc,.slice ha I.hd.length hc,.slice ta I.pt.length tc⟩)).alloc (.cells #[.int .u64 I.bS,.int .i64 I.lim,.int .i64 I.ord] 29 (0,0))) w.heap.size (w.heap.size+1) I ⟨.slice ma I.nm mc,.slice pa I.np pc,.slice ra I.no rc,.slice ha I.hd.length hc,.slice ta I.pt.length tc⟩from⟨IM0.out.keep ((Kt.refl _ _).alloc _),by have:=nH (w.alloc (aC I ⟨.slice ma I.nm mc,.slice pa I.np pc,.slice ra I.no rc,.slice ha I.hd.length hc,.slice ta I.pt.length tc⟩)) (.cells #[.int .u64 I.bS,.int .i64 I.lim,.int .i64 I.ord] 29 (0,0));rwa [World.size_alloc] at this,K0.out.alloc _⟩);obtain⟨rr,hrr⟩:=xe (eA (r2 I k));rw[<-hrr];have RR:=aA hrr;have HKO:=aA hko;have HLO:=aA hlo;have HP8:=aA (M.pow8 k hk);have BM:=aA bm;have BP:=aA bp;have BR:=aA br;have HRG:=aA hrg;clear hI hrr hko hlo IM0 K0 bm bp br hrg;go_enter func101,ntmps101;go_upto_region 2 with fail;refine jS (P:=fun W=>Code.wp prog _ _ _ W) _ ?_;intro W0 hW;rw[<-hW] at L0;clear hW c0 c1 c2 c3 c4 c5 c6 c7 c8;generalize w.heap.size+1=g at *;generalize w.heap.size=ib at *;obtain⟨c0,c1,c2,c3,c4,c5,c6,c7,c8⟩:=L0.out.im.cells;have q1:W0.cell? ⟨g,1,none⟩=some (.int .i64 I.lim):=by simp[World.cell?,L0.out.cf]
 rw[HLO.out] at q1;have IN:=aA (fun W=>EH I.reg 0 (L:Int) W);have hw0:wiB I.reg 0 I.lim=wiB I.reg 0 (L:Int):=by rw[HLO.out]
 obtain⟨b0,hb0⟩:∃ b,b=wiB I.reg 0 (L:Int):=⟨_,rfl⟩;rw[<-hb0] at IN hw0;go_wp2_with fail;refine(IN.out _).mono ?_;rintro e w1 ⟨rfl,rfl⟩;clear c0 c1 c2 c3 c4 c5 c6 c7 c8 q1
 cases b0 with
 | false=>
  have er:rr=0:=by rw[RR.out,r2,hw0,if_pos rfl];rfl
  subst er;clear hb0 hw0;go_wp2_with fail;go_ret;exact⟨rfl,L0.out.k⟩
 | true=>
  have hreg : 0<=I.reg/\I.reg<=(L:Int):=by unfold wiB at hb0;exact of_decide_eq_true hb0.symm
  obtain⟨r,hr⟩:=Int.eq_ofNat_of_zero_le hreg.1;have HR:=aA hr;have hrl:r<=64:=by omega
  obtain⟨n,hn⟩:=xe (r*2 ^ k);have hn1:n<=16384:=by
   rw[hn];exact Nat.le_trans (Nat.mul_le_mul hrl HP8.out.2) (by decide)
  obtain⟨P,hP⟩:=xe (2 ^ k);obtain⟨R,hRR⟩:=xe (M.RS k);have hRP:R=4096*P:=by rw[hRR,M.RS,hP]
  have hrP:r*P=n:=by rw[hP,hn]
  obtain⟨z,hz⟩:=xe (n*4096);have hm1:IntKind.u64.wrap ((r:Int)*(R:Int))=(z:Int):=by
   have e3:r*R=z:=(by rw[hz,<-hrP,hRP,Nat.mul_assoc,Nat.mul_comm P]);have e2:(r:Int)*(R:Int)=z:=(by rw[<-e3,Int.natCast_mul]);rw[e2,wrap_u64];omega
  have hm2:IntKind.i64.wrap ((r:Int)*(P:Int))=(n:Int):=by
   have e2:(r:Int)*(P:Int)=n:=(by rw[<-hrP,Int.natCast_mul]);rw[e2,IntKind.wrap_i64];omega
  have hm3:wrap64 ((r:Int)*(P:Int))=(n:Int):=by
   have e2:(r:Int)*(P:Int)=n:=(by rw[<-hrP,Int.natCast_mul]);rw[e2,wrap64];omega
  have HN:=aA (show I.reg.toNat*2 ^ k=n by rw[hr,Int.toNat_natCast,hn]);have HR2:=aA (show r2 I k=(if I.nm≠n*4096 then some 1 else if I.np≠n then some 2 else if I.no≠k then some 3 else if fst1 I.no (fun j=>decide ((I.pr j).length=dZ I.np j))≠none then some 3 else if I.hd.length≠k+1 then some 4 else if I.pt.length≠8 then some 5 else none)by unfold r2;rw[if_neg (by rw[hw0];simp),HN.out]);have RC:=aA (fun W=>(M.R_any (I.bS:Int) (L:Int) k hk W).mono (fun e w' (h:e=.returned (.int .u64 ((M.RS k:Nat):Int))/\M.Kt M.nO W w')=>(⟨h.1,qD h.2⟩:e=.returned (.int .u64 ((M.RS k:Nat):Int))/\Kt nO W w')));rw[<-hRR] at RC;have PW:=aA (fun W=>mN k (by omega) W);rw[<-hP] at PW;have f1:IntKind.u64.wrap (I.nm:Int)=I.nm:=by have:=BM.out;rw[wrap_u64];omega
  have f2:IntKind.u64.wrap (r:Int)=r:=by rw[wrap_u64];omega
  have HZ:=aA hz;have HN1:=aA hn1;clear hb0 hw0 hreg hr hn hP hRR hRP hrP hz hn1;obtain⟨c0,c1,c2,c3,c4,c5,c6,c7,c8⟩:=L0.out.im.all;obtain⟨q1,q2⟩:=L0.out.all;have q0:∀ x:KW w1,x.v.cell? ⟨g,0,none⟩=some (.int .u64 I.bS):=fun x=>by simp[World.cell?,(L0.out.keep x.k).cf]
  rw[HLO.out] at q1;rw[HKO.out] at q2;rw[HR.out] at c3;dsimp only at c4 c5 c6 c7 c8;by_cases h1:I.nm=z
  case neg=>
   have g1:((I.nm:Int) != (z:Int))=true:=(by rw[bne_iff_ne];omega);have er:rr=1:=(by rw[RR.out,HR2.out,<-HZ.out,if_pos h1];rfl);clear h1;subst er;go_wp2_with fail;refine bT (by kernel_rfl) (by kernel_rfl) ?_;repeat (go_big_quiet_step (first|(go_at_call 145;exact Calls.kept_of (RC.out _))))
   refine wpQuiet_nil ?_;intro x;have KX:=aA (nT L0.out.k x.k);clear c0 c1 c2 c3 c4 c5 c6 c7 c8 q0 q1 q2;generalize x.v=W1 at *;go_wp2_with fail;go_ret;exact⟨rfl,KX.out⟩
  have g1:((I.nm:Int) != (z:Int))=false:=by rw[bne_eq_false_iff_eq];omega
  have E1:=aA (show I.nm=n*4096 from h1.trans HZ.out);clear h1;go_wp2_with fail;refine bT (by kernel_rfl) (by kernel_rfl) ?_;repeat (go_big_quiet_step (first|(go_at_call 145;exact Calls.kept_of (RC.out _))))
  refine wpQuiet_nil ?_;intro x;have L1:=aA (L0.out.keep x.k);clear c0 c1 c2 c3 c4 c5 c6 c7 c8 q0 q1 q2 L0 hm1 f1 f2 g1;generalize x.v=W1 at *;obtain⟨c0,c1,c2,c3,c4,c5,c6,c7,c8⟩:=L1.out.im.all;obtain⟨q1,q2⟩:=L1.out.all;rw[HLO.out] at q1;rw[HKO.out] at q2;rw[HR.out] at c3;dsimp only at c4 c5 c6 c7 c8;by_cases h1:I.np=n
  case neg=>
   have g1:((I.np:Int) != (n:Int))=true:=(by rw[bne_iff_ne];omega);have er:rr=2:=(by rw[RR.out,HR2.out,if_neg (not_not_intro E1.out),if_pos h1];rfl);clear h1;subst er;go_wp2_with fail;refine bT (by kernel_rfl) (by kernel_rfl) ?_;repeat (go_big_quiet_step (first|(go_at_call 99;exact Calls.kept_of ((PW.out _).mono fun _ _ ⟨h1,h2⟩=>⟨h1,h2▸Kt.refl _ _⟩))))
   refine wpQuiet_nil ?_;intro x;have KX:=aA (nT L1.out.k x.k);clear c0 c1 c2 c3 c4 c5 c6 c7 c8 q1 q2;generalize x.v=W1 at *;go_wp2_with fail;go_ret;exact⟨rfl,KX.out⟩
  have g1:((I.np:Int) != (n:Int))=false:=by rw[bne_eq_false_iff_eq];omega
  have E2:=aA h1;clear h1;go_wp2_with fail;refine bT (by kernel_rfl) (by kernel_rfl) ?_;repeat (go_big_quiet_step (first|(go_at_call 99;exact Calls.kept_of ((PW.out _).mono fun _ _ ⟨h1,h2⟩=>⟨h1,h2▸Kt.refl _ _⟩))))
  refine wpQuiet_nil ?_;intro x;have L2:=aA (L1.out.keep x.k);clear c0 c1 c2 c3 c4 c5 c6 c7 c8 q1 q2 L1 hm2 hm3 g1;generalize x.v=W2 at *;obtain⟨c0,c1,c2,c3,c4,c5,c6,c7,c8⟩:=L2.out.im.cells;have q2:W2.cell? ⟨g,2,none⟩=some (.int .i64 I.ord):=by simp[World.cell?,L2.out.cf]
  rw[HKO.out] at q2;dsimp only at c4 c5 c6 c7 c8;by_cases h1:I.no=k
  case neg=>
   have g1:((I.no:Int) != (k:Int))=true:=(by rw[bne_iff_ne];omega);have er:rr=3:=(by rw[RR.out,HR2.out,if_neg (not_not_intro E1.out),if_neg (not_not_intro E2.out),if_pos h1];rfl);clear h1;subst er;go_wp2_with fail;go_ret;exact⟨rfl,L2.out.k⟩
  have g1:((I.no:Int) != (k:Int))=false:=by rw[bne_eq_false_iff_eq];omega
  have E3:=aA h1;clear h1;go_wp2_with fail;clear c0 c1 c2 c3 c4 c5 c6 c7 c8 q2 g1;go_loopw [4] (fun iv W=>∃ j:Nat,j<=k/\iv=.int .i64 j/\Hid (LnI w W ib g I ⟨.slice ma I.nm mc,.slice pa I.np pc,.slice ra I.no rc,.slice ha I.hd.length hc,.slice ta I.pt.length tc⟩/\∀ x,x<j->decide ((I.pr x).length=dZ I.np x)=true)) (fun iv _=>k-(intOf iv).toNat)
  case atStart=>exact⟨0,Nat.zero_le _,rfl,aA ⟨L2.out,fun x hx=>by omega⟩⟩
  case round=>
   clear L2;obtain⟨j,hj,rfl,hR⟩:=hrel;have L3:=aA hR.out.1;have PREV:=aA hR.out.2;clear hR;obtain⟨c0,c1,c2,c3,c4,c5,c6,c7,c8⟩:=L3.out.im.cells;have q2:wr.cell? ⟨g,2,none⟩=some (.int .i64 I.ord):=(by simp[World.cell?,L3.out.cf]);rw[HKO.out] at q2;dsimp only at c4 c5 c6 c7 c8;by_cases hlt:j<k
   ·have hji:(j:Int)<k:=(by omega);have HJ:=aA hlt;have HJ2:=aA (show j+1<=k from hlt);have HW:=aA (show wrap64 ((j:Int)+1)=((j+1:Nat):Int)by rw[wrap64];omega);clear hlt hj;obtain⟨Q,hQ⟩:=xe (2 ^ (j+1));have PJ:=aA (fun W=>mN (j+1) (by have:=HJ.out;omega) W);rw[<-hQ] at PJ;have hQ1 : 1<=Q:=(by rw[hQ];exact Nat.two_pow_pos _);have hQ2:Q<=512:=(by rw[hQ];exact mH _ (by have:=HJ.out;omega));obtain⟨pn,hpn⟩:=xe (I.np/Q);have PN:=aA (show(pn+63)/64=dZ I.np j by rw[dZ,hpn,hQ]);have hpnl:pn<=16384:=(by have:=HN1.out;rw[hpn,E2.out];exact Nat.le_trans (Nat.div_le_self _ _) this);have s1:IntKind.i64.wrap ((j:Int)+1)=((j+1:Nat):Int):=(by have:=HJ.out;rw[IntKind.wrap_i64];omega);have s2:(I.np:Int).tdiv (Q:Int)=pn:=(by rw[hpn];rfl);have s3:(I.np:Int)/(Q:Int)=pn:=(by rw[hpn];simp);have s4:IntKind.i64.wrap (pn:Int)=pn:=(by rw[IntKind.wrap_i64];omega);have s5:¬(Q:Int)=0:=(by omega);have s6:((Q:Int) == 0)=false:=(by rw[beq_eq_false_iff_ne];omega);have s7:¬(Q:Int) = -1:=(by omega);obtain⟨j1,hj1⟩:=xe (j+1);rw[<-hj1] at s1 PJ;clear hQ hpn hj1;go_wp2_with fail;clear c0 c1 c2 c3 c4 c5 c6 c7 c8 q2;obtain⟨c0,c1,c2,c3,c4,c5,c6,c7,c8⟩:=L3.out.im.all;dsimp only at c4 c5 c6 c7 c8;refine bT (by kernel_rfl) (by kernel_rfl) ?_;repeat (go_big_quiet_step (first|(go_at_call 99;exact Calls.kept_of ((PJ.out _).mono fun _ _ ⟨h1,h2⟩=>⟨h1,h2▸Kt.refl _ _⟩))))
    refine wpQuiet_nil ?_;intro x;have L4:=aA (L3.out.keep x.k);clear c0 c1 c2 c3 c4 c5 c6 c7 c8 s1 s2 s3 s4 s5 s6 s7 L3;generalize x.v=W4 at *;obtain⟨c0,c1,c2,c3,c4,c5,c6,c7,c8⟩:=L4.out.im.cells;dsimp only at c4 c5 c6 c7 c8;obtain⟨ws,_,ra',rc',hrv,hr3⟩:=L4.out.im.d.prs;injection hrv with e1 e2 e3
    subst e1;have hjno:j<I.no:=(by rw[E3.out];exact HJ.out);rcases hr3 with hr3|⟨bl,o,rfl,_,hcc⟩
    ·omega
    obtain⟨d0,hz,za,zc,hzv,_⟩:=hcc j hjno;rw[hzv] at d0;have hjn:(j:Int)<I.no:=(by omega);obtain⟨zl,hzl⟩:=xe ((I.pr j).length);rw[<-hzl] at d0;obtain⟨q,hq⟩:=xe (dZ I.np j);have t1:((pn:Int)+63)/64=(q:Int):=(by rw[hq,<-PN.out];omega);have HQ:=aA hq;have HZL:=aA hzl;clear hcc hz hzv hzl hq e2 e3 hjno;by_cases h4:zl=q
    case neg=>
     have g4:((zl:Int) != (q:Int))=true:=(by rw[bne_iff_ne];omega);have er:rr=3:=by
      rw[RR.out,HR2.out,if_neg (not_not_intro E1.out),if_neg (not_not_intro E2.out),if_neg (not_not_intro E3.out),if_pos]
      ·rfl
      ·rw[fD (i:=j) (by rw[E3.out];exact HJ.out) PREV.out (decide_eq_false (by rw[<-HZL.out,<-HQ.out];exact h4))];exact Option.some_ne_none _
     clear h4;subst er;go_wp2_with fail;go_ret;exact⟨rfl,L4.out.k⟩
    have g4:((zl:Int) != (q:Int))=false:=(by rw[bne_eq_false_iff_eq];omega);have NEXT:=aA (show ∀ x,x<j+1->decide ((I.pr x).length=dZ I.np x)=true from fun x hx=>by
     by_cases e:x=j
     ·rw[e,<-HZL.out,<-HQ.out];exact decide_eq_true h4
     ·exact PREV.out x (by omega))
    clear h4;go_wp2_with fail;go_round
    case rel=>exact⟨j+1,HJ2.out,by first|rw[HW.out]|go_num,aA ⟨L4.out,NEXT.out⟩⟩
    case measure=>first|(rw[HW.out];have:=HJ.out;simp only[intOf,Int.toNat_natCast];omega)|(have:=HJ.out;simp[intOf];omega)
   ·have hji:¬(j:Int)<k:=(by omega);have hjk:j=k:=(by omega);have E4:=aA (show ¬fst1 I.no (fun j=>decide ((I.pr j).length=dZ I.np j))≠none from fun h=>h (fst1_ok (fun x hx=>PREV.out x (by rw[hjk,<-E3.out];exact hx))));clear hlt hj hjk;by_cases h5:I.hd.length=k+1
    case neg=>
     have g5:((I.hd.length:Int) != (k:Int)+1)=true:=(by rw[bne_iff_ne];omega);have er:rr=4:=(by rw[RR.out,HR2.out,if_neg (not_not_intro E1.out),if_neg (not_not_intro E2.out),if_neg (not_not_intro E3.out),if_neg E4.out,if_pos h5];rfl);clear h5;subst er;go_wp2_with fail;go_ret;exact⟨rfl,L3.out.k⟩
    have g5:((I.hd.length:Int) != (k:Int)+1)=false:=(by rw[bne_eq_false_iff_eq];omega);have E5:=aA h5;clear h5;by_cases h6:I.pt.length=8
    case neg=>
     have g6:((I.pt.length:Int) != 8)=true:=(by rw[bne_iff_ne];omega);have er:rr=5:=(by rw[RR.out,HR2.out,if_neg (not_not_intro E1.out),if_neg (not_not_intro E2.out),if_neg (not_not_intro E3.out),if_neg E4.out,if_neg (not_not_intro E5.out),if_pos h6];rfl);clear h6;subst er;go_wp2_with fail;go_ret;exact⟨rfl,L3.out.k⟩
    have g6:((I.pt.length:Int) != 8)=false:=(by rw[bne_eq_false_iff_eq];omega);have er:rr = -1:=(by rw[RR.out,HR2.out,if_neg (not_not_intro E1.out),if_neg (not_not_intro E2.out),if_neg (not_not_intro E3.out),if_neg E4.out,if_neg (not_not_intro E5.out),if_neg (not_not_intro h6)];rfl);clear h6;subst er;go_wp2_with fail;go_ret;exact⟨rfl,L3.out.k⟩
end Go.Proofs.YtkfmheelhinjdaaGreatDoor.W
