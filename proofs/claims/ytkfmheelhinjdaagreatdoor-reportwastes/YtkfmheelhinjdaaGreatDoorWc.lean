import Derived.Test.YtkfmheelhinjdaaGreatDoorXo
set_option maxRecDepth 1000000
set_option maxHeartbeats 80000000
namespace Go.Proofs.YtkfmheelhinjdaaGreatDoor.W
open _root_.Go.Proofs.Tryz
open Go.RowKit
set_option linter.unusedVariables false
set_option maxHeartbeats 8000000
set_option maxRecDepth 6000
theorem xJ(i:Nat)(hi:i<=100000)(w:World):
  Calls prog 191 #[.int .i64 i] w fun e w'=>e=.returned (.int .u64 ((2 ^ (i%64):Nat):Int))/\w'=w:=by
 obtain⟨r,hr⟩:=xe (i%64);have hri:(i:Int)%64=(r:Int):=by omega
 have hr64:r<64:=by omega
 rw[<-hr];clear hr;go_enter func191,ntmps191;go_wp2_with fail;go_loop [3,4] (fun x i=>∃ k:Nat,k<=r/\i=.int .i64 k/\x=.int .u64 ((2 ^ k:Nat):Int)) (fun _ i=>r-(intOf i).toNat)
 case atStart=>exact⟨0,by omega,rfl,rfl⟩
 case round=>
  obtain⟨k,hk,rfl,rfl⟩:=hrel;by_cases hlt:k<r
  ·have hki:(k:Int)<r:=(by omega);have hp : 2 ^ (k+1)=2 ^ k*2:=Nat.pow_succ 2 k;have hb : 2 ^ (k+1)<=2 ^ 63:=(nE _ _).2 (by omega);obtain⟨z,hz⟩:=xe (2 ^ k);have HZ:=aA (show 2 ^ (k+1)=z*2 by rw[hz,hp]);have hzb:z*2<=9223372036854775808:=(by rw[HZ.out] at hb;exact hb);rw[<-hz];have hwp:((z:Int)*2)%18446744073709551616=((z*2:Nat):Int):=(by omega);clear hz hb hp;go_wp2_with fail;exact⟨⟨k+1,by omega,by simp,by rw[HZ.out];simp⟩,by simp[intOf];omega⟩
  ·obtain rfl:k=r:=(by omega);go_wp2_with fail;go_ret;exact⟨rfl,rfl⟩
theorem PK{w:World}{x:Nat}{p:Pg}(h:w.heap[x]?=some (aO p))(k:Nat)(hk:k<4):w.cell? ⟨x,7+k,none⟩=some (.int .u64 (((wsP p).getD k 0:Nat):Int)):=by
 match k,hk with
 | 0,_=>simp[World.cell?,h]
 | 1,_=>simp[World.cell?,h]
 | 2,_=>simp[World.cell?,h]
 | 3,_=>simp[World.cell?,h]
 | _+4,hk=>omega
theorem KZ{p:Pg}(ok:PgIn p)(k:Nat):(wsP p).getD k 0<18446744073709551616:=by
 match k with
 | 0=>exact ok.b0
 | 1=>exact ok.b1
 | 2=>exact ok.b2
 | 3=>exact ok.b3
 | k+4=>simp[List.getD]
theorem nY(p:Pg)(ok:PgIn p)(c:Nat)(hc:c<256)(w:World):
  Calls prog 143 #[dV p,.int .i64 c] w fun e w'=>e=.returned (.bool (aC (wsP p) c))/\Kt nO w w':=by
 obtain⟨k,hk⟩:=xe (c/64);obtain⟨r,hr⟩:=xe (c%64);obtain⟨z,hz⟩:=xe (2 ^ r);obtain⟨x,hx⟩:=xe ((wsP p).getD k 0);obtain⟨y,hy⟩:=xe (x/z);obtain⟨b,hb⟩:=xe (y%2);have hxl:x<18446744073709551616:=by rw[hx];exact KZ ok k
 have hz1 : 1<=z:=by rw[hz];exact Nat.pow_pos (by decide)
 have hyx:y<=x:=by rw[hy];exact Nat.div_le_self _ _
 have hv:aC (wsP p) c=decide ((b:Int)=1):=by
  have:aC (wsP p) c=(b == 1):=by unfold aC;rw[<-hk,<-hr,<-hz,<-hx,<-hy,<-hb]
  rw[this];by_cases e:b=1
  ·simp[e]
  ·have:¬(b:Int)=1:=by omega
   simp[e,this]
 have K0:=aA ((Kt.refl nO w).alloc (aO p));have X0:=aA (nH w (aO p));have HZ:=aA (show 2 ^ (c%64)=z by rw[hz,hr]);have HX:=aA hx;rw[hv];have hk4:k<4:=by omega
 have hki:(c:Int)/64=(k:Int):=by omega
 have hkt:(c:Int).tdiv 64=(k:Int):=by rw[hk];rfl
 have hyi:(x:Int)/(z:Int)=y:=by rw[hy];simp
 have hyt:(x:Int).tdiv (z:Int)=y:=by rw[hy];rfl
 have hbi:(y:Int)%2=(b:Int):=by omega
 have hbt:(y:Int).tmod 2=(b:Int):=by rw[hb];rfl
 have hz0:¬(z:Int)=0:=by omega
 have hkw:IntKind.i64.wrap (k:Int)=k:=by rw[IntKind.wrap_i64];omega
 have hyw:IntKind.u64.wrap (y:Int)=y:=by rw[wrap_u64];omega
 have hbw:IntKind.u64.wrap (b:Int)=b:=by rw[wrap_u64];omega
 have hk4i:(k:Int)<4:=by omega
 clear hv hk hr hz hx hy hb;go_enter func143,ntmps143;go_wp2_with fail;generalize w.alloc (aO p)=W1 at *;have c7:=PK X0.out k hk4;rw[<-HX.out] at c7;have c7d:W1.drew.cell? ⟨w.heap.size,7+k,none⟩=some (.int .u64 x):=c7;go_region_with (go_at_call 191;refine(xJ c (by omega) _).mono ?_;rintro e w2 ⟨rfl,rfl⟩;rw[HZ.out])
 all_goals
  go_wp2_with fail;go_ret;exact⟨rfl,K0.out.drew⟩
def jZ(f:Nat->Nat):Nat->Nat
 | 0=>0
 | d+1=>jZ f d*256+f (7-d)
theorem yW(f:Nat->Nat)(h:∀ i,i<8->f i<256):∀ d,d<=8->jZ f d<256 ^ d
 | 0,_=>by simp[jZ]
 | d+1,hd=>by
  have h1:=yW f h d (by omega);have h2:=h (7-d) (by omega);rw[jZ,Nat.pow_succ];omega
theorem yV(f:Nat->Nat):∀ d e,d+e=8->jZ f d*256 ^ e+M.wordTo f e=M.wordTo f 8
 | 0,e,h=>by
  have:e=8:=by omega
  rw[this];simp[jZ]
 | d+1,e,h=>by
  rw[<-yV f d (e+1) (by omega),jZ,show 7-d=e by omega,M.wordTo,Nat.add_mul,Nat.pow_succ,Nat.mul_assoc,Nat.mul_comm 256];omega
theorem xY(I:Img)(V:ImV)(q:Nat)(hq:q+8<=I.nm)(hnm:I.nm<=4194304)(w:World)(hI:ImD w I V):
  Calls prog 149 #[imA I V,.int .u64 q] w fun e w'=>e=.returned (.int .u64 ((M.word I.mem q:Nat):Int))/\Kt nO w w':=by
 obtain⟨⟨ma,mc,hm⟩,⟨pa,pc,hp⟩,⟨ra,rc,hr⟩,⟨ha,hc,hh⟩,⟨ta,tc,ht⟩,-⟩:=hI.sl;obtain⟨vm,vp,vr,vh,vt⟩:=V;dsimp only at hm hp hr hh ht;subst hm hp hr hh ht;have IM0:=aA (show ImAt (w.alloc (aE I _)) w.heap.size I _ from⟨nH _ _,hI.keep ((Kt.refl _ w).alloc _)⟩);have K0:=aA (show Kt nO w (w.alloc (aE I _))from(Kt.refl _ w).alloc (aE I ⟨.slice ma I.nm mc,.slice pa I.np pc,.slice ra I.no rc,.slice ha I.hd.length hc,.slice ta I.pt.length tc⟩));obtain⟨c0,c1,c2,c3,c4,c5,c6,c7,c8⟩:=IM0.out.cells;obtain⟨F,hF⟩:=xe (fun i=>I.mem (q+i));have HFE:=aA (show ∀ i,F i=I.mem (q+i)from fun i=>by rw[hF]);obtain⟨rr,hrr⟩:=xe (M.word I.mem q);rw[<-hrr];have RR:=aA (show rr=M.wordTo F 8 by rw[hrr,hF];rfl);have HQ:=aA hq;have HNM:=aA hnm;clear hI hrr hF hq hnm;go_enter func149,ntmps149;go_wp2_with fail;clear c0 c1 c2 c3 c4 c5 c6 c7 c8;generalize w.heap.size=ib at *;generalize w.alloc (aE I ⟨.slice ma I.nm mc,.slice pa I.np pc,.slice ra I.no rc,.slice ha I.hd.length hc,.slice ta I.pt.length tc⟩)=W0 at *;have F256:=aA (show ∀ i,i<8->F i<256 from fun i hi=>by
  obtain⟨bl,o,e,-,hc⟩:=IM0.out.d.mem.at (q+i) (by have:=HQ.out;omega);rw[HFE.out];exact(hc (q+i) (by have:=HQ.out;omega)).1)
 go_loopw [5,6] (fun v iv W=>∃ d e:Nat,d+e=8/\v=.int .u64 (jZ F d:Int)/\iv=.int .u64 e/\Hid (Kt nO W0 W)) (fun _ iv _=>(intOf iv).toNat)
 case atStart=>exact⟨0,8,rfl,rfl,rfl,aA (Kt.refl _ _)⟩
 case round=>
  obtain⟨d,e,hde,rfl,rfl,hG⟩:=hrel;have IMa:=aA (IM0.out.keep hG.out);obtain⟨c0,c1,c2,c3,c4,c5,c6,c7,c8⟩:=IMa.out.cells;dsimp only at c4;by_cases hlt : 0<e
  ·have hei:(0:Int)<(e:Int):=(by omega);obtain⟨e',rfl⟩:∃ e',e=e'+1:=⟨e-1,by omega⟩;obtain⟨bl,o,e1,-,hc⟩:=IMa.out.d.mem.at (q+e') (by have:=HQ.out;omega);obtain⟨hx1,hx2⟩:=hc (q+e') (by have:=HQ.out;omega);subst e1;obtain⟨D,hD⟩:=xe (jZ F d);obtain⟨x,hx⟩:=xe (F e');rw[<-HFE.out,<-hx] at hx1 hx2;have hDl:=yW F F256.out d (by omega);rw[<-hD] at hDl ⊢;have hDl2:D<72057594037927936:=Nat.lt_of_lt_of_le hDl (by exact Nat.pow_le_pow_right (by decide) (show d<=7 by omega));have DN:=aA (show jZ F (d+1)=D*256+x by rw[jZ,<-hD,show 7-d=e' by omega,hx]);obtain⟨g,hg⟩:=xe (q+e');rw[<-hg] at hx2;obtain⟨e2,he2⟩:=xe (e'+1);obtain⟨g2,hg2⟩:=xe (g+1);have hgb:g2<=4194304:=(by have:=HQ.out;have:=HNM.out;omega);have hgm:g<I.nm:=(by have:=HQ.out;omega);have hgi:(g:Int)<I.nm:=(by omega);have s1:IntKind.u64.wrap ((q:Int)+(e2:Int))=(g2:Int):=(by rw[wrap_u64];omega);have s1':(q:Int)+(e2:Int)=g2:=(by omega);have s2:IntKind.u64.wrap ((g2:Int)-1)=(g:Int):=(by rw[wrap_u64];omega);have s2':(g2:Int)-1=(g:Int):=(by omega);have s3:IntKind.u64.wrap ((e2:Int)-1)=(e':Int):=(by rw[wrap_u64];omega);have s3':(e2:Int)-1=(e':Int):=(by omega);have s5:IntKind.u64.wrap ((D:Int)*256+(x:Int))=((D*256+x:Nat):Int):=(by rw[wrap_u64];omega);have s6:IntKind.u64.wrap (x:Int)=x:=(by rw[wrap_u64];omega);rw[<-he2];have hei2:(0:Int)<(e2:Int):=(by omega);have EQ:=aA (show d+1+e'=8/\e2=e'+1 from⟨by omega,he2⟩);have S5:=aA s5;have KG:=aA hG.out;clear hlt hei hde hc hDl hD hx hg he2 hg2 hgm hG s5;go_wp2_with fail;exact⟨⟨d+1,e',EQ.out.1,by rw[DN.out];simp,rfl,KG⟩,by have:=EQ.out.2;simp only[intOf,Int.toNat_natCast];omega⟩
  ·obtain rfl:e=0:=(by omega);obtain rfl:d=8:=(by omega);have er:rr=jZ F 8:=(by have:=yV F 8 0 rfl;rw[RR.out,<-this];simp[M.wordTo]);have ER:=aA er;clear er;go_wp2_with fail;go_ret;exact⟨congrArg (fun z:Nat=>Ending.returned (.int .u64 z)) ER.out.symm,nT K0.out hG.out⟩
theorem KY(I:Img)(V:ImV)(g:Nat)(c cc:Nat)(hg:g<I.np)(hcl:(I.pg g).cl=(cc:Int))(h7:cc<=7)(hlv:(I.pg g).kd=4->∃ l:Nat,(I.pg g).lv=(l:Int)/\l<=celN9 cc)(w:World)(hI:ImD w I V):
  Calls prog 150 #[imA I V,.int .i64 g,.int .i64 c] w fun e w'=>e=.returned (.bool (prS (c:Int) (I.pg g)))/\Kt nO w w':=by
 obtain⟨⟨ma,mc,hm⟩,⟨pa,pc,hp⟩,⟨ra,rc,hr⟩,⟨ha,hc,hh⟩,⟨ta,tc,ht⟩,-⟩:=hI.sl;obtain⟨vm,vp,vr,vh,vt⟩:=V;dsimp only at hm hp hr hh ht;subst hm hp hr hh ht;have IM0:=aA (show ImAt (w.alloc (aE I _)) w.heap.size I _ from⟨nH _ _,hI.keep ((Kt.refl _ w).alloc _)⟩);have K0:=aA (show Kt nO w (w.alloc (aE I _))from(Kt.refl _ w).alloc (aE I ⟨.slice ma I.nm mc,.slice pa I.np pc,.slice ra I.no rc,.slice ha I.hd.length hc,.slice ta I.pt.length tc⟩));obtain⟨c0,c1,c2,c3,c4,c5,c6,c7,c8⟩:=IM0.out.cells;obtain⟨bl,oo,oc,hv,-,hpc⟩:=IM0.out.page g hg
 cases hv
 obtain⟨d0,d1,d2,d3,d4,d5,d6,d7,d8,d9,d10⟩:=hpc.c;have hgi:(g:Int)<I.np:=by omega
 have CE:=aA (fun W=>pQ (I.pg g) cc hcl h7 W);obtain⟨bb,hbb⟩:=xe (prS (c:Int) (I.pg g));rw[<-hbb];have HB:=aA (show bb=(decide ((I.pg g).kd=4) && (decide ((I.pg g).cl=(c:Int)) && !decide ((I.pg g).lv=(celN9 cc:Int))))by rw[hbb,prS,hcl,Int.toNat_natCast]);have HLV:=aA hlv;have HC:=aA hcl;generalize I.pg g=p at *;clear hI hpc hg hbb hlv hcl;go_enter func150,ntmps150;go_upto_region 2 with fail;refine jQ (P:=fun W=>Code.wp prog _ _ _ W) _ ?_;intro W1 hW;have k1:Kt nO (w.alloc (aE I ⟨.slice ma I.nm mc,.slice (some ⟨bl,oo,none⟩) I.np pc,.slice ra I.no rc,.slice ha I.hd.length hc,.slice ta I.pt.length tc⟩)) W1:=by subst hW;exact(Kt.refl _ _).alloc _
 have X1:W1.heap[w.heap.size+1]?=some (aO p):=by subst hW;have:=nH (w.alloc (aE I ⟨.slice ma I.nm mc,.slice (some ⟨bl,oo,none⟩) I.np pc,.slice ra I.no rc,.slice ha I.hd.length hc,.slice ta I.pt.length tc⟩)) (aO p);rwa [World.size_alloc] at this
 have KE:=aA (nT K0.out k1);generalize w.heap.size+1=pb at *;have X:∀ x:KW W1,x.v.heap[pb]?=some (aO p):=fun x=>(x.k.block _ (lH X1) (fun y=>y)).trans X1
 clear hW k1 X1 c0 c1 c2 c3 c4 c5 c6 c7 c8 d0 d1 d2 d3 d4 d5 d6 d7 d8 d9 d10 IM0;have e0:∀ x:KW W1,x.v.cell? ⟨pb,0,none⟩=some (.int .i64 p.kd):=fun x=>by simp[World.cell?,X x]
 have e1:∀ x:KW W1,x.v.cell? ⟨pb,1,none⟩=some (.int .i64 p.od):=fun x=>by simp[World.cell?,X x]
 have e2:∀ x:KW W1,x.v.cell? ⟨pb,2,none⟩=some (.int .i64 p.cl):=fun x=>by simp[World.cell?,X x]
 have e3:∀ x:KW W1,x.v.cell? ⟨pb,3,none⟩=some (.int .i64 p.lv):=fun x=>by simp[World.cell?,X x]
 have e4:∀ x:KW W1,x.v.cell? ⟨pb,4,none⟩=some (.int .i64 p.nx):=fun x=>by simp[World.cell?,X x]
 have e5:∀ x:KW W1,x.v.cell? ⟨pb,5,none⟩=some (.int .i64 p.pv):=fun x=>by simp[World.cell?,X x]
 have e6:∀ x:KW W1,x.v.cell? ⟨pb,6,none⟩=some (.int .i64 p.fs):=fun x=>by simp[World.cell?,X x]
 have e7:∀ x:KW W1,x.v.cell? ⟨pb,7,none⟩=some (.int .u64 p.b0):=fun x=>by simp[World.cell?,X x]
 have e8:∀ x:KW W1,x.v.cell? ⟨pb,8,none⟩=some (.int .u64 p.b1):=fun x=>by simp[World.cell?,X x]
 have e9:∀ x:KW W1,x.v.cell? ⟨pb,9,none⟩=some (.int .u64 p.b2):=fun x=>by simp[World.cell?,X x]
 have e10:∀ x:KW W1,x.v.cell? ⟨pb,10,none⟩=some (.int .u64 p.b3):=fun x=>by simp[World.cell?,X x]
 by_cases h1:p.kd=4
 case neg=>
  have q1:(p.kd == 4)=false:=by rw[beq_eq_false_iff_ne];exact h1
  have eb:bb=false:=by rw[HB.out,decide_eq_false h1];rfl
  subst eb;clear h1;refine bT (by kernel_rfl) (by kernel_rfl) ?_;repeat (go_big_quiet_step (first|(go_at_call 64;exact Calls.kept_of (CE.out _))))
  refine wpQuiet_nil ?_;intro y;have YK:=aA (nT KE.out y.k);clear e0 e1 e2 e3 e4 e5 e6 e7 e8 e9 e10 X;generalize y.v=W6 at *;go_wp2_with fail;go_ret;exact⟨rfl,YK.out⟩
 have q1:(p.kd == 4)=true:=by rw[beq_iff_eq];exact h1
 obtain⟨l,hl,hle⟩:=HLV.out h1;have HL:=aA hl;have HLE:=aA hle;by_cases h2:p.cl=(c:Int)
 case neg=>
  have q2:(p.cl == (c:Int))=false:=by rw[beq_eq_false_iff_ne];exact h2
  have eb:bb=false:=by rw[HB.out,decide_eq_false h2];simp
  subst eb;clear h1 h2 hl hle;refine bT (by kernel_rfl) (by kernel_rfl) ?_;repeat (go_big_quiet_step (first|(go_at_call 64;exact Calls.kept_of (CE.out _))))
  refine wpQuiet_nil ?_;intro y;have YK:=aA (nT KE.out y.k);clear e0 e1 e2 e3 e4 e5 e6 e7 e8 e9 e10 X;generalize y.v=W6 at *;go_wp2_with fail;go_ret;exact⟨rfl,YK.out⟩
 have q2:(p.cl == (c:Int))=true:=by rw[beq_iff_eq];exact h2
 by_cases h3:l=celN9 cc
 ·have q3:¬p.lv<(celN9 cc:Int):=by omega
  have q4:decide (p.lv<(celN9 cc:Int))=false:=decide_eq_false q3;have eb:bb=false:=by rw[HB.out,hl,h3];simp
  subst eb;generalize celN9 cc=cn at *;clear h1 h2 h3 hl hle HL HLE;clear HLV HB;refine bT (by kernel_rfl) (by kernel_rfl) ?_;repeat (go_big_quiet_step (first|(go_at_call 64;exact Calls.kept_of (CE.out _))))
  refine wpQuiet_nil ?_;intro y;have YK:=aA (nT KE.out y.k);clear e0 e1 e2 e3 e4 e5 e6 e7 e8 e9 e10 X;generalize y.v=W6 at *;go_wp2_with fail;go_ret;exact⟨rfl,YK.out⟩
 ·have q3:p.lv<(celN9 cc:Int):=by omega
  have q4:decide (p.lv<(celN9 cc:Int))=true:=decide_eq_true q3;have eb:bb=true:=by
   rw[HB.out,decide_eq_true h1,decide_eq_true h2,decide_eq_false (by omega)];rfl
  subst eb;generalize celN9 cc=cn at *;clear h1 h2 h3 hl hle HL HLE;clear HLV HB;refine bT (by kernel_rfl) (by kernel_rfl) ?_;repeat (go_big_quiet_step (first|(go_at_call 64;exact Calls.kept_of (CE.out _))))
  refine wpQuiet_nil ?_;intro y;have YK:=aA (nT KE.out y.k);clear e0 e1 e2 e3 e4 e5 e6 e7 e8 e9 e10 X;generalize y.v=W6 at *;go_wp2_with fail;go_ret;exact⟨rfl,YK.out⟩
set_option maxHeartbeats 8000000
set_option maxRecDepth 6000
theorem LW(I:Img)(V:ImV)(k r:Nat)(hS:Sn9 I k r)(w:World)(hI:ImD w I V):
  Calls prog 110 #[imA I V] w fun e w'=>e=.returned (.int .i64 (eB (fst1 I.np (ok11 I))))/\Kt nO w w':=by
 obtain⟨⟨ma,mc,hm⟩,⟨pa,pc,hp⟩,⟨ra,rc,hr⟩,⟨ha,hc,hh⟩,⟨ta,tc,ht⟩,-⟩:=hI.sl;obtain⟨vm,vp,vr,vh,vt⟩:=V;dsimp only at hm hp hr hh ht;subst hm hp hr hh ht;have IM0:=aA (show ImAt (w.alloc (aE I _)) w.heap.size I _ from⟨nH _ _,hI.keep ((Kt.refl _ w).alloc _)⟩);have K0:=aA (show Kt nO w (w.alloc (aE I _))from(Kt.refl _ w).alloc (aE I ⟨.slice ma I.nm mc,.slice pa I.np pc,.slice ra I.no rc,.slice ha I.hd.length hc,.slice ta I.pt.length tc⟩));obtain⟨c0,c1,c2,c3,c4,c5,c6,c7,c8⟩:=IM0.out.cells;obtain⟨ok,hok⟩:=xe (ok11 I);rw[<-hok];have OKE:=aA (show ∀ i,ok i=ok11 I i from fun i=>by rw[hok]);have hnp:=hS.np1;have HS:=aA hS;clear hS;obtain⟨n,hn⟩:=xe (I.np);have NP:=aA hn;obtain⟨rr,hrr⟩:=xe (eB (fst1 I.np ok));rw[<-hrr];have BAD:=aA (show ∀ a,a<n->(∀ j,j<a->ok j=true)->ok a=false->rr=(a:Int)from fun a h1 h2 h3=>by rw[hrr,fK (by omega) h2 h3];rfl);have GOOD:=aA (show(∀ j,j<n->ok j=true)->rr = -1 from fun h=>by rw[hrr,fst1_ok (by rw[<-hn];exact h)];rfl);rw[<-hn] at c5 hnp IM0 K0;rw[<-hn];have HNP:=aA hnp;clear hI hok hn hrr hnp;go_enter func110,ntmps110;go_wp2_with fail;clear c0 c1 c2 c3 c4 c5 c6 c7 c8;generalize w.heap.size=ib at *;generalize w.alloc (aE I ⟨.slice ma I.nm mc,.slice pa n pc,.slice ra I.no rc,.slice ha I.hd.length hc,.slice ta I.pt.length tc⟩)=W0 at *;go_loopw [3] (fun iv W=>∃ a:Nat,a<=n/\iv=.int .i64 a/\Hid (Kt nO W0 W/\∀ j,j<a->ok j=true)) (fun iv _=>n-(intOf iv).toNat)
 case atStart=>exact⟨0,Nat.zero_le _,rfl,aA ⟨Kt.refl _ _,fun j hj=>by omega⟩⟩
 case round=>
  obtain⟨a,ha',rfl,hG⟩:=hrel;have IMa:=aA (IM0.out.keep hG.out.1);by_cases hlt:a<n
  ·have hai:(a:Int)<n:=(by omega);obtain⟨c0,c1,c2,c3,c4,c5,c6,c7,c8⟩:=IMa.out.cells;dsimp only at c5;obtain⟨bl,oo,oc,hv,-,hpc⟩:=IMa.out.page a (by rw[<-NP.out];exact hlt);injection hv with e1 e2 e3
   subst e1;clear e2 e3;obtain⟨d0,d1,d2,d3,d4,d5,d6,d7,d8,d9,d10⟩:=hpc.c;have OKA:=aA (OKE.out a);obtain⟨kd,od,cc,ll,-,-,-,-,y5,y6,-⟩:=HS.out.pg a (by rw[<-NP.out];exact hlt);have CE:=aA (fun W=>pQ (I.pg a) cc y5 y6 W);have EQ:=aA (show ok11 I a=(!(decide ((I.pg a).kd=4) && decide ((I.pg a).lv=(celN9 cc:Int))) || (decide ((I.pg a).nx = -1) && decide ((I.pg a).pv = -1)))by unfold ok11;rw[y5,Int.toNat_natCast]);rw[EQ.out] at OKA;clear EQ y5;have BADA:=aA (BAD.out a hlt hG.out.2);have HLT:=aA hlt;generalize I.pg a=p at *;clear hpc hlt ha';go_upto_region 5 with fail;refine jQ (P:=fun W=>Code.wp prog _ _ _ W) _ ?_;intro W1 hW;have k1:Kt nO wr W1:=(by subst hW;exact(Kt.refl _ wr).alloc _);have X1:W1.heap[wr.heap.size]?=some (aO p):=(by subst hW;exact nH _ _);have KE:=aA (nT hG.out.1 k1);have PREV:=aA hG.out.2;generalize wr.heap.size=pb at *;have X:∀ x:KW W1,x.v.heap[pb]?=some (aO p):=fun x=>(x.k.block _ (lH X1) (fun y=>y)).trans X1
   clear hW k1 X1 hG c0 c1 c2 c3 c4 c5 c6 c7 c8 d0 d1 d2 d3 d4 d5 d6 d7 d8 d9 d10 IMa;have e0:∀ x:KW W1,x.v.cell? ⟨pb,0,none⟩=some (.int .i64 p.kd):=fun x=>by simp[World.cell?,X x]
   have e1:∀ x:KW W1,x.v.cell? ⟨pb,1,none⟩=some (.int .i64 p.od):=fun x=>by simp[World.cell?,X x]
   have e2:∀ x:KW W1,x.v.cell? ⟨pb,2,none⟩=some (.int .i64 p.cl):=fun x=>by simp[World.cell?,X x]
   have e3:∀ x:KW W1,x.v.cell? ⟨pb,3,none⟩=some (.int .i64 p.lv):=fun x=>by simp[World.cell?,X x]
   have e4:∀ x:KW W1,x.v.cell? ⟨pb,4,none⟩=some (.int .i64 p.nx):=fun x=>by simp[World.cell?,X x]
   have e5:∀ x:KW W1,x.v.cell? ⟨pb,5,none⟩=some (.int .i64 p.pv):=fun x=>by simp[World.cell?,X x]
   have e6:∀ x:KW W1,x.v.cell? ⟨pb,6,none⟩=some (.int .i64 p.fs):=fun x=>by simp[World.cell?,X x]
   have e7:∀ x:KW W1,x.v.cell? ⟨pb,7,none⟩=some (.int .u64 p.b0):=fun x=>by simp[World.cell?,X x]
   have e8:∀ x:KW W1,x.v.cell? ⟨pb,8,none⟩=some (.int .u64 p.b1):=fun x=>by simp[World.cell?,X x]
   have e9:∀ x:KW W1,x.v.cell? ⟨pb,9,none⟩=some (.int .u64 p.b2):=fun x=>by simp[World.cell?,X x]
   have e10:∀ x:KW W1,x.v.cell? ⟨pb,10,none⟩=some (.int .u64 p.b3):=fun x=>by simp[World.cell?,X x]
   generalize celN9 cc=cn at *;have NEXT:=aA (show ok a=true->∀ j,j<a+1->ok j=true from fun eo j hj=>by
    by_cases e:j=a
    ·rw[e];exact eo
    ·exact PREV.out j (by omega))
   by_cases h1:p.kd=4
   case neg=>
    have q1:(p.kd == 4)=false:=(by rw[beq_eq_false_iff_ne];exact h1);refine bT (by kernel_rfl) (by kernel_rfl) ?_;repeat (go_big_quiet_step (first|(go_at_call 64;exact Calls.kept_of (CE.out _))))
    refine wpQuiet_nil ?_;intro y;have YK:=aA (nT KE.out y.k);clear e0 e1 e2 e3 e4 e5 e6 e7 e8 e9 e10 X;generalize y.v=W6 at *;have eo:ok a=true:=(by rw[OKA.out];rw[decide_eq_false h1];rfl);go_wp2_with fail;have hw:wrap64 ((a:Int)+1)=((a+1:Nat):Int):=(by have:=HNP.out;have:=HLT.out;rw[wrap64];omega);rw[hw];exact⟨⟨a+1,by have:=HLT.out;omega,rfl,aA ⟨YK.out,NEXT.out eo⟩⟩,by have:=HLT.out;simp only[intOf,Int.toNat_natCast];omega⟩
   have q1:(p.kd == 4)=true:=(by rw[beq_iff_eq];exact h1);have H1:=aA h1;clear h1;by_cases h2:p.lv=(cn:Int)
   case neg=>
    have q2:(p.lv == (cn:Int))=false:=(by rw[beq_eq_false_iff_ne];exact h2);refine bT (by kernel_rfl) (by kernel_rfl) ?_;repeat (go_big_quiet_step (first|(go_at_call 64;exact Calls.kept_of (CE.out _))))
    refine wpQuiet_nil ?_;intro y;have YK:=aA (nT KE.out y.k);clear e0 e1 e2 e3 e4 e5 e6 e7 e8 e9 e10 X;generalize y.v=W6 at *;have eo:ok a=true:=(by rw[OKA.out];rw[decide_eq_false h2];simp);go_wp2_with fail;have hw:wrap64 ((a:Int)+1)=((a+1:Nat):Int):=(by have:=HNP.out;have:=HLT.out;rw[wrap64];omega);rw[hw];exact⟨⟨a+1,by have:=HLT.out;omega,rfl,aA ⟨YK.out,NEXT.out eo⟩⟩,by have:=HLT.out;simp only[intOf,Int.toNat_natCast];omega⟩
   have q2:(p.lv == (cn:Int))=true:=(by rw[beq_iff_eq];exact h2);have H2:=aA h2;clear h2;by_cases h3:p.nx = -1
   case neg=>
    have q3:(p.nx != -1)=true:=(by rw[bne_iff_ne];exact h3);refine bT (by kernel_rfl) (by kernel_rfl) ?_;repeat (go_big_quiet_step (first|(go_at_call 64;exact Calls.kept_of (CE.out _))))
    refine wpQuiet_nil ?_;intro y;have YK:=aA (nT KE.out y.k);clear e0 e1 e2 e3 e4 e5 e6 e7 e8 e9 e10 X;generalize y.v=W6 at *;have er:=BADA.out (by rw[OKA.out];rw[decide_eq_true H1.out,decide_eq_true H2.out,decide_eq_false h3];rfl);subst er;go_wp2_with fail;go_ret;exact⟨rfl,nT K0.out YK.out⟩
   have q3:(p.nx != -1)=false:=(by rw[bne_eq_false_iff_eq];exact h3);have H3:=aA h3;clear h3;by_cases h4:p.pv = -1
   case neg=>
    have q4:(p.pv != -1)=true:=(by rw[bne_iff_ne];exact h4);refine bT (by kernel_rfl) (by kernel_rfl) ?_;repeat (go_big_quiet_step (first|(go_at_call 64;exact Calls.kept_of (CE.out _))))
    refine wpQuiet_nil ?_;intro y;have YK:=aA (nT KE.out y.k);clear e0 e1 e2 e3 e4 e5 e6 e7 e8 e9 e10 X;generalize y.v=W6 at *;have er:=BADA.out (by rw[OKA.out];rw[decide_eq_true H1.out,decide_eq_true H2.out,decide_eq_false h4];simp);subst er;go_wp2_with fail;go_ret;exact⟨rfl,nT K0.out YK.out⟩
   have q4:(p.pv != -1)=false:=(by rw[bne_eq_false_iff_eq];exact h4);have H4:=aA h4;clear h4;refine bT (by kernel_rfl) (by kernel_rfl) ?_;repeat (go_big_quiet_step (first|(go_at_call 64;exact Calls.kept_of (CE.out _))))
   refine wpQuiet_nil ?_;intro y;have YK:=aA (nT KE.out y.k);clear e0 e1 e2 e3 e4 e5 e6 e7 e8 e9 e10 X;generalize y.v=W6 at *;have eo:ok a=true:=(by rw[OKA.out];rw[decide_eq_true H3.out,decide_eq_true H4.out];simp);go_wp2_with fail;have hw:wrap64 ((a:Int)+1)=((a+1:Nat):Int):=(by have:=HNP.out;have:=HLT.out;rw[wrap64];omega);rw[hw];exact⟨⟨a+1,by have:=HLT.out;omega,rfl,aA ⟨YK.out,NEXT.out eo⟩⟩,by have:=HLT.out;simp only[intOf,Int.toNat_natCast];omega⟩
  ·have hai:¬(a:Int)<n:=(by omega);obtain⟨c0,c1,c2,c3,c4,c5,c6,c7,c8⟩:=IMa.out.cells;dsimp only at c5;have er:=GOOD.out (fun j hj=>hG.out.2 j (by omega));subst er;go_wp2_with fail;go_ret;exact⟨rfl,nT K0.out hG.out.1⟩
end Go.Proofs.YtkfmheelhinjdaaGreatDoor.W
