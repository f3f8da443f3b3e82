import Derived.Test.YtkfmheelhinjdaaGreatDoorXb
set_option maxRecDepth 1000000
set_option maxHeartbeats 80000000
namespace Go.Proofs.YtkfmheelhinjdaaGreatDoor.W
open Tryz
open Go.RowKit
set_option linter.unusedVariables false
def gN(np j:Nat):Nat:=(np/2 ^ (j+1)+63)/64
def r2(I:Img)(k:Nat):Option Nat:=
 if wiB I.reg 0 I.lim=false then some 0
 else if I.nm≠I.reg.toNat*2 ^ k*4096 then some 1
 else if I.np≠I.reg.toNat*2 ^ k then some 2
 else if I.no≠k then some 3
 else if fst1 I.no (fun j=>decide ((I.pr j).length=gN I.np j))≠none then some 3
 else if I.hd.length≠k+1 then some 4
 else if I.pt.length≠8 then some 5
 else none
structure LnI(w W:World)(b g:Nat)(I:Img)(V:ImV):Prop where
 im:ImAt W b I V
 cf:W.heap[g]?=some (.cells #[.int .u64 I.bS,.int .i64 I.lim,.int .i64 I.ord] 29 (0,0))
 k:Kt nO w W
theorem LnI.keep{w W W':World}{b g:Nat}{I:Img}{V:ImV}(h:LnI w W b g I V)(hk:Kt nO W W'):LnI w W' b g I V:=
 ⟨h.im.keep hk,(hk.block _ (lH h.cf) (fun x=>x)).trans h.cf,nT h.k hk⟩
theorem LnI.all{w W:World}{b g:Nat}{I:Img}{V:ImV}(h:LnI w W b g I V):(∀ x:KW W,x.v.cell? ⟨g,1,none⟩=some (.int .i64 I.lim))/\(∀ x:KW W,x.v.cell? ⟨g,2,none⟩=some (.int .i64 I.ord)):=
 ⟨fun x=>by simp[World.cell?,(h.keep x.k).cf],fun x=>by simp[World.cell?,(h.keep x.k).cf]⟩
theorem ImD.sl{w:World}{I:Img}{V:ImV}(h:ImD w I V):(∃ a c,V.m=.slice a I.nm c)/\(∃ a c,V.p=.slice a I.np c)/\(∃ a c,V.r=.slice a I.no c)/\(∃ a c,V.h=.slice a I.hd.length c)/\(∃ a c,V.t=.slice a I.pt.length c)/\I.nm<=9223372036854775807/\I.np<=9223372036854775807/\I.no<=9223372036854775807/\I.pt.length<=9223372036854775807:=by
 obtain⟨m1,ma,mc,m2,_⟩:=h.mem;obtain⟨p1,pa,pc,p2,_⟩:=h.pgs;obtain⟨ws,r1,ra,rc,r2,_⟩:=h.prs;obtain⟨_,ha,hc,h2,_⟩:=h.hds;obtain⟨t1,ta,tc,t2,_⟩:=h.pts;exact⟨⟨ma,mc,m2⟩,⟨pa,pc,p2⟩,⟨ra,rc,r2⟩,⟨ha,hc,h2⟩,⟨ta,tc,t2⟩,m1,p1,r1,t1⟩
theorem ZC(b:Nat)(I:Img)(V:ImV)(k L:Nat)(hk:k<=8)(hL:L<=64)(hko:I.ord=(k:Int))(hlo:I.lim=(L:Int))(hhd:I.hd.length<=9223372036854775807)(w:World)(hI:ImAt w b I V):
  Calls prog 166 #[.pointer (some ⟨b,0,none⟩)] w fun e w'=>e=aZ (r2 I k)/\Kt nO w w':=by
 obtain⟨⟨ma,mc,hm⟩,⟨pa,pc,hp⟩,⟨ra,rc,hr⟩,⟨ha,hc,hh⟩,⟨ta,tc,ht⟩,bm,bp,br,bt⟩:=hI.d.sl;obtain⟨c0,c1,c2,c3,c4,c5,c6,c7,c8⟩:=hI.cells;have hrg:=hI.d.reg;have HPO:=aA (fun (j:Nat) (hj:j<=8) (W:World) (hW:ImAt W b I V)=>zR b I V j W hW hj bp);have L0:=aA (show LnI w (w.alloc (.cells #[.int .u64 I.bS,.int .i64 I.lim,.int .i64 I.ord] 29 (0,0))) b w.heap.size I V from⟨hI.keep ((Kt.refl _ w).alloc _),nH _ _,(Kt.refl _ w).alloc _⟩);obtain⟨EE,hEE⟩:=xe (aZ (r2 I k));rw[<-hEE];have HE:=aA hEE;have HI:=aA hI;have HKO:=aA hko;have HLO:=aA hlo;clear hEE hI hko hlo;have SL:=aA (show V.m=.slice ma I.nm mc/\V.p=.slice pa I.np pc/\V.r=.slice ra I.no rc/\V.h=.slice ha I.hd.length hc/\V.t=.slice ta I.pt.length tc from⟨hm,hp,hr,hh,ht⟩);clear hm hp hr hh ht;go_enter func166,ntmps166;go_wp2_with fail;generalize w.alloc (.cells #[.int .u64 I.bS,.int .i64 I.lim,.int .i64 I.ord] 29 (0,0))=W0 at *;generalize w.heap.size=g at *;clear c0 c1 c2 c3 c4 c5 c6 c7 c8;obtain⟨c0,c1,c2,c3,c4,c5,c6,c7,c8⟩:=L0.out.im.all;obtain⟨q1,q2⟩:=L0.out.all;rw[SL.out.1] at c4;rw[SL.out.2.1] at c5;rw[SL.out.2.2.1] at c6;rw[SL.out.2.2.2.1] at c7;rw[SL.out.2.2.2.2] at c8;rw[HKO.out] at c2 q2;rw[HLO.out] at c1 q1;have HWI:=aA (fun W=>gJ I.reg 0 (L:Int) W);have hw0:wiB I.reg 0 I.lim=wiB I.reg 0 (L:Int):=by rw[HLO.out]
 cases hb0:wiB I.reg 0 (L:Int)with
 | false=>
  rw[hb0] at HWI hw0;refine fS (by kernel_rfl) (by kernel_rfl) (by exact List.cons_ne_nil _ _) ?_;dsimp only[List.dropLast,List.getLast];repeat (go_big_quiet_step (first|(go_at_call 214;exact Calls.kept_of ((HWI.out _).mono fun _ _ ⟨h1,h2⟩=>⟨h1,h2▸Kt.refl _ _⟩))))
  refine wpQuiet_nil ?_;refine⟨rfl,?_⟩;rintro _ ⟨x,rfl⟩;exact fR (p:=0) rfl rfl rfl fun _ hd=>⟨hd,by rw[HE.out,r2,hw0,if_pos rfl];rfl,nT L0.out.k x.k⟩
 | true=>
  rw[hb0] at HWI hw0;have HMY:=aA (fun W=>cG 0 W);refine dN (by kernel_rfl) (by kernel_rfl) ?_;repeat (go_big_quiet_step (first|(go_at_call 214;exact Calls.kept_of ((HWI.out _).mono fun _ _ ⟨h1,h2⟩=>⟨h1,h2▸Kt.refl _ _⟩))|(go_at_call 212;exact Calls.kept_of ((HMY.out _).mono fun _ _ ⟨h1,h2⟩=>⟨h1,h2▸Kt.refl _ _⟩))))
  refine wpQuiet_nil ?_;intro x;have L1:=aA (L0.out.keep x.k);have hreg : 0<=I.reg/\I.reg<=(L:Int):=by unfold wiB at hb0;exact of_decide_eq_true hb0
  obtain⟨r,hr⟩:=Int.eq_ofNat_of_zero_le hreg.1;have HR:=aA hr;have hrl:r<=64:=by omega
  have hP:=M.pow8 k hk;obtain⟨n,hn⟩:=xe (r*2 ^ k);have hn1:n<=16384:=by
   rw[hn];exact Nat.le_trans (Nat.mul_le_mul hrl hP.2) (by decide)
  have hsh:wrap64 ((r:Int)*2 ^ k)=(n:Int):=by
   have e:((2:Int) ^ k)=((2 ^ k:Nat):Int):=(by simp);have e2:(r:Int)*((2 ^ k:Nat):Int)=(n:Int):=(by rw[hn];simp);rw[e,e2];unfold wrap64;omega
  have HN:=aA (show I.reg.toNat*2 ^ k=n by rw[hr,Int.toNat_natCast,hn]);have HR2:=aA (show r2 I k=(if I.nm≠n*4096 then some 1 else if I.np≠n then some 2 else if I.no≠k then some 3 else if fst1 I.no (fun j=>decide ((I.pr j).length=gN I.np j))≠none then some 3 else if I.hd.length≠k+1 then some 4 else if I.pt.length≠8 then some 5 else none)by unfold r2;rw[if_neg (by rw[hw0];simp),HN.out]);clear c0 c1 c2 c3 c4 c5 c6 c7 c8 q1 q2 HWI HMY hb0 hw0 hreg hrg hr hn hP;go_wp2_with fail;generalize x.v=W1 at *;obtain⟨c0,c1,c2,c3,c4,c5,c6,c7,c8⟩:=L1.out.im.all;obtain⟨q1,q2⟩:=L1.out.all;rw[SL.out.1] at c4;rw[SL.out.2.1] at c5;rw[SL.out.2.2.1] at c6;rw[SL.out.2.2.2.1] at c7;rw[SL.out.2.2.2.2] at c8;rw[HKO.out] at c2 q2;rw[HLO.out] at c1 q1;rw[HR.out] at c3;refine dN (by kernel_rfl) (by kernel_rfl) ?_;repeat (go_big_quiet_step (fail))
  refine wpQuiet_nil ?_;intro y;have L2:=aA (L1.out.keep y.k);clear c0 c1 c2 c3 c4 c5 c6 c7 c8 q1 q2;generalize y.v=W2 at *;obtain⟨c0,c1,c2,c3,c4,c5,c6,c7,c8⟩:=L2.out.im.cells;rw[SL.out.1] at c4;rw[SL.out.2.1] at c5;rw[SL.out.2.2.1] at c6;rw[SL.out.2.2.2.1] at c7;rw[SL.out.2.2.2.2] at c8;by_cases e1:I.nm=n*4096
  case neg=>
   have f1:((I.nm:Int) == (n:Int)*4096)=false:=(by rw[beq_eq_false_iff_ne];omega);have E1:=aA e1;clear e1;go_wp2_with fail;refine(dD _ _).mono ?_;rintro e w2 ⟨rfl,rfl⟩;exact⟨rfl,by rw[HE.out,HR2.out,if_pos E1.out];rfl,L2.out.k⟩
  have f1:((I.nm:Int) == (n:Int)*4096)=true:=by rw[beq_iff_eq];omega
  have E1:=aA e1;clear e1;go_wp2_with fail;refine(cG _ _).mono ?_;rintro e w2 ⟨rfl,rfl⟩;clear f1;by_cases e2:I.np=n
  case neg=>
   have f2:((I.np:Int) == (n:Int))=false:=(by rw[beq_eq_false_iff_ne];omega);have E2:=aA e2;clear e2;go_wp2_with fail;refine(dD _ _).mono ?_;rintro e w2 ⟨rfl,rfl⟩;exact⟨rfl,by rw[HE.out,HR2.out,if_neg (not_not_intro E1.out),if_pos E2.out];rfl,L2.out.k⟩
  have f2:((I.np:Int) == (n:Int))=true:=by rw[beq_iff_eq];omega
  have E2:=aA e2;clear e2;go_wp2_with fail;refine(cG _ _).mono ?_;rintro e w2 ⟨rfl,rfl⟩;clear f2;go_wp2_with fail;clear c0 c1 c2 c3 c4 c5 c6 c7 c8;obtain⟨c0,c1,c2,c3,c4,c5,c6,c7,c8⟩:=L2.out.im.all;obtain⟨q1,q2⟩:=L2.out.all;rw[SL.out.1] at c4;rw[SL.out.2.1] at c5;rw[SL.out.2.2.1] at c6;rw[SL.out.2.2.2.1] at c7;rw[SL.out.2.2.2.2] at c8;rw[HKO.out] at c2 q2;rw[HLO.out] at c1 q1;by_cases e3:I.no=k
  case neg=>
   have f3:((I.no:Int) == (k:Int))=false:=(by rw[beq_eq_false_iff_ne];omega);have E3:=aA e3;clear e3;refine fS (by kernel_rfl) (by kernel_rfl) (by exact List.cons_ne_nil _ _) ?_;dsimp only[List.dropLast,List.getLast];repeat (go_big_quiet_step (fail))
   refine wpQuiet_nil ?_;refine⟨rfl,?_⟩;rintro _ ⟨x,rfl⟩;exact fR (p:=3) rfl rfl rfl fun _ hd=>⟨hd,by rw[HE.out,HR2.out,if_neg (not_not_intro E1.out),if_neg (not_not_intro E2.out),if_pos E3.out];rfl,nT L2.out.k x.k⟩
  have f3:((I.no:Int) == (k:Int))=true:=by rw[beq_iff_eq];omega
  have E3:=aA e3;clear e3;have HMY:=aA (fun W=>cG 3 W);refine dN (by kernel_rfl) (by kernel_rfl) ?_;repeat (go_big_quiet_step (first|(go_at_call 212;exact Calls.kept_of ((HMY.out _).mono fun _ _ ⟨h1,h2⟩=>⟨h1,h2▸Kt.refl _ _⟩))))
  refine wpQuiet_nil ?_;intro x;have L3:=aA (L2.out.keep x.k);clear c0 c1 c2 c3 c4 c5 c6 c7 c8 q1 q2 HMY f3;generalize x.v=W3 at *;obtain⟨c0,c1,c2,c3,c4,c5,c6,c7,c8⟩:=L3.out.im.cells;rw[SL.out.1] at c4;rw[SL.out.2.1] at c5;rw[SL.out.2.2.1] at c6;rw[SL.out.2.2.2.1] at c7;rw[SL.out.2.2.2.2] at c8;go_wp2_with fail;clear c0 c1 c2 c3 c4 c5 c6 c7 c8;go_loopw [56] (fun i W=>∃ a:Nat,a<=I.no/\i=.int .i64 a/\Hid (LnI w W b g I V/\∀ x,x<a->decide ((I.pr x).length=gN I.np x)=true)) (fun i _=>I.no-(intOf i).toNat)
  case atStart=>exact⟨0,Nat.zero_le _,rfl,aA ⟨L3.out,fun x hx=>by omega⟩⟩
  case round=>
   clear L3;obtain⟨a,ha',rfl,hR⟩:=hrel;by_cases hlt:a<I.no
   ·have hai:(a:Int)<I.no:=(by omega);obtain⟨ws,_,ra',rc',hrv,hr3⟩:=hR.out.1.im.d.prs;rw[SL.out.2.2.1] at hrv;injection hrv with e1 e2 e3
    subst e1;rcases hr3 with hr3|⟨bl,o,rfl,_,hcc⟩
    ·omega
    obtain⟨d0,hz,za,zc,hzv,_⟩:=hcc a hlt;rw[hzv] at d0;have ha8:a<=8:=(by have:=E3.out;omega);have HP:=aA (HPO.out a ha8 wr hR.out.1.im);obtain⟨pn,hpn⟩:=xe (I.np/2 ^ (a+1));rw[<-hpn] at HP;have hpnl:pn<=16384:=(by rw[hpn,E2.out];exact Nat.le_trans (Nat.div_le_self _ _) hn1);have hq:((pn:Int)+64-1)/64=((gN I.np a:Nat):Int):=(by unfold gN;rw[<-hpn];omega);obtain⟨q,hqq⟩:=xe (gN I.np a);rw[<-hqq] at hq;have hql:q<=300:=(by rw[hqq];unfold gN;rw[<-hpn];omega);obtain⟨zl,hzl⟩:=xe ((I.pr a).length);rw[<-hzl] at d0;have HZ:=aA (show zl=(I.pr a).length/\q=gN I.np a from⟨hzl,hqq⟩);clear hcc hz hzv hqq hpn hzl e2 e3;by_cases e4:zl=q
    case neg=>
     have f4:((zl:Int) == (q:Int))=false:=(by rw[beq_eq_false_iff_ne];omega);have E4:=aA (show fst1 I.no (fun j=>decide ((I.pr j).length=gN I.np j))=some a from jZ hlt hR.out.2 (by rw[<-HZ.out.1,<-HZ.out.2];exact decide_eq_false e4));clear e4;go_wp2_with fail;refine HP.out.mono ?_;rintro e w2 ⟨rfl,rfl⟩;go_wp2_with fail;refine(dD _ _).mono ?_;rintro e w2 ⟨rfl,rfl⟩;exact⟨rfl,by rw[HE.out,HR2.out,if_neg (not_not_intro E1.out),if_neg (not_not_intro E2.out),if_neg (not_not_intro E3.out),if_pos (by rw[E4.out];exact Option.some_ne_none _)];rfl,hR.out.1.k⟩
    have f4:((zl:Int) == (q:Int))=true:=(by rw[beq_iff_eq];omega);have R2:=aA (show LnI w wr b g I V/\∀ x,x<a+1->decide ((I.pr x).length=gN I.np x)=true from⟨hR.out.1,fun x hx=>by
     by_cases e:x=a
     ·rw[e,<-HZ.out.1,<-HZ.out.2];exact decide_eq_true e4
     ·exact hR.out.2 x (by omega)⟩)
    clear e4;go_wp2_with fail;refine HP.out.mono ?_;rintro e w2 ⟨rfl,rfl⟩;go_wp2_with fail;refine(cG _ _).mono ?_;rintro e w2 ⟨rfl,rfl⟩;go_wp2_with fail;go_round
    case rel=>exact⟨a+1,by omega,by go_num,R2⟩
    case measure=>simp[intOf];omega
   ·have hae:a=I.no:=(by omega);have hai:¬(a:Int)<I.no:=(by omega);have E4:=aA (show fst1 I.no (fun j=>decide ((I.pr j).length=gN I.np j))=none from fst1_ok (fun x hx=>hR.out.2 x (by omega)));have L4:=aA hR.out.1;clear hae;go_wp2_with fail;generalize wr=W4 at *;obtain⟨c0,c1,c2,c3,c4,c5,c6,c7,c8⟩:=L4.out.im.all;obtain⟨q1,q2⟩:=L4.out.all;rw[SL.out.1] at c4;rw[SL.out.2.1] at c5;rw[SL.out.2.2.1] at c6;rw[SL.out.2.2.2.1] at c7;rw[SL.out.2.2.2.2] at c8;rw[HKO.out] at c2 q2;rw[HLO.out] at c1 q1;by_cases e5:I.hd.length=k+1
    case neg=>
     have f5:((I.hd.length:Int) == (k:Int)+1)=false:=(by rw[beq_eq_false_iff_ne];omega);have E5:=aA e5;clear e5;refine fS (by kernel_rfl) (by kernel_rfl) (by exact List.cons_ne_nil _ _) ?_;dsimp only[List.dropLast,List.getLast];repeat (go_big_quiet_step (fail))
     refine wpQuiet_nil ?_;refine⟨rfl,?_⟩;rintro _ ⟨x,rfl⟩;exact fR (p:=4) rfl rfl rfl fun _ hd=>⟨hd,by rw[HE.out,HR2.out,if_neg (not_not_intro E1.out),if_neg (not_not_intro E2.out),if_neg (not_not_intro E3.out),if_neg (not_not_intro E4.out),if_pos E5.out];rfl,nT L4.out.k x.k⟩
    have f5:((I.hd.length:Int) == (k:Int)+1)=true:=(by rw[beq_iff_eq];omega);have E5:=aA e5;clear e5;have HMY:=aA (fun W=>cG 4 W);refine dN (by kernel_rfl) (by kernel_rfl) ?_;repeat (go_big_quiet_step (first|(go_at_call 212;exact Calls.kept_of ((HMY.out _).mono fun _ _ ⟨h1,h2⟩=>⟨h1,h2▸Kt.refl _ _⟩))))
    refine wpQuiet_nil ?_;intro x;have L5:=aA (L4.out.keep x.k);clear c0 c1 c2 c3 c4 c5 c6 c7 c8 q1 q2 HMY f5;generalize x.v=W5 at *;obtain⟨c0,c1,c2,c3,c4,c5,c6,c7,c8⟩:=L5.out.im.cells;rw[SL.out.1] at c4;rw[SL.out.2.1] at c5;rw[SL.out.2.2.1] at c6;rw[SL.out.2.2.2.1] at c7;rw[SL.out.2.2.2.2] at c8;by_cases e6:I.pt.length=8
    case neg=>
     have f6:((I.pt.length:Int) == 8)=false:=(by rw[beq_eq_false_iff_ne];omega);have E6:=aA e6;clear e6;go_wp2_with fail;refine(dD _ _).mono ?_;rintro e w2 ⟨rfl,rfl⟩;exact⟨rfl,by rw[HE.out,HR2.out,if_neg (not_not_intro E1.out),if_neg (not_not_intro E2.out),if_neg (not_not_intro E3.out),if_neg (not_not_intro E4.out),if_neg (not_not_intro E5.out),if_pos E6.out];rfl,L5.out.k⟩
    have f6:((I.pt.length:Int) == 8)=true:=(by rw[beq_iff_eq];omega);have E6:=aA e6;clear e6;go_wp2_with fail;refine(cG _ _).mono ?_;rintro e w2 ⟨rfl,rfl⟩;clear f6;go_wp2_with fail;first|go_end0|go_ret
    exact⟨by rw[HE.out,HR2.out,if_neg (not_not_intro E1.out),if_neg (not_not_intro E2.out),if_neg (not_not_intro E3.out),if_neg (not_not_intro E4.out),if_neg (not_not_intro E5.out),if_neg (not_not_intro E6.out)];rfl,L5.out.k⟩
theorem CS(a0 a1 a2 a3 b0 b1 b2 b3:Int)(w:World):
  (Op.equalIn 9999 97 (.agg #[.int .u64 a0,.int .u64 a1,.int .u64 a2,.int .u64 a3]) (.agg #[.int .u64 b0,.int .u64 b1,.int .u64 b2,.int .u64 b3])).run prog w=.ok (a0 == b0 && (a1 == b1 && (a2 == b2 && a3 == b3))) w:=by
 have u3:=Tryz.underlying27;have s3:=Tryz.isAgg27;have z3:=Tryz.sizeOf27;rw[show(9999:Nat)=9998+1 from rfl,Op.equalIn];simp only[Sem.run_bind,run_underlying Tryz.underlying97,Result.andThen_ok];simp only[Std.Legacy.Range.forIn_eq_forIn_range',Std.Legacy.Range.size,Nat.sub_zero,Nat.add_sub_cancel,Nat.div_one,List.range'_succ,List.range'_zero,List.forIn_cons,List.forIn_nil];go_simp
 by_cases h1:a0=b0 <;> by_cases h2:a1=b1 <;> by_cases h3:a2=b2 <;> by_cases h4:a3=b3 <;> simp[h1,h2,h3,h4]
def pgE(p q:Pg):Bool:=decide (p=q)
theorem qE(p q:Pg)(w:World):(binOp .eql 99 (fD p) (fD q)).run prog w=.ok (.bool (pgE p q)) w:=by
 have AE:=CS;obtain⟨kd,od,cl,lv,nx,pv,fs,b0,b1,b2,b3⟩:=p;obtain⟨kd',od',cl',lv',nx',pv',fs',b0',b1',b2',b3'⟩:=q;have u3:=Tryz.underlying3;have s3:=Tryz.isAgg3;have z3:=Tryz.sizeOf3;rw[run_eql_struct];go_simp
 unfold pgE;repeat' split
 all_goals
  refine congrArg (fun b=>Result.ok (Value.bool b) w) ?_;symm;first
   | (rw[decide_eq_true_iff,Pg.mk.injEq];omega)
   | (rw[decide_eq_false_iff_not,Pg.mk.injEq];omega)
structure Sn9(I:Img)(k r:Nat):Prop where
 k8:k<=8
 ord:I.ord=(k:Int)
 np:I.np=r*2 ^ k
 np1:I.np<=1024
 nm:I.nm=I.np*4096
 no:I.no=k
 pl:∀ j,j<k->(I.pr j).length=gN I.np j
 hl:I.hd.length=k+1
 tl:I.pt.length=8
 b0:I.bS≠0
 bm:I.bS%M.RS k=0
 be:I.bS+I.nm<=9223372036854775808
 rg:∀ i,i<I.np->rngB (k:Int) I.np (I.pg i)=true
theorem Sn9.pg{I:Img}{k r:Nat}(h:Sn9 I k r)(i:Nat)(hi:i<I.np):∃ kd o c l:Nat,(I.pg i).kd=(kd:Int)/\kd<=4/\(I.pg i).od=(o:Int)/\o<=k/\(I.pg i).cl=(c:Int)/\c<=7/\(I.pg i).lv=(l:Int)/\l<=256/\(-1<=(I.pg i).nx/\(I.pg i).nx<I.np)/\(-1<=(I.pg i).pv/\(I.pg i).pv<I.np) /\ -1<=(I.pg i).fs/\(I.pg i).fs<=255:=by
 have:=h.rg i hi;simp only[rngB,wiB,Bool.and_eq_true,decide_eq_true_eq] at this;obtain⟨⟨h1,h2⟩,⟨h3,h4⟩,⟨h5,h6⟩,⟨h7,h8⟩,⟨h9,h10⟩,⟨h11,h12⟩,h13,h14⟩:=this;refine⟨(I.pg i).kd.toNat,(I.pg i).od.toNat,(I.pg i).cl.toNat,(I.pg i).lv.toNat,?_,?_,?_,?_,?_,?_,?_,?_,?_,?_,?_,?_⟩ <;> omega
theorem Sn9.dvd{I:Img}{k r:Nat}(h:Sn9 I k r)(o:Nat)(ho:o<=k) : 2 ^ o ∣ I.np:=by
 rw[h.np];exact Nat.dvd_trans (Nat.pow_dvd_pow 2 ho) (Nat.dvd_mul_left _ _)
theorem mul_fits{m a n:Nat}(hm:m ∣ n)(ha:a%m=0)(h:a<n):a+m<=n:=by
 obtain⟨x,rfl⟩:=Nat.dvd_of_mod_eq_zero ha;obtain⟨y,rfl⟩:=hm;have hxy:x<y:=Nat.lt_of_mul_lt_mul_left h;have:m*(x+1)<=m*y:=Nat.mul_le_mul_left m hxy;rwa [Nat.mul_add,Nat.mul_one] at this
theorem nU{od P:Nat}(h8:od<=8)(hP:P=2 ^ od):wrap64 ((1:Int)*2 ^ od)=(P:Int)/\((2:Int) ^ od)=(P:Int)/\wrap64 ((2:Int)*2 ^ od)=2*(P:Int):=by
 have h:=M.pow8 od h8;have e:((2:Int) ^ od)=((2 ^ od:Nat):Int):=by simp
 rw[e,<-hP];rw[<-hP] at h;refine⟨?_,rfl,?_⟩ <;> unfold wrap64 <;> omega
theorem KJ{P:Nat}(h : 1<=P):¬((2:Int)*(P:Int))=0:=by omega
theorem KG{a P:Nat}(h:a%(2*P)=0):((a:Int)%(2*(P:Int)) == 0)=true:=by
 rw[beq_iff_eq];have:((a%(2*P):Nat):Int)=0:=by rw[h];rfl
 simpa using this
theorem KE{a P:Nat}(h:¬a%(2*P)=0):((a:Int)%(2*(P:Int)) == 0)=false:=by
 rw[beq_eq_false_iff_ne];intro e;apply h
 have:((a%(2*P):Nat):Int)=0:=by simpa using e
 omega
theorem GD{P:Nat}(h : 1<=P):¬(P:Int)=0:=by omega
def hdOk(p:Pg)(a:Nat):Bool:=
 if p.kd=4 then decide (p.od=0) else if p.kd=0\/p.kd=2 then decide (a%2 ^ p.od.toNat=0) && pgE p (aN p.kd p.od) else false
def rsOk(p q:Pg):Bool:=pgE q (aN (p.kd+1) p.od)
def r4F(I:Img):Nat->Nat->Option Nat
 | 0,_=>none
 | n+1,a=>if I.np<=a then none else if hdOk (I.pg a) a=false then some a else
  match fst1 (2 ^ (I.pg a).od.toNat-1) (fun i=>rsOk (I.pg a) (I.pg (a+1+i)))with
  | some i=>some (a+1+i)
  | none=>r4F I n (a+2 ^ (I.pg a).od.toNat)
theorem KC{I:Img}{n a:Nat}(ha:a<I.np)(h:hdOk (I.pg a) a=false):r4F I (n+1) a=some a:=by
 rw[r4F,if_neg (by omega),if_pos h]
theorem OE{I:Img}{n a o j:Nat}(ha:a<I.np)(ho:(I.pg a).od=(o:Int))(h:hdOk (I.pg a) a=true)(hj:j<2 ^ o-1)(h1:∀ x,x<j->rsOk (I.pg a) (I.pg (a+1+x))=true)(h2:rsOk (I.pg a) (I.pg (a+1+j))=false):r4F I (n+1) a=some (a+1+j):=by
 rw[r4F,if_neg (by omega),if_neg (by rw[h];decide),ho,Int.toNat_natCast,jZ hj h1 h2]
theorem r4F_ok{I:Img}{n a o:Nat}(ha:a<I.np)(ho:(I.pg a).od=(o:Int))(h:hdOk (I.pg a) a=true)(h1:∀ x,x<2 ^ o-1->rsOk (I.pg a) (I.pg (a+1+x))=true):r4F I (n+1) a=r4F I n (a+2 ^ o):=by
 rw[r4F,if_neg (by omega),if_neg (by rw[h];decide),ho,Int.toNat_natCast,fst1_ok h1]
theorem r4F_end{I:Img}{n:Nat} : r4F I (n+1) I.np=none:=by rw[r4F,if_pos (Nat.le_refl _)]
def r4(I:Img):Option Nat:=r4F I (I.np+1) 0
structure PbI(w W:World)(b g:Nat)(I:Img)(V:ImV)(p:Pg):Prop where
 im:ImAt W b I V
 pb:W.heap[g]?=some (aV p)
 k:Kt nO w W
theorem PbI.keep{w W W':World}{b g:Nat}{I:Img}{V:ImV}{p:Pg}(h:PbI w W b g I V p)(hk:Kt nO W W'):PbI w W' b g I V p:=
 ⟨h.im.keep hk,(hk.block _ (lH h.pb) (fun x=>x)).trans h.pb,nT h.k hk⟩
theorem PbI.mk'{w W:World}{b:Nat}{I:Img}{V:ImV}(h:ImAt W b I V)(k:Kt nO w W)(p:Pg):PbI w (W.alloc (aV p)) b W.heap.size I V p:=
 ⟨h.keep ((Kt.refl _ W).alloc _),nH _ _,k.alloc _⟩
theorem eI{w:World}{g:Nat}{p:Pg}(h:w.heap[g]?=some (aV p)):w.cell? ⟨g,0,none⟩=some (.int .i64 p.kd)/\w.cell? ⟨g,1,none⟩=some (.int .i64 p.od)/\w.cell? ⟨g,2,none⟩=some (.int .i64 p.cl)/\w.cell? ⟨g,3,none⟩=some (.int .i64 p.lv)/\w.cell? ⟨g,4,none⟩=some (.int .i64 p.nx)/\w.cell? ⟨g,5,none⟩=some (.int .i64 p.pv)/\w.cell? ⟨g,6,none⟩=some (.int .i64 p.fs)/\w.cell? ⟨g,7,none⟩=some (.int .u64 p.b0)/\w.cell? ⟨g,8,none⟩=some (.int .u64 p.b1)/\w.cell? ⟨g,9,none⟩=some (.int .u64 p.b2)/\w.cell? ⟨g,10,none⟩=some (.int .u64 p.b3):=by
 refine⟨?_,?_,?_,?_,?_,?_,?_,?_,?_,?_,?_⟩ <;> simp[World.cell?,h]
theorem PbI.all{w W:World}{b g:Nat}{I:Img}{V:ImV}{p:Pg}(h:PbI w W b g I V p):(∀ x:KW W,x.v.cell? ⟨g,0,none⟩=some (.int .i64 p.kd))/\(∀ x:KW W,x.v.cell? ⟨g,1,none⟩=some (.int .i64 p.od))/\(∀ x:KW W,x.v.cell? ⟨g,2,none⟩=some (.int .i64 p.cl))/\(∀ x:KW W,x.v.cell? ⟨g,3,none⟩=some (.int .i64 p.lv))/\(∀ x:KW W,x.v.cell? ⟨g,4,none⟩=some (.int .i64 p.nx))/\(∀ x:KW W,x.v.cell? ⟨g,5,none⟩=some (.int .i64 p.pv))/\(∀ x:KW W,x.v.cell? ⟨g,6,none⟩=some (.int .i64 p.fs))/\(∀ x:KW W,x.v.cell? ⟨g,7,none⟩=some (.int .u64 p.b0))/\(∀ x:KW W,x.v.cell? ⟨g,8,none⟩=some (.int .u64 p.b1))/\(∀ x:KW W,x.v.cell? ⟨g,9,none⟩=some (.int .u64 p.b2))/\(∀ x:KW W,x.v.cell? ⟨g,10,none⟩=some (.int .u64 p.b3)):=
 ⟨fun x=>(eI (h.keep x.k).pb).1,fun x=>(eI (h.keep x.k).pb).2.1,fun x=>(eI (h.keep x.k).pb).2.2.1,fun x=>(eI (h.keep x.k).pb).2.2.2.1,fun x=>(eI (h.keep x.k).pb).2.2.2.2.1,fun x=>(eI (h.keep x.k).pb).2.2.2.2.2.1,fun x=>(eI (h.keep x.k).pb).2.2.2.2.2.2.1,fun x=>(eI (h.keep x.k).pb).2.2.2.2.2.2.2.1,fun x=>(eI (h.keep x.k).pb).2.2.2.2.2.2.2.2.1,fun x=>(eI (h.keep x.k).pb).2.2.2.2.2.2.2.2.2.1,fun x=>(eI (h.keep x.k).pb).2.2.2.2.2.2.2.2.2.2⟩
theorem ImAt.pageK{w:World}{b:Nat}{I:Img}{V:ImV}(h:ImAt w b I V){bl o oc n:Nat}(hv:V.p=.slice (some ⟨bl,o,none⟩) n oc)(i:Nat)(hi:i<I.np)(x:KW w):kJ x.v bl o i (I.pg i):=by
 obtain⟨bl',o',oc',hv',_,hc⟩:=(h.keep x.k).page i hi;rw[hv] at hv';injection hv' with e1 e2 e3
 injection e1 with e4
 injection e4 with e5 e6
 subst e5 e6;exact hc
theorem gP{w:World}{bl o i:Nat}{p:Pg}(h:∀ x:KW w,kJ x.v bl o i p):(∀ x:KW w,x.v.cell? ⟨bl,o+i*11,none⟩=some (.int .i64 p.kd))/\(∀ x:KW w,x.v.cell? ⟨bl,o+i*11+1,none⟩=some (.int .i64 p.od))/\(∀ x:KW w,x.v.cell? ⟨bl,o+i*11+2,none⟩=some (.int .i64 p.cl))/\(∀ x:KW w,x.v.cell? ⟨bl,o+i*11+3,none⟩=some (.int .i64 p.lv))/\(∀ x:KW w,x.v.cell? ⟨bl,o+i*11+4,none⟩=some (.int .i64 p.nx))/\(∀ x:KW w,x.v.cell? ⟨bl,o+i*11+5,none⟩=some (.int .i64 p.pv))/\(∀ x:KW w,x.v.cell? ⟨bl,o+i*11+6,none⟩=some (.int .i64 p.fs))/\(∀ x:KW w,x.v.cell? ⟨bl,o+i*11+7,none⟩=some (.int .u64 p.b0))/\(∀ x:KW w,x.v.cell? ⟨bl,o+i*11+8,none⟩=some (.int .u64 p.b1))/\(∀ x:KW w,x.v.cell? ⟨bl,o+i*11+9,none⟩=some (.int .u64 p.b2))/\(∀ x:KW w,x.v.cell? ⟨bl,o+i*11+10,none⟩=some (.int .u64 p.b3)):=
 ⟨fun x=>(h x).c.1,fun x=>(h x).c.2.1,fun x=>(h x).c.2.2.1,fun x=>(h x).c.2.2.2.1,fun x=>(h x).c.2.2.2.2.1,fun x=>(h x).c.2.2.2.2.2.1,fun x=>(h x).c.2.2.2.2.2.2.1,fun x=>(h x).c.2.2.2.2.2.2.2.1,fun x=>(h x).c.2.2.2.2.2.2.2.2.1,fun x=>(h x).c.2.2.2.2.2.2.2.2.2.1,fun x=>(h x).c.2.2.2.2.2.2.2.2.2.2⟩
end Go.Proofs.YtkfmheelhinjdaaGreatDoor.W
namespace Go.Proofs.YtkfmheelhinjdaaGreatDoor
open Tryz
open Go.RowKit
set_option linter.unusedVariables false
def aK(f:Nat->Bool):Nat->Nat
 | 0=>0
 | k+1=>aK f k+(if f k=true then 1 else 0)
theorem JT(f:Nat->Bool)(k:Nat):aK f k<=k:=by
 induction k with
 | zero=>simp[aK]
 | succ k ih=>simp only[aK];split <;> omega
theorem qS(f:Nat->Bool)(k:Nat)(h:f k=true):aK f (k+1)=aK f k+1:=by simp[aK,h]
theorem oT(f:Nat->Bool)(k:Nat)(h:f k=false):aK f (k+1)=aK f k:=by simp[aK,h]
theorem nA(ws:List Nat)(j:Nat):aF ws j=(ws.getD (j/64) 0).testBit (j%64):=by
 unfold aF;rw[Nat.testBit_eq_decide_div_mod_eq];rfl
theorem oW(ws:List Nat)(k j:Nat)(hk:k/64<ws.length):aF (jE ws k) j=(if j=k then !aF ws k else aF ws j):=by
 rw[nA,nA,nA];unfold jE;by_cases e:j/64=k/64
 ·rw[e,rJ _ _ _ hk,Nat.testBit_xor,Nat.testBit_two_pow];by_cases e2:j=k
  ·subst e2;simp
  ·have:¬k%64=j%64:=by omega
   simp[e2,this]
 ·rw[getD_set_ne _ _ _ _ e];have:¬j=k:=by intro h;subst h;exact e rfl
  simp[this]
theorem yO(zs:List Nat)(N j:Nat)(hz:∀ i,zs.getD i 0<2 ^ 64)(hj:j<N):aF (eV zs N) j=aF zs j:=by
 rw[nA,nA,yN zs N (j/64) hz (by omega),Nat.testBit_mod_two_pow];have:j%64<min 64 (N-64*(j/64)):=by omega
 simp[this]
theorem rB(f g:Nat->Bool)(n:Nat)(h:∀ j,j<n->f j=g j):aK f n=aK g n:=by
 induction n with
 | zero=>rfl
 | succ n ih=>simp only[aK];rw[ih (fun j hj=>h j (by omega)),h n (by omega)]
theorem WQ(f:Nat->Bool)(k:Nat):aK f (k+1)=(if f 0=true then 1 else 0)+aK (fun j=>f (j+1)) k:=by
 induction k with
 | zero=>simp[aK]
 | succ k ih=>rw[aK,ih];simp only[aK];omega
theorem NT(f:Nat->Bool)(a k:Nat):aK f (a+k)=aK f a+aK (fun j=>f (a+j)) k:=by
 induction k with
 | zero=>simp[aK]
 | succ k ih=>rw[<-Nat.add_assoc,aK,ih];simp only[aK];omega
theorem VE(k x:Nat):cD k x=aK (fun p=>x/2 ^ p%2 == 1) k:=by
 induction k generalizing x with
 | zero=>rfl
 | succ k ih=>
  rw[WQ,cD,ih (x/2)];congr 1
  ·by_cases h:x%2=1
   ·simp[h]
   ·have:x%2=0:=by omega
    simp[this]
  ·apply rB
   intro j hj;rw[Nat.div_div_eq_div_mul,Nat.pow_succ,Nat.mul_comm]
theorem rA(ws:List Nat)(hz:∀ i,ws.getD i 0<2 ^ 64)(m:Nat):lA ws m=aK (aF ws) (64*m):=by
 induction m with
 | zero=>rfl
 | succ m ih=>
  rw[tY,ih,Nat.mul_add,Nat.mul_one,NT];congr 1
  rw[rV 64 _ (hz m),VE];apply rB
  intro p hp;exact(sT ws m p hp).symm
theorem VD(f g:Nat->Bool)(j M:Nat)(h:∀ i,i≠j->f i=g i)(hf:f j=true)(hg:g j=false)(hj:j<M):aK g M+1=aK f M:=by
 induction M with
 | zero=>omega
 | succ M ih=>
  by_cases e:j=M
  ·subst e;rw[qS f j hf,oT g j hg,rB f g j (fun i hi=>h i (by omega))]
  ·have:=ih (by omega);simp only[aK,h M (fun x=>e x.symm)];omega
theorem VC(f:Nat->Bool)(M:Nat)(h:∀ j,j<M->f j=false):aK f M=0:=by
 induction M with
 | zero=>rfl
 | succ M ih=>rw[oT f M (h M (by omega)),ih (fun j hj=>h j (by omega))]
theorem VB(ws:List Nat)(j:Nat)(hz:∀ i,ws.getD i 0<2 ^ 64)(hz2:∀ i,(jE ws j).getD i 0<2 ^ 64)(hj:j/64<ws.length)(hb:aF ws j=true):aS (jE ws j)+1=aS ws:=by
 unfold aS;rw[rA _ hz2,rA _ hz,zC];refine VD (aF ws) (aF (jE ws j)) j _ ?_ hb ?_ (by omega)
 ·intro i hi;rw[oW ws j i hj,if_neg hi]
 ·rw[oW ws j j hj,if_pos rfl,hb];rfl
end Go.Proofs.YtkfmheelhinjdaaGreatDoor
