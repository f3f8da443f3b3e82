import Derived.Test.YtkfmheelhinjdaaGreatDoorXr
set_option maxRecDepth 1000000
set_option maxHeartbeats 80000000
namespace Go.Proofs.YtkfmheelhinjdaaGreatDoor.W
open _root_.Go.Proofs.Tryz
open Go.RowKit
set_option linter.unusedVariables false
def gT(np j:Nat):Nat:=(np/2 ^ (j+1)+63)/64
def r2(I:Img)(k:Nat):Option Nat:=
 if wiB I.reg 0 I.lim=false then some 0
 else if I.nm≠I.reg.toNat*2 ^ k*4096 then some 1
 else if I.np≠I.reg.toNat*2 ^ k then some 2
 else if I.no≠k then some 3
 else if fst1 I.no (fun j=>decide ((I.pr j).length=gT I.np j))≠none then some 3
 else if I.hd.length≠k+1 then some 4
 else if I.pt.length≠8 then some 5
 else none
structure LnI(w W:World)(b g:Nat)(I:Img)(V:ImV):Prop where
 im:ImAt W b I V
 cf:W.heap[g]?=some (.cells #[.int .u64 I.bS,.int .i64 I.lim,.int .i64 I.ord] 29 (0,0))
 k:Kt nO w W
theorem LnI.keep{w W W':World}{b g:Nat}{I:Img}{V:ImV}(h:LnI w W b g I V)(hk:Kt nO W W'):LnI w W' b g I V:=
 ⟨h.im.keep hk,(hk.block _ (lH h.cf) (fun x=>x)).trans h.cf,nT h.k hk⟩
theorem LnI.all{w W:World}{b g:Nat}{I:Img}{V:ImV}(h:LnI w W b g I V):(∀ x:KW W,x.v.cell? ⟨g,1,none⟩=some (.int .i64 I.lim))/\(∀ x:KW W,x.v.cell? ⟨g,2,none⟩=some (.int .i64 I.ord)):=
 ⟨fun x=>by simp[World.cell?,(h.keep x.k).cf],fun x=>by simp[World.cell?,(h.keep x.k).cf]⟩
theorem ImD.sl{w:World}{I:Img}{V:ImV}(h:ImD w I V):(∃ a c,V.m=.slice a I.nm c)/\(∃ a c,V.p=.slice a I.np c)/\(∃ a c,V.r=.slice a I.no c)/\(∃ a c,V.h=.slice a I.hd.length c)/\(∃ a c,V.t=.slice a I.pt.length c)/\I.nm<=9223372036854775807/\I.np<=9223372036854775807/\I.no<=9223372036854775807/\I.pt.length<=9223372036854775807:=by
 obtain⟨m1,ma,mc,m2,_⟩:=h.mem;obtain⟨p1,pa,pc,p2,_⟩:=h.pgs;obtain⟨ws,r1,ra,rc,r2,_⟩:=h.prs;obtain⟨_,ha,hc,h2,_⟩:=h.hds;obtain⟨t1,ta,tc,t2,_⟩:=h.pts;exact⟨⟨ma,mc,m2⟩,⟨pa,pc,p2⟩,⟨ra,rc,r2⟩,⟨ha,hc,h2⟩,⟨ta,tc,t2⟩,m1,p1,r1,t1⟩
theorem zdE(b:Nat)(I:Img)(V:ImV)(k L:Nat)(hk:k<=8)(hL:L<=64)(hko:I.ord=(k:Int))(hlo:I.lim=(L:Int))(hhd:I.hd.length<=9223372036854775807)(w:World)(hI:ImAt w b I V):
  Calls prog 166 #[.pointer (some ⟨b,0,none⟩)] w fun e w'=>e=bB (r2 I k)/\Kt nO w w':=by
 obtain⟨⟨ma,mc,hm⟩,⟨pa,pc,hp⟩,⟨ra,rc,hr⟩,⟨ha,hc,hh⟩,⟨ta,tc,ht⟩,bm,bp,br,bt⟩:=hI.d.sl;obtain⟨c0,c1,c2,c3,c4,c5,c6,c7,c8⟩:=hI.cells;have hrg:=hI.d.reg;have HPO:=aA (fun (j:Nat) (hj:j<=8) (W:World) (hW:ImAt W b I V)=>AR b I V j W hW hj bp);have L0:=aA (show LnI w (w.alloc (.cells #[.int .u64 I.bS,.int .i64 I.lim,.int .i64 I.ord] 29 (0,0))) b w.heap.size I V from⟨hI.keep ((Kt.refl _ w).alloc _),nH _ _,(Kt.refl _ w).alloc _⟩);obtain⟨EE,hEE⟩:=xe (bB (r2 I k));rw[<-hEE];have HE:=aA hEE;have HI:=aA hI;have HKO:=aA hko;have HLO:=aA hlo;clear hEE hI hko hlo;have SL:=aA (show V.m=.slice ma I.nm mc/\V.p=.slice pa I.np pc/\V.r=.slice ra I.no rc/\V.h=.slice ha I.hd.length hc/\V.t=.slice ta I.pt.length tc from⟨hm,hp,hr,hh,ht⟩);clear hm hp hr hh ht;go_enter func166,ntmps166;go_wp2_with fail;generalize w.alloc (.cells #[.int .u64 I.bS,.int .i64 I.lim,.int .i64 I.ord] 29 (0,0))=W0 at *;generalize w.heap.size=g at *;clear c0 c1 c2 c3 c4 c5 c6 c7 c8;obtain⟨c0,c1,c2,c3,c4,c5,c6,c7,c8⟩:=L0.out.im.all;obtain⟨q1,q2⟩:=L0.out.all;rw[SL.out.1] at c4;rw[SL.out.2.1] at c5;rw[SL.out.2.2.1] at c6;rw[SL.out.2.2.2.1] at c7;rw[SL.out.2.2.2.2] at c8;rw[HKO.out] at c2 q2;rw[HLO.out] at c1 q1;have HWI:=aA (fun W=>gP I.reg 0 (L:Int) W);have hw0:wiB I.reg 0 I.lim=wiB I.reg 0 (L:Int):=by rw[HLO.out]
 cases hb0:wiB I.reg 0 (L:Int)with
 | false=>
  rw[hb0] at HWI hw0;refine fX (by kernel_rfl) (by kernel_rfl) (by exact List.cons_ne_nil _ _) ?_;dsimp only[List.dropLast,List.getLast];repeat (go_big_quiet_step (first|(go_at_call 214;exact Calls.kept_of ((HWI.out _).mono fun _ _ ⟨h1,h2⟩=>⟨h1,h2▸Kt.refl _ _⟩))))
  refine wpQuiet_nil ?_;refine⟨rfl,?_⟩;rintro _ ⟨x,rfl⟩;exact fW (p:=0) rfl rfl rfl fun _ hd=>⟨hd,by rw[HE.out,r2,hw0,if_pos rfl];rfl,nT L0.out.k x.k⟩
 | true=>
  rw[hb0] at HWI hw0;have HMY:=aA (fun W=>cH 0 W);refine cI (by kernel_rfl) (by kernel_rfl) ?_;repeat (go_big_quiet_step (first|(go_at_call 214;exact Calls.kept_of ((HWI.out _).mono fun _ _ ⟨h1,h2⟩=>⟨h1,h2▸Kt.refl _ _⟩))|(go_at_call 212;exact Calls.kept_of ((HMY.out _).mono fun _ _ ⟨h1,h2⟩=>⟨h1,h2▸Kt.refl _ _⟩))))
  refine wpQuiet_nil ?_;intro x;have L1:=aA (L0.out.keep x.k);have hreg : 0<=I.reg/\I.reg<=(L:Int):=by unfold wiB at hb0;exact of_decide_eq_true hb0
  obtain⟨r,hr⟩:=Int.eq_ofNat_of_zero_le hreg.1;have HR:=aA hr;have hrl:r<=64:=by omega
  have hP:=M.pow8 k hk;obtain⟨n,hn⟩:=xe (r*2 ^ k);have hn1:n<=16384:=by
   rw[hn];exact Nat.le_trans (Nat.mul_le_mul hrl hP.2) (by decide)
  have hsh:wrap64 ((r:Int)*2 ^ k)=(n:Int):=by
   have e:((2:Int) ^ k)=((2 ^ k:Nat):Int):=(by simp);have e2:(r:Int)*((2 ^ k:Nat):Int)=(n:Int):=(by rw[hn];simp);rw[e,e2];unfold wrap64;omega
  have HN:=aA (show I.reg.toNat*2 ^ k=n by rw[hr,Int.toNat_natCast,hn]);have HR2:=aA (show r2 I k=(if I.nm≠n*4096 then some 1 else if I.np≠n then some 2 else if I.no≠k then some 3 else if fst1 I.no (fun j=>decide ((I.pr j).length=gT I.np j))≠none then some 3 else if I.hd.length≠k+1 then some 4 else if I.pt.length≠8 then some 5 else none)by unfold r2;rw[if_neg (by rw[hw0];simp),HN.out]);clear c0 c1 c2 c3 c4 c5 c6 c7 c8 q1 q2 HWI HMY hb0 hw0 hreg hrg hr hn hP;go_wp2_with fail;generalize x.v=W1 at *;obtain⟨c0,c1,c2,c3,c4,c5,c6,c7,c8⟩:=L1.out.im.all;obtain⟨q1,q2⟩:=L1.out.all;rw[SL.out.1] at c4;rw[SL.out.2.1] at c5;rw[SL.out.2.2.1] at c6;rw[SL.out.2.2.2.1] at c7;rw[SL.out.2.2.2.2] at c8;rw[HKO.out] at c2 q2;rw[HLO.out] at c1 q1;rw[HR.out] at c3;refine cI (by kernel_rfl) (by kernel_rfl) ?_;repeat (go_big_quiet_step (fail))
  refine wpQuiet_nil ?_;intro y;have L2:=aA (L1.out.keep y.k);clear c0 c1 c2 c3 c4 c5 c6 c7 c8 q1 q2;generalize y.v=W2 at *;obtain⟨c0,c1,c2,c3,c4,c5,c6,c7,c8⟩:=L2.out.im.cells;rw[SL.out.1] at c4;rw[SL.out.2.1] at c5;rw[SL.out.2.2.1] at c6;rw[SL.out.2.2.2.1] at c7;rw[SL.out.2.2.2.2] at c8;by_cases e1:I.nm=n*4096
  case neg=>
   have f1:((I.nm:Int) == (n:Int)*4096)=false:=(by rw[beq_eq_false_iff_ne];omega);have E1:=aA e1;clear e1;go_wp2_with fail;refine(dD _ _).mono ?_;rintro e w2 ⟨rfl,rfl⟩;exact⟨rfl,by rw[HE.out,HR2.out,if_pos E1.out];rfl,L2.out.k⟩
  have f1:((I.nm:Int) == (n:Int)*4096)=true:=by rw[beq_iff_eq];omega
  have E1:=aA e1;clear e1;go_wp2_with fail;refine(cH _ _).mono ?_;rintro e w2 ⟨rfl,rfl⟩;clear f1;by_cases e2:I.np=n
  case neg=>
   have f2:((I.np:Int) == (n:Int))=false:=(by rw[beq_eq_false_iff_ne];omega);have E2:=aA e2;clear e2;go_wp2_with fail;refine(dD _ _).mono ?_;rintro e w2 ⟨rfl,rfl⟩;exact⟨rfl,by rw[HE.out,HR2.out,if_neg (not_not_intro E1.out),if_pos E2.out];rfl,L2.out.k⟩
  have f2:((I.np:Int) == (n:Int))=true:=by rw[beq_iff_eq];omega
  have E2:=aA e2;clear e2;go_wp2_with fail;refine(cH _ _).mono ?_;rintro e w2 ⟨rfl,rfl⟩;clear f2;go_wp2_with fail;clear c0 c1 c2 c3 c4 c5 c6 c7 c8;obtain⟨c0,c1,c2,c3,c4,c5,c6,c7,c8⟩:=L2.out.im.all;obtain⟨q1,q2⟩:=L2.out.all;rw[SL.out.1] at c4;rw[SL.out.2.1] at c5;rw[SL.out.2.2.1] at c6;rw[SL.out.2.2.2.1] at c7;rw[SL.out.2.2.2.2] at c8;rw[HKO.out] at c2 q2;rw[HLO.out] at c1 q1;by_cases e3:I.no=k
  case neg=>
   have f3:((I.no:Int) == (k:Int))=false:=(by rw[beq_eq_false_iff_ne];omega);have E3:=aA e3;clear e3;refine fX (by kernel_rfl) (by kernel_rfl) (by exact List.cons_ne_nil _ _) ?_;dsimp only[List.dropLast,List.getLast];repeat (go_big_quiet_step (fail))
   refine wpQuiet_nil ?_;refine⟨rfl,?_⟩;rintro _ ⟨x,rfl⟩;exact fW (p:=3) rfl rfl rfl fun _ hd=>⟨hd,by rw[HE.out,HR2.out,if_neg (not_not_intro E1.out),if_neg (not_not_intro E2.out),if_pos E3.out];rfl,nT L2.out.k x.k⟩
  have f3:((I.no:Int) == (k:Int))=true:=by rw[beq_iff_eq];omega
  have E3:=aA e3;clear e3;have HMY:=aA (fun W=>cH 3 W);refine cI (by kernel_rfl) (by kernel_rfl) ?_;repeat (go_big_quiet_step (first|(go_at_call 212;exact Calls.kept_of ((HMY.out _).mono fun _ _ ⟨h1,h2⟩=>⟨h1,h2▸Kt.refl _ _⟩))))
  refine wpQuiet_nil ?_;intro x;have L3:=aA (L2.out.keep x.k);clear c0 c1 c2 c3 c4 c5 c6 c7 c8 q1 q2 HMY f3;generalize x.v=W3 at *;obtain⟨c0,c1,c2,c3,c4,c5,c6,c7,c8⟩:=L3.out.im.cells;rw[SL.out.1] at c4;rw[SL.out.2.1] at c5;rw[SL.out.2.2.1] at c6;rw[SL.out.2.2.2.1] at c7;rw[SL.out.2.2.2.2] at c8;go_wp2_with fail;clear c0 c1 c2 c3 c4 c5 c6 c7 c8;go_loopw [56] (fun i W=>∃ a:Nat,a<=I.no/\i=.int .i64 a/\Hid (LnI w W b g I V/\∀ x,x<a->decide ((I.pr x).length=gT I.np x)=true)) (fun i _=>I.no-(intOf i).toNat)
  case atStart=>exact⟨0,Nat.zero_le _,rfl,aA ⟨L3.out,fun x hx=>by omega⟩⟩
  case round=>
   clear L3;obtain⟨a,ha',rfl,hR⟩:=hrel;by_cases hlt:a<I.no
   ·have hai:(a:Int)<I.no:=(by omega);obtain⟨ws,_,ra',rc',hrv,hr3⟩:=hR.out.1.im.d.prs;rw[SL.out.2.2.1] at hrv;injection hrv with e1 e2 e3
    subst e1;rcases hr3 with hr3|⟨bl,o,rfl,_,hcc⟩
    ·omega
    obtain⟨d0,hz,za,zc,hzv,_⟩:=hcc a hlt;rw[hzv] at d0;have ha8:a<=8:=(by have:=E3.out;omega);have HP:=aA (HPO.out a ha8 wr hR.out.1.im);obtain⟨pn,hpn⟩:=xe (I.np/2 ^ (a+1));rw[<-hpn] at HP;have hpnl:pn<=16384:=(by rw[hpn,E2.out];exact Nat.le_trans (Nat.div_le_self _ _) hn1);have hq:((pn:Int)+64-1)/64=((gT I.np a:Nat):Int):=(by unfold gT;rw[<-hpn];omega);obtain⟨q,hqq⟩:=xe (gT I.np a);rw[<-hqq] at hq;have hql:q<=300:=(by rw[hqq];unfold gT;rw[<-hpn];omega);obtain⟨zl,hzl⟩:=xe ((I.pr a).length);rw[<-hzl] at d0;have HZ:=aA (show zl=(I.pr a).length/\q=gT I.np a from⟨hzl,hqq⟩);clear hcc hz hzv hqq hpn hzl e2 e3;by_cases e4:zl=q
    case neg=>
     have f4:((zl:Int) == (q:Int))=false:=(by rw[beq_eq_false_iff_ne];omega);have E4:=aA (show fst1 I.no (fun j=>decide ((I.pr j).length=gT I.np j))=some a from kF hlt hR.out.2 (by rw[<-HZ.out.1,<-HZ.out.2];exact decide_eq_false e4));clear e4;go_wp2_with fail;refine HP.out.mono ?_;rintro e w2 ⟨rfl,rfl⟩;go_wp2_with fail;refine(dD _ _).mono ?_;rintro e w2 ⟨rfl,rfl⟩;exact⟨rfl,by rw[HE.out,HR2.out,if_neg (not_not_intro E1.out),if_neg (not_not_intro E2.out),if_neg (not_not_intro E3.out),if_pos (by rw[E4.out];exact Option.some_ne_none _)];rfl,hR.out.1.k⟩
    have f4:((zl:Int) == (q:Int))=true:=(by rw[beq_iff_eq];omega);have R2:=aA (show LnI w wr b g I V/\∀ x,x<a+1->decide ((I.pr x).length=gT I.np x)=true from⟨hR.out.1,fun x hx=>by
     by_cases e:x=a
     ·rw[e,<-HZ.out.1,<-HZ.out.2];exact decide_eq_true e4
     ·exact hR.out.2 x (by omega)⟩)
    clear e4;go_wp2_with fail;refine HP.out.mono ?_;rintro e w2 ⟨rfl,rfl⟩;go_wp2_with fail;refine(cH _ _).mono ?_;rintro e w2 ⟨rfl,rfl⟩;go_wp2_with fail;go_round
    case rel=>exact⟨a+1,by omega,by go_num,R2⟩
    case measure=>simp[intOf];omega
   ·have hae:a=I.no:=(by omega);have hai:¬(a:Int)<I.no:=(by omega);have E4:=aA (show fst1 I.no (fun j=>decide ((I.pr j).length=gT I.np j))=none from fst1_ok (fun x hx=>hR.out.2 x (by omega)));have L4:=aA hR.out.1;clear hae;go_wp2_with fail;generalize wr=W4 at *;obtain⟨c0,c1,c2,c3,c4,c5,c6,c7,c8⟩:=L4.out.im.all;obtain⟨q1,q2⟩:=L4.out.all;rw[SL.out.1] at c4;rw[SL.out.2.1] at c5;rw[SL.out.2.2.1] at c6;rw[SL.out.2.2.2.1] at c7;rw[SL.out.2.2.2.2] at c8;rw[HKO.out] at c2 q2;rw[HLO.out] at c1 q1;by_cases e5:I.hd.length=k+1
    case neg=>
     have f5:((I.hd.length:Int) == (k:Int)+1)=false:=(by rw[beq_eq_false_iff_ne];omega);have E5:=aA e5;clear e5;refine fX (by kernel_rfl) (by kernel_rfl) (by exact List.cons_ne_nil _ _) ?_;dsimp only[List.dropLast,List.getLast];repeat (go_big_quiet_step (fail))
     refine wpQuiet_nil ?_;refine⟨rfl,?_⟩;rintro _ ⟨x,rfl⟩;exact fW (p:=4) rfl rfl rfl fun _ hd=>⟨hd,by rw[HE.out,HR2.out,if_neg (not_not_intro E1.out),if_neg (not_not_intro E2.out),if_neg (not_not_intro E3.out),if_neg (not_not_intro E4.out),if_pos E5.out];rfl,nT L4.out.k x.k⟩
    have f5:((I.hd.length:Int) == (k:Int)+1)=true:=(by rw[beq_iff_eq];omega);have E5:=aA e5;clear e5;have HMY:=aA (fun W=>cH 4 W);refine cI (by kernel_rfl) (by kernel_rfl) ?_;repeat (go_big_quiet_step (first|(go_at_call 212;exact Calls.kept_of ((HMY.out _).mono fun _ _ ⟨h1,h2⟩=>⟨h1,h2▸Kt.refl _ _⟩))))
    refine wpQuiet_nil ?_;intro x;have L5:=aA (L4.out.keep x.k);clear c0 c1 c2 c3 c4 c5 c6 c7 c8 q1 q2 HMY f5;generalize x.v=W5 at *;obtain⟨c0,c1,c2,c3,c4,c5,c6,c7,c8⟩:=L5.out.im.cells;rw[SL.out.1] at c4;rw[SL.out.2.1] at c5;rw[SL.out.2.2.1] at c6;rw[SL.out.2.2.2.1] at c7;rw[SL.out.2.2.2.2] at c8;by_cases e6:I.pt.length=8
    case neg=>
     have f6:((I.pt.length:Int) == 8)=false:=(by rw[beq_eq_false_iff_ne];omega);have E6:=aA e6;clear e6;go_wp2_with fail;refine(dD _ _).mono ?_;rintro e w2 ⟨rfl,rfl⟩;exact⟨rfl,by rw[HE.out,HR2.out,if_neg (not_not_intro E1.out),if_neg (not_not_intro E2.out),if_neg (not_not_intro E3.out),if_neg (not_not_intro E4.out),if_neg (not_not_intro E5.out),if_pos E6.out];rfl,L5.out.k⟩
    have f6:((I.pt.length:Int) == 8)=true:=(by rw[beq_iff_eq];omega);have E6:=aA e6;clear e6;go_wp2_with fail;refine(cH _ _).mono ?_;rintro e w2 ⟨rfl,rfl⟩;clear f6;go_wp2_with fail;first|go_end0|go_ret
    exact⟨by rw[HE.out,HR2.out,if_neg (not_not_intro E1.out),if_neg (not_not_intro E2.out),if_neg (not_not_intro E3.out),if_neg (not_not_intro E4.out),if_neg (not_not_intro E5.out),if_neg (not_not_intro E6.out)];rfl,L5.out.k⟩
theorem DT(a0 a1 a2 a3 b0 b1 b2 b3:Int)(w:World):
  (Op.equalIn 9999 97 (.agg #[.int .u64 a0,.int .u64 a1,.int .u64 a2,.int .u64 a3]) (.agg #[.int .u64 b0,.int .u64 b1,.int .u64 b2,.int .u64 b3])).run prog w=.ok (a0 == b0 && (a1 == b1 && (a2 == b2 && a3 == b3))) w:=by
 have u3:=Tryz.underlying27;have s3:=Tryz.isAgg27;have z3:=Tryz.sizeOf27;rw[show(9999:Nat)=9998+1 from rfl,Op.equalIn];simp only[Sem.run_bind,run_underlying Tryz.underlying97,Result.andThen_ok];simp only[Std.Legacy.Range.forIn_eq_forIn_range',Std.Legacy.Range.size,Nat.sub_zero,Nat.add_sub_cancel,Nat.div_one,List.range'_succ,List.range'_zero,List.forIn_cons,List.forIn_nil];go_simp
 by_cases h1:a0=b0 <;> by_cases h2:a1=b1 <;> by_cases h3:a2=b2 <;> by_cases h4:a3=b3 <;> simp[h1,h2,h3,h4]
def pgE(p q:Pg):Bool:=decide (p=q)
theorem qQ(p q:Pg)(w:World):(binOp .eql 99 (fH p) (fH q)).run prog w=.ok (.bool (pgE p q)) w:=by
 have AE:=DT;obtain⟨kd,od,cl,lv,nx,pv,fs,b0,b1,b2,b3⟩:=p;obtain⟨kd',od',cl',lv',nx',pv',fs',b0',b1',b2',b3'⟩:=q;have u3:=Tryz.underlying3;have s3:=Tryz.isAgg3;have z3:=Tryz.sizeOf3;rw[run_eql_struct];go_simp
 unfold pgE;repeat' split
 all_goals
  refine congrArg (fun b=>Result.ok (Value.bool b) w) ?_;symm;first
   | (rw[decide_eq_true_iff,Pg.mk.injEq];omega)
   | (rw[decide_eq_false_iff_not,Pg.mk.injEq];omega)
structure Sn9(I:Img)(k r:Nat):Prop where
 k8:k<=8
 ord:I.ord=(k:Int)
 np:I.np=r*2 ^ k
 np1:I.np<=1024
 nm:I.nm=I.np*4096
 no:I.no=k
 pl:∀ j,j<k->(I.pr j).length=gT I.np j
 hl:I.hd.length=k+1
 tl:I.pt.length=8
 b0:I.bS≠0
 bm:I.bS%M.RS k=0
 be:I.bS+I.nm<=9223372036854775808
 rg:∀ i,i<I.np->rngB (k:Int) I.np (I.pg i)=true
theorem Sn9.pg{I:Img}{k r:Nat}(h:Sn9 I k r)(i:Nat)(hi:i<I.np):∃ kd o c l:Nat,(I.pg i).kd=(kd:Int)/\kd<=4/\(I.pg i).od=(o:Int)/\o<=k/\(I.pg i).cl=(c:Int)/\c<=7/\(I.pg i).lv=(l:Int)/\l<=256/\(-1<=(I.pg i).nx/\(I.pg i).nx<I.np)/\(-1<=(I.pg i).pv/\(I.pg i).pv<I.np) /\ -1<=(I.pg i).fs/\(I.pg i).fs<=255:=by
 have:=h.rg i hi;simp only[rngB,wiB,Bool.and_eq_true,decide_eq_true_eq] at this;obtain⟨⟨h1,h2⟩,⟨h3,h4⟩,⟨h5,h6⟩,⟨h7,h8⟩,⟨h9,h10⟩,⟨h11,h12⟩,h13,h14⟩:=this;refine⟨(I.pg i).kd.toNat,(I.pg i).od.toNat,(I.pg i).cl.toNat,(I.pg i).lv.toNat,?_,?_,?_,?_,?_,?_,?_,?_,?_,?_,?_,?_⟩ <;> omega
theorem Sn9.dvd{I:Img}{k r:Nat}(h:Sn9 I k r)(o:Nat)(ho:o<=k) : 2 ^ o ∣ I.np:=by
 rw[h.np];exact Nat.dvd_trans (Nat.pow_dvd_pow 2 ho) (Nat.dvd_mul_left _ _)
theorem mul_fits{m a n:Nat}(hm:m ∣ n)(ha:a%m=0)(h:a<n):a+m<=n:=by
 obtain⟨x,rfl⟩:=Nat.dvd_of_mod_eq_zero ha;obtain⟨y,rfl⟩:=hm;have hxy:x<y:=Nat.lt_of_mul_lt_mul_left h;have:m*(x+1)<=m*y:=Nat.mul_le_mul_left m hxy;rwa [Nat.mul_add,Nat.mul_one] at this
theorem oE{od P:Nat}(h8:od<=8)(hP:P=2 ^ od):wrap64 ((1:Int)*2 ^ od)=(P:Int)/\((2:Int) ^ od)=(P:Int)/\wrap64 ((2:Int)*2 ^ od)=2*(P:Int):=by
 have h:=M.pow8 od h8;have e:((2:Int) ^ od)=((2 ^ od:Nat):Int):=by simp
 rw[e,<-hP];rw[<-hP] at h;refine⟨?_,rfl,?_⟩ <;> unfold wrap64 <;> omega
theorem MN{P:Nat}(h : 1<=P):¬((2:Int)*(P:Int))=0:=by omega
theorem ML{a P:Nat}(h:a%(2*P)=0):((a:Int)%(2*(P:Int)) == 0)=true:=by
 rw[beq_iff_eq];have:((a%(2*P):Nat):Int)=0:=by rw[h];rfl
 simpa using this
theorem MK{a P:Nat}(h:¬a%(2*P)=0):((a:Int)%(2*(P:Int)) == 0)=false:=by
 rw[beq_eq_false_iff_ne];intro e;apply h
 have:((a%(2*P):Nat):Int)=0:=by simpa using e
 omega
theorem KC{P:Nat}(h : 1<=P):¬(P:Int)=0:=by omega
def hdOk(p:Pg)(a:Nat):Bool:=
 if p.kd=4 then decide (p.od=0) else if p.kd=0\/p.kd=2 then decide (a%2 ^ p.od.toNat=0) && pgE p (aN p.kd p.od) else false
def rsOk(p q:Pg):Bool:=pgE q (aN (p.kd+1) p.od)
def r4F(I:Img):Nat->Nat->Option Nat
 | 0,_=>none
 | n+1,a=>if I.np<=a then none else if hdOk (I.pg a) a=false then some a else
  match fst1 (2 ^ (I.pg a).od.toNat-1) (fun i=>rsOk (I.pg a) (I.pg (a+1+i)))with
  | some i=>some (a+1+i)
  | none=>r4F I n (a+2 ^ (I.pg a).od.toNat)
theorem MJ{I:Img}{n a:Nat}(ha:a<I.np)(h:hdOk (I.pg a) a=false):r4F I (n+1) a=some a:=by
 rw[r4F,if_neg (by omega),if_pos h]
theorem TZ{I:Img}{n a o j:Nat}(ha:a<I.np)(ho:(I.pg a).od=(o:Int))(h:hdOk (I.pg a) a=true)(hj:j<2 ^ o-1)(h1:∀ x,x<j->rsOk (I.pg a) (I.pg (a+1+x))=true)(h2:rsOk (I.pg a) (I.pg (a+1+j))=false):r4F I (n+1) a=some (a+1+j):=by
 rw[r4F,if_neg (by omega),if_neg (by rw[h];decide),ho,Int.toNat_natCast,kF hj h1 h2]
theorem r4F_ok{I:Img}{n a o:Nat}(ha:a<I.np)(ho:(I.pg a).od=(o:Int))(h:hdOk (I.pg a) a=true)(h1:∀ x,x<2 ^ o-1->rsOk (I.pg a) (I.pg (a+1+x))=true):r4F I (n+1) a=r4F I n (a+2 ^ o):=by
 rw[r4F,if_neg (by omega),if_neg (by rw[h];decide),ho,Int.toNat_natCast,fst1_ok h1]
theorem r4F_end{I:Img}{n:Nat} : r4F I (n+1) I.np=none:=by rw[r4F,if_pos (Nat.le_refl _)]
def r4(I:Img):Option Nat:=r4F I (I.np+1) 0
structure PbI(w W:World)(b g:Nat)(I:Img)(V:ImV)(p:Pg):Prop where
 im:ImAt W b I V
 pb:W.heap[g]?=some (aV p)
 k:Kt nO w W
theorem PbI.keep{w W W':World}{b g:Nat}{I:Img}{V:ImV}{p:Pg}(h:PbI w W b g I V p)(hk:Kt nO W W'):PbI w W' b g I V p:=
 ⟨h.im.keep hk,(hk.block _ (lH h.pb) (fun x=>x)).trans h.pb,nT h.k hk⟩
theorem PbI.mk'{w W:World}{b:Nat}{I:Img}{V:ImV}(h:ImAt W b I V)(k:Kt nO w W)(p:Pg):PbI w (W.alloc (aV p)) b W.heap.size I V p:=
 ⟨h.keep ((Kt.refl _ W).alloc _),nH _ _,k.alloc _⟩
theorem eL{w:World}{g:Nat}{p:Pg}(h:w.heap[g]?=some (aV p)):w.cell? ⟨g,0,none⟩=some (.int .i64 p.kd)/\w.cell? ⟨g,1,none⟩=some (.int .i64 p.od)/\w.cell? ⟨g,2,none⟩=some (.int .i64 p.cl)/\w.cell? ⟨g,3,none⟩=some (.int .i64 p.lv)/\w.cell? ⟨g,4,none⟩=some (.int .i64 p.nx)/\w.cell? ⟨g,5,none⟩=some (.int .i64 p.pv)/\w.cell? ⟨g,6,none⟩=some (.int .i64 p.fs)/\w.cell? ⟨g,7,none⟩=some (.int .u64 p.b0)/\w.cell? ⟨g,8,none⟩=some (.int .u64 p.b1)/\w.cell? ⟨g,9,none⟩=some (.int .u64 p.b2)/\w.cell? ⟨g,10,none⟩=some (.int .u64 p.b3):=by
 refine⟨?_,?_,?_,?_,?_,?_,?_,?_,?_,?_,?_⟩ <;> simp[World.cell?,h]
theorem PbI.all{w W:World}{b g:Nat}{I:Img}{V:ImV}{p:Pg}(h:PbI w W b g I V p):(∀ x:KW W,x.v.cell? ⟨g,0,none⟩=some (.int .i64 p.kd))/\(∀ x:KW W,x.v.cell? ⟨g,1,none⟩=some (.int .i64 p.od))/\(∀ x:KW W,x.v.cell? ⟨g,2,none⟩=some (.int .i64 p.cl))/\(∀ x:KW W,x.v.cell? ⟨g,3,none⟩=some (.int .i64 p.lv))/\(∀ x:KW W,x.v.cell? ⟨g,4,none⟩=some (.int .i64 p.nx))/\(∀ x:KW W,x.v.cell? ⟨g,5,none⟩=some (.int .i64 p.pv))/\(∀ x:KW W,x.v.cell? ⟨g,6,none⟩=some (.int .i64 p.fs))/\(∀ x:KW W,x.v.cell? ⟨g,7,none⟩=some (.int .u64 p.b0))/\(∀ x:KW W,x.v.cell? ⟨g,8,none⟩=some (.int .u64 p.b1))/\(∀ x:KW W,x.v.cell? ⟨g,9,none⟩=some (.int .u64 p.b2))/\(∀ x:KW W,x.v.cell? ⟨g,10,none⟩=some (.int .u64 p.b3)):=
 ⟨fun x=>(eL (h.keep x.k).pb).1,fun x=>(eL (h.keep x.k).pb).2.1,fun x=>(eL (h.keep x.k).pb).2.2.1,fun x=>(eL (h.keep x.k).pb).2.2.2.1,fun x=>(eL (h.keep x.k).pb).2.2.2.2.1,fun x=>(eL (h.keep x.k).pb).2.2.2.2.2.1,fun x=>(eL (h.keep x.k).pb).2.2.2.2.2.2.1,fun x=>(eL (h.keep x.k).pb).2.2.2.2.2.2.2.1,fun x=>(eL (h.keep x.k).pb).2.2.2.2.2.2.2.2.1,fun x=>(eL (h.keep x.k).pb).2.2.2.2.2.2.2.2.2.1,fun x=>(eL (h.keep x.k).pb).2.2.2.2.2.2.2.2.2.2⟩
theorem ImAt.pageK{w:World}{b:Nat}{I:Img}{V:ImV}(h:ImAt w b I V){bl o oc n:Nat}(hv:V.p=.slice (some ⟨bl,o,none⟩) n oc)(i:Nat)(hi:i<I.np)(x:KW w):kQ x.v bl o i (I.pg i):=by
 obtain⟨bl',o',oc',hv',_,hc⟩:=(h.keep x.k).page i hi;rw[hv] at hv';injection hv' with e1 e2 e3
 injection e1 with e4
 injection e4 with e5 e6
 subst e5 e6;exact hc
theorem gV{w:World}{bl o i:Nat}{p:Pg}(h:∀ x:KW w,kQ x.v bl o i p):(∀ x:KW w,x.v.cell? ⟨bl,o+i*11,none⟩=some (.int .i64 p.kd))/\(∀ x:KW w,x.v.cell? ⟨bl,o+i*11+1,none⟩=some (.int .i64 p.od))/\(∀ x:KW w,x.v.cell? ⟨bl,o+i*11+2,none⟩=some (.int .i64 p.cl))/\(∀ x:KW w,x.v.cell? ⟨bl,o+i*11+3,none⟩=some (.int .i64 p.lv))/\(∀ x:KW w,x.v.cell? ⟨bl,o+i*11+4,none⟩=some (.int .i64 p.nx))/\(∀ x:KW w,x.v.cell? ⟨bl,o+i*11+5,none⟩=some (.int .i64 p.pv))/\(∀ x:KW w,x.v.cell? ⟨bl,o+i*11+6,none⟩=some (.int .i64 p.fs))/\(∀ x:KW w,x.v.cell? ⟨bl,o+i*11+7,none⟩=some (.int .u64 p.b0))/\(∀ x:KW w,x.v.cell? ⟨bl,o+i*11+8,none⟩=some (.int .u64 p.b1))/\(∀ x:KW w,x.v.cell? ⟨bl,o+i*11+9,none⟩=some (.int .u64 p.b2))/\(∀ x:KW w,x.v.cell? ⟨bl,o+i*11+10,none⟩=some (.int .u64 p.b3)):=
 ⟨fun x=>(h x).c.1,fun x=>(h x).c.2.1,fun x=>(h x).c.2.2.1,fun x=>(h x).c.2.2.2.1,fun x=>(h x).c.2.2.2.2.1,fun x=>(h x).c.2.2.2.2.2.1,fun x=>(h x).c.2.2.2.2.2.2.1,fun x=>(h x).c.2.2.2.2.2.2.2.1,fun x=>(h x).c.2.2.2.2.2.2.2.2.1,fun x=>(h x).c.2.2.2.2.2.2.2.2.2.1,fun x=>(h x).c.2.2.2.2.2.2.2.2.2.2⟩
def ok6(I:Img)(k a:Nat):Bool:=!(isF (I.pg a) (I.pg a).od && decide ((I.pg a).od<(k:Int)) && decide (a%(2*2 ^ (I.pg a).od.toNat)=0)) || !isF (I.pg (a+2 ^ (I.pg a).od.toNat)) (I.pg a).od
def ok11(I:Img)(a:Nat):Bool:=!(decide ((I.pg a).kd=4) && decide ((I.pg a).lv=(celN9 (I.pg a).cl.toNat:Int))) || (decide ((I.pg a).nx = -1) && decide ((I.pg a).pv = -1))
theorem zcI(b:Nat)(I:Img)(V:ImV)(k r:Nat)(hS:Sn9 I k r)(w:World)(hI:ImAt w b I V):
  Calls prog 175 #[.pointer (some ⟨b,0,none⟩)] w fun e w'=>e=bB (fst1 I.np (ok11 I))/\Kt nO w w':=by
 obtain⟨-,⟨pa,pc,hp⟩,-,-,-,-,bp,-,-⟩:=hI.d.sl;obtain⟨c0,c1,c2,c3,c4,c5,c6,c7,c8⟩:=hI.cells;rw[hp] at c5;obtain⟨EE,hEE⟩:=xe (bB (fst1 I.np (ok11 I)));rw[<-hEE];have HE:=aA hEE;have HI:=aA hI;have HS:=aA hS;have SP:=aA hp;have hnp:=hS.np1;obtain⟨n,hn⟩:=xe (I.np);rw[<-hn] at hnp c5;have HN:=aA hn;clear hEE hI hp hS hn bp;go_enter func175,ntmps175;go_wp2_with fail;go_loopw [9] (fun i W=>∃ a:Nat,a<=n/\i=.int .i64 a/\Hid (Kt nO w W/\∀ x,x<a->ok11 I x=true)) (fun i _=>n-(intOf i).toNat)
 case atStart=>exact⟨0,Nat.zero_le _,rfl,aA ⟨Kt.refl _ _,fun x hx=>by omega⟩⟩
 case round=>
  clear c0 c1 c2 c3 c4 c5 c6 c7 c8;obtain⟨a,ha,rfl,hR⟩:=hrel;have A0:=aA (HI.out.keep hR.out.1);by_cases hlt:a<n
  ·have hai:(a:Int)<n:=(by omega);have hlt':a<I.np:=(by rw[<-HN.out];exact hlt);obtain⟨bl,o,oc',hv',hpi,hpc⟩:=A0.out.page a hlt';rw[SP.out] at hv';injection hv' with e1 e2 e3
   subst e1;obtain⟨kd,od,cc,ll,y1,y2,y3,y4,y5,y6,y7,y8,-⟩:=HS.out.pg a hlt';have FB:=aA (show ok11 I a=false->bM (a:Int)=EE from fun h=>by rw[HE.out,kF hlt' hR.out.2 h];rfl);have GA:=aA (show ok11 I a=true->∀ x,x<a+1->ok11 I x=true from fun h x hx=>by
    by_cases e:x=a
    ·rw[e];exact h
    ·exact hR.out.2 x (by omega))
   have OK:=aA (show ok11 I a=(!(decide ((I.pg a).kd=4) && decide ((I.pg a).lv=(celN9 (I.pg a).cl.toNat:Int))) || (decide ((I.pg a).nx = -1) && decide ((I.pg a).pv = -1)))from rfl);have PB:=aA (PbI.mk' (w:=w) A0.out hR.out.1 (I.pg a));obtain⟨d0,d1,d2,d3,d4,d5,d6,d7,d8,d9,d10⟩:=hpc.c;have HFU:=aA (fun W=>yW (I.pg a) cc y5 y6 W);rw[y5,Int.toNat_natCast] at OK;generalize ok11 I a=okv at *;generalize I.pg a=p at *;obtain⟨pkd,pod,pcl,plv,pnx,ppv,pfs,pb0,pb1,pb2,pb3⟩:=p;dsimp only at d0 d1 d2 d3 d4 d5 d6 d7 d8 d9 d10 OK y1 HFU;generalize decide (plv=(celN9 cc:Int))=fu at *;clear hpi hpc e2 e3 y1 y2 y3 y4 y5 y6 y7 y8;by_cases hk4:pkd=4
   ·subst hk4
    cases fu with
    | false=>
     have R2:=aA (GA.out (by rw[OK.out];simp));go_wp2_with fail;generalize wr.alloc (aV ⟨4,pod,pcl,plv,pnx,ppv,pfs,pb0,pb1,pb2,pb3⟩)=W1 at *;generalize wr.heap.size=g at *;refine(HFU.out _).mono ?_;rintro e w1 ⟨rfl,hk⟩;have K1:=aA (nT PB.out.k hk);clear hk d0 d1 d2 d3 d4 d5 d6 d7 d8 d9 d10;go_wp2_with fail;have R3:=aA (show Kt nO w w1/\_ from⟨K1.out,R2.out⟩);go_round
     case rel=>exact⟨a+1,by omega,by go_num,R3⟩
     case measure=>simp[intOf];omega
    | true=>
     by_cases hn1:pnx = -1
     ·subst hn1;by_cases hn2:ppv = -1
      ·subst hn2;have R2:=aA (GA.out (by rw[OK.out];simp));go_wp2_with fail;generalize wr.alloc (aV ⟨4,pod,pcl,plv,-1,-1,pfs,pb0,pb1,pb2,pb3⟩)=W1 at *;generalize wr.heap.size=g at *;refine(HFU.out _).mono ?_;rintro e w1 ⟨rfl,hk⟩;have PB2:=aA (PB.out.keep hk);obtain⟨q0,q1,q2,q3,q4,q5,q6,q7,q8,q9,q10⟩:=eL PB2.out.pb;clear hk d0 d1 d2 d3 d4 d5 d6 d7 d8 d9 d10;go_wp2_with fail;refine(cH _ _).mono ?_;rintro e w2 ⟨rfl,rfl⟩;have R3:=aA (show Kt nO w w2/\_ from⟨PB2.out.k,R2.out⟩);go_wp2_with fail;go_round
       case rel=>exact⟨a+1,by omega,by go_num,R3⟩
       case measure=>simp[intOf];omega
      ·have R2:=aA (FB.out (by rw[OK.out];simp[hn2]));have f2:(ppv == -1)=false:=(by rw[beq_eq_false_iff_ne];exact hn2);clear hn2;go_wp2_with fail;generalize wr.alloc (aV ⟨4,pod,pcl,plv,-1,ppv,pfs,pb0,pb1,pb2,pb3⟩)=W1 at *;generalize wr.heap.size=g at *;refine(HFU.out _).mono ?_;rintro e w1 ⟨rfl,hk⟩;have PB2:=aA (PB.out.keep hk);obtain⟨q0,q1,q2,q3,q4,q5,q6,q7,q8,q9,q10⟩:=eL PB2.out.pb;clear hk d0 d1 d2 d3 d4 d5 d6 d7 d8 d9 d10;go_wp2_with fail;refine(dD _ _).mono ?_;rintro e w2 ⟨rfl,rfl⟩;exact⟨rfl,R2.out,PB2.out.k⟩
     ·have R2:=aA (FB.out (by rw[OK.out];simp[hn1]));have f2:(pnx == -1)=false:=(by rw[beq_eq_false_iff_ne];exact hn1);clear hn1;go_wp2_with fail;generalize wr.alloc (aV ⟨4,pod,pcl,plv,pnx,ppv,pfs,pb0,pb1,pb2,pb3⟩)=W1 at *;generalize wr.heap.size=g at *;refine(HFU.out _).mono ?_;rintro e w1 ⟨rfl,hk⟩;have PB2:=aA (PB.out.keep hk);obtain⟨q0,q1,q2,q3,q4,q5,q6,q7,q8,q9,q10⟩:=eL PB2.out.pb;clear hk d0 d1 d2 d3 d4 d5 d6 d7 d8 d9 d10;go_wp2_with fail;refine(dD _ _).mono ?_;rintro e w2 ⟨rfl,rfl⟩;exact⟨rfl,R2.out,PB2.out.k⟩
   ·have R2:=aA (show Kt nO w (wr.alloc (aV ⟨pkd,pod,pcl,plv,pnx,ppv,pfs,pb0,pb1,pb2,pb3⟩))/\_ from⟨hR.out.1.alloc _,GA.out (by rw[OK.out];simp[hk4])⟩);have f2:(pkd == 4)=false:=(by rw[beq_eq_false_iff_ne];exact hk4);clear hk4;go_wp2_with fail;go_round
    case rel=>exact⟨a+1,by omega,by go_num,R2⟩
    case measure=>simp[intOf];omega
  ·obtain rfl:a=n:=(by omega);have hai:¬(a:Int)<a:=(by omega);have E:=aA (show Ending.returned (.tuple #[])=EE by rw[HE.out,fst1_ok (fun x hx=>hR.out.2 x (by rw[HN.out];exact hx))];rfl);go_wp2_with fail;first|go_end0|go_ret
   exact⟨E.out,hR.out.1⟩
theorem ZZ(b:Nat)(I:Img)(V:ImV)(k r:Nat)(hS:Sn9 I k r)(w:World)(hI:ImAt w b I V):
  Calls prog 170 #[.pointer (some ⟨b,0,none⟩)] w fun e w'=>e=bB (fst1 I.np (ok6 I k))/\Kt nO w w':=by
 obtain⟨-,⟨pa,pc,hp⟩,-,-,-,-,bp,-,-⟩:=hI.d.sl;obtain⟨c0,c1,c2,c3,c4,c5,c6,c7,c8⟩:=hI.cells;rw[hp] at c5;obtain⟨EE,hEE⟩:=xe (bB (fst1 I.np (ok6 I k)));rw[<-hEE];have HE:=aA hEE;have HI:=aA hI;have HS:=aA hS;have SP:=aA hp;have hnp:=hS.np1;have hk8:=hS.k8;obtain⟨n,hn⟩:=xe (I.np);rw[<-hn] at hnp c5;have HN:=aA hn;clear hEE hI hp hS hn bp;go_enter func170,ntmps170;go_wp2_with fail;go_loopw [11] (fun i W=>∃ a:Nat,a<=n/\i=.int .i64 a/\Hid (Kt nO w W/\∀ x,x<a->ok6 I k x=true)) (fun i _=>n-(intOf i).toNat)
 case atStart=>exact⟨0,Nat.zero_le _,rfl,aA ⟨Kt.refl _ _,fun x hx=>by omega⟩⟩
 case round=>
  clear c0 c1 c2 c3 c4 c5 c6 c7 c8;obtain⟨a,ha,rfl,hR⟩:=hrel;have A0:=aA (HI.out.keep hR.out.1);by_cases hlt:a<n
  ·have hai:(a:Int)<n:=(by omega);have hlt':a<I.np:=(by rw[<-HN.out];exact hlt);obtain⟨bl,o,oc',hv',hpi,hpc⟩:=A0.out.page a hlt';rw[SP.out] at hv';injection hv' with e1 e2 e3
   subst e1;obtain⟨kd,od,cc,ll,y1,y2,y3,y4,y5,y6,y7,y8,-⟩:=HS.out.pg a hlt';have hod8:od<=8:=(by omega);have hP:=M.pow8 od hod8;have FB:=aA (show ok6 I k a=false->bM (a:Int)=EE from fun h=>by rw[HE.out,kF hlt' hR.out.2 h];rfl);have GA:=aA (show ok6 I k a=true->∀ x,x<a+1->ok6 I k x=true from fun h x hx=>by
    by_cases e:x=a
    ·rw[e];exact h
    ·exact hR.out.2 x (by omega))
   have OK:=aA (show ok6 I k a=(!(isF (I.pg a) (od:Int) && decide ((od:Int)<k) && decide (a%(2*2 ^ od)=0)) || !isF (I.pg (a+2 ^ od)) (od:Int))by unfold ok6;rw[y3,Int.toNat_natCast]);have FIT:=aA (show od<k->a%(2*2 ^ od)=0->a+2 ^ od<n from fun h1 h=>by
    have:=mul_fits (HS.out.dvd (od+1) (by omega)) (by rw[Nat.pow_succ,Nat.mul_comm];exact h) hlt';rw[HN.out];have hp:=Nat.two_pow_pos od;rw[Nat.pow_succ] at this;omega)
   have PB:=aA (PbI.mk' (w:=w) A0.out hR.out.1 (I.pg a));obtain⟨d0,d1,d2,d3,d4,d5,d6,d7,d8,d9,d10⟩:=hpc.c;have HFR:=aA (fun W=>pF (I.pg a) (od:Int) W);generalize ok6 I k a=okv at *;obtain⟨fv,hfv⟩:=xe (isF (I.pg a) (od:Int));rw[<-hfv] at OK HFR;clear hfv;generalize I.pg a=p at *;obtain⟨pkd,pod,pcl,plv,pnx,ppv,pfs,pb0,pb1,pb2,pb3⟩:=p;dsimp only at d0 d1 d2 d3 d4 d5 d6 d7 d8 d9 d10 y3;subst y3;obtain⟨P,hPP⟩:=xe (2 ^ od);rw[<-hPP] at FIT hP OK;have hP1:=hP.1;have hP2:=hP.2;have hQ0:¬((2:Int)*(P:Int))=0:=MN hP1;have SH:=aA (oE hod8 hPP);clear hPP hpi hpc e2 e3 hP y1 y2 y5 y6 y7 y8
   cases fv with
   | false=>
    have R2:=aA (GA.out (by rw[OK.out];simp));go_wp2_with fail;generalize wr.alloc (aV ⟨pkd,(od:Int),pcl,plv,pnx,ppv,pfs,pb0,pb1,pb2,pb3⟩)=W1 at *;generalize wr.heap.size=g at *;refine(HFR.out _).mono ?_;rintro e w1 ⟨rfl,hk⟩;have K1:=aA (nT PB.out.k hk);clear hk d0 d1 d2 d3 d4 d5 d6 d7 d8 d9 d10;go_wp2_with fail;have R3:=aA (show Kt nO w w1/\_ from⟨K1.out,R2.out⟩);go_round
    case rel=>exact⟨a+1,by omega,by go_num,R3⟩
    case measure=>simp[intOf];omega
   | true=>
    by_cases hok:od<k
    case neg=>
     have R2:=aA (GA.out (by rw[OK.out];simp[hok]));have f1:decide ((od:Int)<k)=false:=decide_eq_false (by omega);have f2:¬(od:Int)<k:=(by omega);clear hok;go_wp2_with fail;generalize wr.alloc (aV ⟨pkd,(od:Int),pcl,plv,pnx,ppv,pfs,pb0,pb1,pb2,pb3⟩)=W1 at *;generalize wr.heap.size=g at *;refine(HFR.out _).mono ?_;rintro e w1 ⟨rfl,hk⟩;have PB2:=aA (PB.out.keep hk);obtain⟨c0,c1,c2,c3,c4,c5,c6,c7,c8⟩:=PB2.out.im.cells;rw[HS.out.ord] at c2;clear hk d0 d1 d2 d3 d4 d5 d6 d7 d8 d9 d10;go_wp2_with fail;have R3:=aA (show Kt nO w w1/\_ from⟨PB2.out.k,R2.out⟩);go_round
     case rel=>exact⟨a+1,by omega,by go_num,R3⟩
     case measure=>simp[intOf];omega
    have f1:decide ((od:Int)<k)=true:=decide_eq_true (by omega);have f2:(od:Int)<k:=(by omega);by_cases hal:a%(2*P)=0
    case neg=>
     have R2:=aA (GA.out (by rw[OK.out];simp[hal]));have f3:((a:Int)%(2*(P:Int)) == 0)=false:=MK hal;obtain⟨hsh1,hsh2,hsh3⟩:=SH.out;clear hok hal;go_wp2_with fail;generalize wr.alloc (aV ⟨pkd,(od:Int),pcl,plv,pnx,ppv,pfs,pb0,pb1,pb2,pb3⟩)=W1 at *;generalize wr.heap.size=g at *;refine(HFR.out _).mono ?_;rintro e w1 ⟨rfl,hk⟩;have PB2:=aA (PB.out.keep hk);obtain⟨c0,c1,c2,c3,c4,c5,c6,c7,c8⟩:=PB2.out.im.cells;rw[HS.out.ord] at c2;clear hk d0 d1 d2 d3 d4 d5 d6 d7 d8 d9 d10;go_wp2_with fail;have R3:=aA (show Kt nO w w1/\_ from⟨PB2.out.k,R2.out⟩);go_round
     case rel=>exact⟨a+1,by omega,by go_num,R3⟩
     case measure=>simp[intOf];omega
    have f3:((a:Int)%(2*(P:Int)) == 0)=true:=ML hal;have hfit:=FIT.out hok hal;have OK2:=aA (show okv=!isF (I.pg (a+P)) (od:Int)by rw[OK.out];simp[hok,hal]);obtain⟨t,ht⟩:=xe (a+P);have hti:(a:Int)+(P:Int)=t:=(by omega);rw[<-ht] at OK2 hfit;have htl:(t:Int)<n:=(by omega);have htn:t<I.np:=(by rw[<-HN.out];exact hfit);clear hok hal ht;have HFT:=aA (fun W=>pF (I.pg t) (od:Int) W);obtain⟨fw,hfw⟩:=xe (isF (I.pg t) (od:Int));rw[<-hfw] at OK2 HFT;clear hfw;obtain⟨hsh1,hsh2,hsh3⟩:=SH.out;go_wp2_with fail;generalize wr.alloc (aV ⟨pkd,(od:Int),pcl,plv,pnx,ppv,pfs,pb0,pb1,pb2,pb3⟩)=W1 at *;generalize wr.heap.size=g at *;refine(HFR.out _).mono ?_;rintro e w1 ⟨rfl,hk⟩;have PB2:=aA (PB.out.keep hk);obtain⟨c0,c1,c2,c3,c4,c5,c6,c7,c8⟩:=PB2.out.im.cells;rw[HS.out.ord] at c2;rw[SP.out,<-HN.out] at c5;have hq0:=PB2.out.im.pageK SP.out t htn ⟨w1,Kt.refl _ _⟩;clear hk d0 d1 d2 d3 d4 d5 d6 d7 d8 d9 d10;generalize I.pg t=q at *;obtain⟨qkd,qod,qcl,qlv,qnx,qpv,qfs,qb0,qb1,qb2,qb3⟩:=q;obtain⟨d0,d1,d2,d3,d4,d5,d6,d7,d8,d9,d10⟩:=hq0.c;dsimp only[KW.v] at d0 d1 d2 d3 d4 d5 d6 d7 d8 d9 d10;clear hq0
    cases fw with
    | false=>
     have R2:=aA (GA.out (by rw[OK2.out];rfl));go_wp2_with fail;refine(HFT.out _).mono ?_;rintro e w2 ⟨rfl,hk⟩;have K2:=aA (nT PB2.out.k hk);clear hk d0 d1 d2 d3 d4 d5 d6 d7 d8 d9 d10;go_wp2_with fail;refine(cH _ _).mono ?_;rintro e w3 ⟨rfl,rfl⟩;have R3:=aA (show Kt nO w w3/\_ from⟨K2.out,R2.out⟩);go_wp2_with fail;go_round
     case rel=>exact⟨a+1,by omega,by go_num,R3⟩
     case measure=>simp[intOf];omega
    | true=>
     have R2:=aA (FB.out (by rw[OK2.out];rfl));go_wp2_with fail;refine(HFT.out _).mono ?_;rintro e w2 ⟨rfl,hk⟩;have K2:=aA (nT PB2.out.k hk);clear hk d0 d1 d2 d3 d4 d5 d6 d7 d8 d9 d10;go_wp2_with fail;refine(dD _ _).mono ?_;rintro e w3 ⟨rfl,rfl⟩;exact⟨rfl,R2.out,K2.out⟩
  ·obtain rfl:a=n:=(by omega);have hai:¬(a:Int)<a:=(by omega);have E:=aA (show Ending.returned (.tuple #[])=EE by rw[HE.out,fst1_ok (fun x hx=>hR.out.2 x (by rw[HN.out];exact hx))];rfl);go_wp2_with fail;first|go_end0|go_ret
   exact⟨E.out,hR.out.1⟩
abbrev wsP(p:Pg):List Nat:=[p.b0,p.b1,p.b2,p.b3]
def ok5(p:Pg):Bool:=!decide (p.kd=4) || ((decide (0<p.lv) && decide (p.lv=(aT (wsP p):Int))) && decide (bQ 256 (wsP p) (celN9 p.cl.toNat) = -1))
theorem QX(p:Pg)(h:PgIn p):eY (wsP p) (dF 256)=wsP p:=by
 have e:dF 256=256:=by decide
 rw[e];unfold eY jI;rw[if_pos (by decide)];unfold over dP;rfl
theorem uF{w:World}{g:Nat}{p:Pg}(h:w.heap[g]?=some (aV p))(hp:PgIn p):Src w (.slice (some ⟨g,7,none⟩) 4 4) (wsP p):=by
 refine⟨fun i=>?_,some ⟨g,7,none⟩,4,rfl,.inr ⟨⟨g,7,none⟩,rfl,lH h,fun j hj=>?_⟩⟩
 ·obtain⟨-,-,-,-,-,-,-,h0,h1,h2,h3⟩:=hp;match i with
  | 0=>exact h0
  | 1=>exact h1
  | 2=>exact h2
  | 3=>exact h3
  | n+4=>simp
 ·have hj4:j<4:=hj;match j,hj4 with
  | 0,_=>simp[World.cell?,h,Addr.add]
  | 1,_=>simp[World.cell?,h,Addr.add]
  | 2,_=>simp[World.cell?,h,Addr.add]
  | 3,_=>simp[World.cell?,h,Addr.add]
theorem zeW(b:Nat)(I:Img)(V:ImV)(k r:Nat)(hS:Sn9 I k r)(w:World)(hI:ImAt w b I V):
  Calls prog 169 #[.pointer (some ⟨b,0,none⟩)] w fun e w'=>e=bB (fst1 I.np fun i=>ok5 (I.pg i))/\Kt nO w w':=by
 obtain⟨-,⟨pa,pc,hp⟩,-,-,-,-,bp,-,-⟩:=hI.d.sl;obtain⟨c0,c1,c2,c3,c4,c5,c6,c7,c8⟩:=hI.cells;rw[hp] at c5;obtain⟨EE,hEE⟩:=xe (bB (fst1 I.np fun i=>ok5 (I.pg i)));rw[<-hEE];have HE:=aA hEE;have HI:=aA hI;have HS:=aA hS;have SP:=aA hp;have hnp:=hS.np1;obtain⟨n,hn⟩:=xe (I.np);rw[<-hn] at hnp c5;have HN:=aA hn;clear hEE hI hp hS hn bp;go_enter func169,ntmps169;go_wp2_with fail;go_loopw [10] (fun i W=>∃ a:Nat,a<=n/\i=.int .i64 a/\Hid (Kt nO w W/\∀ x,x<a->ok5 (I.pg x)=true)) (fun i _=>n-(intOf i).toNat)
 case atStart=>exact⟨0,Nat.zero_le _,rfl,aA ⟨Kt.refl _ _,fun x hx=>by omega⟩⟩
 case round=>
  clear c0 c1 c2 c3 c4 c5 c6 c7 c8;obtain⟨a,ha,rfl,hR⟩:=hrel;have A0:=aA (HI.out.keep hR.out.1);by_cases hlt:a<n
  ·have hai:(a:Int)<n:=(by omega);have hlt':a<I.np:=(by rw[<-HN.out];exact hlt);obtain⟨bl,o,oc',hv',hpi,hpc⟩:=A0.out.page a hlt';rw[SP.out] at hv';injection hv' with e1 e2 e3
   subst e1;obtain⟨kd,od,cc,ll,y1,y2,y3,y4,y5,y6,y7,y8,-⟩:=HS.out.pg a hlt';have FB:=aA (show ok5 (I.pg a)=false->bM (a:Int)=EE from fun h=>by rw[HE.out,kF (ok:=fun i=>ok5 (I.pg i)) hlt' hR.out.2 h];rfl);have GA:=aA (show ok5 (I.pg a)=true->∀ x,x<a+1->ok5 (I.pg x)=true from fun h x hx=>by
    by_cases e:x=a
    ·rw[e];exact h
    ·exact hR.out.2 x (by omega))
   have OK:=aA (show ok5 (I.pg a)=(!decide ((I.pg a).kd=4) || ((decide (0<(I.pg a).lv) && decide ((I.pg a).lv=(aT (wsP (I.pg a)):Int))) && decide (bQ 256 (wsP (I.pg a)) (celN9 (I.pg a).cl.toNat) = -1)))from rfl);rw[y5,Int.toNat_natCast] at OK;have PB:=aA (PbI.mk' (w:=w) A0.out hR.out.1 (I.pg a));have SR:=aA (uF PB.out.pb hpi);have OW:=aA (QX (I.pg a) hpi);have HCE:=aA (fun W=>tV (I.pg a) cc y5 y6 W);have hcb:=mK cc y6;generalize celN9 cc=cn at *;obtain⟨d0,d1,d2,d3,d4,d5,d6,d7,d8,d9,d10⟩:=hpc.c;generalize ok5 (I.pg a)=okv at *;generalize I.pg a=p at *;clear hpi hpc e2 e3 y1 y2 y3 y4 y5 y6 y7 y8;by_cases hk4:p.kd=4
   case neg=>
    have R2:=aA (show Kt nO w (wr.alloc (aV p))/\_ from⟨hR.out.1.alloc _,GA.out (by rw[OK.out];simp[hk4])⟩);have f2:(p.kd != 4)=true:=(by rw[bne_iff_ne];exact hk4);clear hk4;go_wp2_with fail;go_round
    case rel=>exact⟨a+1,by omega,by go_num,R2⟩
    case measure=>simp[intOf];omega
   have OK2:=aA (show okv=((decide (0<p.lv) && decide (p.lv=(aT (wsP p):Int))) && decide (bQ 256 (wsP p) cn = -1))by rw[OK.out,decide_eq_true hk4];rfl);have f2:(p.kd != 4)=false:=(by rw[bne_eq_false_iff_eq];exact hk4);clear hk4;generalize hws:wsP p=ws at *;clear hws;go_wp2_with fail;generalize wr.alloc (aV p)=W1 at *;generalize wr.heap.size=g at *;refine(qJ (.slice (some ⟨g,7,none⟩) 4 4) ws 256 (by decide) (by decide) W1 SR.out).mono ?_;rintro e w1 ⟨rfl,hset,hk,hsz⟩;rw[OW.out] at hset;have PB1:=aA (PB.out.keep hk);have ST:=aA hset;generalize W1.heap.size+1=sb at *;generalize W1.heap.size=sc at *;obtain⟨cw,hcw⟩:=xe (aT ws);have HCT:=aA (fun (x:KW w1)=>rO sb sc _ ws x.v (ST.out.kept x.k (fun x=>x) (fun x=>x)));rw[<-hcw] at HCT;have HNX:=aA (fun (W:World) (hW:Kt nO w1 W)=>yG sb sc _ ws (cn:Int) (by omega) W (ST.out.kept hW (fun x=>x) (fun x=>x)));obtain⟨nv,hnv⟩:=xe (bQ 256 ws cn);have HNE:nxt (dF 256) ws (cn:Int)=nv:=(by rw[hnv];unfold nxt;rw[Int.toNat_natCast];rfl);rw[HNE] at HNX;rw[<-hcw,<-hnv] at OK2;clear hset hk hsz hcw hnv HNE OK;obtain⟨p0,p1,p2,p3,p4,p5,p6,p7,p8,p9,p10⟩:=PB1.out.all;clear d0 d1 d2 d3 d4 d5 d6 d7 d8 d9 d10;by_cases g1 : 0<p.lv
   case neg=>
    have R2:=aA (FB.out (by rw[OK2.out,decide_eq_false g1];rfl));have f1:decide (0<p.lv)=false:=decide_eq_false g1;go_wp2_with fail;refine fX (by kernel_rfl) (by kernel_rfl) (by exact List.cons_ne_nil _ _) ?_;dsimp only[List.dropLast,List.getLast];repeat (go_big_quiet_step (fail))
    refine wpQuiet_nil ?_;refine⟨rfl,?_⟩;rintro _ ⟨x,rfl⟩;exact fW (p:=(a:Int)) rfl rfl rfl fun _ hd=>⟨hd,R2.out,nT PB1.out.k x.k⟩
   have f1:decide (0<p.lv)=true:=decide_eq_true g1;by_cases g2:p.lv=(cw:Int)
   case neg=>
    have R2:=aA (FB.out (by rw[OK2.out,decide_eq_false g2];simp));have f3:(p.lv == (cw:Int))=false:=(by rw[beq_eq_false_iff_ne];exact g2);clear g2;go_wp2_with fail;refine fX (by kernel_rfl) (by kernel_rfl) (by exact List.cons_ne_nil _ _) ?_;dsimp only[List.dropLast,List.getLast];repeat (go_big_quiet_step (first|(go_at_call 218;exact Calls.kept_of ((HCT.out _).mono fun _ _ ⟨h1,h2⟩=>⟨h1,h2▸Kt.refl _ _⟩))))
    refine wpQuiet_nil ?_;refine⟨rfl,?_⟩;rintro _ ⟨x,rfl⟩;exact fW (p:=(a:Int)) rfl rfl rfl fun _ hd=>⟨hd,R2.out,nT PB1.out.k x.k⟩
   have OK3:=aA (show okv=decide (nv = -1)by rw[OK2.out,f1,decide_eq_true g2];rfl);have f3:(p.lv == (cw:Int))=true:=(by rw[beq_iff_eq];exact g2);have HMY:=aA (fun W=>cH (a:Int) W);clear g2;go_wp2_with fail;refine cI (by kernel_rfl) (by kernel_rfl) ?_;repeat (go_big_quiet_step (first|(go_at_call 218;exact Calls.kept_of ((HCT.out _).mono fun _ _ ⟨h1,h2⟩=>⟨h1,h2▸Kt.refl _ _⟩))|(go_at_call 212;exact Calls.kept_of ((HMY.out _).mono fun _ _ ⟨h1,h2⟩=>⟨h1,h2▸Kt.refl _ _⟩))))
   refine wpQuiet_nil ?_;intro x;go_wp2_with fail;refine(HCE.out _).mono ?_;rintro e w3 ⟨rfl,hk⟩;have K3:=aA (nT PB1.out.k (nT x.k hk));have NX:=aA (HNX.out w3 (nT x.k hk));clear p0 p1 p2 p3 p4 p5 p6 p7 p8 p9 p10 hk;by_cases g3:nv = -1
   case neg=>
    have R2:=aA (FB.out (by rw[OK3.out,decide_eq_false g3]));have f4:(nv == -1)=false:=(by rw[beq_eq_false_iff_ne];exact g3);clear g3;go_wp2_with fail;refine NX.out.mono ?_;rintro e w4 ⟨rfl,rfl⟩;go_wp2_with fail;refine(dD _ _).mono ?_;rintro e w5 ⟨rfl,rfl⟩;exact⟨rfl,R2.out,K3.out⟩
   have R2:=aA (show Kt nO w w3/\_ from⟨K3.out,GA.out (by rw[OK3.out,decide_eq_true g3])⟩);have f4:(nv == -1)=true:=(by rw[beq_iff_eq];exact g3);clear g3;go_wp2_with fail;refine NX.out.mono ?_;rintro e w4 ⟨rfl,rfl⟩;go_wp2_with fail;refine(cH _ _).mono ?_;rintro e w5 ⟨rfl,rfl⟩;go_wp2_with fail;go_round
   case rel=>exact⟨a+1,by omega,by go_num,R2⟩
   case measure=>simp[intOf];omega
  ·obtain rfl:a=n:=(by omega);have hai:¬(a:Int)<a:=(by omega);have E:=aA (show Ending.returned (.tuple #[])=EE by rw[HE.out,fst1_ok (fun x hx=>hR.out.2 x (by rw[HN.out];exact hx))];rfl);go_wp2_with fail;first|go_end0|go_ret
   exact⟨E.out,hR.out.1⟩
end Go.Proofs.YtkfmheelhinjdaaGreatDoor.W
