import Derived.Test.YtkfmheelhinjdaaGreatDoorXa
import Derived.Test.YtkfmheelhinjdaaGreatDoorZf
set_option maxRecDepth 1000000
set_option maxHeartbeats 80000000
namespace Go.Proofs.YtkfmheelhinjdaaGreatDoor.W
open Tryz
open Go.RowKit
set_option linter.unusedVariables false
abbrev fD(p:Pg):Value:=.agg #[.int .i64 p.kd,.int .i64 p.od,.int .i64 p.cl,.int .i64 p.lv,.int .i64 p.nx,.int .i64 p.pv,.int .i64 p.fs,.int .u64 p.b0,.int .u64 p.b1,.int .u64 p.b2,.int .u64 p.b3]
abbrev uX(bS:Nat)(lim ord:Int):Value:=.agg #[.int .u64 bS,.int .i64 lim,.int .i64 ord]
theorem fS{P:Program}{id:Nat}{Q:Exit->Act->World->Prop}{a:Act}{w:World}{l:List Oper}(hm:P.follows .mixedOrders=true)(hB:Region.lexB .any l.toArray=true)
  (hl:l≠[]) (h:wpQuiet P l.toArray (fun w'=>∃ x:KW w,w'=x.v) (fun a'=>Region.wanted (l.getLast hl) (yielded l.toArray a'.tmps)=true/\∀ w',(∃ x:KW w,w'=x.v)->fT P Q (l.getLast hl) a' w') l.dropLast a):(Code.region id l.toArray true).wp P Q a w:=
 AY (C:=fun w'=>∃ x:KW w,w'=x.v) hm hB hl ⟨⟨w.drew,(Kt.refl _ w).drew⟩,rfl⟩ h
theorem XZ(bS:Nat)(lim ord:Int)(h:(wiB ord 0 8 && wiB lim 1 64)=false)(w:World):
  Calls prog 213 #[uX bS lim ord] w fun e w'=>e=.returned (.bool false)/\Kt nO w w':=by
 cases h1:wiB ord 0 8 with
 | false=>
  clear h;go_enter func213,ntmps213;go_wp2_with (go_at_call 214;refine(gJ _ _ _ _).mono ?_;rintro e w' ⟨rfl,rfl⟩)
  go_ret;exact⟨rfl,(Kt.refl _ w).alloc _⟩
 | true=>
  rw[h1,Bool.true_and] at h;go_enter func213,ntmps213;go_wp2_with (go_at_call 214;refine(gJ _ _ _ _).mono ?_;rintro e w' ⟨rfl,rfl⟩)
  go_ret;exact⟨rfl,(Kt.refl _ w).alloc _⟩
theorem WF(bS:Nat)(hb64:bS<18446744073709551616)(lim k:Nat)(hk:k<=8)(hl1 : 1<=lim)(hl2:lim<=64)(w:World):
  Calls prog 213 #[uX bS (lim:Int) (k:Int)] w fun e w'=>e=.returned (.bool (M.mayB bS lim k))/\Kt nO w w':=by
 obtain⟨P,hP⟩:=xe (2 ^ k);have hP8:=M.pow8 k hk;rw[<-hP] at hP8;obtain⟨lp,hlp⟩:=xe (lim*P);have hlp2:lp<=16384:=by
  rw[hlp];exact Nat.le_trans (Nat.mul_le_mul hl2 hP8.2) (by decide)
 have hw1:wrap64 ((lim:Int)*2 ^ k)=(lp:Int):=by
  have e:((2:Int) ^ k)=((2 ^ k:Nat):Int):=by simp
  have e2:(lim:Int)*((P:Nat):Int)=(lp:Int):=by rw[hlp];simp
  rw[e,<-hP,e2];unfold wrap64;omega
 have hB:M.Bounds (lim:Int) (k:Int):=by unfold M.Bounds;omega
 have hmay:M.mayB bS lim k=(decide (lp<=1024) && (decide (bS≠0) && decide (bS%M.RS k=0) && decide (bS+lim*M.RS k<=9223372036854775808))):=by
  unfold M.mayB;rw[decide_eq_true hB,Int.toNat_natCast,Int.toNat_natCast,<-hP,<-hlp,Bool.true_and]
 rw[hmay];clear hmay hB;obtain⟨R,hR⟩:=xe (M.RS k);have hR2:R=4096*P:=by rw[hR,M.RS,hP]
 obtain⟨lr,hlr⟩:=xe (lim*R);have hlr2:lr=4096*lp:=by rw[hlr,hR2,hlp,Nat.mul_left_comm]
 have hmul:(lim:Int)*(R:Int)=lr:=by rw[hlr];simp
 rw[<-hR,<-hlr];have hRv:IntKind.u64.wrap ((4096:Int)*2 ^ k)=(R:Int):=by
  have e:((2:Int) ^ k)=((2 ^ k:Nat):Int):=by simp
  rw[wrap_u64,e,<-hP];omega
 have hR0:¬(R:Int)=0:=by omega
 have hRl:R<=1048576:=by omega
 have hi1:wiB (k:Int) 0 8=true:=by unfold wiB;exact decide_eq_true (by omega)
 have hi2:wiB (lim:Int) 1 64=true:=by unfold wiB;exact decide_eq_true (by omega)
 by_cases h1:lp<=1024
 ·have h1':¬(1024:Int)<lp:=by omega
  have hd:decide (lp<=1024)=true:=decide_eq_true h1;rw[hd,Bool.true_and];clear hP hlp hR hd;by_cases h0:bS=0
  ·have hb0:((bS:Int) != 0)=false:=(by rw[h0];rfl);have H0:=aA h0;clear hR2 hlr hlr2 h0;go_enter func213,ntmps213;go_wp2_with (go_at_call 214;refine(gJ _ _ _ _).mono ?_;rintro e w' ⟨rfl,rfl⟩)
   go_ret;exact⟨cO (by rw[H0.out];simp),(Kt.refl _ w).alloc _⟩
  ·have hb0:((bS:Int) != 0)=true:=(by rw[bne_iff_ne];omega);have hd0:decide (bS≠0)=true:=decide_eq_true h0;rw[hd0,Bool.true_and];by_cases h2:bS%R=0
   ·have hm:((bS:Int)%(R:Int) == 0)=true:=(by rw[beq_iff_eq];omega);have hd2:decide (bS%R=0)=true:=decide_eq_true h2;rw[hd2,Bool.true_and];clear hR2 hlr h2 hd2 hd0;go_enter func213,ntmps213;go_wp2_with (go_at_call 214;refine(gJ _ _ _ _).mono ?_;rintro e w' ⟨rfl,rfl⟩)
    go_ret;exact⟨cO (by rw[decide_eq_decide];omega),(Kt.refl _ w).alloc _⟩
   ·have hm:((bS:Int)%(R:Int) == 0)=false:=(by rw[beq_eq_false_iff_ne];omega);have hd2:decide (bS%R=0)=false:=decide_eq_false h2;rw[hd2,Bool.false_and];clear hR2 hlr hlr2 h2 hd2 hd0;go_enter func213,ntmps213;go_wp2_with (go_at_call 214;refine(gJ _ _ _ _).mono ?_;rintro e w' ⟨rfl,rfl⟩)
    go_ret;exact⟨rfl,(Kt.refl _ w).alloc _⟩
 ·have h1':(1024:Int)<lp:=by omega
  have hd:decide (lp<=1024)=false:=decide_eq_false h1;rw[hd,Bool.false_and];clear hP hlp hR hd hR2 hlr hlr2;go_enter func213,ntmps213;go_wp2_with (go_at_call 214;refine(gJ _ _ _ _).mono ?_;rintro e w' ⟨rfl,rfl⟩)
  go_ret;exact⟨rfl,(Kt.refl _ w).alloc _⟩
theorem ER(bS:Nat)(hb64:bS<18446744073709551616)(lim ord:Int)(w:World):
  Calls prog 213 #[uX bS lim ord] w fun e w'=>e=.returned (.bool (M.mayB bS lim ord))/\Kt nO w w':=by
 by_cases h:M.Bounds lim ord
 ·have h':=h;unfold M.Bounds at h';obtain⟨l,rfl⟩:=Int.eq_ofNat_of_zero_le (by omega : 0<=lim);obtain⟨k,rfl⟩:=Int.eq_ofNat_of_zero_le h'.1;exact WF bS hb64 l k (by omega) (by omega) (by omega) w
 ·have e:M.mayB bS lim ord=false:=by unfold M.mayB;rw[decide_eq_false h,Bool.false_and,Bool.false_and]
  rw[e];refine XZ bS lim ord ?_ w;unfold M.Bounds at h;unfold wiB;by_cases h1 : 0<=ord/\ord<=8
  ·rw[decide_eq_true h1,Bool.true_and];exact decide_eq_false (by omega)
  ·rw[decide_eq_false h1];rfl
theorem YH(b:Nat)(I:Img)(V:ImV)(w:World)(hI:ImAt w b I V):
  Calls prog 165 #[.pointer (some ⟨b,0,none⟩)] w fun e w'=>e=aZ (if M.mayB I.bS I.lim I.ord=true then none else some 0)/\Kt nO w w':=by
 obtain⟨c0,c1,c2,c3,c4,c5,c6,c7,c8⟩:=hI.cells;have HM:=aA (fun W=>ER I.bS hI.d.b64 I.lim I.ord W)
 cases hm:M.mayB I.bS I.lim I.ord with
 | true=>
  rw[hm] at HM;go_enter func165,ntmps165;go_wp2_with fail;refine(HM.out _).mono ?_;rintro e w1 ⟨rfl,hk⟩;have K1:=aA hk;clear hk c0 c1 c2 c3 c4 c5 c6 c7 c8;go_wp2_with fail;refine(cG _ _).mono ?_;rintro e w2 ⟨rfl,rfl⟩;go_wp2_with fail;first|go_end0|go_ret
  exact⟨by simp[aZ],K1.out⟩
 | false=>
  rw[hm] at HM;go_enter func165,ntmps165;go_wp2_with fail;refine(HM.out _).mono ?_;rintro e w1 ⟨rfl,hk⟩;have K1:=aA hk;clear hk c0 c1 c2 c3 c4 c5 c6 c7 c8;go_wp2_with fail;refine(dD _ _).mono ?_;rintro e w2 ⟨rfl,rfl⟩;exact⟨rfl,by simp[aZ],K1.out⟩
theorem zR(b:Nat)(I:Img)(V:ImV)(j:Nat)(w:World)(hI:ImAt w b I V)(hj:j<=8)(hnp:I.np<=9223372036854775807):
  Calls prog 215 #[.pointer (some ⟨b,0,none⟩),.int .i64 j] w fun e w'=>e=.returned (.int .i64 ((I.np/2 ^ (j+1):Nat):Int))/\w'=w:=by
 obtain⟨c0,c1,c2,c3,c4,c5,c6,c7,c8⟩:=hI.cells;obtain⟨h1,oa,oc,hv,h3⟩:=hI.d.pgs;rw[hv] at c5;have E:=aA (show((I.np:Int)/2 ^ (j+1))=((I.np/2 ^ (j+1):Nat):Int)by simp);obtain⟨n,hn⟩:=xe (I.np);rw[<-hn] at c5 E hnp ⊢;obtain⟨s,hs⟩:=xe (j+1);rw[<-hs] at E ⊢;have hs1:(j:Int)+1=(s:Int):=by omega
 have hs2:s<=9:=by omega
 generalize n/2 ^ s=r at *;have E':=E.out;clear hv hn h3 hs;go_enter func215,ntmps215;go_wp2
 go_ret;exact⟨by first|rfl|simp_all,rfl⟩
theorem qP(k o:Int)(w:World):
  Calls prog 216 #[.int .i64 k,.int .i64 o] w fun e w'=>e=.returned (fD (aN k o))/\Kt nO w w':=by
 go_enter func216,ntmps216;go_wp2
 exact⟨rfl,_,by simp[results,results216,go_sem,aN],rfl,(Kt.refl _ w).alloc _⟩
def celN9(c:Nat):Nat:=256/2 ^ c
theorem kQ(c:Nat)(h:c<=7) : 1<=2 ^ c/\2 ^ c<=128:=⟨Nat.two_pow_pos c,Nat.pow_le_pow_right (n:=2) (by decide) h⟩
theorem lX(c:Nat)(h:c<=7) : 2<=celN9 c/\celN9 c<=256:=by
 unfold celN9;match c,h with
 | 0,_=>decide
 | 1,_=>decide
 | 2,_=>decide
 | 3,_=>decide
 | 4,_=>decide
 | 5,_=>decide
 | 6,_=>decide
 | 7,_=>decide
theorem tI(p:Pg)(c:Nat)(hc:p.cl=(c:Int))(h7:c<=7)(w:World):
  Calls prog 220 #[fD p] w fun e w'=>e=.returned (.int .i64 (celN9 c:Int))/\Kt nO w w':=by
 have E:(256:Int)/2 ^ c=(celN9 c:Int):=by unfold celN9;simp
 have hb:=lX c h7;obtain⟨kd,od,cl,lv,nx,pv,fs,b0,b1,b2,b3⟩:=p;dsimp only at hc;subst hc;generalize celN9 c=q at *;go_enter func220,ntmps220;go_wp2
 go_ret;exact⟨by first|rfl|simp_all,(Kt.refl _ w).alloc _⟩
theorem XX(p:Pg)(c:Nat)(hc:p.cl=(c:Int))(h7:c<=7)(w:World):
  Calls prog 295 #[fD p] w fun e w'=>e=.returned (.int .u64 ((16*2 ^ c:Nat):Int))/\Kt nO w w':=by
 have hp:=kQ c h7;have E:IntKind.u64.wrap ((16:Int)*2 ^ c)=((16*2 ^ c:Nat):Int):=by
  have e:((2:Int) ^ c)=((2 ^ c:Nat):Int):=by simp
  rw[wrap_u64,e];generalize 2 ^ c=P at *;omega
 obtain⟨kd,od,cl,lv,nx,pv,fs,b0,b1,b2,b3⟩:=p;dsimp only at hc;subst hc;generalize 16*2 ^ c=q at *;go_enter func295,ntmps295;go_wp2
 go_ret;exact⟨by first|rfl|simp_all,(Kt.refl _ w).alloc _⟩
def isF(p:Pg)(o:Int):Bool:=decide (p.kd=0) && decide (p.od=o)
theorem oS(p:Pg)(o:Int)(w:World):
  Calls prog 221 #[fD p,.int .i64 o] w fun e w'=>e=.returned (.bool (isF p o))/\Kt nO w w':=by
 obtain⟨kd,od,cl,lv,nx,pv,fs,b0,b1,b2,b3⟩:=p;by_cases h:kd=0
 ·subst h;have E:=aA (show(od == o)=isF ⟨0,od,cl,lv,nx,pv,fs,b0,b1,b2,b3⟩ o by rw[Bool.eq_iff_iff];simp[isF]);go_enter func221,ntmps221;go_wp2
  go_ret;exact⟨cO E.out,(Kt.refl _ w).alloc _⟩
 ·have E:=aA (show false=isF ⟨kd,od,cl,lv,nx,pv,fs,b0,b1,b2,b3⟩ o by simp[isF,h]);have h':(kd == 0)=false:=by rw[beq_eq_false_iff_ne];exact h
  go_enter func221,ntmps221;go_wp2
  go_ret;exact⟨cO E.out,(Kt.refl _ w).alloc _⟩
theorem xM(p:Pg)(c:Nat)(hc:p.cl=(c:Int))(h7:c<=7)(w:World):
  Calls prog 230 #[fD p] w fun e w'=>e=.returned (.bool (decide (p.lv=(celN9 c:Int))))/\Kt nO w w':=by
 have HC:=aA (fun W=>tI p c hc h7 W);have HB:=aA (show(w.alloc (aV p)).heap[w.heap.size]?=some (aV p)from nH _ _);have HK:=aA (show Kt nO w (w.alloc (aV p))from(Kt.refl _ _).alloc _);have E:=aA (show(p.lv == (celN9 c:Int))=decide (p.lv=(celN9 c:Int))by rw[Bool.eq_iff_iff];simp);generalize decide (p.lv=(celN9 c:Int))=dd at *;generalize celN9 c=q at *;clear hc;obtain⟨kd,od,cl,lv,nx,pv,fs,b0,b1,b2,b3⟩:=p;go_enter func230,ntmps230;go_wp2_with fail;generalize w.alloc (aV ⟨kd,od,cl,lv,nx,pv,fs,b0,b1,b2,b3⟩)=W1 at *;generalize w.heap.size=g at *;have e0:∀ x:KW W1,x.v.heap[g]?=some (aV ⟨kd,od,cl,lv,nx,pv,fs,b0,b1,b2,b3⟩):=fun x=>(x.k.block _ (lH HB.out) (fun y=>y)).trans HB.out
 have p0:∀ x:KW W1,x.v.cell? ⟨g,0,none⟩=some (.int .i64 kd):=fun x=>by simp[World.cell?,e0 x]
 have p1:∀ x:KW W1,x.v.cell? ⟨g,1,none⟩=some (.int .i64 od):=fun x=>by simp[World.cell?,e0 x]
 have p2:∀ x:KW W1,x.v.cell? ⟨g,2,none⟩=some (.int .i64 cl):=fun x=>by simp[World.cell?,e0 x]
 have p3:∀ x:KW W1,x.v.cell? ⟨g,3,none⟩=some (.int .i64 lv):=fun x=>by simp[World.cell?,e0 x]
 have p4:∀ x:KW W1,x.v.cell? ⟨g,4,none⟩=some (.int .i64 nx):=fun x=>by simp[World.cell?,e0 x]
 have p5:∀ x:KW W1,x.v.cell? ⟨g,5,none⟩=some (.int .i64 pv):=fun x=>by simp[World.cell?,e0 x]
 have p6:∀ x:KW W1,x.v.cell? ⟨g,6,none⟩=some (.int .i64 fs):=fun x=>by simp[World.cell?,e0 x]
 have p7:∀ x:KW W1,x.v.cell? ⟨g,7,none⟩=some (.int .u64 b0):=fun x=>by simp[World.cell?,e0 x]
 have p8:∀ x:KW W1,x.v.cell? ⟨g,8,none⟩=some (.int .u64 b1):=fun x=>by simp[World.cell?,e0 x]
 have p9:∀ x:KW W1,x.v.cell? ⟨g,9,none⟩=some (.int .u64 b2):=fun x=>by simp[World.cell?,e0 x]
 have p10:∀ x:KW W1,x.v.cell? ⟨g,10,none⟩=some (.int .u64 b3):=fun x=>by simp[World.cell?,e0 x]
 clear e0;refine dN (by kernel_rfl) (by kernel_rfl) ?_;repeat (go_big_quiet_step (first|(go_at_call 220;exact Calls.kept_of (HC.out _))))
 refine wpQuiet_nil ?_;intro x;go_wp2_with fail;go_ret;exact⟨cO E.out,nT HK.out x.k⟩
theorem pC(b:Nat)(I:Img)(V:ImV)(n:Nat)(w:World)(hI:ImAt w b I V)(hb:I.bS+n*4096<18446744073709551616):
  Calls prog 294 #[.pointer (some ⟨b,0,none⟩),.int .i64 n] w fun e w'=>e=.returned (.int .u64 ((I.bS+n*4096:Nat):Int))/\w'=w:=by
 obtain⟨c0,c1,c2,c3,c4,c5,c6,c7,c8⟩:=hI.cells;obtain⟨B,hB⟩:=xe (I.bS);rw[<-hB] at c0 hb ⊢;clear hB;go_enter func294,ntmps294;go_wp2
 go_ret;exact⟨eG (by first|omega|simp),rfl⟩
end Go.Proofs.YtkfmheelhinjdaaGreatDoor.W
