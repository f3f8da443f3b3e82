import Derived.Test.YtkfmheelhinjdaaGreatDoorXt
import Derived.Test.YtkfmheelhinjdaaGreatDoorXc
set_option maxRecDepth 1000000
set_option maxHeartbeats 80000000
namespace Go.Proofs.YtkfmheelhinjdaaGreatDoor.W
open _root_.Go.Proofs.Tryz
open Go.RowKit
set_option linter.unusedVariables false
abbrev fF(p:Pg):Value:=.agg #[.int .i64 p.kd,.int .i64 p.od,.int .i64 p.cl,.int .i64 p.lv,.int .i64 p.nx,.int .i64 p.pv,.int .i64 p.fs,.int .u64 p.b0,.int .u64 p.b1,.int .u64 p.b2,.int .u64 p.b3]
abbrev vG(bS:Nat)(lim ord:Int):Value:=.agg #[.int .u64 bS,.int .i64 lim,.int .i64 ord]
theorem fV{P:Program}{id:Nat}{Q:Exit->Act->World->Prop}{a:Act}{w:World}{l:List Oper}(hm:P.follows .mixedOrders=true)(hB:Region.lexB .any l.toArray=true)
  (hl:l≠[]) (h:wpQuiet P l.toArray (fun w'=>∃ x:KW w,w'=x.v) (fun a'=>Region.wanted (l.getLast hl) (yielded l.toArray a'.tmps)=true/\∀ w',(∃ x:KW w,w'=x.v)->fW P Q (l.getLast hl) a' w') l.dropLast a):(Code.region id l.toArray true).wp P Q a w:=
 CD (C:=fun w'=>∃ x:KW w,w'=x.v) hm hB hl ⟨⟨w.drew,(Kt.refl _ w).drew⟩,rfl⟩ h
theorem ZJ(bS:Nat)(lim ord:Int)(h:(wiB ord 0 8 && wiB lim 1 64)=false)(w:World):
  Calls prog 213 #[vG bS lim ord] w fun e w'=>e=.returned (.bool false)/\Kt nO w w':=by
 cases h1:wiB ord 0 8 with
 | false=>
  clear h;go_enter func213,ntmps213;go_wp2_with (go_at_call 214;refine(gL _ _ _ _).mono ?_;rintro e w' ⟨rfl,rfl⟩)
  go_ret;exact⟨rfl,(Kt.refl _ w).alloc _⟩
 | true=>
  rw[h1,Bool.true_and] at h;go_enter func213,ntmps213;go_wp2_with (go_at_call 214;refine(gL _ _ _ _).mono ?_;rintro e w' ⟨rfl,rfl⟩)
  go_ret;exact⟨rfl,(Kt.refl _ w).alloc _⟩
theorem XU(bS:Nat)(hb64:bS<18446744073709551616)(lim k:Nat)(hk:k<=8)(hl1 : 1<=lim)(hl2:lim<=64)(w:World):
  Calls prog 213 #[vG bS (lim:Int) (k:Int)] w fun e w'=>e=.returned (.bool (M.mayB bS lim k))/\Kt nO w w':=by
 obtain⟨P,hP⟩:=xe (2 ^ k);have hP8:=M.pow8 k hk;rw[<-hP] at hP8;obtain⟨lp,hlp⟩:=xe (lim*P);have hlp2:lp<=16384:=by
  rw[hlp];exact Nat.le_trans (Nat.mul_le_mul hl2 hP8.2) (by decide)
 have hw1:wrap64 ((lim:Int)*2 ^ k)=(lp:Int):=by
  have e:((2:Int) ^ k)=((2 ^ k:Nat):Int):=by simp
  have e2:(lim:Int)*((P:Nat):Int)=(lp:Int):=by rw[hlp];simp
  rw[e,<-hP,e2];unfold wrap64;omega
 have hB:M.Bounds (lim:Int) (k:Int):=by unfold M.Bounds;omega
 have hmay:M.mayB bS lim k=(decide (lp<=1024) && (decide (bS≠0) && decide (bS%M.RS k=0) && decide (bS+lim*M.RS k<=9223372036854775808))):=by
  unfold M.mayB;rw[decide_eq_true hB,Int.toNat_natCast,Int.toNat_natCast,<-hP,<-hlp,Bool.true_and]
 rw[hmay];clear hmay hB;obtain⟨R,hR⟩:=xe (M.RS k);have hR2:R=4096*P:=by rw[hR,M.RS,hP]
 obtain⟨lr,hlr⟩:=xe (lim*R);have hlr2:lr=4096*lp:=by rw[hlr,hR2,hlp,Nat.mul_left_comm]
 have hmul:(lim:Int)*(R:Int)=lr:=by rw[hlr];simp
 rw[<-hR,<-hlr];have hRv:IntKind.u64.wrap ((4096:Int)*2 ^ k)=(R:Int):=by
  have e:((2:Int) ^ k)=((2 ^ k:Nat):Int):=by simp
  rw[wrap_u64,e,<-hP];omega
 have hR0:¬(R:Int)=0:=by omega
 have hRl:R<=1048576:=by omega
 have hi1:wiB (k:Int) 0 8=true:=by unfold wiB;exact decide_eq_true (by omega)
 have hi2:wiB (lim:Int) 1 64=true:=by unfold wiB;exact decide_eq_true (by omega)
 by_cases h1:lp<=1024
 ·have h1':¬(1024:Int)<lp:=by omega
  have hd:decide (lp<=1024)=true:=decide_eq_true h1;rw[hd,Bool.true_and];clear hP hlp hR hd;by_cases h0:bS=0
  ·have hb0:((bS:Int) != 0)=false:=(by rw[h0];rfl);have H0:=aA h0;clear hR2 hlr hlr2 h0;go_enter func213,ntmps213;go_wp2_with (go_at_call 214;refine(gL _ _ _ _).mono ?_;rintro e w' ⟨rfl,rfl⟩)
   go_ret;exact⟨cP (by rw[H0.out];simp),(Kt.refl _ w).alloc _⟩
  ·have hb0:((bS:Int) != 0)=true:=(by rw[bne_iff_ne];omega);have hd0:decide (bS≠0)=true:=decide_eq_true h0;rw[hd0,Bool.true_and];by_cases h2:bS%R=0
   ·have hm:((bS:Int)%(R:Int) == 0)=true:=(by rw[beq_iff_eq];omega);have hd2:decide (bS%R=0)=true:=decide_eq_true h2;rw[hd2,Bool.true_and];clear hR2 hlr h2 hd2 hd0;go_enter func213,ntmps213;go_wp2_with (go_at_call 214;refine(gL _ _ _ _).mono ?_;rintro e w' ⟨rfl,rfl⟩)
    go_ret;exact⟨cP (by rw[decide_eq_decide];omega),(Kt.refl _ w).alloc _⟩
   ·have hm:((bS:Int)%(R:Int) == 0)=false:=(by rw[beq_eq_false_iff_ne];omega);have hd2:decide (bS%R=0)=false:=decide_eq_false h2;rw[hd2,Bool.false_and];clear hR2 hlr hlr2 h2 hd2 hd0;go_enter func213,ntmps213;go_wp2_with (go_at_call 214;refine(gL _ _ _ _).mono ?_;rintro e w' ⟨rfl,rfl⟩)
    go_ret;exact⟨rfl,(Kt.refl _ w).alloc _⟩
 ·have h1':(1024:Int)<lp:=by omega
  have hd:decide (lp<=1024)=false:=decide_eq_false h1;rw[hd,Bool.false_and];clear hP hlp hR hd hR2 hlr hlr2;go_enter func213,ntmps213;go_wp2_with (go_at_call 214;refine(gL _ _ _ _).mono ?_;rintro e w' ⟨rfl,rfl⟩)
  go_ret;exact⟨rfl,(Kt.refl _ w).alloc _⟩
theorem GI(bS:Nat)(hb64:bS<18446744073709551616)(lim ord:Int)(w:World):
  Calls prog 213 #[vG bS lim ord] w fun e w'=>e=.returned (.bool (M.mayB bS lim ord))/\Kt nO w w':=by
 by_cases h:M.Bounds lim ord
 ·have h':=h;unfold M.Bounds at h';obtain⟨l,rfl⟩:=Int.eq_ofNat_of_zero_le (by omega : 0<=lim);obtain⟨k,rfl⟩:=Int.eq_ofNat_of_zero_le h'.1;exact XU bS hb64 l k (by omega) (by omega) (by omega) w
 ·have e:M.mayB bS lim ord=false:=by unfold M.mayB;rw[decide_eq_false h,Bool.false_and,Bool.false_and]
  rw[e];refine ZJ bS lim ord ?_ w;unfold M.Bounds at h;unfold wiB;by_cases h1 : 0<=ord/\ord<=8
  ·rw[decide_eq_true h1,Bool.true_and];exact decide_eq_false (by omega)
  ·rw[decide_eq_false h1];rfl
theorem ZQ(b:Nat)(I:Img)(V:ImV)(w:World)(hI:ImAt w b I V):
  Calls prog 165 #[.pointer (some ⟨b,0,none⟩)] w fun e w'=>e=bB (if M.mayB I.bS I.lim I.ord=true then none else some 0)/\Kt nO w w':=by
 obtain⟨c0,c1,c2,c3,c4,c5,c6,c7,c8⟩:=hI.cells;have HM:=aA (fun W=>GI I.bS hI.d.b64 I.lim I.ord W)
 cases hm:M.mayB I.bS I.lim I.ord with
 | true=>
  rw[hm] at HM;go_enter func165,ntmps165;go_wp2_with fail;refine(HM.out _).mono ?_;rintro e w1 ⟨rfl,hk⟩;have K1:=aA hk;clear hk c0 c1 c2 c3 c4 c5 c6 c7 c8;go_wp2_with fail;refine(cJ _ _).mono ?_;rintro e w2 ⟨rfl,rfl⟩;go_wp2_with fail;first|go_end0|go_ret
  exact⟨by simp[bB],K1.out⟩
 | false=>
  rw[hm] at HM;go_enter func165,ntmps165;go_wp2_with fail;refine(HM.out _).mono ?_;rintro e w1 ⟨rfl,hk⟩;have K1:=aA hk;clear hk c0 c1 c2 c3 c4 c5 c6 c7 c8;go_wp2_with fail;refine(dC _ _).mono ?_;rintro e w2 ⟨rfl,rfl⟩;exact⟨rfl,by simp[bB],K1.out⟩
theorem AR(b:Nat)(I:Img)(V:ImV)(j:Nat)(w:World)(hI:ImAt w b I V)(hj:j<=8)(hnp:I.np<=9223372036854775807):
  Calls prog 215 #[.pointer (some ⟨b,0,none⟩),.int .i64 j] w fun e w'=>e=.returned (.int .i64 ((I.np/2 ^ (j+1):Nat):Int))/\w'=w:=by
 obtain⟨c0,c1,c2,c3,c4,c5,c6,c7,c8⟩:=hI.cells;obtain⟨h1,oa,oc,hv,h3⟩:=hI.d.pgs;rw[hv] at c5;have E:=aA (show((I.np:Int)/2 ^ (j+1))=((I.np/2 ^ (j+1):Nat):Int)by simp);obtain⟨n,hn⟩:=xe (I.np);rw[<-hn] at c5 E hnp ⊢;obtain⟨s,hs⟩:=xe (j+1);rw[<-hs] at E ⊢;have hs1:(j:Int)+1=(s:Int):=by omega
 have hs2:s<=9:=by omega
 generalize n/2 ^ s=r at *;have E':=E.out;clear hv hn h3 hs;go_enter func215,ntmps215;go_wp2
 go_ret;exact⟨by first|rfl|simp_all,rfl⟩
theorem rD(k o:Int)(w:World):
  Calls prog 216 #[.int .i64 k,.int .i64 o] w fun e w'=>e=.returned (fF (aN k o))/\Kt nO w w':=by
 go_enter func216,ntmps216;go_wp2
 exact⟨rfl,_,by simp[results,results216,go_sem,aN],rfl,(Kt.refl _ w).alloc _⟩
def celN9(c:Nat):Nat:=256/2 ^ c
theorem kZ(c:Nat)(h:c<=7) : 1<=2 ^ c/\2 ^ c<=128:=⟨Nat.two_pow_pos c,Nat.pow_le_pow_right (n:=2) (by decide) h⟩
theorem mI(c:Nat)(h:c<=7) : 2<=celN9 c/\celN9 c<=256:=by
 unfold celN9;match c,h with
 | 0,_=>decide
 | 1,_=>decide
 | 2,_=>decide
 | 3,_=>decide
 | 4,_=>decide
 | 5,_=>decide
 | 6,_=>decide
 | 7,_=>decide
theorem tR(p:Pg)(c:Nat)(hc:p.cl=(c:Int))(h7:c<=7)(w:World):
  Calls prog 220 #[fF p] w fun e w'=>e=.returned (.int .i64 (celN9 c:Int))/\Kt nO w w':=by
 have E:(256:Int)/2 ^ c=(celN9 c:Int):=by unfold celN9;simp
 have hb:=mI c h7;obtain⟨kd,od,cl,lv,nx,pv,fs,b0,b1,b2,b3⟩:=p;dsimp only at hc;subst hc;generalize celN9 c=q at *;go_enter func220,ntmps220;go_wp2
 go_ret;exact⟨by first|rfl|simp_all,(Kt.refl _ w).alloc _⟩
theorem ZH(p:Pg)(c:Nat)(hc:p.cl=(c:Int))(h7:c<=7)(w:World):
  Calls prog 295 #[fF p] w fun e w'=>e=.returned (.int .u64 ((16*2 ^ c:Nat):Int))/\Kt nO w w':=by
 have hp:=kZ c h7;have E:IntKind.u64.wrap ((16:Int)*2 ^ c)=((16*2 ^ c:Nat):Int):=by
  have e:((2:Int) ^ c)=((2 ^ c:Nat):Int):=by simp
  rw[wrap_u64,e];generalize 2 ^ c=P at *;omega
 obtain⟨kd,od,cl,lv,nx,pv,fs,b0,b1,b2,b3⟩:=p;dsimp only at hc;subst hc;generalize 16*2 ^ c=q at *;go_enter func295,ntmps295;go_wp2
 go_ret;exact⟨by first|rfl|simp_all,(Kt.refl _ w).alloc _⟩
def isF(p:Pg)(o:Int):Bool:=decide (p.kd=0) && decide (p.od=o)
theorem pE(p:Pg)(o:Int)(w:World):
  Calls prog 221 #[fF p,.int .i64 o] w fun e w'=>e=.returned (.bool (isF p o))/\Kt nO w w':=by
 obtain⟨kd,od,cl,lv,nx,pv,fs,b0,b1,b2,b3⟩:=p;by_cases h:kd=0
 ·subst h;have E:=aA (show(od == o)=isF ⟨0,od,cl,lv,nx,pv,fs,b0,b1,b2,b3⟩ o by rw[Bool.eq_iff_iff];simp[isF]);go_enter func221,ntmps221;go_wp2
  go_ret;exact⟨cP E.out,(Kt.refl _ w).alloc _⟩
 ·have E:=aA (show false=isF ⟨kd,od,cl,lv,nx,pv,fs,b0,b1,b2,b3⟩ o by simp[isF,h]);have h':(kd == 0)=false:=by rw[beq_eq_false_iff_ne];exact h
  go_enter func221,ntmps221;go_wp2
  go_ret;exact⟨cP E.out,(Kt.refl _ w).alloc _⟩
theorem yC(p:Pg)(c:Nat)(hc:p.cl=(c:Int))(h7:c<=7)(w:World):
  Calls prog 230 #[fF p] w fun e w'=>e=.returned (.bool (decide (p.lv=(celN9 c:Int))))/\Kt nO w w':=by
 have HC:=aA (fun W=>tR p c hc h7 W);have HB:=aA (show(w.alloc (aV p)).heap[w.heap.size]?=some (aV p)from nH _ _);have HK:=aA (show Kt nO w (w.alloc (aV p))from(Kt.refl _ _).alloc _);have E:=aA (show(p.lv == (celN9 c:Int))=decide (p.lv=(celN9 c:Int))by rw[Bool.eq_iff_iff];simp);generalize decide (p.lv=(celN9 c:Int))=dd at *;generalize celN9 c=q at *;clear hc;obtain⟨kd,od,cl,lv,nx,pv,fs,b0,b1,b2,b3⟩:=p;go_enter func230,ntmps230;go_wp2_with fail;generalize w.alloc (aV ⟨kd,od,cl,lv,nx,pv,fs,b0,b1,b2,b3⟩)=W1 at *;generalize w.heap.size=g at *;have e0:∀ x:KW W1,x.v.heap[g]?=some (aV ⟨kd,od,cl,lv,nx,pv,fs,b0,b1,b2,b3⟩):=fun x=>(x.k.block _ (lH HB.out) (fun y=>y)).trans HB.out
 have p0:∀ x:KW W1,x.v.cell? ⟨g,0,none⟩=some (.int .i64 kd):=fun x=>by simp[World.cell?,e0 x]
 have p1:∀ x:KW W1,x.v.cell? ⟨g,1,none⟩=some (.int .i64 od):=fun x=>by simp[World.cell?,e0 x]
 have p2:∀ x:KW W1,x.v.cell? ⟨g,2,none⟩=some (.int .i64 cl):=fun x=>by simp[World.cell?,e0 x]
 have p3:∀ x:KW W1,x.v.cell? ⟨g,3,none⟩=some (.int .i64 lv):=fun x=>by simp[World.cell?,e0 x]
 have p4:∀ x:KW W1,x.v.cell? ⟨g,4,none⟩=some (.int .i64 nx):=fun x=>by simp[World.cell?,e0 x]
 have p5:∀ x:KW W1,x.v.cell? ⟨g,5,none⟩=some (.int .i64 pv):=fun x=>by simp[World.cell?,e0 x]
 have p6:∀ x:KW W1,x.v.cell? ⟨g,6,none⟩=some (.int .i64 fs):=fun x=>by simp[World.cell?,e0 x]
 have p7:∀ x:KW W1,x.v.cell? ⟨g,7,none⟩=some (.int .u64 b0):=fun x=>by simp[World.cell?,e0 x]
 have p8:∀ x:KW W1,x.v.cell? ⟨g,8,none⟩=some (.int .u64 b1):=fun x=>by simp[World.cell?,e0 x]
 have p9:∀ x:KW W1,x.v.cell? ⟨g,9,none⟩=some (.int .u64 b2):=fun x=>by simp[World.cell?,e0 x]
 have p10:∀ x:KW W1,x.v.cell? ⟨g,10,none⟩=some (.int .u64 b3):=fun x=>by simp[World.cell?,e0 x]
 clear e0;refine dM (by kernel_rfl) (by kernel_rfl) ?_;repeat (go_big_quiet_step (first|(go_at_call 220;exact Calls.kept_of (HC.out _))))
 refine wpQuiet_nil ?_;intro x;go_wp2_with fail;go_ret;exact⟨cP E.out,nT HK.out x.k⟩
theorem pP(b:Nat)(I:Img)(V:ImV)(n:Nat)(w:World)(hI:ImAt w b I V)(hb:I.bS+n*4096<18446744073709551616):
  Calls prog 294 #[.pointer (some ⟨b,0,none⟩),.int .i64 n] w fun e w'=>e=.returned (.int .u64 ((I.bS+n*4096:Nat):Int))/\w'=w:=by
 obtain⟨c0,c1,c2,c3,c4,c5,c6,c7,c8⟩:=hI.cells;obtain⟨B,hB⟩:=xe (I.bS);rw[<-hB] at c0 hb ⊢;clear hB;go_enter func294,ntmps294;go_wp2
 go_ret;exact⟨eH (by first|omega|simp),rfl⟩
def gP(np j:Nat):Nat:=(np/2 ^ (j+1)+63)/64
def r2(I:Img)(k:Nat):Option Nat:=
 if wiB I.reg 0 I.lim=false then some 0
 else if I.nm≠I.reg.toNat*2 ^ k*4096 then some 1
 else if I.np≠I.reg.toNat*2 ^ k then some 2
 else if I.no≠k then some 3
 else if fst1 I.no (fun j=>decide ((I.pr j).length=gP I.np j))≠none then some 3
 else if I.hd.length≠k+1 then some 4
 else if I.pt.length≠8 then some 5
 else none
structure LnI(w W:World)(b g:Nat)(I:Img)(V:ImV):Prop where
 im:ImAt W b I V
 cf:W.heap[g]?=some (.cells #[.int .u64 I.bS,.int .i64 I.lim,.int .i64 I.ord] 29 (0,0))
 k:Kt nO w W
theorem LnI.keep{w W W':World}{b g:Nat}{I:Img}{V:ImV}(h:LnI w W b g I V)(hk:Kt nO W W'):LnI w W' b g I V:=
 ⟨h.im.keep hk,(hk.block _ (lH h.cf) (fun x=>x)).trans h.cf,nT h.k hk⟩
theorem LnI.all{w W:World}{b g:Nat}{I:Img}{V:ImV}(h:LnI w W b g I V):(∀ x:KW W,x.v.cell? ⟨g,1,none⟩=some (.int .i64 I.lim))/\(∀ x:KW W,x.v.cell? ⟨g,2,none⟩=some (.int .i64 I.ord)):=
 ⟨fun x=>by simp[World.cell?,(h.keep x.k).cf],fun x=>by simp[World.cell?,(h.keep x.k).cf]⟩
theorem ImD.sl{w:World}{I:Img}{V:ImV}(h:ImD w I V):(∃ a c,V.m=.slice a I.nm c)/\(∃ a c,V.p=.slice a I.np c)/\(∃ a c,V.r=.slice a I.no c)/\(∃ a c,V.h=.slice a I.hd.length c)/\(∃ a c,V.t=.slice a I.pt.length c)/\I.nm<=9223372036854775807/\I.np<=9223372036854775807/\I.no<=9223372036854775807/\I.pt.length<=9223372036854775807:=by
 obtain⟨m1,ma,mc,m2,_⟩:=h.mem;obtain⟨p1,pa,pc,p2,_⟩:=h.pgs;obtain⟨ws,r1,ra,rc,r2,_⟩:=h.prs;obtain⟨_,ha,hc,h2,_⟩:=h.hds;obtain⟨t1,ta,tc,t2,_⟩:=h.pts;exact⟨⟨ma,mc,m2⟩,⟨pa,pc,p2⟩,⟨ra,rc,r2⟩,⟨ha,hc,h2⟩,⟨ta,tc,t2⟩,m1,p1,r1,t1⟩
theorem zdE(b:Nat)(I:Img)(V:ImV)(k L:Nat)(hk:k<=8)(hL:L<=64)(hko:I.ord=(k:Int))(hlo:I.lim=(L:Int))(hhd:I.hd.length<=9223372036854775807)(w:World)(hI:ImAt w b I V):
  Calls prog 166 #[.pointer (some ⟨b,0,none⟩)] w fun e w'=>e=bB (r2 I k)/\Kt nO w w':=by
 obtain⟨⟨ma,mc,hm⟩,⟨pa,pc,hp⟩,⟨ra,rc,hr⟩,⟨ha,hc,hh⟩,⟨ta,tc,ht⟩,bm,bp,br,bt⟩:=hI.d.sl;obtain⟨c0,c1,c2,c3,c4,c5,c6,c7,c8⟩:=hI.cells;have hrg:=hI.d.reg;have HPO:=aA (fun (j:Nat) (hj:j<=8) (W:World) (hW:ImAt W b I V)=>AR b I V j W hW hj bp);have L0:=aA (show LnI w (w.alloc (.cells #[.int .u64 I.bS,.int .i64 I.lim,.int .i64 I.ord] 29 (0,0))) b w.heap.size I V from⟨hI.keep ((Kt.refl _ w).alloc _),nH _ _,(Kt.refl _ w).alloc _⟩);obtain⟨EE,hEE⟩:=xe (bB (r2 I k));rw[<-hEE];have HE:=aA hEE;have HI:=aA hI;have HKO:=aA hko;have HLO:=aA hlo;clear hEE hI hko hlo;have SL:=aA (show V.m=.slice ma I.nm mc/\V.p=.slice pa I.np pc/\V.r=.slice ra I.no rc/\V.h=.slice ha I.hd.length hc/\V.t=.slice ta I.pt.length tc from⟨hm,hp,hr,hh,ht⟩);clear hm hp hr hh ht;go_enter func166,ntmps166;go_wp2_with fail;generalize w.alloc (.cells #[.int .u64 I.bS,.int .i64 I.lim,.int .i64 I.ord] 29 (0,0))=W0 at *;generalize w.heap.size=g at *;clear c0 c1 c2 c3 c4 c5 c6 c7 c8;obtain⟨c0,c1,c2,c3,c4,c5,c6,c7,c8⟩:=L0.out.im.all;obtain⟨q1,q2⟩:=L0.out.all;rw[SL.out.1] at c4;rw[SL.out.2.1] at c5;rw[SL.out.2.2.1] at c6;rw[SL.out.2.2.2.1] at c7;rw[SL.out.2.2.2.2] at c8;rw[HKO.out] at c2 q2;rw[HLO.out] at c1 q1;have HWI:=aA (fun W=>gL I.reg 0 (L:Int) W);have hw0:wiB I.reg 0 I.lim=wiB I.reg 0 (L:Int):=by rw[HLO.out]
 cases hb0:wiB I.reg 0 (L:Int)with
 | false=>
  rw[hb0] at HWI hw0;refine fV (by kernel_rfl) (by kernel_rfl) (by exact List.cons_ne_nil _ _) ?_;dsimp only[List.dropLast,List.getLast];repeat (go_big_quiet_step (first|(go_at_call 214;exact Calls.kept_of ((HWI.out _).mono fun _ _ ⟨h1,h2⟩=>⟨h1,h2▸Kt.refl _ _⟩))))
  refine wpQuiet_nil ?_;refine⟨rfl,?_⟩;rintro _ ⟨x,rfl⟩;exact fU (p:=0) rfl rfl rfl fun _ hd=>⟨hd,by rw[HE.out,r2,hw0,if_pos rfl];rfl,nT L0.out.k x.k⟩
 | true=>
  rw[hb0] at HWI hw0;have HMY:=aA (fun W=>cJ 0 W);refine dM (by kernel_rfl) (by kernel_rfl) ?_;repeat (go_big_quiet_step (first|(go_at_call 214;exact Calls.kept_of ((HWI.out _).mono fun _ _ ⟨h1,h2⟩=>⟨h1,h2▸Kt.refl _ _⟩))|(go_at_call 212;exact Calls.kept_of ((HMY.out _).mono fun _ _ ⟨h1,h2⟩=>⟨h1,h2▸Kt.refl _ _⟩))))
  refine wpQuiet_nil ?_;intro x;have L1:=aA (L0.out.keep x.k);have hreg : 0<=I.reg/\I.reg<=(L:Int):=by unfold wiB at hb0;exact of_decide_eq_true hb0
  obtain⟨r,hr⟩:=Int.eq_ofNat_of_zero_le hreg.1;have HR:=aA hr;have hrl:r<=64:=by omega
  have hP:=M.pow8 k hk;obtain⟨n,hn⟩:=xe (r*2 ^ k);have hn1:n<=16384:=by
   rw[hn];exact Nat.le_trans (Nat.mul_le_mul hrl hP.2) (by decide)
  have hsh:wrap64 ((r:Int)*2 ^ k)=(n:Int):=by
   have e:((2:Int) ^ k)=((2 ^ k:Nat):Int):=(by simp);have e2:(r:Int)*((2 ^ k:Nat):Int)=(n:Int):=(by rw[hn];simp);rw[e,e2];unfold wrap64;omega
  have HN:=aA (show I.reg.toNat*2 ^ k=n by rw[hr,Int.toNat_natCast,hn]);have HR2:=aA (show r2 I k=(if I.nm≠n*4096 then some 1 else if I.np≠n then some 2 else if I.no≠k then some 3 else if fst1 I.no (fun j=>decide ((I.pr j).length=gP I.np j))≠none then some 3 else if I.hd.length≠k+1 then some 4 else if I.pt.length≠8 then some 5 else none)by unfold r2;rw[if_neg (by rw[hw0];simp),HN.out]);clear c0 c1 c2 c3 c4 c5 c6 c7 c8 q1 q2 HWI HMY hb0 hw0 hreg hrg hr hn hP;go_wp2_with fail;generalize x.v=W1 at *;obtain⟨c0,c1,c2,c3,c4,c5,c6,c7,c8⟩:=L1.out.im.all;obtain⟨q1,q2⟩:=L1.out.all;rw[SL.out.1] at c4;rw[SL.out.2.1] at c5;rw[SL.out.2.2.1] at c6;rw[SL.out.2.2.2.1] at c7;rw[SL.out.2.2.2.2] at c8;rw[HKO.out] at c2 q2;rw[HLO.out] at c1 q1;rw[HR.out] at c3;refine dM (by kernel_rfl) (by kernel_rfl) ?_;repeat (go_big_quiet_step (fail))
  refine wpQuiet_nil ?_;intro y;have L2:=aA (L1.out.keep y.k);clear c0 c1 c2 c3 c4 c5 c6 c7 c8 q1 q2;generalize y.v=W2 at *;obtain⟨c0,c1,c2,c3,c4,c5,c6,c7,c8⟩:=L2.out.im.cells;rw[SL.out.1] at c4;rw[SL.out.2.1] at c5;rw[SL.out.2.2.1] at c6;rw[SL.out.2.2.2.1] at c7;rw[SL.out.2.2.2.2] at c8;by_cases e1:I.nm=n*4096
  case neg=>
   have f1:((I.nm:Int) == (n:Int)*4096)=false:=(by rw[beq_eq_false_iff_ne];omega);have E1:=aA e1;clear e1;go_wp2_with fail;refine(dC _ _).mono ?_;rintro e w2 ⟨rfl,rfl⟩;exact⟨rfl,by rw[HE.out,HR2.out,if_pos E1.out];rfl,L2.out.k⟩
  have f1:((I.nm:Int) == (n:Int)*4096)=true:=by rw[beq_iff_eq];omega
  have E1:=aA e1;clear e1;go_wp2_with fail;refine(cJ _ _).mono ?_;rintro e w2 ⟨rfl,rfl⟩;clear f1;by_cases e2:I.np=n
  case neg=>
   have f2:((I.np:Int) == (n:Int))=false:=(by rw[beq_eq_false_iff_ne];omega);have E2:=aA e2;clear e2;go_wp2_with fail;refine(dC _ _).mono ?_;rintro e w2 ⟨rfl,rfl⟩;exact⟨rfl,by rw[HE.out,HR2.out,if_neg (not_not_intro E1.out),if_pos E2.out];rfl,L2.out.k⟩
  have f2:((I.np:Int) == (n:Int))=true:=by rw[beq_iff_eq];omega
  have E2:=aA e2;clear e2;go_wp2_with fail;refine(cJ _ _).mono ?_;rintro e w2 ⟨rfl,rfl⟩;clear f2;go_wp2_with fail;clear c0 c1 c2 c3 c4 c5 c6 c7 c8;obtain⟨c0,c1,c2,c3,c4,c5,c6,c7,c8⟩:=L2.out.im.all;obtain⟨q1,q2⟩:=L2.out.all;rw[SL.out.1] at c4;rw[SL.out.2.1] at c5;rw[SL.out.2.2.1] at c6;rw[SL.out.2.2.2.1] at c7;rw[SL.out.2.2.2.2] at c8;rw[HKO.out] at c2 q2;rw[HLO.out] at c1 q1;by_cases e3:I.no=k
  case neg=>
   have f3:((I.no:Int) == (k:Int))=false:=(by rw[beq_eq_false_iff_ne];omega);have E3:=aA e3;clear e3;refine fV (by kernel_rfl) (by kernel_rfl) (by exact List.cons_ne_nil _ _) ?_;dsimp only[List.dropLast,List.getLast];repeat (go_big_quiet_step (fail))
   refine wpQuiet_nil ?_;refine⟨rfl,?_⟩;rintro _ ⟨x,rfl⟩;exact fU (p:=3) rfl rfl rfl fun _ hd=>⟨hd,by rw[HE.out,HR2.out,if_neg (not_not_intro E1.out),if_neg (not_not_intro E2.out),if_pos E3.out];rfl,nT L2.out.k x.k⟩
  have f3:((I.no:Int) == (k:Int))=true:=by rw[beq_iff_eq];omega
  have E3:=aA e3;clear e3;have HMY:=aA (fun W=>cJ 3 W);refine dM (by kernel_rfl) (by kernel_rfl) ?_;repeat (go_big_quiet_step (first|(go_at_call 212;exact Calls.kept_of ((HMY.out _).mono fun _ _ ⟨h1,h2⟩=>⟨h1,h2▸Kt.refl _ _⟩))))
  refine wpQuiet_nil ?_;intro x;have L3:=aA (L2.out.keep x.k);clear c0 c1 c2 c3 c4 c5 c6 c7 c8 q1 q2 HMY f3;generalize x.v=W3 at *;obtain⟨c0,c1,c2,c3,c4,c5,c6,c7,c8⟩:=L3.out.im.cells;rw[SL.out.1] at c4;rw[SL.out.2.1] at c5;rw[SL.out.2.2.1] at c6;rw[SL.out.2.2.2.1] at c7;rw[SL.out.2.2.2.2] at c8;go_wp2_with fail;clear c0 c1 c2 c3 c4 c5 c6 c7 c8;go_loopw [56] (fun i W=>∃ a:Nat,a<=I.no/\i=.int .i64 a/\Hid (LnI w W b g I V/\∀ x,x<a->decide ((I.pr x).length=gP I.np x)=true)) (fun i _=>I.no-(intOf i).toNat)
  case atStart=>exact⟨0,Nat.zero_le _,rfl,aA ⟨L3.out,fun x hx=>by omega⟩⟩
  case round=>
   clear L3;obtain⟨a,ha',rfl,hR⟩:=hrel;by_cases hlt:a<I.no
   ·have hai:(a:Int)<I.no:=(by omega);obtain⟨ws,_,ra',rc',hrv,hr3⟩:=hR.out.1.im.d.prs;rw[SL.out.2.2.1] at hrv;injection hrv with e1 e2 e3
    subst e1;rcases hr3 with hr3|⟨bl,o,rfl,_,hcc⟩
    ·omega
    obtain⟨d0,hz,za,zc,hzv,_⟩:=hcc a hlt;rw[hzv] at d0;have ha8:a<=8:=(by have:=E3.out;omega);have HP:=aA (HPO.out a ha8 wr hR.out.1.im);obtain⟨pn,hpn⟩:=xe (I.np/2 ^ (a+1));rw[<-hpn] at HP;have hpnl:pn<=16384:=(by rw[hpn,E2.out];exact Nat.le_trans (Nat.div_le_self _ _) hn1);have hq:((pn:Int)+64-1)/64=((gP I.np a:Nat):Int):=(by unfold gP;rw[<-hpn];omega);obtain⟨q,hqq⟩:=xe (gP I.np a);rw[<-hqq] at hq;have hql:q<=300:=(by rw[hqq];unfold gP;rw[<-hpn];omega);obtain⟨zl,hzl⟩:=xe ((I.pr a).length);rw[<-hzl] at d0;have HZ:=aA (show zl=(I.pr a).length/\q=gP I.np a from⟨hzl,hqq⟩);clear hcc hz hzv hqq hpn hzl e2 e3;by_cases e4:zl=q
    case neg=>
     have f4:((zl:Int) == (q:Int))=false:=(by rw[beq_eq_false_iff_ne];omega);have E4:=aA (show fst1 I.no (fun j=>decide ((I.pr j).length=gP I.np j))=some a from kE hlt hR.out.2 (by rw[<-HZ.out.1,<-HZ.out.2];exact decide_eq_false e4));clear e4;go_wp2_with fail;refine HP.out.mono ?_;rintro e w2 ⟨rfl,rfl⟩;go_wp2_with fail;refine(dC _ _).mono ?_;rintro e w2 ⟨rfl,rfl⟩;exact⟨rfl,by rw[HE.out,HR2.out,if_neg (not_not_intro E1.out),if_neg (not_not_intro E2.out),if_neg (not_not_intro E3.out),if_pos (by rw[E4.out];exact Option.some_ne_none _)];rfl,hR.out.1.k⟩
    have f4:((zl:Int) == (q:Int))=true:=(by rw[beq_iff_eq];omega);have R2:=aA (show LnI w wr b g I V/\∀ x,x<a+1->decide ((I.pr x).length=gP I.np x)=true from⟨hR.out.1,fun x hx=>by
     by_cases e:x=a
     ·rw[e,<-HZ.out.1,<-HZ.out.2];exact decide_eq_true e4
     ·exact hR.out.2 x (by omega)⟩)
    clear e4;go_wp2_with fail;refine HP.out.mono ?_;rintro e w2 ⟨rfl,rfl⟩;go_wp2_with fail;refine(cJ _ _).mono ?_;rintro e w2 ⟨rfl,rfl⟩;go_wp2_with fail;go_round
    case rel=>exact⟨a+1,by omega,by go_num,R2⟩
    case measure=>simp[intOf];omega
   ·have hae:a=I.no:=(by omega);have hai:¬(a:Int)<I.no:=(by omega);have E4:=aA (show fst1 I.no (fun j=>decide ((I.pr j).length=gP I.np j))=none from fst1_ok (fun x hx=>hR.out.2 x (by omega)));have L4:=aA hR.out.1;clear hae;go_wp2_with fail;generalize wr=W4 at *;obtain⟨c0,c1,c2,c3,c4,c5,c6,c7,c8⟩:=L4.out.im.all;obtain⟨q1,q2⟩:=L4.out.all;rw[SL.out.1] at c4;rw[SL.out.2.1] at c5;rw[SL.out.2.2.1] at c6;rw[SL.out.2.2.2.1] at c7;rw[SL.out.2.2.2.2] at c8;rw[HKO.out] at c2 q2;rw[HLO.out] at c1 q1;by_cases e5:I.hd.length=k+1
    case neg=>
     have f5:((I.hd.length:Int) == (k:Int)+1)=false:=(by rw[beq_eq_false_iff_ne];omega);have E5:=aA e5;clear e5;refine fV (by kernel_rfl) (by kernel_rfl) (by exact List.cons_ne_nil _ _) ?_;dsimp only[List.dropLast,List.getLast];repeat (go_big_quiet_step (fail))
     refine wpQuiet_nil ?_;refine⟨rfl,?_⟩;rintro _ ⟨x,rfl⟩;exact fU (p:=4) rfl rfl rfl fun _ hd=>⟨hd,by rw[HE.out,HR2.out,if_neg (not_not_intro E1.out),if_neg (not_not_intro E2.out),if_neg (not_not_intro E3.out),if_neg (not_not_intro E4.out),if_pos E5.out];rfl,nT L4.out.k x.k⟩
    have f5:((I.hd.length:Int) == (k:Int)+1)=true:=(by rw[beq_iff_eq];omega);have E5:=aA e5;clear e5;have HMY:=aA (fun W=>cJ 4 W);refine dM (by kernel_rfl) (by kernel_rfl) ?_;repeat (go_big_quiet_step (first|(go_at_call 212;exact Calls.kept_of ((HMY.out _).mono fun _ _ ⟨h1,h2⟩=>⟨h1,h2▸Kt.refl _ _⟩))))
    refine wpQuiet_nil ?_;intro x;have L5:=aA (L4.out.keep x.k);clear c0 c1 c2 c3 c4 c5 c6 c7 c8 q1 q2 HMY f5;generalize x.v=W5 at *;obtain⟨c0,c1,c2,c3,c4,c5,c6,c7,c8⟩:=L5.out.im.cells;rw[SL.out.1] at c4;rw[SL.out.2.1] at c5;rw[SL.out.2.2.1] at c6;rw[SL.out.2.2.2.1] at c7;rw[SL.out.2.2.2.2] at c8;by_cases e6:I.pt.length=8
    case neg=>
     have f6:((I.pt.length:Int) == 8)=false:=(by rw[beq_eq_false_iff_ne];omega);have E6:=aA e6;clear e6;go_wp2_with fail;refine(dC _ _).mono ?_;rintro e w2 ⟨rfl,rfl⟩;exact⟨rfl,by rw[HE.out,HR2.out,if_neg (not_not_intro E1.out),if_neg (not_not_intro E2.out),if_neg (not_not_intro E3.out),if_neg (not_not_intro E4.out),if_neg (not_not_intro E5.out),if_pos E6.out];rfl,L5.out.k⟩
    have f6:((I.pt.length:Int) == 8)=true:=(by rw[beq_iff_eq];omega);have E6:=aA e6;clear e6;go_wp2_with fail;refine(cJ _ _).mono ?_;rintro e w2 ⟨rfl,rfl⟩;clear f6;go_wp2_with fail;first|go_end0|go_ret
    exact⟨by rw[HE.out,HR2.out,if_neg (not_not_intro E1.out),if_neg (not_not_intro E2.out),if_neg (not_not_intro E3.out),if_neg (not_not_intro E4.out),if_neg (not_not_intro E5.out),if_neg (not_not_intro E6.out)];rfl,L5.out.k⟩
theorem DK(a0 a1 a2 a3 b0 b1 b2 b3:Int)(w:World):
  (Op.equalIn 9999 97 (.agg #[.int .u64 a0,.int .u64 a1,.int .u64 a2,.int .u64 a3]) (.agg #[.int .u64 b0,.int .u64 b1,.int .u64 b2,.int .u64 b3])).run prog w=.ok (a0 == b0 && (a1 == b1 && (a2 == b2 && a3 == b3))) w:=by
 have u3:=Tryz.underlying27;have s3:=Tryz.isAgg27;have z3:=Tryz.sizeOf27;rw[show(9999:Nat)=9998+1 from rfl,Op.equalIn];simp only[Sem.run_bind,run_underlying Tryz.underlying97,Result.andThen_ok];simp only[Std.Legacy.Range.forIn_eq_forIn_range',Std.Legacy.Range.size,Nat.sub_zero,Nat.add_sub_cancel,Nat.div_one,List.range'_succ,List.range'_zero,List.forIn_cons,List.forIn_nil];go_simp
 by_cases h1:a0=b0 <;> by_cases h2:a1=b1 <;> by_cases h3:a2=b2 <;> by_cases h4:a3=b3 <;> simp[h1,h2,h3,h4]
def pgE(p q:Pg):Bool:=decide (p=q)
theorem qU(p q:Pg)(w:World):(binOp .eql 99 (fF p) (fF q)).run prog w=.ok (.bool (pgE p q)) w:=by
 have AE:=DK;obtain⟨kd,od,cl,lv,nx,pv,fs,b0,b1,b2,b3⟩:=p;obtain⟨kd',od',cl',lv',nx',pv',fs',b0',b1',b2',b3'⟩:=q;have u3:=Tryz.underlying3;have s3:=Tryz.isAgg3;have z3:=Tryz.sizeOf3;rw[run_eql_struct];go_simp
 unfold pgE;repeat' split
 all_goals
  refine congrArg (fun b=>Result.ok (Value.bool b) w) ?_;symm;first
   | (rw[decide_eq_true_iff,Pg.mk.injEq];omega)
   | (rw[decide_eq_false_iff_not,Pg.mk.injEq];omega)
structure Sn9(I:Img)(k r:Nat):Prop where
 k8:k<=8
 ord:I.ord=(k:Int)
 np:I.np=r*2 ^ k
 np1:I.np<=1024
 nm:I.nm=I.np*4096
 no:I.no=k
 pl:∀ j,j<k->(I.pr j).length=gP I.np j
 hl:I.hd.length=k+1
 tl:I.pt.length=8
 b0:I.bS≠0
 bm:I.bS%M.RS k=0
 be:I.bS+I.nm<=9223372036854775808
 rg:∀ i,i<I.np->rngB (k:Int) I.np (I.pg i)=true
theorem Sn9.pg{I:Img}{k r:Nat}(h:Sn9 I k r)(i:Nat)(hi:i<I.np):∃ kd o c l:Nat,(I.pg i).kd=(kd:Int)/\kd<=4/\(I.pg i).od=(o:Int)/\o<=k/\(I.pg i).cl=(c:Int)/\c<=7/\(I.pg i).lv=(l:Int)/\l<=256/\(-1<=(I.pg i).nx/\(I.pg i).nx<I.np)/\(-1<=(I.pg i).pv/\(I.pg i).pv<I.np) /\ -1<=(I.pg i).fs/\(I.pg i).fs<=255:=by
 have:=h.rg i hi;simp only[rngB,wiB,Bool.and_eq_true,decide_eq_true_eq] at this;obtain⟨⟨h1,h2⟩,⟨h3,h4⟩,⟨h5,h6⟩,⟨h7,h8⟩,⟨h9,h10⟩,⟨h11,h12⟩,h13,h14⟩:=this;refine⟨(I.pg i).kd.toNat,(I.pg i).od.toNat,(I.pg i).cl.toNat,(I.pg i).lv.toNat,?_,?_,?_,?_,?_,?_,?_,?_,?_,?_,?_,?_⟩ <;> omega
theorem Sn9.dvd{I:Img}{k r:Nat}(h:Sn9 I k r)(o:Nat)(ho:o<=k) : 2 ^ o ∣ I.np:=by
 rw[h.np];exact Nat.dvd_trans (Nat.pow_dvd_pow 2 ho) (Nat.dvd_mul_left _ _)
theorem mul_fits{m a n:Nat}(hm:m ∣ n)(ha:a%m=0)(h:a<n):a+m<=n:=by
 obtain⟨x,rfl⟩:=Nat.dvd_of_mod_eq_zero ha;obtain⟨y,rfl⟩:=hm;have hxy:x<y:=Nat.lt_of_mul_lt_mul_left h;have:m*(x+1)<=m*y:=Nat.mul_le_mul_left m hxy;rwa [Nat.mul_add,Nat.mul_one] at this
theorem oE{od P:Nat}(h8:od<=8)(hP:P=2 ^ od):wrap64 ((1:Int)*2 ^ od)=(P:Int)/\((2:Int) ^ od)=(P:Int)/\wrap64 ((2:Int)*2 ^ od)=2*(P:Int):=by
 have h:=M.pow8 od h8;have e:((2:Int) ^ od)=((2 ^ od:Nat):Int):=by simp
 rw[e,<-hP];rw[<-hP] at h;refine⟨?_,rfl,?_⟩ <;> unfold wrap64 <;> omega
theorem MH{P:Nat}(h : 1<=P):¬((2:Int)*(P:Int))=0:=by omega
theorem MG{a P:Nat}(h:a%(2*P)=0):((a:Int)%(2*(P:Int)) == 0)=true:=by
 rw[beq_iff_eq];have:((a%(2*P):Nat):Int)=0:=by rw[h];rfl
 simpa using this
theorem MF{a P:Nat}(h:¬a%(2*P)=0):((a:Int)%(2*(P:Int)) == 0)=false:=by
 rw[beq_eq_false_iff_ne];intro e;apply h
 have:((a%(2*P):Nat):Int)=0:=by simpa using e
 omega
theorem IJ{P:Nat}(h : 1<=P):¬(P:Int)=0:=by omega
def hdOk(p:Pg)(a:Nat):Bool:=
 if p.kd=4 then decide (p.od=0) else if p.kd=0\/p.kd=2 then decide (a%2 ^ p.od.toNat=0) && pgE p (aN p.kd p.od) else false
def rsOk(p q:Pg):Bool:=pgE q (aN (p.kd+1) p.od)
def r4F(I:Img):Nat->Nat->Option Nat
 | 0,_=>none
 | n+1,a=>if I.np<=a then none else if hdOk (I.pg a) a=false then some a else
  match fst1 (2 ^ (I.pg a).od.toNat-1) (fun i=>rsOk (I.pg a) (I.pg (a+1+i)))with
  | some i=>some (a+1+i)
  | none=>r4F I n (a+2 ^ (I.pg a).od.toNat)
theorem MD{I:Img}{n a:Nat}(ha:a<I.np)(h:hdOk (I.pg a) a=false):r4F I (n+1) a=some a:=by
 rw[r4F,if_neg (by omega),if_pos h]
theorem QC{I:Img}{n a o j:Nat}(ha:a<I.np)(ho:(I.pg a).od=(o:Int))(h:hdOk (I.pg a) a=true)(hj:j<2 ^ o-1)(h1:∀ x,x<j->rsOk (I.pg a) (I.pg (a+1+x))=true)(h2:rsOk (I.pg a) (I.pg (a+1+j))=false):r4F I (n+1) a=some (a+1+j):=by
 rw[r4F,if_neg (by omega),if_neg (by rw[h];decide),ho,Int.toNat_natCast,kE hj h1 h2]
theorem r4F_ok{I:Img}{n a o:Nat}(ha:a<I.np)(ho:(I.pg a).od=(o:Int))(h:hdOk (I.pg a) a=true)(h1:∀ x,x<2 ^ o-1->rsOk (I.pg a) (I.pg (a+1+x))=true):r4F I (n+1) a=r4F I n (a+2 ^ o):=by
 rw[r4F,if_neg (by omega),if_neg (by rw[h];decide),ho,Int.toNat_natCast,fst1_ok h1]
theorem r4F_end{I:Img}{n:Nat} : r4F I (n+1) I.np=none:=by rw[r4F,if_pos (Nat.le_refl _)]
def r4(I:Img):Option Nat:=r4F I (I.np+1) 0
structure PbI(w W:World)(b g:Nat)(I:Img)(V:ImV)(p:Pg):Prop where
 im:ImAt W b I V
 pb:W.heap[g]?=some (aV p)
 k:Kt nO w W
theorem PbI.keep{w W W':World}{b g:Nat}{I:Img}{V:ImV}{p:Pg}(h:PbI w W b g I V p)(hk:Kt nO W W'):PbI w W' b g I V p:=
 ⟨h.im.keep hk,(hk.block _ (lH h.pb) (fun x=>x)).trans h.pb,nT h.k hk⟩
theorem PbI.mk'{w W:World}{b:Nat}{I:Img}{V:ImV}(h:ImAt W b I V)(k:Kt nO w W)(p:Pg):PbI w (W.alloc (aV p)) b W.heap.size I V p:=
 ⟨h.keep ((Kt.refl _ W).alloc _),nH _ _,k.alloc _⟩
theorem eK{w:World}{g:Nat}{p:Pg}(h:w.heap[g]?=some (aV p)):w.cell? ⟨g,0,none⟩=some (.int .i64 p.kd)/\w.cell? ⟨g,1,none⟩=some (.int .i64 p.od)/\w.cell? ⟨g,2,none⟩=some (.int .i64 p.cl)/\w.cell? ⟨g,3,none⟩=some (.int .i64 p.lv)/\w.cell? ⟨g,4,none⟩=some (.int .i64 p.nx)/\w.cell? ⟨g,5,none⟩=some (.int .i64 p.pv)/\w.cell? ⟨g,6,none⟩=some (.int .i64 p.fs)/\w.cell? ⟨g,7,none⟩=some (.int .u64 p.b0)/\w.cell? ⟨g,8,none⟩=some (.int .u64 p.b1)/\w.cell? ⟨g,9,none⟩=some (.int .u64 p.b2)/\w.cell? ⟨g,10,none⟩=some (.int .u64 p.b3):=by
 refine⟨?_,?_,?_,?_,?_,?_,?_,?_,?_,?_,?_⟩ <;> simp[World.cell?,h]
theorem PbI.all{w W:World}{b g:Nat}{I:Img}{V:ImV}{p:Pg}(h:PbI w W b g I V p):(∀ x:KW W,x.v.cell? ⟨g,0,none⟩=some (.int .i64 p.kd))/\(∀ x:KW W,x.v.cell? ⟨g,1,none⟩=some (.int .i64 p.od))/\(∀ x:KW W,x.v.cell? ⟨g,2,none⟩=some (.int .i64 p.cl))/\(∀ x:KW W,x.v.cell? ⟨g,3,none⟩=some (.int .i64 p.lv))/\(∀ x:KW W,x.v.cell? ⟨g,4,none⟩=some (.int .i64 p.nx))/\(∀ x:KW W,x.v.cell? ⟨g,5,none⟩=some (.int .i64 p.pv))/\(∀ x:KW W,x.v.cell? ⟨g,6,none⟩=some (.int .i64 p.fs))/\(∀ x:KW W,x.v.cell? ⟨g,7,none⟩=some (.int .u64 p.b0))/\(∀ x:KW W,x.v.cell? ⟨g,8,none⟩=some (.int .u64 p.b1))/\(∀ x:KW W,x.v.cell? ⟨g,9,none⟩=some (.int .u64 p.b2))/\(∀ x:KW W,x.v.cell? ⟨g,10,none⟩=some (.int .u64 p.b3)):=
 ⟨fun x=>(eK (h.keep x.k).pb).1,fun x=>(eK (h.keep x.k).pb).2.1,fun x=>(eK (h.keep x.k).pb).2.2.1,fun x=>(eK (h.keep x.k).pb).2.2.2.1,fun x=>(eK (h.keep x.k).pb).2.2.2.2.1,fun x=>(eK (h.keep x.k).pb).2.2.2.2.2.1,fun x=>(eK (h.keep x.k).pb).2.2.2.2.2.2.1,fun x=>(eK (h.keep x.k).pb).2.2.2.2.2.2.2.1,fun x=>(eK (h.keep x.k).pb).2.2.2.2.2.2.2.2.1,fun x=>(eK (h.keep x.k).pb).2.2.2.2.2.2.2.2.2.1,fun x=>(eK (h.keep x.k).pb).2.2.2.2.2.2.2.2.2.2⟩
theorem ImAt.pageK{w:World}{b:Nat}{I:Img}{V:ImV}(h:ImAt w b I V){bl o oc n:Nat}(hv:V.p=.slice (some ⟨bl,o,none⟩) n oc)(i:Nat)(hi:i<I.np)(x:KW w):kO x.v bl o i (I.pg i):=by
 obtain⟨bl',o',oc',hv',_,hc⟩:=(h.keep x.k).page i hi;rw[hv] at hv';injection hv' with e1 e2 e3
 injection e1 with e4
 injection e4 with e5 e6
 subst e5 e6;exact hc
theorem gR{w:World}{bl o i:Nat}{p:Pg}(h:∀ x:KW w,kO x.v bl o i p):(∀ x:KW w,x.v.cell? ⟨bl,o+i*11,none⟩=some (.int .i64 p.kd))/\(∀ x:KW w,x.v.cell? ⟨bl,o+i*11+1,none⟩=some (.int .i64 p.od))/\(∀ x:KW w,x.v.cell? ⟨bl,o+i*11+2,none⟩=some (.int .i64 p.cl))/\(∀ x:KW w,x.v.cell? ⟨bl,o+i*11+3,none⟩=some (.int .i64 p.lv))/\(∀ x:KW w,x.v.cell? ⟨bl,o+i*11+4,none⟩=some (.int .i64 p.nx))/\(∀ x:KW w,x.v.cell? ⟨bl,o+i*11+5,none⟩=some (.int .i64 p.pv))/\(∀ x:KW w,x.v.cell? ⟨bl,o+i*11+6,none⟩=some (.int .i64 p.fs))/\(∀ x:KW w,x.v.cell? ⟨bl,o+i*11+7,none⟩=some (.int .u64 p.b0))/\(∀ x:KW w,x.v.cell? ⟨bl,o+i*11+8,none⟩=some (.int .u64 p.b1))/\(∀ x:KW w,x.v.cell? ⟨bl,o+i*11+9,none⟩=some (.int .u64 p.b2))/\(∀ x:KW w,x.v.cell? ⟨bl,o+i*11+10,none⟩=some (.int .u64 p.b3)):=
 ⟨fun x=>(h x).c.1,fun x=>(h x).c.2.1,fun x=>(h x).c.2.2.1,fun x=>(h x).c.2.2.2.1,fun x=>(h x).c.2.2.2.2.1,fun x=>(h x).c.2.2.2.2.2.1,fun x=>(h x).c.2.2.2.2.2.2.1,fun x=>(h x).c.2.2.2.2.2.2.2.1,fun x=>(h x).c.2.2.2.2.2.2.2.2.1,fun x=>(h x).c.2.2.2.2.2.2.2.2.2.1,fun x=>(h x).c.2.2.2.2.2.2.2.2.2.2⟩
end Go.Proofs.YtkfmheelhinjdaaGreatDoor.W
