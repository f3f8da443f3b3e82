import Derived.Test.YtkfmheelhinjdaaGreatDoorZc
set_option maxRecDepth 1000000
set_option maxHeartbeats 80000000
namespace Go.Proofs.YtkfmheelhinjdaaGreatDoor
open _root_.Go.Proofs.Tryz
open Go.RowKit
set_option linter.unusedVariables false
theorem tC(b:Nat)(B:Bs)(m:Mp)(i:Int)(w:World)(h:MpA w b B m)(hi:aC m.n i=false):
  Calls prog 248 #[.pointer (some ⟨b,0,none⟩),.int .i64 i] w fun e w'=>e=.returned (.pointer none)/\w'=w:=by
 have HM:=aA h;have HI:=aA hi;clear h hi;go_enter func248,ntmps248;go_wp2_with fail;refine(eR b B m i _ HM.out).mono ?_;rintro e w1 ⟨rfl,rfl⟩;rw[HI.out];go_wp2_with fail;go_ret;exact⟨rfl,rfl⟩
theorem kA(b:Nat)(B:Bs)(m:Mp)(g k:Nat)(w:World)(h:MpA w b B m)(hg:B.g=some g)(hk:k<m.n):
  Calls prog 248 #[.pointer (some ⟨b,0,none⟩),.int .i64 k] w fun e w'=>e=.returned (.pointer (if (m.pg k).kd=4 then some ⟨g,k*11,none⟩ else none))/\w'=w:=by
 have HM:=aA h;have HI:=aA (dI hk);have hr:=h.row;rw[hg] at hr;have hr:bH w g m.n m.pg:=hr;have d0:=(hr.cell k hk).1;have c1:=h.c1 hg;have hki:(k:Int)<m.n:=by omega
 clear h hr hg;by_cases h4:(m.pg k).kd=4
 ·rw[if_pos h4];rw[h4] at d0;go_enter func248,ntmps248;go_wp2_with fail;refine(eR b B m k _ HM.out).mono ?_;rintro e w1 ⟨rfl,rfl⟩;rw[HI.out];go_wp2_with fail;go_ret;exact⟨rfl,rfl⟩
 ·rw[if_neg h4];go_enter func248,ntmps248;go_wp2_with fail;refine(eR b B m k _ HM.out).mono ?_;rintro e w1 ⟨rfl,rfl⟩;rw[HI.out];go_wp2_with fail;go_ret;exact⟨rfl,rfl⟩
def eQ(cl:Int):Nat:=256/2 ^ cl.toNat
theorem pN(g o:Nat)(cl:Int)(h0 : 0<=cl)(h7:cl<=7)(c:Int)(w:World)(h:w.cell? ⟨g,o+2,none⟩=some (.int .i64 cl)):
  Calls prog 249 #[.pointer (some ⟨g,o,none⟩),.int .i64 c] w fun e w'=>e=.returned (.bool (aC (eQ cl) c))/\w'=w:=by
 obtain⟨k,rfl⟩:=Int.eq_ofNat_of_zero_le h0;have hk:k<=7:=by omega
 have hn:eQ (k:Int)=256/2 ^ k:=rfl;rw[hn];by_cases hc : 0<=c
 ·have hd:aC (256/2 ^ k) c=decide (c<((256/2 ^ k:Nat):Int)):=by simp[aC,hc]
  rw[hd];go_enter func249,ntmps249;go_wp2_with fail;go_ret;exact⟨by simp,rfl⟩
 ·have hd:aC (256/2 ^ k) c=false:=by simp[aC];omega
  rw[hd];go_enter func249,ntmps249;go_wp2_with fail;go_ret;exact⟨rfl,rfl⟩
theorem oO(x r:Nat)(hx:x<18446744073709551616):((bits BinOp.and IntKind.u64 ((x:Int)/2 ^ r) 1) == 1)=(x/2 ^ r%2 == 1):=by
 have e:((x:Int)/2 ^ r)=((x/2 ^ r:Nat):Int):=by simp
 rw[e];have hd2:x/2 ^ r<2 ^ 64:=Nat.lt_of_le_of_lt (Nat.div_le_self _ _) hx;have:=u64_and_nat (x/2 ^ r) 1 (by omega) (by decide);rw[nat_mask1] at this;rw[show(1:Int)=((1:Nat):Int)from rfl,this,Bool.eq_iff_iff];simp only[beq_iff_eq];omega
theorem qP(x r:Nat)(hx:x<18446744073709551616)(hr:r<64):bits BinOp.xor IntKind.u64 (x:Int) (2 ^ r)=((x ^^^ 2 ^ r:Nat):Int):=by
 have hp : 2 ^ r<2 ^ 64:=(iY r 64).2 hr;have:=bits_xor_u64_nat x (2 ^ r) hx hp;rw[<-this];simp
theorem rA(r:Nat)(hr:r<64):IntKind.u64.wrap (2 ^ r)=2 ^ r:=by
 have hp : 2 ^ r<2 ^ 64:=(iY r 64).2 hr;rw[wrap_u64];have:((2:Int) ^ r)=((2 ^ r:Nat):Int):=by simp
 rw[this];obtain⟨p,hp2⟩:=xe (2 ^ r);rw[<-hp2] at hp ⊢;omega
theorem qW(x r:Nat)(hx:x<18446744073709551616)(hr:r<64):x ^^^ 2 ^ r<18446744073709551616:=Nat.xor_lt_two_pow (n:=64) hx ((iY r 64).2 hr)
theorem PF(b0 b1 b2 b3:Nat)(hx:b0<18446744073709551616)(c:Nat)(hq:c/64=0)(w:World):
  Calls prog 253 #[.agg #[.int .u64 b0,.int .u64 b1,.int .u64 b2,.int .u64 b3],.int .i64 c] w fun e w'=>e=.returned (.bool (b0/2 ^ (c%64)%2 == 1))/\Kt nO w w':=by
 have hqi:(c:Int)/64=0:=by omega
 have E:=aA (oO b0 (c%64) hx);clear hx;go_enter func253,ntmps253;go_wp2_with fail;go_ret;exact⟨cO E.out,(Kt.refl nO w).alloc _⟩
theorem PD(b0 b1 b2 b3:Nat)(hx:b0<18446744073709551616)(c:Nat)(hq:c/64=0)(w:World):
  Calls prog 254 #[.agg #[.int .u64 b0,.int .u64 b1,.int .u64 b2,.int .u64 b3],.int .i64 c] w fun e w'=>e=.returned (.agg #[.int .u64 ((b0 ^^^ 2 ^ (c%64):Nat):Int),.int .u64 b1,.int .u64 b2,.int .u64 b3])/\Kt nO w w':=by
 have hqi:(c:Int)/64=0:=by omega
 have E:=qP b0 (c%64) hx (by omega);have hw2:=rA (c%64) (by omega);generalize b0 ^^^ 2 ^ (c%64)=y at *;clear hx;go_enter func254,ntmps254;go_wp2_with fail;go_region
 all_goals
  go_wp2_with fail;exact⟨rfl,_,by simp[results,results254,go_sem],rfl,(((Kt.refl nO w).alloc _).alloc _).drew⟩
theorem PA(b0 b1 b2 b3:Nat)(hx:b1<18446744073709551616)(c:Nat)(hq:c/64=1)(w:World):
  Calls prog 253 #[.agg #[.int .u64 b0,.int .u64 b1,.int .u64 b2,.int .u64 b3],.int .i64 c] w fun e w'=>e=.returned (.bool (b1/2 ^ (c%64)%2 == 1))/\Kt nO w w':=by
 have hqi:(c:Int)/64=1:=by omega
 have E:=aA (oO b1 (c%64) hx);clear hx;go_enter func253,ntmps253;go_wp2_with fail;go_ret;exact⟨cO E.out,(Kt.refl nO w).alloc _⟩
theorem OZ(b0 b1 b2 b3:Nat)(hx:b1<18446744073709551616)(c:Nat)(hq:c/64=1)(w:World):
  Calls prog 254 #[.agg #[.int .u64 b0,.int .u64 b1,.int .u64 b2,.int .u64 b3],.int .i64 c] w fun e w'=>e=.returned (.agg #[.int .u64 b0,.int .u64 ((b1 ^^^ 2 ^ (c%64):Nat):Int),.int .u64 b2,.int .u64 b3])/\Kt nO w w':=by
 have hqi:(c:Int)/64=1:=by omega
 have E:=qP b1 (c%64) hx (by omega);have hw2:=rA (c%64) (by omega);generalize b1 ^^^ 2 ^ (c%64)=y at *;clear hx;go_enter func254,ntmps254;go_wp2_with fail;go_region
 all_goals
  go_wp2_with fail;exact⟨rfl,_,by simp[results,results254,go_sem],rfl,(((Kt.refl nO w).alloc _).alloc _).drew⟩
theorem OY(b0 b1 b2 b3:Nat)(hx:b2<18446744073709551616)(c:Nat)(hq:c/64=2)(w:World):
  Calls prog 253 #[.agg #[.int .u64 b0,.int .u64 b1,.int .u64 b2,.int .u64 b3],.int .i64 c] w fun e w'=>e=.returned (.bool (b2/2 ^ (c%64)%2 == 1))/\Kt nO w w':=by
 have hqi:(c:Int)/64=2:=by omega
 have E:=aA (oO b2 (c%64) hx);clear hx;go_enter func253,ntmps253;go_wp2_with fail;go_ret;exact⟨cO E.out,(Kt.refl nO w).alloc _⟩
theorem OU(b0 b1 b2 b3:Nat)(hx:b2<18446744073709551616)(c:Nat)(hq:c/64=2)(w:World):
  Calls prog 254 #[.agg #[.int .u64 b0,.int .u64 b1,.int .u64 b2,.int .u64 b3],.int .i64 c] w fun e w'=>e=.returned (.agg #[.int .u64 b0,.int .u64 b1,.int .u64 ((b2 ^^^ 2 ^ (c%64):Nat):Int),.int .u64 b3])/\Kt nO w w':=by
 have hqi:(c:Int)/64=2:=by omega
 have E:=qP b2 (c%64) hx (by omega);have hw2:=rA (c%64) (by omega);generalize b2 ^^^ 2 ^ (c%64)=y at *;clear hx;go_enter func254,ntmps254;go_wp2_with fail;go_region
 all_goals
  go_wp2_with fail;exact⟨rfl,_,by simp[results,results254,go_sem],rfl,(((Kt.refl nO w).alloc _).alloc _).drew⟩
theorem OT(b0 b1 b2 b3:Nat)(hx:b3<18446744073709551616)(c:Nat)(hq:c/64=3)(w:World):
  Calls prog 253 #[.agg #[.int .u64 b0,.int .u64 b1,.int .u64 b2,.int .u64 b3],.int .i64 c] w fun e w'=>e=.returned (.bool (b3/2 ^ (c%64)%2 == 1))/\Kt nO w w':=by
 have hqi:(c:Int)/64=3:=by omega
 have E:=aA (oO b3 (c%64) hx);clear hx;go_enter func253,ntmps253;go_wp2_with fail;go_ret;exact⟨cO E.out,(Kt.refl nO w).alloc _⟩
theorem OS(b0 b1 b2 b3:Nat)(hx:b3<18446744073709551616)(c:Nat)(hq:c/64=3)(w:World):
  Calls prog 254 #[.agg #[.int .u64 b0,.int .u64 b1,.int .u64 b2,.int .u64 b3],.int .i64 c] w fun e w'=>e=.returned (.agg #[.int .u64 b0,.int .u64 b1,.int .u64 b2,.int .u64 ((b3 ^^^ 2 ^ (c%64):Nat):Int)])/\Kt nO w w':=by
 have hqi:(c:Int)/64=3:=by omega
 have E:=qP b3 (c%64) hx (by omega);have hw2:=rA (c%64) (by omega);generalize b3 ^^^ 2 ^ (c%64)=y at *;clear hx;go_enter func254,ntmps254;go_wp2_with fail;go_region
 all_goals
  go_wp2_with fail;exact⟨rfl,_,by simp[results,results254,go_sem],rfl,(((Kt.refl nO w).alloc _).alloc _).drew⟩
def wP(p:Pg):Nat->Nat
 | 0=>p.b0
 | 1=>p.b1
 | 2=>p.b2
 | _=>p.b3
def aH(p:Pg)(c:Nat):Bool:=wP p (c/64)/2 ^ (c%64)%2 == 1
def dS(p:Pg)(c:Nat):Pg:=
 match c/64 with
 | 0=>{ p with b0:=p.b0 ^^^ 2 ^ (c%64) }
 | 1=>{ p with b1:=p.b1 ^^^ 2 ^ (c%64) }
 | 2=>{ p with b2:=p.b2 ^^^ 2 ^ (c%64) }
 | _=>{ p with b3:=p.b3 ^^^ 2 ^ (c%64) }
abbrev mV(p:Pg):Value:=.agg #[.int .u64 p.b0,.int .u64 p.b1,.int .u64 p.b2,.int .u64 p.b3]
theorem sA{c:Nat}(hc:c<256):c/64=0\/c/64=1\/c/64=2\/c/64=3:=by omega
theorem AX(p:Pg)(ok:PgOk p)(c:Nat)(hc:c<256)(w:World):
  Calls prog 253 #[mV p,.int .i64 c] w fun e w'=>e=.returned (.bool (aH p c))/\Kt nO w w':=by
 rcases sA hc with h|h|h|h
 ·rw[show aH p c=(p.b0/2 ^ (c%64)%2 == 1)by simp[aH,h,wP]];exact PF _ _ _ _ ok.b0 c h w
 ·rw[show aH p c=(p.b1/2 ^ (c%64)%2 == 1)by simp[aH,h,wP]];exact PA _ _ _ _ ok.b1 c h w
 ·rw[show aH p c=(p.b2/2 ^ (c%64)%2 == 1)by simp[aH,h,wP]];exact OY _ _ _ _ ok.b2 c h w
 ·rw[show aH p c=(p.b3/2 ^ (c%64)%2 == 1)by simp[aH,h,wP]];exact OT _ _ _ _ ok.b3 c h w
theorem WY(p:Pg)(ok:PgOk p)(c:Nat)(hc:c<256)(w:World):
  Calls prog 254 #[mV p,.int .i64 c] w fun e w'=>e=.returned (mV (dS p c))/\Kt nO w w':=by
 rcases sA hc with h|h|h|h
 ·rw[show dS p c={ p with b0:=p.b0 ^^^ 2 ^ (c%64) } by simp[dS,h]];exact PD _ _ _ _ ok.b0 c h w
 ·rw[show dS p c={ p with b1:=p.b1 ^^^ 2 ^ (c%64) } by simp[dS,h]];exact OZ _ _ _ _ ok.b1 c h w
 ·rw[show dS p c={ p with b2:=p.b2 ^^^ 2 ^ (c%64) } by simp[dS,h]];exact OU _ _ _ _ ok.b2 c h w
 ·rw[show dS p c={ p with b3:=p.b3 ^^^ 2 ^ (c%64) } by simp[dS,h]];exact OS _ _ _ _ ok.b3 c h w
theorem PgOk.turn{p:Pg}(ok:PgOk p)(c:Nat):PgOk (dS p c):=by
 have hr:c%64<64:=by omega
 unfold dS;split
 ·exact⟨ok.o0,ok.o8,ok.c0,ok.c7,qW _ _ ok.b0 hr,ok.b1,ok.b2,ok.b3⟩
 ·exact⟨ok.o0,ok.o8,ok.c0,ok.c7,ok.b0,qW _ _ ok.b1 hr,ok.b2,ok.b3⟩
 ·exact⟨ok.o0,ok.o8,ok.c0,ok.c7,ok.b0,ok.b1,qW _ _ ok.b2 hr,ok.b3⟩
 ·exact⟨ok.o0,ok.o8,ok.c0,ok.c7,ok.b0,ok.b1,ok.b2,qW _ _ ok.b3 hr⟩
theorem tU(p:Pg)(c:Nat):(dS p c).kd=p.kd/\(dS p c).od=p.od/\(dS p c).cl=p.cl/\(dS p c).lv=p.lv/\(dS p c).nx=p.nx/\(dS p c).pv=p.pv/\(dS p c).fs=p.fs:=by
 unfold dS;split <;> exact⟨rfl,rfl,rfl,rfl,rfl,rfl,rfl⟩
theorem MpA.rowg{w b B m}{g:Nat}(h:MpA w b B m)(hg:B.g=some g):bH w g m.n m.pg:=by
 have hr:=h.row;rwa [hg] at hr
theorem WI{c:Int}(h : 0<=c):eQ c<=256:=Nat.div_le_self _ _
theorem JD{cl c:Int}(h0 : 0<=cl)(h:aC (eQ cl) c=true):∃ k:Nat,c=k/\k<256:=by
 obtain⟨k,rfl,hk⟩:=gM h;exact⟨k,rfl,Nat.lt_of_lt_of_le hk (WI h0)⟩
theorem QG(b:Nat)(B:Bs)(m:Mp)(i c:Int)(live:Bool)(w:World)(h:MpA w b B m)(hi:aC m.n i=false):
  Calls prog 200 #[.pointer (some ⟨b,0,none⟩),.int .i64 i,.int .i64 c,.bool live] w fun e w'=>e=.returned (.int .i64 1)/\w'=w:=by
 have HM:=aA h;have HI:=aA hi;clear h hi;go_enter func200,ntmps200;go_wp2_with fail;refine(tC b B m i _ HM.out HI.out).mono ?_;rintro e w1 ⟨rfl,rfl⟩;go_wp2_with fail;go_ret;exact⟨rfl,rfl⟩
theorem WH(b:Nat)(B:Bs)(m:Mp)(k:Nat)(c:Int)(live:Bool)(w:World)(h:MpA w b B m)(hk:k<m.n)(hkd:(m.pg k).kd≠4):
  Calls prog 200 #[.pointer (some ⟨b,0,none⟩),.int .i64 k,.int .i64 c,.bool live] w fun e w'=>e=.returned (.int .i64 1)/\w'=w:=by
 have HM:=aA h;obtain⟨g,hg,hr⟩:=h.has_row (by omega);have S:=aA (kA b B m g k w h hg hk);rw[if_neg hkd] at S;clear h hr hg;go_enter func200,ntmps200;go_wp2_with fail;refine S.out.mono ?_;rintro e w1 ⟨rfl,rfl⟩;go_wp2_with fail;go_ret;exact⟨rfl,rfl⟩
theorem WG(b:Nat)(B:Bs)(m:Mp)(k:Nat)(c:Int)(live:Bool)(w:World)(h:MpA w b B m)(hk:k<m.n)(hkd:(m.pg k).kd=4)(hc:aC (eQ (m.pg k).cl) c=false):
  Calls prog 200 #[.pointer (some ⟨b,0,none⟩),.int .i64 k,.int .i64 c,.bool live] w fun e w'=>e=.returned (.int .i64 1)/\w'=w:=by
 have HM:=aA h;obtain⟨g,hg,hr⟩:=h.has_row (by omega);have S:=aA (kA b B m g k w h hg hk);rw[if_pos hkd] at S;obtain⟨d0,d1,d2,d3,d4,d5,d6,d7,d8,d9,d10⟩:=hr.cell k hk;have HC:=aA (pN g (k*11) (m.pg k).cl (h.ok k hk).c0 (h.ok k hk).c7 c w d2);rw[hc] at HC;clear h hr hg;go_enter func200,ntmps200;go_wp2_with fail;refine S.out.mono ?_;rintro e w1 ⟨rfl,rfl⟩;go_wp2_with fail;refine HC.out.mono ?_;rintro e w1 ⟨rfl,rfl⟩;go_wp2_with fail;go_ret;exact⟨rfl,rfl⟩
theorem WF(b:Nat)(B:Bs)(m:Mp)(k c:Nat)(w:World)(h:MpA w b B m)(hk:k<m.n)(hkd:(m.pg k).kd=4)(hc:aC (eQ (m.pg k).cl) (c:Int)=true)(hc2:c<256):
  Calls prog 200 #[.pointer (some ⟨b,0,none⟩),.int .i64 k,.int .i64 c,.bool (aH (m.pg k) c)] w fun e w'=>e=.returned (.int .i64 1)/\Kt nO w w':=by
 have HM:=aA h;obtain⟨g,hg,hr⟩:=h.has_row (by omega);have S:=aA (kA b B m g k w h hg hk);rw[if_pos hkd] at S;obtain⟨d0,d1,d2,d3,d4,d5,d6,d7,d8,d9,d10⟩:=hr.cell k hk;have HC:=aA (pN g (k*11) (m.pg k).cl (h.ok k hk).c0 (h.ok k hk).c7 c w d2);rw[hc] at HC;have HL:=aA (AX (m.pg k) (h.ok k hk) c hc2 w);generalize aH (m.pg k) c=lv at *;clear h hr hg;go_enter func200,ntmps200;go_wp2_with fail;refine S.out.mono ?_;rintro e w1 ⟨rfl,rfl⟩;go_wp2_with fail;refine HC.out.mono ?_;rintro e w1 ⟨rfl,rfl⟩;go_wp2_with fail;refine HL.out.mono ?_;rintro e w2 ⟨rfl,k2⟩;have K2:=aA k2;clear k2
 cases lv
 all_goals
  go_wp2_with fail;go_ret;exact⟨rfl,K2.out⟩
theorem bH.bits{w g n pg}(h:bH w g n pg)(i:Nat)(hi:i<n)(t:Pg)(x:Int)(hr:t.kd=(pg i).kd/\t.od=(pg i).od/\t.cl=(pg i).cl/\t.lv=(pg i).lv/\t.nx=(pg i).nx/\t.pv=(pg i).pv/\t.fs=(pg i).fs):
  bH (((((w.setCell ⟨g,i*11+7,none⟩ (.int .u64 t.b0)).setCell ⟨g,i*11+7+1,none⟩ (.int .u64 t.b1)).setCell ⟨g,i*11+7+2,none⟩ (.int .u64 t.b2)).setCell ⟨g,i*11+7+3,none⟩ (.int .u64 t.b3)).setCell ⟨g,i*11+3,none⟩ (.int .i64 x)) g n (aJ pg i { t with lv:=x }):=by
 have:=(((((aU.set h i 7 hi (by decide) (.int .u64 t.b0)).set i 8 hi (by decide) (.int .u64 t.b1)).set i 9 hi (by decide) (.int .u64 t.b2)).set i 10 hi (by decide) (.int .u64 t.b3)).set i 3 hi (by decide) (.int .i64 x));obtain⟨e0,e1,e2,e3,e4,e5,e6⟩:=hr;refine aU.congr this (fun a ha b hb=>qK a b hb (fun j hj=>?_) (fun e=>?_))
 ·revert j
  apply jR <;> simp[kM,Pg.fld,e0,e1,e2,e4,e5,e6]
 ·simp[kM,e]
def bU(p:Pg)(c:Nat):Pg:={ dS p c with lv:=wrap64 (if aH p c=true then p.lv-1 else p.lv+1) }
theorem WE(b:Nat)(B:Bs)(m:Mp)(k c:Nat)(w:World)(h:MpA w b B m)(hk:k<m.n)(hkd:(m.pg k).kd=4)(hc:aC (eQ (m.pg k).cl) (c:Int)=true)(hc2:c<256):
  Calls prog 200 #[.pointer (some ⟨b,0,none⟩),.int .i64 k,.int .i64 c,.bool (!aH (m.pg k) c)] w fun e w'=>e=.returned (.int .i64 0)/\MpA w' b B { m with pg:=aJ m.pg k (bU (m.pg k) c) }/\Kt (aM b B m.o) w w':=by
 have HM:=aA h;obtain⟨g,hg,hr⟩:=h.has_row (by omega);have S:=aA (kA b B m g k w h hg hk);rw[if_pos hkd] at S;obtain⟨d0,d1,d2,d3,d4,d5,d6,d7,d8,d9,d10⟩:=hr.cell k hk;have HC:=aA (pN g (k*11) (m.pg k).cl (h.ok k hk).c0 (h.ok k hk).c7 c w d2);rw[hc] at HC;have HL:=aA (AX (m.pg k) (h.ok k hk) c hc2 w);have HT:=aA (WY (m.pg k) (h.ok k hk) c hc2);have OP:=aA (show bU (m.pg k) c={ dS (m.pg k) c with lv:=wrap64 (if aH (m.pg k) c=true then (m.pg k).lv-1 else (m.pg k).lv+1) } from rfl);have HG:=aA hg;have HK:=aA hk;have OK:=aA ((h.ok k hk).turn c);have TR:=aA (tU (m.pg k) c);generalize dS (m.pg k) c=tp at *;generalize aH (m.pg k) c=lv at *;clear h hr hg hk;go_enter func200,ntmps200;go_wp2_with fail;refine S.out.mono ?_;rintro e w1 ⟨rfl,rfl⟩;go_wp2_with fail;refine HC.out.mono ?_;rintro e w1 ⟨rfl,rfl⟩;go_wp2_with fail;refine HL.out.mono ?_;rintro e w2 ⟨rfl,k2⟩;have M2:=aA (HM.out.keep k2);have K2:=aA k2;clear k2 d0 d1 d2 d3 d4 d5 d6 d7 d8 d9 d10;obtain⟨d0,d1,d2,d3,d4,d5,d6,d7,d8,d9,d10⟩:=(M2.out.rowg HG.out).cell k HK.out
 cases lv
 all_goals
  go_wp2_with fail;refine(HT.out _).mono ?_;rintro e w3 ⟨rfl,k3⟩;have M3:=aA (M2.out.keep k3);have K3:=aA (nT K2.out k3);clear k3 d0 d1 d2 d3 d4 d5 d6 d7 d8 d9 d10;obtain⟨d0,d1,d2,d3,d4,d5,d6,d7,d8,d9,d10⟩:=(M3.out.rowg HG.out).cell k HK.out;have z:=aU.froz (M3.out.rowg HG.out);go_wp2_with fail;go_ret;rw[OP.out];refine⟨rfl,M3.out.pages HG.out ?_ ((M3.out.rowg HG.out).bits k HK.out tp _ TR.out) (fun i hi=>?_),?_⟩
  ·exact(((((Kt.refl (fun x=>x=g) w3).setCell (p:=⟨g,_,none⟩) rfl _).setCell (p:=⟨g,_,none⟩) rfl _).setCell (p:=⟨g,_,none⟩) rfl _).setCell (p:=⟨g,_,none⟩) rfl _).setCell (p:=⟨g,_,none⟩) rfl _
  ·unfold aJ;split
   ·exact⟨OK.out.o0,OK.out.o8,OK.out.c0,OK.out.c7,OK.out.b0,OK.out.b1,OK.out.b2,OK.out.b3⟩
   ·exact M3.out.ok i hi
  ·exact((((((K3.out.mono (fun _ _ x=>x.elim)).setCell (p:=⟨g,_,none⟩) (.inr (.inl HG.out)) _).setCell (p:=⟨g,_,none⟩) (.inr (.inl HG.out)) _).setCell (p:=⟨g,_,none⟩) (.inr (.inl HG.out)) _).setCell (p:=⟨g,_,none⟩) (.inr (.inl HG.out)) _).setCell (p:=⟨g,_,none⟩) (.inr (.inl HG.out)) _)
end Go.Proofs.YtkfmheelhinjdaaGreatDoor
