import Derived.Test.YtkfmheelhinjdaaGreatDoorZc
set_option maxRecDepth 1000000
set_option maxHeartbeats 80000000
namespace Go.Proofs.YtkfmheelhinjdaaGreatDoor
open Tryz
open Go.RowKit
set_option linter.unusedVariables false
abbrev cE(p:Pg):Value:=.agg #[.int .i64 p.kd,.int .i64 p.od,.int .i64 p.cl,.int .i64 p.lv,.int .i64 p.nx,.int .i64 p.pv,.int .i64 p.fs,.int .u64 p.b0,.int .u64 p.b1,.int .u64 p.b2,.int .u64 p.b3]
abbrev aM(p:Pg):Obj:=.cells #[.int .i64 p.kd,.int .i64 p.od,.int .i64 p.cl,.int .i64 p.lv,.int .i64 p.nx,.int .i64 p.pv,.int .i64 p.fs,.int .u64 p.b0,.int .u64 p.b1,.int .u64 p.b2,.int .u64 p.b3] 99
theorem eY(b:Nat)(B:Bs)(m:Mp)(i:Int)(w:World)(h:MpA w b B m):
  Calls prog 111 #[.pointer (some ⟨b,0,none⟩),.int .i64 i] w fun e w'=>e=.returned (.bool (aB m.n i))/\w'=w:=by
 obtain⟨cq,c0,c1,c2⟩:=h.cb;clear h;by_cases h0 : 0<=i
 ·have hd:aB m.n i=decide (i<(m.n:Int)):=by simp[aB,h0]
  rw[hd];go_enter func111,ntmps111;go_wp2
  go_ret;exact⟨rfl,rfl⟩
 ·have hd:aB m.n i=false:=by simp[aB];omega
  rw[hd];go_enter func111,ntmps111;go_wp2
  go_ret;exact⟨rfl,rfl⟩
theorem uM(b:Nat)(B:Bs)(m:Mp)(w:World)(h:MpA w b B m):
  Calls prog 71 #[.pointer (some ⟨b,0,none⟩)] w fun e w'=>e=.returned (.int .i64 m.n)/\w'=w:=by
 obtain⟨cq,c0,c1,c2⟩:=h.cb;clear h;go_enter func71,ntmps71;go_wp2
 go_ret;exact⟨rfl,rfl⟩
theorem kV{w:World}{x:Nat}{p:Pg}(h:w.heap[x]?=some (aM p)):w.cell? ⟨x,0,none⟩=some (.int .i64 p.kd)/\w.cell? ⟨x,1,none⟩=some (.int .i64 p.od)/\w.cell? ⟨x,2,none⟩=some (.int .i64 p.cl)/\w.cell? ⟨x,3,none⟩=some (.int .i64 p.lv)/\w.cell? ⟨x,4,none⟩=some (.int .i64 p.nx)/\w.cell? ⟨x,5,none⟩=some (.int .i64 p.pv)/\w.cell? ⟨x,6,none⟩=some (.int .i64 p.fs)/\w.cell? ⟨x,7,none⟩=some (.int .u64 p.b0)/\w.cell? ⟨x,8,none⟩=some (.int .u64 p.b1)/\w.cell? ⟨x,9,none⟩=some (.int .u64 p.b2)/\w.cell? ⟨x,10,none⟩=some (.int .u64 p.b3):=by
 refine⟨?_,?_,?_,?_,?_,?_,?_,?_,?_,?_,?_⟩ <;> simp[World.cell?,h]
theorem qH{w:World}{x:Nat}{p:Pg}(h:w.heap[x]?=some (aM p))(i:Nat):w.frozen? ⟨x,i,none⟩=false:=by simp[World.frozen?,h]
abbrev vM(w:World)(x:Nat)(p:Pg):World:=(((((((((((w.setCell ⟨x,0,none⟩ (.int .i64 p.kd)).setCell ⟨x,1,none⟩ (.int .i64 p.od)).setCell ⟨x,2,none⟩ (.int .i64 p.cl)).setCell ⟨x,3,none⟩ (.int .i64 p.lv)).setCell ⟨x,4,none⟩ (.int .i64 p.nx)).setCell ⟨x,5,none⟩ (.int .i64 p.pv)).setCell ⟨x,6,none⟩ (.int .i64 p.fs)).setCell ⟨x,7,none⟩ (.int .u64 p.b0)).setCell ⟨x,8,none⟩ (.int .u64 p.b1)).setCell ⟨x,9,none⟩ (.int .u64 p.b2)).setCell ⟨x,10,none⟩ (.int .u64 p.b3))
theorem AI{S:Nat->Prop}{a w:World}(h:Kt S a w)(x:Nat)(hx:x<a.heap.size->S x)(p:Pg):Kt S a (vM w x p):=(((((((((((h.setNew (p:=⟨x,0,none⟩) hx _).setNew (p:=⟨x,1,none⟩) hx _).setNew (p:=⟨x,2,none⟩) hx _).setNew (p:=⟨x,3,none⟩) hx _).setNew (p:=⟨x,4,none⟩) hx _).setNew (p:=⟨x,5,none⟩) hx _).setNew (p:=⟨x,6,none⟩) hx _).setNew (p:=⟨x,7,none⟩) hx _).setNew (p:=⟨x,8,none⟩) hx _).setNew (p:=⟨x,9,none⟩) hx _).setNew (p:=⟨x,10,none⟩) hx _)
theorem pR(k o:Int)(w:World):
  Calls prog 246 #[.int .i64 k,.int .i64 o] w fun e w'=>e=.returned (cE (aN k o))/\w'=w.alloc (aM (aN k o)):=by
 go_enter func246,ntmps246;go_wp2
 exact⟨rfl,_,by simp[results,results246,go_sem,aN],rfl,rfl⟩
def cJ(m:Mp)(i:Int):Pg:=if aB m.n i=true then m.pg i.toNat else aP
theorem gL{n:Nat}{i:Int}(h:aB n i=true):∃ k:Nat,i=k/\k<n:=by
 have hi0 : 0<=i/\i<(n:Int):=by simpa [aB] using h
 obtain⟨k,rfl⟩:=Int.eq_ofNat_of_zero_le hi0.1;exact⟨k,rfl,by omega⟩
theorem dM{n k:Nat}(h:k<n):aB n (k:Int)=true:=by simp[aB];omega
theorem qR(b:Nat)(B:Bs)(m:Mp)(i:Int)(w:World)(h:MpA w b B m)(hi:aB m.n i=false):
  Calls prog 72 #[.pointer (some ⟨b,0,none⟩),.int .i64 i] w fun e w'=>e=.returned (.tuple #[cE aP,.bool false])/\Kt nO w w':=by
 have K0:=aA ((Kt.refl nO w).alloc (aM aP));have HM:=aA (h.keep K0.out);have X0:=aA (nH w (aM aP));have HI:=aA hi;clear h hi;go_enter func72,ntmps72;go_wp2_with fail;refine(eY b B m i _ HM.out).mono ?_;rintro e w1 ⟨rfl,hw1⟩;rw[show(w.alloc (aM aP))=w1 from hw1.symm] at K0 HM X0;rw[HI.out];clear hw1;obtain⟨x0,x1,x2,x3,x4,x5,x6,x7,x8,x9,x10⟩:=kV X0.out;have z:=qH X0.out;go_wp2_with fail;exact⟨rfl,_,by simp[results,results72,go_sem,aP,x0,x1,x2,x3,x4,x5,x6,x7,x8,x9,x10],rfl,AI (p:=aP) K0.out _ (fun h=>absurd h (Nat.lt_irrefl _))⟩
theorem mE(b:Nat)(B:Bs)(m:Mp)(k:Nat)(w:World)(h:MpA w b B m)(hk:k<m.n):
  Calls prog 72 #[.pointer (some ⟨b,0,none⟩),.int .i64 k] w fun e w'=>e=.returned (.tuple #[cE (m.pg k),.bool true])/\Kt nO w w':=by
 have K0:=aA ((Kt.refl nO w).alloc (aM aP));have HM:=aA (h.keep K0.out);have X0:=aA (nH w (aM aP));have HI:=aA (dM hk);clear h;go_enter func72,ntmps72;go_wp2_with fail;refine(eY b B m k _ HM.out).mono ?_;rintro e w1 ⟨rfl,hw1⟩;rw[show(w.alloc (aM aP))=w1 from hw1.symm] at K0 HM X0;rw[HI.out];clear hw1;obtain⟨g,hg,hr⟩:=HM.out.has_row (by omega);obtain⟨d0,d1,d2,d3,d4,d5,d6,d7,d8,d9,d10⟩:=hr.cell k hk;have c1:=HM.out.c1 hg;have hki:(k:Int)<m.n:=by omega
 obtain⟨x0,x1,x2,x3,x4,x5,x6,x7,x8,x9,x10⟩:=kV X0.out;have z:=qH X0.out;clear hr hg;go_wp2_with fail;exact⟨rfl,_,by simp[results,results72,go_sem,x0,x1,x2,x3,x4,x5,x6,x7,x8,x9,x10],rfl,AI (p:=m.pg k) K0.out _ (fun h=>absurd h (Nat.lt_irrefl _))⟩
theorem jB(b:Nat)(B:Bs)(m:Mp)(i:Int)(w:World)(h:MpA w b B m):
  Calls prog 72 #[.pointer (some ⟨b,0,none⟩),.int .i64 i] w fun e w'=>e=.returned (.tuple #[cE (cJ m i),.bool (aB m.n i)])/\Kt nO w w':=by
 cases hi:aB m.n i with
 | false=>
  rw[show cJ m i=aP by simp[cJ,hi]];exact qR b B m i w h hi
 | true=>
  obtain⟨k,rfl,hk⟩:=gL hi;rw[show cJ m (k:Int)=m.pg k by simp[cJ,hi]];exact mE b B m k w h hk
theorem uL(b:Nat)(B:Bs)(m:Mp)(i:Int)(w:World)(h:MpA w b B m)(hi:aB m.n i=false):
  Calls prog 248 #[.pointer (some ⟨b,0,none⟩),.int .i64 i] w fun e w'=>e=.returned (.pointer none)/\w'=w:=by
 have HM:=aA h;have HI:=aA hi;clear h hi;go_enter func248,ntmps248;go_wp2_with fail;refine(eY b B m i _ HM.out).mono ?_;rintro e w1 ⟨rfl,rfl⟩;rw[HI.out];go_wp2_with fail;go_ret;exact⟨rfl,rfl⟩
theorem kA(b:Nat)(B:Bs)(m:Mp)(g k:Nat)(w:World)(h:MpA w b B m)(hg:B.g=some g)(hk:k<m.n):
  Calls prog 248 #[.pointer (some ⟨b,0,none⟩),.int .i64 k] w fun e w'=>e=.returned (.pointer (if (m.pg k).kd=4 then some ⟨g,k*11,none⟩ else none))/\w'=w:=by
 have HM:=aA h;have HI:=aA (dM hk);have hr:=h.row;rw[hg] at hr;have hr:bH w g m.n m.pg:=hr;have d0:=(hr.cell k hk).1;have c1:=h.c1 hg;have hki:(k:Int)<m.n:=by omega
 clear h hr hg;by_cases h4:(m.pg k).kd=4
 ·rw[if_pos h4];rw[h4] at d0;go_enter func248,ntmps248;go_wp2_with fail;refine(eY b B m k _ HM.out).mono ?_;rintro e w1 ⟨rfl,rfl⟩;rw[HI.out];go_wp2_with fail;go_ret;exact⟨rfl,rfl⟩
 ·rw[if_neg h4];go_enter func248,ntmps248;go_wp2_with fail;refine(eY b B m k _ HM.out).mono ?_;rintro e w1 ⟨rfl,rfl⟩;rw[HI.out];go_wp2_with fail;go_ret;exact⟨rfl,rfl⟩
def eX(cl:Int):Nat:=256/2 ^ cl.toNat
theorem pO(g o:Nat)(cl:Int)(h0 : 0<=cl)(h7:cl<=7)(c:Int)(w:World)(h:w.cell? ⟨g,o+2,none⟩=some (.int .i64 cl)):
  Calls prog 249 #[.pointer (some ⟨g,o,none⟩),.int .i64 c] w fun e w'=>e=.returned (.bool (aB (eX cl) c))/\w'=w:=by
 obtain⟨k,rfl⟩:=Int.eq_ofNat_of_zero_le h0;have hk:k<=7:=by omega
 have hn:eX (k:Int)=256/2 ^ k:=rfl;rw[hn];by_cases hc : 0<=c
 ·have hd:aB (256/2 ^ k) c=decide (c<((256/2 ^ k:Nat):Int)):=by simp[aB,hc]
  rw[hd];go_enter func249,ntmps249;go_wp2_with fail;go_ret;exact⟨by simp,rfl⟩
 ·have hd:aB (256/2 ^ k) c=false:=by simp[aB];omega
  rw[hd];go_enter func249,ntmps249;go_wp2_with fail;go_ret;exact⟨rfl,rfl⟩
theorem pC(x r:Nat)(hx:x<18446744073709551616):((bits BinOp.and IntKind.u64 ((x:Int)/2 ^ r) 1) == 1)=(x/2 ^ r%2 == 1):=by
 have e:((x:Int)/2 ^ r)=((x/2 ^ r:Nat):Int):=by simp
 rw[e];have hd2:x/2 ^ r<2 ^ 64:=Nat.lt_of_le_of_lt (Nat.div_le_self _ _) hx;have:=u64_and_nat (x/2 ^ r) 1 (by omega) (by decide);rw[nat_mask1] at this;rw[show(1:Int)=((1:Nat):Int)from rfl,this,Bool.eq_iff_iff];simp only[beq_iff_eq];omega
theorem rE(x r:Nat)(hx:x<18446744073709551616)(hr:r<64):bits BinOp.xor IntKind.u64 (x:Int) (2 ^ r)=((x ^^^ 2 ^ r:Nat):Int):=by
 have hp : 2 ^ r<2 ^ 64:=(iZ r 64).2 hr;have:=bits_xor_u64_nat x (2 ^ r) hx hp;rw[<-this];simp
theorem rJ(r:Nat)(hr:r<64):IntKind.u64.wrap (2 ^ r)=2 ^ r:=by
 have hp : 2 ^ r<2 ^ 64:=(iZ r 64).2 hr;rw[wrap_u64];have:((2:Int) ^ r)=((2 ^ r:Nat):Int):=by simp
 rw[this];obtain⟨p,hp2⟩:=xe (2 ^ r);rw[<-hp2] at hp ⊢;omega
theorem rD(x r:Nat)(hx:x<18446744073709551616)(hr:r<64):x ^^^ 2 ^ r<18446744073709551616:=Nat.xor_lt_two_pow (n:=64) hx ((iZ r 64).2 hr)
theorem VN(b0 b1 b2 b3:Nat)(hx:b0<18446744073709551616)(c:Nat)(hq:c/64=0)(w:World):
  Calls prog 253 #[.agg #[.int .u64 b0,.int .u64 b1,.int .u64 b2,.int .u64 b3],.int .i64 c] w fun e w'=>e=.returned (.bool (b0/2 ^ (c%64)%2 == 1))/\Kt nO w w':=by
 have hqi:(c:Int)/64=0:=by omega
 have E:=aA (pC b0 (c%64) hx);clear hx;go_enter func253,ntmps253;go_wp2_with fail;go_ret;exact⟨cG E.out,(Kt.refl nO w).alloc _⟩
theorem VL(b0 b1 b2 b3:Nat)(hx:b0<18446744073709551616)(c:Nat)(hq:c/64=0)(w:World):
  Calls prog 254 #[.agg #[.int .u64 b0,.int .u64 b1,.int .u64 b2,.int .u64 b3],.int .i64 c] w fun e w'=>e=.returned (.agg #[.int .u64 ((b0 ^^^ 2 ^ (c%64):Nat):Int),.int .u64 b1,.int .u64 b2,.int .u64 b3])/\Kt nO w w':=by
 have hqi:(c:Int)/64=0:=by omega
 have E:=rE b0 (c%64) hx (by omega);have hw2:=rJ (c%64) (by omega);generalize b0 ^^^ 2 ^ (c%64)=y at *;clear hx;go_enter func254,ntmps254;go_wp2_with fail;go_region
 all_goals
  go_wp2_with fail;exact⟨rfl,_,by simp[results,results254,go_sem],rfl,(((Kt.refl nO w).alloc _).alloc _).drew⟩
theorem VK(b0 b1 b2 b3:Nat)(hx:b1<18446744073709551616)(c:Nat)(hq:c/64=1)(w:World):
  Calls prog 253 #[.agg #[.int .u64 b0,.int .u64 b1,.int .u64 b2,.int .u64 b3],.int .i64 c] w fun e w'=>e=.returned (.bool (b1/2 ^ (c%64)%2 == 1))/\Kt nO w w':=by
 have hqi:(c:Int)/64=1:=by omega
 have E:=aA (pC b1 (c%64) hx);clear hx;go_enter func253,ntmps253;go_wp2_with fail;go_ret;exact⟨cG E.out,(Kt.refl nO w).alloc _⟩
theorem VJ(b0 b1 b2 b3:Nat)(hx:b1<18446744073709551616)(c:Nat)(hq:c/64=1)(w:World):
  Calls prog 254 #[.agg #[.int .u64 b0,.int .u64 b1,.int .u64 b2,.int .u64 b3],.int .i64 c] w fun e w'=>e=.returned (.agg #[.int .u64 b0,.int .u64 ((b1 ^^^ 2 ^ (c%64):Nat):Int),.int .u64 b2,.int .u64 b3])/\Kt nO w w':=by
 have hqi:(c:Int)/64=1:=by omega
 have E:=rE b1 (c%64) hx (by omega);have hw2:=rJ (c%64) (by omega);generalize b1 ^^^ 2 ^ (c%64)=y at *;clear hx;go_enter func254,ntmps254;go_wp2_with fail;go_region
 all_goals
  go_wp2_with fail;exact⟨rfl,_,by simp[results,results254,go_sem],rfl,(((Kt.refl nO w).alloc _).alloc _).drew⟩
theorem VI(b0 b1 b2 b3:Nat)(hx:b2<18446744073709551616)(c:Nat)(hq:c/64=2)(w:World):
  Calls prog 253 #[.agg #[.int .u64 b0,.int .u64 b1,.int .u64 b2,.int .u64 b3],.int .i64 c] w fun e w'=>e=.returned (.bool (b2/2 ^ (c%64)%2 == 1))/\Kt nO w w':=by
 have hqi:(c:Int)/64=2:=by omega
 have E:=aA (pC b2 (c%64) hx);clear hx;go_enter func253,ntmps253;go_wp2_with fail;go_ret;exact⟨cG E.out,(Kt.refl nO w).alloc _⟩
theorem VH(b0 b1 b2 b3:Nat)(hx:b2<18446744073709551616)(c:Nat)(hq:c/64=2)(w:World):
  Calls prog 254 #[.agg #[.int .u64 b0,.int .u64 b1,.int .u64 b2,.int .u64 b3],.int .i64 c] w fun e w'=>e=.returned (.agg #[.int .u64 b0,.int .u64 b1,.int .u64 ((b2 ^^^ 2 ^ (c%64):Nat):Int),.int .u64 b3])/\Kt nO w w':=by
 have hqi:(c:Int)/64=2:=by omega
 have E:=rE b2 (c%64) hx (by omega);have hw2:=rJ (c%64) (by omega);generalize b2 ^^^ 2 ^ (c%64)=y at *;clear hx;go_enter func254,ntmps254;go_wp2_with fail;go_region
 all_goals
  go_wp2_with fail;exact⟨rfl,_,by simp[results,results254,go_sem],rfl,(((Kt.refl nO w).alloc _).alloc _).drew⟩
theorem VG(b0 b1 b2 b3:Nat)(hx:b3<18446744073709551616)(c:Nat)(hq:c/64=3)(w:World):
  Calls prog 253 #[.agg #[.int .u64 b0,.int .u64 b1,.int .u64 b2,.int .u64 b3],.int .i64 c] w fun e w'=>e=.returned (.bool (b3/2 ^ (c%64)%2 == 1))/\Kt nO w w':=by
 have hqi:(c:Int)/64=3:=by omega
 have E:=aA (pC b3 (c%64) hx);clear hx;go_enter func253,ntmps253;go_wp2_with fail;go_ret;exact⟨cG E.out,(Kt.refl nO w).alloc _⟩
theorem VF(b0 b1 b2 b3:Nat)(hx:b3<18446744073709551616)(c:Nat)(hq:c/64=3)(w:World):
  Calls prog 254 #[.agg #[.int .u64 b0,.int .u64 b1,.int .u64 b2,.int .u64 b3],.int .i64 c] w fun e w'=>e=.returned (.agg #[.int .u64 b0,.int .u64 b1,.int .u64 b2,.int .u64 ((b3 ^^^ 2 ^ (c%64):Nat):Int)])/\Kt nO w w':=by
 have hqi:(c:Int)/64=3:=by omega
 have E:=rE b3 (c%64) hx (by omega);have hw2:=rJ (c%64) (by omega);generalize b3 ^^^ 2 ^ (c%64)=y at *;clear hx;go_enter func254,ntmps254;go_wp2_with fail;go_region
 all_goals
  go_wp2_with fail;exact⟨rfl,_,by simp[results,results254,go_sem],rfl,(((Kt.refl nO w).alloc _).alloc _).drew⟩
def wP(p:Pg):Nat->Nat
 | 0=>p.b0
 | 1=>p.b1
 | 2=>p.b2
 | _=>p.b3
def aJ(p:Pg)(c:Nat):Bool:=wP p (c/64)/2 ^ (c%64)%2 == 1
def dY(p:Pg)(c:Nat):Pg:=
 match c/64 with
 | 0=>{ p with b0:=p.b0 ^^^ 2 ^ (c%64) }
 | 1=>{ p with b1:=p.b1 ^^^ 2 ^ (c%64) }
 | 2=>{ p with b2:=p.b2 ^^^ 2 ^ (c%64) }
 | _=>{ p with b3:=p.b3 ^^^ 2 ^ (c%64) }
abbrev mY(p:Pg):Value:=.agg #[.int .u64 p.b0,.int .u64 p.b1,.int .u64 p.b2,.int .u64 p.b3]
theorem sN{c:Nat}(hc:c<256):c/64=0\/c/64=1\/c/64=2\/c/64=3:=by omega
theorem DG(p:Pg)(ok:PgOk p)(c:Nat)(hc:c<256)(w:World):
  Calls prog 253 #[mY p,.int .i64 c] w fun e w'=>e=.returned (.bool (aJ p c))/\Kt nO w w':=by
 rcases sN hc with h|h|h|h
 ·rw[show aJ p c=(p.b0/2 ^ (c%64)%2 == 1)by simp[aJ,h,wP]];exact VN _ _ _ _ ok.b0 c h w
 ·rw[show aJ p c=(p.b1/2 ^ (c%64)%2 == 1)by simp[aJ,h,wP]];exact VK _ _ _ _ ok.b1 c h w
 ·rw[show aJ p c=(p.b2/2 ^ (c%64)%2 == 1)by simp[aJ,h,wP]];exact VI _ _ _ _ ok.b2 c h w
 ·rw[show aJ p c=(p.b3/2 ^ (c%64)%2 == 1)by simp[aJ,h,wP]];exact VG _ _ _ _ ok.b3 c h w
theorem zhv(p:Pg)(ok:PgOk p)(c:Nat)(hc:c<256)(w:World):
  Calls prog 254 #[mY p,.int .i64 c] w fun e w'=>e=.returned (mY (dY p c))/\Kt nO w w':=by
 rcases sN hc with h|h|h|h
 ·rw[show dY p c={ p with b0:=p.b0 ^^^ 2 ^ (c%64) } by simp[dY,h]];exact VL _ _ _ _ ok.b0 c h w
 ·rw[show dY p c={ p with b1:=p.b1 ^^^ 2 ^ (c%64) } by simp[dY,h]];exact VJ _ _ _ _ ok.b1 c h w
 ·rw[show dY p c={ p with b2:=p.b2 ^^^ 2 ^ (c%64) } by simp[dY,h]];exact VH _ _ _ _ ok.b2 c h w
 ·rw[show dY p c={ p with b3:=p.b3 ^^^ 2 ^ (c%64) } by simp[dY,h]];exact VF _ _ _ _ ok.b3 c h w
theorem PgOk.turn{p:Pg}(ok:PgOk p)(c:Nat):PgOk (dY p c):=by
 have hr:c%64<64:=by omega
 unfold dY;split
 ·exact⟨ok.o0,ok.o8,ok.c0,ok.c7,rD _ _ ok.b0 hr,ok.b1,ok.b2,ok.b3⟩
 ·exact⟨ok.o0,ok.o8,ok.c0,ok.c7,ok.b0,rD _ _ ok.b1 hr,ok.b2,ok.b3⟩
 ·exact⟨ok.o0,ok.o8,ok.c0,ok.c7,ok.b0,ok.b1,rD _ _ ok.b2 hr,ok.b3⟩
 ·exact⟨ok.o0,ok.o8,ok.c0,ok.c7,ok.b0,ok.b1,ok.b2,rD _ _ ok.b3 hr⟩
theorem uU(p:Pg)(c:Nat):(dY p c).kd=p.kd/\(dY p c).od=p.od/\(dY p c).cl=p.cl/\(dY p c).lv=p.lv/\(dY p c).nx=p.nx/\(dY p c).pv=p.pv/\(dY p c).fs=p.fs:=by
 unfold dY;split <;> exact⟨rfl,rfl,rfl,rfl,rfl,rfl,rfl⟩
end Go.Proofs.YtkfmheelhinjdaaGreatDoor
