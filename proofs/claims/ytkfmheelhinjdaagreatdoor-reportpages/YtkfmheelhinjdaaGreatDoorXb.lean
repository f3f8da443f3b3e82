import Derived.Test.YtkfmheelhinjdaaGreatDoorZd
set_option maxRecDepth 1000000
set_option maxHeartbeats 80000000
namespace Go.Proofs.YtkfmheelhinjdaaGreatDoor
open Tryz
open Go.RowKit
set_option linter.unusedVariables false
theorem MpA.rowg{w b B m}{g:Nat}(h:MpA w b B m)(hg:B.g=some g):bH w g m.n m.pg:=by
 have hr:=h.row;rwa [hg] at hr
theorem WM{c:Int}(h : 0<=c):eX c<=256:=Nat.div_le_self _ _
theorem JN{cl c:Int}(h0 : 0<=cl)(h:aB (eX cl) c=true):∃ k:Nat,c=k/\k<256:=by
 obtain⟨k,rfl,hk⟩:=gL h;exact⟨k,rfl,Nat.lt_of_lt_of_le hk (WM h0)⟩
theorem QP(b:Nat)(B:Bs)(m:Mp)(i c:Int)(live:Bool)(w:World)(h:MpA w b B m)(hi:aB m.n i=false):
  Calls prog 200 #[.pointer (some ⟨b,0,none⟩),.int .i64 i,.int .i64 c,.bool live] w fun e w'=>e=.returned (.int .i64 1)/\w'=w:=by
 have HM:=aA h;have HI:=aA hi;clear h hi;go_enter func200,ntmps200;go_wp2_with fail;refine(uL b B m i _ HM.out HI.out).mono ?_;rintro e w1 ⟨rfl,rfl⟩;go_wp2_with fail;go_ret;exact⟨rfl,rfl⟩
theorem WL(b:Nat)(B:Bs)(m:Mp)(k:Nat)(c:Int)(live:Bool)(w:World)(h:MpA w b B m)(hk:k<m.n)(hkd:(m.pg k).kd≠4):
  Calls prog 200 #[.pointer (some ⟨b,0,none⟩),.int .i64 k,.int .i64 c,.bool live] w fun e w'=>e=.returned (.int .i64 1)/\w'=w:=by
 have HM:=aA h;obtain⟨g,hg,hr⟩:=h.has_row (by omega);have S:=aA (kA b B m g k w h hg hk);rw[if_neg hkd] at S;clear h hr hg;go_enter func200,ntmps200;go_wp2_with fail;refine S.out.mono ?_;rintro e w1 ⟨rfl,rfl⟩;go_wp2_with fail;go_ret;exact⟨rfl,rfl⟩
theorem WK(b:Nat)(B:Bs)(m:Mp)(k:Nat)(c:Int)(live:Bool)(w:World)(h:MpA w b B m)(hk:k<m.n)(hkd:(m.pg k).kd=4)(hc:aB (eX (m.pg k).cl) c=false):
  Calls prog 200 #[.pointer (some ⟨b,0,none⟩),.int .i64 k,.int .i64 c,.bool live] w fun e w'=>e=.returned (.int .i64 1)/\w'=w:=by
 have HM:=aA h;obtain⟨g,hg,hr⟩:=h.has_row (by omega);have S:=aA (kA b B m g k w h hg hk);rw[if_pos hkd] at S;obtain⟨d0,d1,d2,d3,d4,d5,d6,d7,d8,d9,d10⟩:=hr.cell k hk;have HC:=aA (pO g (k*11) (m.pg k).cl (h.ok k hk).c0 (h.ok k hk).c7 c w d2);rw[hc] at HC;clear h hr hg;go_enter func200,ntmps200;go_wp2_with fail;refine S.out.mono ?_;rintro e w1 ⟨rfl,rfl⟩;go_wp2_with fail;refine HC.out.mono ?_;rintro e w1 ⟨rfl,rfl⟩;go_wp2_with fail;go_ret;exact⟨rfl,rfl⟩
theorem WJ(b:Nat)(B:Bs)(m:Mp)(k c:Nat)(w:World)(h:MpA w b B m)(hk:k<m.n)(hkd:(m.pg k).kd=4)(hc:aB (eX (m.pg k).cl) (c:Int)=true)(hc2:c<256):
  Calls prog 200 #[.pointer (some ⟨b,0,none⟩),.int .i64 k,.int .i64 c,.bool (aJ (m.pg k) c)] w fun e w'=>e=.returned (.int .i64 1)/\Kt nO w w':=by
 have HM:=aA h;obtain⟨g,hg,hr⟩:=h.has_row (by omega);have S:=aA (kA b B m g k w h hg hk);rw[if_pos hkd] at S;obtain⟨d0,d1,d2,d3,d4,d5,d6,d7,d8,d9,d10⟩:=hr.cell k hk;have HC:=aA (pO g (k*11) (m.pg k).cl (h.ok k hk).c0 (h.ok k hk).c7 c w d2);rw[hc] at HC;have HL:=aA (DG (m.pg k) (h.ok k hk) c hc2 w);generalize aJ (m.pg k) c=lv at *;clear h hr hg;go_enter func200,ntmps200;go_wp2_with fail;refine S.out.mono ?_;rintro e w1 ⟨rfl,rfl⟩;go_wp2_with fail;refine HC.out.mono ?_;rintro e w1 ⟨rfl,rfl⟩;go_wp2_with fail;refine HL.out.mono ?_;rintro e w2 ⟨rfl,k2⟩;have K2:=aA k2;clear k2
 cases lv
 all_goals
  go_wp2_with fail;go_ret;exact⟨rfl,K2.out⟩
theorem bH.bits{w g n pg}(h:bH w g n pg)(i:Nat)(hi:i<n)(t:Pg)(x:Int)(hr:t.kd=(pg i).kd/\t.od=(pg i).od/\t.cl=(pg i).cl/\t.lv=(pg i).lv/\t.nx=(pg i).nx/\t.pv=(pg i).pv/\t.fs=(pg i).fs):
  bH (((((w.setCell ⟨g,i*11+7,none⟩ (.int .u64 t.b0)).setCell ⟨g,i*11+7+1,none⟩ (.int .u64 t.b1)).setCell ⟨g,i*11+7+2,none⟩ (.int .u64 t.b2)).setCell ⟨g,i*11+7+3,none⟩ (.int .u64 t.b3)).setCell ⟨g,i*11+3,none⟩ (.int .i64 x)) g n (aK pg i { t with lv:=x }):=by
 have:=(((((aV.set h i 7 hi (by decide) (.int .u64 t.b0)).set i 8 hi (by decide) (.int .u64 t.b1)).set i 9 hi (by decide) (.int .u64 t.b2)).set i 10 hi (by decide) (.int .u64 t.b3)).set i 3 hi (by decide) (.int .i64 x));obtain⟨e0,e1,e2,e3,e4,e5,e6⟩:=hr;refine aV.congr this (fun a ha b hb=>qX a b hb (fun j hj=>?_) (fun e=>?_))
 ·revert j
  apply gU <;> simp[kP,Pg.fld,e0,e1,e2,e4,e5,e6]
 ·simp[kP,e]
def bY(p:Pg)(c:Nat):Pg:={ dY p c with lv:=wrap64 (if aJ p c=true then p.lv-1 else p.lv+1) }
theorem WI(b:Nat)(B:Bs)(m:Mp)(k c:Nat)(w:World)(h:MpA w b B m)(hk:k<m.n)(hkd:(m.pg k).kd=4)(hc:aB (eX (m.pg k).cl) (c:Int)=true)(hc2:c<256):
  Calls prog 200 #[.pointer (some ⟨b,0,none⟩),.int .i64 k,.int .i64 c,.bool (!aJ (m.pg k) c)] w fun e w'=>e=.returned (.int .i64 0)/\MpA w' b B { m with pg:=aK m.pg k (bY (m.pg k) c) }/\Kt (aO b B m.o) w w':=by
 have HM:=aA h;obtain⟨g,hg,hr⟩:=h.has_row (by omega);have S:=aA (kA b B m g k w h hg hk);rw[if_pos hkd] at S;obtain⟨d0,d1,d2,d3,d4,d5,d6,d7,d8,d9,d10⟩:=hr.cell k hk;have HC:=aA (pO g (k*11) (m.pg k).cl (h.ok k hk).c0 (h.ok k hk).c7 c w d2);rw[hc] at HC;have HL:=aA (DG (m.pg k) (h.ok k hk) c hc2 w);have HT:=aA (zhv (m.pg k) (h.ok k hk) c hc2);have OP:=aA (show bY (m.pg k) c={ dY (m.pg k) c with lv:=wrap64 (if aJ (m.pg k) c=true then (m.pg k).lv-1 else (m.pg k).lv+1) } from rfl);have HG:=aA hg;have HK:=aA hk;have OK:=aA ((h.ok k hk).turn c);have TR:=aA (uU (m.pg k) c);generalize dY (m.pg k) c=tp at *;generalize aJ (m.pg k) c=lv at *;clear h hr hg hk;go_enter func200,ntmps200;go_wp2_with fail;refine S.out.mono ?_;rintro e w1 ⟨rfl,rfl⟩;go_wp2_with fail;refine HC.out.mono ?_;rintro e w1 ⟨rfl,rfl⟩;go_wp2_with fail;refine HL.out.mono ?_;rintro e w2 ⟨rfl,k2⟩;have M2:=aA (HM.out.keep k2);have K2:=aA k2;clear k2 d0 d1 d2 d3 d4 d5 d6 d7 d8 d9 d10;obtain⟨d0,d1,d2,d3,d4,d5,d6,d7,d8,d9,d10⟩:=(M2.out.rowg HG.out).cell k HK.out
 cases lv
 all_goals
  go_wp2_with fail;refine(HT.out _).mono ?_;rintro e w3 ⟨rfl,k3⟩;have M3:=aA (M2.out.keep k3);have K3:=aA (nT K2.out k3);clear k3 d0 d1 d2 d3 d4 d5 d6 d7 d8 d9 d10;obtain⟨d0,d1,d2,d3,d4,d5,d6,d7,d8,d9,d10⟩:=(M3.out.rowg HG.out).cell k HK.out;have z:=aV.froz (M3.out.rowg HG.out);go_wp2_with fail;go_ret;rw[OP.out];refine⟨rfl,M3.out.pages HG.out ?_ ((M3.out.rowg HG.out).bits k HK.out tp _ TR.out) (fun i hi=>?_),?_⟩
  ·exact(((((Kt.refl (fun x=>x=g) w3).setCell (p:=⟨g,_,none⟩) rfl _).setCell (p:=⟨g,_,none⟩) rfl _).setCell (p:=⟨g,_,none⟩) rfl _).setCell (p:=⟨g,_,none⟩) rfl _).setCell (p:=⟨g,_,none⟩) rfl _
  ·unfold aK;split
   ·exact⟨OK.out.o0,OK.out.o8,OK.out.c0,OK.out.c7,OK.out.b0,OK.out.b1,OK.out.b2,OK.out.b3⟩
   ·exact M3.out.ok i hi
  ·exact((((((K3.out.mono (fun _ _ x=>x.elim)).setCell (p:=⟨g,_,none⟩) (.inr (.inl HG.out)) _).setCell (p:=⟨g,_,none⟩) (.inr (.inl HG.out)) _).setCell (p:=⟨g,_,none⟩) (.inr (.inl HG.out)) _).setCell (p:=⟨g,_,none⟩) (.inr (.inl HG.out)) _).setCell (p:=⟨g,_,none⟩) (.inr (.inl HG.out)) _)
end Go.Proofs.YtkfmheelhinjdaaGreatDoor
