/- A few answers that the document tells. -/
import Derived.Test.YtnkoheanjaapjaaLawC
namespace Go.Proofs.Ytnkoheanjaapjaa
open Go.RowKit Go.Shelf
set_option linter.unusedVariables false

/-- The state of a list, as a thing: bytes, head, answer. -/
abbrev St := (Nat → Nat) × Nat × Nat
def pushS (s : St) (p : Nat) : St := pushR 4096 4096 s.1 s.2.1 p
def remS (s : St) (p : Nat) : St := removeR 4096 4096 s.1 s.2.1 p
def S0 : St := (fun _ => 0, 0, 0)
def popS (s : St) : St := ((popR 4096 4096 s.1 s.2.1).1, (popR 4096 4096 s.1 s.2.1).2.1, 0)

/-- The contracts, at a state. -/
theorem pushS_any (c b g : Nat) (s : St) (p : Nat) (hp : p < 18446744073709551616) (w : World) (h : LS w c b (some g) 4096 4096 1 4096 s.1 s.2.1) :
    Calls Try.prog 13 #[.pointer (some ⟨c, 0, none⟩), .int .u64 (p : Int)] w fun e w' => e = .returned (.int .i64 ((pushS s p).2.2 : Int)) ∧ LS w' c b (some g) 4096 4096 1 4096 (pushS s p).1 (pushS s p).2.1 ∧ Kept (lown c b (some g)) w w' := Push_any c b (some g) 4096 4096 1 4096 s.1 s.2.1 p hp w h
theorem remS_any (c b g : Nat) (s : St) (p : Nat) (hp : p < 18446744073709551616) (w : World) (h : LS w c b (some g) 4096 4096 1 4096 s.1 s.2.1) :
    Calls Try.prog 14 #[.pointer (some ⟨c, 0, none⟩), .int .u64 (p : Int)] w fun e w' => e = .returned (.int .i64 ((remS s p).2.2 : Int)) ∧ LS w' c b (some g) 4096 4096 1 4096 (remS s p).1 (remS s p).2.1 ∧ Kept (lown c b (some g)) w w' := Remove_any c b (some g) 4096 4096 1 4096 s.1 s.2.1 p hp w h

/-- What is new since B is changed. -/
theorem fresh_lown {B c b g : Nat} {w w' : World} (h : Kept (lown c b (some g)) w w') (hc : B ≤ c) (hb : B ≤ b) (hg : B ≤ g) : Kept (from' B) w w' := h.mono (fun x _ hx => by
  unfold from'
  rcases hx with rfl | rfl | e
  · exact hc
  · exact hb
  · cases e; exact hg)
theorem fresh_none {B : Nat} {w w' : World} (h : Kept none' w w') : Kept (from' B) w w' := h.mono (fun x _ hx => hx.elim)
theorem from_none {w w' : World} (h : Kept (from' w.heap.size) w w') : Kept none' w w' := h.mono (fun x hx hf => absurd hf (by unfold from'; omega))

/-- A list that is written out. -/
theorem Wds.lit (w : World) (xs : List Nat) (hlt : ∀ x ∈ xs, x < 18446744073709551616) (cs : Array Value) (hcs : cs = (xs.map e64).toArray) : Wds (w.alloc (.cells cs 27)) (.slice (some ⟨w.heap.size, 0, none⟩) xs.length xs.length) xs := by
  refine ⟨hlt, some w.heap.size, xs.length, rfl, fun _ => ⟨_, rfl⟩, fun g hg => ?_⟩
  cases hg
  refine ⟨by simp, Nat.le_refl _, fun i hi => ?_⟩
  subst hcs
  simp only [World.cell?, heap_new]
  simp [hi, List.getD]

def Sl1 : St := pushS S0 4096
def Sl2 : St := pushS Sl1 4160
def Sl3 : St := pushS Sl2 4128
def Sl4 : St := remS Sl3 4160
def Sl5 : St := remS Sl4 4160
theorem Sl1_0 : Sl1.2.2 = 0 := by decide +kernel
theorem Sl2_1 : Sl2.2.2 = 0 := by decide +kernel
theorem Sl3_2 : Sl3.2.2 = 0 := by decide +kernel
theorem Sl3_3 : Sl3.2.1 = 4128 := by decide +kernel
theorem Sl3_4 : walkR 4096 4096 Sl3.1 256 0 4128 = [4128, 4160, 4096] := by decide +kernel
theorem Sl3_5 : Sl3.2.1 = 4128 := by decide +kernel
theorem Sl4_6 : Sl4.2.2 = 0 := by decide +kernel
theorem Sl4_7 : word Sl4.1 (4128 - 4096) = 4096 := by decide +kernel
theorem Sl4_8 : word Sl4.1 (4104 - 4096) = 4128 := by decide +kernel
theorem Sl5_9 : Sl5.2.2 = 8 := by decide +kernel

theorem lives_any (w : World) :
    Calls Try.prog 9 #[] w fun e w' => e = .returned (.bool true) ∧ Kept none' w w' := by
  go_enter Try.func9, Try.ntmps9
  go_wp2_with fail
  refine (small_any _).mono ?_
  rintro e w1 ⟨b, g, rfl, hS, hK, hb, hg⟩
  have HS := hid hS
  have K1 := hid (fresh_none (B := w.heap.size) hK)
  have HB := hid hb
  have HG := hid hg
  clear hS hK hb hg
  go_wp2_with fail
  refine (newList_any b 0 (by decide) _).mono ?_
  rintro e w2 ⟨c, rfl, hL, hK, hc⟩
  have H2 := hid (show LS w2 c b (some g) 4096 4096 1 4096 S0.1 S0.2.1 from ⟨HS.out.keep hK, hL⟩)
  have HC := hid (show w.heap.size ≤ c from Nat.le_trans K1.out.size hc)
  have K2 := hid (K1.out.then' (fresh_none hK))
  clear hL hK hc HS K1
  go_wp2_with fail
  refine (pushS_any c b g S0 4096 (by decide) _ H2.out).mono ?_
  rintro e w3 ⟨rfl, hL, hK⟩
  rw [show (pushS S0 4096).2.2 = 0 from Sl1_0]
  have H3 := hid (show LS w3 c b (some g) 4096 4096 1 4096 Sl1.1 Sl1.2.1 from hL)
  have K3 := hid (K2.out.then' (fresh_lown hK HC.out HB.out HG.out))
  clear hL hK H2 K2
  go_wp2_with fail
  refine (pushS_any c b g Sl1 4160 (by decide) _ H3.out).mono ?_
  rintro e w4 ⟨rfl, hL, hK⟩
  rw [show (pushS Sl1 4160).2.2 = 0 from Sl2_1]
  have H4 := hid (show LS w4 c b (some g) 4096 4096 1 4096 Sl2.1 Sl2.2.1 from hL)
  have K4 := hid (K3.out.then' (fresh_lown hK HC.out HB.out HG.out))
  clear hL hK H3 K3
  go_wp2_with fail
  refine (pushS_any c b g Sl2 4128 (by decide) _ H4.out).mono ?_
  rintro e w5 ⟨rfl, hL, hK⟩
  rw [show (pushS Sl2 4128).2.2 = 0 from Sl3_2]
  have H5 := hid (show LS w5 c b (some g) 4096 4096 1 4096 Sl3.1 Sl3.2.1 from hL)
  have K5 := hid (K4.out.then' (fresh_lown hK HC.out HB.out HG.out))
  clear hL hK H4 K4
  go_wp2_with fail
  refine (Head_any c b 4128 _ (by have := H5.out.l; rw [Sl3_3] at this; exact this)).mono ?_
  rintro e w6 ⟨rfl, hw⟩
  subst hw
  go_wp2_with fail
  refine (all_any c b (some g) 4096 4096 1 4096 Sl3.1 4128 0 (by decide) (by decide) _ (by have := H5.out; rw [Sl3_5] at this; exact this)).mono ?_
  rintro e w6 ⟨v, rfl, hV, hK, -⟩
  rw [show walkR 4096 4096 Sl3.1 (4096 / 16) 0 4128 = [4128, 4160, 4096] from Sl3_4] at hV
  have H6 := hid (H5.out.keep hK)
  have K6 := hid (K5.out.then' (fresh_none hK))
  have HV := hid (hV.keep ((Kept.refl none' w6).alloc (.cells #[.int .u64 4128, .int .u64 4160, .int .u64 4096] 27))).wds
  have HX := hid (Wds.lit w6 [4128, 4160, 4096] (by decide) #[.int .u64 4128, .int .u64 4160, .int .u64 4096] rfl)
  clear hV hK H5 K5
  go_wp2_with fail
  refine (same_any v _ [4128, 4160, 4096] [4128, 4160, 4096] (by decide) _ HV.out HX.out).mono ?_
  rintro e w7 ⟨rfl, hK⟩
  rw [show decide ([4128, 4160, 4096] = [4128, 4160, 4096]) = true from rfl]
  have H7 := hid ((H6.out.keep ((Kept.refl none' w6).alloc _)).keep hK)
  have K7 := hid ((K6.out.then' (fresh_none ((Kept.refl none' w6).alloc _))).then' (fresh_none hK))
  clear hK HV HX H6 K6
  go_wp2_with fail
  refine (remS_any c b g Sl3 4160 (by decide) _ H7.out).mono ?_
  rintro e w8 ⟨rfl, hL, hK⟩
  rw [show (remS Sl3 4160).2.2 = 0 from Sl4_6]
  have H8 := hid (show LS w8 c b (some g) 4096 4096 1 4096 Sl4.1 Sl4.2.1 from hL)
  have K8 := hid (K7.out.then' (fresh_lown hK HC.out HB.out HG.out))
  clear hL hK H7 K7
  go_wp2_with fail
  refine (lword_any b (some g) 4096 4096 1 4096 Sl4.1 4128 (by decide) _ H8.out.s).mono ?_
  rintro e w9 ⟨rfl, hK⟩
  rw [if_pos (show In 4096 4096 4128 8 by decide), Sl4_7]
  have H9 := hid (H8.out.keep hK)
  have K9 := hid (K8.out.then' (fresh_none hK))
  clear hK H8 K8
  go_wp2_with fail
  refine (lword_any b (some g) 4096 4096 1 4096 Sl4.1 4104 (by decide) _ H9.out.s).mono ?_
  rintro e w10 ⟨rfl, hK⟩
  rw [if_pos (show In 4096 4096 4104 8 by decide), Sl4_8]
  have H10 := hid (H9.out.keep hK)
  have K10 := hid (K9.out.then' (fresh_none hK))
  clear hK H9 K9
  go_wp2_with fail
  refine (remS_any c b g Sl4 4160 (by decide) _ H10.out).mono ?_
  rintro e w11 ⟨rfl, hL, hK⟩
  rw [show (remS Sl4 4160).2.2 = 8 from Sl5_9]
  have H11 := hid (show LS w11 c b (some g) 4096 4096 1 4096 Sl5.1 Sl5.2.1 from hL)
  have K11 := hid (K10.out.then' (fresh_lown hK HC.out HB.out HG.out))
  clear hL hK H10 K10
  go_wp2_with fail
  go_ret
  exact ⟨rfl, from_none K11.out⟩
end Go.Proofs.Ytnkoheanjaapjaa
