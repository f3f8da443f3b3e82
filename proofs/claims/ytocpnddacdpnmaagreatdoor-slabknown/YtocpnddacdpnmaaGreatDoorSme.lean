/- SlabKnown: the states; pages and words that are looked at. -/
import Derived.Test.YtocpnddacdpnmaaGreatDoorSmd
namespace Go.Proofs.YtocpnddacdpnmaaGreatDoor
open Go.RowKit
set_option linter.unusedVariables false

theorem Lnk.mid {x : Bx} {f : Nat → Nat} {p k i : Nat} {r : List Nat} : ∀ {l : List Nat}, Lnk x f p k (l ++ i :: r) → M.word f (4096 * p + i * szC k) = lkA x p k r
  | [], h => h.1
  | _ :: l, h => Lnk.mid (l := l) h.2
/-- The address of what heads a list of cells. -/
def lkK (g k : Nat) : List Nat → Nat
  | [] => 0
  | j :: _ => 65536 + 4096 * g + j * szC k
theorem KS7.map {w W E sb lw n f0 f1 ls S} (s : KS7 w W E sb lw n f0 f1 ls S) : ∃ m, Calls Tryz.prog 15 #[.pointer (some ⟨lw, 0, none⟩)] W (fun e w' => e = .returned (.pointer (some ⟨m, 0, none⟩)) ∧ w' = W) ∧
    ∀ W', Kept none' W W' → ∀ g k, S.c g = some k → ∃ q, SlP S g k q ∧ Calls Tryz.prog 16 #[.pointer (some ⟨m, 0, none⟩), .int .i64 (g : Int)] W' fun e w' => e = .returned (.tuple #[pval q, .bool true]) ∧ Kept none' W' w' := by
  obtain ⟨x, t, fr, h, o, v, hE, r⟩ := s
  refine ⟨x.m, Map6 o.sw.pl, fun W' kp g k hg => ⟨t.m.pg g, (o.si.pg g k hg).2, ?_⟩⟩
  exact at_in x.m x.B t.m g W' (o.keep kp).sw.pl.bd.mp (o.mem hg).2.1
theorem KS7.space {w W E sb lw n f0 f1 ls S} (s : KS7 w W E sb lw n f0 f1 ls S) : ∃ sp, Calls Tryz.prog 27 #[.pointer (some ⟨lw, 0, none⟩)] W (fun e w' => e = .returned (.pointer (some ⟨sp, 0, none⟩)) ∧ w' = W) ∧
    ∀ W', Kept none' W W' → ∀ g k i l r, S.c g = some k → S.fl g = l ++ i :: r → Calls Tryz.prog 45 #[.pointer (some ⟨sp, 0, none⟩), .int .u64 ((65536 + 4096 * g + i * szC k : Nat) : Int)] W' fun e w' => e = .returned (.tuple #[.int .u64 ((lkK g k r : Nat) : Int), .int .i64 0]) ∧ Kept none' W' w' := by
  obtain ⟨x, t, fr, h, o, v, hE, hb, r0⟩ := s
  refine ⟨x.s, Space6 o.sw.pl, fun W' kp g k i l r hg hf => ?_⟩
  obtain ⟨h1, h2, h3⟩ := o.si.fl g k hg
  have hk := (o.si.pg g k hg).1
  have hi : i < ncl k := h2 i (by rw [hf]; simp)
  obtain ⟨_, _, hp1, hpb⟩ := o.mem hg
  have n4 := o.po.nums.2.2.2.1
  obtain ⟨c1, c2, c3⟩ := off_cell (x := x) (p := g) hk hi (by omega)
  have hz := szC_le hk
  have hca : caN x g k i = 65536 + 4096 * g + i * szC k := by unfold caN; rw [hb]
  have := Word_s (o.keep kp).sw (caN x g k i) (by unfold M.In; omega)
  rw [hf] at h3
  have hw := h3.mid
  rw [show caN x g k i - x.base = 4096 * g + i * szC k by omega, hw, hca] at this
  rw [show lkK g k r = lkA x g k r from by
    cases r with
    | nil => rfl
    | cons j r => unfold lkA caN; rw [hb]; rfl]
  exact this
theorem KS7.cells {w W E sb lw n f0 f1 ls S} (s : KS7 w W E sb lw n f0 f1 ls S) {y a b c o2 lw2 sb2 : Nat} {fv lv pv qv : Value} {po pp : Int} (hy : E y) (hx : W.heap[y]? = some (w7O a b c lw2 sb2 fv lv pv qv po pp)) : y < W.heap.size := heap_lt hx
/-- croftlaw7.word of a free cell's link. -/
theorem KS7.word {w W E sb lw n f0 f1 ls S} (s : KS7 w W E sb lw n f0 f1 ls S) {wb : Nat} {fv lv pv qv : Value} {po pp : Int} (hx : W.heap[wb]? = some (w7O 65536 1 1 lw sb fv lv pv qv po pp)) (g k i : Nat) (l r : List Nat) (hg : S.c g = some k) (hf : S.fl g = l ++ i :: r) (a v : Nat) (ha : a = 65536 + 4096 * g + i * szC k) (hv : v = lkK g k r) :
    Calls Tryz.prog 14 #[.pointer (some ⟨wb, 0, none⟩), .int .u64 (a : Int)] W fun e w' => e = .returned (.int .u64 (v : Int)) ∧ Kept none' W w' := by
  obtain ⟨sp, h1, h2⟩ := s.space
  have SP := hid h1
  have WD := hid (h2 W (Kept.refl none' W) g k i l r hg hf)
  rw [← ha, ← hv] at WD
  obtain ⟨c3, c4⟩ := w7c hx
  clear h1 h2 ha hv hf hg s hx
  go_enter Tryz.func14, Tryz.ntmps14
  go_wp2_with fail
  refine SP.out.mono ?_
  rintro e w1 ⟨rfl, h1⟩
  replace h1 := h1.symm
  subst h1
  go_wp2_with fail
  refine WD.out.mono ?_
  rintro e w2 ⟨rfl, hk⟩
  have K2 := hid hk
  clear hk c3 c4
  go_wp2_with fail
  go_ret
  exact ⟨rfl, K2.out⟩
/-- The states behind S2. -/
def S3 : Sb := takS (freS S2 1 7) 1 7 (List.range' 1 (ncl 7 - 1))
def S4 : Sb := givS S3 0 7 0
def S5 : Sb := relS S4 0 7
def S6 : Sb := takS (freS S5 0 0) 0 0 (List.range' 1 (ncl 0 - 1))
def S7 : Sb := takS S6 0 0 (List.range' 2 254)
def S8 : Sb := givS S7 0 0 0
theorem S2_pl : S2.pl 7 = [] := by decide
theorem S3_pl6 : S3.pl 6 = [] := by decide
theorem S3_c (g : Nat) : S3.c g = if g = 0 ∨ g = 1 then some 7 else none := by
  show updF (updF S0.c 0 (some 7)) 1 (some 7) g = _
  by_cases e : g = 1
  · rw [e, updF_self, if_pos (.inr rfl)]
  · rw [updF_ne _ _ e]
    by_cases e2 : g = 0
    · rw [e2, updF_self, if_pos (.inl rfl)]
    · rw [updF_ne _ _ e2, if_neg (by omega)]
      rfl
theorem S3_fl0 : S3.fl 0 = [] := by decide
theorem S3_fl1 : S3.fl 1 = [1] := by decide
theorem S3_no : ∀ g k i, ¬ Lv7 S3 71680 g k i := by
  rintro g k i ⟨h1, h2, h3, h4⟩
  rw [S3_c] at h1
  by_cases e : g = 0 ∨ g = 1
  · rw [if_pos e] at h1
    cases h1
    rw [show szC 7 = 2048 by decide] at h4
    have hi : i < 2 := h2
    rcases e with rfl | rfl
    · omega
    · have : i = 1 := by omega
      rw [S3_fl1, this] at h3
      exact h3 (List.mem_singleton.2 rfl)
  · rw [if_neg e] at h1
    cases h1
theorem S4_fl0 : S4.fl 0 = [0] := by decide
theorem S4_fl1 : S4.fl 1 = [1] := by decide
theorem S4_pl : S4.pl 7 = [0, 1] := by decide
theorem S4_c (g : Nat) : S4.c g = if g = 0 ∨ g = 1 then some 7 else none := S3_c g
theorem S4_no (a : Nat) (ha : a = 65536 ∨ a = 65537) : ∀ g k i, ¬ Lv7 S4 a g k i := by
  rintro g k i ⟨h1, h2, h3, h4⟩
  rw [S4_c] at h1
  by_cases e : g = 0 ∨ g = 1
  · rw [if_pos e] at h1
    cases h1
    rw [show szC 7 = 2048 by decide] at h4
    have hi : i < 2 := h2
    rcases e with rfl | rfl
    · have : i = 0 := by omega
      rw [S4_fl0, this] at h3
      exact h3 (List.mem_singleton.2 rfl)
    · omega
  · rw [if_neg e] at h1
    cases h1
theorem S5_pl : S5.pl 7 = [1] := by decide
theorem S5_pl0 : S5.pl 0 = [] := by decide
theorem S6_pl : S6.pl 0 = [0] := by decide +kernel
theorem S6_fl : S6.fl 0 = 1 :: List.range' 2 254 := by decide +kernel
theorem S7_pl : S7.pl 0 = [0] := by decide +kernel
theorem S7_fl : S7.fl 0 = [] ++ 2 :: List.range' 3 253 := by decide +kernel
theorem S7_fl2 : S7.fl 0 = List.range' 2 253 ++ 255 :: [] := by decide +kernel
theorem S7_c : S7.c 0 = some 0 := by decide +kernel
theorem S8_pl : S8.pl 0 = [0] := by decide +kernel
theorem S8_fl : S8.fl 0 = 0 :: List.range' 2 254 := by decide +kernel
theorem give0 (fr : Nat → List Nat) (h0 : fr 0 = []) (h1 : fr 1 = []) : giveF 1 fr 0 0 0 = [0] ∧ giveF 1 fr 0 0 1 = [] := by
  have e : joinF 1 (1 - 0) fr 0 0 = (fr, 0, 0) := by
    show (if 0 < 1 ∧ othN 0 0 ∈ fr 0 then _ else _) = _
    rw [if_neg (by rw [h0]; exact fun h => absurd h.2 (by simp))]
  unfold giveF
  rw [e]
  refine ⟨?_, ?_⟩
  · show (if 0 = 0 then 0 :: fr 0 else fr 0) = [0]
    rw [if_pos rfl, h0]
  · show (if 1 = 0 then 0 :: fr 0 else fr 1) = []
    rw [if_neg (by decide), h1]
end Go.Proofs.YtocpnddacdpnmaaGreatDoor
