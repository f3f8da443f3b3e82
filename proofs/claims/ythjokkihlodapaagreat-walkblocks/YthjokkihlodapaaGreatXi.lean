import Derived.Test.YthjokkihlodapaaGreatXf
set_option maxRecDepth 1000000
set_option maxHeartbeats 80000000
/- Sets of pages. -/
namespace Go.Proofs.YthjokkihlodapaaGreat
open Go.RowKit
set_option linter.unusedVariables false

/-- A new set in which just those pages are. -/
def PsP (w : World) (n : Nat) (B : Nat → Bool) (e : Ending) (w' : World) : Prop := ∃ sb sc ws, e = .returned (.pointer (some ⟨sb, 0, none⟩)) ∧ SetAt w' sb sc n ws ∧ w.heap.size ≤ sb ∧ w.heap.size ≤ sc ∧ (∀ i, i < n → bit ws i = B i) ∧ Kept none' w w'

theorem pagesF_enter (xs : Array Value) (w : World) : Sem.run Tryz.prog (callFunc 100 xs) w = .ok (.enter 100 xs) w := by
  simp [callFunc, go_sem, Tryz.func100]
  rfl
set_option maxRecDepth 6000 in
set_option maxHeartbeats 8000000 in
theorem pagesF (b cb : Nat) (I : Img) (V : ImV) (S : Pg → Bool) (w : World) (hI : ImAt w b I V) (hnp : I.np ≤ 1024)
    (HS : ∀ i W, i < I.np → Kept none' w W → Calls Tryz.prog 100 #[pgV (I.pg i), .pointer (some ⟨cb, 0, none⟩)] W fun e w' => e = .returned (.bool (S (I.pg i))) ∧ Kept none' W w') :
    Calls Tryz.prog 99 #[.pointer (some ⟨b, 0, none⟩), .func (.func 100) #[] #[.pointer (some ⟨cb, 0, none⟩)]] w (PsP w I.np fun i => S (I.pg i)) := by
  obtain ⟨-, ⟨pa, pc, hp⟩, -, -, -, -, bp, -, -⟩ := hI.d.sl
  obtain ⟨c0, c1, c2, c3, c4, c5, c6, c7, c8⟩ := hI.cells
  rw [hp] at c5
  have HI := hid hI
  have SP := hid hp
  have HSC := hid HS
  obtain ⟨n, hn⟩ : ∃ n, n = I.np := ⟨_, rfl⟩
  rw [← hn] at hnp c5
  have HN := hid hn
  have hent := pagesF_enter
  clear hI hp HS bp
  have GOAL := hid (show ∀ W' ws, SetAt W' (w.heap.size + 1) w.heap.size n ws → (∀ i, i < n → bit ws i = S (I.pg i)) → Kept none' w W' → PsP w I.np (fun i => S (I.pg i)) (.returned (.pointer (some ⟨w.heap.size + 1, 0, none⟩))) W' from fun W' ws h1 h2 h3 => ⟨_, _, ws, rfl, by rw [← hn]; exact h1, Nat.le_succ _, Nat.le_refl _, by rw [← hn]; exact h2, h3⟩)
  clear hn
  go_enter Tryz.func99, Tryz.ntmps99
  go_wp2_with fail
  refine (newSet_any (n : Int) (by omega) (by omega) w).mono ?_
  rintro e w1 ⟨rfl, hraw, hk, hsz⟩
  have hfit : fit (n : Int) = n := by unfold fit; split <;> (try split) <;> omega
  rw [hfit] at hraw
  have ST := hid (hraw.set (fun i hi => by rw [zeros_get]; exact Nat.two_pow_pos _))
  have K1 := hid (show Kept none' w w1 from hk)
  have SIZ := hid (show w.heap.size < w1.heap.size by omega)
  have GE := hid (show w.heap.size ≤ w.heap.size from Nat.le_refl _)
  generalize hsb : w.heap.size + 1 = sb at *
  generalize hsc : w.heap.size = sc at *
  have HSC0 := hid hsc
  have d5 : w1.cell? ⟨b, 5, none⟩ = some (.slice pa n pc) := K1.out.cell (fun x => x) c5
  clear hraw hk hsz hfit hsb hsc c0 c1 c2 c3 c4 c5 c6 c7 c8
  go_wp2_with fail
  clear d5
  go_loopw [19] (fun i W => ∃ a : Nat, a ≤ n ∧ i = .int .i64 a ∧ Hid (Kept none' w W ∧ ∃ ws, SetAt W sb sc n ws ∧ (∀ j, j < a → bit ws j = S (I.pg j)))) (fun i _ => n - (intOf i).toNat)
  case atStart => exact ⟨0, Nat.zero_le _, rfl, hid ⟨K1.out, _, ST.out, fun x hx => by omega⟩⟩
  case round =>
    clear K1 ST SIZ
    obtain ⟨a, ha, rfl, hR⟩ := hrel
    have A0 := hid (HI.out.keep hR.out.1)
    by_cases hlt : a < n
    · have hai : (a : Int) < (n : Int) := by omega
      have hlt' : a < I.np := by rw [← HN.out]; exact hlt
      obtain ⟨bl, o, oc', hv', hpi, hpc⟩ := A0.out.page a hlt'
      rw [SP.out] at hv'
      injection hv' with e1 e2 e3
      subst e1
      obtain ⟨hkw, ws, hst, hbt⟩ := hR.out
      have PB := hid (PbI.mk' (w := w) A0.out hkw (I.pg a))
      have ST1 := hid (hst.kept (show Kept none' wr (wr.alloc (pgO (I.pg a))) from (Kept.refl _ _).alloc _) (fun x => x) (fun x => x))
      have BT := hid hbt
      have HLN := hid hst.len
      have HCL := hid (fun W hW => HSC.out a W hlt' hW)
      obtain ⟨sv, hsv⟩ : ∃ sv, sv = S (I.pg a) := ⟨_, rfl⟩
      rw [← hsv] at HCL
      have HSV := hid hsv
      obtain ⟨d0, d1, d2, d3, d4, d5, d6, d7, d8, d9, d10⟩ := hpc.c
      clear hpi hpc e2 e3 hkw hst hbt hsv
      go_wp2_with fail
      generalize hpp : I.pg a = p at *
      have HPP := hid hpp
      clear hpp
      generalize wr.alloc (pgO p) = W1 at *
      generalize wr.heap.size = g at *
      refine (HCL.out W1 PB.out.k).mono ?_
      rintro e w2 ⟨rfl, hk⟩
      have PB2 := hid (PB.out.keep hk)
      have ST2 := hid (ST1.out.kept hk (fun x => x) (fun x => x))
      clear hk d0 d1 d2 d3 d4 d5 d6 d7 d8 d9 d10
      go_wp2_with fail
      refine (put_any sb sc n ws (a : Int) sv w2 ST2.out).mono ?_
      rintro e w3 ⟨rfl, h1, h2, h3⟩
      have R2 := hid (show Kept none' w w3 ∧ ∃ ws, SetAt w3 sb sc n ws ∧ (∀ j, j < a + 1 → bit ws j = S (I.pg j)) from ⟨PB2.out.k.trans h2 (fun _ _ x => x) (fun x hx e => by have := HSC0.out; omega), _, h1, fun j hj => by
        rw [bit_putI HLN.out a hlt sv j]
        by_cases e : j = a
        · rw [if_pos e, e, HSV.out, HPP.out]
        · rw [if_neg e]; exact BT.out j (by omega)⟩)
      clear h1 h2 h3
      go_wp2_with fail
      go_round
      case rel => exact ⟨a + 1, by omega, by go_num, R2⟩
      case measure => simp [intOf]; omega
    · obtain rfl : a = n := by omega
      have hai : ¬ (a : Int) < (a : Int) := by omega
      go_wp2_with fail
      go_ret
      obtain ⟨h1, ws, h2, h3⟩ := hR.out
      exact GOAL.out wr ws h2 h3 h1

theorem pagesP_enter (xs : Array Value) (w : World) : Sem.run Tryz.prog (callFunc 105 xs) w = .ok (.enter 105 xs) w := by
  simp [callFunc, go_sem, Tryz.func105]
  rfl
set_option maxRecDepth 6000 in
set_option maxHeartbeats 8000000 in
theorem pagesP (b cb : Nat) (I : Img) (V : ImV) (S : Pg → Bool) (w : World) (hI : ImAt w b I V) (hnp : I.np ≤ 1024)
    (HS : ∀ i W, i < I.np → Kept none' w W → Calls Tryz.prog 105 #[pgV (I.pg i), .pointer (some ⟨cb, 0, none⟩)] W fun e w' => e = .returned (.bool (S (I.pg i))) ∧ Kept none' W w') :
    Calls Tryz.prog 99 #[.pointer (some ⟨b, 0, none⟩), .func (.func 105) #[] #[.pointer (some ⟨cb, 0, none⟩)]] w (PsP w I.np fun i => S (I.pg i)) := by
  obtain ⟨-, ⟨pa, pc, hp⟩, -, -, -, -, bp, -, -⟩ := hI.d.sl
  obtain ⟨c0, c1, c2, c3, c4, c5, c6, c7, c8⟩ := hI.cells
  rw [hp] at c5
  have HI := hid hI
  have SP := hid hp
  have HSC := hid HS
  obtain ⟨n, hn⟩ : ∃ n, n = I.np := ⟨_, rfl⟩
  rw [← hn] at hnp c5
  have HN := hid hn
  have hent := pagesP_enter
  clear hI hp HS bp
  have GOAL := hid (show ∀ W' ws, SetAt W' (w.heap.size + 1) w.heap.size n ws → (∀ i, i < n → bit ws i = S (I.pg i)) → Kept none' w W' → PsP w I.np (fun i => S (I.pg i)) (.returned (.pointer (some ⟨w.heap.size + 1, 0, none⟩))) W' from fun W' ws h1 h2 h3 => ⟨_, _, ws, rfl, by rw [← hn]; exact h1, Nat.le_succ _, Nat.le_refl _, by rw [← hn]; exact h2, h3⟩)
  clear hn
  go_enter Tryz.func99, Tryz.ntmps99
  go_wp2_with fail
  refine (newSet_any (n : Int) (by omega) (by omega) w).mono ?_
  rintro e w1 ⟨rfl, hraw, hk, hsz⟩
  have hfit : fit (n : Int) = n := by unfold fit; split <;> (try split) <;> omega
  rw [hfit] at hraw
  have ST := hid (hraw.set (fun i hi => by rw [zeros_get]; exact Nat.two_pow_pos _))
  have K1 := hid (show Kept none' w w1 from hk)
  have SIZ := hid (show w.heap.size < w1.heap.size by omega)
  have GE := hid (show w.heap.size ≤ w.heap.size from Nat.le_refl _)
  generalize hsb : w.heap.size + 1 = sb at *
  generalize hsc : w.heap.size = sc at *
  have HSC0 := hid hsc
  have d5 : w1.cell? ⟨b, 5, none⟩ = some (.slice pa n pc) := K1.out.cell (fun x => x) c5
  clear hraw hk hsz hfit hsb hsc c0 c1 c2 c3 c4 c5 c6 c7 c8
  go_wp2_with fail
  clear d5
  go_loopw [19] (fun i W => ∃ a : Nat, a ≤ n ∧ i = .int .i64 a ∧ Hid (Kept none' w W ∧ ∃ ws, SetAt W sb sc n ws ∧ (∀ j, j < a → bit ws j = S (I.pg j)))) (fun i _ => n - (intOf i).toNat)
  case atStart => exact ⟨0, Nat.zero_le _, rfl, hid ⟨K1.out, _, ST.out, fun x hx => by omega⟩⟩
  case round =>
    clear K1 ST SIZ
    obtain ⟨a, ha, rfl, hR⟩ := hrel
    have A0 := hid (HI.out.keep hR.out.1)
    by_cases hlt : a < n
    · have hai : (a : Int) < (n : Int) := by omega
      have hlt' : a < I.np := by rw [← HN.out]; exact hlt
      obtain ⟨bl, o, oc', hv', hpi, hpc⟩ := A0.out.page a hlt'
      rw [SP.out] at hv'
      injection hv' with e1 e2 e3
      subst e1
      obtain ⟨hkw, ws, hst, hbt⟩ := hR.out
      have PB := hid (PbI.mk' (w := w) A0.out hkw (I.pg a))
      have ST1 := hid (hst.kept (show Kept none' wr (wr.alloc (pgO (I.pg a))) from (Kept.refl _ _).alloc _) (fun x => x) (fun x => x))
      have BT := hid hbt
      have HLN := hid hst.len
      have HCL := hid (fun W hW => HSC.out a W hlt' hW)
      obtain ⟨sv, hsv⟩ : ∃ sv, sv = S (I.pg a) := ⟨_, rfl⟩
      rw [← hsv] at HCL
      have HSV := hid hsv
      obtain ⟨d0, d1, d2, d3, d4, d5, d6, d7, d8, d9, d10⟩ := hpc.c
      clear hpi hpc e2 e3 hkw hst hbt hsv
      go_wp2_with fail
      generalize hpp : I.pg a = p at *
      have HPP := hid hpp
      clear hpp
      generalize wr.alloc (pgO p) = W1 at *
      generalize wr.heap.size = g at *
      refine (HCL.out W1 PB.out.k).mono ?_
      rintro e w2 ⟨rfl, hk⟩
      have PB2 := hid (PB.out.keep hk)
      have ST2 := hid (ST1.out.kept hk (fun x => x) (fun x => x))
      clear hk d0 d1 d2 d3 d4 d5 d6 d7 d8 d9 d10
      go_wp2_with fail
      refine (put_any sb sc n ws (a : Int) sv w2 ST2.out).mono ?_
      rintro e w3 ⟨rfl, h1, h2, h3⟩
      have R2 := hid (show Kept none' w w3 ∧ ∃ ws, SetAt w3 sb sc n ws ∧ (∀ j, j < a + 1 → bit ws j = S (I.pg j)) from ⟨PB2.out.k.trans h2 (fun _ _ x => x) (fun x hx e => by have := HSC0.out; omega), _, h1, fun j hj => by
        rw [bit_putI HLN.out a hlt sv j]
        by_cases e : j = a
        · rw [if_pos e, e, HSV.out, HPP.out]
        · rw [if_neg e]; exact BT.out j (by omega)⟩)
      clear h1 h2 h3
      go_wp2_with fail
      go_round
      case rel => exact ⟨a + 1, by omega, by go_num, R2⟩
      case measure => simp [intOf]; omega
    · obtain rfl : a = n := by omega
      have hai : ¬ (a : Int) < (a : Int) := by omega
      go_wp2_with fail
      go_ret
      obtain ⟨h1, ws, h2, h3⟩ := hR.out
      exact GOAL.out wr ws h2 h3 h1
end Go.Proofs.YthjokkihlodapaaGreat
