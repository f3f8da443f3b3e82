/- The document's own sets (croftref1), further: Of, Resize, Words. -/
import Derived.Test.YtahdjaocfejjeaaRefT
namespace Go.Proofs.Ytahdjaocfejjeaa
open Go.RowKit
set_option linter.unusedVariables false

theorem info_bool : (Try.prog.info? 4).map (fun i => (i.zero, i.size, i.bytes)) = some (some (.bool false), 1, 1) := by kernel_rfl
def falses (m : Nat) : List Bool := List.replicate m false
theorem made_truths (m : Nat) : madeCells (Value.bool false).cells (m * 1) = bcells (falses m) := by
  simp only [madeCells, bcells, falses]
  apply Array.ext
  · simp
  · intro i h1 h2
    have : i % 1 = 0 := Nat.mod_one i
    simp [Value.cells, this]
theorem make_truths (m : Nat) (hm : m ≤ 1048576) (w : World) :
    ∃ w1, (Instr.makeSlice 54 (.int .i64 (m : Int)) (.int .i64 (m : Int))).run Try.prog w = .ok (.slice (some ⟨w.heap.size, 0, none⟩) m m) w1 ∧ TrueAt w1 w.heap.size (falses m) ∧ Kept (fun _ => False) w w1 ∧ w1.heap.size = w.heap.size + 1 := by
  obtain ⟨i, hi, hz0, hz1, hz2⟩ := info_parts info_bool
  have := run_make (P := Try.prog) w 54 4 i (.bool false) Try.underlying54 hi hz0 .i64 .i64 (m : Int) (m : Int) (by omega) (by omega) (by rw [hz2]; omega) (by omega)
  rw [hz1] at this
  simp only [Int.toNat_natCast, made_truths] at this
  exact ⟨_, this, ⟨heap_new _ _, by simp [falses]; omega⟩, (Kept.refl _ w).alloc _, by simp⟩

/-- The first k of N truths laid, the rest false. -/
def partB (f : Nat → Bool) (N k : Nat) : List Bool := (List.range N).map fun j => decide (j < k) && f j
theorem partB_len (f : Nat → Bool) (N k : Nat) : (partB f N k).length = N := by simp [partB]
theorem partB_zero (f : Nat → Bool) (N : Nat) : partB f N 0 = falses N := by
  simp only [partB, falses]
  apply List.ext_getElem
  · simp
  · intro i h1 h2; simp
theorem partB_step (f : Nat → Bool) (N k : Nat) (h : k < N) : (partB f N k).set k (f k) = partB f N (k + 1) := by
  simp only [partB]
  apply List.ext_getElem
  · simp
  · intro i h1 h2
    simp only [List.getElem_set, List.getElem_map, List.getElem_range]
    by_cases e : k = i
    · subst e; simp
    · have : (i < k) ↔ (i < k + 1) := by omega
      simp [e, this]
theorem partB_full (f g : Nat → Bool) (N k : Nat) (h : ∀ j, j < N → (decide (j < k) && f j) = g j) : partB f N k = (List.range N).map g := by
  simp only [partB]
  apply List.ext_getElem
  · simp
  · intro i h1 h2
    simp only [List.getElem_map, List.getElem_range]
    exact h i (by simpa using h1)

/-- The document's set of words, of N numbers. -/
def tOf (ws : List Nat) (N : Nat) : List Bool := (List.range N).map (bit ws)
theorem tOf_len (ws : List Nat) (N : Nat) : (tOf ws N).length = N := by simp [tOf]
theorem tOf_get (ws : List Nat) (N j : Nat) (hj : j < N) : (tOf ws N).getD j false = bit ws j := by simp [tOf, List.getD, hj]

theorem bit_out (zs : List Nat) (j : Nat) (h : zs.length ≤ j / 64) : bit zs j = false := by
  unfold bit
  have : zs.getD (j / 64) 0 = 0 := by simp [List.getD, h]
  rw [this]; simp

theorem Kept.setNew {S : Nat → Prop} {a b : World} (h : Kept S a b) {p : Addr} (hp : a.heap.size ≤ p.block) (u : Value) : Kept S a (b.setCell p u) :=
  ⟨h.os, h.tape, h.output, by simp; exact h.size, fun i hi hU => by rw [Below.heap_setCell b p u i (by omega)]; exact h.block i hi hU⟩

theorem addr_plain {w : World} {a : Addr} {v : Value} (h : w.cell? (a.add 0) = some v) : ∃ b o, a = ⟨b, o, none⟩ := by
  obtain ⟨b, o, s⟩ := a
  cases s with
  | none => exact ⟨b, o, rfl⟩
  | some s =>
    exfalso
    unfold World.cell? Addr.add at h
    split at h
    · simp at h
    · cases h

theorem power_back (n : Nat) (hn : n < 64) (w : World) :
    Calls Try.prog 83 #[.int .i64 n] w fun e w' => e = .returned (.int .u64 (pw n)) ∧ w = w' :=
  (power_any n hn w).mono fun e w' h => ⟨h.1, h.2.symm⟩

theorem power_int (i : Int) (n : Nat) (hi : i = (n : Int)) (hn : n < 64) (w : World) :
    Calls Try.prog 83 #[.int .i64 i] w fun e w' => e = .returned (.int .u64 (pw n)) ∧ w = w' := by
  subst hi
  exact power_back n hn w

theorem refOf (v : Value) (zs : List Nat) (hzl : zs.length ≤ 9223372036854775807) (n : Int) (w : World) (hs : Src w v zs) :
    Calls Try.prog 41 #[v, .int .i64 n] w fun e w' => e = .returned (.slice (some ⟨w.heap.size, 0, none⟩) (fit n) (fit n)) ∧ TrueAt w' w.heap.size (tOf zs (fit n)) ∧ Kept (fun _ => False) w w' ∧ w'.heap.size = w.heap.size + 1 := by
  have hN := fit_le n
  obtain ⟨w1, hmk, hT1, hk1, hs1⟩ := make_truths (fit n) hN w
  obtain ⟨N, hNd⟩ : ∃ N, N = fit n := ⟨_, rfl⟩
  have hF := fit_any n
  rw [← hNd] at hF hN hmk hT1 ⊢
  obtain ⟨hz, ao, cap, rfl, hcells⟩ := hs
  have HF := hid hF
  have HT1 := hid hT1
  have HK1 := hid hk1
  have HS1 := hid hs1
  have HC := hid hcells
  clear hF hT1 hk1 hs1 hNd hcells
  go_enter Try.func41, Try.ntmps41
  go_wp2_with (go_at_call 82; refine (HF.out _).mono ?_; rintro e w' ⟨rfl, rfl⟩)
  go_loopw [6] (fun i wr => ∃ k : Nat, k ≤ N ∧ i = .int .i64 k ∧ Hid (TrueAt wr w'.heap.size (partB (bit zs) N k)) ∧ Hid (Kept (fun _ => False) w' wr) ∧ Hid (wr.heap.size = w'.heap.size + 1)) (fun i _ => N - (intOf i).toNat)
  case atStart => exact ⟨0, by omega, rfl, by rw [partB_zero]; exact HT1, HK1, HS1⟩
  case round =>
    obtain ⟨k, hk, rfl, hT, hK, hZ⟩ := hrel
    obtain ⟨q, hq⟩ : ∃ q, q = k / 64 := ⟨_, rfl⟩
    have hq1 : (k : Int) / 64 = (q : Int) := by omega
    clear hmk
    by_cases hlt : k < N
    · by_cases hql : q < zs.length
      · obtain ⟨r, hr⟩ : ∃ r, r = k % 64 := ⟨_, rfl⟩
        have hr1 : (k : Int) % 64 = (r : Int) := by omega
        have hr64 : r < 64 := by omega
        have hpq : ∃ b o, ao = some ⟨b, o, none⟩ ∧ wr.cell? ⟨b, o + q, none⟩ = some (.int .u64 ((zs.getD q 0 : Nat) : Int)) := by
          rcases HC.out with e | ⟨a, e, hab, hac⟩
          · rw [e] at hql; simp at hql
          · obtain ⟨b, o, rfl⟩ := addr_plain (hac 0 (by omega))
            refine ⟨b, o, e, ?_⟩
            have h1 := hac q hql
            rw [Addr.add_lit] at h1
            rw [← h1]
            exact World.cell?_of_block (hK.out.block b hab (fun x => x))
        obtain ⟨b, o, rfl, hx1⟩ := hpq
        have hxl := hz q
        obtain ⟨x, hx⟩ : ∃ x, x = zs.getD q 0 := ⟨_, rfl⟩
        rw [← hx] at hx1 hxl
        have hgc := hT.out.cell k (by rw [partB_len]; exact hlt)
        have hgf := hT.out.fro k
        obtain ⟨old, hold⟩ : ∃ old, old = (partB (bit zs) N k).getD k false := ⟨_, rfl⟩
        rw [← hold] at hgc
        have hp0 : ((pw r : Int) == 0) = false := by have := pw_pos r; rw [beq_eq_false_iff_ne]; omega
        obtain ⟨y, hy⟩ : ∃ y, y = x / 2 ^ r := ⟨_, rfl⟩
        have hyl : y ≤ x := by rw [hy]; exact Nat.div_le_self _ _
        have hqu : IntKind.u64.wrap ((x : Int) / (pw r : Int)) = (y : Int) := by
          have : (x : Int) / (pw r : Int) = (y : Int) := by rw [hy]; simp [pw]
          rw [this, wrap_u64]; omega
        obtain ⟨bv, hbv⟩ : ∃ bv, bv = bit zs k := ⟨_, rfl⟩
        have hbt : ((y : Int) % 2 == 1) = bv := by
          rw [hbv]; unfold bit
          rw [← hq, ← hr, ← hx, ← hy, Bool.eq_iff_iff, beq_iff_eq, beq_iff_eq]; omega
        have hbt2 : ((y : Int).tmod 2 == 1) = bv := by
          rw [Int.tmod_eq_emod_of_nonneg (by omega)]; exact hbt
        have hiq : (q : Int) < (zs.length : Int) := by omega
        have hik : (k : Int) < (N : Int) := by omega
        have hiq0 : (0 : Int) ≤ (q : Int) := by omega
        have hik0 : (0 : Int) ≤ (k : Int) := by omega
        have FIN := hid (show ∀ n, TrueAt ((wr.setCell ⟨w'.heap.size, k, none⟩ (.bool bv)).drewN n) w'.heap.size (partB (bit zs) N (k + 1)) ∧ Kept (fun _ => False) w' ((wr.setCell ⟨w'.heap.size, k, none⟩ (.bool bv)).drewN n) ∧ ((wr.setCell ⟨w'.heap.size, k, none⟩ (.bool bv)).drewN n).heap.size = w'.heap.size + 1 from fun n => ⟨by rw [← partB_step _ _ _ hlt, ← hbv]; exact (hT.out.write k bv).drewN n, ((hK.out.setNew (p := ⟨w'.heap.size, k, none⟩) (Nat.le_refl _) _)).drewN n, by show (wr.setCell _ _).heap.size = _; simp; exact hZ.out⟩)
        have hxb : x < 18446744073709551616 := hxl
        have hqb : q ≤ 1048576 := by omega
        have hpp := pw_pos r
        have hpz : ¬ ((pw r : Int) = 0) := by omega
        have hpn : ¬ (pw r = 0) := by omega
        have hqw : IntKind.i64.wrap (q : Int) = (q : Int) := by rw [IntKind.wrap_i64]; omega
        have hkw : IntKind.i64.wrap (k : Int) = (k : Int) := by rw [IntKind.wrap_i64]; omega
        have hkb : k ≤ 1048576 := by omega
        clear hold hx hy hbv hq hr hT hK hZ
        go_wp2
        go_region_with (go_at_call 83; refine (power_int _ r hr1 hr64 _).mono ?_; rintro e w2 ⟨rfl, rfl⟩)
        all_goals go_wp2
        all_goals
          go_roundw
          case rel => exact ⟨k + 1, by omega, by go_num, (FIN.out 1).1, (FIN.out 1).2.1, (FIN.out 1).2.2⟩
          case measure => simp [intOf]; omega
      · have hnq : decide ((q : Int) < (zs.length : Int)) = false := decide_eq_false (by omega)
        have E := hid (show partB (bit zs) N k = tOf zs N from partB_full _ _ _ _ (fun j hj => by
          by_cases e : j < k
          · simp [e]
          · rw [bit_out zs j (by omega)]; simp))
        have hkb : k ≤ 1048576 := by omega
        clear hq
        go_wp2
        go_ret
        exact ⟨rfl, by rw [← E.out]; exact hT.out, hK.out, hZ.out⟩
    · have E := hid (show partB (bit zs) N k = tOf zs N from partB_full _ _ _ _ (fun j hj => by
        have e : j < k := by omega
        simp [e]))
      have hnk : decide ((k : Int) < (N : Int)) = false := decide_eq_false (by omega)
      clear hq
      go_wp2
      go_ret
      exact ⟨rfl, by rw [← E.out]; exact hT.out, hK.out, hZ.out⟩

theorem refResize (g : Nat) (ts : List Bool) (c : Nat) (n : Int) (w : World) (h : TrueAt w g ts) :
    Calls Try.prog 87 #[.slice (some ⟨g, 0, none⟩) ts.length c, .int .i64 n] w fun e w' => e = .returned (.slice (some ⟨w.heap.size, 0, none⟩) (fit n) (fit n)) ∧ TrueAt w' w.heap.size ((List.range (fit n)).map (tAt ts)) ∧ Kept (fun _ => False) w w' ∧ w'.heap.size = w.heap.size + 1 := by
  have hN := fit_le n
  have hle := h.le
  have hgl := h.lt
  obtain ⟨w1, hmk, hT1, hk1, hs1⟩ := make_truths (fit n) hN w
  obtain ⟨N, hNd⟩ : ∃ N, N = fit n := ⟨_, rfl⟩
  have hF := fit_any n
  rw [← hNd] at hF hN hmk hT1 ⊢
  have HF := hid hF
  have HT1 := hid hT1
  have HK1 := hid hk1
  have HS1 := hid hs1
  have HA := hid h
  have HG := hid hgl
  clear hF hT1 hk1 hs1 hNd h hgl
  go_enter Try.func87, Try.ntmps87
  go_wp2_with (go_at_call 82; refine (HF.out _).mono ?_; rintro e w' ⟨rfl, rfl⟩)
  go_loopw [6] (fun i wr => ∃ k : Nat, k ≤ N ∧ i = .int .i64 k ∧ Hid (TrueAt wr w'.heap.size (partB (tAt ts) N k)) ∧ Hid (Kept (fun _ => False) w' wr) ∧ Hid (wr.heap.size = w'.heap.size + 1)) (fun i _ => N - (intOf i).toNat)
  case atStart => exact ⟨0, by omega, rfl, by rw [partB_zero]; exact HT1, HK1, HS1⟩
  case round =>
    obtain ⟨k, hk, rfl, hT, hK, hZ⟩ := hrel
    clear hmk
    by_cases hlt : k < N
    · by_cases hql : k < ts.length
      · have hc := (HA.out.kept hK.out (fun x => x)).cell k hql
        obtain ⟨bv, hbv⟩ : ∃ bv, bv = ts.getD k false := ⟨_, rfl⟩
        rw [← hbv] at hc
        have hgc := hT.out.cell k (by rw [partB_len]; exact hlt)
        have hgf := hT.out.fro k
        obtain ⟨old, hold⟩ : ∃ old, old = (partB (tAt ts) N k).getD k false := ⟨_, rfl⟩
        rw [← hold] at hgc
        have hi1 : (k : Int) < (ts.length : Int) := by omega
        have hi2 : (k : Int) < (N : Int) := by omega
        have hbv2 : bv = tAt ts k := hbv
        have FIN := hid (show TrueAt (wr.setCell ⟨w'.heap.size, k, none⟩ (.bool bv)) w'.heap.size (partB (tAt ts) N (k + 1)) ∧ Kept (fun _ => False) w' (wr.setCell ⟨w'.heap.size, k, none⟩ (.bool bv)) ∧ (wr.setCell ⟨w'.heap.size, k, none⟩ (.bool bv)).heap.size = w'.heap.size + 1 from ⟨by rw [← partB_step _ _ _ hlt, ← hbv2]; exact hT.out.write k bv, hK.out.setNew (p := ⟨w'.heap.size, k, none⟩) (Nat.le_refl _) _, by simp; exact hZ.out⟩)
        have hkb : k ≤ 1048576 := by omega
        clear hold hbv hbv2 hT hK hZ
        go_wp2
        go_roundw
        case rel => exact ⟨k + 1, by omega, by go_num, FIN.out.1, FIN.out.2.1, FIN.out.2.2⟩
        case measure => simp [intOf]; omega
      · have hnq : decide ((k : Int) < (ts.length : Int)) = false := decide_eq_false (by omega)
        have E := hid (show partB (tAt ts) N k = (List.range N).map (tAt ts) from partB_full _ _ _ _ (fun j hj => by
          by_cases e : j < k
          · simp [e]
          · have : tAt ts j = false := by simp [tAt, List.getD, Nat.le_trans (Nat.not_lt.1 hql) (Nat.not_lt.1 e)]
            rw [this]; simp))
        go_wp2
        go_ret
        exact ⟨rfl, by rw [← E.out]; exact hT.out, hK.out, hZ.out⟩
    · have E := hid (show partB (tAt ts) N k = (List.range N).map (tAt ts) from partB_full _ _ _ _ (fun j hj => by
        have e : j < k := by omega
        simp [e]))
      have hnk : decide ((k : Int) < (N : Int)) = false := decide_eq_false (by omega)
      go_wp2
      go_ret
      exact ⟨rfl, by rw [← E.out]; exact hT.out, hK.out, hZ.out⟩
end Go.Proofs.Ytahdjaocfejjeaa
