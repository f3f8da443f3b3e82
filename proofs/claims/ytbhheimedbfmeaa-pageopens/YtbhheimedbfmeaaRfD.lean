/- croftref4: what only looks: link, cells, Head, Pair, bit, Has. -/
import Derived.Test.YtbhheimedbfmeaaRfC
namespace Go.Proofs.Ytbhheimedbfmeaa
open Go.RowKit
set_option linter.unusedVariables false

theorem Rq.cell {w g n pg} (h : Rq w g n pg) (i : Nat) (hi : i < n) : ∃ q, g = some q ∧ (∀ j, w.frozen? ⟨q, j, none⟩ = false) ∧
    w.cell? ⟨q, i * 11, none⟩ = some (.int .i64 (pg i).kd) ∧ w.cell? ⟨q, i * 11 + 1, none⟩ = some (.int .i64 (pg i).od) ∧ w.cell? ⟨q, i * 11 + 2, none⟩ = some (.int .i64 (pg i).cl) ∧ w.cell? ⟨q, i * 11 + 3, none⟩ = some (.int .i64 (pg i).lv) ∧ w.cell? ⟨q, i * 11 + 4, none⟩ = some (.int .i64 (pg i).nx) ∧ w.cell? ⟨q, i * 11 + 5, none⟩ = some (.int .i64 (pg i).pv) ∧ w.cell? ⟨q, i * 11 + 6, none⟩ = some (.int .i64 (pg i).fs) ∧ w.cell? ⟨q, i * 11 + 7, none⟩ = some (.int .u64 ((pg i).b0 : Int)) ∧ w.cell? ⟨q, i * 11 + 8, none⟩ = some (.int .u64 ((pg i).b1 : Int)) ∧ w.cell? ⟨q, i * 11 + 9, none⟩ = some (.int .u64 ((pg i).b2 : Int)) ∧ w.cell? ⟨q, i * 11 + 10, none⟩ = some (.int .u64 ((pg i).b3 : Int)) := by
  obtain ⟨q, N, pg', h1, h2, h3, h4⟩ := h.has (by omega)
  have := Row.cell h3 i (by omega)
  rw [h4 i hi] at this
  exact ⟨q, h1, RowC.froz h3, this⟩
theorem box_new (w : World) (o : Nat) (g : Option Nat) (n cp : Nat) (q : Value) : Kept none' w (w.alloc (ro o g n cp q)) ∧ (w.alloc (ro o g n cp q)).heap[w.heap.size]? = some (ro o g n cp q) := ⟨(Kept.refl none' w).alloc _, heap_new w _⟩
theorem box3 {w : World} {x o : Nat} {g : Option Nat} {n cp : Nat} {q : Value} (h : w.heap[x]? = some (ro o g n cp q)) : w.cell? ⟨x, 0, none⟩ = some (.int .i64 (o : Int)) ∧ w.cell? ⟨x, 1, none⟩ = some (.slice (adr g) n cp) ∧ w.cell? ⟨x, 2, none⟩ = some q := by
  refine ⟨?_, ?_, ?_⟩ <;> simp [World.cell?, h]
theorem link_any (o n cp : Nat) (g : Option Nat) (q : Value) (i : Int) (w : World) :
    Calls Try.prog 71 #[rv o g n cp q, .int .i64 i] w fun e w' => e = .returned (.bool (lnk n i)) ∧ Kept none' w w' := by
  by_cases h0 : i = -1
  · subst h0
    go_enter Try.func71, Try.ntmps71
    go_wp2_with fail
    go_ret
    exact ⟨by simp [lnk], (Kept.refl none' w).alloc _⟩
  · have h1 : (i == -1) = false := beq_eq_false_iff_ne.2 h0
    have HV := hid (show inR n i = lnk n i by simp [lnk, h1])
    have K0 := hid (box_new w o g n cp q).1
    go_enter Try.func71, Try.ntmps71
    go_wp2_with fail
    refine (Is_any n (adr g) cp (.int .i64 (o : Int)) q i _).mono ?_
    rintro e w1 ⟨rfl, hK⟩
    have K1 := hid (none_trans K0.out hK)
    clear hK K0
    rw [HV.out]
    go_wp2_with fail
    go_ret
    exact ⟨rfl, K1.out⟩
def cellsV (m : Mp) (i : Int) : Int := if inR m.n i = true ∧ (m.pg i.toNat).kd = 4 then (ncell (m.pg i.toNat).cl : Int) else -1
set_option maxRecDepth 4000 in
theorem cells_any (g : Option Nat) (cp : Nat) (q : Value) (m : Mp) (w : World) (hq : Rq w g m.n m.pg) (ok : ∀ i, i < m.n → PgOk (m.pg i)) (i : Int) :
    Calls Try.prog 69 #[rv m.o g m.n cp q, .int .i64 i] w fun e w' => e = .returned (.int .i64 (cellsV m i)) ∧ Kept none' w w' := by
  have K0 := hid (box_new w m.o g m.n cp q).1
  have X0 := hid (box_new w m.o g m.n cp q).2
  have HQ := hid hq
  have HO := hid ok
  clear hq ok
  cases hi : inR m.n i with
  | false =>
    have hv : cellsV m i = -1 := by simp [cellsV, hi]
    rw [hv]
    have HI := hid hi
    clear hi hv
    go_enter Try.func69, Try.ntmps69
    go_wp2_with fail
    refine (Is_any m.n (adr g) cp (.int .i64 (m.o : Int)) q i _).mono ?_
    rintro e w1 ⟨rfl, hK⟩
    rw [HI.out]
    have K1 := hid (none_trans K0.out hK)
    clear hK K0
    go_wp2_with fail
    go_ret
    exact ⟨rfl, K1.out⟩
  | true =>
    obtain ⟨k, rfl, hk⟩ := inR_nat hi
    have HI := hid hi
    clear hi
    have PO := hid (HO.out k hk)
    by_cases hkd : (m.pg k).kd = 4
    · obtain ⟨cl, hcl⟩ : ∃ cl : Nat, (m.pg k).cl = cl := Int.eq_ofNat_of_zero_le PO.out.c0
      have hc7 : cl ≤ 7 := by have := PO.out.c7; omega
      obtain ⟨y, hy⟩ : ∃ y, y = ncell (cl : Int) := ⟨_, rfl⟩
      have hyb : y ≤ 256 := by rw [hy]; unfold ncell; exact Nat.div_le_self _ _
      have hv : cellsV m (k : Int) = (y : Int) := by simp [cellsV, HI.out, hkd, hcl, hy]
      rw [hv]
      have HCL := hid hcl
      have HN := hid (show (256 : Int) / ((2 ^ cl : Nat) : Int) = (y : Int) by rw [hy]; simp [ncell])
      clear hv hcl hy
      go_enter Try.func69, Try.ntmps69
      go_wp2_with fail
      refine (Is_any m.n (adr g) cp (.int .i64 (m.o : Int)) q k _).mono ?_
      rintro e w1 ⟨rfl, hK⟩
      rw [HI.out]
      have K1 := hid (none_trans K0.out hK)
      have X1 := hid ((hK.block _ (heap_lt X0.out) (fun x => x)).trans X0.out)
      clear hK K0 X0
      obtain ⟨c0, c1, c2⟩ := box3 X1.out
      obtain ⟨q', rfl, fz, d0, d1, d2, d3, d4, d5, d6, d7, d8, d9, d10⟩ := (HQ.out.kept K1.out (fun _ _ x => x)).cell k hk
      replace c1 : w1.cell? ⟨w.heap.size, 1, none⟩ = some (.slice (some ⟨q', 0, none⟩) m.n cp) := c1
      have hki : (k : Int) < (m.n : Int) := by omega
      rw [HCL.out] at d2
      rw [show (m.pg k).kd = 4 from hkd] at d0
      clear hkd fz d1 d3 d4 d5 d6 d7 d8 d9 d10
      go_wp2_with fail
      refine (power_any cl (by omega) _).mono ?_
      rintro e w2 ⟨rfl, rfl⟩
      have hp : ¬ ((2 ^ cl : Nat) : Int) = 0 := by have : 0 < 2 ^ cl := Nat.pow_pos (by decide); omega
      have hb1 : 1 ≤ 2 ^ cl := Nat.pow_pos (by decide)
      have hn := HN.out
      obtain ⟨z, hz⟩ : ∃ z, z = 2 ^ cl := ⟨_, rfl⟩
      rw [← hz] at hp hb1 hn ⊢
      clear hz
      go_wp2_with fail
      go_ret
      exact ⟨by show Ending.returned (Value.int IntKind.i64 ((256 : Int) / (z : Int))) = _; rw [hn], K1.out⟩
    · have hv : cellsV m (k : Int) = -1 := by simp [cellsV, hkd]
      rw [hv]
      clear hv
      go_enter Try.func69, Try.ntmps69
      go_wp2_with fail
      refine (Is_any m.n (adr g) cp (.int .i64 (m.o : Int)) q k _).mono ?_
      rintro e w1 ⟨rfl, hK⟩
      rw [HI.out]
      have K1 := hid (none_trans K0.out hK)
      have X1 := hid ((hK.block _ (heap_lt X0.out) (fun x => x)).trans X0.out)
      clear hK K0 X0
      obtain ⟨c0, c1, c2⟩ := box3 X1.out
      obtain ⟨q', rfl, fz, d0, d1, d2, d3, d4, d5, d6, d7, d8, d9, d10⟩ := (HQ.out.kept K1.out (fun _ _ x => x)).cell k hk
      replace c1 : w1.cell? ⟨w.heap.size, 1, none⟩ = some (.slice (some ⟨q', 0, none⟩) m.n cp) := c1
      have hki : (k : Int) < (m.n : Int) := by omega
      have hkb : ((m.pg k).kd == 4) = false := beq_eq_false_iff_ne.2 hkd
      clear fz d1 d2 d3 d4 d5 d6 d7 d8 d9 d10
      go_wp2_with fail
      go_ret
      exact ⟨rfl, K1.out⟩
set_option maxRecDepth 4000 in
theorem Head_ref (g : Option Nat) (cp : Nat) (q : Value) (m : Mp) (hn : m.n ≤ 1024) (w : World) (hq : Rq w g m.n m.pg) (ok : ∀ i, i < m.n → PgOk (m.pg i)) (i : Int) :
    Calls Try.prog 65 #[rv m.o g m.n cp q, .int .i64 i] w fun e w' => e = .returned (.int .i64 (headV m i)) ∧ Kept none' w w' := by
  have K0 := hid (box_new w m.o g m.n cp q).1
  have X0 := hid (box_new w m.o g m.n cp q).2
  have HQ := hid hq
  have HO := hid ok
  clear hq ok
  cases hi : inR m.n i with
  | false =>
    have hv : headV m i = -1 := by simp [headV, hi]
    rw [hv]
    have HI := hid hi
    clear hi hv
    go_enter Try.func65, Try.ntmps65
    go_wp2_with fail
    refine (Is_any m.n (adr g) cp (.int .i64 (m.o : Int)) q i _).mono ?_
    rintro e w1 ⟨rfl, hK⟩
    rw [HI.out]
    have K1 := hid (none_trans K0.out hK)
    clear hK K0
    go_wp2_with fail
    go_ret
    exact ⟨rfl, K1.out⟩
  | true =>
    obtain ⟨k, rfl, hk⟩ := inR_nat hi
    have HI := hid hi
    have PO := hid (HO.out k hk)
    obtain ⟨od, hod⟩ : ∃ od : Nat, (m.pg k).od = od := Int.eq_ofNat_of_zero_le PO.out.o0
    have ho8 : od ≤ 8 := by have := PO.out.o8; omega
    obtain ⟨z, hz⟩ : ∃ z, z = 2 ^ od := ⟨_, rfl⟩
    have hb1 : 1 ≤ z := by rw [hz]; exact Nat.pow_pos (by decide)
    have hb2 : z ≤ 512 := by rw [hz]; exact Nat.le_trans (Nat.pow_le_pow_right (n := 2) (by decide) (show od ≤ 9 by omega)) (by decide)
    obtain ⟨y, hy⟩ : ∃ y, y = k % z := ⟨_, rfl⟩
    have hrem : (k : Int) % (z : Int) = (y : Int) := by rw [hy]; simp
    have hle : y ≤ k := by rw [hy]; exact Nat.mod_le _ _
    have hv : headV m (k : Int) = (k : Int) - (y : Int) := by
      rw [show headV m (k : Int) = ((k / z * z : Nat) : Int) by simp [headV, hi, hod, hz]]
      have := Nat.div_add_mod k z
      have h2 : k / z * z = z * (k / z) := Nat.mul_comm _ _
      omega
    rw [hv]
    have HZ := hid hz
    have HOD := hid hod
    clear hi hv hz hy hod
    go_enter Try.func65, Try.ntmps65
    go_wp2_with fail
    refine (Is_any m.n (adr g) cp (.int .i64 (m.o : Int)) q k _).mono ?_
    rintro e w1 ⟨rfl, hK⟩
    rw [HI.out]
    have K1 := hid (none_trans K0.out hK)
    have X1 := hid ((hK.block _ (heap_lt X0.out) (fun x => x)).trans X0.out)
    clear hK K0 X0
    obtain ⟨c0, c1, c2⟩ := box3 X1.out
    obtain ⟨q', rfl, fz, d0, d1, d2, d3, d4, d5, d6, d7, d8, d9, d10⟩ := (HQ.out.kept K1.out (fun _ _ x => x)).cell k hk
    replace c1 : w1.cell? ⟨w.heap.size, 1, none⟩ = some (.slice (some ⟨q', 0, none⟩) m.n cp) := c1
    have hki : (k : Int) < (m.n : Int) := by omega
    rw [HOD.out] at d1
    clear fz d0 d2 d3 d4 d5 d6 d7 d8 d9 d10
    go_wp2_with fail
    refine (power_any od (by omega) _).mono ?_
    rintro e w2 ⟨rfl, rfl⟩
    rw [← HZ.out]
    have hp : ¬ (z : Int) = 0 := by omega
    go_wp2_with fail
    go_ret
    exact ⟨rfl, K1.out⟩
def pairI (m : Mp) (k i : Int) : Int := if hasP m k i = true then (prN k i : Int) else -1
set_option maxRecDepth 4000 in
theorem Pair_ref (g : Option Nat) (cp : Nat) (q : Value) (m : Mp) (ho : m.o ≤ 8) (hn : m.n ≤ 1024) (w : World) (k i : Int) :
    Calls Try.prog 64 #[rv m.o g m.n cp q, .int .i64 k, .int .i64 i] w fun e w' => e = .returned (.int .i64 (pairI m k i)) ∧ Kept none' w w' := by
  have K0 := hid (box_new w m.o g m.n cp q).1
  cases hk : inR m.o k with
  | false =>
    have hv : pairI m k i = -1 := by simp [pairI, hasP, hk]
    rw [hv]
    clear hv
    by_cases h0 : k < 0
    · clear hk
      go_enter Try.func64, Try.ntmps64
      go_wp2_with fail
      go_ret
      exact ⟨rfl, K0.out⟩
    · have h1 : (m.o : Int) ≤ k := by simp [inR] at hk; omega
      clear hk
      go_enter Try.func64, Try.ntmps64
      go_wp2_with fail
      go_ret
      exact ⟨rfl, K0.out⟩
  | true =>
    obtain ⟨a, rfl, ha⟩ := inR_nat hk
    have hai : (a : Int) < (m.o : Int) := by omega
    cases hi : inR m.n i with
    | false =>
      have hv : pairI m (a : Int) i = -1 := by simp [pairI, hasP, hi]
      rw [hv]
      have HI := hid hi
      clear hv hi hk
      go_enter Try.func64, Try.ntmps64
      go_wp2_with fail
      refine (Is_any m.n (adr g) cp (.int .i64 (m.o : Int)) q i _).mono ?_
      rintro e w1 ⟨rfl, hK⟩
      rw [HI.out]
      have K1 := hid (none_trans K0.out hK)
      clear hK K0
      go_wp2_with fail
      go_ret
      exact ⟨rfl, K1.out⟩
    | true =>
      obtain ⟨p, rfl, hp⟩ := inR_nat hi
      have hv : pairI m (a : Int) (p : Int) = ((p / 2 ^ (a + 1) : Nat) : Int) := by simp [pairI, hasP, hi, hk, prN]
      obtain ⟨z, hz⟩ : ∃ z, z = 2 ^ (a + 1) := ⟨_, rfl⟩
      have hb1 : 1 ≤ z := by rw [hz]; exact Nat.pow_pos (by decide)
      obtain ⟨y, hy⟩ : ∃ y, y = p / z := ⟨_, rfl⟩
      have hdv : (p : Int) / (z : Int) = (y : Int) := by rw [hy]; simp
      have hle : y ≤ p := by rw [hy]; exact Nat.div_le_self _ _
      rw [hv, ← hz, ← hy]
      have HI := hid hi
      have HZ := hid hz
      clear hv hi hk hz hy
      go_enter Try.func64, Try.ntmps64
      go_wp2_with fail
      refine (Is_any m.n (adr g) cp (.int .i64 (m.o : Int)) q p _).mono ?_
      rintro e w1 ⟨rfl, hK⟩
      rw [HI.out]
      have K1 := hid (none_trans K0.out hK)
      clear hK K0
      go_wp2_with fail
      refine (power_int _ (a + 1) (by omega) (by omega) _).mono ?_
      rintro e w2 ⟨rfl, rfl⟩
      rw [← HZ.out]
      have hz : ¬ (z : Int) = 0 := by omega
      go_wp2_with fail
      go_ret
      exact ⟨rfl, K1.out⟩
theorem bit_ref (i : Nat) (hi : i ≤ 100000) (w : World) :
    Calls Try.prog 50 #[.int .i64 (i : Int)] w fun e w' => e = .returned (.int .u64 ((2 ^ (i % 64) : Nat) : Int)) ∧ w' = w := by
  obtain ⟨r, hr⟩ : ∃ r, r = i % 64 := ⟨_, rfl⟩
  have hri : (i : Int) % 64 = (r : Int) := by omega
  have hr64 : r < 64 := by omega
  rw [← hr]
  clear hr
  go_enter Try.func50, Try.ntmps50
  go_wp2_with fail
  go_loop [3, 4] (fun x i => ∃ k : Nat, k ≤ r ∧ i = .int .i64 k ∧ x = .int .u64 ((2 ^ k : Nat) : Int)) (fun _ i => r - (intOf i).toNat)
  case atStart => exact ⟨0, by omega, rfl, rfl⟩
  case round =>
    obtain ⟨k, hk, rfl, rfl⟩ := hrel
    by_cases hlt : k < r
    · have hki : (k : Int) < (r : Int) := by omega
      have hp : 2 ^ (k + 1) = 2 ^ k * 2 := Nat.pow_succ 2 k
      have hb : 2 ^ (k + 1) ≤ 2 ^ 63 := (pow_le _ _).2 (by omega)
      obtain ⟨z, hz⟩ : ∃ z, z = 2 ^ k := ⟨_, rfl⟩
      have HZ := hid (show 2 ^ (k + 1) = z * 2 by rw [hz, hp])
      have hzb : z * 2 ≤ 9223372036854775808 := by rw [HZ.out] at hb; exact hb
      rw [← hz]
      have hwp : ((z : Int) * 2) % 18446744073709551616 = ((z * 2 : Nat) : Int) := by omega
      clear hz hb hp
      go_wp2_with fail
      exact ⟨⟨k + 1, by omega, by simp, by rw [HZ.out]; simp⟩, by simp [intOf]; omega⟩
    · obtain rfl : k = r := by omega
      go_wp2_with fail
      go_ret
      exact ⟨rfl, rfl⟩
end Go.Proofs.Ytbhheimedbfmeaa
