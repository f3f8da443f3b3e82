import Derived.Test.YthjokkihlodapaaGreatZc
set_option maxRecDepth 1000000
set_option maxHeartbeats 80000000
/- bits.Next: the walk. -/
namespace Go.Proofs.YthjokkihlodapaaGreat
open Go.RowKit
set_option linter.unusedVariables false

/-- What holds at each round's head of Next's loop. -/
def NextInv (n : Nat) (ws : List Nat) (k a x : Nat) : Prop :=
  (∀ p, p < 64 → (x / 2 ^ p % 2 == 1) = (decide (k ≤ 64 * a + p) && bit ws (64 * a + p))) ∧ (∀ j, k ≤ j → j < 64 * a → bit ws j = false) ∧ k < 64 * (a + 1)

theorem NextInv.start (n : Nat) (ws : List Nat) (k : Nat) : NextInv n ws k (k / 64) (ws.getD (k / 64) 0 / 2 ^ (k % 64) * 2 ^ (k % 64) % 2 ^ 64) := by
  refine ⟨?_, fun j h1 h2 => by omega, by omega⟩
  intro p hp
  rw [high_bits _ _ _ hp, bit_form _ _ _ hp]
  by_cases h : k % 64 ≤ p
  · have : k ≤ 64 * (k / 64) + p := by omega
    simp [h, this]
  · have : ¬ k ≤ 64 * (k / 64) + p := by omega
    simp [h, this]

theorem zero_bits (x : Nat) (p : Nat) (h : x = 0) : (x / 2 ^ p % 2 == 1) = false := by subst h; simp

theorem NextInv.step {n : Nat} {ws : List Nat} {k a x : Nat} (h : NextInv n ws k a x) (hx : x = 0) : (∀ j, k ≤ j → j < 64 * (a + 1) → bit ws j = false) := by
  intro j h1 h2
  by_cases h3 : j < 64 * a
  · exact h.2.1 j h1 h3
  · have h4 := h.1 (j - 64 * a) (by omega)
    have e : 64 * a + (j - 64 * a) = j := by omega
    rw [zero_bits x _ hx, e, decide_eq_true h1, Bool.true_and] at h4
    exact h4.symm

theorem NextInv.next {n : Nat} {ws : List Nat} {k a x : Nat} (h : NextInv n ws k a x) (hx : x = 0) : NextInv n ws k (a + 1) (ws.getD (a + 1) 0) := by
  have h3 := h.2.2
  refine ⟨?_, h.step hx, by omega⟩
  intro p hp
  have : k ≤ 64 * (a + 1) + p := by omega
  rw [bit_form _ _ _ hp, decide_eq_true this, Bool.true_and]

theorem NextInv.hit {w : World} {b c n : Nat} {ws : List Nat} {k a x : Nat} (hs : SetAt w b c n ws) (h : NextInv n ws k a x) (hx : x ≠ 0) (hlt : x < 2 ^ 64) : ∃ p, p < 64 ∧ x &&& (2 ^ 64 - x) = 2 ^ p ∧ nxtN n ws k = ((64 * a + p : Nat) : Int) := by
  obtain ⟨p, hp, h1, h2, h3⟩ := low_spec x hx hlt
  refine ⟨p, hp, h3, ?_⟩
  have hb := h.1 p hp
  rw [h1] at hb
  simp only [beq_self_eq_true] at hb
  have hb2 := hb.symm
  rw [Bool.and_eq_true, decide_eq_true_eq] at hb2
  refine nxtN_some n ws k _ ?_ hb2.1 hb2.2 ?_
  · rcases Nat.lt_or_ge (64 * a + p) n with g | g
    · exact g
    · rw [hs.bit_past _ g] at hb2; cases hb2.2
  · intro i g1 g2
    by_cases g3 : i < 64 * a
    · exact h.2.1 i g1 g3
    · have g4 := h.1 (i - 64 * a) (by omega)
      have e : 64 * a + (i - 64 * a) = i := by omega
      rw [h2 _ (by omega), e, decide_eq_true g1, Bool.true_and] at g4
      exact g4.symm

theorem next_nat (b c n : Nat) (ws : List Nat) (k : Nat) (w : World) (h : SetAt w b c n ws) (hkb : k ≤ 9223372036854775807) :
    Calls Tryz.prog 41 #[.pointer (some ⟨b, 0, none⟩), .int .i64 (k : Int)] w fun e w' => e = .returned (.int .i64 (nxtN n ws k)) ∧ w' = w := by
  by_cases hk : k < n
  · have hl := h.len
    have hn := h.nle
    have hlm : ws.length ≤ 1048576 := by omega
    have hd : inR n (k : Int) = true := by simp only [inR]; exact decide_eq_true (by omega)
    obtain ⟨q, hq⟩ : ∃ q, q = k / 64 := ⟨_, rfl⟩
    obtain ⟨r, hr⟩ : ∃ r, r = k % 64 := ⟨_, rfl⟩
    have hst := NextInv.start n ws k
    rw [← hq, ← hr] at hst
    have hql : q < ws.length := by omega
    have hr64 : r < 64 := by omega
    have hcc := h.cc q hql
    have hlt := h.lt64 q
    have h1 := h.cb1
    obtain ⟨x, hx⟩ : ∃ x, x = ws.getD q 0 := ⟨_, rfl⟩
    rw [← hx] at hcc hlt hst
    have hq1 : (k : Int) / 64 = (q : Int) := by omega
    have hr1 : (k : Int) % 64 = (r : Int) := by omega
    obtain ⟨y, hy⟩ : ∃ y, y = x / 2 ^ r * 2 ^ r % 2 ^ 64 := ⟨_, rfl⟩
    rw [← hy] at hst
    have hy64 : y < 2 ^ 64 := by rw [hy]; exact Nat.mod_lt _ (by decide)
    have hyw : IntKind.u64.wrap ((x : Int) / 2 ^ r * 2 ^ r) = (y : Int) := by
      rw [wrap_u64, hy, pow_cast]
      simp
    have HA := hid h
    have HST := hid hst
    have hkb2 : k ≤ 1048576 := by omega
    clear hst h hx hy hq hr hk hl
    go_enter Tryz.func41, Tryz.ntmps41
    go_wp2_with (go_at_call 72; refine (may_any b c n ws _ _ HA.out).mono ?_; rintro e w' ⟨rfl, rfl⟩)
    go_loop [5, 6] (fun at_ wd => ∃ a z : Nat, a < ws.length ∧ z < 18446744073709551616 ∧ at_ = .int .i64 a ∧ wd = .int .u64 z ∧ Hid (NextInv n ws k a z)) (fun at_ _ => ws.length - (intOf at_).toNat)
    case atStart => exact ⟨q, y, hql, hy64, rfl, rfl, HST⟩
    case round =>
      obtain ⟨a, z, ha, hz, rfl, rfl, hinv⟩ := hrel
      have hlen := hid HA.out.len
      clear hcc hlt HST hyw hq1 hr1 hr64
      by_cases h0 : z = 0
      · by_cases he : a + 1 = ws.length
        · have ht : ((a : Int) + 1 == (ws.length : Int)) = true := by rw [beq_iff_eq]; omega
          have e := hid (nxtN_none n ws k (fun j g1 g2 => hinv.out.step h0 j g1 (by have := hlen.out; omega)))
          subst h0
          clear he
          go_wp2
          go_ret
          exact ⟨ret_int e.out.symm, rfl⟩
        · obtain ⟨a1, ha1⟩ : ∃ a1, a1 = a + 1 := ⟨_, rfl⟩
          have ha1l : a1 < ws.length := by omega
          have hai : (a : Int) + 1 = (a1 : Int) := by omega
          have ht : ((a1 : Int) == (ws.length : Int)) = false := by rw [beq_eq_false_iff_ne]; omega
          have hc1 := HA.out.cc a1 ha1l
          have hl1 := HA.out.lt64 a1
          have hnx := hinv.out.next h0
          rw [← ha1] at hnx
          obtain ⟨z1, hz1⟩ : ∃ z1, z1 = ws.getD a1 0 := ⟨_, rfl⟩
          rw [← hz1] at hc1 hl1 hnx
          have HN := hid hnx
          subst h0
          have HA1 := hid ha1
          clear he hnx hz1 ha1
          go_wp2
          go_round
          case rel => exact ⟨a1, z1, ha1l, hl1, rfl, rfl, HN⟩
          case measure => (have := HA1.out); (simp [intOf]); omega
      · obtain ⟨p, hp, h3, h4⟩ := hinv.out.hit HA.out h0 hz
        obtain ⟨m, hm⟩ : ∃ m, m = 2 ^ 64 - z := ⟨_, rfl⟩
        have hneg : IntKind.u64.wrap (-(z : Int)) = (m : Int) := by rw [wrap_u64]; omega
        obtain ⟨t, ht⟩ : ∃ t, t = 2 ^ p := ⟨_, rfl⟩
        have htlt : t < 2 ^ 64 := by rw [ht]; exact (pow_lt p 64).2 hp
        have hand : bits BinOp.and IntKind.u64 (z : Int) (m : Int) = (t : Int) := by
          rw [u64_and_nat z m hz (by omega), ht, ← h3, hm]
        have hlg : lg t = (p : Int) := by
          rw [lg_pos t (by have := Nat.two_pow_pos p; omega), ht, Nat.log2_two_pow]
        have hzf : ((z : Int) == 0) = false := by rw [beq_eq_false_iff_ne]; omega
        have E := hid h4
        clear h3 h4 hm ht h0
        go_wp2_with (go_at_call 73; refine (log_64 t htlt _).mono ?_; rintro e w' ⟨rfl, rfl⟩)
        go_ret
        exact ⟨ret_int (by rw [E.out]; omega), rfl⟩
  · have hd : inR n (k : Int) = false := by simp only [inR]; exact decide_eq_false (by omega)
    have e := hid (nxtN_none n ws k (fun j h1 h2 => by omega))
    clear hk
    go_enter Tryz.func41, Tryz.ntmps41
    go_wp2_with (go_at_call 72; refine (may_any b c n ws _ _ h).mono ?_; rintro e w' ⟨rfl, rfl⟩)
    go_ret
    exact ⟨ret_int e.out.symm, rfl⟩

theorem next_neg (b c n : Nat) (ws : List Nat) (i : Int) (w : World) (h : SetAt w b c n ws) (hi : i < 0) :
    Calls Tryz.prog 41 #[.pointer (some ⟨b, 0, none⟩), .int .i64 i] w fun e w' => e = .returned (.int .i64 (nxtN n ws 0)) ∧ w' = w := by
  by_cases hk : 0 < n
  · have hl := h.len
    have hn := h.nle
    have hlm : ws.length ≤ 1048576 := by omega
    have hd : inR n 0 = true := by simp only [inR]; exact decide_eq_true (by omega)
    have hst := NextInv.start n ws 0
    have hql : 0 < ws.length := by omega
    have hcc := h.cc 0 hql
    have hlt := h.lt64 0
    have h1 := h.cb1
    have e0 : ws.getD (0 / 64) 0 / 2 ^ (0 % 64) * 2 ^ (0 % 64) % 2 ^ 64 = ws.getD 0 0 := by
      simp only [Nat.zero_div, Nat.zero_mod, Nat.pow_zero, Nat.div_one, Nat.mul_one]
      exact Nat.mod_eq_of_lt hlt
    rw [e0] at hst
    obtain ⟨y, hx⟩ : ∃ x, x = ws.getD 0 0 := ⟨_, rfl⟩
    rw [← hx] at hcc hlt hst
    have HA := hid h
    have HST := hid hst
    clear hst h hx hk hl e0
    go_enter Tryz.func41, Tryz.ntmps41
    go_wp2_with (go_at_call 72; refine (may_any b c n ws _ _ HA.out).mono ?_; rintro e w' ⟨rfl, rfl⟩)
    go_loop [5, 6] (fun at_ wd => ∃ a z : Nat, a < ws.length ∧ z < 18446744073709551616 ∧ at_ = .int .i64 a ∧ wd = .int .u64 z ∧ Hid (NextInv n ws 0 a z)) (fun at_ _ => ws.length - (intOf at_).toNat)
    case atStart => exact ⟨0, y, hql, hlt, rfl, rfl, HST⟩
    case round =>
      obtain ⟨a, z, ha, hz, rfl, rfl, hinv⟩ := hrel
      have hlen := hid HA.out.len
      clear hcc hlt HST
      by_cases h0 : z = 0
      · by_cases he : a + 1 = ws.length
        · have ht : ((a : Int) + 1 == (ws.length : Int)) = true := by rw [beq_iff_eq]; omega
          have e := hid (nxtN_none n ws 0 (fun j g1 g2 => hinv.out.step h0 j g1 (by have := hlen.out; omega)))
          subst h0
          clear he
          go_wp2
          go_ret
          exact ⟨ret_int e.out.symm, rfl⟩
        · obtain ⟨a1, ha1⟩ : ∃ a1, a1 = a + 1 := ⟨_, rfl⟩
          have ha1l : a1 < ws.length := by omega
          have hai : (a : Int) + 1 = (a1 : Int) := by omega
          have ht : ((a1 : Int) == (ws.length : Int)) = false := by rw [beq_eq_false_iff_ne]; omega
          have hc1 := HA.out.cc a1 ha1l
          have hl1 := HA.out.lt64 a1
          have hnx := hinv.out.next h0
          rw [← ha1] at hnx
          obtain ⟨z1, hz1⟩ : ∃ z1, z1 = ws.getD a1 0 := ⟨_, rfl⟩
          rw [← hz1] at hc1 hl1 hnx
          have HN := hid hnx
          subst h0
          have HA1 := hid ha1
          clear he hnx hz1 ha1
          go_wp2
          go_round
          case rel => exact ⟨a1, z1, ha1l, hl1, rfl, rfl, HN⟩
          case measure => (have := HA1.out); (simp [intOf]); omega
      · obtain ⟨p, hp, h3, h4⟩ := hinv.out.hit HA.out h0 hz
        obtain ⟨m, hm⟩ : ∃ m, m = 2 ^ 64 - z := ⟨_, rfl⟩
        have hneg : IntKind.u64.wrap (-(z : Int)) = (m : Int) := by rw [wrap_u64]; omega
        obtain ⟨t, ht⟩ : ∃ t, t = 2 ^ p := ⟨_, rfl⟩
        have htlt : t < 2 ^ 64 := by rw [ht]; exact (pow_lt p 64).2 hp
        have hand : bits BinOp.and IntKind.u64 (z : Int) (m : Int) = (t : Int) := by
          rw [u64_and_nat z m hz (by omega), ht, ← h3, hm]
        have hlg : lg t = (p : Int) := by
          rw [lg_pos t (by have := Nat.two_pow_pos p; omega), ht, Nat.log2_two_pow]
        have hzf : ((z : Int) == 0) = false := by rw [beq_eq_false_iff_ne]; omega
        have E := hid h4
        clear h3 h4 hm ht h0
        go_wp2_with (go_at_call 73; refine (log_64 t htlt _).mono ?_; rintro e w' ⟨rfl, rfl⟩)
        go_ret
        exact ⟨ret_int (by rw [E.out]; omega), rfl⟩
  · have hd : inR n 0 = false := by simp only [inR]; exact decide_eq_false (by omega)
    have e := hid (nxtN_none n ws 0 (fun j h1 h2 => by omega))
    clear hk
    go_enter Tryz.func41, Tryz.ntmps41
    go_wp2_with (go_at_call 72; refine (may_any b c n ws _ _ h).mono ?_; rintro e w' ⟨rfl, rfl⟩)
    go_ret
    exact ⟨ret_int e.out.symm, rfl⟩

theorem next_any (b c n : Nat) (ws : List Nat) (i : Int) (hhi : i ≤ 9223372036854775807) (w : World) (h : SetAt w b c n ws) :
    Calls Tryz.prog 41 #[.pointer (some ⟨b, 0, none⟩), .int .i64 i] w fun e w' => e = .returned (.int .i64 (nxt n ws i)) ∧ w' = w := by
  by_cases hi : i < 0
  · have e : nxt n ws i = nxtN n ws 0 := by unfold nxt; rw [show i.toNat = 0 by omega]
    rw [e]
    exact next_neg b c n ws i w h hi
  · obtain ⟨k, rfl⟩ := Int.eq_ofNat_of_zero_le (by omega : 0 ≤ i)
    have e : nxt n ws (k : Int) = nxtN n ws k := by unfold nxt; rw [Int.toNat_natCast]
    rw [e]
    exact next_nat b c n ws k w h (by omega)
end Go.Proofs.YthjokkihlodapaaGreat
