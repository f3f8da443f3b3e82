import Derived.Test.YtocpnddacdpnmaaGreatDoorSlC
/- Package slab: cells by their addresses. -/
namespace Go.Proofs.YtocpnddacdpnmaaGreatDoor
open Go.RowKit
set_option linter.unusedVariables false

/-- A cell's size. -/
def szC (k : Nat) : Nat := 16 * 2 ^ k
theorem szC_le {k : Nat} (h : k < 8) : 16 ≤ szC k ∧ szC k ≤ 2048 := by
  revert k
  unfold szC
  decide
theorem cells_s {w W sb lw x t h} (s : SW w W sb lw x t h) (c : Nat) (hc : c < 8) :
    Calls Tryz.prog 42 #[.int .i64 (c : Int)] W fun e w' => e = .returned (.int .i64 ((256 / 2 ^ c : Nat) : Int)) ∧ w' = W := by
  have ct := s.tab c hc
  have hci : (c : Int) < 8 := by omega
  obtain ⟨z, hz⟩ : ∃ z, z = 16 * 2 ^ c := ⟨_, rfl⟩
  have hzb := szC_le hc
  unfold szC at hzb
  rw [← hz] at ct hzb
  have hq : 4096 / z = 256 / 2 ^ c := by rw [hz, show 4096 = 16 * 256 from rfl, Nat.mul_div_mul_left _ _ (by decide)]
  obtain ⟨q, hq2⟩ : ∃ q, q = 256 / 2 ^ c := ⟨_, rfl⟩
  rw [← hq2] at hq ⊢
  have hqi : (4096 : Int) / (z : Int) = (q : Int) := by rw [← hq]; rfl
  have hqb : q ≤ 256 := by rw [hq2]; exact Nat.div_le_self _ _
  have hz0 : ¬ (z : Int) = 0 := by omega
  have hz1 : ((z : Int) == 0) = false := by rw [beq_eq_false_iff_ne]; exact hz0
  clear s hq hq2 hz
  go_enter Tryz.func42, Tryz.ntmps42
  go_wp2_with fail
  go_ret
  exact ⟨by simp, rfl⟩
/-- Where a cell lies. -/
def caN (x : Bx) (p k n : Nat) : Nat := x.base + 4096 * p + n * szC k
theorem address_s {w W sb lw x t h} (s : SW w W sb lw x t h) (p c n : Nat) (hp : p ≤ 1024) (hc : c < 8) (hn : n ≤ 256) :
    Calls Tryz.prog 89 #[.pointer (some ⟨sb, 0, none⟩), .int .i64 (p : Int), .int .i64 (c : Int), .int .i64 (n : Int)] W fun e w' => e = .returned (.int .u64 ((caN x p c n : Nat) : Int)) ∧ Kept none' W w' := by
  obtain ⟨c0, c1⟩ := s.c0
  have ct := s.tab c hc
  have hb : x.base ≤ 9223372036854775808 := by have := s.pl.bd.sp.cfg.be; omega
  have hci : (c : Int) < 8 := by omega
  obtain ⟨z, hz⟩ : ∃ z, z = 16 * 2 ^ c := ⟨_, rfl⟩
  have hzb := szC_le hc
  unfold szC at hzb
  rw [← hz] at ct hzb
  obtain ⟨nz, hnz⟩ : ∃ nz, nz = n * z := ⟨_, rfl⟩
  have hnzi : (n : Int) * (z : Int) = (nz : Int) := by rw [hnz]; simp
  have hnzb : nz ≤ 524288 := by rw [hnz]; exact Nat.mul_le_mul hn hzb.2
  obtain ⟨p4, hp4⟩ : ∃ p4, p4 = p * 4096 := ⟨_, rfl⟩
  have hp4i : (p : Int) * 4096 = (p4 : Int) := by omega
  have hp4b : p4 ≤ 4194304 := by omega
  obtain ⟨bs, hbs⟩ : ∃ bs, bs = x.base := ⟨_, rfl⟩
  rw [← hbs] at c1 hb
  obtain ⟨a1, ha1⟩ : ∃ a1, a1 = bs + p4 := ⟨_, rfl⟩
  have ha1i : (bs : Int) + (p4 : Int) = (a1 : Int) := by omega
  have ha1b : a1 ≤ 9223372036859000000 := by omega
  obtain ⟨a2, ha2⟩ : ∃ a2, a2 = a1 + nz := ⟨_, rfl⟩
  have ha2i : (a1 : Int) + (nz : Int) = (a2 : Int) := by omega
  have ha2b : a2 ≤ 9223372036859600000 := by omega
  have e : caN x p c n = a2 := by
    unfold caN szC
    rw [← hz, ← hnz, ← hbs]
    omega
  rw [e]
  clear s hz hnz hp4 hbs ha1 ha2 e
  go_enter Tryz.func89, Tryz.ntmps89
  have w1 : IntKind.u64.wrap (p : Int) = (p : Int) := by rw [wrap_u64]; omega
  have w2 : IntKind.u64.wrap (n : Int) = (n : Int) := by rw [wrap_u64]; omega
  have w3 : IntKind.u64.wrap (p4 : Int) = (p4 : Int) := by rw [wrap_u64]; omega
  have w4 : IntKind.u64.wrap (a1 : Int) = (a1 : Int) := by rw [wrap_u64]; omega
  have w5 : IntKind.u64.wrap (nz : Int) = (nz : Int) := by rw [wrap_u64]; omega
  have w6 : IntKind.u64.wrap (a2 : Int) = (a2 : Int) := by rw [wrap_u64]; omega
  go_upto_region 1 with fail
  go_quiet (fail)
  go_wp2_with fail
  go_ret
  exact ⟨by simp, (Kept.refl none' _).drewN _⟩
end Go.Proofs.YtocpnddacdpnmaaGreatDoor
