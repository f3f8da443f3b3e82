import Derived.Test.YtgjapopddblpoaaGreatDoorRf
import Derived.Deep.QuietTactic
import Derived.BigQuiet
/- Package malloc: its small functions. -/
namespace Go.Proofs.YtgjapopddblpoaaGreatDoor
open Go.RowKit
set_option linter.unusedVariables false

abbrev bkV (a s : Nat) : Value := .agg #[.int .u64 (a : Int), .int .u64 (s : Int)]
abbrev bkO (a s : Nat) : Obj := .cells #[.int .u64 (a : Int), .int .u64 (s : Int)] 74
abbrev bkZ : Obj := .cells #[.int .u64 0, .int .u64 0] 74
theorem bkc {W : World} {y a s : Nat} (h : W.heap[y]? = some (bkO a s)) : W.cell? ⟨y, 0, none⟩ = some (.int .u64 (a : Int)) ∧ W.cell? ⟨y, 1, none⟩ = some (.int .u64 (s : Int)) ∧ ∀ j, W.frozen? ⟨y, j, none⟩ = false := by
  refine ⟨?_, ?_, fun j => ?_⟩ <;> simp [World.cell?, World.frozen?, h]
theorem le8 {P : Nat → Prop} (h0 : P 0) (h1 : P 1) (h2 : P 2) (h3 : P 3) (h4 : P 4) (h5 : P 5) (h6 : P 6) (h7 : P 7) (h8 : P 8) : ∀ k, k ≤ 8 → P k := fun k hk => by
  rcases Nat.lt_or_ge k 8 with h | h
  · exact lt8 h0 h1 h2 h3 h4 h5 h6 h7 k h
  · obtain rfl : k = 8 := by omega
    exact h8
theorem run_h : ∀ k : Nat, k ≤ 8 → ∀ (q : Pg) (hq : q.od = (k : Int)) (W : World),
    Calls Tryz.prog 43 #[pval q] W fun e w' => e = .returned (.int .u64 ((4096 * 2 ^ k : Nat) : Int)) ∧ Kept none' W w' := by
  apply le8 <;>
  · intro q hq W
    have K0 := hid ((Kept.refl none' W).alloc (pobj q))
    have X0 := hid (heap_new W (pobj q))
    obtain ⟨_, x1, _⟩ := box11 X0.out
    rw [hq] at x1
    clear hq X0
    go_enter Tryz.func43, Tryz.ntmps43
    go_wp2_with fail
    go_ret
    exact ⟨rfl, K0.out⟩
theorem cell_h : ∀ k : Nat, k < 8 → ∀ (q : Pg) (hq : q.cl = (k : Int)) (W : World),
    Calls Tryz.prog 44 #[pval q] W fun e w' => e = .returned (.int .u64 ((szC k : Nat) : Int)) ∧ Kept none' W w' := by
  apply lt8 <;>
  · intro q hq W
    have K0 := hid ((Kept.refl none' W).alloc (pobj q))
    have X0 := hid (heap_new W (pobj q))
    obtain ⟨_, _, x2, _⟩ := box11 X0.out
    rw [hq] at x2
    clear hq X0
    go_enter Tryz.func44, Tryz.ntmps44
    go_wp2_with fail
    go_ret
    exact ⟨rfl, K0.out⟩
section
variable {w W W' : World} {hb sb lw : Nat} {x : Bx} {t : Bt} {fr : Nat → List Nat} {ls : List (Nat × Nat)} {S : Sb} {s : Int}
theorem address_h (H : HW w W hb sb lw x t fr ls S s) (n : Nat) (hn : n ≤ 1024) :
    Calls Tryz.prog 68 #[.pointer (some ⟨hb, 0, none⟩), .int .i64 (n : Int)] W fun e w' => e = .returned (.int .u64 ((x.base + 4096 * n : Nat) : Int)) ∧ w' = W := by
  obtain ⟨c0, c2, c3, c4, c5, c6⟩ := H.c
  have n4 := H.po.nums.2.2.2.1
  have hbb : x.base ≤ 9223372036854775808 := by omega
  clear H
  generalize x.base = b at c2 n4 hbb ⊢
  obtain ⟨a, ha⟩ : ∃ a, a = b + 4096 * n := ⟨_, rfl⟩
  rw [← ha]
  have e1 : IntKind.u64.wrap (n : Int) = (n : Int) := by rw [wrap_u64]; omega
  have e2 : IntKind.u64.wrap ((n : Int) * 4096) = (n : Int) * 4096 := by rw [wrap_u64]; omega
  have e3 : IntKind.u64.wrap ((b : Int) + (n : Int) * 4096) = (a : Int) := by rw [wrap_u64]; omega
  have e4 : (b : Int) + (n : Int) * 4096 = (a : Int) := by omega
  clear n4
  go_enter Tryz.func68, Tryz.ntmps68
  go_wp2_with fail
  go_ret
  exact ⟨ret_int (by omega), rfl⟩
theorem committed_h (H : HW w W hb sb lw x t fr ls S s) :
    Calls Tryz.prog 39 #[.pointer (some ⟨hb, 0, none⟩)] W fun e w' => e = .returned (.int .u64 (x.n : Int)) ∧ Kept none' W w' := by
  obtain ⟨c0, c2, c3, c4, c5, c6⟩ := H.c
  have n4 := H.po.nums.2.2.2.1
  obtain ⟨l0, l1, l2⟩ := H.po.pl.c
  have SP := hid (fun W' (k : Kept none' W W') => Space6 (H.keep k).po.pl)
  have EN := hid (fun W' (k : Kept none' W W') => end6 (H.keep k).po)
  obtain ⟨b, hb2⟩ : ∃ b, b = x.base := ⟨_, rfl⟩
  obtain ⟨en, hen⟩ : ∃ en, en = x.base + x.n := ⟨_, rfl⟩
  rw [← hen] at EN
  obtain ⟨n, hn⟩ : ∃ n, n = x.n := ⟨_, rfl⟩
  have hbb : b ≤ 9223372036854775808 := by omega
  have e3 : (en : Int) - (b : Int) = (n : Int) := by omega
  have hnb : n ≤ 9223372036854775808 := by omega
  have heb : en ≤ 9223372036854775808 := by omega
  rw [← hb2] at c2
  rw [← hn]
  clear H n4 hb2 hen hn
  have C5 := hid (fun W' (k : Kept none' W W') => (k.cell (fun e => e) c5))
  have C2 := hid (fun W' (k : Kept none' W W') => (k.cell (fun e => e) c2))
  go_enter Tryz.func39, Tryz.ntmps39
  go_wp2_with fail
  have c5' := fun y : KW W => C5.out y.v y.k
  have c2' := fun y : KW W => C2.out y.v y.k
  refine wp_region_kept (by kernel_rfl) (by kernel_rfl) ?_
  repeat (go_big_quiet_step (first | (go_at_call 53; exact Calls.kept_of ((SP.out _ (KW.k _)).mono fun e w' h => ⟨h.1, by rw [h.2]; exact Kept.refl _ _⟩)) | (go_at_call 76; exact Calls.kept_of (EN.out _ (KW.k _)))))
  refine wpQuiet_nil ?_
  intro y
  have D := hid y.k
  go_wp2_with fail
  go_ret
  exact ⟨by simp, D.out⟩
end
end Go.Proofs.YtgjapopddblpoaaGreatDoor
