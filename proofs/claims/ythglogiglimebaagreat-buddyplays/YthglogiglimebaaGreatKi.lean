import Derived.Test.YthglogiglimebaaGreatKh
import Derived.Deep.Upon
import Derived.Deep.DeepCutAuto
import Derived.Deep.AppendLies
/- The law's book, and what of it meets a stretch. -/
namespace Go.Proofs.YthglogiglimebaaGreat
open Go.RowKit
set_option linter.unusedVariables false

/-- A block of the book. -/
structure Bk where
  pg : Nat
  od : Nat
  mark : Nat
def flatB (R : Nat → Bk) : Nat → List Value
  | 0 => []
  | n + 1 => flatB R n ++ [.int .i64 ((R n).pg : Int), .int .i64 ((R n).od : Int), .int .u8 ((R n).mark : Int)]
theorem flatB_len (R : Nat → Bk) : ∀ n, (flatB R n).length = n * 3
  | 0 => rfl
  | n + 1 => by rw [flatB, List.length_append, flatB_len R n]; simp; omega
theorem flatB_get (R : Nat → Bk) : ∀ n i, i < n → (flatB R n)[i * 3]? = some (.int .i64 ((R i).pg : Int)) ∧ (flatB R n)[i * 3 + 1]? = some (.int .i64 ((R i).od : Int)) ∧ (flatB R n)[i * 3 + 2]? = some (.int .u8 ((R i).mark : Int))
  | 0, i, h => by omega
  | n + 1, i, h => by
    have hl := flatB_len R n
    rw [flatB]
    by_cases e : i = n
    · subst e
      rw [List.getElem?_append_right (by omega), List.getElem?_append_right (by omega), List.getElem?_append_right (by omega), hl]
      rw [show i * 3 - i * 3 = 0 by omega, show i * 3 + 1 - i * 3 = 1 by omega, show i * 3 + 2 - i * 3 = 2 by omega]
      exact ⟨rfl, rfl, rfl⟩
    · rw [List.getElem?_append_left (by omega), List.getElem?_append_left (by omega), List.getElem?_append_left (by omega)]
      exact flatB_get R n i (by omega)
/-- n blocks of the book. -/
def Bks (W : World) (v : Value) (n : Nat) (R : Nat → Bk) : Prop := W.ownsRow 0 62 3 v n (flatB R n)
theorem Bks.kept {W W' v n R} {S : Nat → Prop} (h : Bks W v n R) (k : Kept S W W') (hS : ∀ x, v.ownBlock = some x → ¬ S x) : Bks W' v n R := by
  refine ⟨h.1, ?_⟩
  rcases h.2 with h0 | ⟨g, cap, cur, h0, hb, hg, h3⟩
  · exact .inl h0
  · refine .inr ⟨g, cap, cur, h0, hb, (k.block _ (heap_lt hg) (hS g (by rw [h0]; rfl))).trans hg, h3⟩
theorem Bks.get {W va n vc R} (h : Bks W (.slice va n vc) n R) (i : Nat) (hi : i < n) : ∃ g, va = some ⟨g, 0, none⟩ ∧ W.cell? ⟨g, i * 3, none⟩ = some (.int .i64 ((R i).pg : Int)) ∧ W.cell? ⟨g, i * 3 + 1, none⟩ = some (.int .i64 ((R i).od : Int)) ∧ W.cell? ⟨g, i * 3 + 2, none⟩ = some (.int .u8 ((R i).mark : Int)) := by
  obtain ⟨e1, e2, e3⟩ := flatB_get R n i hi
  rcases h.2 with ⟨_, h1⟩ | ⟨g, cap, cur, h0, _⟩
  · omega
  · injection h0 with h0
    refine ⟨g, h0, ?_, ?_, ?_⟩
    · have := World.ownsRow.cells h (g := g) (by rw [h0]; rfl) _ _ e1
      rw [add0] at this
      exact this
    · have := World.ownsRow.cells h (g := g) (by rw [h0]; rfl) _ _ e2
      rw [add0] at this
      exact this
    · have := World.ownsRow.cells h (g := g) (by rw [h0]; rfl) _ _ e3
      rw [add0] at this
      exact this
/-- Does one of the first n meet a stretch? -/
def meetsB (R : Nat → Bk) (p k : Nat) : Nat → Bool
  | 0 => false
  | n + 1 => meetsB R p k n || (decide ((R n).pg < p + 2 ^ k) && decide (p < (R n).pg + 2 ^ (R n).od))
theorem meetsB_iff (R : Nat → Bk) (p k : Nat) : ∀ n, meetsB R p k n = true ↔ ∃ i, i < n ∧ Meet p k (R i).pg (R i).od
  | 0 => by simp [meetsB]
  | n + 1 => by
    rw [meetsB, Bool.or_eq_true, meetsB_iff R p k n, Bool.and_eq_true, decide_eq_true_iff, decide_eq_true_iff]
    constructor
    · rintro (⟨i, h1, h2⟩ | ⟨h1, h2⟩)
      · exact ⟨i, by omega, h2⟩
      · exact ⟨n, by omega, h2, h1⟩
    · rintro ⟨i, h1, h2⟩
      by_cases e : i = n
      · subst e; exact .inr ⟨h2.2, h2.1⟩
      · exact .inl ⟨i, by omega, h2⟩
set_option maxRecDepth 4000 in
set_option maxHeartbeats 1000000 in
theorem meets_any (va : Option Addr) (n vc : Nat) (R : Nat → Bk) (hn : n ≤ 1000) (hR : ∀ i, i < n → (R i).pg ≤ 1024 ∧ (R i).od ≤ 8) (p k : Nat) (hp : p ≤ 1024) (hk : k ≤ 8) (w : World) (h : Bks w (.slice va n vc) n R) :
    Calls Tryz.prog 65 #[.agg #[.slice va n vc], .int .i64 (p : Int), .int .i64 (k : Int)] w fun e w' => e = .returned (.bool (meetsB R p k n)) ∧ Kept none' w w' := by
  have K0 := hid ((Kept.refl none' w).alloc (.cells #[.slice va n vc] 54))
  have X0 := hid (heap_new w (.cells #[.slice va n vc] 54))
  have B0 := hid (h.kept K0.out (fun _ _ e => e))
  clear h
  obtain ⟨z, hz⟩ : ∃ z, z = 2 ^ k := ⟨_, rfl⟩
  have hzi : (2 : Int) ^ k = (z : Int) := by rw [hz]; simp
  have hz2 : z ≤ 256 := by rw [hz]; exact Nat.pow_le_pow_right (n := 2) (by decide) hk
  have MB : Hid (∀ j, meetsB R p k (j + 1) = (meetsB R p k j || (decide ((R j).pg < p + z) && decide (p < (R j).pg + 2 ^ (R j).od)))) := hid (fun j => by rw [hz]; rfl)
  have M0 : meetsB R p k 0 = false := rfl
  obtain ⟨MM, hMM⟩ : ∃ MM, MM = meetsB R p k := ⟨_, rfl⟩
  have MT : Hid (∀ i j, j ≤ i → MM j = true → MM i = true) := hid (fun i j hji h => by
    rw [hMM] at h ⊢
    rw [meetsB_iff] at h ⊢
    obtain ⟨a, h1, h2⟩ := h
    exact ⟨a, by omega, h2⟩)
  rw [← hMM] at M0 MB ⊢
  clear hz hMM
  have HR := hid hR
  clear hR
  go_enter Tryz.func65, Tryz.ntmps65
  go_wp2_with fail
  generalize w.alloc (.cells #[.slice va n vc] 54) = W0 at *
  go_loopw [7] (fun i W => ∃ j : Nat, j ≤ n ∧ i = .int .i64 j ∧ Hid (MM j = false) ∧ Hid (Kept none' W0 W)) (fun i _ => n - (intOf i).toNat)
  case atStart => exact ⟨0, by omega, rfl, hid M0, hid (Kept.refl none' W0)⟩
  case round =>
    clear M0
    obtain ⟨j, hj, rfl, hM, hW⟩ := hrel
    have K1 := hid (none_trans K0.out hW.out)
    have x1 := (hW.out.block _ (heap_lt X0.out) (fun x => x)).trans X0.out
    have x0 : wr.cell? ⟨w.heap.size, 0, none⟩ = some (.slice va n vc) := by simp [World.cell?, x1]
    have KD := hid (fun m => (Kept.refl none' wr).drewN m)
    clear x1
    by_cases hlt : j < n
    · have hji : (j : Int) < (n : Int) := by omega
      obtain ⟨g0, hva, r0, r1, r2⟩ := (B0.out.kept hW.out (fun _ _ e => e)).get j hlt
      obtain ⟨h1, h2⟩ := HR.out j hlt
      subst hva
      have MJ := hid (MB.out j)
      rw [hM.out, Bool.false_or] at MJ
      obtain ⟨a, ha⟩ : ∃ a, a = (R j).pg := ⟨_, rfl⟩
      obtain ⟨b, hb⟩ : ∃ b, b = (R j).od := ⟨_, rfl⟩
      rw [← ha] at r0 h1 MJ
      rw [← hb] at r1 h2 MJ
      obtain ⟨y, hy⟩ : ∃ y, y = 2 ^ b := ⟨_, rfl⟩
      have hyi : (2 : Int) ^ b = (y : Int) := by rw [hy]; simp
      have hy2 : y ≤ 256 := by rw [hy]; exact Nat.pow_le_pow_right (n := 2) (by decide) h2
      rw [← hy] at MJ
      clear hy ha hb
      by_cases e1 : a < p + z
      · have e1i : (a : Int) < (p : Int) + (z : Int) := by omega
        by_cases e2 : p < a + y
        · have e2i : (p : Int) < (a : Int) + (y : Int) := by omega
          have MN := hid (MT.out n (j + 1) (by omega) (by rw [MJ.out, decide_eq_true e1, decide_eq_true e2]; rfl))
          go_wp2_with fail
          go_quiet (fail)
          go_wp2_with fail
          go_ret
          exact ⟨by rw [MN.out]; rfl, none_trans K1.out (KD.out _)⟩
        · have e2i : ¬ (p : Int) < (a : Int) + (y : Int) := by omega
          have MN := hid (show MM (j + 1) = false by rw [MJ.out, decide_eq_false e2, Bool.and_false])
          go_wp2_with fail
          go_quiet (fail)
          go_wp2_with fail
          exact ⟨⟨j + 1, by omega, by simp, MN, hid (none_trans hW.out (KD.out _))⟩, by simp [intOf]; omega⟩
      · have e1i : ¬ (a : Int) < (p : Int) + (z : Int) := by omega
        have MN := hid (show MM (j + 1) = false by rw [MJ.out, decide_eq_false e1, Bool.false_and])
        have e1d : decide ((a : Int) < (p : Int) + (z : Int)) = false := decide_eq_false e1i
        have e1l : (p : Int) + (z : Int) ≤ (a : Int) := by omega
        go_wp2_with fail
        go_quiet (fail)
        go_wp2_with fail
        exact ⟨⟨j + 1, by omega, by simp, MN, hid (none_trans hW.out (KD.out _))⟩, by simp [intOf]; omega⟩
    · have hji : ¬ (j : Int) < (n : Int) := by omega
      have hjn : j = n := by omega
      subst hjn
      go_wp2_with fail
      go_ret
      exact ⟨by rw [hM.out]; rfl, K1.out⟩
end Go.Proofs.YthglogiglimebaaGreat
/- Is the law's book stuck? -/
namespace Go.Proofs.YthglogiglimebaaGreat
open Go.RowKit
set_option linter.unusedVariables false

/-- Each stretch of an order meets a block of the book. -/
def Stuck (R : Nat → Bk) (n P k : Nat) : Prop := ∀ i, i * 2 ^ k < P → meetsB R (i * 2 ^ k) k n = true
set_option maxRecDepth 4000 in
set_option maxHeartbeats 1000000 in
theorem stuck_any (va : Option Addr) (n vc : Nat) (R : Nat → Bk) (hn : n ≤ 1000) (hR : ∀ i, i < n → (R i).pg ≤ 1024 ∧ (R i).od ≤ 8) (P k : Nat) (hP : P ≤ 1024) (hk : k ≤ 8) (w : World) (h : Bks w (.slice va n vc) n R) :
    Calls Tryz.prog 64 #[.agg #[.slice va n vc], .int .i64 (P : Int), .int .i64 (k : Int)] w fun e w' => ∃ b, e = .returned (.bool b) ∧ (b = true ↔ Stuck R n P k) ∧ Kept none' w w' := by
  have K0 := hid ((Kept.refl none' w).alloc (.cells #[.slice va n vc] 54))
  have X0 := hid (heap_new w (.cells #[.slice va n vc] 54))
  have ME := hid (show ∀ (p : Nat) (W : World), p ≤ 1024 → Kept none' w W → Calls Tryz.prog 65 #[.agg #[.slice va n vc], .int .i64 (p : Int), .int .i64 (k : Int)] W fun e w' => e = .returned (.bool (meetsB R p k n)) ∧ Kept none' W w' from fun p W hp hW => meets_any va n vc R hn hR p k hp hk W (h.kept hW (fun _ _ e => e)))
  clear h hR
  obtain ⟨z, hz⟩ : ∃ z, z = 2 ^ k := ⟨_, rfl⟩
  have hzi : (2 : Int) ^ k = (z : Int) := by rw [hz]; simp
  have hz2 : z ≤ 256 := by rw [hz]; exact Nat.pow_le_pow_right (n := 2) (by decide) hk
  have hz0 : 0 < z := by rw [hz]; exact Nat.pow_pos (by decide)
  have ST : Hid (Stuck R n P k ↔ ∀ i, i * z < P → meetsB R (i * z) k n = true) := hid (by rw [hz]; exact Iff.rfl)
  clear hz
  go_enter Tryz.func64, Tryz.ntmps64
  go_wp2_with fail
  generalize w.alloc (.cells #[.slice va n vc] 54) = W0 at *
  go_loopw [7] (fun i W => ∃ j p : Nat, p ≤ P + z ∧ i = .int .i64 p ∧ Hid (p = j * z) ∧ Hid (∀ i, i < j → meetsB R (i * z) k n = true) ∧ Hid (Kept none' W0 W)) (fun i _ => P + z - (intOf i).toNat)
  case atStart => exact ⟨0, 0, by omega, rfl, hid (by omega), hid (fun i hi => by omega), hid (Kept.refl none' W0)⟩
  case round =>
    obtain ⟨j, p, hp, rfl, hpj, hM, hW⟩ := hrel
    have K1 := hid (none_trans K0.out hW.out)
    have x1 := (hW.out.block _ (heap_lt X0.out) (fun x => x)).trans X0.out
    have x0 : wr.cell? ⟨w.heap.size, 0, none⟩ = some (.slice va n vc) := by simp [World.cell?, x1]
    clear x1
    by_cases hlt : p < P
    · have hji : (p : Int) < (P : Int) := by omega
      go_wp2_with fail
      refine (ME.out p _ (by omega) K1.out).mono ?_
      rintro e w2 ⟨rfl, hk2⟩
      have K2 := hid (none_trans K1.out hk2)
      have K3 := hid (none_trans hW.out hk2)
      clear hk2
      cases hm : meetsB R p k n with
      | false =>
        have SF := hid (show ¬ Stuck R n P k from fun hs => by
          have := ST.out.1 hs j (by rw [← hpj.out]; exact hlt)
          rw [← hpj.out, hm] at this
          cases this)
        clear hm
        go_wp2_with fail
        go_ret
        exact ⟨false, rfl, ⟨fun e => (by cases e), fun hs => absurd hs SF.out⟩, K2.out⟩
      | true =>
        have HM2 := hid (show ∀ i, i < j + 1 → meetsB R (i * z) k n = true from fun i hi => by
          by_cases e : i = j
          · rw [e, ← hpj.out]; exact hm
          · exact hM.out i (by omega))
        have HP2 := hid (show p + z = (j + 1) * z by rw [Nat.add_mul, Nat.one_mul, ← hpj.out])
        clear hm
        go_wp2_with fail
        exact ⟨⟨j + 1, p + z, by omega, by simp, HP2, HM2, K3⟩, by simp [intOf]; omega⟩
    · have hji : ¬ (p : Int) < (P : Int) := by omega
      have SS := hid (show Stuck R n P k from ST.out.2 fun i hi => by
        refine hM.out i ?_
        apply Nat.lt_of_mul_lt_mul_right (a := z)
        rw [← hpj.out]
        omega)
      go_wp2_with fail
      go_ret
      exact .inr ⟨rfl, SS.out, K1.out⟩
end Go.Proofs.YthglogiglimebaaGreat
/- The law's book without one block. -/
namespace Go.Proofs.YthglogiglimebaaGreat
open Go.RowKit
set_option linter.unusedVariables false

theorem info_bk : (Tryz.prog.info? 62).map (fun i => (i.zero, i.size, i.bytes)) = some (some (.agg #[.int .i64 0, .int .i64 0, .int .u8 0]), 3, 24) := by kernel_rfl
theorem push_bk {w0 W : World} {v : Value} {n : Nat} {xs : List Value} (h : GS w0 W 62 3 v n xs) (a b c : Int) (hn : n ≤ 2000) :
    ∃ g cap w', (∀ ty, (Builtin.append_ #[52, 52] ty #[v, .slice (some ⟨W.heap.size, 0, none⟩) 1 1]).run Tryz.prog (W.alloc (.cells #[.int .i64 a, .int .i64 b, .int .u8 c] 62)) = .ok (.slice (some ⟨g, 0, none⟩) (n + 1) cap) w') ∧ GS w0 w' 62 3 (.slice (some ⟨g, 0, none⟩) (n + 1) cap) (n + 1) (xs ++ [.int .i64 a, .int .i64 b, .int .u8 c]) ∧ w0.heap.size ≤ g ∧ (∀ x, v.ownBlock ≠ some x → ∀ o, W.heap[x]? = some o → w'.heap[x]? = some o) := by
  obtain ⟨i, hi, hzz⟩ := Option.map_eq_some_iff.1 info_bk
  simp only [Prod.mk.injEq] at hzz
  have ka := (Kept.refl none' W).alloc (.cells #[.int .i64 a, .int .i64 b, .int .u8 c] 62)
  obtain ⟨g, cap, w', h1, h2, h5, h4⟩ := (h.keep ka).push 52 i (.agg #[.int .i64 0, .int .i64 0, .int .u8 0]) 24 Tryz.underlying52 hi hzz.1 hzz.2.1 hzz.2.2 rfl (by decide) ⟨W.heap.size, 0, none⟩ 1 [.int .i64 a, .int .i64 b, .int .u8 c] rfl (fun j u hj => cells_new (cs := #[.int .i64 a, .int .i64 b, .int .u8 c]) j u hj) (by simp [Value.oneCell']) (by simp only [maxLen]; omega) (by omega)
  exact ⟨g, cap, w', h1, h2, h5, fun x hx o ho => h4 x hx o ((ka.block x (heap_lt ho) (fun x => x)).trans ho)⟩
/-- Between two rounds of without. -/
structure Lb (w0 W : World) (x : Nat) (lv : Value) (n k : Nat) (R R' : Nat → Bk) (v : Value) : Prop where
  gs : GS w0 W 62 3 v k (flatB R' k)
  x0 : W.heap[x]? = some (.cells #[lv] 54)
  y0 : W.heap[x + 1]? = some (.cells #[.slice none 0 0] 54)
  rn : Bks W lv n R
  nw : ∀ g, v.ownBlock = some g → w0.heap.size ≤ g
theorem Lb.step {w0 W x lv n k R R' v g cap w'} (h : Lb w0 W x lv n k R R' v) (hx : x + 2 ≤ w0.heap.size) (hlv : ∀ y, lv.ownBlock = some y → y < w0.heap.size) (h2 : GS w0 w' 62 3 (.slice (some ⟨g, 0, none⟩) (k + 1) cap) (k + 1) (flatB R' (k + 1))) (hg : w0.heap.size ≤ g) (hkeep : ∀ y, v.ownBlock ≠ some y → ∀ o, W.heap[y]? = some o → w'.heap[y]? = some o) :
    Lb w0 w' x lv n (k + 1) R R' (.slice (some ⟨g, 0, none⟩) (k + 1) cap) := by
  refine ⟨h2, hkeep x (fun e => by have := h.nw _ e; omega) _ h.x0, hkeep (x + 1) (fun e => by have := h.nw _ e; omega) _ h.y0, ?_, fun y e => ?_⟩
  · refine ⟨h.rn.1, ?_⟩
    rcases h.rn.2 with h0 | ⟨g, cap, cur, h0, hb, hg, h3⟩
    · exact .inl h0
    · exact .inr ⟨g, cap, cur, h0, hb, hkeep g (fun e => by have := h.nw _ e; have := hlv g (by rw [h0]; rfl); omega) _ hg, h3⟩
  · simp [Value.ownBlock] at e
    omega
def wo (R : Nat → Bk) (d : Nat) : Nat → Bk := fun j => if j < d then R j else R (j + 1)
set_option maxRecDepth 4000 in
set_option maxHeartbeats 1000000 in
theorem without_any (va : Option Addr) (n vc : Nat) (R : Nat → Bk) (hn : n ≤ 1000) (d : Nat) (hd : d < n) (w : World) (h : Bks w (.slice va n vc) n R) :
    Calls Tryz.prog 19 #[.agg #[.slice va n vc], .int .i64 (d : Int)] w fun e w' => ∃ va' vc', e = .returned (.agg #[.slice va' (n - 1) vc']) ∧ Kept none' w w' ∧ Bks w' (.slice va' (n - 1) vc') (n - 1) (wo R d) := by
  have T2 := two5 w (.cells #[.slice va n vc] 54) (.cells #[.slice none 0 0] 54)
  have K0 := hid T2.1
  have hlv : ∀ y, (Value.slice va n vc).ownBlock = some y → y < w.heap.size := fun y e => (World.ownsRow.lt h y e).2
  have HS := hid (show w.heap.size + 2 ≤ ((w.alloc (.cells #[.slice va n vc] 54)).alloc (.cells #[.slice none 0 0] 54)).heap.size from heap_lt T2.2.2)
  have HLV := hid (show ∀ y, (Value.slice va n vc).ownBlock = some y → y < ((w.alloc (.cells #[.slice va n vc] 54)).alloc (.cells #[.slice none 0 0] 54)).heap.size from fun y e => by have := hlv y e; have := HS.out; omega)
  have L0 := hid (show Lb ((w.alloc (.cells #[.slice va n vc] 54)).alloc (.cells #[.slice none 0 0] 54)) ((w.alloc (.cells #[.slice va n vc] 54)).alloc (.cells #[.slice none 0 0] 54)) w.heap.size (.slice va n vc) n 0 R (wo R d) (.slice none 0 0) from ⟨GS.nil _ _ _ _ (Kept.refl none' _), T2.2.1, T2.2.2, h.kept T2.1 (fun _ _ e => e), fun g e => by simp [Value.ownBlock] at e⟩)
  clear h hlv T2
  go_enter Tryz.func19, Tryz.ntmps19
  go_wp2_with fail
  generalize (w.alloc (.cells #[.slice va n vc] 54)).alloc (.cells #[.slice none 0 0] 54) = W0 at *
  go_loopw [5, 6] (fun l i W => ∃ j m : Nat, j ≤ n ∧ m = (if j ≤ d then j else j - 1) ∧ i = .int .i64 j ∧ (∃ la lc, l = .slice la m lc) ∧ Hid (Lb W0 W w.heap.size (.slice va n vc) n m R (wo R d) l)) (fun _ i _ => n - (intOf i).toNat)
  case atStart => exact ⟨0, 0, by omega, by simp, rfl, ⟨none, 0, rfl⟩, L0⟩
  case round =>
    clear L0
    obtain ⟨j, m, hj, hm, rfl, ⟨la, lc, rfl⟩, hR⟩ := hrel
    have x0 : wr.cell? ⟨w.heap.size, 0, none⟩ = some (.slice va n vc) := by simp [World.cell?, hR.out.x0]
    have K1 := hid (none_trans K0.out hR.out.gs.kp)
    by_cases hlt : j < n
    · have hji : (j : Int) < (n : Int) := by omega
      by_cases hjd : j = d
      · subst hjd
        rw [if_pos (Nat.le_refl _)] at hm
        subst hm
        go_wp2_with fail
        exact ⟨⟨m + 1, m, by omega, by rw [if_neg (by omega)]; omega, by simp, ⟨_, _, rfl⟩, hR⟩, by simp [intOf]; omega⟩
      · have hjdi : ¬ (j : Int) = (d : Int) := by omega
        obtain ⟨g0, hva, r0, r1, r2⟩ := hR.out.rn.get j hlt
        subst hva
        obtain ⟨g, cap, w', hap, hg2, hge, hkeep⟩ := push_bk hR.out.gs ((R j).pg : Int) ((R j).od : Int) ((R j).mark : Int) (by split at hm <;> omega)
        have hwm : wo R d m = R j := by
          unfold wo
          by_cases e : j ≤ d
          · rw [if_pos e] at hm; rw [hm, if_pos (by omega)]
          · rw [if_neg e] at hm; rw [hm, if_neg (by omega), show j - 1 + 1 = j by omega]
        have D := hid (hR.out.step HS.out HLV.out (by rw [flatB, hwm]; exact hg2) hge hkeep)
        have HM := hid (show m + 1 = if j + 1 ≤ d then j + 1 else j + 1 - 1 by
          by_cases e : j ≤ d
          · rw [if_pos e] at hm; rw [if_pos (by omega)]; omega
          · rw [if_neg e] at hm; rw [if_neg (by omega)]; omega)
        have HAP := hid hap
        clear hap hg2 hge hkeep hwm hm
        go_wp2_with (at_builtin; refine Lib.wpList_append_run _ rfl _ _ _ _ rfl (.slice la m lc) (.slice (some ⟨wr.heap.size, 0, none⟩) 1 1) rfl rfl _ _ (HAP.out _) ?_)
        exact ⟨⟨j + 1, m + 1, by omega, HM.out, by simp, ⟨_, _, rfl⟩, D⟩, by simp [intOf]; omega⟩
    · have hji : ¬ (j : Int) < (n : Int) := by omega
      have hmn : m = n - 1 := by rw [if_neg (by omega)] at hm; omega
      subst hmn
      have B1 := hid (show Bks wr (.slice la (n - 1) lc) (n - 1) (wo R d) from hR.out.gs.own)
      have y0 : wr.cell? ⟨w.heap.size + 1, 0, none⟩ = some (.slice none 0 0) := by simp [World.cell?, hR.out.y0]
      have fy : wr.frozen? ⟨w.heap.size + 1, 0, none⟩ = false := by simp [World.frozen?, hR.out.y0]
      have K2 := hid (K1.out.setNew (p := ⟨w.heap.size + 1, 0, none⟩) (fun e => absurd e (by show ¬ w.heap.size + 1 < _; omega)) (.slice la (n - 1) lc))
      have ks : Kept (fun y => y = w.heap.size + 1) wr (wr.setCell ⟨w.heap.size + 1, 0, none⟩ (.slice la (n - 1) lc)) := (Kept.refl (fun y => y = w.heap.size + 1) wr).setCell (p := ⟨w.heap.size + 1, 0, none⟩) rfl _
      have B2 := hid (B1.out.kept ks (fun y e hy => by have := hR.out.nw y e; have := HS.out; omega))
      clear hm hR ks
      go_wp2_with fail
      exact ⟨rfl, .agg #[.slice la (n - 1) lc], by simp [results, Tryz.results19, go_sem, y0], _, _, rfl, K2.out, B2.out⟩
end Go.Proofs.YthglogiglimebaaGreat
/- The law's world with its book: what the live blocks are. -/
namespace Go.Proofs.YthglogiglimebaaGreat
open Go.RowKit
set_option linter.unusedVariables false

/-- The blocks of the book. -/
def Lk (R : Nat → Bk) (n : Nat) : Nat → Nat → Prop := fun q i => ∃ j, j < n ∧ (R j).pg = q ∧ (R j).od = i
/-- No block stands there twice. -/
def Inj (R : Nat → Bk) (n : Nat) : Prop := ∀ i j, i < n → j < n → (R i).pg = (R j).pg → (R i).od = (R j).od → i = j
def upb (R : Nat → Bk) (n : Nat) (b : Bk) : Nat → Bk := fun j => if j < n then R j else b
theorem flatB_congr {R R' : Nat → Bk} : ∀ n, (∀ i, i < n → R i = R' i) → flatB R n = flatB R' n
  | 0, _ => rfl
  | n + 1, h => by rw [flatB, flatB, flatB_congr n (fun i hi => h i (by omega)), h n (by omega)]
theorem flatB_upb (R : Nat → Bk) (n : Nat) (b : Bk) : flatB (upb R n b) (n + 1) = flatB R n ++ [.int .i64 (b.pg : Int), .int .i64 (b.od : Int), .int .u8 (b.mark : Int)] := by
  rw [flatB, flatB_congr (R := upb R n b) (R' := R) n (fun i hi => by simp [upb, hi])]
  simp [upb]
theorem Lk.up (R : Nat → Bk) (n : Nat) (b : Bk) (q i : Nat) : Lk (upb R n b) (n + 1) q i ↔ Lk R n q i ∨ (q = b.pg ∧ i = b.od) := by
  constructor
  · rintro ⟨j, hj, h1, h2⟩
    by_cases e : j < n
    · simp [upb, e] at h1 h2
      exact .inl ⟨j, e, h1, h2⟩
    · simp [upb, e] at h1 h2
      exact .inr ⟨h1.symm, h2.symm⟩
  · rintro (⟨j, hj, h1, h2⟩ | ⟨h1, h2⟩)
    · exact ⟨j, by omega, by simp [upb, hj, h1], by simp [upb, hj, h2]⟩
    · exact ⟨n, by omega, by simp [upb, h1], by simp [upb, h2]⟩
theorem Inj.up {R : Nat → Bk} {n : Nat} (h : Inj R n) (b : Bk) (hb : ¬ Lk R n b.pg b.od) : Inj (upb R n b) (n + 1) := by
  intro i j hi hj h1 h2
  by_cases ei : i < n <;> by_cases ej : j < n
  · simp [upb, ei, ej] at h1 h2
    exact h i j ei ej h1 h2
  · simp [upb, ei, ej] at h1 h2
    exact absurd ⟨i, ei, h1, h2⟩ hb
  · simp [upb, ei, ej] at h1 h2
    exact absurd ⟨j, ej, h1.symm, h2.symm⟩ hb
  · omega
theorem Inj.nil (R : Nat → Bk) : Inj R 0 := fun i j hi => absurd hi (Nat.not_lt_zero _)
theorem Lk.wo {R : Nat → Bk} {n d : Nat} (h : Inj R n) (hd : d < n) (q i : Nat) : Lk (wo R d) (n - 1) q i ↔ Lk R n q i ∧ ¬ (q = (R d).pg ∧ i = (R d).od) := by
  constructor
  · rintro ⟨j, hj, h1, h2⟩
    unfold Go.Proofs.YthglogiglimebaaGreat.wo at h1 h2
    by_cases e : j < d
    · rw [if_pos e] at h1 h2
      refine ⟨⟨j, by omega, h1, h2⟩, fun ⟨e1, e2⟩ => ?_⟩
      have := h j d (by omega) hd (by omega) (by omega)
      omega
    · rw [if_neg e] at h1 h2
      refine ⟨⟨j + 1, by omega, h1, h2⟩, fun ⟨e1, e2⟩ => ?_⟩
      have := h (j + 1) d (by omega) hd (by omega) (by omega)
      omega
  · rintro ⟨⟨j, hj, h1, h2⟩, hne⟩
    have hjd : j ≠ d := fun e => hne (by subst e; exact ⟨h1.symm, h2.symm⟩)
    by_cases e : j < d
    · exact ⟨j, by omega, by simp [Go.Proofs.YthglogiglimebaaGreat.wo, e, h1], by simp [Go.Proofs.YthglogiglimebaaGreat.wo, e, h2]⟩
    · refine ⟨j - 1, by omega, ?_, ?_⟩ <;> unfold Go.Proofs.YthglogiglimebaaGreat.wo <;> rw [if_neg (by omega), show j - 1 + 1 = j by omega]
      · exact h1
      · exact h2
theorem Inj.wo {R : Nat → Bk} {n d : Nat} (h : Inj R n) (hd : d < n) : Inj (wo R d) (n - 1) := by
  intro i j hi hj h1 h2
  unfold Go.Proofs.YthglogiglimebaaGreat.wo at h1 h2
  by_cases ei : i < d <;> by_cases ej : j < d <;> simp only [ei, ej, if_true, if_false] at h1 h2
  · exact h i j (by omega) (by omega) h1 h2
  · have := h i (j + 1) (by omega) (by omega) h1 h2; omega
  · have := h (i + 1) j (by omega) (by omega) h1 h2; omega
  · have := h (i + 1) (j + 1) (by omega) (by omega) h1 h2; omega
theorem Sn.congr {x t} {L L' : Nat → Nat → Prop} (s : Sn x t L) (h : ∀ q i, L q i ↔ L' q i) : Sn x t L' := by
  obtain ⟨fr, B, s, hN, hL⟩ := s
  exact ⟨fr, B, s, hN, fun q i => (hL q i).trans (h q i)⟩
theorem Done.congr {x t w w'} {L L' : Nat → Nat → Prop} (d : Done x t w w' L) (h : ∀ q i, L q i ↔ L' q i) : Done x t w w' L' := by
  obtain ⟨t', h1, h2, h3, h4⟩ := d
  exact ⟨t', h1, h2, h3.congr h, h4⟩
theorem Sn.inn {x t L} (s : Sn x t L) {i : Nat} (h : Lp L (i / 4096)) : i / 4096 * 4096 + 4096 ≤ x.n := by
  obtain ⟨q, k, h1, h2, h3⟩ := h
  have h4 : i / 4096 + 1 ≤ t.m.n := Nat.le_trans h3 (s.al h1).2.2
  have h5 := Nat.mul_le_mul_right 4096 h4
  rw [Nat.add_mul, Nat.one_mul] at h5
  exact Nat.le_trans h5 s.n.2.2
/-- A block of a type of the law's own is none of a law's world's. -/
theorem LW.not {w W lw x t dP fv lv b cs z} (h : LW w W lw x t dP fv lv) (hb : W.heap[b]? = some (.cells cs 54 z)) : ∀ y, bown x y ∨ y = x.b ∨ y = x.l ∨ y = lw → ¬ y = b := by
  rintro y ((hx | hx | ⟨j, hj, e⟩) | rfl | rfl | rfl) rfl
  · obtain ⟨cs, t', z, h1, h2⟩ := space_ty h.bd.sp hx
    rw [hb] at h1
    cases h1
    rcases h2 with e | e <;> exact absurd e (by decide)
  · rw [← h.bd.mo] at hx
    obtain ⟨cs, t', z, h1, h2⟩ := map_ty h.bd.mp hx
    rw [hb] at h1
    cases h1
    rcases h2 with e | e | e | e | e <;> exact absurd e (by decide)
  · exact ty_ne hb (h.bd.ls j hj).hc (by decide) e
  · exact ty_ne hb h.bd.bs (by decide) rfl
  · obtain ⟨cs, hl, _⟩ := h.bd.lr
    exact ty_ne hb hl (by decide) rfl
  · exact ty_ne hb h.box (by decide) rfl
/-- What lies beside a law's world (boxes of books), and what pages are to hold. -/
structure Gh where
  e : Nat → Value → Prop
  F : Nat → Nat
  G : Nat → Prop
/-- A law's world whose live blocks are L: c steps are behind it; E: boxes of books that lie beside it, and what live pages of G hold. -/
structure Wb (E : Gh) (w W : World) (lw c : Nat) (x : Bx) (t : Bt) (fa : Option Addr) (fl fc : Nat) (ra : Option Addr) (nv rc : Nat) (L : Nat → Nat → Prop) : Prop where
  lw : LW w W lw x t t.m.n (.slice fa fl fc) (.slice ra nv rc)
  rl : RL W (.slice ra nv rc) nv
  sn : Sn x t L
  st : t.m.n * 4096 = x.n
  nc : nv ≤ c + 1
  bm : x.base % 4096 = 0
  gb : ∀ i, E.G (i / 4096) → Lp L (i / 4096) → t.f i = E.F i
  ex : ∀ y v, E.e y v → W.heap[y]? = some (.cells #[v] 54)
theorem Wb.exk {E w W W' lw c x t fa fl fc ra nv rc L} {S : Nat → Prop} (h : Wb E w W lw c x t fa fl fc ra nv rc L) (k : Kept S W W') (hS : ∀ y, S y → bown x y ∨ y = x.b ∨ y = x.l ∨ y = lw) : ∀ y v, E.e y v → W'.heap[y]? = some (.cells #[v] 54) := fun y v e =>
  (k.block _ (heap_lt (h.ex y v e)) (fun hs => h.lw.not (h.ex y v e) y (hS y hs) rfl)).trans (h.ex y v e)
theorem Wb.keep {E w W W' lw c x t fa fl fc ra nv rc L} (h : Wb E w W lw c x t fa fl fc ra nv rc L) (k : Kept none' W W') : Wb E w W' lw c x t fa fl fc ra nv rc L := ⟨h.lw.keep k, h.rl.keep k, h.sn, h.st, h.nc, h.bm, h.gb, h.exk k (fun _ e => e.elim)⟩
theorem Wb.done {E w W W' lw c x t fa fl fc ra nv rc L L'} (h : Wb E w W lw c x t fa fl fc ra nv rc L) (d : DoneK x t W W' L L') (hG : ∀ g, E.G g → Lp L g) : ∃ t', Wb E w W' lw c x t' fa fl fc ra nv rc L' ∧ Kept (bown x) W W' ∧ t'.m.n = t.m.n := by
  obtain ⟨t', h1, h2, h3, h4, h5⟩ := d
  exact ⟨t', ⟨by rw [h4]; exact h.lw.call h1 h2, h.lw.rl h.rl h2, h3, by rw [h4]; exact h.st, h.nc, h.bm, fun i hi hl => (h5.byte h.lw.bd h1 (h.sn.inn (hG _ hi)) ⟨hG _ hi, hl⟩).trans (h.gb i hi (hG _ hi)), h.exk h2 (fun _ e => .inl e)⟩, h2, h4⟩
theorem Wb.mono {E w W lw c c' x t fa fl fc ra nv rc L} (h : Wb E w W lw c x t fa fl fc ra nv rc L) (hc : c ≤ c') : Wb E w W lw c' x t fa fl fc ra nv rc L := ⟨h.lw, h.rl, h.sn, h.st, by have := h.nc; omega, h.bm, h.gb, h.ex⟩
theorem Lp.congr {L L' : Nat → Nat → Prop} (h : ∀ q i, L q i ↔ L' q i) (g : Nat) : Lp L g ↔ Lp L' g := by
  constructor
  · rintro ⟨q, i, h1, h2⟩
    exact ⟨q, i, (h q i).1 h1, h2⟩
  · rintro ⟨q, i, h1, h2⟩
    exact ⟨q, i, (h q i).2 h1, h2⟩
theorem Wb.congr {E w W lw c x t fa fl fc ra nv rc L L'} (h : Wb E w W lw c x t fa fl fc ra nv rc L) (hL : ∀ q i, L q i ↔ L' q i) : Wb E w W lw c x t fa fl fc ra nv rc L' := ⟨h.lw, h.rl, h.sn.congr hL, h.st, h.nc, h.bm, fun i h1 h2 => h.gb i h1 ((Lp.congr hL _).2 h2), h.ex⟩
/-- Neither the buddy nor the law's box is the book's. -/
theorem LW.bks {w W W' lw x t dP fv lv v n R} (h : LW w W lw x t dP fv lv) (r : Bks W v n R) (k : Kept (fun y => bown x y ∨ y = lw) W W') : Bks W' v n R := by
  refine r.kept k fun y e hx => ?_
  obtain ⟨cs, hg⟩ : ∃ cs, W.heap[y]? = some (.cells cs 62 (0, 0)) := by
    rcases r.2 with ⟨h0, _⟩ | ⟨g, cap, cur, h0, hb, hg, h3⟩
    · rw [h0] at e; simp [Value.ownBlock] at e
    · rw [h0] at e; simp [Value.ownBlock] at e
      subst e
      exact ⟨_, hg⟩
  rcases hx with (hx | hx | ⟨j, hj, e⟩) | hx
  · obtain ⟨cs, t', z, h1, h2⟩ := space_ty h.bd.sp hx
    rw [hg] at h1
    cases h1
    rcases h2 with e | e <;> exact absurd e (by decide)
  · rw [← h.bd.mo] at hx
    obtain ⟨cs, t', z, h1, h2⟩ := map_ty h.bd.mp hx
    rw [hg] at h1
    cases h1
    rcases h2 with e | e | e | e | e <;> exact absurd e (by decide)
  · exact ty_ne hg (h.bd.ls j hj).hc (by decide) e
  · exact ty_ne hg h.box (by decide) hx
/-- The numbers of a law's world. -/
theorem Wb.nums {E w W lw c x t fa fl fc ra nv rc L} (h : Wb E w W lw c x t fa fl fc ra nv rc L) : x.o ≤ 8 ∧ t.m.n ≤ 1024 ∧ 1 ≤ x.base ∧ x.base + x.n ≤ 9223372036854775808 ∧ (∃ r, t.m.n = r * 2 ^ x.o ∧ r ≤ x.lim ∧ x.n = r * x.R) ∧ x.lim ≤ 64 ∧ x.lim * 2 ^ x.o ≤ 1024 := by
  obtain ⟨n1, n2, n3⟩ := h.sn.n
  have hc := h.lw.bd.sp.cfg
  obtain ⟨r, hr, hr2⟩ := h.lw.bd.sp.kn
  have hR := h.lw.bd.hR
  have hst := h.st
  have hlr := hc.lr
  refine ⟨h.lw.bd.o8, n1, hc.b1, n2, ⟨r, ?_, hr2, hr⟩, hc.l2, ?_⟩
  · rw [hr, hR] at hst
    have e : r * (4096 * 2 ^ x.o) = (r * 2 ^ x.o) * 4096 := by rw [Nat.mul_comm 4096, Nat.mul_assoc]
    rw [e] at hst
    exact Nat.eq_of_mul_eq_mul_right (by decide) hst
  · rw [hR] at hlr
    have e : x.lim * (4096 * 2 ^ x.o) = (x.lim * 2 ^ x.o) * 4096 := by rw [Nat.mul_comm 4096, Nat.mul_assoc]
    rw [e] at hlr
    omega
/-- The book is stuck just if each stretch meets a live block. -/
theorem stuck_iff {R : Nat → Bk} {n P k o : Nat} (hk : k ≤ o) (hP : ∃ r, P = r * 2 ^ o) : Stuck R n P k ↔ ∀ a, a % 2 ^ k = 0 → a + 2 ^ k ≤ P → ∃ q i, Lk R n q i ∧ Meet a k q i := by
  have hz : 0 < 2 ^ k := Nat.pow_pos (by decide)
  obtain ⟨r, hP⟩ := hP
  obtain ⟨s, hs⟩ : ∃ s, P = s * 2 ^ k := ⟨r * 2 ^ (o - k), by rw [hP, Nat.mul_assoc, ← Nat.pow_add, Nat.sub_add_cancel hk]⟩
  constructor
  · intro h a h1 h2
    have ha : a = a / 2 ^ k * 2 ^ k := by have := Nat.div_add_mod a (2 ^ k); rw [h1, Nat.mul_comm] at this; omega
    have := h (a / 2 ^ k) (by rw [← ha]; omega)
    rw [← ha, meetsB_iff] at this
    obtain ⟨j, hj, hm⟩ := this
    exact ⟨_, _, ⟨j, hj, rfl, rfl⟩, hm⟩
  · intro h i hi
    rw [meetsB_iff]
    obtain ⟨q, i2, ⟨j, hj, rfl, rfl⟩, hm⟩ := h (i * 2 ^ k) (Nat.mul_mod_left _ _) (by
      have : i < s := by
        rw [hs] at hi
        exact Nat.lt_of_mul_lt_mul_right hi
      have h2 : (i + 1) * 2 ^ k ≤ s * 2 ^ k := Nat.mul_le_mul_right _ this
      rw [Nat.add_mul, Nat.one_mul] at h2
      omega)
    exact ⟨j, hj, hm⟩
theorem Wb.rng {E w W lw c x t fa fl fc ra nv rc R n} (h : Wb E w W lw c x t fa fl fc ra nv rc (Lk R n)) : ∀ i, i < n → (R i).od ≤ x.o ∧ (R i).pg % 2 ^ (R i).od = 0 ∧ (R i).pg + 2 ^ (R i).od ≤ t.m.n := fun i hi => h.sn.al ⟨i, hi, rfl, rfl⟩
theorem Wb.rng2 {E w W lw c x t fa fl fc ra nv rc R n} (h : Wb E w W lw c x t fa fl fc ra nv rc (Lk R n)) : ∀ i, i < n → (R i).pg ≤ 1024 ∧ (R i).od ≤ 8 := fun i hi => by
  obtain ⟨h1, h2, h3⟩ := h.rng i hi
  have := h.nums.1
  have := h.nums.2.1
  exact ⟨by omega, by omega⟩
end Go.Proofs.YthglogiglimebaaGreat
/- The law's at and page. -/
namespace Go.Proofs.YthglogiglimebaaGreat
open Go.RowKit
set_option linter.unusedVariables false

set_option maxRecDepth 4000 in
theorem at_ok {w W lw x t dP fv lv} (h : LW w W lw x t dP fv lv) (p : Nat) (hp : p ≤ 1024) (hb : x.base + 4096 * p < 18446744073709551616) :
    Calls Tryz.prog 11 #[.pointer (some ⟨lw, 0, none⟩), .int .i64 (p : Int)] W fun e w' => e = .returned (.int .u64 ((ad x p : Nat) : Int)) ∧ w' = W := by
  obtain ⟨c0, c1, c2, c3, c4, c5, c6, c7, c8, c9⟩ := h.c
  have e1 : ((ad x p : Nat) : Int) = (x.base : Int) + 4096 * (p : Int) := by unfold ad; omega
  rw [e1]
  clear h e1
  go_enter Tryz.func11, Tryz.ntmps11
  go_wp2_with fail
  go_ret
  exact ⟨rfl, rfl⟩
set_option maxRecDepth 4000 in
theorem page_ok {w W lw x t dP fv lv} (h : LW w W lw x t dP fv lv) (p : Nat) (hp : p < dP) (hd : dP ≤ 1024) (hb : x.base + 4096 * dP < 18446744073709551616) (hm : x.base % 4096 = 0) :
    Calls Tryz.prog 48 #[.pointer (some ⟨lw, 0, none⟩), .int .u64 ((ad x p : Nat) : Int)] W fun e w' => e = .returned (.int .i64 (p : Int)) ∧ Kept none' W w' := by
  obtain ⟨c0, c1, c2, c3, c4, c5, c6, c7, c8, c9⟩ := h.c
  obtain ⟨a, ha⟩ : ∃ a, a = ad x p := ⟨_, rfl⟩
  have ha2 : a = x.base + 4096 * p := ha
  rw [← ha]
  clear h ha
  have e1 : decide ((a : Int) < (x.base : Int)) = false := by simp; omega
  have e1b : (x.base : Int) ≤ (a : Int) := by omega
  have e1n : decide (a < x.base) = false := by simp; omega
  have e1m : x.base ≤ a := by omega
  have e2 : (a : Int) % 4096 = 0 := by omega
  have e3 : decide (4096 * (dP : Int) ≤ (a : Int) - (x.base : Int)) = false := by simp; omega
  have e3b : (a : Int) - (x.base : Int) < 4096 * (dP : Int) := by omega
  have e4 : ((a : Int) - (x.base : Int)) / 4096 = (p : Int) := by omega
  have e5 : a < 18446744073709551616 := by omega
  clear ha2
  go_enter Tryz.func48, Tryz.ntmps48
  go_wp2_with fail
  go_quiet (fail)
  go_wp2_with fail
  go_ret
  exact ⟨rfl, (Kept.refl none' W).drewN _⟩
end Go.Proofs.YthglogiglimebaaGreat
/- The law's world when a region comes or goes. -/
namespace Go.Proofs.YthglogiglimebaaGreat
open Go.RowKit
set_option linter.unusedVariables false

theorem growM_n {m : Mp} {o : Nat} (ho : m.o = o) (h : m.n + 2 ^ o ≤ 1024) : (growM m).n = m.n + 2 ^ o := by
  subst ho
  unfold growM
  rw [if_neg (by show ¬ 1024 < m.n + 2 ^ m.o; omega)]
  rfl
/-- A region has come: its block is live. -/
theorem Wb.come {E w W W' lw c x t fa fl fc ra nv rc L e} (h : Wb E w W lw c x t fa fl fc ra nv rc L) (hl : x.n + x.R ≤ x.lim * x.R) (hG : ∀ g, E.G g → Lp L g) (q : ComeQ w W lw x t t.m.n (.slice fa fl fc) nv e W') :
    e = .returned (.bool true) ∧ ∃ x' t' ra' rc', Wb E w W' lw (c + 1) x' t' fa fl fc ra' (nv + 1) rc' (fun q i => L q i ∨ (q = t.m.n ∧ i = x.o)) ∧ Kept (fun y => bown x y ∨ y = lw) W W' ∧ x'.o = x.o ∧ x'.lim = x.lim ∧ t'.m.n = t.m.n + 2 ^ x.o ∧ topP x' = t.m.n ∧ topOk x' t' ∧ x'.b = x.b ∧ x'.s = x.s := by
  obtain ⟨x', ga, gc, he, h1, h2, h3, e1, e2, e3, e4, e5, e6, e7⟩ := q
  obtain ⟨n1, n2, n3, n4, ⟨r, n5, n6, n7⟩, n8, n9⟩ := h.nums
  have hc := h.lw.bd.sp.cfg
  have hR := h.lw.bd.hR
  have hst := h.st
  have hbe := hc.be
  have hz : 0 < 2 ^ x.o := Nat.pow_pos (by decide)
  have hR2 : x.R = 2 ^ x.o * 4096 := by rw [hR, Nat.mul_comm]
  have hlr := hc.lr
  have hg : t.m.n + 2 ^ x.o ≤ 1024 := by
    have : (t.m.n + 2 ^ x.o) * 4096 ≤ 1024 * 4096 := by
      rw [Nat.add_mul, hst, ← hR2]
      omega
    exact Nat.le_of_mul_le_mul_right this (by decide)
  have hn : (growM t.m).n = t.m.n + 2 ^ x.o := growM_n h.lw.bd.mo hg
  have hst' : (growM t.m).n * 4096 = x'.n := by rw [hn, Nat.add_mul, hst, ← hR2, e4]
  refine ⟨he, x', ⟨M.more t.f x.n, growM t.m, t.hd⟩, ga, gc, ⟨?_, h2, h.sn.grow h.lw.bd x' e5 e1 e4 (by rw [e4]; omega) hg, hst', by have := h.nc; omega, by rw [e1]; exact h.bm, fun i hi _ => by
    have h1 := h.sn.inn (hG _ hi)
    show M.more t.f x.n i = _
    unfold M.more
    rw [if_pos (by omega)]
    exact h.gb i hi (hG _ hi), h.exk h3 (fun _ e => e.elim .inl (fun e => .inr (.inr (.inr e))))⟩, h3, e5, e3, hn, ?_, ⟨?_, hst'⟩, e6, e7⟩
  · show LW w W' lw x' _ (growM t.m).n _ _
    rw [hn]
    exact h1
  · unfold topP
    rw [e4, e5, ← hst, hR2, ← Nat.add_mul, Nat.mul_div_cancel _ (by decide)]
    omega
  · rw [e4]
    omega
/-- The topmost region's block goes. -/
theorem Wb.goes {E w W W' lw c x t fa fl fc ra nv rc L e} (h : Wb E w W lw c x t fa fl fc ra nv rc L) (hl : L (t.m.n - 2 ^ x.o) x.o) (hn : 2 ^ x.o ≤ t.m.n) (q : GoesQ w W lw x t t.m.n (.slice fa fl fc) nv e W') :
    e = .returned (.bool true) ∧ ∃ x' t' ra' nv' rc', Wb E w W' lw c x' t' fa fl fc ra' nv' rc' (fun q i => L q i ∧ ¬ (q = t.m.n - 2 ^ x.o ∧ i = x.o)) ∧ Kept (fun y => bown x y ∨ y = lw) W W' ∧ x'.o = x.o ∧ x'.lim = x.lim ∧ x'.b = x.b ∧ x'.s = x.s := by
  obtain ⟨x', ga, m, gc, hm, he, h1, h2, h3, e1, e2, e3, e4, e5, e6, e7⟩ := q
  have hst := h.st
  have hR := h.lw.bd.hR
  have hR2 : x.R = 2 ^ x.o * 4096 := by rw [hR, Nat.mul_comm]
  have hst' : (t.m.n - 2 ^ x.o) * 4096 = x'.n := by rw [e4, Nat.mul_sub_right_distrib, hst, ← hR2]
  refine ⟨he, x', ⟨t.f, resizeM t.m (t.m.n - 2 ^ x.o), t.hd⟩, ga, m, gc, ⟨h1, h2, h.sn.drop h.lw.bd (t.m.n - 2 ^ x.o) (by omega) hl x' e5 e1 (Nat.le_of_eq hst') (by rw [e4]; exact Nat.sub_le _ _), hst', by have := h.nc; omega, by rw [e1]; exact h.bm, fun i hi hl => h.gb i hi (by
    obtain ⟨q, k, h1, h2⟩ := hl
    exact ⟨q, k, h1.1, h2⟩), h.exk h3 (fun _ e => e.elim .inl (fun e => .inr (.inr (.inr e))))⟩, h3, e5, e3, e6, e7⟩
end Go.Proofs.YthglogiglimebaaGreat
/- What do leaves; its boxes. -/
namespace Go.Proofs.YthglogiglimebaaGreat
open Go.RowKit
set_option linter.unusedVariables false

/-- A law's world with its book, c steps behind it. -/
structure BW (E : Gh) (w W : World) (lw c : Nat) (x : Bx) (t : Bt) (fa : Option Addr) (fl fc : Nat) (ra : Option Addr) (nv rc : Nat) (va : Option Addr) (n vc : Nat) (R : Nat → Bk) : Prop where
  wb : Wb E w W lw c x t fa fl fc ra nv rc (Lk R n)
  inj : Inj R n
  bk : Bks W (.slice va n vc) n R
  nc : n ≤ c
  mr : ∀ j, j < n → (R j).mark < 256
theorem BW.keep {E w W W' lw c x t fa fl fc ra nv rc va n vc R} (h : BW E w W lw c x t fa fl fc ra nv rc va n vc R) (k : Kept none' W W') : BW E w W' lw c x t fa fl fc ra nv rc va n vc R := ⟨h.wb.keep k, h.inj, h.bk.kept k (fun _ _ e => e), h.nc, h.mr⟩
theorem BW.mono {E w W lw c c' x t fa fl fc ra nv rc va n vc R} (h : BW E w W lw c x t fa fl fc ra nv rc va n vc R) (hc : c ≤ c') : BW E w W lw c' x t fa fl fc ra nv rc va n vc R := ⟨h.wb.mono hc, h.inj, h.bk, Nat.le_trans h.nc hc, h.mr⟩
theorem LW.other {w W W' lw x t dP fv lv} {S : Nat → Prop} (h : LW w W lw x t dP fv lv) (k : Kept S W W') (hS : ∀ y, bown x y ∨ y = x.b ∨ y = x.l ∨ y = lw → ¬ S y) (h0 : ∀ y, S y → w.heap.size ≤ y) : LW w W' lw x t dP fv lv :=
  ⟨(k.block _ (heap_lt h.box) (hS _ (.inr (.inr (.inr rfl))))).trans h.box, h.bd.kept k (fun y hy => hS y (hy.elim .inl (fun e => e.elim (fun e => .inr (.inl e)) (fun e => .inr (.inr (.inl e)))))), h.nw, h.kp.trans k (fun _ _ e => e) (fun y hy e => absurd (h0 y e) (by omega))⟩
theorem Bks.ty {W v n R} (h : Bks W v n R) {y : Nat} (e : v.ownBlock = some y) : ∃ cs, W.heap[y]? = some (.cells cs 62 (0, 0)) := by
  rcases h.2 with ⟨h0, _⟩ | ⟨g, cap, cur, h0, hb, hg, h3⟩
  · rw [h0] at e; simp [Value.ownBlock] at e
  · rw [h0] at e; simp [Value.ownBlock] at e
    subst e
    exact ⟨_, hg⟩
/-- A box of a book is written. -/
theorem BW.set {E w W lw c x t fa fl fc ra nv rc va n vc R b cs z} (h : BW E w W lw c x t fa fl fc ra nv rc va n vc R) (hb : W.heap[b]? = some (.cells cs 54 z)) (hw : w.heap.size ≤ b ∧ ∀ v, ¬ E.e b v) (u : Value) : BW E w (W.setCell ⟨b, 0, none⟩ u) lw c x t fa fl fc ra nv rc va n vc R := by
  have k : Kept (fun y => y = b) W (W.setCell ⟨b, 0, none⟩ u) := (Kept.refl (fun y => y = b) W).setCell (p := ⟨b, 0, none⟩) rfl _
  refine ⟨⟨h.wb.lw.other k (h.wb.lw.not hb) (fun y e => by have e : y = b := e; have := hw.1; omega), h.wb.rl.kept k (fun y e hy => ?_), h.wb.sn, h.wb.st, h.wb.nc, h.wb.bm, h.wb.gb, fun y v e => (k.block _ (heap_lt (h.wb.ex y v e)) (fun hy => hw.2 v (by have hy : y = b := hy; rw [← hy]; exact e))).trans (h.wb.ex y v e)⟩, h.inj, h.bk.kept k (fun y e hy => ?_), h.nc, h.mr⟩
  · obtain ⟨cs, hg⟩ := h.wb.rl.ty e
    exact ty_ne hg hb (by decide) hy
  · obtain ⟨cs, hg⟩ := h.bk.ty e
    exact ty_ne hg hb (by decide) hy
/-- What became of the book: each block is, or lies in, one that it was, with its mark, or is the new one. -/
def Rl (R : Nat → Bk) (n : Nat) (R' : Nat → Bk) (n' : Nat) : Prop := (∀ j, j < n' → (∃ i, i < n ∧ (R' j).mark = (R i).mark ∧ (R i).pg ≤ (R' j).pg ∧ (R' j).pg + 2 ^ (R' j).od ≤ (R i).pg + 2 ^ (R i).od) ∨ (n' = n + 1 ∧ j = n)) ∧ n' ≤ n + 1
theorem mr_wo {R : Nat → Bk} {n d : Nat} (hd : d < n) (h : ∀ j, j < n → (R j).mark < 256) : ∀ j, j < n - 1 → (wo R d j).mark < 256 := fun j hj => by
  unfold Go.Proofs.YthglogiglimebaaGreat.wo
  by_cases e : j < d
  · rw [if_pos e]; exact h j (by omega)
  · rw [if_neg e]; exact h (j + 1) (by omega)
theorem u8_range (z : Int) : 0 ≤ IntKind.u8.wrap z ∧ IntKind.u8.wrap z < 256 := by
  constructor
  · exact Int.emod_nonneg _ (by decide)
  · exact Int.emod_lt_of_pos _ (by decide)
theorem Rl.refl (R : Nat → Bk) (n : Nat) : Rl R n R n := ⟨fun j hj => .inl ⟨j, hj, rfl, Nat.le_refl _, Nat.le_refl _⟩, Nat.le_succ _⟩
theorem Rl.up (R : Nat → Bk) (n : Nat) (b : Bk) : Rl R n (upb R n b) (n + 1) := ⟨fun j hj => by
  by_cases e : j < n
  · exact .inl ⟨j, e, by simp [upb, e], by simp [upb, e], by simp [upb, e]⟩
  · exact .inr ⟨rfl, by omega⟩, Nat.le_refl _⟩
theorem Rl.wo (R : Nat → Bk) (n d : Nat) (hd : d < n) : Rl R n (wo R d) (n - 1) := ⟨fun j hj => .inl (by
  unfold Go.Proofs.YthglogiglimebaaGreat.wo
  by_cases e : j < d
  · rw [if_pos e]; exact ⟨j, by omega, rfl, Nat.le_refl _, Nat.le_refl _⟩
  · rw [if_neg e]; exact ⟨j + 1, by omega, rfl, Nat.le_refl _, Nat.le_refl _⟩), by omega⟩
theorem Rl.sh (R : Nat → Bk) (n d o : Nat) (hd : d < n) (ho : o ≤ (R d).od) : Rl R n (upb (Go.Proofs.YthglogiglimebaaGreat.wo R d) (n - 1) ⟨(R d).pg, o, (R d).mark⟩) (n - 1 + 1) := ⟨fun j hj => .inl (by
  by_cases e : j < n - 1
  · rcases (Rl.wo R n d hd).1 j e with h | h
    · simpa [upb, e] using h
    · omega
  · refine ⟨d, hd, by simp [upb, e], by simp [upb, e], ?_⟩
    have : 2 ^ o ≤ 2 ^ (R d).od := Nat.pow_le_pow_right (by decide) ho
    simp only [upb, if_neg e]
    omega), by omega⟩
/-- What do leaves. -/
def DoP (E : Gh) (R0 : Nat → Bk) (n0 : Nat) (w : World) (lw c : Nat) (e : Ending) (w' : World) : Prop := ∃ x t fa fl fc ra nv rc va n vc R, Rl R0 n0 R n ∧ e = .returned (.tuple #[.agg #[.slice va n vc], .bool true]) ∧ BW E w w' lw c x t fa fl fc ra nv rc va n vc R
/-- do's three boxes. -/
abbrev doW (W : World) (v : Value) (op od wh : Int) : World := ((W.alloc (.cells #[v] 54)).alloc (.cells #[.int .i64 op, .int .i64 od, .int .i64 wh] 58)).alloc (.cells #[.slice none 0 0] 54)
structure Bxs (W0 W : World) (v : Value) (op od wh : Int) : Prop where
  kb : W.heap[W0.heap.size]? = some (.cells #[v] 54)
  xb : W.heap[W0.heap.size + 1]? = some (.cells #[.int .i64 op, .int .i64 od, .int .i64 wh] 58)
  k0 : W.cell? ⟨W0.heap.size, 0, none⟩ = some v
  x0 : W.cell? ⟨W0.heap.size + 1, 0, none⟩ = some (.int .i64 op)
  x1 : W.cell? ⟨W0.heap.size + 1, 1, none⟩ = some (.int .i64 od)
  x2 : W.cell? ⟨W0.heap.size + 1, 2, none⟩ = some (.int .i64 wh)
  r0 : W.heap[W0.heap.size + 1 + 1]? = some (.cells #[.slice none 0 0] 54)
  rc : W.cell? ⟨W0.heap.size + 1 + 1, 0, none⟩ = some (.slice none 0 0)
  rf : W.frozen? ⟨W0.heap.size + 1 + 1, 0, none⟩ = false
theorem Bxs.mk' {W0 W v op od wh} (kb : W.heap[W0.heap.size]? = some (.cells #[v] 54)) (xb : W.heap[W0.heap.size + 1]? = some (.cells #[.int .i64 op, .int .i64 od, .int .i64 wh] 58)) (r : W.heap[W0.heap.size + 1 + 1]? = some (.cells #[.slice none 0 0] 54)) : Bxs W0 W v op od wh := by
  refine ⟨kb, xb, ?_, ?_, ?_, ?_, r, ?_, ?_⟩
  · simp only [World.cell?, kb]; rfl
  · simp only [World.cell?, xb]; rfl
  · simp only [World.cell?, xb]; rfl
  · simp only [World.cell?, xb]; rfl
  · simp only [World.cell?, r]; rfl
  · simp only [World.frozen?, r]; rfl
theorem Bxs.keptN {W0 W W' v op od wh} {S : Nat → Prop} (h : Bxs W0 W v op od wh) (k : Kept S W W') (n0 : ¬ S W0.heap.size) (n1 : ¬ S (W0.heap.size + 1)) (n2 : ¬ S (W0.heap.size + 1 + 1)) : Bxs W0 W' v op od wh :=
  Bxs.mk' ((k.block _ (heap_lt h.kb) n0).trans h.kb) ((k.block _ (heap_lt h.xb) n1).trans h.xb) ((k.block _ (heap_lt h.r0) n2).trans h.r0)
theorem Bxs.keep {W0 W W' v op od wh} (h : Bxs W0 W v op od wh) (k : Kept none' W W') : Bxs W0 W' v op od wh := h.keptN k (fun e => e) (fun e => e) (fun e => e)
theorem Bxs.kept {W0 W W' v op od wh} {S : Nat → Prop} (h : Bxs W0 W v op od wh) (k : Kept S W W') (hS : ∀ y, S y → y < W0.heap.size) : Bxs W0 W' v op od wh :=
  h.keptN k (fun e => absurd (hS _ e) (Nat.lt_irrefl _)) (fun e => by have := hS _ e; omega) (fun e => by have := hS _ e; omega)
theorem LW.notD {w W lw x t dP fv lv b cs z} (h : LW w W lw x t dP fv lv) (hb : W.heap[b]? = some (.cells cs 58 z)) : ∀ y, bown x y ∨ y = lw → ¬ y = b := by
  rintro y ((hx | hx | ⟨j, hj, e⟩) | rfl) rfl
  · obtain ⟨cs, t', z, h1, h2⟩ := space_ty h.bd.sp hx
    rw [hb] at h1
    cases h1
    rcases h2 with e | e <;> exact absurd e (by decide)
  · rw [← h.bd.mo] at hx
    obtain ⟨cs, t', z, h1, h2⟩ := map_ty h.bd.mp hx
    rw [hb] at h1
    cases h1
    rcases h2 with e | e | e | e | e <;> exact absurd e (by decide)
  · exact ty_ne hb (h.bd.ls j hj).hc (by decide) e
  · exact ty_ne hb h.box (by decide) rfl
/-- The law's world is called: do's boxes are not its. -/
theorem Bxs.call {W0 w W W' lw x t dP fv lv v op od wh} (h : Bxs W0 W v op od wh) (hl : LW w W lw x t dP fv lv) (k : Kept (fun y => bown x y ∨ y = lw) W W') : Bxs W0 W' v op od wh := by
  have wid : ∀ y, bown x y ∨ y = lw → bown x y ∨ y = x.b ∨ y = x.l ∨ y = lw := fun y e => e.elim .inl (fun e => .inr (.inr (.inr e)))
  exact h.keptN k (fun e => hl.not h.kb _ (wid _ e) rfl) (fun e => hl.notD h.xb _ e rfl) (fun e => hl.not h.r0 _ (wid _ e) rfl)
theorem LW.lt {w W lw x t dP fv lv} (h : LW w W lw x t dP fv lv) : ∀ y, bown x y ∨ y = lw → y < W.heap.size := by
  rintro y ((hx | hx | ⟨j, hj, e⟩) | rfl)
  · obtain ⟨cs, t', z, h1, h2⟩ := space_ty h.bd.sp hx
    exact heap_lt h1
  · rw [← h.bd.mo] at hx
    obtain ⟨cs, t', z, h1, h2⟩ := map_ty h.bd.mp hx
    exact heap_lt h1
  · rw [e]; exact heap_lt (h.bd.ls j hj).hc
  · exact heap_lt h.box
theorem do3 (W : World) (v : Value) (op od wh : Int) : Kept none' W (doW W v op od wh) ∧ Bxs W (doW W v op od wh) v op od wh := by
  have k1 := (Kept.refl none' W).alloc (.cells #[v] 54)
  have k2 := (Kept.refl none' (W.alloc (.cells #[v] 54))).alloc (.cells #[.int .i64 op, .int .i64 od, .int .i64 wh] 58)
  have k3 := (Kept.refl none' ((W.alloc (.cells #[v] 54)).alloc (.cells #[.int .i64 op, .int .i64 od, .int .i64 wh] 58))).alloc (.cells #[.slice none 0 0] 54)
  have e1 := heap_new W (.cells #[v] 54)
  have e2 := heap_new2 W (.cells #[v] 54) (.cells #[.int .i64 op, .int .i64 od, .int .i64 wh] 58)
  have e3 := heap_new ((W.alloc (.cells #[v] 54)).alloc (.cells #[.int .i64 op, .int .i64 od, .int .i64 wh] 58)) (.cells #[.slice none 0 0] 54)
  have hs : ((W.alloc (.cells #[v] 54)).alloc (.cells #[.int .i64 op, .int .i64 od, .int .i64 wh] 58)).heap.size = W.heap.size + 1 + 1 := by simp
  rw [hs] at e3
  have f1 := (none_trans k2 k3).block _ (heap_lt e1) (fun e => e)
  have f2 := k3.block _ (heap_lt e2) (fun e => e)
  rw [e1] at f1
  rw [e2] at f2
  exact ⟨none_trans (none_trans k1 k2) k3, Bxs.mk' f1 f2 e3⟩
theorem setc {W : World} {b : Nat} (h : W.heap[b]? = some (.cells #[.slice none 0 0] 54)) (u : Value) : (W.setCell ⟨b, 0, none⟩ u).cell? ⟨b, 0, none⟩ = some u := by
  have := heap_set h 0 u
  simp [World.cell?, this]
/-- A block more in the book. -/
theorem put_bw {E w w5 w7 lw c x t fa fl fc ra nv rc R n g2 cap2} {L : Nat → Nat → Prop} {p k : Nat} {m : Int} (hW : Wb E w w5 lw c x t fa fl fc ra nv rc L) (hL : ∀ q i, L q i ↔ Lk R n q i ∨ (q = p ∧ i = k)) (hI : Inj R n) (hnew : ¬ Lk R n p k) (hc : n ≤ c) (hm : 0 ≤ m ∧ m < 256) (hr : ∀ j, j < n → (R j).mark < 256)
    (g : GS w5 w7 62 3 (.slice (some ⟨g2, 0, none⟩) (n + 1) cap2) (n + 1) (flatB R n ++ [.int .i64 (p : Int), .int .i64 (k : Int), .int .u8 m])) : BW E w w7 lw (c + 1) x t fa fl fc ra nv rc (some ⟨g2, 0, none⟩) (n + 1) cap2 (upb R n ⟨p, k, m.toNat⟩) := by
  have h1 := (hW.keep g.kp).mono (Nat.le_succ c)
  refine ⟨h1.congr fun q i => (hL q i).trans (Lk.up R n ⟨p, k, m.toNat⟩ q i).symm, hI.up _ hnew, ?_, by omega, fun j hj => ?_⟩
  rotate_left
  · unfold upb
    by_cases e : j < n
    · rw [if_pos e]; exact hr j e
    · rw [if_neg e]; show m.toNat < 256; omega
  have := g.own
  unfold Bks
  rw [flatB_upb]
  have e : ((m.toNat : Nat) : Int) = m := Int.toNat_of_nonneg hm.1
  rw [show (Bk.mk p k m.toNat).mark = m.toNat from rfl, e]
  exact this
theorem bx3 {W : World} {b : Nat} {p k m : Int} (h : W.heap[b]? = some (.cells #[.int .i64 p, .int .i64 k, .int .u8 m] 62)) : W.cell? ⟨b, 0, none⟩ = some (.int .i64 p) ∧ W.cell? ⟨b, 1, none⟩ = some (.int .i64 k) := by
  constructor <;> simp [World.cell?, h]
theorem cell_far {W : World} {b b' i : Nat} {u v : Value} (h : W.cell? ⟨b, i, none⟩ = some u) (hne : b ≠ b') : (W.setCell ⟨b', 0, none⟩ v).cell? ⟨b, i, none⟩ = some u :=
  ((Kept.refl (fun y => y = b') W).setCell (p := ⟨b', 0, none⟩) rfl v).cell hne h
end Go.Proofs.YthglogiglimebaaGreat
/- The two appends of a block to a copy of the book, as steps of a region. -/
namespace Go.Proofs.YthglogiglimebaaGreat
open Go.RowKit
set_option linter.unusedVariables false

theorem bks_one (R : Nat → Bk) : ∀ n, ∀ u ∈ flatB R n, u.oneCell' = true
  | 0, u, h => by cases h
  | n + 1, u, h => by
    rw [flatB, List.mem_append] at h
    rcases h with h | h
    · exact bks_one R n u h
    · simp only [List.mem_cons, List.not_mem_nil, or_false] at h
      rcases h with rfl | rfl | rfl <;> rfl
theorem step_app1 {ops : Array Oper} {o : Oper} {a : Act} {K : Act → World → Prop} {Q : Exit → Act → World → Prop} {E : Prop} {W5 w : World} (k : Kept none' W5 w) {va : Option Addr} {n vc : Nat} {R : Nat → Bk} (hB : Bks W5 (.slice va n vc) n R) (hn : n ≤ 2000)
    (hgd : o.guard = none) (s x : Operand) (hop : o.op = .call { callee := .builtin .append, args := #[s, x], argTypes := #[52, 52] })
    (g0 : Nat) (hs : a.eval s = .slice (some ⟨g0, 0, none⟩) 0 0) (hg0 : w.heap[g0]? = some (.cells #[] 62)) (h0 : W5.heap.size ≤ g0) (hx : a.eval x = .slice va n vc)
    (h : ∀ g cap w1, GS W5 w1 62 3 (.slice (some ⟨g, 0, none⟩) n cap) n (flatB R n) → (∀ y ob, w.heap[y]? = some ob → y ≠ g0 → w1.heap[y]? = some ob) → W5.heap.size ≤ g → K (a.put o.dst (.slice (some ⟨g, 0, none⟩) n cap)) w1) :
    if Region.wanted o (yielded ops a.tmps) = true then Oper.wp Tryz.prog o a w K Q else E := by
  have hw : Region.wanted o (yielded ops a.tmps) = true := by simp [Region.wanted, hgd]
  rw [if_pos hw]
  obtain ⟨i, hi, hzz⟩ := Option.map_eq_some_iff.1 info_bk
  simp only [Prod.mk.injEq] at hzz
  have hB2 := hB.kept k (fun _ _ e => e)
  have hown : w.ownsRow 0 62 3 (.slice (some ⟨g0, 0, none⟩) 0 0) 0 [] := ⟨rfl, .inr ⟨g0, 0, #[], rfl, Nat.zero_le _, hg0, Nat.le_refl _, by simp [maxLen], rfl, rfl⟩⟩
  rcases hB2.2 with ⟨hv, hn0⟩ | ⟨g, cap, cur, hv, _, hg, _⟩
  · injection hv with e1 e2 e3
    subst e1 e2 e3
    exact Lib.wp_append_run w s x _ _ hop _ _ hs hx _ _ (run_append_nothing w _ _ _ _ i Tryz.underlying52 hi _ _ _ (Nat.le_refl _) _ (Src.ofNil _ Tryz.underlying52 0)) (h g0 0 w ⟨hown, fun g cap e => .inl (by simp at e; omega), k⟩ (fun y ob e _ => e) h0)
  · injection hv with e1 e2 e3
    subst e1 e3
    obtain ⟨v', w', hrun, hown', hgr, hnil, hblk⟩ := run_append_own_at (P := Tryz.prog) w 0 52 o.type 62 i (.agg #[.int .i64 0, .int .i64 0, .int .u8 0]) 3 24 Tryz.underlying52 hi hzz.1 hzz.2.1 hzz.2.2 rfl (by decide) (.slice (some ⟨g0, 0, none⟩) 0 0) 0 [] hown ⟨g, 0, none⟩ n vc (flatB R n) (flatB_len R n) (fun j u hj => World.ownsRow.cells hB2 rfl j u hj) (bks_one R n) (by simp only [maxLen]; omega) (by omega) (Nat.zero_le _)
    have hk := grown_kept' hgr
    have hk5 : Kept none' W5 w' := k.trans hk (fun _ _ e => e) (fun y hy e => by
      have e : some g0 = some y := e
      injection e with e
      omega)
    have hz := k.size
    rw [Nat.zero_add, List.nil_append] at hown'
    rcases hown'.2 with ⟨e, _⟩ | ⟨g', cap', cur', e, _, hg', _⟩
    · exact absurd (hnil.1 e).1 (by simp)
    · subst e
      have hgg : W5.heap.size ≤ g' := by
        rcases hblk with e | e <;> simp [Value.ownBlock] at e <;> omega
      exact Lib.wp_append_run w s x _ _ hop _ _ hs hx _ _ hrun (h g' cap' w' ⟨hown', fun g cap e => .inr (by simp at e; omega), hk5⟩ (fun y ob e hne => (hk.block _ (heap_lt e) (fun e => by
        have e : some g0 = some y := e
        injection e with e
        exact hne e.symm)).trans e) hgg)
theorem step_app2 {ops : Array Oper} {o : Oper} {a : Act} {K : Act → World → Prop} {Q : Exit → Act → World → Prop} {E : Prop} {W5 w : World} {g n cap : Nat} {xs : List Value} (hG : GS W5 w 62 3 (.slice (some ⟨g, 0, none⟩) n cap) n xs) (hn : n ≤ 2000)
    (hgd : o.guard = none) (s x : Operand) (hop : o.op = .call { callee := .builtin .append, args := #[s, x], argTypes := #[52, 52] })
    (hs : a.eval s = .slice (some ⟨g, 0, none⟩) n cap) (b c2 : Nat) (p k m : Int) (hx : a.eval x = .slice (some ⟨b, 0, none⟩) 1 c2) (hb : w.heap[b]? = some (.cells #[.int .i64 p, .int .i64 k, .int .u8 m] 62))
    (h : ∀ g2 cap2 w2, GS W5 w2 62 3 (.slice (some ⟨g2, 0, none⟩) (n + 1) cap2) (n + 1) (xs ++ [.int .i64 p, .int .i64 k, .int .u8 m]) → W5.heap.size ≤ g2 → K (a.put o.dst (.slice (some ⟨g2, 0, none⟩) (n + 1) cap2)) w2) :
    if Region.wanted o (yielded ops a.tmps) = true then Oper.wp Tryz.prog o a w K Q else E := by
  have hw : Region.wanted o (yielded ops a.tmps) = true := by simp [Region.wanted, hgd]
  rw [if_pos hw]
  obtain ⟨i, hi, hzz⟩ := Option.map_eq_some_iff.1 info_bk
  simp only [Prod.mk.injEq] at hzz
  obtain ⟨g2, cap2, w2, h1, h2, h5, h4⟩ := hG.push 52 i (.agg #[.int .i64 0, .int .i64 0, .int .u8 0]) 24 Tryz.underlying52 hi hzz.1 hzz.2.1 hzz.2.2 rfl (by decide) ⟨b, 0, none⟩ c2 [.int .i64 p, .int .i64 k, .int .u8 m] rfl (World.news_of_block (cs := #[.int .i64 p, .int .i64 k, .int .u8 m]) hb) (by simp [Value.oneCell']) (by simp only [maxLen]; omega) (by omega)
  exact Lib.wp_append_run w s x _ _ hop _ _ hs hx _ _ (h1 _) (h g2 cap2 w2 h2 h5)
end Go.Proofs.YthglogiglimebaaGreat
/- For do's shrinking: a box of a block is written. -/
namespace Go.Proofs.YthglogiglimebaaGreat
open Go.RowKit
set_option linter.unusedVariables false

theorem bx33 {W : World} {b : Nat} {p k m : Int} (h : W.heap[b]? = some (.cells #[.int .i64 p, .int .i64 k, .int .u8 m] 62)) : W.cell? ⟨b, 0, none⟩ = some (.int .i64 p) ∧ W.cell? ⟨b, 1, none⟩ = some (.int .i64 k) ∧ W.cell? ⟨b, 2, none⟩ = some (.int .u8 m) ∧ ∀ j, W.frozen? ⟨b, j, none⟩ = false := by
  refine ⟨?_, ?_, ?_, fun j => ?_⟩ <;> simp [World.cell?, World.frozen?, h]
theorem LW.lts {w W lw x t dP fv lv} (h : LW w W lw x t dP fv lv) : ∀ y, bown x y ∨ y = x.b ∨ y = x.l ∨ y = lw → y < W.heap.size := by
  rintro y (hx | rfl | rfl | rfl)
  · exact h.lt y (.inl hx)
  · exact heap_lt h.bd.bs
  · obtain ⟨cs, hl, _⟩ := h.bd.lr
    exact heap_lt hl
  · exact heap_lt h.box
theorem Wb.other {E w W W' lw c x t fa fl fc ra nv rc L} {S : Nat → Prop} (h : Wb E w W lw c x t fa fl fc ra nv rc L) (k : Kept S W W') (hS : ∀ y, bown x y ∨ y = x.b ∨ y = x.l ∨ y = lw → ¬ S y) (hR : ∀ y, (Value.slice ra nv rc).ownBlock = some y → ¬ S y) (h0 : ∀ y, S y → w.heap.size ≤ y) (hE : ∀ y v, E.e y v → ¬ S y) : Wb E w W' lw c x t fa fl fc ra nv rc L :=
  ⟨h.lw.other k hS h0, h.rl.kept k hR, h.sn, h.st, h.nc, h.bm, h.gb, fun y v e => (k.block _ (heap_lt (h.ex y v e)) (hE y v e)).trans (h.ex y v e)⟩
end Go.Proofs.YthglogiglimebaaGreat
