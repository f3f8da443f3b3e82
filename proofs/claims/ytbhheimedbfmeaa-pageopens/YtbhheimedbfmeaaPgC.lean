/- pagemap: Slab, Head. -/
import Derived.Test.YtbhheimedbfmeaaPgB
namespace Go.Proofs.Ytbhheimedbfmeaa
open Go.RowKit
set_option linter.unusedVariables false

def slabP (c : Int) : Pg := { blankP 4 0 with cl := c }
theorem PgOk.slab (c : Nat) (h : c < 8) : PgOk (slabP c) := ⟨by show (0 : Int) ≤ 0; decide, by show (0 : Int) ≤ 8; decide, by show (0 : Int) ≤ c; omega, by show (c : Int) ≤ 7; omega, by show 0 < _; decide, by show 0 < _; decide, by show 0 < _; decide, by show 0 < _; decide⟩
def slabM (m : Mp) (i c : Int) : Mp := if inR m.n i = true ∧ 0 ≤ c ∧ c ≤ 7 then { m with pg := upp m.pg i.toNat (slabP c) } else m
def slabE (m : Mp) (i c : Int) : Int := if inR m.n i = true ∧ 0 ≤ c ∧ c ≤ 7 then 0 else 1
theorem slabM_n (m : Mp) (i c : Int) : (slabM m i c).n = m.n := by unfold slabM; split <;> rfl
set_option maxRecDepth 4000 in
theorem Slab_in (b : Nat) (B : Bs) (m : Mp) (k c : Nat) (w : World) (h : MapAt w b B m) (hk : k < m.n) (hc : c < 8) :
    Calls Try.prog 15 #[.pointer (some ⟨b, 0, none⟩), .int .i64 (k : Int), .int .i64 (c : Int)] w fun e w' => e = .returned (.int .i64 0) ∧ MapAt w' b B { m with pg := upp m.pg k (slabP c) } ∧ Kept (mown b B m.o) w w' := by
  have HM := hid h
  have HI := hid (inR_yes hk)
  have HK := hid hk
  have hc0 : ¬ (c : Int) < 0 := by omega
  have hc1 : ¬ 8 ≤ (c : Int) := by omega
  have hki : (k : Int) < (m.n : Int) := by omega
  obtain ⟨g, hg, hr⟩ := h.has_row (by omega)
  clear h hr hk
  go_enter Try.func15, Try.ntmps15
  go_wp2_with fail
  refine (has_any b B m k _ HM.out).mono ?_
  rintro e w1 ⟨rfl, rfl⟩
  rw [HI.out]
  go_wp2_with fail
  refine (blank_any 4 0 w1).mono ?_
  rintro e w2 ⟨rfl, hw2⟩
  have K2 := hid (show Kept none' w1 w2 by rw [hw2]; exact (Kept.refl none' w1).alloc _)
  have Z2 := hid (show w2.heap.size = w1.heap.size + 1 by rw [hw2]; simp)
  clear hw2
  go_wp2_with fail
  obtain ⟨W, hW⟩ : ∃ W, W = w2.alloc (.cells #[.int .i64 (blankP 4 0).kd, .int .i64 (blankP 4 0).od, .int .i64 (c : Int), .int .i64 (blankP 4 0).lv, .int .i64 (blankP 4 0).nx, .int .i64 (blankP 4 0).pv, .int .i64 (blankP 4 0).fs, .int .u64 ((blankP 4 0).b0 : Int), .int .u64 ((blankP 4 0).b1 : Int), .int .u64 ((blankP 4 0).b2 : Int), .int .u64 ((blankP 4 0).b3 : Int)] 30) := ⟨_, rfl⟩
  rw [← hW]
  have KW := hid (show Kept none' w1 W by rw [hW]; exact K2.out.alloc _)
  have XW := hid (show W.heap[w2.heap.size]? = some (pobj (slabP c)) by rw [hW]; exact heap_new _ _)
  have MW := hid (HM.out.keep KW.out)
  clear hW
  obtain ⟨x0, x1, x2, x3, x4, x5, x6, x7, x8, x9, x10⟩ := box11 XW.out
  have c1 := MW.out.c1 hg
  have hr := MW.out.row
  rw [hg] at hr
  have RW := hid (show Row W g m.n m.pg from hr)
  obtain ⟨d0, d1, d2, d3, d4, d5, d6, d7, d8, d9, d10⟩ := RW.out.cell k HK.out
  have z := RowC.froz RW.out
  have HG := hid hg
  clear hr hg
  go_region
  all_goals
    go_wp2_with fail
    go_ret
    have RP := (RW.out.put k HK.out (slabP c))
    have OKP : ∀ i, i < m.n → PgOk (upp m.pg k (slabP c) i) := fun i hi => by
      unfold upp
      split
      · exact PgOk.slab c (by omega)
      · exact MW.out.ok i hi
    have KP := setP_kept W g k (slabP c)
    exact ⟨rfl, (MW.out.pages HG.out KP RP OKP).keep (Kept.refl none' _).drew, (KW.out.trans KP (fun _ _ x => x.elim) (fun x _ e => .inr (.inl (e ▸ HG.out)))).drew⟩
end Go.Proofs.Ytbhheimedbfmeaa
