/- PageBack: a map opened of what one tells is the same map. -/
import Derived.Test.YtbhheimedbfmeabPgQ
import Derived.Test.YtbhheimedbfmeabInv
namespace Go.Proofs.Ytbhheimedbfmeab
open Go.RowKit
set_option linter.unusedVariables false

theorem SetAt.lt64a {w b c n ws} (h : SetAt w b c n ws) (i : Nat) : ws.getD i 0 < 2 ^ 64 := by
  rcases Nat.lt_or_ge i ws.length with hi | hi
  · exact Nat.lt_of_lt_of_le (h.ok i hi) (Nat.pow_le_pow_right (by decide) (Nat.min_le_left _ _))
  · rw [List.getD_eq_getElem?_getD, List.getElem?_eq_none hi]
    exact Nat.pow_pos (by decide)
/-- Words that are a set's already. -/
theorem SetAt.ofW_same {w b c n ws} (h : SetAt w b c n ws) : ofW ws n = ws := by
  apply List.ext_getElem
  · rw [ofW_len, h.len]
  · intro i h1 h2
    have e := ofW_get ws n i h.lt64a (by rw [← h.len]; exact h2)
    rw [Nat.mod_eq_of_lt (h.ok i h2)] at e
    rw [List.getD_eq_getElem?_getD, List.getD_eq_getElem?_getD, List.getElem?_eq_getElem h1, List.getElem?_eq_getElem h2] at e
    exact e
theorem MapAt.congrW {w b B m} {wd' : Nat → List Nat} (h : MapAt w b B m) (he : ∀ k, k < m.o → m.wd k = wd' k) : MapAt w b B { m with wd := wd' } :=
  ⟨h.o8, h.n1, h.dv, h.hb, h.row, fun k hk => (by show SetAt w _ _ _ (wd' k); rw [← he k hk]; exact h.set k hk), h.injS, h.injC, h.ok⟩
theorem back_open (b : Nat) (B : Bs) (m : Mp) (gp gq : Nat) (D : Nat → Nat) (W0 w0 w : World) (hM : MapAt w0 b B m) (hI : Inv m) (hg : ∀ i, i < m.n → (m.pg i).nx < m.n ∧ (m.pg i).pv < m.n) (hT : Told W0 w gp gq m m.o D) :
    Calls Try.prog 9 #[.int .i64 (m.o : Int), .slice (some ⟨gp, 0, none⟩) m.n m.n, .slice (some ⟨gq, 0, none⟩) m.o m.o] w fun e w' => ∃ b', e = .returned (.tuple #[.pointer (some ⟨b', 0, none⟩), .int .i64 0]) ∧ Hid (∃ B', MapAt w' b' B' m ∧ (∀ x, mown b' B' m.o x → w.heap.size ≤ x) ∧ Kept none' w w') := by
  refine (open_told gp gq m D hM.o8 hM.n1 hM.dv W0 w hT (fun i hi => ⟨clamp_same (hI i hi) (hg i hi).1 (hg i hi).2, hM.ok i hi⟩) (fun k hk => ⟨(hM.set k hk).len, (hM.set k hk).lt64a⟩)).mono ?_
  rintro e w' ⟨b', he, hH⟩
  obtain ⟨B', h1, h2, h3⟩ := hH.out
  refine ⟨b', he, hid ⟨B', ?_, h2, h3⟩⟩
  have := h1.congrW (wd' := m.wd) (fun k hk => by
    have hk : k < m.o := hk
    show (if k < m.o then ofW (m.wd k) (m.n / 2 ^ (k + 1)) else _) = m.wd k
    rw [if_pos hk]
    exact (hM.set k hk).ofW_same)
  exact this
end Go.Proofs.Ytbhheimedbfmeab
