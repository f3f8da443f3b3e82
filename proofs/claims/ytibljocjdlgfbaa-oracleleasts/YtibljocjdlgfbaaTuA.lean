/- The order of a list changes nothing. -/
import Derived.Test.YtibljocjdlgfbaaRfN
import Derived.Test.YtibljocjdlgfbaaOrP
namespace Go.Proofs.Ytibljocjdlgfbaa
set_option linter.unusedVariables false

theorem Clash.symm {o s o' s' : Nat} (h : Clash o s o' s') : Clash o' s' o s := by
  obtain ⟨i, i', hi, hi', e, c⟩ := h
  exact ⟨i', i, hi', hi, e.symm, c.elim (fun h => .inl (Ne.symm h)) (fun h => .inr h.symm)⟩
theorem sndI_iff {base k n : Nat} {l : Bls} : sndI base k n l = -1 ↔ ∀ a, a < l.length → goodB base k n l a = true := by
  constructor
  · intro h a ha
    cases hg : goodB base k n l a with
    | true => rfl
    | false =>
      exfalso
      unfold sndI at h
      cases hf : (List.range l.length).find? (fun i => !goodB base k n l i) with
      | none =>
        have := List.find?_eq_none.1 hf a (List.mem_range.2 ha)
        simp [hg] at this
      | some i =>
        rw [hf] at h
        simp at h
  · exact sndI_ok
theorem good_all {base k n : Nat} {l : Bls} : (∀ a, a < l.length → goodB base k n l a = true) ↔ (∀ b ∈ l, okB base k n b.1 b.2 = true) ∧ l.Pairwise fun a b => ¬ Clash (a.1 - base) a.2 (b.1 - base) b.2 := by
  have E : ∀ a (ha : a < l.length), goodB base k n l a = true ↔ okB base k n l[a].1 l[a].2 = true ∧ ∀ b ∈ l.take a, ¬ Clash (l[a].1 - base) l[a].2 (b.1 - base) b.2 := fun a ha => by
    unfold goodB
    rw [List.getElem?_eq_getElem ha]
    simp only [Bool.and_eq_true]
    rw [layOk_clash]
  constructor
  · intro h
    refine ⟨fun b hb => ?_, List.pairwise_iff_getElem.2 fun i j hi hj hij hc => ?_⟩
    · obtain ⟨i, hi, rfl⟩ := List.mem_iff_getElem.1 hb
      exact ((E i hi).1 (h i hi)).1
    · refine ((E j hj).1 (h j hj)).2 l[i] ?_ hc.symm
      exact List.mem_iff_getElem?.2 ⟨i, by rw [List.getElem?_take, if_pos hij, List.getElem?_eq_getElem hi]⟩
  · rintro ⟨h1, h2⟩ a ha
    refine (E a ha).2 ⟨h1 _ (List.getElem_mem ha), fun b hb hc => ?_⟩
    obtain ⟨i, hi⟩ := List.mem_iff_getElem?.1 hb
    rw [List.getElem?_take] at hi
    split at hi
    · rename_i hia
      obtain ⟨hil, e⟩ := List.getElem?_eq_some_iff.1 hi
      subst e
      exact List.pairwise_iff_getElem.1 h2 i a hil ha hia hc.symm
    · cases hi
theorem snd_perm {base k n : Nat} {l l' : Bls} (h : l.Perm l') : (sndI base k n l == -1) = (sndI base k n l' == -1) := by
  have : sndI base k n l = -1 ↔ sndI base k n l' = -1 := by
    rw [sndI_iff, sndI_iff, good_all, good_all]
    refine and_congr ⟨fun g b hb => g b (h.mem_iff.2 hb), fun g b hb => g b (h.mem_iff.1 hb)⟩ (h.pairwise_iff fun {x y} g c => g c.symm)
  rw [Bool.eq_iff_iff, beq_iff_eq, beq_iff_eq]
  exact this
theorem allU_perm (base : Nat) {l l' : Bls} (h : l.Perm l') : (allU base l).Perm (allU base l') := h.flatMap_right _
theorem stN_perm {U U' : List Un} (h : U.Perm U') (g : Nat) : stN U g = stN U' g :=
  (perm_of (nodup_ded _) (nodup_ded _) fun x => by rw [mem_ded, mem_ded]; exact (h.map _).mem_iff).length_eq
theorem rmN_perm {U U' : List Un} (h : U.Perm U') (s : Nat) : rmN U s = rmN U' s := by
  unfold rmN
  rw [show (fun n => celN s - (U.filter fun u => u.1 == n).length) = (fun n => celN s - (U'.filter fun u => u.1 == n).length) from funext fun n => by rw [(h.filter _).length_eq]]
  exact ((perm_of (nodup_ded _) (nodup_ded _) fun x => by rw [mem_ded, mem_ded]; exact ((h.filter _).map _).mem_iff).map _).sum_nat
theorem rgN_perm {U U' : List Un} (h : U.Perm U') (k : Nat) : rgN U k = rgN U' k := mxL_eq fun x => (h.map _).mem_iff
theorem ndV_perm {U U' : List Un} (h : U.Perm U') {l l' : List Nat} (hl : l.Perm l') : ndV U l = ndV U' l' := funext fun i => by
  unfold ndV
  rw [ndD_perm U l (perm_of (nodup_ded l) (nodup_ded l') fun x => by rw [mem_ded, mem_ded]; exact hl.mem_iff) i]
  unfold ndD pN
  simp only [rmN_perm h, hl.count_eq]
theorem rfN_perm {U U' : List Un} (h : U.Perm U') (f : Nat → Nat) (k : Nat) : rfN U f k = rfN U' f k := by
  have : ∀ j, cntR U f k j = cntR U' f k j := fun j => by
    induction j with
    | zero => rfl
    | succ j ih => simp only [cntR, ih, stN_perm h]
  exact this _
theorem leaN_perm {U U' : List Un} (h : U.Perm U') {l l' : List Nat} (hl : l.Perm l') (k : Nat) : leaN U l k = leaN U' l' k := by
  unfold leaN
  rw [rgN_perm h, ndV_perm h hl, rfN_perm h]
theorem nofV_perm (base : Nat) (lim ord n : Int) {l l' : Bls} (h : l.Perm l') (r : Nat) : nofV base lim ord n l' r = nofV base lim ord n l r := by
  unfold nofV fitU
  rw [snd_perm h, stN_perm (allU_perm base h), rmN_perm (allU_perm base h)]
theorem leaO_perm (base : Nat) (lim ord : Int) {l l' : Bls} (h : l.Perm l') {s s' : List Nat} (hs : s.Perm s') : leaO base lim ord l' s' = leaO base lim ord l s := by
  have e : s'.all (szB ord.toNat) = s.all (szB ord.toNat) := by
    rw [Bool.eq_iff_iff, List.all_eq_true, List.all_eq_true]
    exact ⟨fun g b hb => g b (hs.mem_iff.1 hb), fun g b hb => g b (hs.mem_iff.2 hb)⟩
  unfold leaO
  rw [snd_perm h, leaN_perm (allU_perm base h) hs, e]
theorem leaV_perm (base : Nat) (lim ord : Int) {l l' : Bls} (h : l.Perm l') {s s' : List Nat} (hs : s.Perm s') : leaV base lim ord l' s' = leaV base lim ord l s := by
  unfold leaV
  rw [leaO_perm base lim ord h hs, leaN_perm (allU_perm base h) hs]
theorem sndV_perm (base : Nat) (lim ord n : Int) {l l' : Bls} (h : l.Perm l') : (sndV base lim ord n l' == -1) = (sndV base lim ord n l == -1) := by
  unfold sndV
  split
  · exact (snd_perm h).symm
  · rfl
end Go.Proofs.Ytibljocjdlgfbaa
