/- Pages are made and copied. -/
import Derived.Test.YthglogiglimebaaPgH
namespace Go.Proofs.Ythglogiglimebaa
open Go.RowKit
set_option linter.unusedVariables false

theorem info_page : (Try.prog.info? 131).map (fun i => (i.zero, i.size, i.bytes)) = some (some (pval zeroP), 11, 88) := by kernel_rfl
theorem info_page_parts : ∃ i, Try.prog.info? 131 = some i ∧ i.zero = some (pval zeroP) ∧ i.size = 11 ∧ i.bytes = 88 := by
  obtain ⟨i, hi, hzz⟩ := Option.map_eq_some_iff.1 info_page
  simp only [Prod.mk.injEq] at hzz
  exact ⟨i, hi, hzz.1, hzz.2.1, hzz.2.2⟩
theorem fld_one (p : Pg) (j : Nat) : (p.fld j).oneCell' = true := by unfold Pg.fld; split <;> rfl
theorem make_pages (c : Nat) (hc : c ≤ 1024) (w : World) :
    ∃ w1, (Instr.makeSlice 99 (.int .i64 (c : Int)) (.int .i64 (c : Int))).run Try.prog w = .ok (.slice (some ⟨w.heap.size, 0, none⟩) c c) w1 ∧ Row w1 w.heap.size c (fun _ => zeroP) ∧ Kept none' w w1 ∧ w1.heap.size = w.heap.size + 1 := by
  obtain ⟨i, hi, hz, hs, hb⟩ := info_page_parts
  have hr := run_make (P := Try.prog) w 99 131 i (pval zeroP) Try.underlying99 hi hz .i64 .i64 (c : Int) (c : Int) (by omega) (Int.le_refl _) (by rw [hb]; omega) (by omega)
  simp only [Int.toNat_natCast] at hr
  refine ⟨_, hr, ⟨_, heap_new w _, by rw [size_madeCells, hs], fun a ha b hb => ?_⟩, (Kept.refl none' w).alloc _, by simp⟩
  rw [hs]
  have hlt : a * 11 + b < c * 11 := by omega
  have hsz : (Value.cells (pval zeroP)).size = 11 := rfl
  simp only [madeCells]
  rw [Array.getElem?_map, Array.getElem?_range, if_pos hlt, Option.map_some, hsz, show (a * 11 + b) % 11 = b by omega]
  exact lt11 (P := fun b => some ((Value.cells (pval zeroP))[b]!) = some (zeroP.fld b)) rfl rfl rfl rfl rfl rfl rfl rfl rfl rfl rfl b hb
theorem run_copy_pages (w : World) (ty : TypeId) (g dLen dCap : Nat) (a : Addr) (sLen sCap : Nat) (cur : Array Value) (cs : List Value)
    (hg : w.heap[g]? = some (.cells cur 131 (0, 0))) (hn : cs.length = Nat.min sLen dLen * 11)
    (hsrc : ∀ j v, cs[j]? = some v → w.cell? (a.add j) = some v) (hfit : cs.length ≤ cur.size) (h1 : ∀ v ∈ cs, v.oneCell' = true) :
    (Builtin.copy_ #[99, 99] ty #[.slice (some ⟨g, 0, none⟩) dLen dCap, .slice (some a) sLen sCap]).run Try.prog w =
      .ok (goInt (Nat.min sLen dLen : Nat)) (w.setRow g (cur.toList.take 0 ++ cs ++ cur.toList.drop (0 + cs.length)).toArray) := by
  have hl := run_loadCells_list (P := Try.prog) w a cs hsrc
  have hst := run_storeCells_at Try.prog g 0 131 cs 0 cur w hg (by simpa using hfit) h1
  obtain ⟨i, hi, hz, hs, hb⟩ := info_page_parts
  rw [hn] at hl
  simp [Builtin.copy_, run_underlying Try.underlying99, Builtin.lenOf, Builtin.firstCells, sizeOf, typeInfo, hi, hs, hl, hst]
theorem copy_pages (w : World) (g c : Nat) (gs : Option Nat) (n : Nat) (pd pg : Nat → Pg) (hg : Row w g c pd) (hs : Rows w gs n pg) :
    ∃ (k : Nat) (w2 : World), (∀ ty, (Builtin.copy_ #[99, 99] ty #[.slice (some ⟨g, 0, none⟩) c c, .slice (adr gs) n n]).run Try.prog w = .ok (goInt k) w2) ∧ Row w2 g c (fun i => if i < n then pg i else pd i) ∧ Kept (fun x => x = g) w w2 ∧ w2.heap.size = w.heap.size := by
  cases gs with
  | none =>
    have h0 : n = 0 := hs
    subst h0
    refine ⟨0, w, fun ty => ?_, ?_, Kept.refl _ _, rfl⟩
    · exact run_copy_nil (P := Try.prog) w 99 99 ty 131 _ c c Try.underlying99 (by obtain ⟨i, hi, _⟩ := info_page_parts; rw [hi]; rfl)
    · exact Row.congr hg (fun i hi => by simp)
  | some q =>
    obtain ⟨cur, hgb, hsz, hcc⟩ := hg
    obtain ⟨sr, hqb, hsz2, hsc⟩ := hs
    obtain ⟨cs, hcs⟩ : ∃ cs : List Value, cs = sr.toList.take (Nat.min n c * 11) := ⟨_, rfl⟩
    have hmn : Nat.min n c ≤ n ∧ Nat.min n c ≤ c := ⟨Nat.min_le_left _ _, Nat.min_le_right _ _⟩
    have hmm : (n ≤ c ∧ Nat.min n c = n) ∨ (c ≤ n ∧ Nat.min n c = c) := (Nat.le_total n c).imp (fun h => ⟨h, Nat.min_eq_left h⟩) (fun h => ⟨h, Nat.min_eq_right h⟩)
    have hlen : cs.length = Nat.min n c * 11 := by rw [hcs, List.length_take, Array.length_toList, hsz2]; omega
    refine ⟨Nat.min n c, w.setRow g (cur.toList.take 0 ++ cs ++ cur.toList.drop (0 + cs.length)).toArray, fun ty => ?_, ?_, ⟨rfl, rfl, rfl, by simp [World.setRow], fun k hk hn => setRow_other w g k _ hn⟩, by simp [World.setRow]⟩
    · refine run_copy_pages w ty g c c ⟨q, 0, none⟩ n n cur cs hgb hlen (fun j v hj => ?_) (by omega) (fun v hv => ?_)
      · rw [Addr.add_lit, Nat.zero_add]
        rw [hcs, List.getElem?_take] at hj
        split at hj
        · simpa [World.cell?, hqb] using hj
        · cases hj
      · rw [hcs] at hv
        have hv2 := List.mem_of_mem_take hv
        obtain ⟨j, hj, rfl⟩ := List.mem_iff_getElem.1 hv2
        have hj2 : j < n * 11 := by simpa [hsz2] using hj
        have := hsc (j / 11) (by omega) (j % 11) (by omega)
        rw [show j / 11 * 11 + j % 11 = j by omega] at this
        have e : sr.toList[j] = ((pg (j / 11)).fld (j % 11)) := by
          have h2 : sr[j]? = some sr.toList[j] := by simp
          rw [h2] at this
          exact Option.some.inj this
        rw [e]
        exact fld_one _ _
    · refine ⟨_, setRow_heap w g cur _ 131 (0, 0) hgb, ?_, fun a ha b hb => ?_⟩
      · simp [hlen, hsz]; omega
      · simp only [List.take_zero, List.nil_append, Nat.zero_add, List.getElem?_toArray]
        by_cases hl : a * 11 + b < cs.length
        · rw [List.getElem?_append_left hl, if_pos (by omega), hcs, List.getElem?_take, if_pos (by omega)]
          simpa using hsc a (by omega) b hb
        · rw [List.getElem?_append_right (by omega), List.getElem?_drop, if_neg (by omega)]
          rw [show cs.length + (a * 11 + b - cs.length) = a * 11 + b by omega]
          simpa using hcc a ha b hb
end Go.Proofs.Ythglogiglimebaa
