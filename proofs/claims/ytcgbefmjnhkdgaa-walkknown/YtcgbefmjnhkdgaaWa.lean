import Derived.Test.YtcgbefmjnhkdgaaXc
set_option maxRecDepth 1000000
set_option maxHeartbeats 80000000
/- Pages are made and copied. -/
namespace Go.Proofs.Ytcgbefmjnhkdgaa.H
open Go.RowKit
set_option linter.unusedVariables false

theorem info_page : (Try.prog.info? 39).map (fun i => (i.zero, i.size, i.bytes)) = some (some (pval zeroP), 11, 88) := by kernel_rfl
theorem info_page_parts : ∃ i, Try.prog.info? 39 = some i ∧ i.zero = some (pval zeroP) ∧ i.size = 11 ∧ i.bytes = 88 := by
  obtain ⟨i, hi, hzz⟩ := Option.map_eq_some_iff.1 info_page
  simp only [Prod.mk.injEq] at hzz
  exact ⟨i, hi, hzz.1, hzz.2.1, hzz.2.2⟩
theorem fld_one (p : Pg) (j : Nat) : (p.fld j).oneCell' = true := by unfold Pg.fld; split <;> rfl
theorem make_pages (c : Nat) (hc : c ≤ 1024) (w : World) :
    ∃ w1, (Instr.makeSlice 26 (.int .i64 (c : Int)) (.int .i64 (c : Int))).run Try.prog w = .ok (.slice (some ⟨w.heap.size, 0, none⟩) c c) w1 ∧ Row w1 w.heap.size c (fun _ => zeroP) ∧ Kept none' w w1 ∧ w1.heap.size = w.heap.size + 1 := by
  obtain ⟨i, hi, hz, hs, hb⟩ := info_page_parts
  have hr := run_make (P := Try.prog) w 26 39 i (pval zeroP) Try.underlying26 hi hz .i64 .i64 (c : Int) (c : Int) (by omega) (Int.le_refl _) (by rw [hb]; omega) (by omega)
  simp only [Int.toNat_natCast] at hr
  refine ⟨_, hr, ⟨_, heap_new w _, by rw [size_madeCells, hs], fun a ha b hb => ?_⟩, (Kept.refl none' w).alloc _, by simp⟩
  rw [hs]
  have hlt : a * 11 + b < c * 11 := by omega
  have hsz : (Value.cells (pval zeroP)).size = 11 := rfl
  simp only [madeCells]
  rw [Array.getElem?_map, Array.getElem?_range, if_pos hlt, Option.map_some, hsz, show (a * 11 + b) % 11 = b by omega]
  exact lt11 (P := fun b => some ((Value.cells (pval zeroP))[b]!) = some (zeroP.fld b)) rfl rfl rfl rfl rfl rfl rfl rfl rfl rfl rfl b hb
theorem run_copy_pages (w : World) (ty : TypeId) (g dLen dCap : Nat) (a : Addr) (sLen sCap : Nat) (cur : Array Value) (cs : List Value)
    (hg : w.heap[g]? = some (.cells cur 39 (0, 0))) (hn : cs.length = Nat.min sLen dLen * 11)
    (hsrc : ∀ j v, cs[j]? = some v → w.cell? (a.add j) = some v) (hfit : cs.length ≤ cur.size) (h1 : ∀ v ∈ cs, v.oneCell' = true) :
    (Builtin.copy_ #[26, 26] ty #[.slice (some ⟨g, 0, none⟩) dLen dCap, .slice (some a) sLen sCap]).run Try.prog w =
      .ok (goInt (Nat.min sLen dLen : Nat)) (w.setRow g (cur.toList.take 0 ++ cs ++ cur.toList.drop (0 + cs.length)).toArray) := by
  have hl := run_loadCells_list (P := Try.prog) w a cs hsrc
  have hst := run_storeCells_at Try.prog g 0 39 cs 0 cur w hg (by simpa using hfit) h1
  obtain ⟨i, hi, hz, hs, hb⟩ := info_page_parts
  rw [hn] at hl
  simp [Builtin.copy_, run_underlying Try.underlying26, Builtin.lenOf, Builtin.firstCells, sizeOf, typeInfo, hi, hs, hl, hst]
theorem copy_pages (w : World) (g c : Nat) (gs : Option Nat) (n : Nat) (pd pg : Nat → Pg) (hg : Row w g c pd) (hs : Rows w gs n pg) :
    ∃ (k : Nat) (w2 : World), (∀ ty, (Builtin.copy_ #[26, 26] ty #[.slice (some ⟨g, 0, none⟩) c c, .slice (adr gs) n n]).run Try.prog w = .ok (goInt k) w2) ∧ Row w2 g c (fun i => if i < n then pg i else pd i) ∧ Kept (fun x => x = g) w w2 ∧ w2.heap.size = w.heap.size := by
  cases gs with
  | none =>
    have h0 : n = 0 := hs
    subst h0
    refine ⟨0, w, fun ty => ?_, ?_, Kept.refl _ _, rfl⟩
    · exact run_copy_nil (P := Try.prog) w 26 26 ty 39 _ c c Try.underlying26 (by obtain ⟨i, hi, _⟩ := info_page_parts; rw [hi]; rfl)
    · exact Row.congr hg (fun i hi => by simp)
  | some q =>
    obtain ⟨cur, hgb, hsz, hcc⟩ := hg
    obtain ⟨sr, hqb, hsz2, hsc⟩ := hs
    obtain ⟨cs, hcs⟩ : ∃ cs : List Value, cs = sr.toList.take (Nat.min n c * 11) := ⟨_, rfl⟩
    have hmn : Nat.min n c ≤ n ∧ Nat.min n c ≤ c := ⟨Nat.min_le_left _ _, Nat.min_le_right _ _⟩
    have hmm : (n ≤ c ∧ Nat.min n c = n) ∨ (c ≤ n ∧ Nat.min n c = c) := (Nat.le_total n c).imp (fun h => ⟨h, Nat.min_eq_left h⟩) (fun h => ⟨h, Nat.min_eq_right h⟩)
    have hlen : cs.length = Nat.min n c * 11 := by rw [hcs, List.length_take, Array.length_toList, hsz2]; omega
    refine ⟨Nat.min n c, w.setRow g (cur.toList.take 0 ++ cs ++ cur.toList.drop (0 + cs.length)).toArray, fun ty => ?_, ?_, ⟨rfl, rfl, rfl, by simp [World.setRow], fun k hk hn => setRow_other w g k _ hn⟩, by simp [World.setRow]⟩
    · refine run_copy_pages w ty g c c ⟨q, 0, none⟩ n n cur cs hgb hlen (fun j v hj => ?_) (by omega) (fun v hv => ?_)
      · rw [Addr.add_lit, Nat.zero_add]
        rw [hcs, List.getElem?_take] at hj
        split at hj
        · simpa [World.cell?, hqb] using hj
        · cases hj
      · rw [hcs] at hv
        have hv2 := List.mem_of_mem_take hv
        obtain ⟨j, hj, rfl⟩ := List.mem_iff_getElem.1 hv2
        have hj2 : j < n * 11 := by simpa [hsz2] using hj
        have := hsc (j / 11) (by omega) (j % 11) (by omega)
        rw [show j / 11 * 11 + j % 11 = j by omega] at this
        have e : sr.toList[j] = ((pg (j / 11)).fld (j % 11)) := by
          have h2 : sr[j]? = some sr.toList[j] := by simp
          rw [h2] at this
          exact Option.some.inj this
        rw [e]
        exact fld_one _ _
    · refine ⟨_, setRow_heap w g cur _ 39 (0, 0) hgb, ?_, fun a ha b hb => ?_⟩
      · simp [hlen, hsz]; omega
      · simp only [List.take_zero, List.nil_append, Nat.zero_add, List.getElem?_toArray]
        by_cases hl : a * 11 + b < cs.length
        · rw [List.getElem?_append_left hl, if_pos (by omega), hcs, List.getElem?_take, if_pos (by omega)]
          simpa using hsc a (by omega) b hb
        · rw [List.getElem?_append_right (by omega), List.getElem?_drop, if_neg (by omega)]
          rw [show cs.length + (a * 11 + b - cs.length) = a * 11 + b by omega]
          simpa using hcc a ha b hb
end Go.Proofs.Ytcgbefmjnhkdgaa.H
/- pagemap: Flip. -/
namespace Go.Proofs.Ytcgbefmjnhkdgaa.H
open Go.RowKit
set_option linter.unusedVariables false

def upw (wd : Nat → List Nat) (k : Nat) (ws : List Nat) : Nat → List Nat := fun j => if j = k then ws else wd j
theorem _root_.Go.Proofs.Ytcgbefmjnhkdgaa.MapAt.words {w w' b B m} {ws : List Nat} (h : MapAt w b B m) (k : Nat) (hk : k < m.o) (kp : Kept (fun x => x = B.C k) w w') (hS : SetAt w' (B.S k) (B.C k) (m.n / 2 ^ (k + 1)) ws) : MapAt w' b B { m with wd := upw m.wd k ws } := by
  obtain ⟨cq, hb, hp⟩ := h.hb
  have s0 := h.set k hk
  refine ⟨h.o8, h.n1, h.dv, ⟨cq, (kp.block b (heap_lt hb) (ty_ne hb s0.hc (by decide))).trans hb, hp.kept kp (fun x e => ?_)⟩, Rows.kept h.row kp (fun x e => ?_), fun j hj => ?_, h.injS, h.injC, h.ok⟩
  · rw [e] at hp
    obtain ⟨ds, hq, _⟩ := hp
    exact ty_ne hq s0.hc (by decide)
  · have hr := h.row
    rw [e] at hr
    obtain ⟨cs, hgb, _⟩ := hr
    exact ty_ne hgb s0.hc (by decide)
  · show SetAt w' (B.S j) (B.C j) (m.n / 2 ^ (j + 1)) (upw m.wd k ws j)
    unfold upw
    by_cases e : j = k
    · rw [if_pos e, e]
      exact hS
    · rw [if_neg e]
      have s := h.set j hj
      exact s.kept kp (ty_ne s.hb s0.hc (by decide)) (fun e2 => e (h.injC j k hj hk e2))
theorem shr_run (i k : Nat) (hk : k < 8) (W : World) : Sem.run Try.prog (Op.shift BinOp.shr IntKind.i64 (i : Int) IntKind.i64 (IntKind.i64.wrap ((k : Int) + 1))) W = Result.ok (.int .i64 ((i / 2 ^ (k + 1) : Nat) : Int)) W := by
  have hw : IntKind.i64.wrap ((k : Int) + 1) = ((k + 1 : Nat) : Int) := by rw [IntKind.wrap_i64]; omega
  rw [hw]
  unfold Op.shift
  simp [go_sem]
  rw [if_neg (by omega), Nat.min_eq_left (by omega), Int.fdiv_eq_ediv_of_nonneg _ (Int.le_of_lt (Int.pow_pos (by decide)))]
theorem flipI_in {n k : Nat} (ws : List Nat) (h : k < n) : flipI n ws (k : Int) = flipW ws k := by
  unfold flipI
  rw [if_pos (inR_yes h)]
  simp
end Go.Proofs.Ytcgbefmjnhkdgaa.H
/- A set of a map is put anew. -/
namespace Go.Proofs.Ytcgbefmjnhkdgaa.H
open Go.RowKit
set_option linter.unusedVariables false

def upn (f : Nat → Nat) (k x : Nat) : Nat → Nat := fun j => if j = k then x else f j
theorem _root_.Go.Proofs.Ytcgbefmjnhkdgaa.MapAt.newset {w w' b B m q k} {ws : List Nat} (h : MapAt w b B m) (hk : k < m.o) (hq : B.P = some q) (kp : Kept none' w w') (hS : SetAt w' (w.heap.size + 1) w.heap.size (m.n / 2 ^ (k + 1)) ws) :
    MapAt (w'.setCell ⟨q, k, none⟩ (.pointer (some ⟨w.heap.size + 1, 0, none⟩))) b ⟨B.g, B.P, upn B.S k (w.heap.size + 1), upn B.C k w.heap.size⟩ { m with wd := upw m.wd k ws } := by
  have h2 := h.keep kp
  obtain ⟨cq, hb, hp⟩ := h2.hb
  rw [hq] at hp
  obtain ⟨cs, hqb, hs, ho, hc⟩ := hp
  have ks : Kept (fun x => x = q) w' (w'.setCell ⟨q, k, none⟩ (.pointer (some ⟨w.heap.size + 1, 0, none⟩))) := (Kept.refl (fun x => x = q) w').setCell (p := ⟨q, k, none⟩) rfl _
  have ltS : ∀ j, j < m.o → B.S j < w.heap.size := fun j hj => heap_lt (h.set j hj).hb
  have ltC : ∀ j, j < m.o → B.C j < w.heap.size := fun j hj => heap_lt (h.set j hj).hc
  have hP : Prs (w'.setCell ⟨q, k, none⟩ (.pointer (some ⟨w.heap.size + 1, 0, none⟩))) B.P m.o cq (upn B.S k (w.heap.size + 1)) := by
    rw [hq]
    refine ⟨_, heap_set hqb k _, by simpa using hs, ho, fun j hj => ?_⟩
    rw [Array.getElem?_setIfInBounds]
    unfold upn
    by_cases e : j = k
    · subst e
      rw [if_pos rfl, if_pos (by omega), if_pos rfl]
    · rw [if_neg (by omega), if_neg e]
      exact hc j hj
  refine ⟨h.o8, h.n1, h.dv, ⟨cq, (ks.block b (heap_lt hb) (ty_ne hb hqb (by decide))).trans hb, hP⟩, Rows.kept h2.row ks (fun x e => ?_), fun j hj => ?_, fun i j hi hj e => ?_, fun i j hi hj e => ?_, h.ok⟩
  · have hr := h2.row
    rw [e] at hr
    obtain ⟨rs, hrb, _⟩ := hr
    exact ty_ne hrb hqb (by decide)
  · show SetAt _ (upn B.S k (w.heap.size + 1) j) (upn B.C k w.heap.size j) (m.n / 2 ^ (j + 1)) (upw m.wd k ws j)
    unfold upn upw
    by_cases e : j = k
    · subst e
      rw [if_pos rfl, if_pos rfl, if_pos rfl]
      exact hS.kept ks (ty_ne hS.hb hqb (by decide)) (ty_ne hS.hc hqb (by decide))
    · rw [if_neg e, if_neg e, if_neg e]
      have s := h2.set j hj
      exact s.kept ks (ty_ne s.hb hqb (by decide)) (ty_ne s.hc hqb (by decide))
  · have hi' : i < m.o := hi
    have hj' : j < m.o := hj
    have e : upn B.S k (w.heap.size + 1) i = upn B.S k (w.heap.size + 1) j := e
    unfold upn at e
    by_cases e1 : i = k <;> by_cases e2 : j = k <;> simp only [e1, e2, if_true, if_false] at e
    · omega
    · have := ltS j hj'; omega
    · have := ltS i hi'; omega
    · exact h.injS i j hi' hj' e
  · have hi' : i < m.o := hi
    have hj' : j < m.o := hj
    have e : upn B.C k w.heap.size i = upn B.C k w.heap.size j := e
    unfold upn at e
    by_cases e1 : i = k <;> by_cases e2 : j = k <;> simp only [e1, e2, if_true, if_false] at e
    · omega
    · have := ltC j hj'; omega
    · have := ltC i hi'; omega
    · exact h.injC i j hi' hj' e
end Go.Proofs.Ytcgbefmjnhkdgaa.H
