/- Maps keyed by uint64 as lists of their entries (MU), ranging over them in any order (RG), and the laws at the operations. -/
import Derived.Test.YtibljocjdlgfbaaSetB
import Derived.Maps.RangeWalk
namespace Go.Proofs.Ytibljocjdlgfbaa
open Go.RowKit Go.MapKept
open Go.ChangeMaps (setBlock heap_setBlock_same heap_setBlock_other)
open Go.Maps (Keyed)
set_option linter.unusedVariables false

def kv (p : Nat × Value) : Value × Value := (.int .u64 (p.1 : Int), p.2)
def ekv (e : MapEntry) : Value × Value := (e.key, e.val)

/-- Block b is a map whose entries are L, in the order in which they came. -/
structure MU (w : World) (b : Nat) (L : List (Nat × Value)) : Prop where
  ex : ∃ es clock, w.heap[b]? = some (.map es clock) ∧ Stamped es clock ∧ es.toList.map ekv = L.map kv
  lt : ∀ p ∈ L, p.1 < 2 ^ 64

theorem kv_inj1 {p q : Nat × Value} (h : (kv p).1 = (kv q).1) : p.1 = q.1 := by
  simp only [kv] at h
  injection h with _ h2
  omega
theorem kv_inj {p q : Nat × Value} (h : kv p = kv q) : p = q :=
  Prod.ext (kv_inj1 (congrArg Prod.fst h)) (show (kv p).2 = (kv q).2 from congrArg Prod.snd h)

theorem MU.nodup {w b L} (h : MU w b L) : (L.map (·.1)).Nodup := by
  obtain ⟨⟨es, clock, hb, hst, hL⟩, hlt⟩ := h
  have h3 := ((stamped_iff es clock).1 hst).2.2
  have h4 : (es.toList.map ekv).Pairwise (fun x y => x.1 ≠ y.1) := List.pairwise_map.2 h3
  rw [hL] at h4
  refine List.pairwise_map.2 ((List.pairwise_map.1 h4).imp fun {p q} hne e => hne ?_)
  show Value.int .u64 (p.1 : Int) = Value.int .u64 (q.1 : Int)
  rw [e]
theorem MU.ltsz {w b L} (h : MU w b L) : b < w.heap.size := by
  obtain ⟨⟨es, clock, hb, _⟩, _⟩ := h
  exact (Array.getElem?_eq_some_iff.1 hb).1
theorem MU.kept {w w' b L} {S : Nat → Prop} (h : MU w b L) (k : Kept S w w') (hb : ¬ S b) : MU w' b L := by
  have hl := h.ltsz
  obtain ⟨⟨es, clock, h1, h2⟩, h3⟩ := h
  exact ⟨⟨es, clock, (k.block b hl hb).trans h1, h2⟩, h3⟩
theorem MU.made (w : World) : MU (w.alloc (.map #[] 0)) w.heap.size [] :=
  ⟨⟨#[], 0, heap_new w _, stamped_empty 0, rfl⟩, fun p hp => by cases hp⟩

/-- What lies at a key. -/
def fnd (L : List (Nat × Value)) (k : Nat) : Option Value := (L.find? (fun p => p.1 == k)).map (·.2)
/-- The map with a value laid at a key. -/
def putL (L : List (Nat × Value)) (k : Nat) (v : Value) : List (Nat × Value) := if (fnd L k).isSome then L.map (fun p => if p.1 = k then (k, v) else p) else L ++ [(k, v)]

theorem wf_u64 (n : Nat) (hn : n < 2 ^ 64) : (Lit.int .u64 (n : Int)).wf = true := by
  simp [Lit.wf, IntKind.min, IntKind.max, IntKind.signed, IntKind.bits]
  omega

theorem fnd_none {L : List (Nat × Value)} {k : Nat} (h : ∀ p ∈ L, p.1 ≠ k) : fnd L k = none := by
  unfold fnd
  rw [List.find?_eq_none.2 (fun p hp => by simpa using h p hp)]
  rfl
theorem fnd_some {L : List (Nat × Value)} {k : Nat} {v : Value} (hn : (L.map (·.1)).Nodup) (h : (k, v) ∈ L) : fnd L k = some v := by
  induction L with
  | nil => cases h
  | cons p r ih =>
    obtain ⟨h1, h2⟩ := List.nodup_cons.1 (by simpa using hn : (p.1 :: r.map (·.1)).Nodup)
    unfold fnd
    rcases List.mem_cons.1 h with rfl | h'
    · simp
    · have : p.1 ≠ k := fun e => h1 (List.mem_map.2 ⟨(k, v), h', e.symm⟩)
      simp only [List.find?_cons, beq_eq_false_iff_ne.2 this]
      exact ih h2 h'
theorem fnd_mem {L : List (Nat × Value)} {k : Nat} {v : Value} (h : fnd L k = some v) : (k, v) ∈ L := by
  unfold fnd at h
  cases hf : L.find? (fun p => p.1 == k) with
  | none => rw [hf] at h; cases h
  | some p =>
    rw [hf] at h
    have h1 := List.find?_some hf
    have h2 := List.mem_of_find?_eq_some hf
    simp at h h1
    obtain ⟨a, b⟩ := p
    simp at h h1
    subst h h1
    exact h2
theorem fnd_ne {L : List (Nat × Value)} {k : Nat} (h : fnd L k = none) : ∀ p ∈ L, p.1 ≠ k := by
  intro p hp e
  unfold fnd at h
  have := List.find?_eq_none.1 (Option.map_eq_none_iff.1 h) p hp
  simp [e] at this

section
variable {P : Program} {k e t : TypeId}

/-- Which entry has the key? -/
theorem MU.find {w b L} (h : MU w b L) {es : Array MapEntry} {clock : Nat} (hL : es.toList.map ekv = L.map kv) (hst : Stamped es clock) (hk : P.underlying k = some (.int .u64)) (n : Nat) (hn : n < 2 ^ 64) :
    ((Instr.findKey k (.int .u64 (n : Int)) es.toList).run P w = .ok none w ∧ fnd L n = none ∧ ∀ x ∈ es.toList, x.key ≠ .int .u64 (n : Int)) ∨
    ∃ j e0, (Instr.findKey k (.int .u64 (n : Int)) es.toList).run P w = .ok (some (j, e0.val)) w ∧ es.toList[j]? = some e0 ∧ e0.key = .int .u64 (n : Int) ∧ fnd L n = some e0.val := by
  have K := Maps.int_keyed hk
  have hn0 := h.nodup
  rcases K.find w (Maps.keyOf_int_mk hk (wf_u64 n hn)) es.toList (fun x hx => by
      have : ekv x ∈ L.map kv := by rw [← hL]; exact List.mem_map.2 ⟨x, hx, rfl⟩
      obtain ⟨p, hp, e1⟩ := List.mem_map.1 this
      refine ⟨.int .u64 (p.1 : Int), ?_⟩
      have e2 : x.key = .int .u64 (p.1 : Int) := (congrArg Prod.fst e1).symm
      rw [e2]
      exact Maps.keyOf_int_mk hk (wf_u64 p.1 (h.lt p hp))) with ⟨h1, h2⟩ | ⟨j, e0, h1, h2, h3⟩
  · refine Or.inl ⟨h1, fnd_none fun p hp e1 => ?_, h2⟩
    have : kv p ∈ es.toList.map ekv := by rw [hL]; exact List.mem_map.2 ⟨p, hp, rfl⟩
    obtain ⟨x, hx, e2⟩ := List.mem_map.1 this
    exact h2 x hx ((congrArg Prod.fst e2).trans (by simp [kv, e1]))
  · refine Or.inr ⟨j, e0, h1, h2, h3, ?_⟩
    have : ekv e0 ∈ L.map kv := by rw [← hL]; exact List.mem_map.2 ⟨e0, List.mem_of_getElem? h2, rfl⟩
    obtain ⟨⟨p1, p2⟩, hp, e1⟩ := List.mem_map.1 this
    have e2 : p1 = n := by
      have := (congrArg Prod.fst e1).trans h3
      simp only [kv] at this
      injection this with _ h5
      omega
    have e3 : p2 = e0.val := congrArg Prod.snd e1
    subst e2 e3
    exact fnd_some hn0 hp

/-- 'm[k]' and 'v, ok := m[k]'. -/
theorem MU.look {w b L} (h : MU w b L) (c : Bool) (hk : P.underlying k = some (.int .u64)) (ht : P.underlying t = some (.map k e)) {z : Value} (hz : (zeroValue e).run P w = .ok z w) (n : Nat) (hn : n < 2 ^ 64) :
    (Instr.lookup t (.map (some b)) (.int .u64 (n : Int)) c).run P w = .ok (if c then .tuple #[(fnd L n).getD z, .bool (fnd L n).isSome] else (fnd L n).getD z) w := by
  have h0 := h
  obtain ⟨⟨es, clock, hb, hst, hL⟩, hlt⟩ := h
  have K := Maps.int_keyed hk
  have hkey := Maps.keyOf_int_mk hk (wf_u64 n hn)
  rcases h0.find (P := P) hL hst hk n hn with ⟨h1, h2, h3⟩ | ⟨j, e0, h1, h2, h3, h4⟩
  · simp [Instr.lookup, run_underlying ht, MapKept.run_getObj_map hb, K.check w _ hkey, h1, hz, h2, Result.andThen]
  · simp [Instr.lookup, run_underlying ht, MapKept.run_getObj_map hb, K.check w _ hkey, h1, h4, Result.andThen]

theorem kept_block {w : World} {b : Nat} {o : Obj} (hb : b < w.heap.size) : Kept (fun x => x = b) w (setBlock w b o) :=
  ⟨rfl, rfl, rfl, by simp [setBlock], fun i hi hne => by simp [setBlock, Ne.symm hne]⟩

/-- 'm[k] = v'. -/
theorem MU.store {w b L} (h : MU w b L) (hk : P.underlying k = some (.int .u64)) (ht : P.underlying t = some (.map k e)) (hm : L.length < maxLen) (n : Nat) (hn : n < 2 ^ 64) (v : Value) :
    ∃ w', (Instr.mapUpdate t (.map (some b)) (.int .u64 (n : Int)) v).run P w = .ok () w' ∧ MU w' b (putL L n v) ∧ Kept (fun x => x = b) w w' ∧ w'.heap.size = w.heap.size := by
  have h0 := h
  obtain ⟨⟨es, clock, hb, hst, hL⟩, hlt⟩ := h
  have K := Maps.int_keyed hk
  have hkey := Maps.keyOf_int_mk hk (wf_u64 n hn)
  have hbl := h0.ltsz
  have hlen : es.size < maxLen := by
    have := congrArg List.length hL
    simp at this
    omega
  rcases h0.find (P := P) hL hst hk n hn with ⟨h1, h2, h3⟩ | ⟨j, e0, h1, h2, h3, h4⟩
  · refine ⟨setBlock w b (.map (es.push ⟨.int .u64 (n : Int), v, clock⟩) (clock + 1)), ?_, ⟨⟨_, _, heap_setBlock_same hb _, stamped_push hst h3, ?_⟩, ?_⟩, kept_block hbl, by simp [setBlock]⟩
    · simp [Instr.mapUpdate, run_underlying ht, MapKept.run_getObj_map hb, K.check w false hkey, h1, MapKept.run_setObj_map _ hb, Result.andThen, setBlock]
    · simp [putL, h2, hL]
      rfl
    · intro p hp
      simp [putL, h2] at hp
      rcases hp with hp | rfl
      · exact hlt p hp
      · exact hn
  · have hj : es[j]? = some e0 := by simpa using h2
    have hkeyf : ∀ e' ∈ es.toList, es[j]? = some e' → ({ e' with key := .int .u64 (n : Int), val := v } : MapEntry).key = e'.key := fun e' _ he' => by rw [hj] at he'; cases he'; exact h3.symm
    refine ⟨setBlock w b (.map (es.modify j (fun e' => { e' with key := .int .u64 (n : Int), val := v })) clock), ?_, ⟨⟨_, _, heap_setBlock_same hb _, stamped_modify hst _ _ (fun _ _ => rfl) hkeyf, ?_⟩, ?_⟩, kept_block hbl, by simp [setBlock]⟩
    · simp [Instr.mapUpdate, run_underlying ht, MapKept.run_getObj_map hb, K.check w false hkey, h1, hj, h3, K.stays w hkey, MapKept.run_setObj_map _ hb, Result.andThen, setBlock]
    · simp only [putL, h4, Option.isSome_some, if_true]
      have hkl : es.toList.Pairwise (fun x y => x.key ≠ y.key) := ((stamped_iff es clock).1 hst).2.2
      apply List.ext_getElem?
      intro i
      have hi := congrArg (fun l => l[i]?) hL
      simp only [List.getElem?_map] at hi
      simp only [List.getElem?_map, Array.getElem?_toList, Array.getElem?_modify]
      simp only [Array.getElem?_toList] at hi
      cases hL2 : L[i]? with
      | none =>
        rw [hL2] at hi
        cases he : es[i]? with
        | none => split <;> simp
        | some x => rw [he] at hi; cases hi
      | some p =>
        rw [hL2] at hi
        cases he : es[i]? with
        | none => rw [he] at hi; cases hi
        | some x =>
          rw [he] at hi
          have hxe : ekv x = kv p := Option.some.inj hi
          by_cases hij : j = i
          · subst hij
            rw [hj] at he
            cases he
            have : p.1 = n := by
              have := (congrArg Prod.fst hxe).symm.trans h3
              simp only [kv] at this
              injection this with _ h5
              omega
            simp [this]
            rfl
          · have hpn : p.1 ≠ n := by
              intro e1
              have hxk : x.key = e0.key := by rw [h3]; exact (congrArg Prod.fst hxe).trans (by simp [kv, e1])
              have hi' : es.toList[i]? = some x := by simpa using he
              obtain ⟨q1, q1'⟩ := List.getElem?_eq_some_iff.1 hi'
              obtain ⟨q2, q2'⟩ := List.getElem?_eq_some_iff.1 h2
              rcases Nat.lt_or_gt_of_ne hij with hlt' | hlt'
              · have := List.pairwise_iff_getElem.1 hkl j i q2 q1 hlt'
                rw [q1', q2'] at this
                exact this hxk.symm
              · have := List.pairwise_iff_getElem.1 hkl i j q1 q2 hlt'
                rw [q1', q2'] at this
                exact this hxk
            simp [hij, hpn, hxe]
    · intro p hp
      simp only [putL, h4, Option.isSome_some, if_true] at hp
      obtain ⟨q, hq, rfl⟩ := List.mem_map.1 hp
      split
      · exact hn
      · exact hlt q hq

/-- 'len(m)'. -/
theorem MU.len {w b L} (h : MU w b L) (ht : P.underlying t = some (.map k e)) (ty : TypeId) : (Builtin.len_ #[t] ty #[.map (some b)]).run P w = .ok (.int .i64 L.length) w := by
  obtain ⟨⟨es, clock, hb, hst, hL⟩, hlt⟩ := h
  have := congrArg List.length hL
  simp at this
  simp [Builtin.len_, run_underlying ht, MapKept.run_getObj_map hb, goInt, Result.andThen, this]

/-- Ranging over the map in block b, the iterator in block r; rest: what has not come yet. -/
def RG (w : World) (b r : Nat) (L rest : List (Nat × Value)) : Prop :=
  ∃ es clock since seen c0, w.heap[b]? = some (.map es clock) ∧ Stamped es clock ∧ es.toList.map ekv = L.map kv ∧ w.heap[r]? = some (.mapIter (some b) since seen c0) ∧ (∀ x ∈ es.toList, x.born < since) ∧ since ≤ c0 ∧ since ≤ clock ∧ ((leftOf es seen).toList.map ekv).Perm (rest.map kv)

theorem RG.left_eq {w b r L rest} (h : RG w b r L rest) : w.rangeLeft b r = rest.length := by
  obtain ⟨es, clock, since, seen, c0, hb, hst, hL, hr, h1, h2, h3, hp⟩ := h
  simp only [World.rangeLeft, hb, hr]
  simpa using hp.length_eq
theorem RG.ne {w b r L rest} (h : RG w b r L rest) : r ≠ b := by
  obtain ⟨es, clock, since, seen, c0, hb, hst, hL, hr, h1, h2, h3, hp⟩ := h
  intro e
  rw [e, hb] at hr
  cases hr
theorem RG.lts {w b r L rest} (h : RG w b r L rest) : b < w.heap.size ∧ r < w.heap.size := by
  obtain ⟨es, clock, since, seen, c0, hb, hst, hL, hr, h1, h2, h3, hp⟩ := h
  exact ⟨(Array.getElem?_eq_some_iff.1 hb).1, (Array.getElem?_eq_some_iff.1 hr).1⟩
theorem RG.kept {w w' b r L rest} {S : Nat → Prop} (h : RG w b r L rest) (k : Kept S w w') (hb : ¬ S b) (hr : ¬ S r) : RG w' b r L rest := by
  have hl := h.lts
  obtain ⟨es, clock, since, seen, c0, h1, h2, h3, h4, h5⟩ := h
  exact ⟨es, clock, since, seen, c0, (k.block b hl.1 hb).trans h1, h2, h3, (k.block r hl.2 hr).trans h4, h5⟩

/-- 'range m'. -/
theorem MU.range {w b L} (h : MU w b L) (ht : P.underlying t = some (.map k e)) :
    ∃ w', (Instr.range t (.map (some b))).run P w = .ok (.pointer (some ⟨w.heap.size, 0, none⟩)) w' ∧ RG w' b w.heap.size L L ∧ Kept (fun _ => False) w w' ∧ w'.heap.size = w.heap.size + 1 := by
  have hl := h.ltsz
  obtain ⟨⟨es, clock, hb, hst, hL⟩, hlt⟩ := h
  refine ⟨_, run_range_map w t k e b es clock ht hb, ⟨es, clock, clock, #[], clock, ?_, hst, hL, heap_new w _, ((stamped_iff es clock).1 hst).1, Nat.le_refl _, Nat.le_refl _, ?_⟩, (Kept.refl _ w).alloc _, by simp⟩
  · rw [Below.heap_alloc _ _ _ hl]; exact hb
  · have : leftOf es #[] = es := by simp [leftOf]
    rw [this, hL]

theorem left_perm (e : MapEntry) (seen : Array Nat) : ∀ (l : List MapEntry), (l.map (·.born)).Nodup → e ∈ l → seen.contains e.born = false →
    (l.filter (fun x => !seen.contains x.born)).Perm (e :: l.filter (fun x => !(seen.push e.born).contains x.born))
  | [], _, h, _ => by cases h
  | a :: l, hn, h, hs => by
    obtain ⟨h1, h2⟩ := List.nodup_cons.1 (by simpa using hn : (a.born :: l.map (·.born)).Nodup)
    have hcp : ∀ x : MapEntry, (seen.push e.born).contains x.born = (seen.contains x.born || x.born == e.born) := fun x => contains_push _ _ _
    rcases List.mem_cons.1 h with rfl | h'
    · have e1 : l.filter (fun x => !(seen.push e.born).contains x.born) = l.filter (fun x => !seen.contains x.born) := by
        refine List.filter_congr fun x hx => ?_
        have hxe : (x.born == e.born) = false := by
          rw [beq_eq_false_iff_ne]
          exact fun e2 => h1 (List.mem_map.2 ⟨x, hx, e2⟩)
        rw [hcp, hxe, Bool.or_false]
      simp only [List.filter_cons, hs, hcp, beq_self_eq_true, Bool.or_true, Bool.not_false, Bool.not_true, if_true, Bool.false_eq_true, if_false]
      simp only [hcp] at e1
      rw [e1]
    · have ih := left_perm e seen l h2 h' hs
      have hae : (a.born == e.born) = false := by
        rw [beq_eq_false_iff_ne]
        exact fun e2 => h1 (List.mem_map.2 ⟨e, h', e2.symm⟩)
      simp only [List.filter_cons, hcp, hae, Bool.or_false]
      simp only [hcp] at ih
      cases hc : seen.contains a.born
      · simp only [Bool.not_false, if_true]
        exact (ih.cons a).trans (List.Perm.swap e a _)
      · simp only [Bool.not_true, Bool.false_eq_true, if_false]
        exact ih

/-- The step. -/
theorem RG.next {w b r L rest} (h : RG w b r L rest) (ty : TypeId) :
    (rest = [] ∧ (Instr.next (.pointer (some ⟨r, 0, none⟩)) false ty).run P w = .ok (.tuple #[.bool false]) w) ∨
    ∃ p rest' w', rest.Perm (p :: rest') ∧ (Instr.next (.pointer (some ⟨r, 0, none⟩)) false ty).run P w = .ok (.tuple #[.bool true, .int .u64 (p.1 : Int), p.2]) w' ∧ RG w' b r L rest' ∧ Kept (fun x => x = r) w w' ∧ w'.heap.size = w.heap.size ∧
      (Instr.entry (.pointer (some ⟨r, 0, none⟩))).run P w' = .ok (.tuple #[.int .u64 (p.1 : Int), p.2]) w' := by
  have hne := h.ne
  have hlts := h.lts
  obtain ⟨es, clock, since, seen, c0, hb, hst, hL, hr, h1, h2, h3, hp⟩ := h
  have hborn := ((stamped_iff es clock).1 hst).2.1
  rcases run_next_at (P := P) w ty r b since c0 seen es clock hr hb h1 h2 with ⟨h0, hrun⟩ | ⟨e, he, w1, hal, hrun⟩
  · refine Or.inl ⟨?_, hrun⟩
    have := hp.length_eq
    simp at this
    have h0' : rest.length = 0 := by omega
    exact List.length_eq_zero_iff.1 h0'
  · obtain ⟨hem, hes⟩ := mem_left he
    have hin : ekv e ∈ rest.map kv := hp.mem_iff.1 (List.mem_map.2 ⟨e, he, rfl⟩)
    obtain ⟨p, hpr, hpe⟩ := List.mem_map.1 hin
    obtain ⟨s, t', hst'⟩ := List.append_of_mem hpr
    have hk1 : e.key = .int .u64 (p.1 : Int) := (congrArg Prod.fst hpe).symm
    have hk2 : e.val = p.2 := (congrArg Prod.snd hpe).symm
    rw [hk1, hk2] at hrun
    have hr1 : w1.heap[r]? = some (.mapIter (some b) since seen c0) := by rcases hal with rfl | rfl <;> exact hr
    have hb1 : w1.heap[b]? = some (.map es clock) := by rcases hal with rfl | rfl <;> exact hb
    have hset := heap_set (o' := .mapIter (some b) since (seen.push e.born) clock) hr1
    have hb' : (setBlock w1 r (.mapIter (some b) since (seen.push e.born) clock)).heap[b]? = some (.map es clock) := (hset.2 b (fun e1 => hne e1.symm)).trans hb1
    have hperm : rest.Perm (p :: (s ++ t')) := by rw [hst']; exact List.perm_middle
    refine Or.inr ⟨p, s ++ t', _, hperm, hrun, ⟨es, clock, since, seen.push e.born, clock, hb', hst, hL, hset.1, h1, h3, h3, ?_⟩, ?_, ?_, ?_⟩
    · have hlp : (leftOf es seen).toList.Perm (e :: (leftOf es (seen.push e.born)).toList) := by
        simp only [leftOf, Array.toList_filter]
        exact left_perm e seen es.toList hborn hem hes
      have h7 := (hlp.map ekv).symm.trans (hp.trans (hperm.map kv))
      simp only [List.map_cons, hpe] at h7
      exact h7.cons_inv
    · have hl1 : r < w1.heap.size := by rcases hal with rfl | rfl <;> exact hlts.2
      have k1 : Kept (fun x => x = r) w w1 := by
        rcases hal with rfl | rfl
        · exact Kept.refl _ _
        · exact (Kept.refl _ _).drew
      exact k1.trans (kept_block hl1) (fun _ _ h => h) (fun _ _ h => h)
    · rcases hal with rfl | rfl <;> simp [setBlock]
    · have := run_entry_at (P := P) _ r b since seen es clock e hset.1 hb' hem hborn
      rw [hk1, hk2] at this
      exact this

end

section
variable {P : Program} (w : World) {ops : Array Oper} {rest : List Oper} {o : Oper} {a : Act} {Q : Exit → Act → World → Prop}

theorem wpl_look (hg : o.guard = none) (m x : Operand) (t : TypeId) (hop : o.op = Op.lookup t m x false) (k e : TypeId) (hk : P.underlying k = some (.int .u64)) (ht : P.underlying t = some (.map k e)) {z : Value} (hz : (zeroValue e).run P w = .ok z w)
    (b : Nat) (L : List (Nat × Value)) (hm : a.eval m = .map (some b)) (h : MU w b L) (n : Nat) (hn : n < 2 ^ 64) (hx : a.eval x = .int .u64 (n : Int)) (v : Value) (hv : (fnd L n).getD z = v)
    (hK : wpList P ops Q rest (a.put o.dst v) w) : wpList P ops Q (o :: rest) a w := by
  refine wpList_plain hg fun K' hK' => ?_
  have hrun := h.look (P := P) false hk ht hz n hn
  simp only [Bool.false_eq_true, if_false, hv] at hrun
  unfold Oper.wp
  simp [execOp, hop, hm, hx, hrun, Result.andThen]
  exact hK' _ _ hK

theorem wpl_look_ok (hg : o.guard = none) (m x : Operand) (t : TypeId) (hop : o.op = Op.lookup t m x true) (k e : TypeId) (hk : P.underlying k = some (.int .u64)) (ht : P.underlying t = some (.map k e)) {z : Value} (hz : (zeroValue e).run P w = .ok z w)
    (b : Nat) (L : List (Nat × Value)) (hm : a.eval m = .map (some b)) (h : MU w b L) (n : Nat) (hn : n < 2 ^ 64) (hx : a.eval x = .int .u64 (n : Int)) (v : Value) (ok : Bool) (hv : (fnd L n).getD z = v) (hok : (fnd L n).isSome = ok)
    (hK : wpList P ops Q rest (a.put o.dst (.tuple #[v, .bool ok])) w) : wpList P ops Q (o :: rest) a w := by
  refine wpList_plain hg fun K' hK' => ?_
  have hrun := h.look (P := P) true hk ht hz n hn
  simp only [if_true, hv, hok] at hrun
  unfold Oper.wp
  simp [execOp, hop, hm, hx, hrun, Result.andThen]
  exact hK' _ _ hK

theorem wpl_store (hg : o.guard = none) (m x v : Operand) (t : TypeId) (hop : o.op = Op.mapUpdate t m x v) (k e : TypeId) (hk : P.underlying k = some (.int .u64)) (ht : P.underlying t = some (.map k e))
    (b : Nat) (L : List (Nat × Value)) (hm : a.eval m = .map (some b)) (h : MU w b L) (hl : L.length < maxLen) (n : Nat) (hn : n < 2 ^ 64) (hx : a.eval x = .int .u64 (n : Int)) (val : Value) (hv : a.eval v = val)
    (hK : ∀ w', MU w' b (putL L n val) → Kept (fun x => x = b) w w' → w'.heap.size = w.heap.size → wpList P ops Q rest (a.put o.dst undef) w') : wpList P ops Q (o :: rest) a w := by
  refine wpList_plain hg fun K' hK' => ?_
  obtain ⟨w', hrun, r1, r2, r3⟩ := h.store (P := P) hk ht hl n hn val
  unfold Oper.wp
  simp [execOp, hop, hm, hx, hv, hrun, Result.andThen]
  exact hK' _ _ (hK w' r1 r2 r3)

theorem wpl_len (hg : o.guard = none) (m : Operand) (t : TypeId) (hop : o.op = Op.call { callee := Callee.builtin Builtin.len, args := #[m], argTypes := #[t] }) (k e : TypeId) (ht : P.underlying t = some (.map k e))
    (b : Nat) (L : List (Nat × Value)) (hm : a.eval m = .map (some b)) (h : MU w b L) (hK : wpList P ops Q rest (a.put o.dst (.int .i64 L.length)) w) : wpList P ops Q (o :: rest) a w := by
  refine wpList_plain hg fun K' hK' => ?_
  unfold Oper.wp
  simp [execOp, hop, resolve, invoke, builtin, hm, h.len (P := P) ht o.type, Result.andThen]
  exact hK' _ _ hK

theorem wpl_range (hg : o.guard = none) (m : Operand) (t : TypeId) (hop : o.op = Op.range t m) (k e : TypeId) (ht : P.underlying t = some (.map k e)) (b : Nat) (L : List (Nat × Value)) (hm : a.eval m = .map (some b)) (h : MU w b L)
    (hK : ∀ w', RG w' b w.heap.size L L → Kept (fun _ => False) w w' → w'.heap.size = w.heap.size + 1 → wpList P ops Q rest (a.put o.dst (.pointer (some ⟨w.heap.size, 0, none⟩))) w') : wpList P ops Q (o :: rest) a w := by
  refine wpList_plain hg fun K' hK' => ?_
  obtain ⟨w', hrun, r1, r2, r3⟩ := h.range (P := P) ht
  unfold Oper.wp
  simp [execOp, hop, hm, hrun, Result.andThen]
  exact hK' _ _ (hK w' r1 r2 r3)

theorem wpl_next (hg : o.guard = none) (it : Operand) (hop : o.op = Op.next it false) (b r : Nat) (L left : List (Nat × Value)) (hit : a.eval it = .pointer (some ⟨r, 0, none⟩)) (h : RG w b r L left)
    (hDone : left = [] → wpList P ops Q rest (a.put o.dst (.tuple #[.bool false])) w)
    (hMore : ∀ (n : Nat) (v : Value) (left' : List (Nat × Value)) (w' : World), left.Perm ((n, v) :: left') → RG w' b r L left' → Kept (fun x => x = r) w w' → w'.heap.size = w.heap.size →
      (Instr.entry (.pointer (some ⟨r, 0, none⟩))).run P w' = .ok (.tuple #[.int .u64 (n : Int), v]) w' → wpList P ops Q rest (a.put o.dst (.tuple #[.bool true, .int .u64 (n : Int), v])) w') :
    wpList P ops Q (o :: rest) a w := by
  refine wpList_plain hg fun K' hK' => ?_
  unfold Oper.wp
  rcases h.next (P := P) o.type with ⟨h0, hrun⟩ | ⟨p, left', w', hp, hrun, h1, h2, h3, h4⟩
  · simp [execOp, hop, hit, hrun, Result.andThen]
    exact hK' _ _ (hDone h0)
  · simp [execOp, hop, hit, hrun, Result.andThen]
    exact hK' _ _ (hMore p.1 p.2 left' w' hp h1 h2 h3 h4)

end
end Go.Proofs.Ytibljocjdlgfbaa
