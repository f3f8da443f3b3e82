/- RegionPlays: one side is called while the other lies beside it; Need on both sides. -/
import Derived.Test.YtggieolknccabaaGreatRxJ
namespace Go.Proofs.YtggieolknccabaaGreat
open Go.RowKit
set_option linter.unusedVariables false

/-- The types of what lies beside a pool. -/
def bty (e : TypeId) : Prop := e = 3 ∨ e = 89 ∨ e = 82 ∨ e = 35 ∨ e = 41 ∨ e = 24
theorem Pol.bty {w W lw x t} (h : Pol w W lw x t) {y : Nat} {cs : Array Value} {e : TypeId} {z : Nat × Nat} (hy : W.heap[y]? = some (.cells cs e z)) (he : bty e) : ¬ (bown x y ∨ y = x.b ∨ y = x.l ∨ y = lw) := by
  rintro ((hx | hx | ⟨k, hk, e2⟩) | rfl | rfl | rfl)
  · obtain ⟨cs', t', z', h1, h2⟩ := space_ty h.bd.sp hx
    have e3 := ty_ne' hy h1
    subst e3
    rcases h2 with rfl | rfl <;> rcases he with e | e | e | e | e | e <;> exact absurd e (by decide)
  · rw [← h.bd.mo] at hx
    obtain ⟨cs', t', z', h1, h2⟩ := map_ty h.bd.mp hx
    have e3 := ty_ne' hy h1
    subst e3
    rcases h2 with rfl | rfl | rfl | rfl | rfl <;> rcases he with e | e | e | e | e | e <;> exact absurd e (by decide)
  · rw [e2] at hy
    have e3 := ty_ne' hy (h.bd.ls k hk).hc
    rcases he with e | e | e | e | e | e <;> exact absurd (e.symm.trans e3) (by decide)
  · have e3 := ty_ne' hy h.bd.bs
    rcases he with e | e | e | e | e | e <;> exact absurd (e.symm.trans e3) (by decide)
  · obtain ⟨cs', hl, _⟩ := h.bd.lr
    have e3 := ty_ne' hy hl
    rcases he with e | e | e | e | e | e <;> exact absurd (e.symm.trans e3) (by decide)
  · have e3 := ty_ne' hy h.box
    rcases he with e | e | e | e | e | e <;> exact absurd (e.symm.trans e3) (by decide)
theorem R6.sty {N W g0 fc o fr va vc ls y} (h : R6 N W g0 fc o fr va vc ls) (hy : S6 g0 va y) : ∃ cs e, W.heap[y]? = some (.cells cs e (0, 0)) ∧ bty e ∧ N ≤ y := by
  rcases hy with rfl | hy
  · obtain ⟨cs, hc⟩ := h.ty0
    exact ⟨cs, _, hc, .inr (.inl rfl), h.nf⟩
  · obtain ⟨cs, hc⟩ := h.tyv hy
    exact ⟨cs, _, hc, .inr (.inr (.inl rfl)), h.nv y hy⟩
/-- The document's own is called: the pool stays. -/
theorem PO.ref {w W W' lw x t fr ls N g0 fc o fr1 va vc ls1} (h : PO w W lw x t fr ls) (r : R6 N W g0 fc o fr1 va vc ls1) (hN : w.heap.size ≤ N) (k : Kept (S6 g0 va) W W') : PO w W' lw x t fr ls := by
  have := (show PE (S6 g0 va) w W lw x t fr ls from ⟨h, fun y e => by
    obtain ⟨cs, ty, hc, hb, _⟩ := r.sty e
    exact ⟨heap_lt hc, h.pl.bty hc hb⟩⟩).set k (fun y e => e) (fun y e => by
    obtain ⟨cs, ty, hc, hb, hn⟩ := r.sty e
    omega)
  exact this.po
/-- The pool is called: the document's own stays. -/
theorem R6.pool {N W W' g0 fc o fr va vc ls} {w lw x t fr1 ls1} (h : R6 N W g0 fc o fr va vc ls) (p : PO w W lw x t fr1 ls1) (k : Kept (bown x) W W') : R6 N W' g0 fc o fr va vc ls :=
  h.kept k (fun y cs hy e => p.pl.bty hy (.inl rfl) (.inl e)) (fun y cs hy e => p.pl.bty hy (.inr (.inl rfl)) (.inl e)) (fun y cs hy e => p.pl.bty hy (.inr (.inr (.inl rfl))) (.inl e))
/-- A box beside both stays. -/
theorem PO.bx {w W W' lw x t fr ls} (p : PO w W lw x t fr ls) (k : Kept (bown x) W W') {y : Nat} {cs : Array Value} {e : TypeId} {z : Nat × Nat} (hy : W.heap[y]? = some (.cells cs e z)) (he : bty e) : W'.heap[y]? = some (.cells cs e z) := (k.block _ (heap_lt hy) (fun e2 => p.pl.bty hy he (.inl e2))).trans hy
theorem R6.bx {N W W' g0 fc o fr va vc ls} (h : R6 N W g0 fc o fr va vc ls) (k : Kept (S6 g0 va) W W') {y : Nat} {cs : Array Value} {e : TypeId} {z : Nat × Nat} (hy : W.heap[y]? = some (.cells cs e z)) (h1 : e ≠ 89) (h2 : e ≠ 82) : W'.heap[y]? = some (.cells cs e z) := (k.block _ (heap_lt hy) (fun e2 => by
  rcases e2 with rfl | e2
  · obtain ⟨cs', hc⟩ := h.ty0
    exact h1 (ty_ne' hy hc)
  · obtain ⟨cs', hc⟩ := h.tyv e2
    exact h2 (ty_ne' hy hc))).trans hy
/-- The first list that holds a block. -/
theorem first_free (fr : Nat → List Nat) (o : Nat) : ∀ m i, i + m = o + 1 → (∀ a, i ≤ a → a ≤ o → fr a = []) ∨ ∃ j p l, i ≤ j ∧ j ≤ o ∧ (∀ a, i ≤ a → a < j → fr a = []) ∧ fr j = p :: l
  | 0, i, h => .inl fun a h1 h2 => by omega
  | m + 1, i, h => by
    cases e : fr i with
    | cons p l => exact .inr ⟨i, p, l, Nat.le_refl _, by omega, fun a h1 h2 => by omega, e⟩
    | nil =>
      rcases first_free fr o m (i + 1) (by omega) with h1 | ⟨j, p, l, h1, h2, h3, h4⟩
      · refine .inl fun a h2 h3 => ?_
        by_cases e2 : a = i
        · rw [e2]; exact e
        · exact h1 a (by omega) h3
      · refine .inr ⟨j, p, l, by omega, h2, fun a h5 h6 => ?_, h4⟩
        by_cases e2 : a = i
        · rw [e2]; exact e
        · exact h3 a (by omega) h6
/-- What Need does on both sides. -/
structure NB6 (w : World) (lw : Nat) (x : Bx) (t : Bt) (fr : Nat → List Nat) (ls : List (Nat × Nat)) (b l r o g0 fc : Nat) (va : Option Addr) (vc : Nat) (k : Int) (d : Bool) (pg : Int) (up : Bool) (er : Int) (at' r' : Nat) (fr' : Nat → List Nat) (ls' : List (Nat × Nat)) : Prop where
  ref : ∀ V : World, w.heap.size ≤ V.heap.size → R6 w.heap.size V g0 fc o fr va vc ls → Calls Tryz.prog 30 #[r6V b (l : Int) (o : Int) (r : Int) (.slice (some ⟨g0, 0, none⟩) (o + 1) fc) (.slice va ls.length vc), .int .i64 k, .bool d] V fun e w' => Nd6P V b l r' o w.heap.size g0 fc fr' va ls' pg up e w'
  pool : ∀ V : World, PO w V lw x t fr ls → Calls Tryz.prog 14 #[.pointer (some ⟨lw, 0, none⟩), .int .i64 k, .bool d] V fun e w' => e = .returned (.tuple #[.int .u64 (at' : Int), .bool up, .int .i64 er]) ∧ (∃ x' t', PO w w' lw x' t' fr' ls' ∧ Sm x x' ∧ t'.m.n = r' * 2 ^ o) ∧ Kept (bown x) V w'
  ans : (pg < 0 ∧ er = 3 + pg ∧ at' = 0 ∧ up = false ∧ -2 ≤ pg) ∨ ∃ p : Nat, pg = (p : Int) ∧ er = 0 ∧ at' = b + 4096 * p ∧ p ≤ 1024
  nd : (ls'.map Prod.fst).Nodup
theorem nd_add {ls : List (Nat × Nat)} (h : (ls.map Prod.fst).Nodup) {p k : Nat} (hp : ∀ q i, (q, i) ∈ ls → q ≠ p) : ((ls ++ [(p, k)]).map Prod.fst).Nodup := by
  rw [List.map_append, List.nodup_append]
  refine ⟨h, by simp, fun a ha c hc e => ?_⟩
  obtain ⟨⟨q, i⟩, hm, rfl⟩ := List.mem_map.1 ha
  have hc : c = p := by simpa using hc
  exact hp q i hm (by rw [← hc]; exact e)
theorem need_both {w W lw x t fr ls b l r o g0 fc va vc} (h : RW w W lw x t fr ls b l r o g0 fc va vc) (k : Int) (d : Bool) : ∃ pg up er at' r' fr' ls', NB6 w lw x t fr ls b l r o g0 fc va vc k d pg up er at' r' fr' ls' := by
  obtain ⟨n1, n2, n3, n4, n5, n6, n7⟩ := h.nums
  have hlen := h.len
  obtain ⟨f1, f2⟩ := h.fl
  have hz : 0 < 2 ^ o := Nat.pow_pos (by decide)
  have had : ∀ p, ad x p = b + 4096 * p := fun p => by unfold ad; rw [h.eb]
  have hR := h.po.pl.bd.hR
  rw [h.eo] at hR
  have hxn : x.n = r * x.R := by
    have e1 := h.po.st
    rw [h.er] at e1
    rw [← e1, hR, Nat.mul_assoc, Nat.mul_comm (2 ^ o) 4096]
  have hR0 : 0 < x.R := by rw [hR]; omega
  cases hr : inR (o + 1) k with
  | false =>
    refine ⟨-2, false, 1, 0, r, fr, ls, fun V hV R => Need6_bad b l r o w.heap.size g0 fc fr va vc ls k hr d V R, fun V P => (Need_bad P k (by rw [h.eo]; exact hr) d).mono ?_, .inl ⟨by decide, by decide, rfl, rfl, by decide⟩, h.nd⟩
    rintro e w' ⟨rfl, hk⟩
    exact ⟨rfl, ⟨x, t, P.keep hk, Sm.refl x, h.er⟩, hk.mono (fun _ _ e => e.elim)⟩
  | true =>
    obtain ⟨i, rfl, hi'⟩ := inR_nat hr
    have hi : i ≤ o := by omega
    rcases first_free fr o (o + 1 - i) i (by omega) with hz0 | ⟨j, p, t', h1, h2, h3, h4⟩
    · by_cases hd : d = true ∨ l ≤ r
      · refine ⟨-1, false, 2, 0, r, fr, ls, fun V hV R => Need6_stuck b l r o n1 w.heap.size g0 fc fr va vc ls i hi hz0 d hd V R, fun V P => (Need_stuck P i (by rw [h.eo]; exact hi) (by rw [h.eo]; exact hz0) d (hd.imp id fun e => by rw [hxn, h.el, show r = l by omega])).mono ?_, .inl ⟨by decide, by decide, rfl, rfl, by decide⟩, h.nd⟩
        rintro e w' ⟨rfl, hk⟩
        exact ⟨rfl, ⟨x, t, P.keep hk, Sm.refl x, h.er⟩, hk.mono (fun _ _ e => e.elim)⟩
      · obtain rfl : d = false := by
          cases d with
          | true => exact absurd (.inl rfl) hd
          | false => rfl
        have hrl : r < l := by
          rcases Nat.lt_or_ge r l with e | e
          · exact e
          · exact absurd (.inr e) hd
        have hm1 : (r + 1) * 2 ^ o ≤ l * 2 ^ o := Nat.mul_le_mul_right _ hrl
        rw [Nat.add_mul, Nat.one_mul] at hm1
        have her := h.er
        have hfl : ∀ j, j ≤ o → (fr j).length ≤ 1023 := fun j hj => by
          have h5 := M.nodup_len t.m.n (fr j) (h.po.sf.nd (by rw [h.eo]; exact hj)) (fun q hq => by
            have h6 := h.po.sf.lt (by rw [h.eo]; exact hj) hq
            have hz' : 0 < 2 ^ j := Nat.pow_pos (by decide)
            omega)
          omega
        refine ⟨((t.m.n : Nat) : Int), true, 0, b + 4096 * t.m.n, r + 1, cutF fr t.m.n o i, ls ++ [(t.m.n, i)], fun V hV R => Need6_grew b l r o n1 hrl n2 n4 w.heap.size g0 fc fr va vc ls (by omega) hfl i hi hz0 t.m.n her V hV R, fun V P => (Need_grew P i (by rw [h.eo]; exact hi) (by rw [h.eo]; exact hz0) (by
          rw [hxn, h.el]
          have h5 : (r + 1) * x.R ≤ l * x.R := Nat.mul_le_mul_right _ hrl
          rw [Nat.add_mul, Nat.one_mul] at h5
          exact h5)).mono ?_, .inr ⟨t.m.n, rfl, rfl, rfl, n6⟩, nd_add h.nd fun q i' hq e => ?_⟩
        · rintro e w' ⟨rfl, ⟨x', t', hp, hs, _, hn, _⟩, hk⟩
          rw [h.eo] at hp hn
          exact ⟨by rw [had], ⟨x', t', hp, hs, by rw [hn, her, Nat.add_mul, Nat.one_mul]⟩, hk⟩
        · obtain ⟨_, _, a3⟩ := h.po.sf.sn.al hq
          have hz' : 0 < 2 ^ i' := Nat.pow_pos (by decide)
          omega
    · have hpb := f2 j p h2 (by rw [h4]; exact List.mem_cons_self ..)
      refine ⟨(p : Int), false, 0, b + 4096 * p, r, cutF (frU fr j (M.dropL (fr j) p)) p j i, ls ++ [(p, i)], fun V hV R => Need6_here b l r o n1 w.heap.size g0 fc fr va vc ls (by omega) f1 i j p t' h1 h2 h3 h4 hpb d V hV R, fun V P => (Need_here P i j p t' (by rw [h.eo]; exact hi) h1 (by rw [h.eo]; exact h2) h3 h4 d).mono ?_, .inr ⟨p, rfl, rfl, rfl, hpb⟩, nd_add h.nd fun q i' hq e => ?_⟩
      · rintro e w' ⟨rfl, ⟨t2, hp, hn⟩, hk⟩
        exact ⟨by rw [had], ⟨x, t2, hp, Sm.refl x, by rw [hn, h.er]⟩, hk⟩
      · have h5 := h.po.sf.apart0 (k := j) (p := p) (by rw [h.eo]; exact h2) (by rw [h4]; exact List.mem_cons_self ..) hq
        have hz1 : 0 < 2 ^ j := Nat.pow_pos (by decide)
        have hz2 : 0 < 2 ^ i' := Nat.pow_pos (by decide)
        omega
end Go.Proofs.YtggieolknccabaaGreat
