import Derived.Test.YthglogiglimebaaGreatPwQ
import Derived.ArgAppend
import Derived.Laws.OwnMore
import Derived.Maps.AppendAt
import Derived.Lib.AppendZeros
import Derived.Test.YthglogiglimebaaGreatPwJ
import Derived.Deep.QuietTactic
import Derived.BigQuiet
/- BuddyPlays: what was taken; both sides of Take. -/
namespace Go.Proofs.YthglogiglimebaaGreat
open Go.RowKit
set_option linter.unusedVariables false

theorem GS.pushK {w0 W : World} {e : TypeId} {size : Nat} {v : Value} {n : Nat} {xs : List Value} (h : GS w0 W e size v n xs) (t : TypeId) (i : TypeInfo) (z : Value) (bytes : Nat)
    (ht : Tryz.prog.underlying t = some (.slice e)) (hi : Tryz.prog.info? e = some i) (hz : i.zero = some z) (hs : i.size = size) (hby : i.bytes = bytes) (hzs : z.cells.size = size) (hsz : 0 < size)
    (a : Addr) (c : Nat) (news : List Value) (hl : news.length = size) (hnews : ∀ j u, news[j]? = some u → W.cell? (a.add j) = some u) (h1 : ∀ u ∈ news, u.oneCell' = true) (h63 : n + 1 ≤ maxLen) (hbb : (n + 1) * bytes ≤ 140737488355328) :
    ∃ g cap w', (∀ ty, (Builtin.append_ #[t, t] ty #[v, .slice (some a) 1 c]).run Tryz.prog W = .ok (.slice (some ⟨g, 0, none⟩) (n + 1) cap) w') ∧ GS w0 w' e size (.slice (some ⟨g, 0, none⟩) (n + 1) cap) (n + 1) (xs ++ news) ∧ w0.heap.size ≤ g ∧ Kept (fun b => v.ownBlock = some b) W w' ∧ (v.ownBlock = some g ∨ W.heap.size ≤ g) := by
  have hl' : news.length = 1 * size := by rw [hl, Nat.one_mul]
  have ho := h.own
  by_cases hr : ∃ g cap, v = .slice (some ⟨g, 0, none⟩) n cap ∧ n + 1 ≤ cap
  · obtain ⟨g, cap, rfl, hroom⟩ := hr
    obtain ⟨w', hrun, hown, hgr⟩ := run_append_fits (P := Tryz.prog) W 0 t 0 e i size ht hi hs g n cap xs ho a 1 c news hl' hnews h1 hroom
    have hg := (h.new g cap rfl).resolve_left (by omega)
    have hk := grown_kept' hgr
    refine ⟨g, cap, w', fun ty => ?_, ⟨hown, fun g' cap' e => ?_, h.kp.trans hk (fun _ _ x => x) (fun x hx e => ?_)⟩, hg, hk, .inl (by simp [Value.ownBlock])⟩
    · rw [← hrun]; simp [Builtin.append_]
    · simp at e; exact .inr (by omega)
    · cases e; omega
  · have key : ∃ v' w', (Builtin.append_ #[t, t] 0 #[v, .slice (some a) 1 c]).run Tryz.prog W = .ok v' w' ∧ w'.ownsRow W.heap.size e size v' (n + 1) (xs ++ news) ∧ Kept none' W w' := by
      rcases ho.2 with ⟨rfl, h0⟩ | ⟨g, cap, cur, rfl, hb, hg, hnc, hcm, hcs, htake⟩
      · subst h0
        have : xs = [] := List.eq_nil_of_length_eq_zero (by rw [ho.1, Nat.zero_mul])
        subst this
        obtain ⟨v', w', hrun, hown, hgr, _⟩ := run_append_own (P := Tryz.prog) W W.heap.size t 0 e i z size bytes ht hi hz hs hby hzs hsz (.slice none 0 0) 0 [] (World.ownsRow_nil _ _ _ _) a 1 c news hl' hnews h1 h63 hbb (Nat.le_refl _)
        exact ⟨v', w', hrun, hown, (grown_kept' hgr).mono (fun _ _ e => by cases e)⟩
      · obtain ⟨v', w', hrun, hown, hgr⟩ := run_append_arg_grows (P := Tryz.prog) W t 0 e i z size bytes ht hi hz hs hby hzs hsz ⟨g, 0, none⟩ n cap xs ho.1 (fun j u hj => by
          rw [Addr.add_lit, Nat.zero_add]
          rw [← htake, List.getElem?_take] at hj
          split at hj
          · simp only [World.cell?, hg]
            rw [← Array.getElem?_toList, hj]
            rfl
          · cases hj) a 1 c news hl' hnews (Nat.lt_of_not_le fun hle => hr ⟨g, cap, rfl, hle⟩) h63 hbb
        exact ⟨v', w', hrun, hown, (grown_kept' hgr).mono (fun _ _ e => by cases e)⟩
    obtain ⟨v', w', hrun, hown, hk⟩ := key
    rcases hown.2 with ⟨_, h0⟩ | ⟨g, cap, cur, rfl, hb, hg, h3⟩
    · omega
    · refine ⟨g, cap, w', fun ty => ?_, ⟨⟨hown.1, .inr ⟨g, cap, cur, rfl, Nat.zero_le _, hg, h3⟩⟩, fun g' cap' e => ?_, none_trans h.kp hk⟩, Nat.le_trans h.kp.size hb, hk.mono (fun _ _ e => e.elim), .inr hb⟩
      · rw [← hrun]; simp [Builtin.append_]
      · simp at e
        exact .inr (by have := h.kp.size; omega)
theorem PW.re {E E' w W lw c x t fr ls fa fc va n vc} (h : PW E w W lw c x t fr ls fa fc va n vc) (hE : ∀ y, E' y → y < W.heap.size ∧ ¬ (bown x y ∨ y = lw)) : PW E' w W lw c x t fr ls fa fc va n vc := ⟨h.law, h.nl, h.fl, h.rn, h.sf, h.st, h.nc, h.bm, hE⟩
/-- A row of words beside it is written. -/
theorem PW.keptE {E w W W' lw c x t fr ls fa fc va n vc} {S : Nat → Prop} (h : PW E w W lw c x t fr ls fa fc va n vc) (k : Kept S W W') (hS : ∀ y, S y → ¬ (bown x y ∨ y = lw) ∧ ∃ cs z, W.heap[y]? = some (.cells cs 22 z)) (h0 : ∀ y, S y → w.heap.size ≤ y) : PW (fun _ => False) w W' lw c x t fr ls fa fc va n vc := by
  have ty : ∀ {y cs t' z}, W.heap[y]? = some (.cells cs t' z) → t' ≠ 22 → ¬ S y := fun {y cs t' z} hy ht e => by
    obtain ⟨cs', z', h1⟩ := (hS y e).2
    exact ht (ty_ne' hy h1)
  refine ⟨⟨(k.block _ (heap_lt h.law.box) (ty h.law.box (by decide))).trans h.law.box, h.law.bd.kept k ?_, h.law.nw, h.law.kp.trans k (fun _ _ e => e) (fun y hy e => absurd (h0 y e) (by omega))⟩, h.nl, h.fl.kept k (fun y cs hy => ty hy (by decide)) (fun y cs hy => ty hy (by decide)), own_kept h.rn k (fun y e => ?_), h.sf, h.st, h.nc, h.bm, fun y e => e.elim⟩
  · rintro y (hy | rfl | rfl)
    · exact fun e => (hS y e).1 (.inl hy)
    · exact ty h.law.bd.bs (by decide)
    · obtain ⟨cs, hl, _⟩ := h.law.bd.lr
      exact ty hl (by decide)
  · obtain ⟨cs, hc⟩ := own_ty h.rn e
    exact ty hc (by decide)
/-- The blocks of what was taken. -/
abbrev Eb (v : Value) : Nat → Prop := fun y => v.ownBlock = some y
theorem PW.push {w W lw c x t fr ls fa fc va n vc} {ta : Option Addr} {m tc : Nat} {xs : List Nat} (h : PW (Eb (.slice ta m tc)) w W lw c x t fr ls fa fc va n vc) (hw : WL w W (.slice ta m tc) xs) (hl : m = xs.length) (q : Nat) (hm : xs.length ≤ 2000) :
    ∃ g cap w', (∀ ty, (Builtin.append_ #[29, 29] ty #[.slice ta m tc, .slice (some ⟨W.heap.size, 0, none⟩) 1 1]).run Tryz.prog (W.alloc (.cells #[.int .u64 (q : Int)] 22)) = .ok (.slice (some ⟨g, 0, none⟩) (m + 1) cap) w') ∧ WL w w' (.slice (some ⟨g, 0, none⟩) (m + 1) cap) (xs ++ [q]) ∧ PW (Eb (.slice (some ⟨g, 0, none⟩) (m + 1) cap)) w w' lw c x t fr ls fa fc va n vc := by
  have hg := hw.1
  rw [← hl] at hg
  obtain ⟨i, hi, hzz⟩ := Option.map_eq_some_iff.1 info_w64
  simp only [Prod.mk.injEq] at hzz
  have ka := (Kept.refl none' W).alloc (.cells #[.int .u64 (q : Int)] 22)
  obtain ⟨g, cap, w', h1, h2, h5, h6, h7⟩ := (hg.keep ka).pushK 29 i (.int .u64 0) 8 Tryz.underlying29 hi hzz.1 hzz.2.1 hzz.2.2 rfl (by decide) ⟨W.heap.size, 0, none⟩ 1 [.int .u64 (q : Int)] rfl (fun j u hj => cells_new (cs := #[.int .u64 (q : Int)]) j u hj) (by simp [Value.oneCell']) (by simp only [maxLen]; omega) (by omega)
  have hW := h.keep ka
  have hown : ∀ y, Eb (.slice ta m tc) y → ∃ cs, (W.alloc (.cells #[.int .u64 (q : Int)] 22)).heap[y]? = some (.cells cs 22 (0, 0)) := fun y e => own_ty (hg.keep ka).own e
  have hP := hW.keptE h6 (fun y e => ⟨(hW.ex y e).2, by obtain ⟨cs, hc⟩ := hown y e; exact ⟨cs, _, hc⟩⟩) (fun y e => hw.2 y e)
  refine ⟨g, cap, w', h1, ⟨?_, fun r e => by simp [Value.ownBlock] at e; omega⟩, hP.re (fun y e => ?_)⟩
  · rw [List.length_append, List.length_singleton, ← hl, List.map_append]
    exact h2
  · have e : g = y := by simpa [Eb, Value.ownBlock] using e
    subst e
    obtain ⟨cs, hc⟩ := own_ty h2.own (y := g) (by simp [Value.ownBlock])
    refine ⟨heap_lt hc, ?_⟩
    rcases h7 with h7 | h7
    · exact (hW.ex g h7).2
    · intro e
      have := hW.law.lt g e
      omega
theorem WL.kept {w W W' : World} {v : Value} {xs : List Nat} (h : WL w W v xs) (k : Kept none' w W') (hE : ∀ y, v.ownBlock = some y → W'.heap[y]? = W.heap[y]?) : WL w W' v xs := by
  refine ⟨⟨⟨h.1.own.1, ?_⟩, h.1.new, k⟩, h.2⟩
  rcases h.1.own.2 with h0 | ⟨g, cap, cur, rfl, hb, hg, h3⟩
  · exact .inl h0
  · exact .inr ⟨g, cap, cur, rfl, hb, (hE g (by simp [Value.ownBlock])).trans hg, h3⟩
set_option maxRecDepth 4000 in
theorem address_x (op od tt rf : Int) (h1 : -9223372036854775808 ≤ rf) (h2 : rf ≤ 9223372036854775807) (sp : Nat) (hs : sp < 18446744073709551616) (ta : Option Addr) (m tc : Nat) (xs : List Nat) (hl : m = xs.length) (hm : m ≤ 1000) (W0 w : World) (h : WL W0 w (.slice ta m tc) xs) :
    Calls Tryz.prog 8 #[stV op od tt rf sp, .slice ta m tc] w fun e w' => ∃ a : Nat, a < 18446744073709551616 ∧ e = .returned (.int .u64 (a : Int)) ∧ Kept none' w w' := by
  have K0 := hid ((Kept.refl none' w).alloc (stO op od tt rf sp))
  have X0 := hid (heap_new w (stO op od tt rf sp))
  by_cases hr : 0 < rf ∧ rf ≤ (m : Int)
  · obtain ⟨i, rfl⟩ : ∃ i : Nat, rf = (i : Int) + 1 := ⟨(rf - 1).toNat, by omega⟩
    have him : i < m := by omega
    have ho := h.1.own
    rw [← hl] at ho
    obtain ⟨g, hg, hc⟩ := own_get ho (i := i) (u := .int .u64 ((xs.getD i 0 : Nat) : Int)) (by
      rw [List.getElem?_map, List.getElem?_eq_getElem (by omega)]
      simp [M.e64, List.getD, show i < xs.length by omega])
    subst hg
    generalize xs.getD i 0 = y at *
    have r1 : (0 : Int) < (i : Int) + 1 := by omega
    have r2 : (i : Int) + 1 ≤ (m : Int) := by omega
    have r3 : (i : Int) + 1 - 1 = (i : Int) := by omega
    have r4 : (i : Int) < (m : Int) := by omega
    have d1 : decide ((0 : Int) < (i : Int) + 1) = true := decide_eq_true r1
    have d2 : decide ((i : Int) + 1 ≤ (m : Int)) = true := decide_eq_true r2
    have c0 := K0.out.cell (fun e => e) hc
    obtain ⟨_, _, _, c3, c4⟩ := stc X0.out
    obtain ⟨a, ha⟩ : ∃ a : Nat, IntKind.u64.wrap ((y : Int) + (sp : Int)) = (a : Int) := ⟨(((y : Int) + (sp : Int)) % 18446744073709551616).toNat, by
      rw [Int.toNat_of_nonneg (Int.emod_nonneg _ (by decide))]; rfl⟩
    have ha2 : a < 18446744073709551616 := by
      have : (a : Int) < 18446744073709551616 := by rw [← ha]; exact Int.emod_lt_of_pos _ (by decide)
      omega
    clear h ho hl hr hc
    go_enter Tryz.func8, Tryz.ntmps8
    have KD := hid (fun nq => K0.out.drewN nq)
    go_wp2_with fail
    go_quiet (fail)
    go_wp2_with fail
    go_ret
    exact ⟨a, ha2, by first | rfl | (rw [← ha]; rfl) | simp [ha], KD.out nq⟩
  · have r5 : ¬ (0 : Int) < rf ∨ ((0 : Int) < rf ∧ ¬ rf ≤ (m : Int)) := by
      by_cases e : (0 : Int) < rf
      · exact .inr ⟨e, fun e2 => hr ⟨e, e2⟩⟩
      · exact .inl e
    obtain ⟨_, _, _, c3, c4⟩ := stc X0.out
    clear h hl hr
    rcases r5 with e | ⟨e, e2⟩
    · have d1 : decide ((0 : Int) < rf) = false := decide_eq_false e
      go_enter Tryz.func8, Tryz.ntmps8
      go_wp2_with fail
      go_ret
      exact ⟨sp, hs, rfl, K0.out⟩
    · have d1 : decide ((0 : Int) < rf) = true := decide_eq_true e
      have d2 : decide (rf ≤ (m : Int)) = false := decide_eq_false e2
      go_enter Tryz.func8, Tryz.ntmps8
      go_wp2_with fail
      go_ret
      exact ⟨sp, hs, rfl, K0.out⟩
/-- Both sides of Take answer alike. -/
structure BothT (k : Int) (W : World) (x : Bx) (t : Bt) (n : Nat) (fa : Option Addr) (fc : Nat) (va : Option Addr) (vc : Nat) (fr' : Nat → List Nat) (ls' : List (Nat × Nat)) (pg er q : Nat) : Prop where
  rf : ∀ W1, Kept none' W W1 → Calls Tryz.prog 9 #[r5V (x.o : Int) (t.m.n : Int) (.slice fa (x.o + 1) fc) (.slice va n vc), .int .i64 k] W1 fun e w' => T5P W1 (x.o : Int) (t.m.n : Int) x.o fr' ls' pg er e w'
  pr : ∀ W2, BdAt W2 x t → Calls Tryz.prog 10 #[.pointer (some ⟨x.b, 0, none⟩), .int .i64 k] W2 fun e w' => e = .returned (.tuple #[.int .u64 (q : Int), .int .i64 (er : Int)]) ∧ DF x t W2 w' fr' ls'
  ln : ls'.length ≤ n + 1
  ok : (er = 0 ∧ q = ad x pg ∧ pg ≤ 1024 ∧ x.base + 4096 * pg < 18446744073709551616) ∨ (er ≠ 0 ∧ er ≤ 2 ∧ q = 0 ∧ pg = 0)
theorem take_both {E w W lw c x t fr ls fa fc va n vc} (h : PW E w W lw c x t fr ls fa fc va n vc) (hc : n ≤ 1000) (k : Int) : ∃ fr' ls' pg er q, BothT k W x t n fa fc va vc fr' ls' pg er q := by
  obtain ⟨n1, n2, n3, n4, _⟩ := h.nums
  have hnl := h.nl
  have hst := h.st
  subst hnl
  by_cases hk : k < 0 ∨ (x.o : Int) < k
  · refine ⟨fr, ls, 0, 1, 0, fun W1 k1 => ?_, fun W2 hb => ?_, Nat.le_succ _, .inr ⟨by decide, by decide, rfl, rfl⟩⟩
    · exact Take5_no x.o n1 (t.m.n : Int) fa fc va vc fr ls hc k hk W1 (h.fl.keep k1) (h.rn.keep k1)
    · refine (Take_none x t k (by unfold inR; rw [decide_eq_false]; omega) W2 hb).mono ?_
      rintro e w' ⟨rfl, rfl⟩
      exact ⟨rfl, DF.same hb h.sf (Kept.refl none' _)⟩
  · obtain ⟨i, rfl⟩ : ∃ i : Nat, k = (i : Int) := ⟨k.toNat, by omega⟩
    have hi : i ≤ x.o := by omega
    by_cases hz : ∀ j, i ≤ j → j ≤ x.o → fr j = []
    · refine ⟨fr, ls, 0, 2, 0, fun W1 k1 => ?_, fun W2 hb => ?_, Nat.le_succ _, .inr ⟨by decide, by decide, rfl, rfl⟩⟩
      · refine (Take5 x.o n1 (t.m.n : Int) fa fc va vc fr (fun j hj => h.sf.len hj) (fun j hj q hq => h.sf.le hj hq) ls hc i hi W1 (h.fl.keep k1) (h.rn.keep k1)).mono ?_
        rintro e w' (⟨_, h1⟩ | ⟨j, p, l, h1, h2, _, h3, _⟩)
        · exact h1
        · rw [hz j h1 h2] at h3; cases h3
      · refine (Take_f x t fr ls h.sf i hi W2 hb).mono ?_
        rintro e w' (⟨rfl, rfl, _⟩ | ⟨j, p, l, h1, h2, _, h3, _⟩)
        · exact ⟨rfl, DF.same hb h.sf (Kept.refl none' _)⟩
        · rw [hz j h1 h2] at h3; cases h3
    · obtain ⟨j, hj1, hj2, hj3, hj4⟩ : ∃ j, i ≤ j ∧ j ≤ x.o ∧ fr j ≠ [] ∧ ∀ a, i ≤ a → a < j → fr a = [] := by
        have : ∀ d, (∀ a, i ≤ a → a < i + d → fr a = []) ∨ ∃ j, i ≤ j ∧ j < i + d ∧ fr j ≠ [] ∧ ∀ a, i ≤ a → a < j → fr a = [] := by
          intro d
          induction d with
          | zero => exact .inl fun a h1 h2 => by omega
          | succ d ih =>
            rcases ih with ih | ⟨j, h1, h2, h3, h4⟩
            · by_cases e : fr (i + d) = []
              · refine .inl fun a h1 h2 => ?_
                by_cases e2 : a = i + d
                · rw [e2]; exact e
                · exact ih a h1 (by omega)
              · exact .inr ⟨i + d, by omega, by omega, e, ih⟩
            · exact .inr ⟨j, h1, by omega, h3, h4⟩
        rcases this (x.o + 1 - i) with h1 | ⟨j, h1, h2, h3, h4⟩
        · exact absurd (fun j h2 h3 => h1 j h2 (by omega)) hz
        · exact ⟨j, h1, by omega, h3, h4⟩
      obtain ⟨p, l, hpl⟩ : ∃ p l, fr j = p :: l := by
        cases e : fr j with
        | nil => exact absurd e hj3
        | cons p l => exact ⟨p, l, rfl⟩
      have uniq : ∀ j' p' l', i ≤ j' → j' ≤ x.o → (∀ a, i ≤ a → a < j' → fr a = []) → fr j' = p' :: l' → j' = j ∧ p' = p := fun j' p' l' a1 a2 a3 a4 => by
        have e : j' = j := by
          rcases Nat.lt_trichotomy j' j with e | e | e
          · rw [hj4 j' a1 e] at a4; cases a4
          · exact e
          · exact absurd (a3 j hj1 e) hj3
        subst e
        rw [hpl] at a4
        injection a4 with e1 _
        exact ⟨rfl, e1.symm⟩
      have hm : p ∈ fr j := by rw [hpl]; exact List.mem_cons_self
      have hp := h.sf.le hj2 hm
      have hlt := ad_lt h hj2 hm
      refine ⟨cutF (frU fr j (M.dropL (fr j) p)) p j i, ls ++ [(p, i)], p, 0, ad x p, fun W1 k1 => ?_, fun W2 hb => ?_, by simp, .inl ⟨rfl, rfl, hp, hlt⟩⟩
      · refine (Take5 x.o n1 (t.m.n : Int) fa fc va vc fr (fun j hj => h.sf.len hj) (fun j hj q hq => h.sf.le hj hq) ls hc i hi W1 (h.fl.keep k1) (h.rn.keep k1)).mono ?_
        rintro e w' (⟨h1, _⟩ | ⟨j', p', l', h1, h2, h3, h4, h5⟩)
        · exact absurd h1 hz
        · obtain ⟨rfl, rfl⟩ := uniq j' p' l' h1 h2 h3 h4
          exact h5
      · refine (Take_f x t fr ls h.sf i hi W2 hb).mono ?_
        rintro e w' (⟨_, _, h1⟩ | ⟨j', p', l', h1, h2, h3, h4, h5, h6⟩)
        · exact absurd h1 hz
        · obtain ⟨rfl, rfl⟩ := uniq j' p' l' h1 h2 h3 h4
          exact ⟨h5, h6⟩
/-- The document's own call, the buddy's, then the answer put into the box. -/
theorem PW.finT {E w W w1 w2 lw c x t fr ls fa fc va n vc fr' ls' fa' fc' va' n' vc'} (h : PW E w W lw c x t fr ls fa fc va n vc) (k1 : Kept none' W w1) (f : FL w1 fa' fc' x.o fr') (r : RN w1 (.slice va' n' vc') ls') (hn : n' = ls'.length) (d : DF x t w1 w2 fr' ls') (hc : n' ≤ c + 1) :
    (∃ t', PW E w (doc4 w2 lw (x.o : Int) (t.m.n : Int) (.slice fa' (x.o + 1) fc') (.slice va' n' vc')) lw (c + 1) x t' fr' ls' fa' fc' va' n' vc') ∧ ∀ y, E y → (doc4 w2 lw (x.o : Int) (t.m.n : Int) (.slice fa' (x.o + 1) fc') (.slice va' n' vc')).heap[y]? = W.heap[y]? := by
  obtain ⟨t', hb, hk, hs, hnn⟩ := d
  have h1 := h.keep k1
  have l2 := h1.law.call hb hk
  have k2 : Kept (fun y => bown x y ∨ y = lw) w1 w2 := hk.mono (fun _ _ e => .inl e)
  have k3 : Kept (fun y => bown x y ∨ y = lw) w2 (doc4 w2 lw (x.o : Int) (t.m.n : Int) (.slice fa' (x.o + 1) fc') (.slice va' n' vc')) := (doc4_k _ _ _ _ _ _).mono (fun _ _ e => .inr e)
  have l3 := l2.doc t.m.n (.slice fa' (x.o + 1) fc') (.slice va' n' vc')
  have kk : Kept (fun y => bown x y ∨ y = lw) W (doc4 w2 lw (x.o : Int) (t.m.n : Int) (.slice fa' (x.o + 1) fc') (.slice va' n' vc')) := ((k1.trans k2 (fun _ _ e => e.elim) (fun _ _ e => e)).trans k3 (fun _ _ e => e) (fun _ _ e => e))
  exact ⟨⟨t', ⟨by rw [hnn]; exact l3, hn, l2.fl (h1.law.fl f k2) k3, l2.rn (h1.law.rn r k2) k3, hs, by rw [hnn]; exact h.st, hc, h.bm, fun y e => ⟨Nat.lt_of_lt_of_le (h.ex y e).1 kk.size, (h.ex y e).2⟩⟩⟩, h.exk kk⟩
end Go.Proofs.YthglogiglimebaaGreat
