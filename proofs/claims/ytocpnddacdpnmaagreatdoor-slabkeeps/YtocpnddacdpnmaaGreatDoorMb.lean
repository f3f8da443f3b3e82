import Derived.Test.YtocpnddacdpnmaaGreatDoorSlX
/- Each slab page has a live cell: between calls. -/
namespace Go.Proofs.YtocpnddacdpnmaaGreatDoor
open Go.RowKit
set_option linter.unusedVariables false

theorem Lve.tak {S : Sb} {p k i : Nat} {r : List Nat} (h : ∀ a c, a ≠ p → S.c a = some c → (S.fl a).length < ncl c) (hc : S.c p = some k) (hf : S.fl p = i :: r) (hl : (S.fl p).length ≤ ncl k) : Lve (takS S p k r) := by
  intro a c ha
  replace ha : S.c a = some c := ha
  show (updF S.fl p r a).length < ncl c
  by_cases e : a = p
  · subst e
    rw [hc] at ha
    cases ha
    rw [updF_self]
    rw [hf, List.length_cons] at hl
    omega
  · rw [updF_ne _ _ e]
    exact h a c e ha
/-- Behind a Take. -/
theorem Lve.old {w W sb lw x t fr ls S h} (o : SO w W sb lw x t fr ls S h) (v : Lve S) {p k i : Nat} {l r : List Nat} (hk : k < 8) (hl : S.pl k = p :: l) (hf : S.fl p = i :: r) : Lve (takS S p k r) := by
  have hc := ((o.si.pm k hk p).1 (by rw [hl]; exact List.mem_cons_self)).1
  exact Lve.tak (fun a c _ ha => v a c ha) hc hf (o.si.lv p k hc)
theorem Lve.new {S : Sb} (v : Lve S) {p k : Nat} (hk : k < 8) : Lve (takS (freS S p k) p k (List.range' 1 (ncl k - 1))) := by
  have hnl := ncl_b hk
  have e : (freS S p k).fl p = List.range' 0 (ncl k) := updF_self _ _ _
  refine Lve.tak (i := 0) (fun a c ha hc => ?_) (updF_self _ _ _) ?_ ?_
  · rw [show (freS S p k).c a = S.c a from updF_ne _ _ ha] at hc
    rw [show (freS S p k).fl a = S.fl a from updF_ne _ _ ha]
    exact v a c hc
  · rw [e]
    obtain ⟨m, hm⟩ : ∃ m, ncl k = m + 1 := ⟨ncl k - 1, by omega⟩
    rw [hm]
    rfl
  · rw [e, List.length_range']
    exact Nat.le_refl _
/-- Behind a Give. -/
theorem Lve.back {S : Sb} (v : Lve S) {p k i : Nat} (hc : S.c p = some k) (hl : (S.fl p).length + 1 < ncl k) : Lve (givS S p k i) := by
  intro a c ha
  replace ha : S.c a = some c := ha
  show (updF S.fl p (i :: S.fl p) a).length < ncl c
  by_cases e : a = p
  · subst e
    rw [hc] at ha
    cases ha
    rw [updF_self, List.length_cons]
    exact hl
  · rw [updF_ne _ _ e]
    exact v a c ha
theorem Lve.rel {S : Sb} (v : Lve S) (p k : Nat) : Lve (relS S p k) := by
  intro a c ha
  replace ha : updF S.c p none a = some c := ha
  by_cases e : a = p
  · rw [e, updF_self] at ha
    cases ha
  · rw [updF_ne _ _ e] at ha
    exact v a c ha
/-- A slab over a fresh pool. -/
theorem SO.new {w W sb lw x t} (po : PO w W lw x t (fun _ => []) []) (sw : SW w W sb lw x t (fun _ => -1)) (hP : x.P = fun _ => none) : SO w W sb lw x t (fun _ => []) [] ⟨fun _ => none, fun _ => [], fun _ => []⟩ (fun _ => -1) := by
  refine ⟨sw, po.sf, po.st, po.bm, ⟨?_, fun p k h => ?_, fun p k h => ?_, fun p k h => ?_, fun k hk => List.nodup_nil, fun k hk p => ?_⟩, fun k hk => rfl⟩
  · rw [hP]
    funext p
    exact (pOf_none rfl).symm
  · cases h
  · cases h
  · cases h
  · constructor
    · intro h; cases h
    · rintro ⟨h, _⟩; cases h
theorem Lve.none : Lve ⟨fun _ => Option.none, fun _ => [], fun _ => []⟩ := fun p k h => by cases h
/-- A pool made in a later world. -/
theorem Pol.from {w w1 W lw x t} (k : Kept none' w w1) (h : Pol w1 W lw x t) : Pol w W lw x t := ⟨h.box, h.bd, fun y hy => Nat.le_trans k.size (h.nw y hy), none_trans k h.kp⟩
end Go.Proofs.YtocpnddacdpnmaaGreatDoor
/- SlabKnown: a slab over a pool of one region of two pages, call by call. -/
namespace Go.Proofs.YtocpnddacdpnmaaGreatDoor
open Go.RowKit
set_option linter.unusedVariables false

/-- A slab over a pool of {65536, 1, 1}: its bytes, its lists, its live blocks, its cells; E: blocks beside it. -/
def KS7 (w W : World) (E : Nat → Prop) (sb lw n : Nat) (f0 f1 : List Nat) (ls : List (Nat × Nat)) (S : Sb) : Prop := ∃ x t fr h, SO w W sb lw x t fr ls S h ∧ Lve S ∧ (∀ y, E y → y < W.heap.size ∧ ¬ sown x sb y) ∧ x.base = 65536 ∧ x.lim = 1 ∧ x.o = 1 ∧ x.R = 8192 ∧ x.n = n ∧ fr 0 = f0 ∧ fr 1 = f1
theorem KS7.keep {w W W' E sb lw n f0 f1 ls S} (s : KS7 w W E sb lw n f0 f1 ls S) (k : Kept none' W W') : KS7 w W' E sb lw n f0 f1 ls S := by
  obtain ⟨x, t, fr, h, o, v, hE, r⟩ := s
  exact ⟨x, t, fr, h, o.keep k, v, fun y hy => ⟨Nat.lt_of_lt_of_le (hE y hy).1 k.size, (hE y hy).2⟩, r⟩
theorem KS7.bad {w W E sb lw n f0 f1 ls S} (s : KS7 w W E sb lw n f0 f1 ls S) (c : Int) (hc : ¬ (0 ≤ c ∧ c < 8)) (d : Bool) :
    Calls Tryz.prog 9 #[.pointer (some ⟨sb, 0, none⟩), .int .i64 c, .bool d] W fun e w' => e = .returned (.tuple #[.int .u64 0, .bool false, .int .i64 1]) ∧ KS7 w w' E sb lw n f0 f1 ls S ∧ Kept none' W w' := by
  obtain ⟨x, t, fr, h, o, v, hE, r⟩ := s
  refine (Take_any o c d).mono fun e w' hT => ?_
  cases hT with
  | bad _ he kp => exact ⟨he, ⟨x, t, fr, h, o.keep kp, v, fun y hy => ⟨Nat.lt_of_lt_of_le (hE y hy).1 kp.size, (hE y hy).2⟩, r⟩, kp⟩
  | stuck k hk hc2 => exact absurd ⟨by omega, by omega⟩ hc
  | old k p i l r hk hc2 => exact absurd ⟨by omega, by omega⟩ hc
  | new k p b hk hc2 => exact absurd ⟨by omega, by omega⟩ hc
/-- None is to be had. -/
theorem KS7.stuck {w W E sb lw n ls S} (s : KS7 w W E sb lw n [] [] ls S) (k : Nat) (hk : k < 8) (hl : S.pl k = []) (d : Bool) (hd : d = true ∨ n = 8192) :
    Calls Tryz.prog 9 #[.pointer (some ⟨sb, 0, none⟩), .int .i64 (k : Int), .bool d] W fun e w' => e = .returned (.tuple #[.int .u64 0, .bool false, .int .i64 2]) ∧ KS7 w w' E sb lw n [] [] ls S ∧ Kept none' W w' := by
  obtain ⟨x, t, fr, h, o, v, hE, hb, hli, ho, hR, hn, h0, h1⟩ := s
  have hf : ∀ a, a ≤ x.o → fr a = [] := fun a ha => by
    rw [ho] at ha
    rcases (show a = 0 ∨ a = 1 by omega) with rfl | rfl
    · exact h0
    · exact h1
  refine (Take_any o (k : Int) d).mono fun e w' hT => ?_
  cases hT with
  | bad hc => exact absurd ⟨by omega, by omega⟩ hc
  | stuck k2 hk2 hc hl2 hz hd2 he kp => exact ⟨he, ⟨x, t, fr, h, o.keep kp, v, fun y hy => ⟨Nat.lt_of_lt_of_le (hE y hy).1 kp.size, (hE y hy).2⟩, hb, hli, ho, hR, hn, h0, h1⟩, kp⟩
  | old k2 p i l r hk2 hc hl2 =>
    obtain rfl : k = k2 := by omega
    rw [hl] at hl2
    cases hl2
  | new k2 p b hk2 hc hl2 he so =>
    obtain ⟨x', t', fr', h', hN, _⟩ := so
    cases hN with
    | here j l hj hz hp => rw [hf j hj] at hp; cases hp
    | grew hz hd2 hle =>
      exfalso
      rcases hd with rfl | rfl
      · cases hd2
      · rw [hn, hR, hli] at hle
        omega
/-- A region comes. -/
theorem KS7.grow {w W E sb lw ls S} (s : KS7 w W E sb lw 0 [] [] ls S) (k : Nat) (hk : k < 8) (hl : S.pl k = []) :
    Calls Tryz.prog 9 #[.pointer (some ⟨sb, 0, none⟩), .int .i64 (k : Int), .bool false] W fun e w' => e = .returned (.tuple #[.int .u64 65536, .bool true, .int .i64 0]) ∧ KS7 w w' E sb lw 8192 [1] [] (ls ++ [(0, 0)]) (takS (freS S 0 k) 0 k (List.range' 1 (ncl k - 1))) ∧ Kept (fun y => ¬ E y ∧ w.heap.size ≤ y) W w' := by
  obtain ⟨x, t, fr, h, o, v, hE, hb, hli, ho, hR, hn, h0, h1⟩ := s
  have hf : ∀ a, a ≤ x.o → fr a = [] := fun a ha => by
    rw [ho] at ha
    rcases (show a = 0 ∨ a = 1 by omega) with rfl | rfl
    · exact h0
    · exact h1
  have hst := o.st
  refine (Take_any o (k : Int) false).mono fun e w' hT => ?_
  cases hT with
  | bad hc => exact absurd ⟨by omega, by omega⟩ hc
  | stuck k2 hk2 hc hl2 hz hd2 he kp =>
    exfalso
    rcases hd2 with hd2 | hd2
    · cases hd2
    · rw [hn, hR, hli] at hd2
      omega
  | old k2 p i l r hk2 hc hl2 =>
    obtain rfl : k = k2 := by omega
    rw [hl] at hl2
    cases hl2
  | new k2 p b hk2 hc hl2 he so hcp nl kp =>
    obtain rfl : k = k2 := by omega
    obtain ⟨x', t', fr', h', hN, so', sm, hfb, nb, htn, hxn⟩ := so
    cases hN with
    | here j l hj hz hp => rw [hf j hj] at hp; cases hp
    | grew hz hd2 hle hbt hp hfr =>
      subst hbt
      have hp0 : p = 0 := by rw [hp]; omega
      subst hp0
      rw [if_pos rfl] at hxn
      refine ⟨?_, ⟨x', t', fr', h', so', v.new hk, fun y hy => ⟨Nat.lt_of_lt_of_le (hE y hy).1 kp.size, fun e => e.elim (fun e => (nb y e).elim (fun e => (hE y hy).2 (.inl e)) (fun e => absurd (hE y hy).1 (Nat.not_lt.2 e))) (fun e => (hE y hy).2 (.inr e))⟩, ?_, ?_, ?_, ?_, ?_, ?_, ?_⟩, kp.mono (fun y _ hy => ⟨fun e => (hE y e).2 hy, ?_⟩)⟩
      · rw [he, show caN x 0 k 0 = 65536 by unfold caN; rw [hb]; omega]
        rfl
      · exact sm.base.trans hb
      · exact sm.lim.trans hli
      · exact sm.o.trans ho
      · exact sm.R.trans hR
      · rw [hxn, hn, hR]
      · rw [hfr, ← hp]
        unfold cutF
        rw [if_pos (by omega), h0]
      · rw [hfr]
        unfold cutF
        rw [if_neg (by omega), h1]
      · rcases hy with hy | rfl
        · exact o.sw.pl.nw y (.inl hy)
        · exact o.sw.nw
/-- A page lies free. -/
theorem KS7.here {w W E sb lw n p f0 f1 ls S} (s : KS7 w W E sb lw n (p :: f0) f1 ls S) (k : Nat) (hk : k < 8) (hl : S.pl k = []) (d : Bool) :
    Calls Tryz.prog 9 #[.pointer (some ⟨sb, 0, none⟩), .int .i64 (k : Int), .bool d] W fun e w' => e = .returned (.tuple #[.int .u64 ((65536 + 4096 * p : Nat) : Int), .bool false, .int .i64 0]) ∧ KS7 w w' E sb lw n (M.dropL (p :: f0) p) f1 (ls ++ [(p, 0)]) (takS (freS S p k) p k (List.range' 1 (ncl k - 1))) ∧ Kept (fun y => ¬ E y ∧ w.heap.size ≤ y) W w' := by
  obtain ⟨x, t, fr, h, o, v, hE, hb, hli, ho, hR, hn, h0, h1⟩ := s
  refine (Take_any o (k : Int) d).mono fun e w' hT => ?_
  cases hT with
  | bad hc => exact absurd ⟨by omega, by omega⟩ hc
  | stuck k2 hk2 hc hl2 hz hd2 he kp =>
    have := hz 0 (Nat.zero_le _)
    rw [h0] at this
    cases this
  | old k2 q i l r hk2 hc hl2 =>
    obtain rfl : k = k2 := by omega
    rw [hl] at hl2
    cases hl2
  | new k2 q b hk2 hc hl2 he so hcp nl kp =>
    obtain rfl : k = k2 := by omega
    obtain ⟨x', t', fr', h', hN, so', sm, hfb, nb, htn, hxn⟩ := so
    cases hN with
    | grew hz =>
      have := hz 0 (Nat.zero_le _)
      rw [h0] at this
      cases this
    | here j l hj hz hp hbt hfr =>
      have hj0 : j = 0 := by
        rcases Nat.eq_zero_or_pos j with e | e
        · exact e
        · have := hz 0 e
          rw [h0] at this
          cases this
      subst hj0 hbt
      rw [h0] at hp
      injection hp with hp hp2
      subst hp
      rw [if_neg (by decide)] at hxn
      refine ⟨?_, ⟨x', t', fr', h', so', v.new hk, fun y hy => ⟨Nat.lt_of_lt_of_le (hE y hy).1 kp.size, fun e => e.elim (fun e => (nb y e).elim (fun e => (hE y hy).2 (.inl e)) (fun e => absurd (hE y hy).1 (Nat.not_lt.2 e))) (fun e => (hE y hy).2 (.inr e))⟩, sm.base.trans hb, sm.lim.trans hli, sm.o.trans ho, sm.R.trans hR, hxn.trans hn, ?_, ?_⟩, kp.mono (fun y _ hy => ⟨fun e => (hE y e).2 hy, ?_⟩)⟩
      · rw [he, show caN x p k 0 = 65536 + 4096 * p by unfold caN; rw [hb]; omega]
      · rw [hfr]
        unfold cutF frU
        rw [if_neg (by omega), if_pos rfl, h0]
      · rw [hfr]
        unfold cutF frU
        rw [if_neg (by omega), if_neg (by decide)]
        exact h1
      · rcases hy with hy | rfl
        · exact o.sw.pl.nw y (.inl hy)
        · exact o.sw.nw
/-- A cell lies free. -/
theorem KS7.old {w W E sb lw n f0 f1 ls S} (s : KS7 w W E sb lw n f0 f1 ls S) (k : Nat) (hk : k < 8) {p i : Nat} {l r : List Nat} (hl : S.pl k = p :: l) (hf : S.fl p = i :: r) (d : Bool) :
    Calls Tryz.prog 9 #[.pointer (some ⟨sb, 0, none⟩), .int .i64 (k : Int), .bool d] W fun e w' => e = .returned (.tuple #[.int .u64 ((65536 + 4096 * p + i * szC k : Nat) : Int), .bool false, .int .i64 0]) ∧ KS7 w w' E sb lw n f0 f1 ls (takS S p k r) ∧ Kept (fun y => ¬ E y ∧ w.heap.size ≤ y) W w' := by
  obtain ⟨x, t, fr, h, o, v, hE, hb, hli, ho, hR, hn, h0, h1⟩ := s
  refine (Take_any o (k : Int) d).mono fun e w' hT => ?_
  cases hT with
  | bad hc => exact absurd ⟨by omega, by omega⟩ hc
  | stuck k2 hk2 hc hl2 =>
    obtain rfl : k = k2 := by omega
    rw [hl] at hl2
    cases hl2
  | new k2 q b hk2 hc hl2 =>
    obtain rfl : k = k2 := by omega
    rw [hl] at hl2
    cases hl2
  | old k2 q j l2 r2 hk2 hc hl2 hf2 he so kp =>
    obtain rfl : k = k2 := by omega
    rw [hl] at hl2
    injection hl2 with e1 e2
    subst e1
    rw [hf] at hf2
    injection hf2 with e3 e4
    subst e3 e4
    obtain ⟨P, m', h', so', hm⟩ := so
    refine ⟨?_, ⟨_, _, fr, h', so', Lve.old o v hk hl hf, fun y hy => ⟨Nat.lt_of_lt_of_le (hE y hy).1 kp.size, (hE y hy).2⟩, hb, hli, ho, hR, hn, h0, h1⟩, kp.mono (fun y _ hy => ⟨fun e => (hE y e).2 hy, ?_⟩)⟩
    · rw [he, show caN x p k i = 65536 + 4096 * p + i * szC k by unfold caN; rw [hb]]
    · rcases hy with hy | rfl
      · exact o.sw.pl.nw y (.inl hy)
      · exact o.sw.nw
/-- Is there a live cell at an address? -/
def Lv7 (S : Sb) (a g k i : Nat) : Prop := S.c g = some k ∧ i < ncl k ∧ i ∉ S.fl g ∧ a = 65536 + 4096 * g + i * szC k
theorem KS7.give_no {w W E sb lw n f0 f1 ls S} (s : KS7 w W E sb lw n f0 f1 ls S) (a : Nat) (ha : a < 18446744073709551616) (hn : ∀ g k i, ¬ Lv7 S a g k i) :
    Calls Tryz.prog 13 #[.pointer (some ⟨sb, 0, none⟩), .int .u64 (a : Int)] W fun e w' => e = .returned (.int .i64 1) ∧ KS7 w w' E sb lw n f0 f1 ls S ∧ Kept none' W w' := by
  obtain ⟨x, t, fr, h, o, v, hE, r⟩ := s
  have hv : livS x t a = false := by
    cases e : livS x t a with
    | false => rfl
    | true =>
      obtain ⟨g, k, i, h1, h2, h3, h4⟩ := o.liv_of ha e
      exact absurd ⟨h1, h2, h3, by rw [h4]; unfold caN; rw [r.1]⟩ (hn g k i)
  refine (Give7_no o.sw a ha hv).mono ?_
  rintro e w' ⟨rfl, kp⟩
  exact ⟨rfl, ⟨x, t, fr, h, o.keep kp, v, fun y hy => ⟨Nat.lt_of_lt_of_le (hE y hy).1 kp.size, (hE y hy).2⟩, r⟩, kp⟩
theorem KS7.size_no {w W E sb lw n f0 f1 ls S} (s : KS7 w W E sb lw n f0 f1 ls S) (a : Nat) (ha : a < 18446744073709551616) (hn : ∀ g k i, ¬ Lv7 S a g k i) :
    Calls Tryz.prog 12 #[.pointer (some ⟨sb, 0, none⟩), .int .u64 (a : Int)] W fun e w' => e = .returned (.int .u64 0) ∧ KS7 w w' E sb lw n f0 f1 ls S ∧ Kept none' W w' := by
  obtain ⟨x, t, fr, h, o, v, hE, r⟩ := s
  have hv : livS x t a = false := by
    cases e : livS x t a with
    | false => rfl
    | true =>
      obtain ⟨g, k, i, h1, h2, h3, h4⟩ := o.liv_of ha e
      exact absurd ⟨h1, h2, h3, by rw [h4]; unfold caN; rw [r.1]⟩ (hn g k i)
  refine (Size_no o.sw a ha hv).mono ?_
  rintro e w' ⟨rfl, kp⟩
  exact ⟨rfl, ⟨x, t, fr, h, o.keep kp, v, fun y hy => ⟨Nat.lt_of_lt_of_le (hE y hy).1 kp.size, (hE y hy).2⟩, r⟩, kp⟩
theorem KS7.size_yes {w W E sb lw n f0 f1 ls S} (s : KS7 w W E sb lw n f0 f1 ls S) {a g k i : Nat} (hl : Lv7 S a g k i) :
    Calls Tryz.prog 12 #[.pointer (some ⟨sb, 0, none⟩), .int .u64 (a : Int)] W fun e w' => e = .returned (.int .u64 ((szC k : Nat) : Int)) ∧ KS7 w w' E sb lw n f0 f1 ls S ∧ Kept none' W w' := by
  obtain ⟨x, t, fr, h, o, v, hE, r⟩ := s
  obtain ⟨h1, h2, h3, h4⟩ := hl
  obtain ⟨v1, v2, v3, v4, v5, v6⟩ := o.of_liv (p := a) (g := g) (k := k) (i := i) ⟨h1, h2, h3, by rw [h4]; unfold caN; rw [r.1]⟩
  have hcl := (o.si.pg g k h1).2.cl
  refine (Size_yes o.sw a v6 v1).mono ?_
  rintro e w' ⟨rfl, kp⟩
  refine ⟨?_, ⟨x, t, fr, h, o.keep kp, v, fun y hy => ⟨Nat.lt_of_lt_of_le (hE y hy).1 kp.size, (hE y hy).2⟩, r⟩, kp⟩
  rw [v4, hcl]
  rfl
theorem KS7.give_back {w W E sb lw n f0 f1 ls S} (s : KS7 w W E sb lw n f0 f1 ls S) {a g k i : Nat} (hl : Lv7 S a g k i) (hb : (S.fl g).length + 1 < ncl k) :
    Calls Tryz.prog 13 #[.pointer (some ⟨sb, 0, none⟩), .int .u64 (a : Int)] W fun e w' => e = .returned (.int .i64 0) ∧ KS7 w w' E sb lw n f0 f1 ls (givS S g k i) ∧ Kept (fun y => ¬ E y ∧ w.heap.size ≤ y) W w' := by
  obtain ⟨x, t, fr, h, o, v, hE, r⟩ := s
  obtain ⟨h1, h2, h3, h4⟩ := hl
  refine (Give7_yes o v a g k i ⟨h1, h2, h3, by rw [h4]; unfold caN; rw [r.1]⟩).mono ?_
  rintro e w' ⟨rfl, hG⟩
  cases hG with
  | rel hl2 => omega
  | back hl2 so kp =>
    obtain ⟨P, t', h', so', _⟩ := so
    refine ⟨rfl, ⟨_, t', fr, h', so', v.back h1 hb, fun y hy => ⟨Nat.lt_of_lt_of_le (hE y hy).1 kp.size, (hE y hy).2⟩, r⟩, kp.mono (fun y _ hy => ⟨fun e => (hE y e).2 hy, ?_⟩)⟩
    rcases hy with hy | rfl
    · exact o.sw.pl.nw y (.inl hy)
    · exact o.sw.nw
theorem KS7.give_rel {w W E sb lw n f0 f1 ls S} (s : KS7 w W E sb lw n f0 f1 ls S) {a g k i : Nat} (hl : Lv7 S a g k i) (hb : (S.fl g).length + 1 = ncl k) {g0 g1 : List Nat} (hj : ∀ fr, fr 0 = f0 → fr 1 = f1 → giveF 1 fr g 0 0 = g0 ∧ giveF 1 fr g 0 1 = g1) :
    Calls Tryz.prog 13 #[.pointer (some ⟨sb, 0, none⟩), .int .u64 (a : Int)] W fun e w' => e = .returned (.int .i64 0) ∧ KS7 w w' E sb lw n g0 g1 (dropR ls g) (relS S g k) ∧ Kept (fun y => ¬ E y ∧ w.heap.size ≤ y) W w' := by
  obtain ⟨x, t, fr, h, o, v, hE, hba, hli, ho, hR, hn, h0, h1⟩ := s
  obtain ⟨l1, l2, l3, l4⟩ := hl
  refine (Give7_yes o v a g k i ⟨l1, l2, l3, by rw [l4]; unfold caN; rw [hba]⟩).mono ?_
  rintro e w' ⟨rfl, hG⟩
  cases hG with
  | back hl2 => omega
  | rel hl2 so =>
    obtain ⟨P, t', h', so', _, _, kp⟩ := so
    have hg : giveF x.o fr g 0 = giveF 1 fr g 0 := by rw [ho]
    rw [hg] at so'
    refine ⟨rfl, ⟨_, t', _, h', so', v.rel g k, fun y hy => ⟨Nat.lt_of_lt_of_le (hE y hy).1 kp.size, (hE y hy).2⟩, hba, hli, ho, hR, hn, (hj fr h0 h1).1, (hj fr h0 h1).2⟩, kp.mono (fun y _ hy => ⟨fun e => (hE y e).2 hy, ?_⟩)⟩
    rcases hy with hy | rfl
    · exact o.sw.pl.nw y (.inl hy)
    · exact o.sw.nw
end Go.Proofs.YtocpnddacdpnmaaGreatDoor
