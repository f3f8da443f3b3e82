import Derived.Test.YtgjapopddblpoaaGreatDoorRk
/- HeapKnown: Free, Stats, Realloc, bytes, Trim, Calloc at known states. -/
namespace Go.Proofs.YtgjapopddblpoaaGreatDoor
open Go.RowKit
set_option linter.unusedVariables false

section
variable {w W W' : World} {hb n : Nat} {f0 f1 : List Nat} {ls : List (Nat × Nat)} {S : Sb} {v : Bool}
/-- A live block by numbers alone. -/
def Lk8 (ls : List (Nat × Nat)) (S : Sb) (p z : Nat) : Prop := (∃ g k i, S.c g = some k ∧ i < ncl k ∧ i ∉ S.fl g ∧ p = 65536 + 4096 * g + i * szC k ∧ z = szC k) ∨ (∃ q k, (q, k) ∈ ls ∧ S.c q = none ∧ p = 65536 + 4096 * q ∧ z = 4096 * 2 ^ k)
theorem Lk8.iff {x : Bx} (hb0 : x.base = 65536) {p z : Nat} : Lth x ls S p z ↔ Lk8 ls S p z := by
  unfold Lth Lk8 Liv caN ad
  rw [hb0]
  constructor
  · rintro (⟨g, k, i, ⟨h1, h2, h3, h4⟩, h5⟩ | h)
    · exact .inl ⟨g, k, i, h1, h2, h3, h4, h5⟩
    · exact .inr h
  · rintro (⟨g, k, i, h1, h2, h3, h4, h5⟩ | h)
    · exact .inl ⟨g, k, i, ⟨h1, h2, h3, h4⟩, h5⟩
    · exact .inr h
theorem KH.free_nil (s : KH w W hb n f0 f1 ls S v) :
    Calls Tryz.prog 14 #[.pointer (some ⟨hb, 0, none⟩), .int .u64 0] W fun e w' => e = .returned (.int .i64 0) ∧ KH w w' hb n f0 f1 ls S v := by
  have s0 := s
  obtain ⟨sb, lw, x, t, fr, H, r⟩ := s
  refine (Free_h H 0 (by decide)).mono ?_
  rintro e w' ⟨er, rfl, hF⟩
  cases hF with
  | nil hp he kp => subst he; exact ⟨rfl, s0.keep kp⟩
  | bad hp => exact absurd rfl hp
  | ok z hp => exact absurd rfl hp
theorem KH.free_bad (s : KH w W hb n f0 f1 ls S v) (p : Nat) (hp : p < 18446744073709551616) (h0 : p ≠ 0) (hl : ∀ c, ¬ Lk8 ls S p c) :
    Calls Tryz.prog 14 #[.pointer (some ⟨hb, 0, none⟩), .int .u64 (p : Int)] W fun e w' => e = .returned (.int .i64 1) ∧ KH w w' hb n f0 f1 ls S v := by
  have s0 := s
  obtain ⟨sb, lw, x, t, fr, H, hb0, r⟩ := s
  refine (Free_h H p hp).mono ?_
  rintro e w' ⟨er, rfl, hF⟩
  cases hF with
  | nil hp => exact absurd hp h0
  | bad hp hl he kp => subst he; exact ⟨rfl, s0.keep kp⟩
  | ok z hp h => exact absurd ((Lk8.iff hb0).1 h) (hl z)
theorem KH.free_odd (s : KH w W hb n f0 f1 ls S v) (p : Nat) (hp : p < 18446744073709551616) (h0 : p % 16 ≠ 0) :
    Calls Tryz.prog 14 #[.pointer (some ⟨hb, 0, none⟩), .int .u64 (p : Int)] W fun e w' => e = .returned (.int .i64 1) ∧ KH w w' hb n f0 f1 ls S v := by
  refine s.free_bad p hp (fun e => h0 (by rw [e])) (fun c h => ?_)
  rcases h with ⟨g, k, i, _, _, _, h4, _⟩ | ⟨q, k, _, _, h4, _⟩
  · unfold szC at h4
    rw [show i * (16 * 2 ^ k) = 16 * (i * 2 ^ k) by rw [Nat.mul_left_comm]] at h4
    omega
  · omega
theorem KH.free_cell (s : KH w W hb n f0 f1 ls S v) (p g k i : Nat) (h1 : S.c g = some k) (h2 : i < ncl k) (h3 : i ∉ S.fl g) (hp : p = 65536 + 4096 * g + i * szC k) (hp64 : p < 18446744073709551616) (hl : (S.fl g).length + 1 < ncl k) :
    Calls Tryz.prog 14 #[.pointer (some ⟨hb, 0, none⟩), .int .u64 (p : Int)] W fun e w' => e = .returned (.int .i64 0) ∧ KH w w' hb n f0 f1 ls (givS S g k i) false := by
  obtain ⟨sb, lw, x, t, fr, H, hb0, hli, ho, hR, hxn, hf0, hf1, hv⟩ := s
  have hlv : Liv x S p g k i := ⟨h1, h2, h3, by rw [hp]; unfold caN; rw [hb0]⟩
  have hk : k < 8 := by
    obtain ⟨h', o⟩ := H.so
    exact (o.si.pg g k h1).1
  refine (Free_h H p hp64).mono ?_
  rintro e w' ⟨er, rfl, hF⟩
  cases hF with
  | nil hp0 => omega
  | bad hp0 hl2 => exact absurd (.inl ⟨g, k, i, hlv, rfl⟩) (hl2 (szC k))
  | ok z hp0 hl2 he hG =>
    subst he
    obtain ⟨x', t', fr', ls', S', gd, nx, hL, hn⟩ := hG
    obtain ⟨h', o⟩ := H.so
    have hz : z = szC k := by
      rcases o.two hl2 (.inl ⟨g, k, i, hlv, rfl⟩) with ⟨_, e⟩ | e | e
      · exact e
      · have := (o.span hl2).1
        omega
      · have := szC_le hk
        omega
    cases gd with
    | back g2 k2 i2 hv2 hz2 hl3 e1 e2 e3 =>
      obtain ⟨a1, a2, a3, a4⟩ := hv2
      obtain ⟨c1, c2, c3⟩ := o.cell_ne h1 h2 a1 a2 (by rw [← a4]; exact hlv.2.2.2.symm)
      subst c1 c2 c3 e1 e2 e3
      exact ⟨rfl, KH.nx hb0 hli ho hR nx (hn.trans hxn) hf0 hf1⟩
    | rel g2 k2 i2 hv2 hz2 hl3 e1 e2 e3 =>
      obtain ⟨a1, a2, a3, a4⟩ := hv2
      obtain ⟨c1, c2, c3⟩ := o.cell_ne h1 h2 a1 a2 (by rw [← a4]; exact hlv.2.2.2.symm)
      subst c1 c2 c3
      omega
    | pages q k2 hm hc hp2 hz2 => exact absurd (hz.symm.trans hz2) (szC_pg hk)
/-- Pages are given back. -/
theorem KH.free_pages (s : KH w W hb n f0 f1 ls S true) (p q : Nat) (hm : (q, 0) ∈ ls) (hc : S.c q = none) (hp : p = 65536 + 4096 * q) (hp64 : p < 18446744073709551616) {g0 g1 : List Nat} (hj : ∀ fr, fr 0 = f0 → fr 1 = f1 → giveF 1 fr q 0 0 = g0 ∧ giveF 1 fr q 0 1 = g1) (hL0 : Lk8 ls S 65536 16) (hq : p ≠ 65536) :
    Calls Tryz.prog 14 #[.pointer (some ⟨hb, 0, none⟩), .int .u64 (p : Int)] W fun e w' => e = .returned (.int .i64 0) ∧ KH w w' hb n g0 g1 (dropR ls q) S true := by
  obtain ⟨sb, lw, x, t, fr, H, hb0, hli, ho, hR, hxn, hf0, hf1, hv⟩ := s
  have hl : Lth x ls S p (4096 * 2 ^ 0) := .inr ⟨q, 0, hm, hc, by rw [hp]; unfold ad; rw [hb0], rfl⟩
  refine (Free_h H p hp64).mono ?_
  rintro e w' ⟨er, rfl, hF⟩
  cases hF with
  | nil hp0 => omega
  | bad hp0 hl2 => exact absurd hl (hl2 _)
  | ok z hp0 hl2 he hG =>
    subst he
    obtain ⟨x', t', fr', ls', S', gd, nx, hL, hn⟩ := hG
    obtain ⟨h', o⟩ := H.so
    have hz : z = 4096 * 2 ^ 0 := by
      rcases o.two hl2 hl with ⟨_, e⟩ | e | e
      · exact e
      · have := (o.span hl2).1
        omega
      · omega
    have hL1 := (Lk8.iff hb0).2 hL0
    have hL2 := (hL 65536 16).2 ⟨hL1, hq.symm⟩
    cases gd with
    | back g2 k2 i2 hv2 hz2 hl3 e1 e2 e3 => exact absurd (hz2.symm.trans hz) (szC_pg (o.si.pg g2 k2 hv2.1).1)
    | rel g2 k2 i2 hv2 hz2 hl3 e1 e2 e3 => exact absurd (hz2.symm.trans hz) (szC_pg (o.si.pg g2 k2 hv2.1).1)
    | pages q2 k2 hm2 hc2 hp2 hz2 e1 e2 e3 =>
      have hk0 : k2 = 0 := pg_inj8 (hz2.symm.trans hz)
      have hqq : q2 = q := by
        unfold ad at hp2
        rw [hb0] at hp2
        omega
      subst hk0 hqq e1 e2 e3
      have hg := hj fr hf0 hf1
      rw [ho] at nx
      exact ⟨rfl, KH.nx5 hb0 hli ho hR (hv rfl) nx (hn.trans hxn) hg.1 hg.2 hL1 hL2⟩
/-- A block of two pages is shrunk to one. -/
theorem KH.shr (s : KH w W hb n f0 f1 ls S v) (p q sz : Nat) (hm : (q, 1) ∈ ls) (hc : S.c q = none) (hp : p = 65536 + 4096 * q) (hp64 : p < 18446744073709551616) (h1s : 2048 < sz) (hs : sz ≤ 4096) (d : Bool) :
    Calls Tryz.prog 15 #[.pointer (some ⟨hb, 0, none⟩), .int .u64 (p : Int), .int .u64 (sz : Int), .bool d] W fun e w' => e = tE (p : Int) 0 ∧ KH w w' hb n ((q + 1) :: f0) f1 (dropR ls q ++ [(q, 0)]) S false := by
  obtain ⟨sb, lw, x, t, fr, H, hb0, hli, ho, hR, hxn, hf0, hf1, hv⟩ := s
  have hl : Lth x ls S p (4096 * 2 ^ 1) := .inr ⟨q, 1, hm, hc, by rw [hp]; unfold ad; rw [hb0], rfl⟩
  have hcl : cl sz = 12 := cl_pow (by omega) (.inr (by omega))
  have hok : szOk x.o sz = true := decide_eq_true (by omega)
  obtain ⟨h', o⟩ := H.so
  have huni : ∀ z, Lth x ls S p z → z = 4096 * 2 ^ 1 := fun z hl2 => by
    rcases o.two hl2 hl with ⟨_, e⟩ | e | e
    · exact e
    · have := (o.span hl2).1
      omega
    · omega
  refine (Realloc_h H p sz hp64 (by omega) d sz (by omega)).mono ?_
  rintro e w' ⟨p', er, rfl, hR2⟩
  cases hR2 with
  | nil hp0 => omega
  | bad hp0 hl2 => exact absurd hl (hl2 _)
  | big z hp0 hl2 ho2 => rw [hok] at ho2; cases ho2
  | same hp0 ho2 hl2 =>
    have := huni _ hl2
    rw [hcl] at this
    omega
  | mov z hp0 ho2 hl2 hne h1 =>
    exfalso
    have := huni _ hl2
    rw [hcl] at h1
    omega
  | shr z hp0 ho2 hl2 h1 h2 hp' he hS =>
    subst hp' he
    obtain ⟨t', q2, k2, j2, m1, m2, m3, m4, m5, m6, nx, hL, hn⟩ := hS
    have hk1 : k2 = 1 := by
      have := huni _ hl2
      exact pg_inj8 (m4.symm.trans this)
    have hj0 : j2 = 0 := by
      rw [hcl] at m5
      exact (pg_inj8 (show 4096 * 2 ^ j2 = 4096 * 2 ^ 0 by rw [← m5])).symm ▸ rfl
    have hqq : q2 = q := by
      unfold ad at m3
      rw [hb0] at m3
      omega
    subst hk1 hj0 hqq
    refine ⟨rfl, KH.nx hb0 hli ho hR nx hxn ?_ ?_⟩
    · unfold cutF
      rw [if_pos (by omega), hf0]
    · unfold cutF
      rw [if_neg (by omega), hf1]
theorem KH.wi {x : Bx} {t : Bt} {fr : Nat → List Nat} {sb lw : Nat} (H : HW w W hb sb lw x t fr ls S 0) (hb0 : x.base = 65536) (hL0 : Lk8 ls S 65536 16) {p k : Nat} (h1 : 65536 ≤ p) (h2 : p < 65552) {l : Bool} (hw : WiP x ls S p k l) : l = decide (p + k ≤ 65552) := by
  obtain ⟨h', o⟩ := H.so
  have hl := (Lk8.iff hb0).2 hL0
  rcases hw with ⟨rfl, a, z, l1, l2, l3, l4⟩ | ⟨rfl, hn⟩
  · rcases o.two l1 hl with ⟨e1, e2⟩ | e | e
    · rw [decide_eq_true (by omega)]
    · omega
    · omega
  · rw [decide_eq_false]
    intro e
    exact hn _ _ hl ⟨h1, by omega, by omega⟩
theorem KH.storeWord (s : KH w W hb n f0 f1 ls S v) (hL0 : Lk8 ls S 65536 16) :
    Calls Tryz.prog 16 #[.pointer (some ⟨hb, 0, none⟩), .int .u64 65544, .int .u64 5] W fun e w' => e = .returned (.int .i64 0) ∧ KH w w' hb n f0 f1 ls S true := by
  obtain ⟨sb, lw, x, t, fr, H, hb0, hli, ho, hR, hxn, hf0, hf1, hv⟩ := s
  refine (StoreWord_h H 65544 5 (by decide) (by decide)).mono ?_
  rintro e w' ⟨er, rfl, ⟨rfl, hw, wr⟩ | ⟨rfl, hw, kp⟩⟩
  · refine ⟨rfl, sb, lw, x, _, fr, wr.1, hb0, hli, ho, hR, hxn, hf0, hf1, fun _ => ?_⟩
    show M.upd t.f (65544 - x.base) 8 (M.byteOf 5) 8 = 5
    rw [hb0]
    rfl
  · have := KH.wi H hb0 hL0 (by decide) (by decide) hw
    cases this
theorem KH.load (s : KH w W hb n f0 f1 ls S true) (hL0 : Lk8 ls S 65536 16) :
    Calls Tryz.prog 17 #[.pointer (some ⟨hb, 0, none⟩), .int .u64 65544] W fun e w' => e = .returned (.tuple #[.int .u8 5, .int .i64 0]) ∧ KH w w' hb n f0 f1 ls S true := by
  have s0 := s
  obtain ⟨sb, lw, x, t, fr, H, hb0, hli, ho, hR, hxn, hf0, hf1, hv⟩ := s
  refine (Load_h H 65544 (by decide)).mono ?_
  rintro e w' ⟨v, er, rfl, ⟨rfl, hw, rfl⟩ | ⟨rfl, hw, _⟩, kp⟩
  · refine ⟨?_, s0.keep kp⟩
    rw [hb0, show 65544 - 65536 = 8 from rfl, hv rfl]
    rfl
  · have := KH.wi H hb0 hL0 (by decide) (by decide) hw
    cases this
theorem KH.loadWord (s : KH w W hb n f0 f1 ls S v) (hL0 : Lk8 ls S 65536 16) :
    Calls Tryz.prog 18 #[.pointer (some ⟨hb, 0, none⟩), .int .u64 65545] W fun e w' => e = .returned (.tuple #[.int .u64 0, .int .i64 4]) ∧ KH w w' hb n f0 f1 ls S v := by
  have s0 := s
  obtain ⟨sb, lw, x, t, fr, H, hb0, hli, ho, hR, hxn, hf0, hf1, hv⟩ := s
  refine (LoadWord_h H 65545 (by decide)).mono ?_
  rintro e w' ⟨v, er, rfl, ⟨rfl, hw, rfl⟩ | ⟨rfl, hw, rfl⟩, kp⟩
  · have := KH.wi H hb0 hL0 (by decide) (by decide) hw
    cases this
  · exact ⟨rfl, s0.keep kp⟩
theorem KH.aligned_bad (s : KH w W hb n f0 f1 ls S v) (al sz : Nat) (ha : al < 18446744073709551616) (hs : sz < 18446744073709551616) (d : Bool) (hp : isP al = false) :
    Calls Tryz.prog 12 #[.pointer (some ⟨hb, 0, none⟩), .int .u64 (al : Int), .int .u64 (sz : Int), .bool d] W fun e w' => e = tE 0 1 ∧ KH w w' hb n f0 f1 ls S v := by
  have s0 := s
  obtain ⟨sb, lw, x, t, fr, H, r⟩ := s
  refine (Aligned_bad H al sz ha hs d hp).mono ?_
  rintro e w' ⟨rfl, kp⟩
  exact ⟨rfl, s0.keep kp⟩
/-- The upper region goes. -/
theorem KH.trim (s : KH w W hb 16384 [] [2] ls S true) (hL0 : Lk8 ls S 65536 16) :
    Calls Tryz.prog 19 #[.pointer (some ⟨hb, 0, none⟩)] W fun e w' => e = .returned (.int .i64 1) ∧ KH w w' hb 8192 [] [] ls S true := by
  obtain ⟨sb, lw, x, t, fr, H, hb0, hli, ho, hR, hxn, hf0, hf1, hv⟩ := s
  have hpg := KH.pages H hxn
  have htr : trF x.o 2 fr = (1, frU fr 1 []) := by
    rw [ho, trF_yes (by rw [hf1]; decide)]
    have h2 : ¬ 0 * 2 ^ 1 ∈ (frU fr 1 (M.dropL (fr 1) (1 * 2 ^ 1))) 1 := by
      unfold frU
      rw [if_pos rfl, hf1]
      decide
    rw [trF_no (r := 0) h2, hf1]
    rfl
  refine (Trim_h H (r := 2) (by rw [ho]; omega)).mono ?_
  rintro e w' ⟨rfl, x', t', nx, htn⟩
  rw [htr] at nx htn ⊢
  have hL1 := (Lk8.iff hb0).2 hL0
  refine ⟨rfl, KH.nx5 hb0 hli ho hR (hv rfl) nx ?_ ?_ ?_ hL1 ((Lk8.iff (nx.ch.base.trans hb0)).2 hL0)⟩
  · have h2 := KH.pages nx.H rfl
    rw [htn, ho] at h2
    omega
  · show (if (0 : Nat) = 1 then [] else fr 0) = []
    rw [if_neg (by decide), hf0]
  · show (if (1 : Nat) = 1 then [] else fr 1) = []
    rw [if_pos rfl]
theorem KH.calloc_old (s : KH w W hb n f0 f1 ls S v) (a b : Nat) (hab : a * b ≤ 16) (ha : a < 18446744073709551616) (hb2 : b < 18446744073709551616) (d : Bool) {g i : Nat} {l rr : List Nat} (hl : S.pl 0 = g :: l) (hf : S.fl g = i :: rr) :
    Calls Tryz.prog 20 #[.pointer (some ⟨hb, 0, none⟩), .int .u64 (a : Int), .int .u64 (b : Int), .bool d] W fun e w' => e = tE ((65536 + 4096 * g + i * 16 : Nat) : Int) 0 ∧ Kept none' w w' := by
  obtain ⟨sb, lw, x, t, fr, H, hb0, hli, ho, hR, hxn, hf0, hf1, hv⟩ := s
  have hcl : cl 16 = 4 := cl_pow (by decide) (.inr (by decide))
  refine (Calloc_h H a b ha hb2 d (by omega) 16 (by omega)).mono ?_
  rintro e w' ⟨p, er, rfl, hC⟩
  have hnf : ¬ NF x fr S (2 ^ cl 16) := fun e => by
    rw [hcl] at e
    have := ((NF.cell (k := 0) (by decide)).1 e).1
    rw [hl] at this
    cases this
  cases hC with
  | big h1 =>
    exfalso
    have := of_decide_eq_false h1
    rw [hcl] at this
    omega
  | no h1 hp he nf => exact absurd nf hnf
  | yes h1 x' t' fr' ls' S' b2 he td nx =>
    subst he
    rw [hcl] at td
    cases td with
    | here k2 g2 j l hk2 hr => exact absurd hr (szC_pg (k := 0) (by decide))
    | grew k2 hk2 hr => exact absurd hr (szC_pg (k := 0) (by decide))
    | new k2 g2 hk2 hr hl2 =>
      have e0 : (0 : Nat) = k2 := szC_inj8 hr
      subst e0
      rw [hl] at hl2
      cases hl2
    | old k2 g2 i2 l2 rr2 hk2 hr hl2 hf2 hp =>
      have e0 : (0 : Nat) = k2 := szC_inj8 hr
      subst e0
      rw [hl] at hl2
      injection hl2 with a1 a2
      subst a1
      rw [hf] at hf2
      injection hf2 with a3 a4
      subst a3
      refine ⟨?_, nx.H.po.pl.kp⟩
      rw [hp]
      unfold caN
      rw [hb0]
      rfl
theorem HW.pl_slab {x : Bx} {t : Bt} {fr : Nat → List Nat} {sb lw : Nat} {s : Int} (H : HW w W hb sb lw x t fr ls S s) {g k : Nat} (hc : S.c g = some k) : plL (t.m.pg g) = (ncl k - (S.fl g).length) * szC k ∧ plB (t.m.pg g) = ncl k - (S.fl g).length ∧ plF (t.m.pg g) = 0 := by
  obtain ⟨h', o⟩ := H.so
  obtain ⟨hk, sp⟩ := o.si.pg g k hc
  refine ⟨?_, ?_, ?_⟩
  · unfold plL
    rw [sp.kd, if_neg (by decide), if_pos rfl, sp.lv, sp.cl, Int.toNat_natCast, Int.toNat_natCast]
  · unfold plB
    rw [sp.kd, if_neg (by decide), if_pos rfl, sp.lv, Int.toNat_natCast]
  · unfold plF
    rw [sp.kd, if_neg (by decide)]
theorem HW.pl_big {x : Bx} {t : Bt} {fr : Nat → List Nat} {sb lw : Nat} {s : Int} (H : HW w W hb sb lw x t fr ls S s) {q k g : Nat} (hm : (q, k) ∈ ls) (hc : S.c q = none) (h1 : q ≤ g) (h2 : g < q + 2 ^ k) : plL (t.m.pg g) = (if g = q then 4096 * 2 ^ k else 0) ∧ plB (t.m.pg g) = (if g = q then 1 else 0) ∧ plF (t.m.pg g) = 0 := by
  obtain ⟨h', o⟩ := H.so
  have hg := o.big_none hm hc h1 h2
  have hal := (o.al hm).2.2
  have hpg : t.m.pg g = blankP (if g = q then 2 else 3) (k : Int) := by
    obtain ⟨B, sd, hN, hL⟩ := o.sf
    have hp := sd.pg 2 q k ((hL q k).2 hm) (by decide) g h1 h2
    rw [o.si.eP, pOf_none hg, Option.getD_none] at hp
    exact hp
  rw [hpg]
  by_cases e : g = q
  · rw [if_pos e, if_pos e, if_pos e]
    exact ⟨rfl, rfl, rfl⟩
  · rw [if_neg e, if_neg e, if_neg e]
    exact ⟨rfl, rfl, rfl⟩
/-- Stats of two pages of cells. -/
theorem KH.stats2 (s : KH w W hb 8192 f0 f1 ls S v) (k0 k1 : Nat) (h0 : S.c 0 = some k0) (h1 : S.c 1 = some k1) (L B : Nat) (hL : L = (ncl k0 - (S.fl 0).length) * szC k0 + (ncl k1 - (S.fl 1).length) * szC k1) (hB : B = ncl k0 - (S.fl 0).length + (ncl k1 - (S.fl 1).length)) :
    Calls Tryz.prog 13 #[.pointer (some ⟨hb, 0, none⟩)] W fun e w' => e = .returned (stV 8192 L B 0) ∧ KH w w' hb 8192 f0 f1 ls S v := by
  have s0 := s
  obtain ⟨sb, lw, x, t, fr, H, hb0, hli, ho, hR, hxn, hf0, hf1, hv⟩ := s
  have hpg := KH.pages H hxn
  have h2 : t.m.n = 2 := by omega
  obtain ⟨a1, a2, a3⟩ := H.pl_slab h0
  obtain ⟨b1, b2, b3⟩ := H.pl_slab h1
  refine (Stats_h H).mono ?_
  rintro e w' ⟨rfl, kp⟩
  refine ⟨?_, s0.keep kp⟩
  rw [h2, hxn, show stS plL t.m 2 = L by show 0 + plL (t.m.pg 0) + plL (t.m.pg 1) = L; rw [a1, b1]; omega, show stS plB t.m 2 = B by show 0 + plB (t.m.pg 0) + plB (t.m.pg 1) = B; rw [a2, b2]; omega, show stS plF t.m 2 = 0 by show 0 + plF (t.m.pg 0) + plF (t.m.pg 1) = 0; rw [a3, b3]]
/-- Stats of two pages of cells and a block of two pages. -/
theorem KH.stats4 (s : KH w W hb 16384 f0 f1 ls S v) (k0 k1 : Nat) (h0 : S.c 0 = some k0) (h1 : S.c 1 = some k1) (hm : (2, 1) ∈ ls) (hc : S.c 2 = none) (L B : Nat) (hL : L = (ncl k0 - (S.fl 0).length) * szC k0 + (ncl k1 - (S.fl 1).length) * szC k1 + 8192) (hB : B = ncl k0 - (S.fl 0).length + (ncl k1 - (S.fl 1).length) + 1) :
    Calls Tryz.prog 13 #[.pointer (some ⟨hb, 0, none⟩)] W fun e w' => e = .returned (stV 16384 L B 0) ∧ KH w w' hb 16384 f0 f1 ls S v := by
  have s0 := s
  obtain ⟨sb, lw, x, t, fr, H, hb0, hli, ho, hR, hxn, hf0, hf1, hv⟩ := s
  have hpg := KH.pages H hxn
  have h4 : t.m.n = 4 := by omega
  obtain ⟨a1, a2, a3⟩ := H.pl_slab h0
  obtain ⟨b1, b2, b3⟩ := H.pl_slab h1
  obtain ⟨c1, c2, c3⟩ := H.pl_big (g := 2) hm hc (by decide) (by decide)
  obtain ⟨d1, d2, d3⟩ := H.pl_big (g := 3) hm hc (by decide) (by decide)
  rw [if_pos rfl] at c1 c2
  rw [if_neg (by decide)] at d1 d2
  refine (Stats_h H).mono ?_
  rintro e w' ⟨rfl, kp⟩
  refine ⟨?_, s0.keep kp⟩
  rw [h4, hxn, show stS plL t.m 4 = L by show 0 + plL (t.m.pg 0) + plL (t.m.pg 1) + plL (t.m.pg 2) + plL (t.m.pg 3) = L; rw [a1, b1, c1, d1]; omega, show stS plB t.m 4 = B by show 0 + plB (t.m.pg 0) + plB (t.m.pg 1) + plB (t.m.pg 2) + plB (t.m.pg 3) = B; rw [a2, b2, c2, d2]; omega, show stS plF t.m 4 = 0 by show 0 + plF (t.m.pg 0) + plF (t.m.pg 1) + plF (t.m.pg 2) + plF (t.m.pg 3) = 0; rw [a3, b3, c3, d3]]
end
end Go.Proofs.YtgjapopddblpoaaGreatDoor
