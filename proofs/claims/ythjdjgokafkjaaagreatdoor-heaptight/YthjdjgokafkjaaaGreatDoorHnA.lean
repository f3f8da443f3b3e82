import Derived.Test.YthjdjgokafkjaaaGreatDoorHpK3
import Derived.Test.YthjdjgokafkjaaaGreatDoorHpJ2
import Derived.Test.YthjdjgokafkjaaaGreatDoorHpM
/- HeapKnown: a heap of {65536, 2, 1}, call by call. -/
namespace Go.Proofs.YthjdjgokafkjaaaGreatDoor
open Go.RowKit
set_option linter.unusedVariables false

/-- A heap of {65536, 2, 1}: its bytes, its lists, its live blocks, its cells; v: byte 8 is 5. -/
def KH (w W : World) (hb n : Nat) (f0 f1 : List Nat) (ls : List (Nat × Nat)) (S : Sb) (v : Bool) : Prop := ∃ sb lw x t fr, HW w W hb sb lw x t fr ls S 0 ∧ x.base = 65536 ∧ x.lim = 2 ∧ x.o = 1 ∧ x.R = 8192 ∧ x.n = n ∧ fr 0 = f0 ∧ fr 1 = f1 ∧ (v = true → t.f 8 = 5)
abbrev tE (p e : Int) : Ending := .returned (.tuple #[.int .u64 p, .int .i64 e])
theorem cl_pow {m k : Nat} (h1 : m ≤ 2 ^ k) (h2 : k = 0 ∨ 2 ^ (k - 1) < m) : cl m = k := by
  have a := (cl_spec m k).1 h1
  rcases h2 with rfl | h2
  · omega
  · rcases Nat.lt_or_ge (cl m) k with e | e
    · have b := (cl_spec m (k - 1)).2 (by omega)
      omega
    · omega
section
variable {w W W' : World} {hb n : Nat} {f0 f1 : List Nat} {ls : List (Nat × Nat)} {S : Sb} {v : Bool}
theorem KH.keep (s : KH w W hb n f0 f1 ls S v) (k : Kept none' W W') : KH w W' hb n f0 f1 ls S v := by
  obtain ⟨sb, lw, x, t, fr, H, r⟩ := s
  exact ⟨sb, lw, x, t, fr, H.keep k, r⟩
theorem KH.kp (s : KH w W hb n f0 f1 ls S v) : Kept none' w W := by
  obtain ⟨sb, lw, x, t, fr, H, r⟩ := s
  exact H.po.pl.kp
theorem lists1 {fr : Nat → List Nat} (h0 : fr 0 = []) (h1 : fr 1 = []) (k : Nat) : ∀ a, k ≤ a → a ≤ 1 → fr a = [] := fun a _ ha => by
  rcases (show a = 0 ∨ a = 1 by omega) with rfl | rfl
  · exact h0
  · exact h1
/-- A request too great. -/
theorem KH.big (s : KH w W hb n f0 f1 ls S v) (sz : Nat) (hs : sz < 18446744073709551616) (d : Bool) (h : 8192 < sz) :
    Calls Tryz.prog 10 #[.pointer (some ⟨hb, 0, none⟩), .int .u64 (sz : Int), .bool d] W fun e w' => e = tE 0 3 ∧ KH w w' hb n f0 f1 ls S v := by
  have s0 := s
  obtain ⟨sb, lw, x, t, fr, H, hb0, hl, ho, r⟩ := s
  refine (Malloc_h H sz hs d sz (by omega)).mono ?_
  rintro e w' ⟨p, er, rfl, hR⟩
  cases hR with
  | big h1 hp he kp => subst hp he; exact ⟨rfl, s0.keep kp⟩
  | ok h1 hT =>
    exfalso
    have h2 := of_decide_eq_true h1
    rw [ho] at h2
    have := (cl_spec sz 13).2 (by omega)
    omega
/-- What Malloc of a size that may be does. -/
theorem KH.mal {x : Bx} {t : Bt} {fr : Nat → List Nat} {sb lw : Nat} (H : HW w W hb sb lw x t fr ls S 0) (ho : x.o = 1) (sz : Nat) (hs : sz ≤ 8192) (d : Bool) (c : Nat) (hc : max sz 16 ≤ 2 ^ c) (hc2 : 2 ^ (c - 1) < max sz 16) :
    Calls Tryz.prog 10 #[.pointer (some ⟨hb, 0, none⟩), .int .u64 (sz : Int), .bool d] W fun e w' => ∃ p er, e = .returned (.tuple #[.int .u64 ((p : Nat) : Int), .int .i64 er]) ∧ Tq w W hb sb lw x t fr ls S 0 (2 ^ c) d p er w' := by
  have hcl : cl (max sz 16) = c := cl_pow hc (.inr hc2)
  refine (Malloc_h H sz (by omega) d _ rfl).mono ?_
  rintro e w' ⟨p, er, rfl, hR⟩
  cases hR with
  | ok h1 hT => rw [hcl] at hT; exact ⟨p, er, rfl, hT⟩
  | big h1 hp he kp =>
    exfalso
    have h2 := of_decide_eq_false h1
    rw [ho] at h2
    have := (cl_spec (max sz 16) 13).1 (by omega)
    omega
/-- No place. -/
theorem KH.mal_stuck (s : KH w W hb n [] [] ls S v) (sz : Nat) (hs : sz ≤ 8192) (d : Bool) (c : Nat) (hc : max sz 16 ≤ 2 ^ c) (hc2 : 2 ^ (c - 1) < max sz 16) (hd : d = true ∨ n = 16384) (hk : (∃ k, k < 8 ∧ 2 ^ c = szC k ∧ S.pl k = []) ∨ (∃ k, k ≤ 1 ∧ 2 ^ c = 4096 * 2 ^ k)) :
    Calls Tryz.prog 10 #[.pointer (some ⟨hb, 0, none⟩), .int .u64 (sz : Int), .bool d] W fun e w' => e = tE 0 2 ∧ KH w w' hb n [] [] ls S v := by
  have s0 := s
  obtain ⟨sb, lw, x, t, fr, H, hb0, hl, ho, hR, hn, h0, h1, hv⟩ := s
  refine (KH.mal H ho sz hs d c hc hc2).mono ?_
  rintro e w' ⟨p, er, rfl, hT⟩
  have hnf : NF x fr S (2 ^ c) := by
    rcases hk with ⟨k, k1, k2, k3⟩ | ⟨k, k1, k2⟩
    · exact .inl ⟨k, k1, k2, k3, fun a ha => lists1 h0 h1 0 a (Nat.zero_le _) (by omega)⟩
    · exact .inr ⟨k, by omega, k2, fun a h2 ha => lists1 h0 h1 k a h2 (by omega)⟩
  cases hT with
  | no hp he nf hd2 kp => subst hp he; exact ⟨rfl, s0.keep kp⟩
  | yes x' t' fr' ls' S' b he td nx hL hN hn2 hm hb1 hb2 =>
    exfalso
    cases b with
    | false => exact hb2 rfl hnf
    | true =>
      obtain ⟨_, e1, e2⟩ := hb1 rfl
      rcases hd with hd | hd
      · rw [hd] at e1; cases e1
      · rw [hn, hR, hl, hd] at e2
        omega
theorem KH.nx {x x' : Bx} {t t' : Bt} {fr' : Nat → List Nat} {sb lw : Nat} {ls' : List (Nat × Nat)} {S' : Sb} {n' : Nat} {f0' f1' : List Nat} (hb0 : x.base = 65536) (hl : x.lim = 2) (ho : x.o = 1) (hR : x.R = 8192) (nx : Nx w W W' hb sb lw x t ls S 0 x' t' fr' ls' S') (hn : x'.n = n') (h0 : fr' 0 = f0') (h1 : fr' 1 = f1') : KH w W' hb n' f0' f1' ls' S' false :=
  ⟨sb, lw, x', t', fr', nx.H, nx.ch.base.trans hb0, nx.ch.lim.trans hl, nx.ch.o.trans ho, nx.ch.R.trans hR, hn, h0, h1, fun e => by cases e⟩
theorem KH.nx5 {x x' : Bx} {t t' : Bt} {fr' : Nat → List Nat} {sb lw : Nat} {ls' : List (Nat × Nat)} {S' : Sb} {n' : Nat} {f0' f1' : List Nat} (hb0 : x.base = 65536) (hl : x.lim = 2) (ho : x.o = 1) (hR : x.R = 8192) (hv : t.f 8 = 5) (nx : Nx w W W' hb sb lw x t ls S 0 x' t' fr' ls' S') (hn : x'.n = n') (h0 : fr' 0 = f0') (h1 : fr' 1 = f1') (hL : Lth x ls S 65536 16) (hL' : Lth x' ls' S' 65536 16) : KH w W' hb n' f0' f1' ls' S' true :=
  ⟨sb, lw, x', t', fr', nx.H, nx.ch.base.trans hb0, nx.ch.lim.trans hl, nx.ch.o.trans ho, nx.ch.R.trans hR, hn, h0, h1, fun _ => (nx.ch.kb 8 ⟨65536, 16, hL, by omega, by omega⟩ ⟨65536, 16, hL', by rw [nx.ch.base]; omega, by rw [nx.ch.base]; omega⟩).trans hv⟩
theorem KH.pages {x : Bx} {t : Bt} {fr : Nat → List Nat} {sb lw : Nat} (H : HW w W hb sb lw x t fr ls S 0) (hn : x.n = n) : t.m.n * 4096 = n := by
  obtain ⟨h', o⟩ := H.so
  rw [← hn]
  exact o.st
/-- A cell of a page that comes with a region. -/
theorem KH.mal_grow (s : KH w W hb n [] [] ls S v) (g : Nat) (hg : g * 4096 = n) (sz : Nat) (hs : sz ≤ 8192) (c : Nat) (hc : max sz 16 ≤ 2 ^ c) (hc2 : 2 ^ (c - 1) < max sz 16) (k : Nat) (hk : k < 8) (hck : 2 ^ c = szC k) (hl : S.pl k = []) (hn : n + 8192 ≤ 16384) :
    Calls Tryz.prog 10 #[.pointer (some ⟨hb, 0, none⟩), .int .u64 (sz : Int), .bool false] W fun e w' => e = tE ((65536 + 4096 * g : Nat) : Int) 0 ∧ KH w w' hb (n + 8192) [g + 1] [] (ls ++ [(g, 0)]) (takS (freS S g k) g k (List.range' 1 (ncl k - 1))) false := by
  obtain ⟨sb, lw, x, t, fr, H, hb0, hli, ho, hR, hxn, h0, h1, hv⟩ := s
  have hpg := KH.pages H hxn
  refine (KH.mal H ho sz hs false c hc hc2).mono ?_
  rintro e w' ⟨p, er, rfl, hT⟩
  rw [hck] at hT
  have hz : ∀ a, a ≤ x.o → fr a = [] := fun a ha => lists1 h0 h1 0 a (Nat.zero_le _) (by omega)
  cases hT with
  | no hp he nf hd2 kp =>
    exfalso
    rcases hd2 with e | e
    · cases e
    · rw [hxn, hli, hR] at e
      omega
  | yes x' t' fr' ls' S' b he td nx hL hN hn2 hm hb1 hb2 =>
    subst he
    cases td with
    | old k2 g2 i l rr hk2 hr hl2 =>
      obtain rfl := szC_inj8 hr
      rw [hl] at hl2
      cases hl2
    | here k2 g2 j l hk2 hr => exact absurd hr (szC_pg hk)
    | grew k2 hk2 hr => exact absurd hr (szC_pg hk)
    | new k2 g2 hk2 hr hl2 hp nd e2 e3 =>
      obtain rfl := szC_inj8 hr
      cases nd with
      | here j l hj hz2 hp2 => rw [hz j hj] at hp2; cases hp2
      | grew hz2 hd2 hle hbt hp2 hfr =>
        obtain rfl : g2 = g := by omega
        subst hbt e2 e3
        rw [if_pos rfl] at hn2
        refine ⟨?_, KH.nx hb0 hli ho hR nx (by rw [hn2, hxn, hR]) ?_ ?_⟩
        · rw [hp]
          unfold caN
          rw [hb0, Nat.zero_mul, Nat.add_zero]
        · rw [hfr, ← hp2, ho]
          unfold cutF
          rw [if_pos (by omega), h0]
        · rw [hfr, ho]
          unfold cutF
          rw [if_neg (by omega), h1]
/-- A cell of a page that lies free. -/
theorem KH.mal_here {g : Nat} {l : List Nat} (s : KH w W hb n (g :: l) f1 ls S v) (sz : Nat) (hs : sz ≤ 8192) (d : Bool) (c : Nat) (hc : max sz 16 ≤ 2 ^ c) (hc2 : 2 ^ (c - 1) < max sz 16) (k : Nat) (hk : k < 8) (hck : 2 ^ c = szC k) (hl : S.pl k = []) :
    Calls Tryz.prog 10 #[.pointer (some ⟨hb, 0, none⟩), .int .u64 (sz : Int), .bool d] W fun e w' => e = tE ((65536 + 4096 * g : Nat) : Int) 0 ∧ KH w w' hb n (M.dropL (g :: l) g) f1 (ls ++ [(g, 0)]) (takS (freS S g k) g k (List.range' 1 (ncl k - 1))) false := by
  obtain ⟨sb, lw, x, t, fr, H, hb0, hli, ho, hR, hxn, h0, h1, hv⟩ := s
  refine (KH.mal H ho sz hs d c hc hc2).mono ?_
  rintro e w' ⟨p, er, rfl, hT⟩
  rw [hck] at hT
  have hnf : ¬ NF x fr S (szC k) := fun e => by
    have := ((NF.cell hk).1 e).2 0 (Nat.zero_le _)
    rw [h0] at this
    cases this
  cases hT with
  | no hp he nf hd2 kp => exact absurd nf hnf
  | yes x' t' fr' ls' S' b he td nx hL hN hn2 hm hb1 hb2 =>
    subst he
    cases td with
    | old k2 g2 i l2 rr hk2 hr hl2 =>
      obtain rfl := szC_inj8 hr
      rw [hl] at hl2
      cases hl2
    | here k2 g2 j l hk2 hr => exact absurd hr (szC_pg hk)
    | grew k2 hk2 hr => exact absurd hr (szC_pg hk)
    | new k2 g2 hk2 hr hl2 hp nd e2 e3 =>
      obtain rfl := szC_inj8 hr
      cases nd with
      | grew hz2 hd2 hle hbt hp2 hfr =>
        have := hz2 0 (Nat.zero_le _)
        rw [h0] at this
        cases this
      | here j l2 hj hz2 hp2 hbt hfr =>
        have hj0 : j = 0 := by
          rcases Nat.eq_zero_or_pos j with e | e
          · exact e
          · have := hz2 0 e
            rw [h0] at this
            cases this
        subst hj0 hbt e2 e3
        rw [h0] at hp2
        injection hp2 with hp2 hp3
        subst hp2
        rw [if_neg (by decide)] at hn2
        refine ⟨?_, KH.nx hb0 hli ho hR nx (hn2.trans hxn) ?_ ?_⟩
        · rw [hp]
          unfold caN
          rw [hb0, Nat.zero_mul, Nat.add_zero]
        · rw [hfr]
          unfold cutF frU
          rw [if_neg (by omega), if_pos rfl, h0]
        · rw [hfr]
          unfold cutF frU
          rw [if_neg (by omega), if_neg (by decide)]
          exact h1
theorem KH.tq_old {x : Bx} {t : Bt} {fr : Nat → List Nat} {sb lw k g i : Nat} {l rr : List Nat} {d : Bool} {p : Nat} {er : Int} (hk : k < 8) (hl : S.pl k = g :: l) (hf : S.fl g = i :: rr) (hT : Tq w W hb sb lw x t fr ls S 0 (szC k) d p er W') : er = 0 ∧ p = caN x g k i ∧ ∃ x' t', Nx w W W' hb sb lw x t ls S 0 x' t' fr ls (takS S g k rr) ∧ x'.n = x.n := by
  cases hT with
  | no hp he nf hd2 kp =>
    have := ((NF.cell hk).1 nf).1
    rw [hl] at this
    cases this
  | yes x' t' fr' ls' S' b he td nx hL hN hn2 hm hb1 hb2 =>
    cases td with
    | here k2 g2 j l hk2 hr => exact absurd hr (szC_pg hk)
    | grew k2 hk2 hr => exact absurd hr (szC_pg hk)
    | new k2 g2 hk2 hr hl2 =>
      obtain rfl := szC_inj8 hr
      rw [hl] at hl2
      cases hl2
    | old k2 g2 i2 l2 rr2 hk2 hr hl2 hf2 hp hbt e1 e2 e3 =>
      obtain rfl := szC_inj8 hr
      rw [hl] at hl2
      injection hl2 with a1 a2
      subst a1
      rw [hf] at hf2
      injection hf2 with a3 a4
      subst a3 a4 e1 e2 e3 hbt
      rw [if_neg (by decide)] at hn2
      exact ⟨he, hp, x', t', nx, hn2⟩
/-- A cell that lies free. -/
theorem KH.mal_old (s : KH w W hb n f0 f1 ls S v) (sz : Nat) (hs : sz ≤ 8192) (d : Bool) (c : Nat) (hc : max sz 16 ≤ 2 ^ c) (hc2 : 2 ^ (c - 1) < max sz 16) (k : Nat) (hk : k < 8) (hck : 2 ^ c = szC k) {g i : Nat} {l rr : List Nat} (hl : S.pl k = g :: l) (hf : S.fl g = i :: rr) :
    Calls Tryz.prog 10 #[.pointer (some ⟨hb, 0, none⟩), .int .u64 (sz : Int), .bool d] W fun e w' => e = tE ((65536 + 4096 * g + i * szC k : Nat) : Int) 0 ∧ KH w w' hb n f0 f1 ls (takS S g k rr) false := by
  obtain ⟨sb, lw, x, t, fr, H, hb0, hli, ho, hR, hxn, h0, h1, hv⟩ := s
  refine (KH.mal H ho sz hs d c hc hc2).mono ?_
  rintro e w' ⟨p, er, rfl, hT⟩
  rw [hck] at hT
  obtain ⟨he, hp, x', t', nx, hn2⟩ := KH.tq_old hk hl hf hT
  subst he
  refine ⟨?_, KH.nx hb0 hli ho hR nx (hn2.trans hxn) h0 h1⟩
  rw [hp]
  unfold caN
  rw [hb0]
/-- Two pages that come with a region. -/
theorem KH.pg_grow (s : KH w W hb n f0 [] ls S v) (g : Nat) (hg : g * 4096 = n) (sz : Nat) (h1s : 4096 < sz) (hs : sz ≤ 8192) (hn : n + 8192 ≤ 16384) :
    Calls Tryz.prog 10 #[.pointer (some ⟨hb, 0, none⟩), .int .u64 (sz : Int), .bool false] W fun e w' => e = tE ((65536 + 4096 * g : Nat) : Int) 0 ∧ KH w w' hb (n + 8192) f0 [] (ls ++ [(g, 1)]) S false := by
  obtain ⟨sb, lw, x, t, fr, H, hb0, hli, ho, hR, hxn, h0, h1, hv⟩ := s
  have hpg := KH.pages H hxn
  refine (KH.mal H ho sz hs false 13 (by omega) (by omega)).mono ?_
  rintro e w' ⟨p, er, rfl, hT⟩
  rw [show (2 : Nat) ^ 13 = 4096 * 2 ^ 1 from rfl] at hT
  cases hT with
  | no hp he nf hd2 kp =>
    exfalso
    rcases hd2 with e | e
    · cases e
    · rw [hxn, hli, hR] at e
      omega
  | yes x' t' fr' ls' S' b he td nx hL hN hn2 hm hb1 hb2 =>
    subst he
    cases td with
    | old k2 g2 i l rr hk2 hr hl2 => exact absurd hr.symm (szC_pg hk2)
    | new k2 g2 hk2 hr => exact absurd hr.symm (szC_pg hk2)
    | here k2 g2 j l hk2 hr hkj hj hz hl =>
      obtain rfl := pg_inj8 hr
      obtain rfl : j = 1 := by omega
      rw [h1] at hl
      cases hl
    | grew k2 hk2 hr hz hp hbt e1 e2 e3 =>
      obtain rfl := pg_inj8 hr
      obtain rfl : t.m.n = g := by omega
      subst hbt e1 e2 e3
      rw [if_pos rfl] at hn2
      refine ⟨?_, KH.nx hb0 hli ho hR nx (by rw [hn2, hxn, hR]) ?_ ?_⟩
      · rw [hp]
        unfold ad
        rw [hb0]
      · rw [ho]
        unfold cutF
        rw [if_neg (by omega), h0]
      · rw [ho]
        unfold cutF
        rw [if_neg (by omega), h1]
/-- A page that lies free. -/
theorem KH.pg_here {g : Nat} {l : List Nat} (s : KH w W hb n (g :: l) f1 ls S v) (sz : Nat) (h1s : 2048 < sz) (hs : sz ≤ 4096) (d : Bool) :
    Calls Tryz.prog 10 #[.pointer (some ⟨hb, 0, none⟩), .int .u64 (sz : Int), .bool d] W fun e w' => e = tE ((65536 + 4096 * g : Nat) : Int) 0 ∧ KH w w' hb n (M.dropL (g :: l) g) f1 (ls ++ [(g, 0)]) S false := by
  obtain ⟨sb, lw, x, t, fr, H, hb0, hli, ho, hR, hxn, h0, h1, hv⟩ := s
  refine (KH.mal H ho sz (by omega) d 12 (by omega) (by omega)).mono ?_
  rintro e w' ⟨p, er, rfl, hT⟩
  rw [show (2 : Nat) ^ 12 = 4096 * 2 ^ 0 from rfl] at hT
  have hnf : ¬ NF x fr S (4096 * 2 ^ 0) := fun e => by
    have := (NF.page (Nat.zero_le _)).1 e 0 (Nat.zero_le _) (Nat.zero_le _)
    rw [h0] at this
    cases this
  cases hT with
  | no hp he nf hd2 kp => exact absurd nf hnf
  | yes x' t' fr' ls' S' b he td nx hL hN hn2 hm hb1 hb2 =>
    subst he
    cases td with
    | old k2 g2 i l rr hk2 hr hl2 => exact absurd hr.symm (szC_pg hk2)
    | new k2 g2 hk2 hr => exact absurd hr.symm (szC_pg hk2)
    | grew k2 hk2 hr hz =>
      obtain rfl := pg_inj8 hr
      have := hz 0 (Nat.zero_le _) (Nat.zero_le _)
      rw [h0] at this
      cases this
    | here k2 g2 j l2 hk2 hr hkj hj hz hl hp hbt e1 e2 e3 =>
      obtain rfl := pg_inj8 hr
      have hj0 : j = 0 := by
        rcases Nat.eq_zero_or_pos j with e | e
        · exact e
        · have := hz 0 (Nat.zero_le _) e
          rw [h0] at this
          cases this
      subst hj0 hbt e1 e2 e3
      rw [h0] at hl
      injection hl with a1 a2
      subst a1
      rw [if_neg (by decide)] at hn2
      refine ⟨?_, KH.nx hb0 hli ho hR nx (hn2.trans hxn) ?_ ?_⟩
      · rw [hp]
        unfold ad
        rw [hb0]
      · unfold cutF frU
        rw [if_neg (by omega), if_pos rfl, h0]
      · unfold cutF frU
        rw [if_neg (by omega), if_neg (by decide)]
        exact h1
end
end Go.Proofs.YthjdjgokafkjaaaGreatDoor
