/- pagemap: the calls that write, each with one contract: what becomes of the map, and the answer. -/
import Derived.Test.YtbhheimedbfmeaaPgC
import Derived.Test.YtbhheimedbfmeaaPgF
import Derived.Test.YtbhheimedbfmeaaPgG
import Derived.Test.YtbhheimedbfmeaaPgM
import Derived.Test.YtbhheimedbfmeaaPgL
import Derived.Test.YtbhheimedbfmeaaPgR
namespace Go.Proofs.Ytbhheimedbfmeaa
open Go.RowKit
set_option linter.unusedVariables false

/-- Behind a call on a map: the map m' in place of m, in blocks of its own or new ones. -/
def Aft (w w' : World) (b : Nat) (B : Bs) (o : Nat) (m' : Mp) : Prop := ∃ B', MapAt w' b B' m' ∧ Kept (mown b B o) w w' ∧ From w b B B' o
theorem Aft.same {w w' b B m} (h : MapAt w b B m) (k : Kept none' w w') : Aft w w' b B m.o m := ⟨B, h.keep k, k.mono (fun _ _ x => x.elim), From.refl _ _ _ _⟩
theorem Aft.mk {w w' b B o m'} (h : MapAt w' b B m') (k : Kept (mown b B o) w w') : Aft w w' b B o m' := ⟨B, h, k, From.refl _ _ _ _⟩

theorem Slab_a (b : Nat) (B : Bs) (m : Mp) (i c : Int) (w : World) (h : MapAt w b B m) (hc : ¬ (inR m.n i = true ∧ 0 ≤ c ∧ c ≤ 7)) :
    Calls Try.prog 15 #[.pointer (some ⟨b, 0, none⟩), .int .i64 i, .int .i64 c] w fun e w' => e = .returned (.int .i64 1) ∧ Kept none' w w' := by
  have HM := hid h
  cases hi : inR m.n i with
  | false =>
    have HI := hid hi
    clear h hc hi
    go_enter Try.func15, Try.ntmps15
    go_wp2_with fail
    refine (has_any b B m i _ HM.out).mono ?_
    rintro e w1 ⟨rfl, rfl⟩
    rw [HI.out]
    go_wp2_with fail
    go_ret
    exact ⟨rfl, Kept.refl none' _⟩
  | true =>
    have HI := hid hi
    by_cases h0 : c < 0
    · clear h hc hi
      go_enter Try.func15, Try.ntmps15
      go_wp2_with fail
      refine (has_any b B m i _ HM.out).mono ?_
      rintro e w1 ⟨rfl, rfl⟩
      rw [HI.out]
      go_wp2_with fail
      go_ret
      exact ⟨rfl, Kept.refl none' _⟩
    · have h8 : 8 ≤ c := by
        by_cases h7 : c ≤ 7
        · exact absurd ⟨hi, by omega, h7⟩ hc
        · omega
      clear h hc hi
      go_enter Try.func15, Try.ntmps15
      go_wp2_with fail
      refine (has_any b B m i _ HM.out).mono ?_
      rintro e w1 ⟨rfl, rfl⟩
      rw [HI.out]
      go_wp2_with fail
      go_ret
      exact ⟨rfl, Kept.refl none' _⟩
theorem Slab_any (b : Nat) (B : Bs) (m : Mp) (i c : Int) (w : World) (h : MapAt w b B m) :
    Calls Try.prog 15 #[.pointer (some ⟨b, 0, none⟩), .int .i64 i, .int .i64 c] w fun e w' => e = .returned (.int .i64 (slabE m i c)) ∧ Aft w w' b B m.o (slabM m i c) := by
  by_cases hc : inR m.n i = true ∧ 0 ≤ c ∧ c ≤ 7
  · rw [show slabE m i c = 0 from if_pos hc, show slabM m i c = { m with pg := upp m.pg i.toNat (slabP c) } from if_pos hc]
    obtain ⟨k, rfl, hk⟩ := inR_nat hc.1
    obtain ⟨d, rfl⟩ := Int.eq_ofNat_of_zero_le hc.2.1
    refine (Slab_in b B m k d w h hk (by omega)).mono ?_
    rintro e w' ⟨rfl, h1, h2⟩
    exact ⟨rfl, Aft.mk h1 h2⟩
  · rw [show slabE m i c = 1 from if_neg hc, show slabM m i c = m from if_neg hc]
    refine (Slab_a b B m i c w h hc).mono ?_
    rintro e w' ⟨rfl, hk⟩
    exact ⟨rfl, Aft.same h hk⟩
/-- Is there such a cell of a slab? -/
def isCell (m : Mp) (i c : Int) : Bool := inR m.n i && (decide ((m.pg i.toNat).kd = 4) && inR (ncell (m.pg i.toNat).cl) c)
def canOwn (m : Mp) (i c : Int) (live : Bool) : Bool := isCell m i c && (litP (m.pg i.toNat) c.toNat != live)
def ownM (m : Mp) (i c : Int) (live : Bool) : Mp := if canOwn m i c live = true then { m with pg := upp m.pg i.toNat (ownP (m.pg i.toNat) c.toNat) } else m
def ownE (m : Mp) (i c : Int) (live : Bool) : Int := if canOwn m i c live = true then 0 else 1
theorem Own_any (b : Nat) (B : Bs) (m : Mp) (i c : Int) (live : Bool) (w : World) (h : MapAt w b B m) :
    Calls Try.prog 16 #[.pointer (some ⟨b, 0, none⟩), .int .i64 i, .int .i64 c, .bool live] w fun e w' => e = .returned (.int .i64 (ownE m i c live)) ∧ Aft w w' b B m.o (ownM m i c live) := by
  have no : ∀ {E : Ending} {w' : World}, canOwn m i c live = false → E = .returned (.int .i64 1) ∧ w' = w → E = .returned (.int .i64 (ownE m i c live)) ∧ Aft w w' b B m.o (ownM m i c live) := by
    rintro E w' hc ⟨rfl, rfl⟩
    rw [show ownE m i c live = 1 by simp [ownE, hc], show ownM m i c live = m by simp [ownM, hc]]
    exact ⟨rfl, Aft.same h (Kept.refl _ _)⟩
  cases hi : inR m.n i with
  | false => exact (Own_out b B m i c live w h hi).mono (fun _ _ => no (by simp [canOwn, isCell, hi]))
  | true =>
    obtain ⟨k, rfl, hk⟩ := inR_nat hi
    by_cases hkd : (m.pg k).kd = 4
    · cases hc : inR (ncell (m.pg k).cl) c with
      | false => exact (Own_cell b B m k c live w h hk hkd hc).mono (fun _ _ => no (by simp [canOwn, isCell, hc]))
      | true =>
        obtain ⟨d, rfl, hd⟩ := inCell (h.ok k hk).c0 hc
        by_cases hl : litP (m.pg k) d = live
        · subst hl
          refine (Own_same b B m k d w h hk hkd hc hd).mono ?_
          rintro E w' ⟨rfl, hkk⟩
          have hcc : canOwn m (k : Int) (d : Int) (litP (m.pg k) d) = false := by simp [canOwn]
          rw [show ownE m (k : Int) (d : Int) (litP (m.pg k) d) = 1 by simp [ownE, hcc], show ownM m (k : Int) (d : Int) (litP (m.pg k) d) = m by simp [ownM, hcc]]
          exact ⟨rfl, Aft.same h hkk⟩
        · obtain rfl : live = !litP (m.pg k) d := by revert hl; cases litP (m.pg k) d <;> cases live <;> simp
          have hcc : canOwn m (k : Int) (d : Int) (!litP (m.pg k) d) = true := by
            unfold canOwn isCell
            rw [hi, Int.toNat_natCast, Int.toNat_natCast, decide_eq_true hkd, hc]
            cases litP (m.pg k) d <;> rfl
          rw [show ownE m (k : Int) (d : Int) (!litP (m.pg k) d) = 0 by simp [ownE, hcc], show ownM m (k : Int) (d : Int) (!litP (m.pg k) d) = { m with pg := upp m.pg k (ownP (m.pg k) d) } by simp [ownM, hcc]]
          refine (Own_turn b B m k d w h hk hkd hc hd).mono ?_
          rintro E w' ⟨rfl, h1, h2⟩
          exact ⟨rfl, Aft.mk h1 h2⟩
    · exact (Own_kind b B m k c live w h hk hkd).mono (fun _ _ => no (by simp [canOwn, isCell, hkd]))
def canFirst (m : Mp) (i c : Int) : Bool := inR m.n i && (decide ((m.pg i.toNat).kd = 4) && (c == -1 || inR (ncell (m.pg i.toNat).cl) c))
def firstM (m : Mp) (i c : Int) : Mp := if canFirst m i c = true then { m with pg := upp m.pg i.toNat { m.pg i.toNat with fs := c } } else m
def firstE (m : Mp) (i c : Int) : Int := if canFirst m i c = true then 0 else 1
theorem First_any (b : Nat) (B : Bs) (m : Mp) (i c : Int) (w : World) (h : MapAt w b B m) :
    Calls Try.prog 18 #[.pointer (some ⟨b, 0, none⟩), .int .i64 i, .int .i64 c] w fun e w' => e = .returned (.int .i64 (firstE m i c)) ∧ Aft w w' b B m.o (firstM m i c) := by
  have no : ∀ {E : Ending} {w' : World}, canFirst m i c = false → E = .returned (.int .i64 1) ∧ w' = w → E = .returned (.int .i64 (firstE m i c)) ∧ Aft w w' b B m.o (firstM m i c) := by
    rintro E w' hc ⟨rfl, rfl⟩
    rw [show firstE m i c = 1 by simp [firstE, hc], show firstM m i c = m by simp [firstM, hc]]
    exact ⟨rfl, Aft.same h (Kept.refl _ _)⟩
  cases hi : inR m.n i with
  | false => exact (First_out b B m i c w h hi).mono (fun _ _ => no (by simp [canFirst, hi]))
  | true =>
    obtain ⟨k, rfl, hk⟩ := inR_nat hi
    by_cases hkd : (m.pg k).kd = 4
    · by_cases hc : c = -1 ∨ inR (ncell (m.pg k).cl) c = true
      · have hcc : canFirst m (k : Int) c = true := by
          unfold canFirst
          rw [hi, Int.toNat_natCast, decide_eq_true hkd]
          rcases hc with rfl | hc
          · rfl
          · simp [hc]
        rw [show firstE m (k : Int) c = 0 by simp [firstE, hcc], show firstM m (k : Int) c = { m with pg := upp m.pg k { m.pg k with fs := c } } by simp [firstM, hcc]]
        refine (First_ok b B m k c w h hk hkd hc).mono ?_
        rintro E w' ⟨rfl, h1, h2⟩
        exact ⟨rfl, Aft.mk h1 h2⟩
      · have h1 : c ≠ -1 := fun e => hc (.inl e)
        have h2 : inR (ncell (m.pg k).cl) c = false := by cases e : inR (ncell (m.pg k).cl) c with | false => rfl | true => exact absurd (.inr e) hc
        exact (First_cell b B m k c w h hk hkd h1 h2).mono (fun _ _ => no (by simp [canFirst, h1, h2]))
    · exact (First_kind b B m k c w h hk hkd).mono (fun _ _ => no (by simp [canFirst, hkd]))
def canChain (m : Mp) (i x y : Int) : Bool := inR m.n i && (decide ((m.pg i.toNat).kd = 4) && (lnk m.n x && lnk m.n y))
def chainM (m : Mp) (i x y : Int) : Mp := if canChain m i x y = true then { m with pg := upp m.pg i.toNat { m.pg i.toNat with nx := x, pv := y } } else m
def chainE (m : Mp) (i x y : Int) : Int := if canChain m i x y = true then 0 else 1
theorem Chain_any (b : Nat) (B : Bs) (m : Mp) (i x y : Int) (w : World) (h : MapAt w b B m) :
    Calls Try.prog 17 #[.pointer (some ⟨b, 0, none⟩), .int .i64 i, .int .i64 x, .int .i64 y] w fun e w' => e = .returned (.int .i64 (chainE m i x y)) ∧ Aft w w' b B m.o (chainM m i x y) := by
  have no : ∀ {E : Ending} {w' : World}, canChain m i x y = false → E = .returned (.int .i64 1) ∧ w' = w → E = .returned (.int .i64 (chainE m i x y)) ∧ Aft w w' b B m.o (chainM m i x y) := by
    rintro E w' hc ⟨rfl, rfl⟩
    rw [show chainE m i x y = 1 by simp [chainE, hc], show chainM m i x y = m by simp [chainM, hc]]
    exact ⟨rfl, Aft.same h (Kept.refl _ _)⟩
  cases hi : inR m.n i with
  | false => exact (Chain_out b B m i x y w h hi).mono (fun _ _ => no (by simp [canChain, hi]))
  | true =>
    obtain ⟨k, rfl, hk⟩ := inR_nat hi
    by_cases hkd : (m.pg k).kd = 4
    · cases hx : lnk m.n x with
      | false =>
        have h1 : x ≠ -1 := fun e => by subst e; simp [lnk] at hx
        have h2 : inR m.n x = false := by simpa [lnk, h1] using hx
        exact (Chain_next b B m k x y w h hk hkd h1 h2).mono (fun _ _ => no (by simp [canChain, hx]))
      | true =>
        cases hy : lnk m.n y with
        | false => exact (Chain_rest b B m k x y w h hk hkd hx 1 w (.inl ⟨hy, rfl, rfl⟩)).mono (fun _ _ => no (by simp [canChain, hy]))
        | true =>
          obtain ⟨g, hg, hr⟩ := h.has_row (by omega)
          have hcc : canChain m (k : Int) x y = true := by
            unfold canChain
            rw [hi, Int.toNat_natCast, decide_eq_true hkd, hx, hy]; rfl
          rw [show chainE m (k : Int) x y = 0 by simp [chainE, hcc], show chainM m (k : Int) x y = { m with pg := upp m.pg k { m.pg k with nx := x, pv := y } } by simp [chainM, hcc]]
          refine (Chain_rest b B m k x y w h hk hkd hx 0 _ (.inr ⟨hy, rfl, g, hg, rfl⟩)).mono ?_
          rintro E w' ⟨rfl, rfl⟩
          refine ⟨rfl, Aft.mk (h.pages hg (((Kept.refl (fun x => x = g) w).setCell (p := ⟨g, _, none⟩) rfl _).setCell (p := ⟨g, _, none⟩) rfl _) (hr.f45 k hk x y) (fun j hj => ?_)) (((Kept.refl (mown b B m.o) w).setCell (p := ⟨g, _, none⟩) (.inr (.inl hg)) _).setCell (p := ⟨g, _, none⟩) (.inr (.inl hg)) _)⟩
          unfold upp
          split
          · exact ⟨(h.ok k hk).o0, (h.ok k hk).o8, (h.ok k hk).c0, (h.ok k hk).c7, (h.ok k hk).b0, (h.ok k hk).b1, (h.ok k hk).b2, (h.ok k hk).b3⟩
          · exact h.ok j hj
    · exact (Chain_kind b B m k x y w h hk hkd).mono (fun _ _ => no (by simp [canChain, hkd]))
/-- The number of a page's pair. -/
def prN (k i : Int) : Nat := i.toNat / 2 ^ (k.toNat + 1)
def prL (m : Mp) (k : Int) : Nat := m.n / 2 ^ (k.toNat + 1)
def hasP (m : Mp) (k i : Int) : Bool := inR m.o k && inR m.n i
def flipM (m : Mp) (k i : Int) : Mp := if hasP m k i = true then { m with wd := upw m.wd k.toNat (flipI (prL m k) (m.wd k.toNat) (prN k i : Int)) } else m
def flipE (m : Mp) (k i : Int) : Int := if hasP m k i = true then 0 else 1
def pairV (m : Mp) (k i : Int) : Bool := hasP m k i && inS (prL m k) (m.wd k.toNat) (prN k i : Int)
theorem Flip_any (b : Nat) (B : Bs) (m : Mp) (k i : Int) (w : World) (h : MapAt w b B m) :
    Calls Try.prog 20 #[.pointer (some ⟨b, 0, none⟩), .int .i64 k, .int .i64 i] w fun e w' => e = .returned (.tuple #[.bool (pairV (flipM m k i) k i), .int .i64 (flipE m k i)]) ∧ Aft w w' b B m.o (flipM m k i) := by
  cases hp : hasP m k i with
  | false =>
    have e1 : flipM m k i = m := by simp [flipM, hp]
    rw [show flipE m k i = 1 by simp [flipE, hp], e1, show pairV m k i = false by simp [pairV, hp]]
    refine (Flip_no b B m k i w h hp).mono ?_
    rintro e w' ⟨rfl, hk⟩
    exact ⟨rfl, Aft.same h hk⟩
  | true =>
    have h1 : inR m.o k = true ∧ inR m.n i = true := by unfold hasP at hp; exact Bool.and_eq_true_iff.1 hp
    obtain ⟨a, rfl, ha⟩ := inR_nat h1.1
    obtain ⟨j, rfl, hj⟩ := inR_nat h1.2
    have e1 : flipM m (a : Int) (j : Int) = { m with wd := upw m.wd a (flipI (m.n / 2 ^ (a + 1)) (m.wd a) ((j / 2 ^ (a + 1) : Nat) : Int)) } := by simp [flipM, hp, prL, prN]
    rw [show flipE m (a : Int) (j : Int) = 0 by simp [flipE, hp], e1, show pairV { m with wd := upw m.wd a (flipI (m.n / 2 ^ (a + 1)) (m.wd a) ((j / 2 ^ (a + 1) : Nat) : Int)) } (a : Int) (j : Int) = inS (m.n / 2 ^ (a + 1)) (flipI (m.n / 2 ^ (a + 1)) (m.wd a) ((j / 2 ^ (a + 1) : Nat) : Int)) ((j / 2 ^ (a + 1) : Nat) : Int) by
      unfold pairV
      rw [show hasP { m with wd := upw m.wd a (flipI (m.n / 2 ^ (a + 1)) (m.wd a) ((j / 2 ^ (a + 1) : Nat) : Int)) } (a : Int) (j : Int) = true from hp]
      simp [prL, prN, upw]]
    refine (Flip_in b B m a j w h ha hj).mono ?_
    rintro e w' ⟨rfl, h2, h3⟩
    exact ⟨rfl, Aft.mk h2 h3⟩
end Go.Proofs.Ytbhheimedbfmeaa
