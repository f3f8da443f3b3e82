/- pagemap: the calls that write, each with one contract: what becomes of the map, and the answer. -/
import Derived.Test.YthglogiglimebaaPgC
import Derived.Test.YthglogiglimebaaPgF
import Derived.Test.YthglogiglimebaaPgG
import Derived.Test.YthglogiglimebaaPgM
import Derived.Test.YthglogiglimebaaPgL
import Derived.Test.YthglogiglimebaaPgR
namespace Go.Proofs.Ythglogiglimebaa
open Go.RowKit
set_option linter.unusedVariables false

/-- Behind a call on a map: the map m' in place of m, in blocks of its own or new ones. -/
def Aft (w w' : World) (b : Nat) (B : Bs) (o : Nat) (m' : Mp) : Prop := ∃ B', MapAt w' b B' m' ∧ Kept (mown b B o) w w' ∧ From w b B B' o
theorem Aft.same {w w' b B m} (h : MapAt w b B m) (k : Kept none' w w') : Aft w w' b B m.o m := ⟨B, h.keep k, k.mono (fun _ _ x => x.elim), From.refl _ _ _ _⟩
theorem Aft.mk {w w' b B o m'} (h : MapAt w' b B m') (k : Kept (mown b B o) w w') : Aft w w' b B o m' := ⟨B, h, k, From.refl _ _ _ _⟩

/-- Is there such a cell of a slab? -/
def isCell (m : Mp) (i c : Int) : Bool := inR m.n i && (decide ((m.pg i.toNat).kd = 4) && inR (ncell (m.pg i.toNat).cl) c)
def canOwn (m : Mp) (i c : Int) (live : Bool) : Bool := isCell m i c && (litP (m.pg i.toNat) c.toNat != live)
def ownM (m : Mp) (i c : Int) (live : Bool) : Mp := if canOwn m i c live = true then { m with pg := upp m.pg i.toNat (ownP (m.pg i.toNat) c.toNat) } else m
def ownE (m : Mp) (i c : Int) (live : Bool) : Int := if canOwn m i c live = true then 0 else 1
def canFirst (m : Mp) (i c : Int) : Bool := inR m.n i && (decide ((m.pg i.toNat).kd = 4) && (c == -1 || inR (ncell (m.pg i.toNat).cl) c))
def firstM (m : Mp) (i c : Int) : Mp := if canFirst m i c = true then { m with pg := upp m.pg i.toNat { m.pg i.toNat with fs := c } } else m
def firstE (m : Mp) (i c : Int) : Int := if canFirst m i c = true then 0 else 1
def canChain (m : Mp) (i x y : Int) : Bool := inR m.n i && (decide ((m.pg i.toNat).kd = 4) && (lnk m.n x && lnk m.n y))
def chainM (m : Mp) (i x y : Int) : Mp := if canChain m i x y = true then { m with pg := upp m.pg i.toNat { m.pg i.toNat with nx := x, pv := y } } else m
def chainE (m : Mp) (i x y : Int) : Int := if canChain m i x y = true then 0 else 1
/-- The number of a page's pair. -/
def prN (k i : Int) : Nat := i.toNat / 2 ^ (k.toNat + 1)
def prL (m : Mp) (k : Int) : Nat := m.n / 2 ^ (k.toNat + 1)
def hasP (m : Mp) (k i : Int) : Bool := inR m.o k && inR m.n i
def flipM (m : Mp) (k i : Int) : Mp := if hasP m k i = true then { m with wd := upw m.wd k.toNat (flipI (prL m k) (m.wd k.toNat) (prN k i : Int)) } else m
def flipE (m : Mp) (k i : Int) : Int := if hasP m k i = true then 0 else 1
def pairV (m : Mp) (k i : Int) : Bool := hasP m k i && inS (prL m k) (m.wd k.toNat) (prN k i : Int)
theorem Flip_any (b : Nat) (B : Bs) (m : Mp) (k i : Int) (w : World) (h : MapAt w b B m) :
    Calls Try.prog 61 #[.pointer (some ⟨b, 0, none⟩), .int .i64 k, .int .i64 i] w fun e w' => e = .returned (.tuple #[.bool (pairV (flipM m k i) k i), .int .i64 (flipE m k i)]) ∧ Aft w w' b B m.o (flipM m k i) := by
  cases hp : hasP m k i with
  | false =>
    have e1 : flipM m k i = m := by simp [flipM, hp]
    rw [show flipE m k i = 1 by simp [flipE, hp], e1, show pairV m k i = false by simp [pairV, hp]]
    refine (Flip_no b B m k i w h hp).mono ?_
    rintro e w' ⟨rfl, hk⟩
    exact ⟨rfl, Aft.same h hk⟩
  | true =>
    have h1 : inR m.o k = true ∧ inR m.n i = true := by unfold hasP at hp; exact Bool.and_eq_true_iff.1 hp
    obtain ⟨a, rfl, ha⟩ := inR_nat h1.1
    obtain ⟨j, rfl, hj⟩ := inR_nat h1.2
    have e1 : flipM m (a : Int) (j : Int) = { m with wd := upw m.wd a (flipI (m.n / 2 ^ (a + 1)) (m.wd a) ((j / 2 ^ (a + 1) : Nat) : Int)) } := by simp [flipM, hp, prL, prN]
    rw [show flipE m (a : Int) (j : Int) = 0 by simp [flipE, hp], e1, show pairV { m with wd := upw m.wd a (flipI (m.n / 2 ^ (a + 1)) (m.wd a) ((j / 2 ^ (a + 1) : Nat) : Int)) } (a : Int) (j : Int) = inS (m.n / 2 ^ (a + 1)) (flipI (m.n / 2 ^ (a + 1)) (m.wd a) ((j / 2 ^ (a + 1) : Nat) : Int)) ((j / 2 ^ (a + 1) : Nat) : Int) by
      unfold pairV
      rw [show hasP { m with wd := upw m.wd a (flipI (m.n / 2 ^ (a + 1)) (m.wd a) ((j / 2 ^ (a + 1) : Nat) : Int)) } (a : Int) (j : Int) = true from hp]
      simp [prL, prN, upw]]
    refine (Flip_in b B m a j w h ha hj).mono ?_
    rintro e w' ⟨rfl, h2, h3⟩
    exact ⟨rfl, Aft.mk h2 h3⟩
end Go.Proofs.Ythglogiglimebaa
