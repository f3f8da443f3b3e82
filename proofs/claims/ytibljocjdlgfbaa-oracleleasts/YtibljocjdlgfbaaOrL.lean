/- oracle.upward, (pages).regions. -/
import Derived.Test.YtibljocjdlgfbaaOrK
namespace Go.Proofs.Ytibljocjdlgfbaa
open Go.RowKit
set_option linter.unusedVariables false

/-- n by d, rounded up. -/
def upN (n d : Nat) : Nat := (n + d - 1) / d
theorem upward_any (n d : Nat) (hn : n + d < 2 ^ 64) (hd : 1 ≤ d) (w : World) :
    Calls Try.prog 56 #[.int .u64 (n : Int), .int .u64 (d : Int)] w fun e w' => e = .returned (.int .u64 ((upN n d : Nat) : Int)) ∧ w' = w := by
  obtain ⟨q, hq⟩ : ∃ q, q = n + d - 1 := ⟨_, rfl⟩
  have hq1 : (n : Int) + (d : Int) - 1 = (q : Int) := by omega
  obtain ⟨z, hz⟩ : ∃ z, z = q / d := ⟨_, rfl⟩
  have hz1 : (q : Int) / (d : Int) = (z : Int) := by rw [hz]; simp
  have hd0 : ¬ (d : Int) = 0 := by omega
  have E := hid (show upN n d = z by rw [hz, hq]; rfl)
  have hqb : q < 2 ^ 64 := by omega
  have hzb : z ≤ q := by rw [hz]; exact Nat.div_le_self _ _
  clear hq hz
  go_enter Try.func56, Try.ntmps56
  go_wp2
  go_ret
  exact ⟨ret_int (by rw [E.out]), rfl⟩

/-- The greatest. -/
def mxL (l : List Nat) : Nat := l.foldr max 0
theorem mxL_le (l : List Nat) (b : Nat) : mxL l ≤ b ↔ ∀ x ∈ l, x ≤ b := by
  induction l with
  | nil => simp [mxL]
  | cons a r ih =>
    have : mxL (a :: r) = max a (mxL r) := rfl
    rw [this, Nat.max_le, ih]
    simp
theorem mxL_eq {l k : List Nat} (h : ∀ x, x ∈ l ↔ x ∈ k) : mxL l = mxL k :=
  Nat.le_antisymm ((mxL_le l _).2 fun x hx => (mxL_le k _).1 (Nat.le_refl _) x ((h x).1 hx)) ((mxL_le k _).2 fun x hx => (mxL_le l _).1 (Nat.le_refl _) x ((h x).2 hx))
theorem mxL_app (l : List Nat) (a : Nat) : mxL (l ++ [a]) = max (mxL l) a := by
  refine Nat.le_antisymm ((mxL_le _ _).2 fun x hx => ?_) (Nat.max_le.2 ⟨(mxL_le _ _).2 fun x hx => (mxL_le (l ++ [a]) _).1 (Nat.le_refl _) x (List.mem_append_left _ hx), (mxL_le (l ++ [a]) _).1 (Nat.le_refl _) a (by simp)⟩)
  rcases List.mem_append.1 hx with hx | hx
  · exact Nat.le_trans ((mxL_le l _).1 (Nat.le_refl _) x hx) (Nat.le_max_left _ _)
  · rw [List.mem_singleton] at hx
    rw [hx]; exact Nat.le_max_right _ _

/-- How many regions must be there for the pages. -/
def rgN (U : List Un) (k : Nat) : Nat := mxL (U.map fun u => u.1 / 2 ^ k + 1)

structure ReI (w W : World) (m r k : Nat) (ks : List Nat) (L : List (Nat × Value)) (done : List Nat) (rest : List (Nat × Value)) (a : Nat) : Prop where
  rg : RG W m r L rest
  pm : (done ++ rest.map (·.1)).Perm ks
  ac : a = mxL (done.map fun n => n / 2 ^ k + 1)
  kp : Kept none' w W
  rw' : w.heap.size ≤ r

set_option maxRecDepth 4000 in
theorem regions_any {N w m U} (h : PG N w m U) (k : Nat) (hk : k ≤ 8) :
    Calls Try.prog 40 #[.map (some m), .int .i64 (k : Int)] w fun e w' => e = .returned (.int .u64 ((rgN U k : Nat) : Int)) ∧ Kept none' w w' := by
  obtain ⟨ks, S, B, C, X, h⟩ := h
  obtain ⟨L, hL⟩ : ∃ L, L = ks.map fun n => (n, pgV (S n) (B n)) := ⟨_, rfl⟩
  have hLk : L.map (·.1) = ks := by rw [hL, List.map_map]; simp [Function.comp_def]
  have HM := hid (show MU w m L by rw [hL]; exact h.mu)
  have hkb : ∀ n ∈ ks, n < 1024 := fun n hn => by
    obtain ⟨u, hu, rfl⟩ := h.kin n hn
    exact (h.sz u hu).2.2.1
  have HE := hid (show mxL (ks.map fun n => n / 2 ^ k + 1) = rgN U k from mxL_eq fun x => by
    rw [List.mem_map, List.mem_map]
    constructor
    · rintro ⟨n, hn, e⟩
      obtain ⟨u, hu, e2⟩ := h.kin n hn
      exact ⟨u, hu, by rw [e2]; exact e⟩
    · rintro ⟨u, hu, e⟩
      exact ⟨u.1, (h.us u hu).1, e⟩)
  have HLK := hid hLk
  clear h hL hLk
  go_enter Try.func40, Try.ntmps40
  go_wp2_with (first | (at_range; refine wpl_range _ rfl _ 72 rfl 22 98 Try.underlying72 m L rfl HM.out ?_; intro w0 hrg0 hk0 hs0))
  go_frame
  have I0 := hid (show ReI w w0 m w.heap.size k ks L [] L 0 from ⟨hrg0, by rw [List.nil_append, HLK.out], rfl, hk0, Nat.le_refl _⟩)
  generalize w.heap.size = r at *
  clear hrg0 hk0 hs0
  go_loopw [5] (fun x W => ∃ done rest a, x = .int .u64 ((a : Nat) : Int) ∧ Hid (ReI w W m r k ks L done rest a)) (fun _ W => W.rangeLeft m r)
  case atStart => exact ⟨[], L, 0, rfl, I0⟩
  case round =>
    clear I0 HM
    obtain ⟨done, rest, a, rfl, HI⟩ := hrel
    have hab : a ≤ 1024 := by
      rw [HI.out.ac, mxL_le]
      intro x hx
      obtain ⟨n, hn, rfl⟩ := List.mem_map.1 hx
      have h1 := hkb n (HI.out.pm.mem_iff.1 (List.mem_append_left _ hn))
      have h2 := Nat.div_le_self n (2 ^ k)
      omega
    go_wp2_with (first | (at_next; refine wpl_next _ rfl _ rfl m r L rest rfl HI.out.rg ?_ ?_))
    · intro hd
      have HF := hid (show a = rgN U k from by
        rw [← HE.out, HI.out.ac]
        have hp := HI.out.pm
        rw [hd] at hp
        simp only [List.map_nil, List.append_nil] at hp
        exact mxL_eq fun x => (hp.map _).mem_iff)
      clear hd
      go_wp2_with fail
      go_ret
      exact ⟨ret_int (by rw [HF.out]), HI.out.kp⟩
    · intro n v rest' w1 hp hrg hk1 hz hen
      have hnk : n ∈ ks := HI.out.pm.mem_iff.1 (List.mem_append_right _ (List.mem_map.2 ⟨(n, v), hp.mem_iff.2 (by simp), rfl⟩))
      have hnb := hkb n hnk
      have k1 : Kept (fun x => w.heap.size ≤ x) wr w1 := hk1.mono (fun x _ e => by rw [e]; exact HI.out.rw')
      have K1 := hid (kept_new HI.out.kp k1 (Nat.le_refl _))
      obtain ⟨d, hd⟩ : ∃ d, d = n / 2 ^ k := ⟨_, rfl⟩
      have hd1 : (n : Int) / 2 ^ k = (d : Int) := by
        rw [hd]
        simp
      have hdb : d < 1024 := by rw [hd]; exact Nat.lt_of_le_of_lt (Nat.div_le_self _ _) hnb
      have NXT := hid (show ∀ b, b = max a (d + 1) → ReI w w1 m r k ks L (done ++ [n]) rest' b from fun b hb => by
        refine ⟨hrg, ?_, ?_, K1.out, HI.out.rw'⟩
        · refine List.Perm.trans ?_ HI.out.pm
          rw [List.append_assoc]
          exact List.Perm.append_left done (show (n :: rest'.map Prod.fst).Perm (rest.map Prod.fst) from (hp.map Prod.fst).symm)
        · rw [hb, List.map_append, List.map_singleton, mxL_app, ← HI.out.ac, hd])
      have HML := hid (show rest'.length < rest.length by rw [hp.length_eq]; simp)
      clear hd hrg hk1 hz hp hnk k1
      by_cases hlt : (a : Int) < (d : Int) + 1
      · have hb : max a (d + 1) = d + 1 := by omega
        have hlt2 := hid hlt
        go_wp2_with fail
        have NX := NXT.out (d + 1) hb.symm
        exact ⟨⟨_, _, _, rfl, hid NX⟩, by rw [NX.rg.left_eq, HI.out.rg.left_eq]; exact HML.out⟩
      · have hb : max a (d + 1) = a := by omega
        go_wp2_with fail
        have NX := NXT.out a hb.symm
        exact ⟨⟨_, _, _, rfl, hid NX⟩, by rw [NX.rg.left_eq, HI.out.rg.left_eq]; exact HML.out⟩
end Go.Proofs.Ytibljocjdlgfbaa
