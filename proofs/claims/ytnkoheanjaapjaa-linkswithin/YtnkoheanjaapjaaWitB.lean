/- LinksWithin: between two rounds. -/
import Derived.Test.YtnkoheanjaapjaaWitA
namespace Go.Proofs.Ytnkoheanjaapjaa
open Go.RowKit Go.Shelf
set_option linter.unusedVariables false

/-- The other three: what was given at first, how many steps are done, how many were given. -/
structure Bx7 (W : World) (sb rb pb lb fb kb nb : Nat) (sv fv : Value) (b c : Nat) (kk nn : Nat) : Prop where
  four : Bx4 W sb rb pb lb sv b c
  f : Boxed W fb 31 fv
  k : Boxed W kb 3 (.int .i64 (kk : Int))
  n : Boxed W nb 3 (.int .i64 (nn : Int))
theorem Bx7.kept {W W' sb rb pb lb fb kb nb sv fv b c kk nn} {S : Nat → Prop} (h : Bx7 W sb rb pb lb fb kb nb sv fv b c kk nn) (k : Kept S W W') (hS : ∀ x, x = sb ∨ x = rb ∨ x = pb ∨ x = lb ∨ x = fb ∨ x = kb ∨ x = nb → ¬ S x) : Bx7 W' sb rb pb lb fb kb nb sv fv b c kk nn :=
  ⟨h.four.kept k (hS _ (by simp)) (hS _ (by simp)) (hS _ (by simp)) (hS _ (by simp)), bkp h.f k (hS _ (by simp)), bkp h.k k (hS _ (by simp)), bkp h.n k (hS _ (by simp))⟩
theorem Bx7.keep {W W' sb rb pb lb fb kb nb sv fv b c kk nn} (h : Bx7 W sb rb pb lb fb kb nb sv fv b c kk nn) (k : Kept none' W W') : Bx7 W' sb rb pb lb fb kb nb sv fv b c kk nn := h.kept k (fun _ _ x => x)
theorem Bx7.lown {W W' sb rb pb lb fb kb nb sv fv b c kk nn ao base R lim n f hd} (h : Bx7 W sb rb pb lb fb kb nb sv fv b c kk nn) (hL : LS W c b ao base R lim n f hd) (k : Kept (lown c b ao) W W') : Bx7 W' sb rb pb lb fb kb nb sv fv b c kk nn :=
  ⟨h.four.lown hL k, bkp h.f k (boxed_apart h.f hL (by decide) (by decide) (by decide)), bkp h.k k (boxed_apart h.k hL (by decide) (by decide) (by decide)), bkp h.n k (boxed_apart h.n hL (by decide) (by decide) (by decide))⟩
/-- In order of their making. -/
structure Ord7 (B sb rb pb lb fb kb nb : Nat) : Prop where
  o1 : sb < rb
  o2 : rb < pb
  o3 : pb < lb
  o4 : lb < fb
  o5 : fb < kb
  o6 : kb < nb
  o7 : nb < B
theorem Bx7.setN {W sb rb pb lb fb kb nb sv fv b c kk nn B} (h : Bx7 W sb rb pb lb fb kb nb sv fv b c kk nn) (o : Ord7 B sb rb pb lb fb kb nb) (nn' : Nat) : Bx7 (W.setCell ⟨nb, 0, none⟩ (.int .i64 (nn' : Int))) sb rb pb lb fb kb nb sv fv b c kk nn' := by
  have k : Kept (fun x => x = nb) W (W.setCell ⟨nb, 0, none⟩ (.int .i64 (nn' : Int))) := (Kept.refl (fun x => x = nb) W).setCell (fun _ => rfl) _
  obtain ⟨o1, o2, o3, o4, o5, o6, o7⟩ := o
  exact ⟨h.four.kept k (by omega) (by omega) (by omega) (by omega), bkp h.f k (by omega), bkp h.k k (by omega), heap_set h.n 0 _⟩
theorem Bx7.setK {W sb rb pb lb fb kb nb sv fv b c kk nn B} (h : Bx7 W sb rb pb lb fb kb nb sv fv b c kk nn) (o : Ord7 B sb rb pb lb fb kb nb) (kk' : Nat) : Bx7 (W.setCell ⟨kb, 0, none⟩ (.int .i64 (kk' : Int))) sb rb pb lb fb kb nb sv fv b c kk' nn := by
  have k : Kept (fun x => x = kb) W (W.setCell ⟨kb, 0, none⟩ (.int .i64 (kk' : Int))) := (Kept.refl (fun x => x = kb) W).setCell (fun _ => rfl) _
  obtain ⟨o1, o2, o3, o4, o5, o6, o7⟩ := o
  exact ⟨h.four.kept k (by omega) (by omega) (by omega) (by omega), bkp h.f k (by omega), heap_set h.k 0 _, bkp h.n k (by omega)⟩

/-- Between two rounds: B: where All's own function has begun. -/
structure Wth (B : Nat) (w : World) (sb rb pb lb fb kb nb kk D L : Nat) (sv fv : Value) (c b g m : Nat) (f0 : Nat → Nat) (hd0 : Nat) (xs0 : List Nat) (rc : LoopState → Option Code → Loop) (st : LoopState) (i q p : Nat) (f : Nat → Nat) (W : World) : Prop where
  ls : ∃ hd, LS W c b (some g) 4096 4096 1 4096 f hd
  bx : Bx7 W sb rb pb lb fb kb nb sv fv b c (min i m) i
  pk : PtrB W kk c
  rcd : RecAt W L (rc st none)
  df : DefAt W D
  fst : Lst W fv xs0
  k : Kept (from' w.heap.size) w W
  hp : p < 18446744073709551616
  hq : q < 18446744073709551616
  hi : i ≤ 256
  hB : B ≤ W.heap.size
  low : ∀ x, lown c b (some g) x → x < B
  hw : (i = 0 ∨ m = 0) → f = f0 ∧ walkR 4096 4096 f0 (256 - i) q p = xs0.drop i

/-- What is laid behind B does not touch it. -/
theorem Wth.far {B w sb rb pb lb fb kb nb kk D L sv fv c b g m f0 hd0 xs0 rc st i q p f W W'} {T : Nat → Prop} (h : Wth B w sb rb pb lb fb kb nb kk D L sv fv c b g m f0 hd0 xs0 rc st i q p f W) (o : Ord7 B sb rb pb lb fb kb nb) (hkk : kk < B) (hD : D < B) (hL : L < B) (hf : ∀ r, fv.ownBlock = some r → r < B) (hw : w.heap.size ≤ B)
    (k : Kept T W W') (hT : ∀ x, T x → B ≤ x) : Wth B w sb rb pb lb fb kb nb kk D L sv fv c b g m f0 hd0 xs0 rc st i q p f W' := by
  have hn : ∀ x, x < B → ¬ T x := fun x hx ht => by have := hT x ht; omega
  obtain ⟨hd, hls⟩ := h.ls
  obtain ⟨o1, o2, o3, o4, o5, o6, o7⟩ := o
  exact ⟨⟨hd, hls.kept k (fun x hx => hn x (h.low x hx))⟩, h.bx.kept k (fun x hx => hn x (by omega)), h.pk.kept k (hn _ hkk), h.rcd.kept k (hn _ hL), h.df.kept k (hn _ hD), h.fst.kept k (fun r hr => hn r (hf r hr)),
    h.k.trans k (fun _ _ x => x) (fun x _ ht => by have := hT x ht; show w.heap.size ≤ x; omega), h.hp, h.hq, h.hi, Nat.le_trans h.hB k.size, h.low, h.hw⟩

theorem walkR_cons (base n : Nat) (f : Nat → Nat) (k q p : Nat) (h : p ≠ 0 ∧ In base n p 16 ∧ pv base f p = q) : walkR base n f (k + 1) q p = p :: walkR base n f k p (nx base f p) := by
  rw [walkR, if_pos h]

/-- What a round may change. -/
def rch (c b g kb nb L : Nat) : Nat → Prop := fun x => lown c b (some g) x ∨ x = kb ∨ x = nb ∨ x = L
/-- A round more. -/
theorem Wth.next {w sb rb pb lb z sv fv c b g m f0 hd0 xs0 rc i q p f W W9 p' f9} (h : Wth (z + 6) w sb rb pb lb z (z + 1) (z + 2) (z + 3) (z + 4) (z + 5) sv fv c b g m f0 hd0 xs0 rc .ready i q p f W)
    (hk : Kept (rch c b g (z + 1) (z + 2) (z + 5)) W W9) (hlow : ∀ x, lown c b (some g) x → x < z) (hlow2 : ∀ x, lown c b (some g) x → w.heap.size ≤ x) (hwz : w.heap.size ≤ z) (hfr : ∀ r, fv.ownBlock = some r → r < z)
    (hls : ∃ hd, LS W9 c b (some g) 4096 4096 1 4096 f9 hd) (hbx : Bx7 W9 sb rb pb lb z (z + 1) (z + 2) sv fv b c (min (i + 1) m) (i + 1)) (hrec : RecAt W9 (z + 5) (rc .ready none)) (hi : i + 1 ≤ 256) (hp' : p' < 18446744073709551616)
    (hw : (i + 1 = 0 ∨ m = 0) → f9 = f0 ∧ walkR 4096 4096 f0 (256 - (i + 1)) p p' = xs0.drop (i + 1)) :
    Wth (z + 6) w sb rb pb lb z (z + 1) (z + 2) (z + 3) (z + 4) (z + 5) sv fv c b g m f0 hd0 xs0 rc .ready (i + 1) p p' f9 W9 := by
  obtain ⟨hd, hls0⟩ := h.ls
  have n1 : ∀ x, z ≤ x → x ≠ z + 1 → x ≠ z + 2 → x ≠ z + 5 → ¬ rch c b g (z + 1) (z + 2) (z + 5) x := fun x h1 h2 h3 h4 hr => by
    rcases hr with hr | hr | hr | hr
    · have := hlow x hr; omega
    · exact h2 hr
    · exact h3 hr
    · exact h4 hr
  refine ⟨hls, hbx, h.pk.kept hk (n1 _ (by omega) (by omega) (by omega) (by omega)), hrec, h.df.kept hk (n1 _ (by omega) (by omega) (by omega) (by omega)), h.fst.kept hk (fun r hr hx => ?_), h.k.trans hk (fun _ _ x => x) (fun x _ hr => ?_), hp', h.hp, hi, Nat.le_trans h.hB hk.size, h.low, hw⟩
  · have h1 := hfr r hr
    rcases hx with hx | hx | hx | hx
    · exact h.fst.apart hr hls0 hx
    · omega
    · omega
    · omega
  · show w.heap.size ≤ x
    rcases hr with hr | hr | hr | hr
    · exact hlow2 x hr
    · omega
    · omega
    · omega
end Go.Proofs.Ytnkoheanjaapjaa
