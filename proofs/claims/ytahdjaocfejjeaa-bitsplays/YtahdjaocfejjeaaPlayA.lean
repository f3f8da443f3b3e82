/- BitsPlays: one call on both sets. -/
import Derived.Test.YtahdjaocfejjeaaRel
import Derived.Test.YtahdjaocfejjeaaSrc
import Derived.Deep.QuietTactic
import Derived.BigQuiet
import Derived.Deep.RegionWith
namespace Go.Proofs.Ytahdjaocfejjeaa
open Go.RowKit
set_option linter.unusedVariables false

/-- The program's set and the document's own, side by side. -/
structure Pair (B : Nat) (w : World) (b c g n : Nat) (ws : List Nat) : Prop where
  set : SetAt w b c n ws
  tru : TrueAt w g (tOf ws n)
  gb : g ≠ b
  gc : g ≠ c
  lb : B ≤ b
  lc : B ≤ c
  lg : B ≤ g
theorem Pair.kept {B w w' b c g n ws} (h : Pair B w b c g n ws) (k : Kept (fun _ => False) w w') : Pair B w' b c g n ws :=
  ⟨h.set.kept k (fun x => x) (fun x => x), h.tru.kept k (fun x => x), h.gb, h.gc, h.lb, h.lc, h.lg⟩

theorem refGetN (g : Nat) (ts : List Bool) (N c : Nat) (hl : ts.length = N) (i : Int) (w : World) (h : TrueAt w g ts) :
    Calls Try.prog 85 #[.slice (some ⟨g, 0, none⟩) N c, .int .i64 i] w fun e w' => e = .returned (.bool (tGet ts i)) ∧ w' = w := by
  subst hl; exact refGet g ts c i w h
theorem refGetB (g : Nat) (ts : List Bool) (N c : Nat) (hl : ts.length = N) (i : Int) (w : World) (h : TrueAt w g ts) :
    Calls Try.prog 85 #[.slice (some ⟨g, 0, none⟩) N c, .int .i64 i] w fun e w' => e = .returned (.bool (tGet ts i)) ∧ w = w' :=
  (refGetN g ts N c hl i w h).mono fun e w' h => ⟨h.1, h.2.symm⟩
theorem refPutN (g : Nat) (ts : List Bool) (N c : Nat) (hl : ts.length = N) (i : Int) (v : Bool) (w : World) (h : TrueAt w g ts) :
    Calls Try.prog 84 #[.slice (some ⟨g, 0, none⟩) N c, .int .i64 i, .bool v] w fun e w' => e = .returned (.tuple #[.slice (some ⟨g, 0, none⟩) N c, .bool (inR N i)]) ∧ TrueAt w' g (tPut ts i v) ∧ Kept (fun x => x = g) w w' ∧ w'.heap.size = w.heap.size := by
  subst hl; exact refPut g ts c i v w h
theorem refNextN (g : Nat) (ts : List Bool) (N c : Nat) (hl : ts.length = N) (i : Int) (hhi : i ≤ 9223372036854775807) (w : World) (h : TrueAt w g ts) :
    Calls Try.prog 86 #[.slice (some ⟨g, 0, none⟩) N c, .int .i64 i] w fun e w' => e = .returned (.int .i64 (tNext ts i)) ∧ w' = w := by
  subst hl; exact refNext g ts c i hhi w h
theorem refSizeN (g : Nat) (ts : List Bool) (N c : Nat) (hl : ts.length = N) (w : World) (h : TrueAt w g ts) :
    Calls Try.prog 43 #[.slice (some ⟨g, 0, none⟩) N c] w fun e w' => e = .returned (.int .i64 (cntB (tAt ts) N)) ∧ w' = w := by
  subst hl; exact refSize g ts c w h
theorem refResizeN (g : Nat) (ts : List Bool) (N c : Nat) (hl : ts.length = N) (n : Int) (w : World) (h : TrueAt w g ts) :
    Calls Try.prog 87 #[.slice (some ⟨g, 0, none⟩) N c, .int .i64 n] w fun e w' => e = .returned (.slice (some ⟨w.heap.size, 0, none⟩) (fit n) (fit n)) ∧ TrueAt w' w.heap.size ((List.range (fit n)).map (tAt ts)) ∧ Kept (fun _ => False) w w' ∧ w'.heap.size = w.heap.size + 1 := by
  subst hl; exact refResize g ts c n w h

/-- What a call on both leaves. -/
def Played (B : Nat) (b : Nat) (w : World) : Ending → World → Prop := fun e w' =>
  ∃ c' g' n' cap' ws', e = .returned (.tuple #[.slice (some ⟨g', 0, none⟩) n' cap', .bool true]) ∧ Pair B w' b c' g' n' ws' ∧ Below B w w'

theorem block_kept {w w' : World} {g : Nat} {o : Obj} {S : Nat → Prop} (h : w.heap[g]? = some o) (k : Kept S w w') (hS : ¬ S g) : w'.heap[g]? = some o :=
  (k.block g (Array.getElem?_eq_some_iff.1 h).1 hS).trans h

/-- Where the call's own copy of the call lies. -/
structure OpAt (w : World) (o : Nat) (kd i : Int) (v : Bool) : Prop where
  hb : w.heap[o]? = some (.cells #[.int .i64 kd, .int .i64 i, .bool v] 59 (0, 0))
theorem OpAt.c0 {w o kd i v} (h : OpAt w o kd i v) : w.cell? ⟨o, 0, none⟩ = some (.int .i64 kd) := by simp [World.cell?, h.hb]
theorem OpAt.c1 {w o kd i v} (h : OpAt w o kd i v) : w.cell? ⟨o, 1, none⟩ = some (.int .i64 i) := by simp [World.cell?, h.hb]
theorem OpAt.c2 {w o kd i v} (h : OpAt w o kd i v) : w.cell? ⟨o, 2, none⟩ = some (.bool v) := by simp [World.cell?, h.hb]
theorem OpAt.kept {w w' o kd i v} {S : Nat → Prop} (h : OpAt w o kd i v) (k : Kept S w w') (hS : ¬ S o) : OpAt w' o kd i v := ⟨block_kept h.hb k hS⟩
theorem OpAt.new (w : World) (kd i : Int) (v : Bool) : OpAt (w.alloc (.cells #[.int .i64 kd, .int .i64 i, .bool v] 59)) w.heap.size kd i v := ⟨heap_new _ _⟩

theorem Kept.belowB {S : Nat → Prop} {B : Nat} {a b : World} (h : Kept S a b) (hB : B ≤ a.heap.size) (hS : ∀ x, S x → B ≤ x) : Below B a b := h.below hB hS
theorem SetAt.ltn {w b c n ws} (h : SetAt w b c n ws) : b < w.heap.size ∧ c < w.heap.size := h.raw.bc

theorem played_1 (B b c g n cap : Nat) (ws : List Nat) (i : Int) (v : Bool) (w : World) (hB : B ≤ w.heap.size) (h : Pair B w b c g n ws) :
    Calls Try.prog 42 #[.pointer (some ⟨b, 0, none⟩), .slice (some ⟨g, 0, none⟩) n cap, .agg #[.int .i64 1, .int .i64 i, .bool v]] w (Played B b w) := by
  have HP := hid h
  have HBB := hid hB
  clear h hB
  go_enter Try.func42, Try.ntmps42
  go_wp2_with fail
  have k0 := (Kept.refl (fun _ => False) w).alloc (.cells #[.int .i64 1, .int .i64 i, .bool v] 59)
  have p0 := HP.out.kept k0
  have o0 := OpAt.new w 1 i v
  refine (put_any _ _ _ _ _ _ _ p0.set).mono ?_
  rintro e w1 ⟨rfl, hA, hk, hsz⟩
  have hcl := HP.out.set.ltn
  have o1 := o0.kept hk (by omega)
  have t1 := p0.tru.kept hk HP.out.gc
  have c1 := o1.c1
  have c2 := o1.c2
  have HT1 := hid t1
  have HA1 := hid hA
  have KK := hid (k0.trans (U := fun x => x = c) hk (fun _ _ x => x.elim) (fun _ _ x => x))
  clear t1 o0 o1 k0 p0 hA hk hcl hsz
  go_wp2_with fail
  refine (refPutN g (tOf ws n) n cap (tOf_len _ _) i v _ HT1.out).mono ?_
  rintro e w2 ⟨rfl, hT, hk2, hsz2⟩
  have fin : Pair B w2 b c g n (putI n ws i v) ∧ Below B w w2 := by
    have h := HP.out
    rw [tPut_of ws n i v h.set.len] at hT
    exact ⟨⟨HA1.out.kept hk2 (fun e => h.gb e.symm) (fun e => h.gc e.symm), hT, h.gb, h.gc, h.lb, h.lc, h.lg⟩,
      (KK.out.below HBB.out (fun x e => by rw [e]; exact h.lc)).trans (hk2.below (Nat.le_trans HBB.out KK.out.size) (fun x e => by rw [e]; exact h.lg))⟩
  have FIN := hid fin
  clear fin hT hk2 hsz2
  go_wp2
  go_ret2
  unfold Played
  exact ⟨c, g, n, cap, putI n ws i v, rfl, FIN.out⟩

end Go.Proofs.Ytahdjaocfejjeaa
