import Derived.Test.YthglogiglimebaaGreatDoT0
import Derived.Test.YthglogiglimebaaGreatDoT1
import Derived.Test.YthglogiglimebaaGreatDoT2
import Derived.Test.YthglogiglimebaaGreatDoG3
import Derived.Test.YthglogiglimebaaGreatDoG4
import Derived.Test.YthglogiglimebaaGreatDoS5
import Derived.Test.YthglogiglimebaaGreatDoC6
import Derived.Test.YthglogiglimebaaGreatDoP7
import Derived.Test.YthglogiglimebaaGreatKnD
import Derived.Test.YthglogiglimebaaGreatDee
import Derived.Deep.RegionHeld3
/- BuddyExactly: a deed, whatever it is; the walk. -/
namespace Go.Proofs.YthglogiglimebaaGreat
open Go.RowKit
set_option linter.unusedVariables false

theorem do_any {E w W lw c x t fa fl fc ra nv rc va n vc R} (h : BW E w W lw c x t fa fl fc ra nv rc va n vc R) (hc : c ≤ 300) (hG : ∀ g, E.G g → Lp (Lk R n) g) (op od wh : Int) (hod : N64 od) (hwh : N64 wh) :
    Calls Tryz.prog 16 #[.pointer (some ⟨lw, 0, none⟩), .agg #[.slice va n vc], .agg #[.int .i64 op, .int .i64 od, .int .i64 wh]] W fun e w' => DoP E R n w lw (c + 1) e w' := by
  by_cases p0 : op = 0
  · exact do_take0 h hc hG op p0 od wh hod.1 hod.2 hwh.1 hwh.2
  by_cases p1 : op = 1
  · exact do_take1 h hc hG op p1 od wh hod.1 hod.2 hwh.1 hwh.2
  by_cases p2 : op = 2
  · exact do_take2 h hc hG op p2 od wh hod.1 hod.2 hwh.1 hwh.2
  by_cases p3 : op = 3
  · exact do_give3 h hc hG op p3 od wh hod.1 hod.2 hwh.1 hwh.2
  by_cases p4 : op = 4
  · exact do_give4 h hc hG op p4 od wh hod.1 hod.2 hwh.1 hwh.2
  by_cases p5 : op = 5
  · exact do_shrink h hc hG op p5 od wh hod.1 hod.2 hwh.1 hwh.2
  by_cases p6 : op = 6
  · exact do_come h hc hG op p6 od wh hod.1 hod.2 hwh.1 hwh.2
  exact do_pull h hc hG op ⟨p0, p1, p2, p3, p4, p5, p6⟩ od wh hod.1 hod.2 hwh.1 hwh.2
set_option maxRecDepth 4000 in
/-- A world that begins. -/
theorem beg_wb {E : Gh} {w W lw x fa fl fc} (o : Nat) (h : LW w W lw x ⟨fun _ => 0, newM o, fun _ => 0⟩ 0 (.slice fa fl fc) (.slice none 0 0)) (hn : x.n = 0) (ho : x.o = o) (hb : x.base % 4096 = 0) (hE : ∀ y v, E.e y v → W.heap[y]? = some (.cells #[v] 54)) : Wb E w W lw 0 x ⟨fun _ => 0, newM o, fun _ => 0⟩ fa fl fc none 0 0 (fun _ _ => False) := by
  subst ho
  have hc := h.bd.sp.cfg
  have hbe := hc.be
  have h63 : x.base + x.n ≤ 9223372036854775808 := by
    rw [hn, Nat.add_zero]
    exact Nat.le_trans (Nat.le_add_right _ _) hbe
  exact ⟨h, RL.nil W, Sn.new x _ h.bd.o8 hc.b1 h63, by rw [hn]; exact Nat.zero_mul 4096, Nat.zero_le _, hb, fun i _ h => (by obtain ⟨_, _, h1, _⟩ := h; exact h1.elim), hE⟩
theorem BW.re {E E' : Gh} {w W lw c x t fa fl fc ra nv rc va n vc R} (h : BW E w W lw c x t fa fl fc ra nv rc va n vc R) (hE : ∀ y v, E'.e y v → W.heap[y]? = some (.cells #[v] 54)) (hgb : ∀ i, E'.G (i / 4096) → Lp (Lk R n) (i / 4096) → t.f i = E'.F i) : BW E' w W lw c x t fa fl fc ra nv rc va n vc R :=
  ⟨⟨h.wb.lw, h.wb.rl, h.wb.sn, h.wb.st, h.wb.nc, h.wb.bm, hgb, hE⟩, h.inj, h.bk, h.nc, h.mr⟩
theorem bk1 {W : World} {b : Nat} {v : Value} (h : W.heap[b]? = some (.cells #[v] 54)) : W.cell? ⟨b, 0, none⟩ = some v ∧ W.frozen? ⟨b, 0, none⟩ = false := by
  constructor
  · simp only [World.cell?, h]; rfl
  · simp only [World.frozen?, h]; rfl
/-- Between two deeds: the law's world, its book in a box. -/
def ExI (w : World) (lw kb c : Nat) (W : World) : Prop := ∃ x t fa fl fc ra nv rc va n vc R, BW ⟨fun y v => y = kb ∧ v = .slice va n vc, fun _ => 0, fun _ => False⟩ w W lw c x t fa fl fc ra nv rc va n vc R ∧ w.heap.size ≤ kb
end Go.Proofs.YthglogiglimebaaGreat
