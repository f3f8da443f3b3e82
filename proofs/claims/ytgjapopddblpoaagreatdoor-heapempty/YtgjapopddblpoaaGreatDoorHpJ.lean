import Derived.Test.YtgjapopddblpoaaGreatDoorHpH
/- Package malloc: Stats. -/
namespace Go.Proofs.YtgjapopddblpoaaGreatDoor
open Go.RowKit
open Go.MuLone
set_option linter.unusedVariables false

/-- What a page brings: bytes, blocks, free pages. -/
def plL (q : Pg) : Nat := if q.kd = 2 then 4096 * 2 ^ q.od.toNat else if q.kd = 4 then q.lv.toNat * szC q.cl.toNat else 0
def plB (q : Pg) : Nat := if q.kd = 2 then 1 else if q.kd = 4 then q.lv.toNat else 0
def plF (q : Pg) : Nat := if q.kd = 0 ∨ q.kd = 1 then 1 else 0
def stS (f : Pg → Nat) (m : Mp) : Nat → Nat
  | 0 => 0
  | i + 1 => stS f m i + f (m.pg i)
/-- A page as Stats looks at it. -/
inductive Sk (q : Pg) (dl db df : Nat) : Prop where
  | free (hq : q.kd = 0 ∨ q.kd = 1) (h1 : dl = 0) (h2 : db = 0) (h3 : df = 1)
  | head (k : Nat) (hk : k ≤ 8) (hq : q.kd = 2) (ho : q.od = (k : Int)) (h1 : dl = 4096 * 2 ^ k) (h2 : db = 1) (h3 : df = 0)
  | rest (hq : q.kd = 3) (h1 : dl = 0) (h2 : db = 0) (h3 : df = 0)
  | slab (k l : Nat) (hk : k < 8) (hl : l ≤ 256) (hq : q.kd = 4) (hc : q.cl = (k : Int)) (hv : q.lv = (l : Int)) (h1 : dl = l * szC k) (h2 : db = l) (h3 : df = 0)
abbrev stO (h L B F : Nat) : Obj := .cells #[.int .u64 (h : Int), .int .u64 (L : Int), .int .i64 (B : Int), .int .i64 (F : Int)] 35
abbrev stZ : Obj := .cells #[.int .u64 0, .int .u64 0, .int .i64 0, .int .i64 0] 35
abbrev stV (h L B F : Nat) : Value := .agg #[.int .u64 (h : Int), .int .u64 (L : Int), .int .i64 (B : Int), .int .i64 (F : Int)]
theorem stc {W : World} {y h L B F : Nat} (e : W.heap[y]? = some (stO h L B F)) : W.cell? ⟨y, 0, none⟩ = some (.int .u64 (h : Int)) ∧ W.cell? ⟨y, 1, none⟩ = some (.int .u64 (L : Int)) ∧ W.cell? ⟨y, 2, none⟩ = some (.int .i64 (B : Int)) ∧ W.cell? ⟨y, 3, none⟩ = some (.int .i64 (F : Int)) ∧ ∀ j, W.frozen? ⟨y, j, none⟩ = false := by
  refine ⟨?_, ?_, ?_, ?_, fun j => ?_⟩ <;> simp [World.cell?, World.frozen?, e]
section
variable {w W W1 W' : World} {hb sb lw : Nat} {x : Bx} {t : Bt} {fr : Nat → List Nat} {ls : List (Nat × Nat)} {S : Sb} {s : Int}
/-- A box that is none of the heap's is written. -/
theorem HW.other (H : HW w W hb sb lw x t fr ls S s) {y0 : Nat} {cs : Array Value} {e : TypeId} {z : Nat × Nat} (hy : W.heap[y0]? = some (.cells cs e z)) (hn : w.heap.size ≤ y0) (h1 : ¬ Go.Proofs.YtgjapopddblpoaaGreatDoor.pty e) (h2 : e ≠ 135) (h3 : e ≠ 91) (k : Kept (fun y => y = y0) W W') : HW w W' hb sb lw x t fr ls S s := by
  obtain ⟨h, o⟩ := H.so
  have hpty : ∀ y, (bown x y ∨ y = x.b ∨ y = x.l ∨ y = lw) → y ≠ y0 := fun y hy2 e => by
    subst e
    exact h1 (o.sw.pl.pty hy hy2)
  have hsb : sb ≠ y0 := fun e => by
    subst e
    exact h2 (ty_ne' hy o.sw.bx)
  have hhb : hb ≠ y0 := fun e => by
    subst e
    exact h3 (ty_ne' hy H.bx)
  refine ⟨⟨h, ⟨⟨⟨(k.block _ (heap_lt o.sw.pl.box) (hpty _ (.inr (.inr (.inr rfl))))).trans o.sw.pl.box, o.sw.pl.bd.kept k (fun y hy2 => hpty y ?_), o.sw.pl.nw, o.sw.pl.kp.trans k (fun _ _ e => e) (fun y hy e => absurd hn (by rw [← e]; exact Nat.not_le.2 hy))⟩, (k.block _ (heap_lt o.sw.bx) hsb).trans o.sw.bx, o.sw.nw, o.sw.tb⟩, o.sf, o.st, o.bm, o.si, o.hd⟩⟩, H.lv, (k.block _ (heap_lt H.bx) hhb).trans H.bx, H.nw, H.br⟩
  rcases hy2 with hy2 | hy2 | hy2
  · exact .inl hy2
  · exact .inr (.inl hy2)
  · exact .inr (.inr (.inl hy2))
theorem HW.sk (H : HW w W hb sb lw x t fr ls S s) {i : Nat} (hi : i < t.m.n) : Sk (t.m.pg i) (plL (t.m.pg i)) (plB (t.m.pg i)) (plF (t.m.pg i)) := by
  obtain ⟨h, o⟩ := H.so
  have n1 := o.po.nums.1
  cases o.kind hi with
  | slab k hc =>
    obtain ⟨hk, sp⟩ := o.si.pg i k hc
    have hnb := ncl_b hk
    refine .slab k (ncl k - (S.fl i).length) hk (by omega) sp.kd sp.cl sp.lv ?_ ?_ ?_
    · unfold plL
      rw [sp.kd, if_neg (by decide), if_pos rfl, sp.lv, sp.cl, Int.toNat_natCast, Int.toNat_natCast]
    · unfold plB
      rw [sp.kd, if_neg (by decide), if_pos rfl, sp.lv, Int.toNat_natCast]
    · unfold plF
      rw [sp.kd, if_neg (by decide)]
  | big q k hm hc hg h1 h2 hp =>
    have hk : k ≤ 8 := Nat.le_trans (o.al hm).1 n1
    by_cases e : i = q
    · rw [if_pos e] at hp
      rw [hp]
      exact .head k hk rfl rfl rfl rfl rfl
    · rw [if_neg e] at hp
      rw [hp]
      exact .rest rfl rfl rfl rfl
  | free q j hm hj hg h1 h2 hp =>
    by_cases e : i = q
    · rw [if_pos e] at hp
      rw [hp]
      exact .free (.inl rfl) rfl rfl rfl
    · rw [if_neg e] at hp
      rw [hp]
      exact .free (.inr rfl) rfl rfl rfl
theorem Sk.le {q dl db df} (h : Sk q dl db df) : dl ≤ 1048576 ∧ db ≤ 256 ∧ df ≤ 1 := by
  cases h with
  | free hq h1 h2 h3 => omega
  | head k hk hq ho h1 h2 h3 =>
    have : 2 ^ k ≤ 2 ^ 8 := Nat.pow_le_pow_right (by decide) hk
    omega
  | rest hq h1 h2 h3 => omega
  | slab k l hk hl hq hc hv h1 h2 h3 =>
    have := (szC_le hk).2
    have : l * szC k ≤ 256 * 2048 := Nat.mul_le_mul hl this
    omega
theorem HW.stb (H : HW w W hb sb lw x t fr ls S s) : ∀ i, i ≤ t.m.n → stS plL t.m i ≤ i * 1048576 ∧ stS plB t.m i ≤ i * 256 ∧ stS plF t.m i ≤ i
  | 0, _ => ⟨Nat.le_refl _, Nat.le_refl _, Nat.le_refl _⟩
  | i + 1, hi => by
    have h1 := H.stb i (by omega)
    have h2 := (H.sk (i := i) (by omega)).le
    unfold stS
    omega
/-- Between two pages. -/
structure StI (w0 W0 : World) (hb sb lw : Nat) (x : Bx) (t : Bt) (fr : Nat → List Nat) (ls : List (Nat × Nat)) (S : Sb) (y2 y3 i : Nat) (W : World) : Prop where
  H : HW w0 W hb sb lw x t fr ls S 1
  k : Kept none' W0 W
  r : W.heap[y2]? = some (stO 0 0 0 0)
  b : W.heap[y3]? = some (stO x.n (stS plL t.m i) (stS plB t.m i) (stS plF t.m i))
  n : y3 < W.heap.size
end
end Go.Proofs.YtgjapopddblpoaaGreatDoor
