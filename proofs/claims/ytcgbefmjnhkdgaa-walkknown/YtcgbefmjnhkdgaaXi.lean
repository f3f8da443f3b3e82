import Derived.Test.YtcgbefmjnhkdgaaXh
set_option maxRecDepth 1000000
set_option maxHeartbeats 80000000
/- Pages are compared. -/
namespace Go.Proofs.Ytcgbefmjnhkdgaa
open Go.RowKit
set_option linter.unusedVariables false

/-- The four words. -/
theorem arr_eq (a0 a1 a2 a3 b0 b1 b2 b3 : Int) (w : World) :
    (Op.equalIn 9999 37 (.agg #[.int .u64 a0, .int .u64 a1, .int .u64 a2, .int .u64 a3]) (.agg #[.int .u64 b0, .int .u64 b1, .int .u64 b2, .int .u64 b3])).run Try.prog w = .ok (a0 == b0 && (a1 == b1 && (a2 == b2 && a3 == b3))) w := by
  have u3 := Try.underlying22
  have s3 := Try.isAgg22
  have z3 := Try.sizeOf22
  rw [show (9999 : Nat) = 9998 + 1 from rfl, Op.equalIn]
  simp only [Sem.run_bind, run_underlying Try.underlying37, Result.andThen_ok]
  simp only [Std.Legacy.Range.forIn_eq_forIn_range', Std.Legacy.Range.size, Nat.sub_zero, Nat.add_sub_cancel, Nat.div_one, List.range'_succ, List.range'_zero, List.forIn_cons, List.forIn_nil]
  go_simp
  by_cases h1 : a0 = b0 <;> by_cases h2 : a1 = b1 <;> by_cases h3 : a2 = b2 <;> by_cases h4 : a3 = b3 <;> simp [h1, h2, h3, h4]
/-- Are two pages the same? -/
def pgE (p q : Pg) : Bool := decide (p = q)
theorem page_eq (p q : Pg) (w : World) : (binOp .eql 39 (pgV p) (pgV q)).run Try.prog w = .ok (.bool (pgE p q)) w := by
  have AE := arr_eq
  obtain ⟨kd, od, cl, lv, nx, pv, fs, b0, b1, b2, b3⟩ := p
  obtain ⟨kd', od', cl', lv', nx', pv', fs', b0', b1', b2', b3'⟩ := q
  have u3 := Try.underlying3
  have s3 := Try.isAgg3
  have z3 := Try.sizeOf3
  rw [run_eql_struct]
  go_simp
  unfold pgE
  repeat' split
  all_goals
    refine congrArg (fun b => Result.ok (Value.bool b) w) ?_
    symm
    first
      | (rw [decide_eq_true_iff, Pg.mk.injEq]; omega)
      | (rw [decide_eq_false_iff_not, Pg.mk.injEq]; omega)
end Go.Proofs.Ytcgbefmjnhkdgaa
/- Rule 4. -/
namespace Go.Proofs.Ytcgbefmjnhkdgaa
open Go.RowKit
set_option linter.unusedVariables false

/-- What the rules 1 to 3 leave. -/
structure Sn9 (I : Img) (k r : Nat) : Prop where
  k8 : k ≤ 8
  ord : I.ord = (k : Int)
  np : I.np = r * 2 ^ k
  np1 : I.np ≤ 1024
  nm : I.nm = I.np * 4096
  no : I.no = k
  pl : ∀ j, j < k → (I.pr j).length = pwN I.np j
  hl : I.hd.length = k + 1
  tl : I.pt.length = 8
  b0 : I.base ≠ 0
  bm : I.base % M.RS k = 0
  be : I.base + I.nm ≤ 9223372036854775808
  rg : ∀ i, i < I.np → rngB (k : Int) I.np (I.pg i) = true
theorem Sn9.pg {I : Img} {k r : Nat} (h : Sn9 I k r) (i : Nat) (hi : i < I.np) : ∃ kd o c l : Nat, (I.pg i).kd = (kd : Int) ∧ kd ≤ 4 ∧ (I.pg i).od = (o : Int) ∧ o ≤ k ∧ (I.pg i).cl = (c : Int) ∧ c ≤ 7 ∧ (I.pg i).lv = (l : Int) ∧ l ≤ 256 ∧ (-1 ≤ (I.pg i).nx ∧ (I.pg i).nx < I.np) ∧ (-1 ≤ (I.pg i).pv ∧ (I.pg i).pv < I.np) ∧ -1 ≤ (I.pg i).fs ∧ (I.pg i).fs ≤ 255 := by
  have := h.rg i hi
  simp only [rngB, wiB, Bool.and_eq_true, decide_eq_true_eq] at this
  obtain ⟨⟨h1, h2⟩, ⟨h3, h4⟩, ⟨h5, h6⟩, ⟨h7, h8⟩, ⟨h9, h10⟩, ⟨h11, h12⟩, h13, h14⟩ := this
  refine ⟨(I.pg i).kd.toNat, (I.pg i).od.toNat, (I.pg i).cl.toNat, (I.pg i).lv.toNat, ?_, ?_, ?_, ?_, ?_, ?_, ?_, ?_, ?_, ?_, ?_, ?_⟩ <;> omega
theorem Sn9.dvd {I : Img} {k r : Nat} (h : Sn9 I k r) (o : Nat) (ho : o ≤ k) : 2 ^ o ∣ I.np := by
  rw [h.np]
  exact Nat.dvd_trans (Nat.pow_dvd_pow 2 ho) (Nat.dvd_mul_left _ _)
theorem mul_fits {m a n : Nat} (hm : m ∣ n) (ha : a % m = 0) (h : a < n) : a + m ≤ n := by
  obtain ⟨x, rfl⟩ := Nat.dvd_of_mod_eq_zero ha
  obtain ⟨y, rfl⟩ := hm
  have hxy : x < y := Nat.lt_of_mul_lt_mul_left h
  have : m * (x + 1) ≤ m * y := Nat.mul_le_mul_left m hxy
  rwa [Nat.mul_add, Nat.mul_one] at this

theorem shl_1 {od P : Nat} (h8 : od ≤ 8) (hP : P = 2 ^ od) : wrap64 ((1 : Int) * 2 ^ od) = (P : Int) ∧ ((2 : Int) ^ od) = (P : Int) ∧ wrap64 ((2 : Int) * 2 ^ od) = 2 * (P : Int) := by
  have h := M.pow8 od h8
  have e : ((2 : Int) ^ od) = ((2 ^ od : Nat) : Int) := by simp
  rw [e, ← hP]
  rw [← hP] at h
  refine ⟨?_, rfl, ?_⟩ <;> unfold wrap64 <;> omega
theorem pos_ne2 {P : Nat} (h : 1 ≤ P) : ¬ ((2 : Int) * (P : Int)) = 0 := by omega
theorem mod2_eq {a P : Nat} (h : a % (2 * P) = 0) : ((a : Int) % (2 * (P : Int)) == 0) = true := by
  rw [beq_iff_eq]
  have : ((a % (2 * P) : Nat) : Int) = 0 := by rw [h]; rfl
  simpa using this
theorem mod2_ne {a P : Nat} (h : ¬ a % (2 * P) = 0) : ((a : Int) % (2 * (P : Int)) == 0) = false := by
  rw [beq_eq_false_iff_ne]
  intro e
  apply h
  have : ((a % (2 * P) : Nat) : Int) = 0 := by simpa using e
  omega
theorem pos_ne {P : Nat} (h : 1 ≤ P) : ¬ (P : Int) = 0 := by omega
/-- May a block begin there? -/
def hdOk (p : Pg) (a : Nat) : Bool :=
  if p.kd = 4 then decide (p.od = 0) else if p.kd = 0 ∨ p.kd = 2 then decide (a % 2 ^ p.od.toNat = 0) && pgE p (blankP p.kd p.od) else false
/-- One of its other pages. -/
def rsOk (p q : Pg) : Bool := pgE q (blankP (p.kd + 1) p.od)
/-- Rule 4, from a page on. -/
def r4F (I : Img) : Nat → Nat → Option Nat
  | 0, _ => none
  | n + 1, a => if I.np ≤ a then none else if hdOk (I.pg a) a = false then some a else
    match fst1 (2 ^ (I.pg a).od.toNat - 1) (fun i => rsOk (I.pg a) (I.pg (a + 1 + i))) with
    | some i => some (a + 1 + i)
    | none => r4F I n (a + 2 ^ (I.pg a).od.toNat)
theorem r4F_bad {I : Img} {n a : Nat} (ha : a < I.np) (h : hdOk (I.pg a) a = false) : r4F I (n + 1) a = some a := by
  rw [r4F, if_neg (by omega), if_pos h]
theorem r4F_rest {I : Img} {n a o j : Nat} (ha : a < I.np) (ho : (I.pg a).od = (o : Int)) (h : hdOk (I.pg a) a = true) (hj : j < 2 ^ o - 1) (h1 : ∀ x, x < j → rsOk (I.pg a) (I.pg (a + 1 + x)) = true) (h2 : rsOk (I.pg a) (I.pg (a + 1 + j)) = false) : r4F I (n + 1) a = some (a + 1 + j) := by
  rw [r4F, if_neg (by omega), if_neg (by rw [h]; decide), ho, Int.toNat_natCast, fst1_bad hj h1 h2]
theorem r4F_ok {I : Img} {n a o : Nat} (ha : a < I.np) (ho : (I.pg a).od = (o : Int)) (h : hdOk (I.pg a) a = true) (h1 : ∀ x, x < 2 ^ o - 1 → rsOk (I.pg a) (I.pg (a + 1 + x)) = true) : r4F I (n + 1) a = r4F I n (a + 2 ^ o) := by
  rw [r4F, if_neg (by omega), if_neg (by rw [h]; decide), ho, Int.toNat_natCast, fst1_ok h1]
theorem r4F_end {I : Img} {n : Nat} : r4F I (n + 1) I.np = none := by rw [r4F, if_pos (Nat.le_refl _)]
/-- Rule 4. -/
def r4 (I : Img) : Option Nat := r4F I (I.np + 1) 0
/-- The image, and a page in a box. -/
structure PbI (w W : World) (b g : Nat) (I : Img) (V : ImV) (p : Pg) : Prop where
  im : ImAt W b I V
  pb : W.heap[g]? = some (pgO p)
  k : Kept none' w W
theorem PbI.keep {w W W' : World} {b g : Nat} {I : Img} {V : ImV} {p : Pg} (h : PbI w W b g I V p) (hk : Kept none' W W') : PbI w W' b g I V p :=
  ⟨h.im.keep hk, (hk.block _ (heap_lt h.pb) (fun x => x)).trans h.pb, none_trans h.k hk⟩
theorem PbI.mk' {w W : World} {b : Nat} {I : Img} {V : ImV} (h : ImAt W b I V) (k : Kept none' w W) (p : Pg) : PbI w (W.alloc (pgO p)) b W.heap.size I V p :=
  ⟨h.keep ((Kept.refl _ W).alloc _), heap_new _ _, k.alloc _⟩
theorem pgO_c {w : World} {g : Nat} {p : Pg} (h : w.heap[g]? = some (pgO p)) : w.cell? ⟨g, 0, none⟩ = some (.int .i64 p.kd) ∧ w.cell? ⟨g, 1, none⟩ = some (.int .i64 p.od) ∧ w.cell? ⟨g, 2, none⟩ = some (.int .i64 p.cl) ∧ w.cell? ⟨g, 3, none⟩ = some (.int .i64 p.lv) ∧ w.cell? ⟨g, 4, none⟩ = some (.int .i64 p.nx) ∧ w.cell? ⟨g, 5, none⟩ = some (.int .i64 p.pv) ∧ w.cell? ⟨g, 6, none⟩ = some (.int .i64 p.fs) ∧ w.cell? ⟨g, 7, none⟩ = some (.int .u64 (p.b0 : Int)) ∧ w.cell? ⟨g, 8, none⟩ = some (.int .u64 (p.b1 : Int)) ∧ w.cell? ⟨g, 9, none⟩ = some (.int .u64 (p.b2 : Int)) ∧ w.cell? ⟨g, 10, none⟩ = some (.int .u64 (p.b3 : Int)) := by
  refine ⟨?_, ?_, ?_, ?_, ?_, ?_, ?_, ?_, ?_, ?_, ?_⟩ <;> simp [World.cell?, h]
theorem PbI.all {w W : World} {b g : Nat} {I : Img} {V : ImV} {p : Pg} (h : PbI w W b g I V p) : (∀ x : KW W, x.v.cell? ⟨g, 0, none⟩ = some (.int .i64 p.kd)) ∧ (∀ x : KW W, x.v.cell? ⟨g, 1, none⟩ = some (.int .i64 p.od)) ∧ (∀ x : KW W, x.v.cell? ⟨g, 2, none⟩ = some (.int .i64 p.cl)) ∧ (∀ x : KW W, x.v.cell? ⟨g, 3, none⟩ = some (.int .i64 p.lv)) ∧ (∀ x : KW W, x.v.cell? ⟨g, 4, none⟩ = some (.int .i64 p.nx)) ∧ (∀ x : KW W, x.v.cell? ⟨g, 5, none⟩ = some (.int .i64 p.pv)) ∧ (∀ x : KW W, x.v.cell? ⟨g, 6, none⟩ = some (.int .i64 p.fs)) ∧ (∀ x : KW W, x.v.cell? ⟨g, 7, none⟩ = some (.int .u64 (p.b0 : Int))) ∧ (∀ x : KW W, x.v.cell? ⟨g, 8, none⟩ = some (.int .u64 (p.b1 : Int))) ∧ (∀ x : KW W, x.v.cell? ⟨g, 9, none⟩ = some (.int .u64 (p.b2 : Int))) ∧ (∀ x : KW W, x.v.cell? ⟨g, 10, none⟩ = some (.int .u64 (p.b3 : Int))) :=
  ⟨fun x => (pgO_c (h.keep x.k).pb).1, fun x => (pgO_c (h.keep x.k).pb).2.1, fun x => (pgO_c (h.keep x.k).pb).2.2.1, fun x => (pgO_c (h.keep x.k).pb).2.2.2.1, fun x => (pgO_c (h.keep x.k).pb).2.2.2.2.1, fun x => (pgO_c (h.keep x.k).pb).2.2.2.2.2.1, fun x => (pgO_c (h.keep x.k).pb).2.2.2.2.2.2.1, fun x => (pgO_c (h.keep x.k).pb).2.2.2.2.2.2.2.1, fun x => (pgO_c (h.keep x.k).pb).2.2.2.2.2.2.2.2.1, fun x => (pgO_c (h.keep x.k).pb).2.2.2.2.2.2.2.2.2.1, fun x => (pgO_c (h.keep x.k).pb).2.2.2.2.2.2.2.2.2.2⟩
/-- Page i, in every world that keeps it. -/
theorem ImAt.pageK {w : World} {b : Nat} {I : Img} {V : ImV} (h : ImAt w b I V) {bl o oc n : Nat} (hv : V.p = .slice (some ⟨bl, o, none⟩) n oc) (i : Nat) (hi : i < I.np) (x : KW w) : PgC x.v bl o i (I.pg i) := by
  obtain ⟨bl', o', oc', hv', _, hc⟩ := (h.keep x.k).page i hi
  rw [hv] at hv'
  injection hv' with e1 e2 e3
  injection e1 with e4
  injection e4 with e5 e6
  subst e5 e6
  exact hc
theorem pgCK {w : World} {bl o i : Nat} {p : Pg} (h : ∀ x : KW w, PgC x.v bl o i p) : (∀ x : KW w, x.v.cell? ⟨bl, o + i * 11, none⟩ = some (.int .i64 p.kd)) ∧ (∀ x : KW w, x.v.cell? ⟨bl, o + i * 11 + 1, none⟩ = some (.int .i64 p.od)) ∧ (∀ x : KW w, x.v.cell? ⟨bl, o + i * 11 + 2, none⟩ = some (.int .i64 p.cl)) ∧ (∀ x : KW w, x.v.cell? ⟨bl, o + i * 11 + 3, none⟩ = some (.int .i64 p.lv)) ∧ (∀ x : KW w, x.v.cell? ⟨bl, o + i * 11 + 4, none⟩ = some (.int .i64 p.nx)) ∧ (∀ x : KW w, x.v.cell? ⟨bl, o + i * 11 + 5, none⟩ = some (.int .i64 p.pv)) ∧ (∀ x : KW w, x.v.cell? ⟨bl, o + i * 11 + 6, none⟩ = some (.int .i64 p.fs)) ∧ (∀ x : KW w, x.v.cell? ⟨bl, o + i * 11 + 7, none⟩ = some (.int .u64 (p.b0 : Int))) ∧ (∀ x : KW w, x.v.cell? ⟨bl, o + i * 11 + 8, none⟩ = some (.int .u64 (p.b1 : Int))) ∧ (∀ x : KW w, x.v.cell? ⟨bl, o + i * 11 + 9, none⟩ = some (.int .u64 (p.b2 : Int))) ∧ (∀ x : KW w, x.v.cell? ⟨bl, o + i * 11 + 10, none⟩ = some (.int .u64 (p.b3 : Int))) :=
  ⟨fun x => (h x).c.1, fun x => (h x).c.2.1, fun x => (h x).c.2.2.1, fun x => (h x).c.2.2.2.1, fun x => (h x).c.2.2.2.2.1, fun x => (h x).c.2.2.2.2.2.1, fun x => (h x).c.2.2.2.2.2.2.1, fun x => (h x).c.2.2.2.2.2.2.2.1, fun x => (h x).c.2.2.2.2.2.2.2.2.1, fun x => (h x).c.2.2.2.2.2.2.2.2.2.1, fun x => (h x).c.2.2.2.2.2.2.2.2.2.2⟩
end Go.Proofs.Ytcgbefmjnhkdgaa
