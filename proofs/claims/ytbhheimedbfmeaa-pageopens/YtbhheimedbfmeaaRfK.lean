/- croftref4: New, Shrink. croftref4: Shrink. -/
import Derived.Test.YtbhheimedbfmeaaRfH
import Derived.Test.YtbhheimedbfmeaaPgR
namespace Go.Proofs.Ytbhheimedbfmeaa
open Go.RowKit
set_option linter.unusedVariables false

theorem Prd.ref {w W : World} {n o : Nat} {v : Value} {R : Nat → Nat} {F : Nat → Nat → Bool} (h : Prd w W n o v R F) (ho : o ≤ 8) (hn : n ≤ 1024) {g : Option Nat} {cp : Nat} (hcp : n ≤ cp) {pg : Nat → Pg} (hq : Rq W g n pg) {wd : Nat → List Nat} (hw : ∀ k, k < o → ∀ i, i < ln n k → F k i = bit (wd k) i) : RefAt W g cp v R ⟨o, n, pg, wd⟩ :=
  ⟨ho, hn, hq, hcp, h.gs.own, fun k hk => (h.bs k hk).congr (fun i hi => hw k hk i hi), h.iR⟩
theorem Prd.own {w W : World} {n o : Nat} {v : Value} {R : Nat → Nat} {F : Nat → Nat → Bool} (h : Prd w W n o v R F) (g : Option Nat) (x : Nat) (hx : rown g v R o x) : g = some x ∨ w.heap.size ≤ x := by
  rcases hx with e | e | ⟨k, hk, rfl⟩
  · exact .inl e
  · exact .inr (h.nw x e)
  · exact .inr (h.fr k hk)
theorem Prd.kept {w W W' : World} {n o : Nat} {v : Value} {R : Nat → Nat} {F : Nat → Nat → Bool} (h : Prd w W n o v R F) (k : Kept none' W W') : Prd w W' n o v R F :=
  ⟨h.gs.keep k, fun j hj => (h.bs j hj).kept k (fun x => x), h.fr, h.iR, h.nw⟩
theorem Prd.base {w0 w W : World} {n o : Nat} {v : Value} {R : Nat → Nat} {F : Nat → Nat → Bool} (h : Prd w0 W n o v R F) (k : Kept none' w w0) : Prd w W n o v R F :=
  ⟨⟨h.gs.own, fun g cap e => (h.gs.new g cap e).imp (fun x => x) (Nat.le_trans k.size), none_trans k h.gs.kp⟩, h.bs, fun j hj => Nat.le_trans k.size (h.fr j hj), h.iR, fun x hx => Nat.le_trans k.size (h.nw x hx)⟩
theorem Prd.val {w W : World} {n o : Nat} {v : Value} {R : Nat → Nat} {F : Nat → Nat → Bool} (h : Prd w W n o v R F) : ∃ qa qc, v = .slice qa o qc := by
  rcases h.gs.own.2 with ⟨rfl, h0⟩ | ⟨g', cap, cur, rfl, _⟩
  · exact ⟨none, 0, by rw [h0]⟩
  · exact ⟨_, cap, rfl⟩
/-- The struct is stored into a box of the function's own. -/
theorem Prd.stored {w W : World} {n o : Nat} {v : Value} {R : Nat → Nat} {F : Nat → Nat → Bool} (h : Prd w W n o v R F) {x : Nat} {cs : Array Value} {z : Nat × Nat} (hx : W.heap[x]? = some (.cells cs 51 z)) (hl : w.heap.size ≤ x) (u0 u1 u2 : Value) : Prd w (((W.setCell ⟨x, 0, none⟩ u0).setCell ⟨x, 1, none⟩ u1).setCell ⟨x, 2, none⟩ u2) n o v R F :=
  ((h.box hx hl 0 u0).box (heap_set hx 0 _) hl 1 u1).box (heap_set (heap_set hx 0 _) 1 _) hl 2 u2
/-- What stands behind a call that answers a map. -/
structure RAft (w W : World) (g : Option Nat) (g' : Option Nat) (cp' : Nat) (q' : Value) (R' : Nat → Nat) (m' : Mp) : Prop where
  ref : RefAt W g' cp' q' R' m'
  own : ∀ x, rown g' q' R' m'.o x → g = some x ∨ w.heap.size ≤ x
  kp : Kept none' w W
/-- The truths of the document's own map, when it is made longer or cut. -/
theorem bits_resize {w W : World} {b : Nat} {B : Bs} {m : Mp} (hM : MapAt w b B m) (c : Nat) (k : Nat) (hk : k < m.o) (i : Nat) (hi : i < ln c k) : (decide (k < m.o) && (decide (i < ln m.n k) && bit (m.wd k) i)) = bit ((resizeM m c).wd k) i := by
  have hs := hM.set k hk
  show _ = bit (ofW (m.wd k) (c / 2 ^ (k + 1))) i
  have hi' : i < c / 2 ^ (k + 1) := hi
  rw [bit_ofW (m.wd k) _ i hs.lt64 hi']
  by_cases h : i < ln m.n k
  · simp [hk, h]
  · rw [hs.bit_past i (by unfold ln at h; omega)]
    simp
set_option maxRecDepth 4000 in
theorem New_ref (i : Int) (w : World) :
    Calls Try.prog 25 #[.int .i64 i] w fun e w' => ∃ q', e = .returned (rv (ordN i) none 0 0 q') ∧ ∃ R', RAft w w' none none 0 q' R' (newM (ordN i)) := by
  have hh : (i < 0 ∧ ordN i = 0) ∨ (¬ i < 0 ∧ 8 < i ∧ ordN i = 8) ∨ (¬ i < 0 ∧ ¬ 8 < i ∧ (ordN i : Int) = i) := by
    unfold ordN
    split
    · exact .inl ⟨by omega, rfl⟩
    · split
      · exact .inr (.inl ⟨by omega, by omega, rfl⟩)
      · exact .inr (.inr ⟨by omega, by omega, by omega⟩)
  obtain ⟨o, ho⟩ : ∃ o, o = ordN i := ⟨_, rfl⟩
  rw [← ho] at hh ⊢
  have ho8 : o ≤ 8 := by omega
  clear ho
  have K0 := hid ((Kept.refl none' w).alloc (ro 0 none 0 0 (.slice none 0 0)))
  have X0 := hid (heap_new w (ro 0 none 0 0 (.slice none 0 0)))
  have PA := hid (fun W => paired_any o 0 0 0 ho8 (by omega) none (.slice none 0 0) (fun _ => 0) (fun _ => 0) (fun _ _ => false) W (World.ownsRow_nil _ _ _ _) (by omega) (fun k hk => absurd hk (Nat.not_lt_zero k)) (fun k hk => absurd hk (Nat.not_lt_zero k)))
  rcases hh with ⟨h1, rfl⟩ | ⟨h1, h2, rfl⟩ | ⟨h1, h2, h3⟩
  · go_enter Try.func25, Try.ntmps25
    go_wp2_with fail
    refine (PA.out _).mono ?_
    rintro e w1 ⟨q', rfl, R', hP⟩
    have X1 := hid ((hP.gs.kp.block _ (heap_lt X0.out) (fun x => x)).trans X0.out)
    obtain ⟨qa, qc, rfl⟩ := hP.val
    have HP := hid (fun u0 u1 u2 => (hP.base K0.out).stored X1.out (Nat.le_refl _) u0 u1 u2)
    obtain ⟨c0, c1, c2⟩ := box3 X1.out
    have fz : ∀ j, w1.frozen? ⟨w.heap.size, j, none⟩ = false := fun j => by simp [World.frozen?, X1.out]
    clear hP K0 X0 PA
    go_wp2_with fail
    refine ⟨rfl, rv 0 none 0 0 (.slice qa 0 qc), by simp [results, Try.results25, go_sem, c0, c1, c2, adr], _, rfl, R', ?_⟩
    have hp := HP.out
    refine ⟨(hp _ _ _).ref ho8 (by omega) (Nat.le_refl _) (show Rq _ none 0 (fun _ => zeroP) from rfl) (fun k hk i hi => ?_), fun x hx => (hp (.int .i64 0) (.int .i64 0) (.int .i64 0)).own none x hx, (hp _ _ _).gs.kp⟩
    have : i < 0 / 2 ^ (k + 1) := hi
    simp at this
  · go_enter Try.func25, Try.ntmps25
    go_wp2_with fail
    refine (PA.out _).mono ?_
    rintro e w1 ⟨q', rfl, R', hP⟩
    have X1 := hid ((hP.gs.kp.block _ (heap_lt X0.out) (fun x => x)).trans X0.out)
    obtain ⟨qa, qc, rfl⟩ := hP.val
    have HP := hid (fun u0 u1 u2 => (hP.base K0.out).stored X1.out (Nat.le_refl _) u0 u1 u2)
    obtain ⟨c0, c1, c2⟩ := box3 X1.out
    have fz : ∀ j, w1.frozen? ⟨w.heap.size, j, none⟩ = false := fun j => by simp [World.frozen?, X1.out]
    clear hP K0 X0 PA
    go_wp2_with fail
    refine ⟨rfl, rv 8 none 0 0 (.slice qa 8 qc), by simp [results, Try.results25, go_sem, c0, c1, c2, adr], _, rfl, R', ?_⟩
    have hp := HP.out
    refine ⟨(hp _ _ _).ref ho8 (by omega) (Nat.le_refl _) (show Rq _ none 0 (fun _ => zeroP) from rfl) (fun k hk i hi => ?_), fun x hx => (hp (.int .i64 0) (.int .i64 0) (.int .i64 0)).own none x hx, (hp _ _ _).gs.kp⟩
    have : i < 0 / 2 ^ (k + 1) := hi
    simp at this
  · rw [← h3] at h1 h2 ⊢; clear h3
    go_enter Try.func25, Try.ntmps25
    go_wp2_with fail
    refine (PA.out _).mono ?_
    rintro e w1 ⟨q', rfl, R', hP⟩
    have X1 := hid ((hP.gs.kp.block _ (heap_lt X0.out) (fun x => x)).trans X0.out)
    obtain ⟨qa, qc, rfl⟩ := hP.val
    have HP := hid (fun u0 u1 u2 => (hP.base K0.out).stored X1.out (Nat.le_refl _) u0 u1 u2)
    obtain ⟨c0, c1, c2⟩ := box3 X1.out
    have fz : ∀ j, w1.frozen? ⟨w.heap.size, j, none⟩ = false := fun j => by simp [World.frozen?, X1.out]
    clear hP K0 X0 PA
    go_wp2_with fail
    refine ⟨rfl, rv o none 0 0 (.slice qa o qc), by simp [results, Try.results25, go_sem, c0, c1, c2, adr], _, rfl, R', ?_⟩
    have hp := HP.out
    refine ⟨(hp _ _ _).ref ho8 (by omega) (Nat.le_refl _) (show Rq _ none 0 (fun _ => zeroP) from rfl) (fun k hk i hi => ?_), fun x hx => (hp (.int .i64 0) (.int .i64 0) (.int .i64 0)).own none x hx, (hp _ _ _).gs.kp⟩
    have : i < 0 / 2 ^ (k + 1) := hi
    simp at this
abbrev roZ : Obj := .cells #[.int .i64 0, .slice none 0 0, .slice none 0 0] 51
theorem boxZ {w : World} {x : Nat} (h : w.heap[x]? = some roZ) : w.cell? ⟨x, 0, none⟩ = some (.int .i64 0) ∧ w.cell? ⟨x, 1, none⟩ = some (.slice none 0 0) ∧ w.cell? ⟨x, 2, none⟩ = some (.slice none 0 0) := by
  refine ⟨?_, ?_, ?_⟩ <;> simp [World.cell?, h]
theorem two_box (w : World) (a b : Obj) : Kept none' w ((w.alloc a).alloc b) ∧ ((w.alloc a).alloc b).heap[w.heap.size]? = some a ∧ ((w.alloc a).alloc b).heap[w.heap.size + 1]? = some b :=
  ⟨((Kept.refl none' w).alloc _).alloc _, (((Kept.refl none' (w.alloc a)).alloc b).block _ (heap_lt (heap_new w a)) (fun x => x)).trans (heap_new w a), heap_new2 w a b⟩
theorem RefAt.val {w g cp q R m} (h : RefAt w g cp q R m) : ∃ qa qc, q = .slice qa m.o qc := by
  rcases h.pr.2 with ⟨rfl, h0⟩ | ⟨g', cap, cur, rfl, _⟩
  · exact ⟨none, 0, by rw [h0]⟩
  · exact ⟨_, cap, rfl⟩
abbrev setM (w : World) (x : Nat) (u0 u1 u2 : Value) : World := ((w.setCell ⟨x, 0, none⟩ u0).setCell ⟨x, 1, none⟩ u1).setCell ⟨x, 2, none⟩ u2
theorem setM_kept {a w : World} (h : Kept none' a w) (x : Nat) (hx : a.heap.size ≤ x) (u0 u1 u2 : Value) : Kept none' a (setM w x u0 u1 u2) :=
  ((h.setNew (p := ⟨x, 0, none⟩) (fun e => absurd e (by show ¬ x < _; omega)) u0).setNew (p := ⟨x, 1, none⟩) (fun e => absurd e (by show ¬ x < _; omega)) u1).setNew (p := ⟨x, 2, none⟩) (fun e => absurd e (by show ¬ x < _; omega)) u2
set_option maxRecDepth 4000 in
set_option maxHeartbeats 1000000 in
theorem shrink_ref_no (g : Option Nat) (cp : Nat) (q : Value) (R : Nat → Nat) (m : Mp) (w : World) (h : RefAt w g cp q R m) (x : Int) (hx : x < 0 ∨ (¬ x < 0 ∧ ((m.n / 2 ^ m.o : Nat) : Int) < x)) :
    Calls Try.prog 58 #[rv m.o g m.n cp q, .int .i64 x] w fun e w' => e = .returned (.tuple #[rv m.o g m.n cp q, .int .i64 1]) ∧ Kept none' w w' := by
  obtain ⟨qa, qc, rfl⟩ := h.val
  have TB := two_box w (ro m.o g m.n cp (.slice qa m.o qc)) roZ
  have ho8 := h.o8
  have hn1 := h.n1
  obtain ⟨z, hz⟩ : ∃ z, z = 2 ^ m.o := ⟨_, rfl⟩
  have hz1 : 1 ≤ z := by rw [hz]; exact Nat.pow_pos (by decide)
  have hz0 : ¬ (z : Int) = 0 := by omega
  obtain ⟨y, hy⟩ : ∃ y, y = m.n / z := ⟨_, rfl⟩
  rw [← hz, ← hy] at hx
  have hyn : y ≤ m.n := by rw [hy]; exact Nat.div_le_self _ _
  have hdv : (m.n : Int) / (z : Int) = (y : Int) := by rw [hy]; simp
  have hdt : (m.n : Int).tdiv (z : Int) = (y : Int) := by rw [hy]; rfl
  have hyw : IntKind.i64.wrap (y : Int) = (y : Int) := by rw [IntKind.wrap_i64]; omega
  have PW := hid (show ∀ W, Calls Try.prog 49 #[.int .i64 (m.o : Int)] W fun e w' => e = .returned (.int .i64 (z : Int)) ∧ w' = W from fun W => by rw [hz]; exact power_any m.o (by omega) W)
  have K0 := hid TB.1
  have X0 := hid TB.2.1
  have Y0 := hid TB.2.2
  clear h hz hy TB
  rcases hx with h0 | ⟨h0, h1⟩
  · have hd : decide (x < 0) = true := decide_eq_true h0
    go_enter Try.func58, Try.ntmps58
    go_wp2_with fail
    generalize (w.alloc (ro m.o g m.n cp (.slice qa m.o qc))).alloc roZ = W0 at *
    obtain ⟨c0, c1, c2⟩ := box3 X0.out
    go_quiet ((go_at_call 49; exact Calls.quiet_of_same (PW.out _)))
    obtain ⟨W1, hW1⟩ : ∃ W1, W1 = W0.drewN nq := ⟨_, rfl⟩
    have k1 : Kept none' W0 W1 := by rw [hW1]; exact (Kept.refl none' W0).drewN nq
    have K1 := hid (none_trans K0.out k1)
    have X1 := hid ((k1.block _ (heap_lt X0.out) (fun x => x)).trans X0.out)
    have Y1 := hid ((k1.block _ (heap_lt Y0.out) (fun x => x)).trans Y0.out)
    rw [← hW1]
    clear k1 hW1 K0 X0 Y0 c0 c1 c2
    obtain ⟨c0, c1, c2⟩ := box3 X1.out
    obtain ⟨d0, d1, d2⟩ := boxZ Y1.out
    have fz : ∀ j, W1.frozen? ⟨w.heap.size + 1, j, none⟩ = false := fun j => by simp [World.frozen?, Y1.out]
    go_wp2_with fail
    exact ⟨rfl, .tuple #[rv m.o g m.n cp (.slice qa m.o qc), .int .i64 1], by simp [results, Try.results58, go_sem, d0, d1, d2, adr], rfl, setM_kept K1.out _ (by omega) _ _ _⟩
  · have hd : decide (x < 0) = false := decide_eq_false h0
    have hd1 : decide ((y : Int) < x) = true := decide_eq_true h1
    go_enter Try.func58, Try.ntmps58
    go_wp2_with fail
    generalize (w.alloc (ro m.o g m.n cp (.slice qa m.o qc))).alloc roZ = W0 at *
    obtain ⟨c0, c1, c2⟩ := box3 X0.out
    go_quiet ((go_at_call 49; exact Calls.quiet_of_same (PW.out _)))
    obtain ⟨W1, hW1⟩ : ∃ W1, W1 = W0.drewN nq := ⟨_, rfl⟩
    have k1 : Kept none' W0 W1 := by rw [hW1]; exact (Kept.refl none' W0).drewN nq
    have K1 := hid (none_trans K0.out k1)
    have X1 := hid ((k1.block _ (heap_lt X0.out) (fun x => x)).trans X0.out)
    have Y1 := hid ((k1.block _ (heap_lt Y0.out) (fun x => x)).trans Y0.out)
    rw [← hW1]
    clear k1 hW1 K0 X0 Y0 c0 c1 c2
    obtain ⟨c0, c1, c2⟩ := box3 X1.out
    obtain ⟨d0, d1, d2⟩ := boxZ Y1.out
    have fz : ∀ j, W1.frozen? ⟨w.heap.size + 1, j, none⟩ = false := fun j => by simp [World.frozen?, Y1.out]
    go_wp2_with fail
    exact ⟨rfl, .tuple #[rv m.o g m.n cp (.slice qa m.o qc), .int .i64 1], by simp [results, Try.results58, go_sem, d0, d1, d2, adr], rfl, setM_kept K1.out _ (by omega) _ _ _⟩
set_option maxRecDepth 4000 in
set_option maxHeartbeats 2000000 in
theorem shrink_ref_yes (b : Nat) (B : Bs) (g : Option Nat) (cp : Nat) (q : Value) (R : Nat → Nat) (m : Mp) (w wM : World) (hM : MapAt wM b B m) (h : RefAt w g cp q R m) (k : Nat) (hk : k ≤ m.n / 2 ^ m.o) :
    Calls Try.prog 58 #[rv m.o g m.n cp q, .int .i64 (k : Int)] w fun e w' => ∃ q', e = .returned (.tuple #[rv m.o g (m.n - k * 2 ^ m.o) cp q', .int .i64 0]) ∧ ∃ R', RAft w w' g g cp q' R' (resizeM m (m.n - k * 2 ^ m.o)) := by
  obtain ⟨qa, qc, rfl⟩ := h.val
  have TB := two_box w (ro m.o g m.n cp (.slice qa m.o qc)) roZ
  have ho8 := h.o8
  have hn1 := h.n1
  have hcp := h.cp
  obtain ⟨z, hz⟩ : ∃ z, z = 2 ^ m.o := ⟨_, rfl⟩
  have hz1 : 1 ≤ z := by rw [hz]; exact Nat.pow_pos (by decide)
  have hz0 : ¬ (z : Int) = 0 := by omega
  obtain ⟨y, hy⟩ : ∃ y, y = m.n / z := ⟨_, rfl⟩
  rw [← hz] at hk ⊢
  have hle : k * z ≤ m.n := Nat.le_trans (Nat.mul_le_mul_right _ hk) (Nat.div_mul_le_self _ _)
  rw [← hy] at hk
  have hyn : y ≤ m.n := by rw [hy]; exact Nat.div_le_self _ _
  have hdv : (m.n : Int) / (z : Int) = (y : Int) := by rw [hy]; simp
  have hdt : (m.n : Int).tdiv (z : Int) = (y : Int) := by rw [hy]; rfl
  have hyw : IntKind.i64.wrap (y : Int) = (y : Int) := by rw [IntKind.wrap_i64]; omega
  obtain ⟨d, hd⟩ : ∃ d, d = k * z := ⟨_, rfl⟩
  have hmul : (k : Int) * (z : Int) = (d : Int) := by rw [hd]; simp
  rw [← hd] at hle ⊢
  obtain ⟨n', hn'⟩ : ∃ n', n' = m.n - d := ⟨_, rfl⟩
  have hsub : (m.n : Int) - (d : Int) = (n' : Int) := by omega
  rw [← hn']
  have hnn : n' ≤ m.n := by omega
  have hdw : IntKind.i64.wrap (d : Int) = (d : Int) := by rw [IntKind.wrap_i64]; omega
  have hnw : IntKind.i64.wrap (n' : Int) = (n' : Int) := by rw [IntKind.wrap_i64]; omega
  have hncp : n' ≤ cp := by omega
  have hncpi : (n' : Int) ≤ (cp : Int) := by omega
  have PW := hid (show ∀ W, Calls Try.prog 49 #[.int .i64 (m.o : Int)] W fun e w' => e = .returned (.int .i64 (z : Int)) ∧ w' = W from fun W => by rw [hz]; exact power_any m.o (by omega) W)
  have K0 := hid TB.1
  have X0 := hid TB.2.1
  have Y0 := hid TB.2.2
  have HR := hid h
  have HM := hid hM
  have h0 : ¬ (k : Int) < 0 := by omega
  have h1 : ¬ (y : Int) < (k : Int) := by omega
  have hd0 : decide ((k : Int) < 0) = false := decide_eq_false h0
  have hd1 : decide ((y : Int) < (k : Int)) = false := decide_eq_false h1
  clear h hz hy TB hd hn' hk hM
  go_enter Try.func58, Try.ntmps58
  go_wp2_with fail
  generalize (w.alloc (ro m.o g m.n cp (.slice qa m.o qc))).alloc roZ = W0 at *
  obtain ⟨c0, c1, c2⟩ := box3 X0.out
  go_quiet ((go_at_call 49; exact Calls.quiet_of_same (PW.out _)))
  go_wp2_with fail
  obtain ⟨W1, hW1⟩ : ∃ W1, W1 = W0.drewN nq := ⟨_, rfl⟩
  have k1 : Kept none' W0 W1 := by rw [hW1]; exact (Kept.refl none' W0).drewN nq
  have K1 := hid (none_trans K0.out k1)
  have X1 := hid ((k1.block _ (heap_lt X0.out) (fun x => x)).trans X0.out)
  have Y1 := hid ((k1.block _ (heap_lt Y0.out) (fun x => x)).trans Y0.out)
  rw [← hW1]
  clear k1 hW1 K0 X0 Y0 c0 c1 c2 hd0 hd1
  obtain ⟨c0, c1, c2⟩ := box3 X1.out
  have fx : ∀ j, W1.frozen? ⟨w.heap.size, j, none⟩ = false := fun j => by simp [World.frozen?, X1.out]
  go_region_with (go_at_call 49; refine (PW.out _).mono ?_; rintro e w3 ⟨rfl, rfl⟩)
  all_goals
    have ks : Kept none' w (W1.setCell ⟨w.heap.size, 1, none⟩ (.slice (adr g) n' cp)).drew := (K1.out.setNew (p := ⟨w.heap.size, 1, none⟩) (fun e => absurd e (Nat.lt_irrefl _)) _).drew
    have K2 := hid ks
    have X2 := hid (show (W1.setCell ⟨w.heap.size, 1, none⟩ (.slice (adr g) n' cp)).drew.heap[w.heap.size]? = some (ro m.o g n' cp (.slice qa m.o qc)) from (heap_set X1.out 1 (.slice (adr g) n' cp)))
    have Y2 := hid (show (W1.setCell ⟨w.heap.size, 1, none⟩ (.slice (adr g) n' cp)).drew.heap[w.heap.size + 1]? = some roZ from (((Kept.refl (fun y => y = w.heap.size) W1).setCell (p := ⟨w.heap.size, 1, none⟩) rfl _).block _ (heap_lt Y1.out) (by omega)).trans Y1.out)
    obtain ⟨W2, hW2⟩ : ∃ W2, W2 = (W1.setCell ⟨w.heap.size, 1, none⟩ (.slice (adr g) n' cp)).drew := ⟨_, rfl⟩
    rw [← hW2] at K2 X2 Y2 ⊢
    have R2 := hid (HR.out.keep K2.out)
    have PA := hid (paired_any m.o n' cp m.o ho8 (by omega) g (.slice qa m.o qc) R (ln m.n) (fun k => bit (m.wd k)) W2 R2.out.pr ho8 (fun k hk => Nat.le_trans (Nat.div_le_self _ _) hn1) R2.out.bs)
    clear ks hW2 K1 X1 Y1 c0 c1 c2 fx
    obtain ⟨c0, c1, c2⟩ := box3 X2.out
    go_wp2_with fail
    refine PA.out.mono ?_
    rintro e w4 ⟨q', rfl, R', hP⟩
    obtain ⟨qa', qc', rfl⟩ := hP.val
    have Y4 := hid ((hP.gs.kp.block _ (heap_lt Y2.out) (fun x => x)).trans Y2.out)
    have HP := hid (fun u0 u1 u2 => (hP.base K2.out).stored Y4.out (by omega) u0 u1 u2)
    obtain ⟨d0, d1, d2⟩ := boxZ Y4.out
    have fz : ∀ j, w4.frozen? ⟨w.heap.size + 1, j, none⟩ = false := fun j => by simp [World.frozen?, Y4.out]
    clear hP PA K2 X2 Y2 c0 c1 c2 hmul hsub hdv hdt hyw hdw hnw
    go_wp2_with fail
    refine ⟨rfl, .tuple #[rv m.o g n' cp (.slice qa' m.o qc'), .int .i64 0], by simp [results, Try.results58, go_sem, d0, d1, d2, adr], _, rfl, R', ?_⟩
    have hp := HP.out
    refine ⟨(hp _ _ _).ref ho8 (by omega) hncp ?_ (fun k hk i hi => bits_resize (W := wM) HM.out n' k hk i hi), fun x hx => (hp (.int .i64 0) (.int .i64 0) (.int .i64 0)).own g x hx, (hp _ _ _).gs.kp⟩
    refine (HR.out.rq.kept (hp _ _ _).gs.kp (fun _ _ x => x)).congr hnn (fun i hi => ?_)
    rw [if_pos (by omega)]
theorem Shrink_ref (b : Nat) (B : Bs) (g : Option Nat) (cp : Nat) (q : Value) (R : Nat → Nat) (m : Mp) (w wM : World) (hM : MapAt wM b B m) (h : RefAt w g cp q R m) (x : Int) :
    Calls Try.prog 58 #[rv m.o g m.n cp q, .int .i64 x] w fun e w' => ∃ q', e = .returned (.tuple #[rv (shrinkM m x).o g (shrinkM m x).n cp q', .int .i64 (shrinkE m x)]) ∧ ∃ R', RefAt w' g cp q' R' (shrinkM m x) ∧ (∀ y, rown g q' R' (shrinkM m x).o y → rown g q R m.o y ∨ w.heap.size ≤ y) ∧ Kept none' w w' := by
  by_cases hn : 0 ≤ x ∧ x ≤ ((m.n / 2 ^ m.o : Nat) : Int)
  · obtain ⟨k, rfl⟩ := Int.eq_ofNat_of_zero_le hn.1
    have hc : canShrink m (k : Int) = true := decide_eq_true hn
    rw [show shrinkE m (k : Int) = 0 by simp only [shrinkE, hc, if_true], show shrinkM m (k : Int) = resizeM m (m.n - k * 2 ^ m.o) by simp only [shrinkM, hc, if_true, Int.toNat_natCast]]
    refine (shrink_ref_yes b B g cp q R m w wM hM h k (by omega)).mono ?_
    rintro e w' ⟨q', rfl, R', hA⟩
    exact ⟨q', rfl, R', hA.ref, fun y hy => (hA.own y hy).imp (fun e => .inl e) (fun e => e), hA.kp⟩
  · have hc : canShrink m x = false := decide_eq_false hn
    rw [show shrinkE m x = 1 by simp [shrinkE, hc], show shrinkM m x = m by simp [shrinkM, hc]]
    refine (shrink_ref_no g cp q R m w h x (by omega)).mono ?_
    rintro e w' ⟨rfl, hk⟩
    exact ⟨q, rfl, R, h.keep hk, fun y hy => .inl hy, hk⟩
end Go.Proofs.Ytbhheimedbfmeaa
