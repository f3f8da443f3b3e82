import Derived.Test.YtgjapopddblpoaaGreatDoorRg
/- Package malloc: take, give, request. -/
namespace Go.Proofs.YtgjapopddblpoaaGreatDoor
open Go.RowKit
set_option linter.unusedVariables false

theorem SO.bty8 {w W sb lw x t fr ls S h} (s : SO w W sb lw x t fr ls S h) {y : Nat} {cs : Array Value} {z : Nat × Nat} (hy : W.heap[y]? = some (.cells cs 74 z)) : ¬ sown x sb y := by
  rintro (e | e)
  · exact absurd (s.sw.pl.pty hy (.inl e)) (by unfold Go.Proofs.YtgjapopddblpoaaGreatDoor.pty; decide)
  · subst e
    exact absurd (ty_ne' hy s.sw.bx) (by decide)
section
variable {w W W1 W' : World} {hb sb lw : Nat} {x : Bx} {t : Bt} {fr : Nat → List Nat} {ls : List (Nat × Nat)} {S : Sb} {s : Int}
theorem Nx.from {x' t' fr' ls' S'} (k : Kept none' W W1) (h : Nx w W1 W' hb sb lw x t ls S s x' t' fr' ls' S') : Nx w W W' hb sb lw x t ls S s x' t' fr' ls' S' :=
  ⟨h.H, h.ch, (k.mono (fun _ _ e => e.elim)).trans h.kp (fun _ _ e => e) (fun _ _ e => e), fun y hy => (h.ns y hy).imp id (Nat.le_trans k.size)⟩
theorem Tq.from {r : Nat} {d : Bool} {p : Nat} {er : Int} (k : Kept none' W W1) (h : Tq w W1 hb sb lw x t fr ls S s r d p er W') : Tq w W hb sb lw x t fr ls S s r d p er W' := by
  cases h with
  | no hp he nf hd kp => exact .no hp he nf hd (none_trans k kp)
  | yes x' t' fr' ls' S' b he td nx hL hN hn hm hb1 hb2 => exact .yes x' t' fr' ls' S' b he td (nx.from k) hL hN hn hm hb1 hb2
theorem Gq.from {p z : Nat} (k : Kept none' W W1) (h : Gq w W1 hb sb lw x t fr ls S s p z W') : Gq w W hb sb lw x t fr ls S s p z W' := by
  obtain ⟨x', t', fr', ls', S', gd, nx, hL, hn⟩ := h
  exact ⟨x', t', fr', ls', S', gd, nx.from k, hL, hn⟩
theorem Tq.st {r : Nat} {d : Bool} {p : Nat} {er : Int} (H : HW w W hb sb lw x t fr ls S s) (h : Tq w W hb sb lw x t fr ls S s r d p er W') : ∃ x' t' fr' ls' S', HW w W' hb sb lw x' t' fr' ls' S' s := by
  cases h with
  | no hp he nf hd kp => exact ⟨_, _, _, _, _, H.keep kp⟩
  | yes x' t' fr' ls' S' b he td nx => exact ⟨_, _, _, _, _, nx.H⟩
theorem Tq.c {r : Nat} {d : Bool} {p : Nat} {er : Int} (H : HW w W hb sb lw x t fr ls S s) (h : Tq w W hb sb lw x t fr ls S s r d p er W') : W'.cell? ⟨hb, 5, none⟩ = some (.pointer (some ⟨lw, 0, none⟩)) ∧ W'.cell? ⟨hb, 6, none⟩ = some (.pointer (some ⟨sb, 0, none⟩)) := by
  obtain ⟨x', t', fr', ls', S', H'⟩ := h.st H
  exact ⟨H'.c.2.2.2.2.1, H'.c.2.2.2.2.2⟩
set_option maxRecDepth 4000 in
set_option maxHeartbeats 1000000 in
theorem take_small_h (H : HW w W hb sb lw x t fr ls S s) {k : Nat} (hk : k < 8) (d : Bool) :
    Calls Tryz.prog 58 #[.pointer (some ⟨hb, 0, none⟩), .int .u64 ((szC k : Nat) : Int), .bool d] W fun e w' => ∃ p er, e = .returned (.tuple #[.int .u64 ((p : Nat) : Int), .int .i64 er]) ∧ Tq w W hb sb lw x t fr ls S s (szC k) d p er w' := by
  have hz := szC_le hk
  obtain ⟨c0, c2, c3, c4, c5, c6⟩ := H.c
  have KD := hid ((Kept.refl none' W).drew)
  have CL := hid (class_h k hk)
  have TK := hid (((H.keep KD.out).take_small hk d).mono fun e w' h => (show ∃ p g er, e = tkE p g er ∧ Tq w W hb sb lw x t fr ls S s (szC k) d p er w' from by
    obtain ⟨p, g, er, he, hT⟩ := h
    exact ⟨p, g, er, he, hT.from KD.out⟩))
  have TC := hid (fun (w' : World) (p : Nat) (er : Int) (h : Tq w W hb sb lw x t fr ls S s (szC k) d p er w') => h.c H)
  obtain ⟨r, hr⟩ : ∃ r, r = szC k := ⟨_, rfl⟩
  rw [← hr] at hz CL TK TC ⊢
  have hlt : (r : Int) < 4096 := by omega
  have d5 : W.drew.cell? ⟨hb, 5, none⟩ = some (.pointer (some ⟨lw, 0, none⟩)) := c5
  have d6 : W.drew.cell? ⟨hb, 6, none⟩ = some (.pointer (some ⟨sb, 0, none⟩)) := c6
  clear H hr hk hz
  go_enter Tryz.func58, Tryz.ntmps58
  go_wp2_with fail
  go_region_held3 (fun w' => w'.cell? ⟨hb, 6, none⟩ = some (.pointer (some ⟨sb, 0, none⟩))) (first | with_reducible exact d6 | with_reducible exact e6) (first
    | (go_at_call 93; (with_reducible refine (CL.out _).mono ?_); rintro e w5 ⟨rfl, h5⟩; replace h5 := h5.symm; subst h5)
    | (go_at_call 92; (with_reducible refine (TK.out).mono ?_); rintro e w2 ⟨p, g, er, rfl, hT⟩; have e6 := (TC.out _ _ _ hT).2; have D := hid hT; clear hT)
    | fail)
  all_goals
    go_wp2_with fail
    exact ⟨rfl, .tuple #[.int .u64 ((p : Nat) : Int), .int .i64 er], by simp [results, Tryz.results58, go_sem], p, er, rfl, D.out⟩
set_option maxRecDepth 4000 in
set_option maxHeartbeats 1000000 in
theorem take_big_h (H : HW w W hb sb lw x t fr ls S s) {k : Nat} (hk : k ≤ x.o) (d : Bool) :
    Calls Tryz.prog 58 #[.pointer (some ⟨hb, 0, none⟩), .int .u64 ((4096 * 2 ^ k : Nat) : Int), .bool d] W fun e w' => ∃ p er, e = .returned (.tuple #[.int .u64 ((p : Nat) : Int), .int .i64 er]) ∧ Tq w W hb sb lw x t fr ls S s (4096 * 2 ^ k) d p er w' := by
  have hz : 0 < 2 ^ k := Nat.pow_pos (by decide)
  have hk8 : k ≤ 8 := Nat.le_trans hk H.po.nums.1
  obtain ⟨c0, c2, c3, c4, c5, c6⟩ := H.c
  have KD := hid ((Kept.refl none' W).drew)
  have CL := hid (order_h k hk8)
  have TK := hid (((H.keep KD.out).need_big hk d).mono fun e w' h => (show ∃ p g er, e = tkE p g er ∧ Tq w W hb sb lw x t fr ls S s (4096 * 2 ^ k) d p er w' from by
    obtain ⟨p, g, er, he, hT⟩ := h
    exact ⟨p, g, er, he, hT.from KD.out⟩))
  have TC := hid (fun (w' : World) (p : Nat) (er : Int) (h : Tq w W hb sb lw x t fr ls S s (4096 * 2 ^ k) d p er w') => h.c H)
  obtain ⟨r, hr⟩ : ∃ r, r = 4096 * 2 ^ k := ⟨_, rfl⟩
  have hlr : ¬ r < 4096 := by omega
  rw [← hr] at CL TK TC ⊢
  have hlt : ¬ (r : Int) < 4096 := by omega
  have d5 : W.drew.cell? ⟨hb, 5, none⟩ = some (.pointer (some ⟨lw, 0, none⟩)) := c5
  clear H hr hk hz hk8
  go_enter Tryz.func58, Tryz.ntmps58
  go_wp2_with fail
  go_region_held3 (fun w' => w'.cell? ⟨hb, 5, none⟩ = some (.pointer (some ⟨lw, 0, none⟩))) (first | with_reducible exact d5 | with_reducible exact e5) (first
    | (go_at_call 50; (with_reducible refine (CL.out _).mono ?_); rintro e w5 ⟨rfl, h5⟩; replace h5 := h5.symm; subst h5)
    | (go_at_call 94; (with_reducible refine (TK.out).mono ?_); rintro e w2 ⟨p, g, er, rfl, hT⟩; have e5 := (TC.out _ _ _ hT).1; have D := hid hT; clear hT)
    | fail)
  all_goals
    go_wp2_with fail
    exact ⟨rfl, .tuple #[.int .u64 ((p : Nat) : Int), .int .i64 er], by simp [results, Tryz.results58, go_sem], p, er, rfl, D.out⟩
theorem take_h (H : HW w W hb sb lw x t fr ls S s) (r : Nat) (hr : (∃ k, k < 8 ∧ r = szC k) ∨ (∃ k, k ≤ x.o ∧ r = 4096 * 2 ^ k)) (d : Bool) :
    Calls Tryz.prog 58 #[.pointer (some ⟨hb, 0, none⟩), .int .u64 (r : Int), .bool d] W fun e w' => ∃ p er, e = .returned (.tuple #[.int .u64 ((p : Nat) : Int), .int .i64 er]) ∧ Tq w W hb sb lw x t fr ls S s r d p er w' := by
  rcases hr with ⟨k, hk, rfl⟩ | ⟨k, hk, rfl⟩
  · exact take_small_h H hk d
  · exact take_big_h H hk d
theorem Gq.c {p z : Nat} (h : Gq w W hb sb lw x t fr ls S s p z W') : W'.cell? ⟨hb, 5, none⟩ = some (.pointer (some ⟨lw, 0, none⟩)) ∧ W'.cell? ⟨hb, 6, none⟩ = some (.pointer (some ⟨sb, 0, none⟩)) := by
  obtain ⟨x', t', fr', ls', S', gd, nx, hL, hn⟩ := h
  exact ⟨nx.H.c.2.2.2.2.1, nx.H.c.2.2.2.2.2⟩
theorem Gq.box {p z y a c : Nat} (H : HW w W hb sb lw x t fr ls S s) (h : Gq w W hb sb lw x t fr ls S s p z W') (hy : W.heap[y]? = some (bkO a c)) : W'.heap[y]? = some (bkO a c) := by
  obtain ⟨h', o⟩ := H.so
  obtain ⟨x', t', fr', ls', S', gd, nx, hL, hn⟩ := h
  exact (nx.kp.block _ (heap_lt hy) (o.bty8 hy)).trans hy
set_option maxRecDepth 4000 in
set_option maxHeartbeats 1000000 in
theorem give_cell_h (H : HW w W hb sb lw x t fr ls S s) {p g k i : Nat} (hv : Liv x S p g k i) :
    Calls Tryz.prog 46 #[.pointer (some ⟨hb, 0, none⟩), bkV p (szC k)] W fun e w' => e = .returned (.int .i64 0) ∧ Gq w W hb sb lw x t fr ls S s p (szC k) w' := by
  have hk : k < 8 := by
    obtain ⟨h', o⟩ := H.so
    exact (o.si.pg g k hv.1).1
  have hz := szC_le hk
  have K0 := hid ((Kept.refl none' W).alloc (bkO p (szC k)))
  have KD := hid (none_trans K0.out (Kept.refl none' _).drew)
  have X0 := hid (show (W.alloc (bkO p (szC k))).drew.heap[W.heap.size]? = some (bkO p (szC k)) from heap_new W (bkO p (szC k)))
  obtain ⟨c0, c2, c3, c4, c5, c6⟩ := (H.keep K0.out).c
  obtain ⟨k0, k2, k3, k4, k5, k6⟩ := (H.keep KD.out).c
  obtain ⟨y0, y1, yf⟩ := bkc X0.out
  obtain ⟨x0, x1, xf⟩ := bkc (show (W.alloc (bkO p (szC k))).heap[W.heap.size]? = some (bkO p (szC k)) from heap_new W (bkO p (szC k)))
  have GV := hid (((H.keep KD.out).give_cell hv).mono fun e w' h => (show e = .returned (.int .i64 0) ∧ Gq w W hb sb lw x t fr ls S s p (szC k) w' ∧ (w'.cell? ⟨hb, 6, none⟩ = some (.pointer (some ⟨sb, 0, none⟩)) ∧ w'.cell? ⟨W.heap.size, 0, none⟩ = some (.int .u64 (p : Int))) from
    ⟨h.1, h.2.from KD.out, h.2.c.2, (bkc (h.2.box (H.keep KD.out) X0.out)).1⟩))
  obtain ⟨r, hr⟩ : ∃ r, r = szC k := ⟨_, rfl⟩
  rw [← hr] at hz K0 KD X0 c5 c6 k5 k6 y0 y1 x0 x1 GV ⊢
  have hlt : (r : Int) < 4096 := by omega
  clear H hr hk hz hv
  go_enter Tryz.func46, Tryz.ntmps46
  go_wp2_with fail
  go_region_held3 (fun w' => w'.cell? ⟨hb, 6, none⟩ = some (.pointer (some ⟨sb, 0, none⟩)) ∧ w'.cell? ⟨W.heap.size, 0, none⟩ = some (.int .u64 (p : Int))) (first | with_reducible exact ⟨k6, y0⟩ | with_reducible exact e6) (first
    | (go_at_call 79; (with_reducible refine (GV.out).mono ?_); rintro e w2 ⟨rfl, hT, e6⟩; have D := hid hT; clear hT)
    | fail)
  all_goals
    go_wp2_with fail
    go_ret
    exact ⟨rfl, D.out⟩
set_option maxRecDepth 4000 in
set_option maxHeartbeats 1000000 in
theorem give_pages_h (H : HW w W hb sb lw x t fr ls S s) {p q k : Nat} (hm : (q, k) ∈ ls) (hc : S.c q = none) (hp : p = ad x q) :
    Calls Tryz.prog 46 #[.pointer (some ⟨hb, 0, none⟩), bkV p (4096 * 2 ^ k)] W fun e w' => e = .returned (.int .i64 0) ∧ Gq w W hb sb lw x t fr ls S s p (4096 * 2 ^ k) w' := by
  have hk8 : k ≤ 8 := by
    obtain ⟨h', o⟩ := H.so
    exact Nat.le_trans (o.al hm).1 o.po.nums.1
  have hz : 0 < 2 ^ k := Nat.pow_pos (by decide)
  have CL := hid (order_h k hk8)
  have K0 := hid ((Kept.refl none' W).alloc (bkO p (4096 * 2 ^ k)))
  have KD := hid (none_trans K0.out (Kept.refl none' _).drew)
  have X0 := hid (show (W.alloc (bkO p (4096 * 2 ^ k))).drew.heap[W.heap.size]? = some (bkO p (4096 * 2 ^ k)) from heap_new W (bkO p (4096 * 2 ^ k)))
  obtain ⟨c0, c2, c3, c4, c5, c6⟩ := (H.keep K0.out).c
  obtain ⟨k0, k2, k3, k4, k5, k6⟩ := (H.keep KD.out).c
  obtain ⟨y0, y1, yf⟩ := bkc X0.out
  obtain ⟨x0, x1, xf⟩ := bkc (show (W.alloc (bkO p (4096 * 2 ^ k))).heap[W.heap.size]? = some (bkO p (4096 * 2 ^ k)) from heap_new W (bkO p (4096 * 2 ^ k)))
  have GV := hid (((H.keep KD.out).give_pages hm hc hp).mono fun e w' h => (show e = .returned (.int .i64 0) ∧ Gq w W hb sb lw x t fr ls S s p (4096 * 2 ^ k) w' ∧ (w'.cell? ⟨hb, 5, none⟩ = some (.pointer (some ⟨lw, 0, none⟩)) ∧ w'.cell? ⟨W.heap.size, 0, none⟩ = some (.int .u64 (p : Int)) ∧ w'.cell? ⟨W.heap.size, 1, none⟩ = some (.int .u64 ((4096 * 2 ^ k : Nat) : Int))) from
    ⟨h.1, h.2.from KD.out, h.2.c.1, (bkc (h.2.box (H.keep KD.out) X0.out)).1, (bkc (h.2.box (H.keep KD.out) X0.out)).2.1⟩))
  obtain ⟨r, hr⟩ : ∃ r, r = 4096 * 2 ^ k := ⟨_, rfl⟩
  have hlr : ¬ r < 4096 := by omega
  rw [← hr] at CL K0 KD X0 c5 c6 k5 k6 y0 y1 x0 x1 GV ⊢
  have hlt : ¬ (r : Int) < 4096 := by omega
  clear H hr hz hm hc hp hk8
  go_enter Tryz.func46, Tryz.ntmps46
  go_wp2_with fail
  go_region_held3 (fun w' => w'.cell? ⟨hb, 5, none⟩ = some (.pointer (some ⟨lw, 0, none⟩)) ∧ w'.cell? ⟨W.heap.size, 0, none⟩ = some (.int .u64 (p : Int)) ∧ w'.cell? ⟨W.heap.size, 1, none⟩ = some (.int .u64 (r : Int))) (first | with_reducible exact ⟨k5, y0, y1⟩ | with_reducible exact e6) (first
    | (go_at_call 50; (with_reducible refine (CL.out _).mono ?_); rintro e w5 ⟨rfl, h5⟩; replace h5 := h5.symm; subst h5)
    | (go_at_call 80; (with_reducible refine (GV.out).mono ?_); rintro e w2 ⟨rfl, hT, e6⟩; have D := hid hT; clear hT)
    | fail)
  all_goals
    go_wp2_with fail
    go_ret
    exact ⟨rfl, D.out⟩
theorem give_h (H : HW w W hb sb lw x t fr ls S s) {p z : Nat} (hl : Lth x ls S p z) :
    Calls Tryz.prog 46 #[.pointer (some ⟨hb, 0, none⟩), bkV p z] W fun e w' => e = .returned (.int .i64 0) ∧ Gq w W hb sb lw x t fr ls S s p z w' := by
  rcases hl with ⟨g, k, i, hv, rfl⟩ | ⟨q, k, hm, hc, hp, rfl⟩
  · exact give_cell_h H hv
  · exact give_pages_h H hm hc hp
/-- What a request for m bytes answers. -/
inductive Rq8 (w W : World) (hb sb lw : Nat) (x : Bx) (t : Bt) (fr : Nat → List Nat) (ls : List (Nat × Nat)) (S : Sb) (s : Int) (m : Nat) (d : Bool) (p : Nat) (er : Int) (w' : World) : Prop where
  | big (ho : szOk x.o m = false) (hp : p = 0) (he : er = 3) (kp : Kept none' W w')
  | ok (ho : szOk x.o m = true) (hT : Tq w W hb sb lw x t fr ls S s (2 ^ cl m) d p er w')
theorem Rq8.from {m d p er} (k : Kept none' W W1) (h : Rq8 w W1 hb sb lw x t fr ls S s m d p er W') : Rq8 w W hb sb lw x t fr ls S s m d p er W' := by
  cases h with
  | big ho hp he kp => exact .big ho hp he (none_trans k kp)
  | ok ho hT => exact .ok ho (hT.from k)
theorem Rq8.st {m d p er} (H : HW w W hb sb lw x t fr ls S s) (h : Rq8 w W hb sb lw x t fr ls S s m d p er W') : ∃ x' t' fr' ls' S', HW w W' hb sb lw x' t' fr' ls' S' s := by
  cases h with
  | big ho hp he kp => exact ⟨_, _, _, _, _, H.keep kp⟩
  | ok ho hT => exact hT.st H
set_option maxRecDepth 4000 in
theorem request_h (H : HW w W hb sb lw x t fr ls S s) (sz al : Nat) (hs : sz < 18446744073709551616) (ha : al < 18446744073709551616) (d : Bool) (m : Nat) (hm : m = max (max sz al) 16) :
    Calls Tryz.prog 37 #[.pointer (some ⟨hb, 0, none⟩), .int .u64 (sz : Int), .int .u64 (al : Int), .bool d] W fun e w' => ∃ p er, e = .returned (.tuple #[.int .u64 ((p : Nat) : Int), .int .i64 er]) ∧ Rq8 w W hb sb lw x t fr ls S s m d p er w' := by
  have SF := hid (sizeFor_h H sz al hs ha m hm)
  have HH := hid H
  cases ho : szOk x.o m with
  | false =>
    rw [ho] at SF
    rw [if_neg (by decide), if_neg (by decide)] at SF
    have D := hid (show Rq8 w W hb sb lw x t fr ls S s m d 0 3 W from .big ho rfl rfl (Kept.refl _ _))
    clear H ho hm
    go_enter Tryz.func37, Tryz.ntmps37
    go_wp2_with fail
    refine SF.out.mono ?_
    rintro e w1 ⟨rfl, h1⟩
    replace h1 := h1.symm
    subst h1
    go_wp2_with fail
    exact ⟨rfl, .tuple #[.int .u64 ((0 : Nat) : Int), .int .i64 3], by simp [results, Tryz.results37, go_sem], 0, 3, rfl, D.out⟩
  | true =>
    rw [ho] at SF
    rw [if_pos rfl, if_pos rfl] at SF
    have TK := hid ((take_h H (2 ^ cl m) (sz_kind (by omega) ho) d).mono fun e w' h => (show ∃ p er, e = .returned (.tuple #[.int .u64 ((p : Nat) : Int), .int .i64 er]) ∧ Rq8 w W hb sb lw x t fr ls S s m d p er w' from by
      obtain ⟨p, er, he, hT⟩ := h
      exact ⟨p, er, he, .ok ho hT⟩))
    generalize 2 ^ cl m = r at *
    clear H ho hm
    go_enter Tryz.func37, Tryz.ntmps37
    go_wp2_with fail
    refine SF.out.mono ?_
    rintro e w1 ⟨rfl, h1⟩
    replace h1 := h1.symm
    subst h1
    go_wp2_with fail
    refine TK.out.mono ?_
    rintro e w2 ⟨p, er, rfl, hT⟩
    have D := hid hT
    clear hT
    go_wp2_with fail
    exact ⟨rfl, .tuple #[.int .u64 ((p : Nat) : Int), .int .i64 er], by simp [results, Tryz.results37, go_sem], p, er, rfl, D.out⟩
end
end Go.Proofs.YtgjapopddblpoaaGreatDoor
