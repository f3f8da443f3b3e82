import Derived.Test.YtgjapopddblpoaaGreatDoorHpG
/- Package malloc: Malloc, AlignedAlloc, Free, UsableSize. -/
namespace Go.Proofs.YtgjapopddblpoaaGreatDoor
open Go.RowKit
open Go.MuLone
set_option linter.unusedVariables false

/-- The world with the lock taken; let go. -/
abbrev lk1 (W : World) (hb : Nat) : World := W.setCell ⟨hb, 0, none⟩ (.int .i32 1)
abbrev lk0 (W : World) (hb : Nat) : World := W.setCell ⟨hb, 0, none⟩ (.int .i32 0)
section
variable {w W W1 W' : World} {hb sb lw : Nat} {x : Bx} {t : Bt} {fr : Nat → List Nat} {ls : List (Nat × Nat)} {S : Sb} {s : Int}
theorem HW.in (H : HW w W hb sb lw x t fr ls S 0) : HW w (lk1 W hb) hb sb lw x t fr ls S 1 := (H.set 1).1
theorem HW.kout (H : HW w W hb sb lw x t fr ls S 0) (k : Kept none' (lk1 W hb) W') : Kept none' W (lk0 W' hb) := H.round (fun e => e) k (H.in.keep k) rfl rfl rfl
theorem Nx.out {x' t' fr' ls' S'} (H : HW w W hb sb lw x t fr ls S 0) (n : Nx w (lk1 W hb) W' hb sb lw x t ls S 1 x' t' fr' ls' S') : Nx w W (lk0 W' hb) hb sb lw x t ls S 0 x' t' fr' ls' S' :=
  ⟨(n.H.set 0).1, n.ch, H.round H.nhb n.kp n.H n.ch.base n.ch.lim n.ch.o, fun y hy => (n.ns y hy).imp id (fun e => by simpa using e)⟩
theorem Tq.out {r d p er} (H : HW w W hb sb lw x t fr ls S 0) (h : Tq w (lk1 W hb) hb sb lw x t fr ls S 1 r d p er W') : Tq w W hb sb lw x t fr ls S 0 r d p er (lk0 W' hb) := by
  cases h with
  | no hp he nf hd kp => exact .no hp he nf hd (H.kout kp)
  | yes x' t' fr' ls' S' b he td nx hL hN hn hm hb1 hb2 => exact .yes x' t' fr' ls' S' b he td (nx.out H) hL hN hn hm hb1 hb2
theorem Gq.out {p z} (H : HW w W hb sb lw x t fr ls S 0) (h : Gq w (lk1 W hb) hb sb lw x t fr ls S 1 p z W') : Gq w W hb sb lw x t fr ls S 0 p z (lk0 W' hb) := by
  obtain ⟨x', t', fr', ls', S', gd, nx, hL, hn⟩ := h
  exact ⟨x', t', fr', ls', S', gd, nx.out H, hL, hn⟩
theorem Rq8.out {m d p er} (H : HW w W hb sb lw x t fr ls S 0) (h : Rq8 w (lk1 W hb) hb sb lw x t fr ls S 1 m d p er W') : Rq8 w W hb sb lw x t fr ls S 0 m d p er (lk0 W' hb) := by
  cases h with
  | big ho hp he kp => exact .big ho hp he (H.kout kp)
  | ok ho hT => exact .ok ho (hT.out H)
set_option maxRecDepth 4000 in
theorem Malloc_h (H : HW w W hb sb lw x t fr ls S 0) (sz : Nat) (hs : sz < 18446744073709551616) (d : Bool) (m : Nat) (hm : m = max sz 16) :
    Calls Tryz.prog 10 #[.pointer (some ⟨hb, 0, none⟩), .int .u64 (sz : Int), .bool d] W fun e w' => ∃ p er, e = .returned (.tuple #[.int .u64 ((p : Nat) : Int), .int .i64 er]) ∧ Rq8 w W hb sb lw x t fr ls S 0 m d p er w' := by
  have LK := hid H.lock
  have RQ := hid (request_h H.in sz 1 hs (by decide) d m (by omega))
  have ST := hid (fun (w2 : World) (p : Nat) (er : Int) (h : Rq8 w (lk1 W hb) hb sb lw x t fr ls S 1 m d p er w2) => And.intro (h.st H.in) (h.out H))
  clear H hm
  go_enter_defers Tryz.func10, Tryz.ntmps10
  go_wp2_with fail
  refine LK.out.mono ?_
  rintro e w1 ⟨rfl, rfl⟩
  go_wp2_with fail
  refine RQ.out.mono ?_
  rintro e w2 ⟨p, er, rfl, hq⟩
  obtain ⟨⟨x', t', fr', ls', S', H2⟩, hD⟩ := ST.out _ _ _ hq
  have UL := hid (H2.unlock .returning)
  have D := hid hD
  clear hD H2 hq
  go_wp2_with fail
  refine leaves_cons (f := 36) (args := #[.pointer (some ⟨hb, 0, none⟩)]) (by simp) (by simp [go_sem]) ?_
  refine UL.out.mono ?_
  rintro e u' w3 ⟨rfl, rfl, rfl⟩
  exact ⟨_, results_tmp2 rfl _ _ _, p, er, rfl, D.out⟩
set_option maxRecDepth 4000 in
theorem Aligned_bad (H : HW w W hb sb lw x t fr ls S 0) (al sz : Nat) (ha : al < 18446744073709551616) (hs : sz < 18446744073709551616) (d : Bool) (hp : isP al = false) :
    Calls Tryz.prog 12 #[.pointer (some ⟨hb, 0, none⟩), .int .u64 (al : Int), .int .u64 (sz : Int), .bool d] W fun e w' => e = .returned (.tuple #[.int .u64 0, .int .i64 1]) ∧ Kept none' W w' := by
  have LK := hid H.lock
  have PW := hid (isPower_64 al ha (lk1 W hb))
  rw [hp] at PW
  have UL := hid (H.in.unlock .returning)
  have D := hid (H.kout (Kept.refl none' _))
  clear H hp
  go_enter_defers Tryz.func12, Tryz.ntmps12
  go_wp2_with fail
  refine LK.out.mono ?_
  rintro e w1 ⟨rfl, rfl⟩
  go_wp2_with fail
  refine PW.out.mono ?_
  rintro e w2 ⟨rfl, h2⟩
  replace h2 := h2.symm
  subst h2
  go_wp2_with fail
  refine leaves_cons (f := 36) (args := #[.pointer (some ⟨hb, 0, none⟩)]) (by simp) (by simp [go_sem]) ?_
  refine UL.out.mono ?_
  rintro e u' w3 ⟨rfl, rfl, rfl⟩
  exact ⟨_, results_tmp2 rfl _ _ _, rfl, D.out⟩
set_option maxRecDepth 4000 in
theorem Aligned_h (H : HW w W hb sb lw x t fr ls S 0) (al sz : Nat) (ha : al < 18446744073709551616) (hs : sz < 18446744073709551616) (d : Bool) (hp : isP al = true) (m : Nat) (hm : m = max (max sz al) 16) :
    Calls Tryz.prog 12 #[.pointer (some ⟨hb, 0, none⟩), .int .u64 (al : Int), .int .u64 (sz : Int), .bool d] W fun e w' => ∃ p er, e = .returned (.tuple #[.int .u64 ((p : Nat) : Int), .int .i64 er]) ∧ Rq8 w W hb sb lw x t fr ls S 0 m d p er w' := by
  have LK := hid H.lock
  have PW := hid (isPower_64 al ha (lk1 W hb))
  rw [hp] at PW
  have RQ := hid (request_h H.in sz al hs ha d m hm)
  have ST := hid (fun (w2 : World) (p : Nat) (er : Int) (h : Rq8 w (lk1 W hb) hb sb lw x t fr ls S 1 m d p er w2) => And.intro (h.st H.in) (h.out H))
  clear H hp hm
  go_enter_defers Tryz.func12, Tryz.ntmps12
  go_wp2_with fail
  refine LK.out.mono ?_
  rintro e w1 ⟨rfl, rfl⟩
  go_wp2_with fail
  refine PW.out.mono ?_
  rintro e w2 ⟨rfl, h2⟩
  replace h2 := h2.symm
  subst h2
  go_wp2_with fail
  refine RQ.out.mono ?_
  rintro e w2 ⟨p, er, rfl, hq⟩
  obtain ⟨⟨x', t', fr', ls', S', H2⟩, hD⟩ := ST.out _ _ _ hq
  have UL := hid (H2.unlock .returning)
  have D := hid hD
  clear hD H2 hq
  go_wp2_with fail
  refine leaves_cons (f := 36) (args := #[.pointer (some ⟨hb, 0, none⟩)]) (by simp) (by simp [go_sem]) ?_
  refine UL.out.mono ?_
  rintro e u' w3 ⟨rfl, rfl, rfl⟩
  exact ⟨_, results_tmp2 rfl _ _ _, p, er, rfl, D.out⟩
/-- What Free answers, and leaves. -/
inductive Fq (w W : World) (hb sb lw : Nat) (x : Bx) (t : Bt) (fr : Nat → List Nat) (ls : List (Nat × Nat)) (S : Sb) (s : Int) (p : Nat) (er : Int) (w' : World) : Prop where
  | nil (hp : p = 0) (he : er = 0) (kp : Kept none' W w')
  | bad (hp : p ≠ 0) (hl : ∀ c, ¬ Lth x ls S p c) (he : er = 1) (kp : Kept none' W w')
  | ok (z : Nat) (hp : p ≠ 0) (hl : Lth x ls S p z) (he : er = 0) (hG : Gq w W hb sb lw x t fr ls S s p z w')
set_option maxRecDepth 4000 in
set_option maxHeartbeats 1000000 in
theorem Free_h (H : HW w W hb sb lw x t fr ls S 0) (p : Nat) (hp : p < 18446744073709551616) :
    Calls Tryz.prog 14 #[.pointer (some ⟨hb, 0, none⟩), .int .u64 (p : Int)] W fun e w' => ∃ er, e = .returned (.int .i64 er) ∧ Fq w W hb sb lw x t fr ls S 0 p er w' := by
  have LK := hid H.lock
  have HH := hid H
  by_cases h0 : p = 0
  · subst h0
    have UL := hid (H.in.unlock .returning)
    have D := hid (show Fq w W hb sb lw x t fr ls S 0 0 0 (lk0 (lk1 W hb) hb) from .nil rfl rfl (H.kout (Kept.refl none' _)))
    clear H
    go_enter_defers Tryz.func14, Tryz.ntmps14
    go_wp2_with fail
    refine LK.out.mono ?_
    rintro e w1 ⟨rfl, rfl⟩
    go_wp2_with fail
    refine leaves_cons (f := 36) (args := #[.pointer (some ⟨hb, 0, none⟩)]) (by simp) (by simp [go_sem]) ?_
    refine UL.out.mono ?_
    rintro e u' w3 ⟨rfl, rfl, rfl⟩
    exact ⟨_, results_tmp rfl _ _ _, 0, rfl, D.out⟩
  · have hpi : ((p : Int) == 0) = false := by rw [beq_eq_false_iff_ne]; omega
    have SS := hid (starts_h H.in p hp)
    have H0 := hid h0
    clear H h0
    go_enter_defers Tryz.func14, Tryz.ntmps14
    go_wp2_with fail
    refine LK.out.mono ?_
    rintro e w1 ⟨rfl, rfl⟩
    go_wp2_with fail
    refine SS.out.mono ?_
    rintro e w2 ⟨a, z, l, rfl, hst, hk⟩
    have K3 := hid (hk.alloc (bkO a z))
    have X5 := hid (heap_new w2 (bkO a z))
    obtain ⟨x0, x1, xf⟩ := bkc X5.out
    rcases hst with ⟨rfl, rfl, hl⟩ | ⟨rfl, hl⟩
    · have GV := hid (give_h (HH.out.in.keep K3.out) hl)
      have OK := hid (fun (w4 : World) (h : Gq w (w2.alloc (bkO a z)) hb sb lw x t fr ls S 1 a z w4) => show (∃ x' t' fr' ls' S', HW w w4 hb sb lw x' t' fr' ls' S' 1) ∧ Fq w W hb sb lw x t fr ls S 0 a 0 (lk0 w4 hb) from by
        refine ⟨?_, .ok z H0.out hl rfl ((h.from K3.out).out HH.out)⟩
        obtain ⟨x', t', fr', ls', S', gd, nx, _⟩ := h
        exact ⟨_, _, _, _, _, nx.H⟩)
      clear hl hk
      go_wp2_with fail
      refine GV.out.mono ?_
      rintro e w4 ⟨rfl, hG⟩
      obtain ⟨⟨x', t', fr', ls', S', H2⟩, hD⟩ := OK.out _ hG
      have UL := hid (H2.unlock .returning)
      have D := hid hD
      clear hD H2 hG
      go_wp2_with fail
      refine leaves_cons (f := 36) (args := #[.pointer (some ⟨hb, 0, none⟩)]) (by simp) (by simp [go_sem]) ?_
      refine UL.out.mono ?_
      rintro e u' w3 ⟨rfl, rfl, rfl⟩
      exact ⟨_, results_tmp rfl _ _ _, 0, rfl, D.out⟩
    · have UL := hid ((HH.out.in.keep K3.out).unlock .returning)
      have D := hid (show Fq w W hb sb lw x t fr ls S 0 p 1 (lk0 (w2.alloc (bkO a z)) hb) from .bad H0.out hl rfl (HH.out.kout K3.out))
      clear hl hk
      go_wp2_with fail
      refine leaves_cons (f := 36) (args := #[.pointer (some ⟨hb, 0, none⟩)]) (by simp) (by simp [go_sem]) ?_
      refine UL.out.mono ?_
      rintro e u' w3 ⟨rfl, rfl, rfl⟩
      exact ⟨_, results_tmp rfl _ _ _, 1, rfl, D.out⟩
set_option maxRecDepth 4000 in
set_option maxHeartbeats 1000000 in
theorem Usable_h (H : HW w W hb sb lw x t fr ls S 0) (p : Nat) (hp : p < 18446744073709551616) :
    Calls Tryz.prog 65 #[.pointer (some ⟨hb, 0, none⟩), .int .u64 (p : Int)] W fun e w' => ∃ z er, e = .returned (.tuple #[.int .u64 ((z : Nat) : Int), .int .i64 er]) ∧ ((er = 0 ∧ Lth x ls S p z) ∨ (er = 1 ∧ z = 0 ∧ ∀ c, ¬ Lth x ls S p c)) ∧ Kept none' W w' := by
  have LK := hid H.lock
  have HH := hid H
  have SS := hid (starts_h H.in p hp)
  clear H
  go_enter_defers Tryz.func65, Tryz.ntmps65
  go_wp2_with fail
  refine LK.out.mono ?_
  rintro e w1 ⟨rfl, rfl⟩
  go_wp2_with fail
  refine SS.out.mono ?_
  rintro e w2 ⟨a, z, l, rfl, hst, hk⟩
  have K3 := hid (hk.alloc (bkO a z))
  have X5 := hid (heap_new w2 (bkO a z))
  obtain ⟨x0, x1, xf⟩ := bkc X5.out
  have UL := hid ((HH.out.in.keep K3.out).unlock .returning)
  have D := hid (HH.out.kout K3.out)
  rcases hst with ⟨rfl, rfl, hl⟩ | ⟨rfl, hl⟩
  · have L := hid hl
    clear hl hk
    go_wp2_with fail
    refine leaves_cons (f := 36) (args := #[.pointer (some ⟨hb, 0, none⟩)]) (by simp) (by simp [go_sem]) ?_
    refine UL.out.mono ?_
    rintro e u' w3 ⟨rfl, rfl, rfl⟩
    exact ⟨_, results_tmp2 rfl _ _ _, z, 0, rfl, .inl ⟨rfl, L.out⟩, D.out⟩
  · have L := hid hl
    clear hl hk
    go_wp2_with fail
    refine leaves_cons (f := 36) (args := #[.pointer (some ⟨hb, 0, none⟩)]) (by simp) (by simp [go_sem]) ?_
    refine UL.out.mono ?_
    rintro e u' w3 ⟨rfl, rfl, rfl⟩
    exact ⟨_, results_tmp2 rfl _ _ _, 0, 1, rfl, .inr ⟨rfl, rfl, L.out⟩, D.out⟩
end
end Go.Proofs.YtgjapopddblpoaaGreatDoor
