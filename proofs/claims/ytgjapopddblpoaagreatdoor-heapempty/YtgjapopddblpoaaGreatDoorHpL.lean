import Derived.Test.YtgjapopddblpoaaGreatDoorHpI
/- Package malloc: Calloc. -/
namespace Go.Proofs.YtgjapopddblpoaaGreatDoor
open Go.RowKit
open Go.MuLone
set_option linter.unusedVariables false

section
variable {w W W1 W' : World} {hb sb lw : Nat} {x : Bx} {t : Bt} {fr : Nat → List Nat} {ls : List (Nat × Nat)} {S : Sb} {s : Int}
/-- Bytes of the block that came are written. -/
theorem Nx.fill {x' : Bx} {t' : Bt} {fr' : Nat → List Nat} {ls' : List (Nat × Nat)} {S' : Sb} {p r : Nat} {f' : Nat → Nat} (nx : Nx w W W1 hb sb lw x t ls S s x' t' fr' ls' S') (hL : ∀ a z, Lth x ls S a z → Lth x' ls' S' a z) (hl : Lth x' ls' S' p r) (hN : ∀ z, ¬ Lth x ls S p z) (wr : Wr w W1 hb sb lw x' t' fr' ls' S' s f' W') (hf : ∀ j, ¬ (p ≤ x'.base + j ∧ x'.base + j < p + r) → f' j = t'.f j) : Nx w W W' hb sb lw x t ls S s x' { t' with f := f' } fr' ls' S' := by
  refine ⟨wr.1, ⟨nx.ch.base, nx.ch.R, nx.ch.lim, nx.ch.o, fun j h1 h2 => ?_⟩, nx.kp.trans wr.2 (fun _ _ e => e) (fun y hy e => (nx.ns y e).elim id (fun e2 => absurd hy (Nat.not_lt.2 e2))), nx.ns⟩
  refine (hf j (fun e => ?_)).trans (nx.ch.kb j h1 h2)
  obtain ⟨a, z, l1, l2, l3⟩ := h1
  obtain ⟨h', o'⟩ := nx.H.so
  rw [nx.ch.base] at e
  rcases o'.two (hL a z l1) hl with ⟨e1, e2⟩ | e1 | e1
  · subst e1
    exact hN _ l1
  · omega
  · omega
theorem HW.fill (H : HW w W hb sb lw x t fr ls S s) {p z v : Nat} (hl : Lth x ls S p z) (hv : v < 256) :
    Calls Tryz.prog 59 #[.pointer (some ⟨x.s, 0, none⟩), .int .u64 (p : Int), .int .u64 (z : Int), .int .u8 (v : Int)] W fun e w' => e = .returned (.int .i64 0) ∧ Wr w W hb sb lw x t fr ls S s (M.upd t.f (p - x.base) z fun _ => v) w' := by
  obtain ⟨h', o⟩ := H.so
  have h0 := (o.span hl).1
  have hi := o.inside hl
  have hin : M.In x.base x.n p z := by unfold M.In; omega
  obtain ⟨g, hg, hs⟩ := H.space (by omega)
  refine (M.Fill_in x.s g x.base x.R x.lim x.n t.f p z v hv W hs h0 hin).mono ?_
  rintro e w' ⟨rfl, h3, h4⟩
  rw [← hg] at h3 h4
  exact ⟨rfl, H.wrote hl (fun j hj => M.upd_out _ _ _ _ _ (fun e => hj (by omega))) h3 (toK h4)⟩
/-- What Calloc answers, and leaves. -/
inductive Cz (w W : World) (hb sb lw : Nat) (x : Bx) (t : Bt) (fr : Nat → List Nat) (ls : List (Nat × Nat)) (S : Sb) (s : Int) (m : Nat) (d : Bool) (p : Nat) (er : Int) (w' : World) : Prop where
  | big (ho : szOk x.o m = false) (hp : p = 0) (he : er = 3) (kp : Kept none' W w')
  | no (ho : szOk x.o m = true) (hp : p = 0) (he : er = 2) (nf : NF x fr S (2 ^ cl m)) (hd : d = true ∨ x.n = x.lim * x.R) (kp : Kept none' W w')
  | yes (ho : szOk x.o m = true) (x' : Bx) (t' : Bt) (fr' : Nat → List Nat) (ls' : List (Nat × Nat)) (S' : Sb) (b : Bool) (he : er = 0) (td : Td x t fr ls S (2 ^ cl m) d p b fr' ls' S') (nx : Nx w W w' hb sb lw x t ls S s x' t' fr' ls' S') (hL : ∀ a z, Lth x' ls' S' a z ↔ Lth x ls S a z ∨ (a = p ∧ z = 2 ^ cl m)) (hN : ∀ z, ¬ Lth x ls S p z) (hn : x'.n = (if b = true then x.n + x.R else x.n)) (hm : p % 2 ^ cl m = 0) (hb1 : b = true → NF x fr S (2 ^ cl m) ∧ d = false ∧ x.n + x.R ≤ x.lim * x.R) (hb2 : b = false → ¬ NF x fr S (2 ^ cl m)) (hz : ∀ j, p ≤ x.base + j → x.base + j < p + 2 ^ cl m → t'.f j = 0)
theorem Cz.from {m : Nat} {d : Bool} {p : Nat} {er : Int} (k : Kept none' W W1) (h : Cz w W1 hb sb lw x t fr ls S s m d p er W') : Cz w W hb sb lw x t fr ls S s m d p er W' := by
  cases h with
  | big ho hp he kp => exact .big ho hp he (none_trans k kp)
  | no ho hp he nf hd kp => exact .no ho hp he nf hd (none_trans k kp)
  | yes ho x' t' fr' ls' S' b he td nx hL hN hn hm hb1 hb2 hz => exact .yes ho x' t' fr' ls' S' b he td (nx.from k) hL hN hn hm hb1 hb2 hz
theorem Cz.out {m : Nat} {d : Bool} {p : Nat} {er : Int} (H : HW w W hb sb lw x t fr ls S 0) (h : Cz w (lk1 W hb) hb sb lw x t fr ls S 1 m d p er W') : Cz w W hb sb lw x t fr ls S 0 m d p er (lk0 W' hb) := by
  cases h with
  | big ho hp he kp => exact .big ho hp he (H.kout kp)
  | no ho hp he nf hd kp => exact .no ho hp he nf hd (H.kout kp)
  | yes ho x' t' fr' ls' S' b he td nx hL hN hn hm hb1 hb2 hz => exact .yes ho x' t' fr' ls' S' b he td (nx.out H) hL hN hn hm hb1 hb2 hz
set_option maxRecDepth 4000 in
theorem Calloc_over (H : HW w W hb sb lw x t fr ls S 0) (n sz : Nat) (hn : n < 18446744073709551616) (hs : sz < 18446744073709551616) (d : Bool) (h0 : n ≠ 0) (hov : 18446744073709551615 / n < sz) :
    Calls Tryz.prog 20 #[.pointer (some ⟨hb, 0, none⟩), .int .u64 (n : Int), .int .u64 (sz : Int), .bool d] W fun e w' => e = .returned (.tuple #[.int .u64 0, .int .i64 3]) ∧ Kept none' W w' := by
  have LK := hid H.lock
  have UL := hid (H.in.unlock .returning)
  have D := hid (H.kout (Kept.refl none' _))
  obtain ⟨q, hq⟩ : ∃ q, q = 18446744073709551615 / n := ⟨_, rfl⟩
  have hqi : (18446744073709551615 : Int) / (n : Int) = (q : Int) := by rw [hq]; rfl
  have n0 : ((n : Int) != 0) = true := by rw [bne_iff_ne]; omega
  have n1 : ((n : Int) == 0) = false := by rw [beq_eq_false_iff_ne]; omega
  have n2 : ¬ (n : Int) = 0 := by omega
  have hlt : (q : Int) < (sz : Int) := by omega
  have hqb : q < 18446744073709551616 := by omega
  clear H hq hov h0
  go_enter_defers Tryz.func20, Tryz.ntmps20
  go_wp2_with fail
  refine LK.out.mono ?_
  rintro e w1 ⟨rfl, rfl⟩
  go_wp2_with fail
  refine leaves_cons (f := 36) (args := #[.pointer (some ⟨hb, 0, none⟩)]) (by simp) (by simp [go_sem]) ?_
  refine UL.out.mono ?_
  rintro e u' w3 ⟨rfl, rfl, rfl⟩
  exact ⟨_, results_tmp2 rfl _ _ _, rfl, D.out⟩
/-- The rest of Calloc, behind the test of the product. -/
theorem Calloc_k (H : HW w W hb sb lw x t fr ls S s) (d : Bool) (m : Nat) (hm : 16 ≤ m) (ho : szOk x.o m = true) :
    Calls Tryz.prog 58 #[.pointer (some ⟨hb, 0, none⟩), .int .u64 ((2 ^ cl m : Nat) : Int), .bool d] W fun e w1 => ∃ p er, e = .returned (.tuple #[.int .u64 ((p : Nat) : Int), .int .i64 er]) ∧ ((er = 2 ∧ p = 0 ∧ Cz w W hb sb lw x t fr ls S s m d 0 2 w1 ∧ Kept none' W w1) ∨ (er = 0 ∧ ∃ x' t' fr' ls' S', HW w w1 hb sb lw x' t' fr' ls' S' s ∧ Lth x' ls' S' p (2 ^ cl m) ∧ ∀ w', Wr w w1 hb sb lw x' t' fr' ls' S' s (M.upd t'.f (p - x'.base) (2 ^ cl m) fun _ => 0) w' → Cz w W hb sb lw x t fr ls S s m d p 0 w')) := by
  refine (take_h H (2 ^ cl m) (sz_kind hm ho) d).mono ?_
  rintro e w1 ⟨p, er, rfl, hT⟩
  refine ⟨p, er, rfl, ?_⟩
  cases hT with
  | no hp he nf hd kp => exact .inl ⟨he, hp, .no ho rfl rfl nf hd kp, kp⟩
  | yes x' t' fr' ls' S' b he td nx hL hN hn hmm hb1 hb2 =>
    have hl : Lth x' ls' S' p (2 ^ cl m) := (hL _ _).2 (.inr ⟨rfl, rfl⟩)
    refine .inr ⟨he, x', t', fr', ls', S', nx.H, hl, fun w' wr => ?_⟩
    have hi : x'.base ≤ p := by
      obtain ⟨h', o'⟩ := nx.H.so
      exact (o'.inside hl).1
    refine .yes ho x' { t' with f := M.upd t'.f (p - x'.base) (2 ^ cl m) fun _ => 0 } fr' ls' S' b rfl td (nx.fill (fun a z h => (hL a z).2 (.inl h)) hl hN wr (fun j hj => M.upd_out _ _ _ _ _ (fun e => hj (by omega)))) hL hN hn hmm hb1 hb2 (fun j h1 h2 => ?_)
    have hbb := nx.ch.base
    show M.upd t'.f (p - x'.base) (2 ^ cl m) (fun _ => 0) j = 0
    unfold M.upd
    rw [if_pos (by omega)]
set_option maxRecDepth 4000 in
set_option maxHeartbeats 1000000 in
theorem Calloc_h (H : HW w W hb sb lw x t fr ls S 0) (n sz : Nat) (hn : n < 18446744073709551616) (hs : sz < 18446744073709551616) (d : Bool) (hpr : n * sz < 18446744073709551616) (m : Nat) (hm : m = max (n * sz) 16) :
    Calls Tryz.prog 20 #[.pointer (some ⟨hb, 0, none⟩), .int .u64 (n : Int), .int .u64 (sz : Int), .bool d] W fun e w' => ∃ p er, e = .returned (.tuple #[.int .u64 ((p : Nat) : Int), .int .i64 er]) ∧ Cz w W hb sb lw x t fr ls S 0 m d p er w' := by
  have LK := hid H.lock
  have HH := hid H
  have SF := hid (sizeFor_h H.in (n * sz) 1 hpr (by decide) m (by omega))
  obtain ⟨pr, hpr2⟩ : ∃ pr, pr = n * sz := ⟨_, rfl⟩
  rw [← hpr2] at SF hm hpr
  have hpi : (n : Int) * (sz : Int) = (pr : Int) := by rw [hpr2]; simp
  have hm16 : 16 ≤ m := by omega
  have key : ∀ (A : Prop), (((n : Int) != 0) = true → ((n : Int) == 0) = false → ¬ (n : Int) = 0 → ∀ q : Nat, (18446744073709551615 : Int) / (n : Int) = (q : Int) → ¬ (q : Int) < (sz : Int) → q < 18446744073709551616 → A) → ((n : Int) = 0 → A) → A := by
    intro A h1 h2
    by_cases h0 : n = 0
    · exact h2 (by omega)
    · refine h1 (by rw [bne_iff_ne]; omega) (by rw [beq_eq_false_iff_ne]; omega) (by omega) (18446744073709551615 / n) rfl ?_ ?_
      · have : sz ≤ 18446744073709551615 / n := by
          rw [Nat.le_div_iff_mul_le (by omega), Nat.mul_comm]
          omega
        omega
      · exact Nat.lt_of_le_of_lt (Nat.div_le_self _ _) (by decide)
  cases ho : szOk x.o m with
  | false =>
    rw [ho] at SF
    rw [if_neg (by decide), if_neg (by decide)] at SF
    have UL := hid (H.in.unlock .returning)
    have D := hid (show Cz w W hb sb lw x t fr ls S 0 m d 0 3 (lk0 (lk1 W hb) hb) from .big ho rfl rfl (H.kout (Kept.refl none' _)))
    clear H ho hm hpr2
    refine key _ (fun n0 n1 n2 q hqi hlt hqb => ?_) (fun n0 => ?_)
    · clear key
      go_enter_defers Tryz.func20, Tryz.ntmps20
      go_wp2_with fail
      refine LK.out.mono ?_
      rintro e w1 ⟨rfl, rfl⟩
      go_wp2_with fail
      refine SF.out.mono ?_
      rintro e w1 ⟨rfl, h1⟩
      replace h1 := h1.symm
      subst h1
      go_wp2_with fail
      refine leaves_cons (f := 36) (args := #[.pointer (some ⟨hb, 0, none⟩)]) (by simp) (by simp [go_sem]) ?_
      refine UL.out.mono ?_
      rintro e u' w3 ⟨rfl, rfl, rfl⟩
      exact ⟨_, results_tmp2 rfl _ _ _, 0, 3, rfl, D.out⟩
    · clear key
      obtain rfl : n = 0 := by omega
      obtain rfl : pr = 0 := by omega
      go_enter_defers Tryz.func20, Tryz.ntmps20
      go_wp2_with fail
      refine LK.out.mono ?_
      rintro e w1 ⟨rfl, rfl⟩
      go_wp2_with fail
      refine SF.out.mono ?_
      rintro e w1 ⟨rfl, h1⟩
      replace h1 := h1.symm
      subst h1
      go_wp2_with fail
      refine leaves_cons (f := 36) (args := #[.pointer (some ⟨hb, 0, none⟩)]) (by simp) (by simp [go_sem]) ?_
      refine UL.out.mono ?_
      rintro e u' w3 ⟨rfl, rfl, rfl⟩
      exact ⟨_, results_tmp2 rfl _ _ _, 0, 3, rfl, D.out⟩
  | true =>
    rw [ho] at SF
    rw [if_pos rfl, if_pos rfl] at SF
    have TK := hid (Calloc_k H.in d m hm16 ho)
    have CO := hid (fun (p : Nat) (er : Int) (w' : World) (h : Cz w (lk1 W hb) hb sb lw x t fr ls S 1 m d p er w') => h.out H)
    clear H ho hm hpr2 hm16
    obtain ⟨r, hr⟩ : ∃ r, r = 2 ^ cl m := ⟨_, rfl⟩
    rw [← hr] at SF TK
    clear hr
    refine key _ (fun n0 n1 n2 q hqi hlt hqb => ?_) (fun n0 => ?_)
    · clear key
      go_enter_defers Tryz.func20, Tryz.ntmps20
      go_wp2_with fail
      refine LK.out.mono ?_
      rintro e w1 ⟨rfl, rfl⟩
      go_wp2_with fail
      refine SF.out.mono ?_
      rintro e w1 ⟨rfl, h1⟩
      replace h1 := h1.symm
      subst h1
      go_wp2_with fail
      refine TK.out.mono ?_
      rintro e w2 ⟨p, er, rfl, hT⟩
      rcases hT with ⟨rfl, rfl, hC, hk⟩ | ⟨rfl, x', t', fr', ls', S', H2, hl, hC⟩
      · have UL := hid ((HH.out.in.keep hk).unlock .returning)
        have D := hid (CO.out _ _ _ hC)
        clear hC hk
        go_wp2_with fail
        refine leaves_cons (f := 36) (args := #[.pointer (some ⟨hb, 0, none⟩)]) (by simp) (by simp [go_sem]) ?_
        refine UL.out.mono ?_
        rintro e u' w3 ⟨rfl, rfl, rfl⟩
        exact ⟨_, results_tmp2 rfl _ _ _, 0, 2, rfl, D.out⟩
      · have SP := hid (Space6 H2.po.pl)
        have FL := hid (H2.fill (v := 0) hl (by decide))
        obtain ⟨c0, c2, c3, c4, c5, c6⟩ := H2.c
        obtain ⟨l0, l1, l2⟩ := H2.po.pl.c
        have HC := hid hC
        clear hC hl
        go_wp2_with fail
        refine SP.out.mono ?_
        rintro e w3 ⟨rfl, h3⟩
        replace h3 := h3.symm
        subst h3
        go_wp2_with fail
        refine FL.out.mono ?_
        rintro e w4 ⟨rfl, hw⟩
        have UL := hid (hw.1.unlock .returning)
        have D := hid (CO.out _ _ _ (HC.out _ hw))
        clear hw
        go_wp2_with fail
        refine leaves_cons (f := 36) (args := #[.pointer (some ⟨hb, 0, none⟩)]) (by simp) (by simp [go_sem]) ?_
        refine UL.out.mono ?_
        rintro e u' w3 ⟨rfl, rfl, rfl⟩
        exact ⟨_, results_tmp2 rfl _ _ _, p, 0, rfl, D.out⟩
    · clear key
      obtain rfl : n = 0 := by omega
      obtain rfl : pr = 0 := by omega
      go_enter_defers Tryz.func20, Tryz.ntmps20
      go_wp2_with fail
      refine LK.out.mono ?_
      rintro e w1 ⟨rfl, rfl⟩
      go_wp2_with fail
      refine SF.out.mono ?_
      rintro e w1 ⟨rfl, h1⟩
      replace h1 := h1.symm
      subst h1
      go_wp2_with fail
      refine TK.out.mono ?_
      rintro e w2 ⟨p, er, rfl, hT⟩
      rcases hT with ⟨rfl, rfl, hC, hk⟩ | ⟨rfl, x', t', fr', ls', S', H2, hl, hC⟩
      · have UL := hid ((HH.out.in.keep hk).unlock .returning)
        have D := hid (CO.out _ _ _ hC)
        clear hC hk
        go_wp2_with fail
        refine leaves_cons (f := 36) (args := #[.pointer (some ⟨hb, 0, none⟩)]) (by simp) (by simp [go_sem]) ?_
        refine UL.out.mono ?_
        rintro e u' w3 ⟨rfl, rfl, rfl⟩
        exact ⟨_, results_tmp2 rfl _ _ _, 0, 2, rfl, D.out⟩
      · have SP := hid (Space6 H2.po.pl)
        have FL := hid (H2.fill (v := 0) hl (by decide))
        obtain ⟨c0, c2, c3, c4, c5, c6⟩ := H2.c
        obtain ⟨l0, l1, l2⟩ := H2.po.pl.c
        have HC := hid hC
        clear hC hl
        go_wp2_with fail
        refine SP.out.mono ?_
        rintro e w3 ⟨rfl, h3⟩
        replace h3 := h3.symm
        subst h3
        go_wp2_with fail
        refine FL.out.mono ?_
        rintro e w4 ⟨rfl, hw⟩
        have UL := hid (hw.1.unlock .returning)
        have D := hid (CO.out _ _ _ (HC.out _ hw))
        clear hw
        go_wp2_with fail
        refine leaves_cons (f := 36) (args := #[.pointer (some ⟨hb, 0, none⟩)]) (by simp) (by simp [go_sem]) ?_
        refine UL.out.mono ?_
        rintro e u' w3 ⟨rfl, rfl, rfl⟩
        exact ⟨_, results_tmp2 rfl _ _ _, p, 0, rfl, D.out⟩
end
end Go.Proofs.YtgjapopddblpoaaGreatDoor
