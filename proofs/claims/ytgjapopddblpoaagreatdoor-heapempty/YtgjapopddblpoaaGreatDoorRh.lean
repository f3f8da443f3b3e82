import Derived.Test.YtgjapopddblpoaaGreatDoorHpL
/- A block is shrunk in place; blocks are moved: what the pool's calls leave. -/
namespace Go.Proofs.YtgjapopddblpoaaGreatDoor.K
open Go.RowKit
set_option linter.unusedVariables false
theorem Shrink_f (x : Bx) (t : Bt) (fr : Nat → List Nat) (ls : List (Nat × Nat)) (s0 : Sf x t fr ls) (p k o : Nat) (hl : (p, k) ∈ ls) (hv : x.P p = none) (ho : o ≤ k) (w : World) (h : BdAt w x t) :
    Calls Tryz.prog 49 #[.pointer (some ⟨x.b, 0, none⟩), .int .u64 ((ad x p : Nat) : Int), .int .i64 (k : Int), .int .i64 (o : Int)] w fun e w' => e = .returned (.int .i64 0) ∧ DF x t w w' ls (cutF fr p k o) (dropR ls p ++ [(p, o)]) := by
  obtain ⟨n1, n2, n3⟩ := s0.sn.n
  obtain ⟨a1, a2, a3⟩ := s0.sn.al hl
  have hz : 0 < 2 ^ k := Nat.pow_pos (by decide)
  have hlv := (s0.sn.live_iff p k (by omega)).2 ⟨hl, hv⟩
  have hdr := s0.drop_iff hl
  have s00 := s0
  obtain ⟨B, s, hN, hL⟩ := s0
  obtain ⟨pg1, _⟩ := page_ad s p (by omega)
  obtain ⟨c1, fr', B', c3, c4, c5, c6, c7⟩ := s.shrink hN ((hL p k).2 hl) hv ho
  refine (Shrink_yesB x t (ad x p) k o (by unfold ad; omega) hlv ho w h).mono ?_
  rintro e w' ⟨rfl, h1, h2⟩
  rw [pg1] at h1 ⊢
  have hfr' : fr' = cutF fr p k o := by
    funext i
    rw [c6]
    rfl
  subst hfr'
  have hs : Sf x (cutT x t p k o) (cutF fr p k o) (dropR ls p ++ [(p, o)]) := ⟨B', c3, c4, fun q i => by rw [c5, hL, mem_app, hdr]⟩
  exact ⟨by rw [c1]; rfl, _, h1, h2, hs, cutT_n _ _ _ _ _, BK.of h h1 s00 hs (c7.mono fun g hg => hg.2)⟩
end Go.Proofs.YtgjapopddblpoaaGreatDoor.K
namespace Go.Proofs.YtgjapopddblpoaaGreatDoor
open Go.RowKit
open Go.MuLone
set_option linter.unusedVariables false
section
variable {w W W1 W2 W' : World} {hb sb lw : Nat} {x : Bx} {t : Bt} {fr : Nat → List Nat} {ls : List (Nat × Nat)} {S : Sb} {s : Int}
theorem Lth_shr {W sb lw h} (o : SO w W sb lw x t fr ls S h) {q k j : Nat} (hm : (q, k) ∈ ls) (hc : S.c q = none) (a z : Nat) : Lth x (dropR ls q ++ [(q, j)]) S a z ↔ (Lth x ls S a z ∧ a ≠ ad x q) ∨ (a = ad x q ∧ z = 4096 * 2 ^ j) := by
  rw [Lth_need hc, Lth_giv o hm hc]
/-- What Shrink leaves. -/
def Sq (w W : World) (hb sb lw : Nat) (x : Bx) (t : Bt) (fr : Nat → List Nat) (ls : List (Nat × Nat)) (S : Sb) (s : Int) (p z r : Nat) (w' : World) : Prop := ∃ t' q k j, (q, k) ∈ ls ∧ S.c q = none ∧ p = ad x q ∧ z = 4096 * 2 ^ k ∧ r = 4096 * 2 ^ j ∧ j ≤ k ∧ Nx w W w' hb sb lw x t ls S s x t' (cutF fr q k j) (dropR ls q ++ [(q, j)]) S ∧ (∀ a c, Lth x (dropR ls q ++ [(q, j)]) S a c ↔ (Lth x ls S a c ∧ a ≠ p) ∨ (a = p ∧ c = r)) ∧ t'.m.n = t.m.n
theorem Sq.from {p z r : Nat} (k : Kept none' W W1) (h : Sq w W1 hb sb lw x t fr ls S s p z r W') : Sq w W hb sb lw x t fr ls S s p z r W' := by
  obtain ⟨t', q, k', j, h1, h2, h3, h4, h5, h6, nx, h7⟩ := h
  exact ⟨t', q, k', j, h1, h2, h3, h4, h5, h6, nx.from k, h7⟩
theorem Sq.out {p z r : Nat} (H : HW w W hb sb lw x t fr ls S 0) (h : Sq w (lk1 W hb) hb sb lw x t fr ls S 1 p z r W') : Sq w W hb sb lw x t fr ls S 0 p z r (lk0 W' hb) := by
  obtain ⟨t', q, k', j, h1, h2, h3, h4, h5, h6, nx, h7⟩ := h
  exact ⟨t', q, k', j, h1, h2, h3, h4, h5, h6, nx.out H, h7⟩
theorem HW.shrink (H : HW w W hb sb lw x t fr ls S s) {q k j : Nat} (hm : (q, k) ∈ ls) (hc : S.c q = none) (hj : j ≤ k) (p : Nat) (hp : p = ad x q) :
    Calls Tryz.prog 49 #[.pointer (some ⟨x.b, 0, none⟩), .int .u64 (p : Int), .int .i64 (k : Int), .int .i64 (j : Int)] W fun e w' => e = .returned (.int .i64 0) ∧ Sq w W hb sb lw x t fr ls S s p (4096 * 2 ^ k) (4096 * 2 ^ j) w' := by
  subst hp
  obtain ⟨h, o⟩ := H.so
  refine (K.Shrink_f x t fr ls o.sf q k j hm (o.pnone8 hc) hj W o.sw.pl.bd).mono ?_
  rintro e w' ⟨rfl, t', hbd, hk, hsf, hn, bk⟩
  have po' : PO w w' lw x t' (cutF fr q k j) (dropR ls q ++ [(q, j)]) := ⟨o.sw.pl.call hbd hk, hsf, by rw [hn]; exact o.st, o.bm⟩
  have o' := o.pool po' (Sm.refl x) bk (fun a c ha => List.mem_append_left _ (List.mem_filter.2 ⟨(o.mem ha).1, decide_eq_true fun e => by
    have e : a = q := e
    rw [e, hc] at ha
    cases ha⟩)) hk
  have ks : Kept (sown x sb) W w' := hk.mono (fun _ _ e => .inl e)
  have ch : Ch x t ls S x t' (dropR ls q ++ [(q, j)]) S := ⟨rfl, rfl, rfl, rfl, fun i h1 h2 => bk i (o.byte h1) (o'.byte h2)⟩
  exact ⟨rfl, t', q, k, j, hm, hc, rfl, rfl, rfl, hj, ⟨H.call o' H.lv ch ks, ch, ks, fun y e => .inl e⟩, Lth_shr o hm hc, hn⟩
theorem Nx.trans {x1 : Bx} {t1 : Bt} {fr1 : Nat → List Nat} {ls1 : List (Nat × Nat)} {S1 : Sb} {x2 : Bx} {t2 : Bt} {fr2 : Nat → List Nat} {ls2 : List (Nat × Nat)} {S2 : Sb} (n1 : Nx w W W1 hb sb lw x t ls S s x1 t1 fr1 ls1 S1) (n2 : Nx w W1 W2 hb sb lw x1 t1 ls1 S1 s x2 t2 fr2 ls2 S2) (hm : ∀ j, Lby x ls S j → Lby x2 ls2 S2 j → Lby x1 ls1 S1 j) : Nx w W W2 hb sb lw x t ls S s x2 t2 fr2 ls2 S2 :=
  ⟨n2.H, ⟨n2.ch.base.trans n1.ch.base, n2.ch.R.trans n1.ch.R, n2.ch.lim.trans n1.ch.lim, n2.ch.o.trans n1.ch.o, fun j h1 h2 => (n2.ch.kb j (hm j h1 h2) h2).trans (n1.ch.kb j h1 (hm j h1 h2))⟩, n1.kp.trans n2.kp (fun _ _ e => e) (fun y hy e => (n1.ns y e).elim id (fun e2 => absurd hy (Nat.not_lt.2 e2))), fun y hy => (n2.ns y hy).elim (n1.ns y) (fun e => .inr (Nat.le_trans n1.kp.size e))⟩
theorem HW.copy (H : HW w W hb sb lw x t fr ls S s) {p r q z k : Nat} (hl : Lth x ls S p r) (hl2 : Lth x ls S q z) (hk : 0 < k) (h1 : k ≤ r) (h2 : k ≤ z) :
    Calls Tryz.prog 85 #[.pointer (some ⟨x.s, 0, none⟩), .int .u64 (p : Int), .int .u64 (q : Int), .int .u64 (k : Int)] W fun e w' => e = .returned (.int .i64 0) ∧ Wr w W hb sb lw x t fr ls S s (M.upd t.f (p - x.base) k fun i => t.f (q - x.base + i)) w' := by
  obtain ⟨h', o⟩ := H.so
  have hi := o.inside hl
  have hi2 := o.inside hl2
  obtain ⟨g, hg, hs⟩ := H.space (by omega)
  refine (M.Copy_in x.s g x.base x.R x.lim x.n t.f p q k W hs hk (by unfold M.In; omega) (by unfold M.In; omega)).mono ?_
  rintro e w' ⟨rfl, h3, h4⟩
  rw [← hg] at h3 h4
  exact ⟨rfl, H.wrote hl (fun j hj => M.upd_out _ _ _ _ _ (fun e => hj (by omega))) h3 (toK h4)⟩
/-- What move answers, and leaves. -/
inductive Mq (w W : World) (hb sb lw : Nat) (x : Bx) (t : Bt) (fr : Nat → List Nat) (ls : List (Nat × Nat)) (S : Sb) (s : Int) (p z r : Nat) (d : Bool) (p' : Nat) (er : Int) (w' : World) : Prop where
  | no (hp : p' = 0) (he : er = 2) (nf : NF x fr S r) (hd : d = true ∨ x.n = x.lim * x.R) (kp : Kept none' W w')
  | yes (x' : Bx) (t' : Bt) (fr' : Nat → List Nat) (ls' : List (Nat × Nat)) (S' : Sb) (b : Bool) (he : er = 0) (nx : Nx w W w' hb sb lw x t ls S s x' t' fr' ls' S') (hL : ∀ a c, Lth x' ls' S' a c ↔ (Lth x ls S a c ∧ a ≠ p) ∨ (a = p' ∧ c = r)) (hN : ∀ c, ¬ Lth x ls S p' c) (hn : x'.n = (if b = true then x.n + x.R else x.n)) (hm : p' % r = 0) (hb1 : b = true → NF x fr S r ∧ d = false ∧ x.n + x.R ≤ x.lim * x.R) (hb2 : b = false → ¬ NF x fr S r) (cp : ∀ i, i < z → i < r → t'.f (p' - x.base + i) = t.f (p - x.base + i))
theorem Mq.from {p z r : Nat} {d : Bool} {p' : Nat} {er : Int} (k : Kept none' W W1) (h : Mq w W1 hb sb lw x t fr ls S s p z r d p' er W') : Mq w W hb sb lw x t fr ls S s p z r d p' er W' := by
  cases h with
  | no hp he nf hd kp => exact .no hp he nf hd (none_trans k kp)
  | yes x' t' fr' ls' S' b he nx hL hN hn hm hb1 hb2 cp => exact .yes x' t' fr' ls' S' b he (nx.from k) hL hN hn hm hb1 hb2 cp
theorem Mq.out {p z r : Nat} {d : Bool} {p' : Nat} {er : Int} (H : HW w W hb sb lw x t fr ls S 0) (h : Mq w (lk1 W hb) hb sb lw x t fr ls S 1 p z r d p' er W') : Mq w W hb sb lw x t fr ls S 0 p z r d p' er (lk0 W' hb) := by
  cases h with
  | no hp he nf hd kp => exact .no hp he nf hd (H.kout kp)
  | yes x' t' fr' ls' S' b he nx hL hN hn hm hb1 hb2 cp => exact .yes x' t' fr' ls' S' b he (nx.out H) hL hN hn hm hb1 hb2 cp
theorem Mq.st {p z r : Nat} {d : Bool} {p' : Nat} {er : Int} (H : HW w W hb sb lw x t fr ls S s) (h : Mq w W hb sb lw x t fr ls S s p z r d p' er W') : ∃ x' t' fr' ls' S', HW w W' hb sb lw x' t' fr' ls' S' s := by
  cases h with
  | no hp he nf hd kp => exact ⟨_, _, _, _, _, H.keep kp⟩
  | yes x' t' fr' ls' S' b he nx => exact ⟨_, _, _, _, _, nx.H⟩
/-- Take, copy, give: what move leaves. -/
theorem move_k {x1 : Bx} {t1 : Bt} {fr1 : Nat → List Nat} {ls1 : List (Nat × Nat)} {S1 : Sb} {b d : Bool} {p p' z r k : Nat} {w1 w2 w3 : World} (hl : Lth x ls S p z) (hk : k = min z r) (n1 : Nx w W w1 hb sb lw x t ls S s x1 t1 fr1 ls1 S1) (hL : ∀ a c, Lth x1 ls1 S1 a c ↔ Lth x ls S a c ∨ (a = p' ∧ c = r)) (hN : ∀ c, ¬ Lth x ls S p' c) (hn : x1.n = (if b = true then x.n + x.R else x.n)) (hm : p' % r = 0) (hb1 : b = true → NF x fr S r ∧ d = false ∧ x.n + x.R ≤ x.lim * x.R) (hb2 : b = false → ¬ NF x fr S r) (wr : Wr w w1 hb sb lw x1 t1 fr1 ls1 S1 s (M.upd t1.f (p' - x1.base) k fun i => t1.f (p - x1.base + i)) w2) (gq : Gq w w2 hb sb lw x1 { t1 with f := M.upd t1.f (p' - x1.base) k fun i => t1.f (p - x1.base + i) } fr1 ls1 S1 s p z w3) : Mq w W hb sb lw x t fr ls S s p z r d p' 0 w3 := by
  obtain ⟨x2, t2, fr2, ls2, S2, gd, n3, hL2, hn2⟩ := gq
  obtain ⟨h1, o1⟩ := n1.H.so
  have hl1 : Lth x1 ls1 S1 p' r := (hL _ _).2 (.inr ⟨rfl, rfl⟩)
  have hi1 := o1.inside hl1
  have n2 := n1.fill (fun a c h => (hL a c).2 (.inl h)) hl1 hN wr (fun j hj => M.upd_out _ _ _ _ _ (fun e => hj (by omega)))
  have hsub : ∀ j, Lby x ls S j → Lby x1 ls1 S1 j := fun j ⟨a, c, l1, l2, l3⟩ => ⟨a, c, (hL a c).2 (.inl l1), by rw [n1.ch.base]; exact l2, by rw [n1.ch.base]; exact l3⟩
  have nn := n2.trans n3 (fun j h1 _ => hsub j h1)
  have hpp : p' ≠ p := fun e => hN z (by rw [e]; exact hl)
  have hL3 : ∀ a c, Lth x2 ls2 S2 a c ↔ (Lth x ls S a c ∧ a ≠ p) ∨ (a = p' ∧ c = r) := fun a c => by
    rw [hL2, hL]
    constructor
    · rintro ⟨e | e, e2⟩
      · exact .inl ⟨e, e2⟩
      · exact .inr e
    · rintro (⟨e, e2⟩ | e)
      · exact ⟨.inl e, e2⟩
      · exact ⟨.inr e, by rw [e.1]; exact hpp⟩
  have hb1' := n1.ch.base
  refine .yes x2 t2 fr2 ls2 S2 b rfl nn hL3 hN (hn2.trans hn) hm hb1 hb2 (fun i i1 i2 => ?_)
  have hl3 : Lth x2 ls2 S2 p' r := (hL3 _ _).2 (.inr ⟨rfl, rfl⟩)
  have k3 := n3.ch.kb (p' - x.base + i) ⟨p', r, hl1, by omega, by omega⟩ ⟨p', r, hl3, by rw [n3.ch.base]; omega, by rw [n3.ch.base]; omega⟩
  rw [k3]
  show M.upd t1.f (p' - x1.base) k (fun i => t1.f (p - x1.base + i)) (p' - x.base + i) = _
  unfold M.upd
  rw [hb1', if_pos (by omega), show p' - x.base + i - (p' - x.base) = i by omega]
  have hi2 := o1.inside ((hL p z).2 (.inl hl))
  exact n1.ch.kb (p - x.base + i) ⟨p, z, hl, by omega, by omega⟩ ⟨p, z, (hL p z).2 (.inl hl), by omega, by omega⟩
end
end Go.Proofs.YtgjapopddblpoaaGreatDoor
/- Package malloc: move, Realloc. -/
namespace Go.Proofs.YtgjapopddblpoaaGreatDoor
open Go.RowKit
open Go.MuLone
set_option linter.unusedVariables false
section
variable {w W W1 W2 W' : World} {hb sb lw : Nat} {x : Bx} {t : Bt} {fr : Nat → List Nat} {ls : List (Nat × Nat)} {S : Sb} {s : Int}
theorem bk_pty : ¬ Go.Proofs.YtgjapopddblpoaaGreatDoor.pty 74 ∧ 74 ≠ 135 ∧ 74 ≠ 91 := by unfold Go.Proofs.YtgjapopddblpoaaGreatDoor.pty; decide
set_option maxRecDepth 4000 in
set_option maxHeartbeats 2000000 in
theorem move_h (H : HW w W hb sb lw x t fr ls S s) {p z : Nat} (hl : Lth x ls S p z) (r : Nat) (hr : (∃ k, k < 8 ∧ r = szC k) ∨ (∃ k, k ≤ x.o ∧ r = 4096 * 2 ^ k)) (d : Bool) :
    Calls Tryz.prog 51 #[.pointer (some ⟨hb, 0, none⟩), bkV p z, .int .u64 (r : Int), .bool d] W fun e w' => ∃ p' er, e = .returned (.tuple #[.int .u64 ((p' : Nat) : Int), .int .i64 er]) ∧ Mq w W hb sb lw x t fr ls S s p z r d p' er w' := by
  have K0 := hid ((Kept.refl none' W).alloc (bkO p z))
  have X0 := hid (heap_new W (bkO p z))
  have H0 := hid (H.keep K0.out)
  have TK := hid (take_h H0.out r hr d)
  have HL := hid hl
  have hrb : 16 ≤ r ∧ r ≤ 1048576 := by
    rcases hr with ⟨k, hk, rfl⟩ | ⟨k, hk, rfl⟩
    · have := szC_le hk
      omega
    · have h8 := H.po.nums.1
      have : 2 ^ k ≤ 2 ^ 8 := Nat.pow_le_pow_right (by decide) (by omega)
      have : 0 < 2 ^ k := Nat.pow_pos (by decide)
      omega
  have hpz : p < 9223372036854775808 ∧ 0 < z ∧ z ≤ 9223372036854775808 := by
    obtain ⟨h', o⟩ := H.so
    have h1 := o.inside hl
    have h2 := (o.span hl).1
    have n4 := o.po.nums.2.2.2.1
    omega
  obtain ⟨hp1, hp2, hp3⟩ := hpz
  obtain ⟨hr1, hr2⟩ := hrb
  clear H hl hr
  go_enter Tryz.func51, Tryz.ntmps51
  go_wp2_with fail
  refine TK.out.mono ?_
  rintro e w1 ⟨p', er, rfl, hT⟩
  cases hT with
  | no hp he nf hd kp =>
    subst hp he
    have D := hid (show Mq w W hb sb lw x t fr ls S s p z r d 0 2 w1 from .no rfl rfl nf hd (none_trans K0.out kp))
    clear nf hd kp
    go_wp2_with fail
    exact ⟨rfl, .tuple #[.int .u64 ((0 : Nat) : Int), .int .i64 2], by simp [results, Tryz.results51, go_sem], 0, 2, rfl, D.out⟩
  | yes x1 t1 fr1 ls1 S1 b he td nx hL hN hn hm hb1 hb2 =>
    subst he
    have X1 := hid (show w1.heap[W.heap.size]? = some (bkO p z) from by
      obtain ⟨h', o⟩ := H0.out.so
      exact (nx.kp.block _ (heap_lt X0.out) (o.bty8 X0.out)).trans X0.out)
    have H1 := hid nx.H
    have hl1 : Lth x1 ls1 S1 p' r := (hL _ _).2 (.inr ⟨rfl, rfl⟩)
    have hl2 : Lth x1 ls1 S1 p z := (hL _ _).2 (.inl HL.out)
    obtain ⟨k, hk⟩ : ∃ k, k = min z r := ⟨_, rfl⟩
    have KD := hid ((Kept.refl none' w1).drew)
    have HD := hid (H1.out.keep KD.out)
    have XD := hid (show w1.drew.heap[W.heap.size]? = some (bkO p z) from X1.out)
    have SP := hid (Space6 HD.out.po.pl)
    have CP := hid ((HD.out.copy (k := k) hl1 hl2 (by omega) (by omega) (by omega)).mono fun e w' h => (show e = .returned (.int .i64 0) ∧ (w'.cell? ⟨hb, 5, none⟩ = some (.pointer (some ⟨lw, 0, none⟩)) ∧ w'.cell? ⟨W.heap.size, 0, none⟩ = some (.int .u64 (p : Int)) ∧ w'.cell? ⟨W.heap.size, 1, none⟩ = some (.int .u64 (z : Int))) ∧ Wr w w1 hb sb lw x1 t1 fr1 ls1 S1 s (M.upd t1.f (p' - x1.base) k fun i => t1.f (p - x1.base + i)) w' ∧ w'.heap[W.heap.size]? = some (bkO p z) from by
      obtain ⟨he, hw⟩ := h
      have hx : w'.heap[W.heap.size]? = some (bkO p z) := by
        obtain ⟨h', o⟩ := HD.out.so
        exact (hw.2.block _ (heap_lt XD.out) (o.bty8 XD.out)).trans XD.out
      exact ⟨he, ⟨hw.1.c.2.2.2.2.1, (bkc hx).1, (bkc hx).2.1⟩, hw.from KD.out, hx⟩))
    have MK := hid (fun (w2 w3 : World) (wr : Wr w w1 hb sb lw x1 t1 fr1 ls1 S1 s (M.upd t1.f (p' - x1.base) k fun i => t1.f (p - x1.base + i)) w2) (gq : Gq w w2 hb sb lw x1 { t1 with f := M.upd t1.f (p' - x1.base) k fun i => t1.f (p - x1.base + i) } fr1 ls1 S1 s p z w3) => move_k HL.out hk (nx.from K0.out) hL hN hn hm hb1 hb2 wr gq)
    have L2 := hid hl2
    obtain ⟨c0, c2, c3, c4, c5, c6⟩ := H1.out.c
    obtain ⟨d0, d2, d3, d4, d5, d6⟩ := HD.out.c
    obtain ⟨x0, x1', xf⟩ := bkc X1.out
    obtain ⟨y0, y1, yf⟩ := bkc XD.out
    have hmin : (if r < z then (r : Int) else (z : Int)) = (k : Int) := by split <;> omega
    clear td nx hL hN hn hm hb1 hb2 hl1 hl2 hk
    all_goals
      go_wp2_with fail
      go_region_held3 (fun w' => w'.cell? ⟨hb, 5, none⟩ = some (.pointer (some ⟨lw, 0, none⟩)) ∧ w'.cell? ⟨W.heap.size, 0, none⟩ = some (.int .u64 (p : Int)) ∧ w'.cell? ⟨W.heap.size, 1, none⟩ = some (.int .u64 (z : Int))) (first | with_reducible exact ⟨d5, y0, y1⟩ | with_reducible exact e6) (first
        | (go_at_call 53; (with_reducible refine (SP.out).mono ?_); rintro e w5 ⟨rfl, h5⟩; replace h5 := h5.symm; subst h5)
        | (go_at_call 85; (try rw [hmin]); (with_reducible refine (CP.out).mono ?_); rintro e w2 ⟨rfl, e6, hw, hx⟩; have D2 := hid hw; have X2 := hid hx; clear hw hx)
        | fail)
      all_goals
        have GV := hid (give_h D2.out.1 L2.out)
        have MM := hid (fun w3 => MK.out w2 w3 D2.out)
        obtain ⟨v0, v1, vf⟩ := bkc X2.out
        clear MK CP SP TK D2
        go_wp2_with fail
        refine GV.out.mono ?_
        rintro e w3 ⟨rfl, hG⟩
        have D := hid (MM.out _ hG)
        clear hG
        go_wp2_with fail
        exact ⟨rfl, .tuple #[.int .u64 ((p' : Nat) : Int), .int .i64 0], by simp [results, Tryz.results51, go_sem], p', 0, rfl, D.out⟩
/-- What Realloc answers, and leaves. -/
inductive Rl (w W : World) (hb sb lw : Nat) (x : Bx) (t : Bt) (fr : Nat → List Nat) (ls : List (Nat × Nat)) (S : Sb) (s : Int) (p m : Nat) (d : Bool) (p' : Nat) (er : Int) (w' : World) : Prop where
  | nil (hp : p = 0) (h : Rq8 w W hb sb lw x t fr ls S s m d p' er w')
  | bad (hp : p ≠ 0) (hl : ∀ c, ¬ Lth x ls S p c) (hp' : p' = 0) (he : er = 1) (kp : Kept none' W w')
  | big (z : Nat) (hp : p ≠ 0) (hl : Lth x ls S p z) (ho : szOk x.o m = false) (hp' : p' = 0) (he : er = 3) (kp : Kept none' W w')
  | same (hp : p ≠ 0) (ho : szOk x.o m = true) (hl : Lth x ls S p (2 ^ cl m)) (hp' : p' = p) (he : er = 0) (kp : Kept none' W w')
  | shr (z : Nat) (hp : p ≠ 0) (ho : szOk x.o m = true) (hl : Lth x ls S p z) (h1 : 4096 ≤ 2 ^ cl m) (h2 : 2 ^ cl m < z) (hp' : p' = p) (he : er = 0) (hS : Sq w W hb sb lw x t fr ls S s p z (2 ^ cl m) w')
  | mov (z : Nat) (hp : p ≠ 0) (ho : szOk x.o m = true) (hl : Lth x ls S p z) (hne : 2 ^ cl m ≠ z) (h1 : ¬ (4096 ≤ 2 ^ cl m ∧ 2 ^ cl m < z)) (hM : Mq w W hb sb lw x t fr ls S s p z (2 ^ cl m) d p' er w')
end
end Go.Proofs.YtgjapopddblpoaaGreatDoor
