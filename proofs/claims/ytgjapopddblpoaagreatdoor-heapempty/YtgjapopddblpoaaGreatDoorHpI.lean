import Derived.Test.YtgjapopddblpoaaGreatDoorHpH
/- Package malloc: the bytes of live blocks; Trim. (Written by mk8i.py.) -/
namespace Go.Proofs.YtgjapopddblpoaaGreatDoor
open Go.RowKit
open Go.MuLone
set_option linter.unusedVariables false

section
variable {w W : World} {wb sb lw : Nat} {x : Bx} {t : Bt} {fr : Nat → List Nat} {ls : List (Nat × Nat)} {S : Sb} {h : Nat → Int}
theorem SO.wroteP {W' : World} (o : SO w W sb lw x t fr ls S h) {p s : Nat} (hl : Lth x ls S p s) {f' : Nat → Nat} (hf : ∀ j, ¬ (p ≤ x.base + j ∧ x.base + j < p + s) → f' j = t.f j) (hs : M.SpaceAt W' x.s x.a x.base x.R x.lim x.n f') (k : Kept (M.own x.s x.a) W W') : SO w W' sb lw x { t with f := f' } fr ls S h := by
  have kb : Kept (bown x) W W' := k.mono (fun _ _ e => .inl e)
  obtain ⟨_, q, j, h1, h2, h3⟩ := o.span hl
  unfold ad at h2 h3
  refine ⟨⟨o.sw.pl.space0 k hs, (kb.block _ (heap_lt o.sw.bx) (fun e => o.sw.nsb (.inl e))).trans o.sw.bx, o.sw.nw, o.sw.tb⟩, o.sf.fill h1 (fun i hi => hf i (fun e => ?_)), o.st, o.bm, ⟨o.si.eP, o.si.pg, fun g c hg => ?_, o.si.lv, o.si.pn, o.si.pm⟩, o.hd⟩
  · omega
  · obtain ⟨n1, n2, n3⟩ := o.si.fl g c hg
    have hk := (o.si.pg g c hg).1
    have hz := szC_le hk
    have hm := o.mem hg
    have n4 := o.po.nums.2.2.2.1
    refine ⟨n1, n2, Lnk_move rfl (fun i hi => word_congr fun b hb => hf _ (fun e => ?_)) n3⟩
    have hib := n2 i hi
    have hcc := off_cell (x := x) (p := g) hk hib (by omega)
    -- the free cell's bytes lie in no live block
    have hca : caN x g c i = x.base + 4096 * g + i * szC c := rfl
    rcases hl with ⟨g', c', i', ⟨l1, l2, l3, rfl⟩, rfl⟩ | ⟨q', j', l1, l2, rfl, rfl⟩
    · have hk' := (o.si.pg g' c' l1).1
      have hm' := o.mem l1
      have hcc' := off_cell (x := x) (p := g') hk' l2 (by omega)
      have hca' : caN x g' c' i' = x.base + 4096 * g' + i' * szC c' := rfl
      have eg : g' = g := by omega
      subst eg
      rw [hg] at l1
      injection l1 with l1
      subst l1
      rcases Nat.lt_trichotomy i i' with e2 | rfl | e2
      · have : (i + 1) * szC c ≤ i' * szC c := Nat.mul_le_mul_right _ e2
        rw [Nat.add_mul, Nat.one_mul] at this
        omega
      · exact l3 hi
      · have : (i' + 1) * szC c ≤ i * szC c := Nat.mul_le_mul_right _ e2
        rw [Nat.add_mul, Nat.one_mul] at this
        omega
    · have had : ad x q' = x.base + 4096 * q' := rfl
      rcases o.apart hm.1 l1 with ⟨e2, _⟩ | e2 | e2
      · rw [← e2, hg] at l2; cases l2
      · rw [Nat.pow_zero] at e2; omega
      · omega
end
section
variable {w W W1 W' : World} {hb sb lw : Nat} {x : Bx} {t : Bt} {fr : Nat → List Nat} {ls : List (Nat × Nat)} {S : Sb} {s : Int}
/-- Bytes of a live block were written. -/
def Wr (w W : World) (hb sb lw : Nat) (x : Bx) (t : Bt) (fr : Nat → List Nat) (ls : List (Nat × Nat)) (S : Sb) (s : Int) (f' : Nat → Nat) (w' : World) : Prop := HW w w' hb sb lw x { t with f := f' } fr ls S s ∧ Kept (sown x sb) W w'
theorem HW.wrote (H : HW w W hb sb lw x t fr ls S s) {p z : Nat} (hl : Lth x ls S p z) {f' : Nat → Nat} (hf : ∀ j, ¬ (p ≤ x.base + j ∧ x.base + j < p + z) → f' j = t.f j) (hs : M.SpaceAt W' x.s x.a x.base x.R x.lim x.n f') (k : Kept (M.own x.s x.a) W W') : Wr w W hb sb lw x t fr ls S s f' W' := by
  obtain ⟨h, o⟩ := H.so
  have o' := o.wroteP hl hf hs k
  have ks : Kept (sown x sb) W W' := k.mono (fun _ _ e => .inl (.inl e))
  exact ⟨⟨⟨h, o'⟩, H.lv, (ks.block _ (heap_lt H.bx) H.nhb).trans H.bx, H.nw, H.br⟩, ks⟩
theorem Wr.from {f' : Nat → Nat} (k : Kept none' W W1) (h : Wr w W1 hb sb lw x t fr ls S s f' W') : Wr w W hb sb lw x t fr ls S s f' W' :=
  ⟨h.1, (k.mono (fun _ _ e => e.elim)).trans h.2 (fun _ _ e => e) (fun _ _ e => e)⟩
theorem Wr.out {f' : Nat → Nat} (H : HW w W hb sb lw x t fr ls S 0) (h : Wr w (lk1 W hb) hb sb lw x t fr ls S 1 f' W') : Wr w W hb sb lw x t fr ls S 0 f' (lk0 W' hb) :=
  ⟨(h.1.set 0).1, H.round H.nhb h.2 h.1 rfl rfl rfl⟩
/-- n bytes from p on lie in one live block. -/
def WiP (x : Bx) (ls : List (Nat × Nat)) (S : Sb) (p n : Nat) (l : Bool) : Prop := (l = true ∧ ∃ a z, Lth x ls S a z ∧ a ≤ p ∧ p < a + z ∧ p + n ≤ a + z) ∨ (l = false ∧ ∀ a z, Lth x ls S a z → ¬ (a ≤ p ∧ p < a + z ∧ p + n ≤ a + z))
set_option maxRecDepth 4000 in
theorem within_h (H : HW w W hb sb lw x t fr ls S s) (p n : Nat) (hp : p < 18446744073709551616) (hn : n < 18446744073709551616) :
    Calls Tryz.prog 52 #[.pointer (some ⟨hb, 0, none⟩), .int .u64 (p : Int), .int .u64 (n : Int)] W fun e w' => ∃ l, e = .returned (.bool l) ∧ WiP x ls S p n l ∧ Kept none' W w' := by
  have AR := hid (around_h H p hp)
  have HH := hid H
  clear H
  go_enter Tryz.func52, Tryz.ntmps52
  go_wp2_with fail
  refine AR.out.mono ?_
  rintro e w2 ⟨a, z, l, rfl, ar, hk⟩
  have K3 := hid (hk.alloc (bkO a z))
  have X6 := hid (heap_new w2 (bkO a z))
  obtain ⟨x0, x1, xf⟩ := bkc X6.out
  rcases ar with ⟨rfl, hl, h1, h2⟩ | ⟨rfl, hl⟩
  · obtain ⟨h', o⟩ := HH.out.so
    have hi := o.inside hl
    have n4 := o.po.nums.2.2.2.1
    obtain ⟨c, hc⟩ : ∃ c, c = a + z - p := ⟨_, rfl⟩
    have e1 : (a : Int) + (z : Int) - (p : Int) = (c : Int) := by omega
    have e2 : IntKind.u64.wrap ((a : Int) + (z : Int)) = (a : Int) + (z : Int) := by rw [wrap_u64]; omega
    have e3 : ((a : Int) + (z : Int)) % 18446744073709551616 = (a : Int) + (z : Int) := by omega
    have hcb : c < 18446744073709551616 := by omega
    by_cases hle : n ≤ c
    · have D := hid (show WiP x ls S p n true from .inl ⟨rfl, a, z, hl, h1, h2, by omega⟩)
      have q1 : decide ((n : Int) ≤ (c : Int)) = true := decide_eq_true (by omega)
      have q2 : decide (n ≤ c) = true := decide_eq_true hle
      have hab : a < 9223372036854775808 := by omega
      have hzb : z ≤ 9223372036854775808 := by omega
      clear hl h1 h2 o n4 hc hi hle hk
      go_wp2_with fail
      go_ret
      exact ⟨true, by simp, D.out, K3.out⟩
    · have D := hid (show WiP x ls S p n false from .inr ⟨rfl, fun b y hl2 ⟨g1, g2, g3⟩ => by
        rcases o.two hl hl2 with ⟨e1, e2⟩ | e | e <;> omega⟩)
      have q1 : decide ((n : Int) ≤ (c : Int)) = false := decide_eq_false (by omega)
      have q2 : decide (n ≤ c) = false := decide_eq_false hle
      have hab : a < 9223372036854775808 := by omega
      have hzb : z ≤ 9223372036854775808 := by omega
      clear hl h1 h2 o n4 hc hi hle hk
      go_wp2_with fail
      go_ret
      exact ⟨false, by simp, D.out, K3.out⟩
  · have D := hid (show WiP x ls S p n false from .inr ⟨rfl, fun b y hl2 ⟨g1, g2, g3⟩ => hl b y hl2 ⟨g1, g2⟩⟩)
    clear hl hk
    go_wp2_with fail
    go_ret
    exact ⟨false, rfl, D.out, K3.out⟩
theorem HW.wi (H : HW w W hb sb lw x t fr ls S s) {p n : Nat} (h : WiP x ls S p n true) : ∃ a z, Lth x ls S a z ∧ a ≤ p ∧ p + n ≤ a + z ∧ M.In x.base x.n p n := by
  obtain ⟨h', o⟩ := H.so
  rcases h with ⟨_, a, z, hl, h1, h2, h3⟩ | ⟨h1, _⟩
  · have hi := o.inside hl
    have n4 := o.po.nums.2.2.2.1
    exact ⟨a, z, hl, h1, h3, by unfold M.In; omega⟩
  · cases h1
theorem HW.space (H : HW w W hb sb lw x t fr ls S s) (hn : 0 < x.n) : ∃ g, x.a = some g ∧ M.SpaceAt W x.s (some g) x.base x.R x.lim x.n t.f := by
  have hs := H.po.pl.bd.sp
  obtain ⟨g, hg⟩ := space_some7 hs hn
  exact ⟨g, hg, by rw [hg] at hs; exact hs⟩
theorem HW.byte (H : HW w W hb sb lw x t fr ls S s) {p : Nat} (hin : M.In x.base x.n p 1) :
    Calls Tryz.prog 55 #[.pointer (some ⟨x.s, 0, none⟩), .int .u64 (p : Int)] W fun e w' => e = .returned (.tuple #[.int .u8 ((t.f (p - x.base) : Nat) : Int), .int .i64 0]) ∧ Kept none' W w' := by
  obtain ⟨g, hg, hs⟩ := H.space (by unfold M.In at hin; omega)
  refine (M.Byte_in x.s g x.base x.R x.lim x.n t.f p W hs hin).mono ?_
  rintro e w' ⟨rfl, h2⟩
  exact ⟨rfl, toK h2⟩
theorem HW.word (H : HW w W hb sb lw x t fr ls S s) {p : Nat} (hin : M.In x.base x.n p 8) :
    Calls Tryz.prog 56 #[.pointer (some ⟨x.s, 0, none⟩), .int .u64 (p : Int)] W fun e w' => e = .returned (.tuple #[.int .u64 ((M.word t.f (p - x.base) : Nat) : Int), .int .i64 0]) ∧ Kept none' W w' := by
  obtain ⟨g, hg, hs⟩ := H.space (by unfold M.In at hin; omega)
  refine (M.Word_in x.s g x.base x.R x.lim x.n t.f p W hs hin).mono ?_
  rintro e w' ⟨rfl, h2⟩
  exact ⟨rfl, toK h2⟩
theorem HW.setByte (H : HW w W hb sb lw x t fr ls S s) {p v : Nat} (hv : v < 256) (hw : WiP x ls S p 1 true) :
    Calls Tryz.prog 109 #[.pointer (some ⟨x.s, 0, none⟩), .int .u64 (p : Int), .int .u8 (v : Int)] W fun e w' => e = .returned (.int .i64 0) ∧ Wr w W hb sb lw x t fr ls S s (M.upd t.f (p - x.base) 1 fun _ => v) w' := by
  obtain ⟨a, z, hl, h1, h2, hin⟩ := H.wi hw
  obtain ⟨g, hg, hs⟩ := H.space (by unfold M.In at hin; omega)
  refine (M.SetByte_in x.s g x.base x.R x.lim x.n t.f p v hv W hs hin).mono ?_
  rintro e w' ⟨rfl, h3, h4⟩
  rw [← hg] at h3 h4
  refine ⟨rfl, H.wrote hl (fun j hj => M.upd_out _ _ _ _ _ (fun e => hj ?_)) h3 (toK h4)⟩
  unfold M.In at hin
  omega
theorem HW.setWord (H : HW w W hb sb lw x t fr ls S s) {p v : Nat} (hv : v < 18446744073709551616) (hw : WiP x ls S p 8 true) :
    Calls Tryz.prog 54 #[.pointer (some ⟨x.s, 0, none⟩), .int .u64 (p : Int), .int .u64 (v : Int)] W fun e w' => e = .returned (.int .i64 0) ∧ Wr w W hb sb lw x t fr ls S s (M.upd t.f (p - x.base) 8 (M.byteOf v)) w' := by
  obtain ⟨a, z, hl, h1, h2, hin⟩ := H.wi hw
  obtain ⟨g, hg, hs⟩ := H.space (by unfold M.In at hin; omega)
  refine (M.SetWord_in x.s g x.base x.R x.lim x.n t.f p v hv W hs hin).mono ?_
  rintro e w' ⟨rfl, h3, h4⟩
  rw [← hg] at h3 h4
  refine ⟨rfl, H.wrote hl (fun j hj => M.upd_out _ _ _ _ _ (fun e => hj ?_)) h3 (toK h4)⟩
  unfold M.In at hin
  omega
set_option maxRecDepth 4000 in
theorem Load_h (H : HW w W hb sb lw x t fr ls S 0) (p : Nat) (hp : p < 18446744073709551616) :
    Calls Tryz.prog 17 #[.pointer (some ⟨hb, 0, none⟩), .int .u64 (p : Int)] W fun e w' => ∃ v er, e = .returned (.tuple #[.int .u8 ((v : Nat) : Int), .int .i64 er]) ∧ ((er = 0 ∧ WiP x ls S p 1 true ∧ v = t.f (p - x.base)) ∨ (er = 4 ∧ WiP x ls S p 1 false ∧ v = 0)) ∧ Kept none' W w' := by
  have LK := hid H.lock
  have HH := hid H
  have WI := hid (within_h H.in p 1 hp (by decide))
  clear H
  go_enter_defers Tryz.func17, Tryz.ntmps17
  go_wp2_with fail
  refine LK.out.mono ?_
  rintro e w1 ⟨rfl, rfl⟩
  go_wp2_with fail
  refine WI.out.mono ?_
  rintro e w2 ⟨l, rfl, hl, hk⟩
  have H2 := hid (HH.out.in.keep hk)
  have K2 := hid hk
  clear hk
  cases l with
  | false =>
    have L := hid hl
    have UL := hid (H2.out.unlock .returning)
    have D := hid (HH.out.kout K2.out)
    clear hl
    go_wp2_with fail
    refine leaves_cons (f := 36) (args := #[.pointer (some ⟨hb, 0, none⟩)]) (by simp) (by simp [go_sem]) ?_
    refine UL.out.mono ?_
    rintro e u' w3 ⟨rfl, rfl, rfl⟩
    exact ⟨_, results_tmp2 rfl _ _ _, 0, 4, rfl, .inr ⟨rfl, L.out, rfl⟩, D.out⟩
  | true =>
    have L := hid hl
    obtain ⟨a, z, _, _, _, hin⟩ := H2.out.wi hl
    have SP := hid (Space6 H2.out.po.pl)
    have BY := hid (H2.out.byte hin)
    obtain ⟨c0, c2, c3, c4, c5, c6⟩ := H2.out.c
    obtain ⟨l0, l1, l2⟩ := H2.out.po.pl.c
    obtain ⟨v, hv⟩ : ∃ v, v = t.f (p - x.base) := ⟨_, rfl⟩
    rw [← hv] at BY
    have HV := hid hv
    clear hl hin hv
    go_wp2_with fail
    refine SP.out.mono ?_
    rintro e w3 ⟨rfl, h3⟩
    replace h3 := h3.symm
    subst h3
    go_wp2_with fail
    refine BY.out.mono ?_
    rintro e w4 ⟨rfl, hk⟩
    have UL := hid ((H2.out.keep hk).unlock .returning)
    have D := hid (HH.out.kout (none_trans K2.out hk))
    clear hk
    go_wp2_with fail
    refine leaves_cons (f := 36) (args := #[.pointer (some ⟨hb, 0, none⟩)]) (by simp) (by simp [go_sem]) ?_
    refine UL.out.mono ?_
    rintro e u' w3 ⟨rfl, rfl, rfl⟩
    exact ⟨_, results_tmp2 rfl _ _ _, v, 0, rfl, .inl ⟨rfl, L.out, HV.out⟩, D.out⟩
set_option maxRecDepth 4000 in
theorem LoadWord_h (H : HW w W hb sb lw x t fr ls S 0) (p : Nat) (hp : p < 18446744073709551616) :
    Calls Tryz.prog 18 #[.pointer (some ⟨hb, 0, none⟩), .int .u64 (p : Int)] W fun e w' => ∃ v er, e = .returned (.tuple #[.int .u64 ((v : Nat) : Int), .int .i64 er]) ∧ ((er = 0 ∧ WiP x ls S p 8 true ∧ v = M.word t.f (p - x.base)) ∨ (er = 4 ∧ WiP x ls S p 8 false ∧ v = 0)) ∧ Kept none' W w' := by
  have LK := hid H.lock
  have HH := hid H
  have WI := hid (within_h H.in p 8 hp (by decide))
  clear H
  go_enter_defers Tryz.func18, Tryz.ntmps18
  go_wp2_with fail
  refine LK.out.mono ?_
  rintro e w1 ⟨rfl, rfl⟩
  go_wp2_with fail
  refine WI.out.mono ?_
  rintro e w2 ⟨l, rfl, hl, hk⟩
  have H2 := hid (HH.out.in.keep hk)
  have K2 := hid hk
  clear hk
  cases l with
  | false =>
    have L := hid hl
    have UL := hid (H2.out.unlock .returning)
    have D := hid (HH.out.kout K2.out)
    clear hl
    go_wp2_with fail
    refine leaves_cons (f := 36) (args := #[.pointer (some ⟨hb, 0, none⟩)]) (by simp) (by simp [go_sem]) ?_
    refine UL.out.mono ?_
    rintro e u' w3 ⟨rfl, rfl, rfl⟩
    exact ⟨_, results_tmp2 rfl _ _ _, 0, 4, rfl, .inr ⟨rfl, L.out, rfl⟩, D.out⟩
  | true =>
    have L := hid hl
    obtain ⟨a, z, _, _, _, hin⟩ := H2.out.wi hl
    have SP := hid (Space6 H2.out.po.pl)
    have BY := hid (H2.out.word hin)
    obtain ⟨c0, c2, c3, c4, c5, c6⟩ := H2.out.c
    obtain ⟨l0, l1, l2⟩ := H2.out.po.pl.c
    obtain ⟨v, hv⟩ : ∃ v, v = M.word t.f (p - x.base) := ⟨_, rfl⟩
    rw [← hv] at BY
    have HV := hid hv
    clear hl hin hv
    go_wp2_with fail
    refine SP.out.mono ?_
    rintro e w3 ⟨rfl, h3⟩
    replace h3 := h3.symm
    subst h3
    go_wp2_with fail
    refine BY.out.mono ?_
    rintro e w4 ⟨rfl, hk⟩
    have UL := hid ((H2.out.keep hk).unlock .returning)
    have D := hid (HH.out.kout (none_trans K2.out hk))
    clear hk
    go_wp2_with fail
    refine leaves_cons (f := 36) (args := #[.pointer (some ⟨hb, 0, none⟩)]) (by simp) (by simp [go_sem]) ?_
    refine UL.out.mono ?_
    rintro e u' w3 ⟨rfl, rfl, rfl⟩
    exact ⟨_, results_tmp2 rfl _ _ _, v, 0, rfl, .inl ⟨rfl, L.out, HV.out⟩, D.out⟩
set_option maxRecDepth 4000 in
theorem StoreWord_h (H : HW w W hb sb lw x t fr ls S 0) (p v : Nat) (hp : p < 18446744073709551616) (hv : v < 18446744073709551616) :
    Calls Tryz.prog 16 #[.pointer (some ⟨hb, 0, none⟩), .int .u64 (p : Int), .int .u64 (v : Int)] W fun e w' => ∃ er, e = .returned (.int .i64 er) ∧ ((er = 0 ∧ WiP x ls S p 8 true ∧ Wr w W hb sb lw x t fr ls S 0 (M.upd t.f (p - x.base) 8 (M.byteOf v)) w') ∨ (er = 4 ∧ WiP x ls S p 8 false ∧ Kept none' W w')) := by
  have LK := hid H.lock
  have HH := hid H
  have WI := hid (within_h H.in p 8 hp (by decide))
  clear H
  go_enter_defers Tryz.func16, Tryz.ntmps16
  go_wp2_with fail
  refine LK.out.mono ?_
  rintro e w1 ⟨rfl, rfl⟩
  go_wp2_with fail
  refine WI.out.mono ?_
  rintro e w2 ⟨l, rfl, hl, hk⟩
  have H2 := hid (HH.out.in.keep hk)
  have K2 := hid hk
  clear hk
  cases l with
  | false =>
    have L := hid hl
    have UL := hid (H2.out.unlock .returning)
    have D := hid (HH.out.kout K2.out)
    clear hl
    go_wp2_with fail
    refine leaves_cons (f := 36) (args := #[.pointer (some ⟨hb, 0, none⟩)]) (by simp) (by simp [go_sem]) ?_
    refine UL.out.mono ?_
    rintro e u' w3 ⟨rfl, rfl, rfl⟩
    exact ⟨_, results_tmp rfl _ _ _, 4, rfl, .inr ⟨rfl, L.out, D.out⟩⟩
  | true =>
    have L := hid hl
    have SP := hid (Space6 H2.out.po.pl)
    have BY := hid (H2.out.setWord hv hl)
    obtain ⟨c0, c2, c3, c4, c5, c6⟩ := H2.out.c
    obtain ⟨l0, l1, l2⟩ := H2.out.po.pl.c
    clear hl
    go_wp2_with fail
    refine SP.out.mono ?_
    rintro e w3 ⟨rfl, h3⟩
    replace h3 := h3.symm
    subst h3
    go_wp2_with fail
    refine BY.out.mono ?_
    rintro e w4 ⟨rfl, hw⟩
    have UL := hid (hw.1.unlock .returning)
    have D := hid ((hw.from K2.out).out HH.out)
    clear hw
    go_wp2_with fail
    refine leaves_cons (f := 36) (args := #[.pointer (some ⟨hb, 0, none⟩)]) (by simp) (by simp [go_sem]) ?_
    refine UL.out.mono ?_
    rintro e u' w3 ⟨rfl, rfl, rfl⟩
    exact ⟨_, results_tmp rfl _ _ _, 0, rfl, .inl ⟨rfl, L.out, D.out⟩⟩
set_option maxRecDepth 4000 in
theorem Store_h (H : HW w W hb sb lw x t fr ls S 0) (p v : Nat) (hp : p < 18446744073709551616) (hv : v < 256) :
    Calls Tryz.prog 66 #[.pointer (some ⟨hb, 0, none⟩), .int .u64 (p : Int), .int .u8 (v : Int)] W fun e w' => ∃ er, e = .returned (.int .i64 er) ∧ ((er = 0 ∧ WiP x ls S p 1 true ∧ Wr w W hb sb lw x t fr ls S 0 (M.upd t.f (p - x.base) 1 fun _ => v) w') ∨ (er = 4 ∧ WiP x ls S p 1 false ∧ Kept none' W w')) := by
  have LK := hid H.lock
  have HH := hid H
  have WI := hid (within_h H.in p 1 hp (by decide))
  clear H
  go_enter_defers Tryz.func66, Tryz.ntmps66
  go_wp2_with fail
  refine LK.out.mono ?_
  rintro e w1 ⟨rfl, rfl⟩
  go_wp2_with fail
  refine WI.out.mono ?_
  rintro e w2 ⟨l, rfl, hl, hk⟩
  have H2 := hid (HH.out.in.keep hk)
  have K2 := hid hk
  clear hk
  cases l with
  | false =>
    have L := hid hl
    have UL := hid (H2.out.unlock .returning)
    have D := hid (HH.out.kout K2.out)
    clear hl
    go_wp2_with fail
    refine leaves_cons (f := 36) (args := #[.pointer (some ⟨hb, 0, none⟩)]) (by simp) (by simp [go_sem]) ?_
    refine UL.out.mono ?_
    rintro e u' w3 ⟨rfl, rfl, rfl⟩
    exact ⟨_, results_tmp rfl _ _ _, 4, rfl, .inr ⟨rfl, L.out, D.out⟩⟩
  | true =>
    have L := hid hl
    have SP := hid (Space6 H2.out.po.pl)
    have BY := hid (H2.out.setByte hv hl)
    obtain ⟨c0, c2, c3, c4, c5, c6⟩ := H2.out.c
    obtain ⟨l0, l1, l2⟩ := H2.out.po.pl.c
    clear hl
    go_wp2_with fail
    refine SP.out.mono ?_
    rintro e w3 ⟨rfl, h3⟩
    replace h3 := h3.symm
    subst h3
    go_wp2_with fail
    refine BY.out.mono ?_
    rintro e w4 ⟨rfl, hw⟩
    have UL := hid (hw.1.unlock .returning)
    have D := hid ((hw.from K2.out).out HH.out)
    clear hw
    go_wp2_with fail
    refine leaves_cons (f := 36) (args := #[.pointer (some ⟨hb, 0, none⟩)]) (by simp) (by simp [go_sem]) ?_
    refine UL.out.mono ?_
    rintro e u' w3 ⟨rfl, rfl, rfl⟩
    exact ⟨_, results_tmp rfl _ _ _, 0, rfl, .inl ⟨rfl, L.out, D.out⟩⟩
theorem HW.rg (H : HW w W hb sb lw x t fr ls S s) : ∃ r, t.m.n = r * 2 ^ x.o ∧ r ≤ x.lim ∧ x.n = r * x.R := H.po.nums.2.2.2.2.1
theorem HW.trim (H : HW w W hb sb lw x t fr ls S s) {r : Nat} (hr : t.m.n = r * 2 ^ x.o) :
    Calls Tryz.prog 57 #[.pointer (some ⟨lw, 0, none⟩)] W fun e w' => e = .returned (.int .i64 ((trF x.o r fr).1 : Int)) ∧ ∃ x' t', Nx w W w' hb sb lw x t ls S s x' t' (trF x.o r fr).2 ls S ∧ t'.m.n = (r - (trF x.o r fr).1) * 2 ^ x.o := by
  obtain ⟨h, o⟩ := H.so
  refine (K.Trim_any o.po r hr).mono ?_
  rintro e w' ⟨rfl, x', t', po', sm, htn, kp, nb, bk⟩
  have o' := o.pool po' sm bk (fun a c ha => (o.mem ha).1) kp
  have ks : Kept (sown x sb) W w' := kp.mono (fun _ _ e => .inl e)
  have ch : Ch x t ls S x' t' ls S := ⟨sm.base, sm.R, sm.lim, sm.o, fun j h1 h2 => bk j (o.byte h1) (o'.byte h2)⟩
  exact ⟨rfl, x', t', ⟨H.call o' H.lv ch ks, ch, ks, fun y e => e.elim (fun e => (nb y e).imp (fun e => .inl e) id) (fun e => .inl (.inr e))⟩, htn⟩
set_option maxRecDepth 4000 in
theorem Trim_h (H : HW w W hb sb lw x t fr ls S 0) {r : Nat} (hr : t.m.n = r * 2 ^ x.o) :
    Calls Tryz.prog 19 #[.pointer (some ⟨hb, 0, none⟩)] W fun e w' => e = .returned (.int .i64 ((trF x.o r fr).1 : Int)) ∧ ∃ x' t', Nx w W w' hb sb lw x t ls S 0 x' t' (trF x.o r fr).2 ls S ∧ t'.m.n = (r - (trF x.o r fr).1) * 2 ^ x.o := by
  have LK := hid H.lock
  have HH := hid H
  have TR := hid (H.in.trim hr)
  obtain ⟨c0, c2, c3, c4, c5, c6⟩ := H.in.c
  obtain ⟨n, hn⟩ : ∃ n, n = (trF x.o r fr).1 := ⟨_, rfl⟩
  rw [← hn] at TR ⊢
  clear H hr hn
  go_enter_defers Tryz.func19, Tryz.ntmps19
  go_wp2_with fail
  refine LK.out.mono ?_
  rintro e w1 ⟨rfl, rfl⟩
  go_wp2_with fail
  refine TR.out.mono ?_
  rintro e w2 ⟨rfl, x', t', nx, htn⟩
  have UL := hid (nx.H.unlock .returning)
  have D := hid (And.intro (nx.out HH.out) htn)
  clear nx htn
  go_wp2_with fail
  refine leaves_cons (f := 36) (args := #[.pointer (some ⟨hb, 0, none⟩)]) (by simp) (by simp [go_sem]) ?_
  refine UL.out.mono ?_
  rintro e u' w3 ⟨rfl, rfl, rfl⟩
  exact ⟨_, results_tmp rfl _ _ _, rfl, x', t', D.out.1, D.out.2⟩
end
end Go.Proofs.YtgjapopddblpoaaGreatDoor
