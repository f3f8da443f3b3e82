import Derived.Test.YtocpnddacdpnmaaGreatDoorSlT
/- Package slab: Take. -/
namespace Go.Proofs.YtocpnddacdpnmaaGreatDoor
open Go.RowKit
set_option linter.unusedVariables false

/-- What Take found. -/
inductive TkP (w W : World) (sb lw : Nat) (x : Bx) (t : Bt) (fr : Nat → List Nat) (ls : List (Nat × Nat)) (S : Sb) (h : Nat → Int) (c : Int) (d : Bool) (e : Ending) (w' : World) : Prop where
  | bad (hc : ¬ (0 ≤ c ∧ c < 8)) (he : e = .returned (.tuple #[.int .u64 0, .bool false, .int .i64 1])) (kp : Kept none' W w')
  | stuck (k : Nat) (hk : k < 8) (hc : c = (k : Int)) (hl : S.pl k = []) (hz : ∀ a, a ≤ x.o → fr a = []) (hd : d = true ∨ x.n = x.lim * x.R) (he : e = .returned (.tuple #[.int .u64 0, .bool false, .int .i64 2])) (kp : Kept none' W w')
  | old (k p i : Nat) (l r : List Nat) (hk : k < 8) (hc : c = (k : Int)) (hl : S.pl k = p :: l) (hf : S.fl p = i :: r) (he : e = .returned (.tuple #[.int .u64 ((caN x p k i : Nat) : Int), .bool false, .int .i64 0])) (so : ∃ P m' h', SO w w' sb lw { x with P := P } { t with m := m' } fr ls (takS S p k r) h' ∧ m'.n = t.m.n) (kp : Kept (sown x sb) W w')
  | new (k p : Nat) (b : Bool) (hk : k < 8) (hc : c = (k : Int)) (hl : S.pl k = []) (he : e = .returned (.tuple #[.int .u64 ((caN x p k 0 : Nat) : Int), .bool b, .int .i64 0])) (so : ∃ x' t' fr' h', Ned x t fr d p b fr' ∧ SO w w' sb lw x' t' fr' (ls ++ [(p, 0)]) (takS (freS S p k) p k (List.range' 1 (ncl k - 1))) h' ∧ Sm x { x' with P := x.P } ∧ (∀ i, Lv ls (i / 4096) → t'.f i = t.f i) ∧ Nb W x x' ∧ t'.m.n = (if b = true then t.m.n + 2 ^ x.o else t.m.n) ∧ x'.n = (if b = true then x.n + x.R else x.n)) (hcp : S.c p = none) (nl : ∀ i, (p, i) ∉ ls) (kp : Kept (sown x sb) W w')
theorem hanM_n {w W sb lw x t fr ls S h w'} (o : SO w W sb lw x t fr ls S h) {p k i : Nat} {r : List Nat} (hc : S.c p = some k) (hf : S.fl p = i :: r) (se : SE w W sb lw x t (hanM t.m p i r) (hanH t.m h p k i r) w') : (hanM t.m p i r).n = t.m.n := by
  have h1 := (o.hand hc hf se).st
  have h2 := o.st
  have h3 : (hanM t.m p i r).n * 4096 = x.n := h1
  omega
set_option maxRecDepth 4000 in
theorem Take_bad {w W sb lw x t fr ls S h} (o : SO w W sb lw x t fr ls S h) (c : Int) (hc : ¬ (0 ≤ c ∧ c < 8)) (d : Bool) :
    Calls Tryz.prog 9 #[.pointer (some ⟨sb, 0, none⟩), .int .i64 c, .bool d] W fun e w' => TkP w W sb lw x t fr ls S h c d e w' := by
  have D := hid (show TkP w W sb lw x t fr ls S h c d (.returned (.tuple #[.int .u64 0, .bool false, .int .i64 1])) W from .bad hc rfl (Kept.refl _ _))
  clear o
  by_cases h0 : c < 0
  · clear hc
    go_enter Tryz.func9, Tryz.ntmps9
    go_wp2_with fail
    exact ⟨rfl, .tuple #[.int .u64 0, .bool false, .int .i64 1], by simp [results, Tryz.results9, go_sem], D.out⟩
  · have h8 : 8 ≤ c := by omega
    clear hc
    go_enter Tryz.func9, Tryz.ntmps9
    go_wp2_with fail
    exact ⟨rfl, .tuple #[.int .u64 0, .bool false, .int .i64 1], by simp [results, Tryz.results9, go_sem], D.out⟩
set_option maxRecDepth 4000 in
set_option maxHeartbeats 1000000 in
theorem Take_s {w W sb lw x t fr ls S h} (o : SO w W sb lw x t fr ls S h) (k : Nat) (hk : k < 8) (d : Bool) :
    Calls Tryz.prog 9 #[.pointer (some ⟨sb, 0, none⟩), .int .i64 (k : Int), .bool d] W fun e w' => TkP w W sb lw x t fr ls S h (k : Int) d e w' := by
  have ch := o.sw.hd k hk
  have hki : (k : Int) < 8 := by omega
  have hk0 : ¬ (k : Int) < 0 := by omega
  have hk8 : ¬ 8 ≤ (k : Int) := by omega
  have HO := hid o
  have HD := o.hd k hk
  cases hl : S.pl k with
  | nil =>
    rw [hl] at HD
    have hz : h k = -1 := HD
    rw [hz] at ch
    have FR := hid (fresh_s o k hk d)
    have HL := hid hl
    clear o HD hz hl
    go_enter Tryz.func9, Tryz.ntmps9
    go_wp2_with fail
    refine FR.out.mono ?_
    intro e w1 hF
    cases hF with
    | stuck hz hd he kp =>
      subst he
      have D := hid (show TkP w W sb lw x t fr ls S h (k : Int) d (.returned (.tuple #[.int .u64 0, .bool false, .int .i64 2])) w1 from .stuck k hk rfl HL.out hz hd rfl kp)
      clear hz hd kp FR ch
      go_wp2_with fail
      exact ⟨rfl, .tuple #[.int .u64 0, .bool false, .int .i64 2], by simp [results, Tryz.results9, go_sem], D.out⟩
    | got p b he fo =>
      subst he
      obtain ⟨⟨x1, t1, fr1, hned, o1, hsm, hf1, hnb, htn, hxn⟩, hc, nl, kp⟩ := fo
      have hnl := ncl_b hk
      have hfp : (freS S p k).fl p = 0 :: List.range' 1 (ncl k - 1) := by
        have : (freS S p k).fl p = List.range' 0 (ncl k) := updF_self _ _ _
        rw [this]
        obtain ⟨m, hm⟩ : ∃ m, ncl k = m + 1 := ⟨ncl k - 1, by omega⟩
        rw [hm]
        rfl
      have hcp : (freS S p k).c p = some k := updF_self _ _ _
      have c1 : w1.cell? ⟨sb, 2 + k, none⟩ = some (.int .i64 (p : Int)) := by
        have := o1.sw.hd k hk
        rw [show uphI h k (p : Int) k = (p : Int) from if_pos rfl] at this
        exact this
      have hca : caN x1 p k 0 = caN x p k 0 := caN_sm hsm.base p k 0
      have HA := hid (show Calls Tryz.prog 38 #[.pointer (some ⟨sb, 0, none⟩), .int .i64 (p : Int), .int .i64 (k : Int)] w1 fun e w' => e = .returned (.tuple #[.int .u64 ((caN x p k 0 : Nat) : Int), .int .i64 0]) ∧ TkP w W sb lw x t fr ls S h (k : Int) d (.returned (.tuple #[.int .u64 ((caN x p k 0 : Nat) : Int), .bool b, .int .i64 0])) w' from by
        refine (hand_s o1 p k 0 _ hcp hfp).mono ?_
        rintro e w2 ⟨rfl, se⟩
        refine ⟨by rw [hca], .new k p b hk rfl HL.out rfl ⟨_, _, fr1, _, hned, o1.hand hcp hfp se, hsm, hf1, hnb, ?_, hxn⟩ hc nl ?_⟩
        · rw [← htn]
          exact hanM_n o1 hcp hfp se
        · refine kp.trans se.2 (fun _ _ e => e) (fun y hy e => ?_)
          rcases e with e | e
          · rcases hnb y e with e | e
            · exact .inl e
            · omega
          · exact .inr e)
      obtain ⟨a, ha⟩ : ∃ a, a = caN x p k 0 := ⟨_, rfl⟩
      rw [← ha] at HA
      have hpn : (p : Int) ≠ -1 := by omega
      clear hned o1 hsm hf1 hnb htn hxn hc nl kp hnl hfp hcp hca ha FR ch
      go_wp2_with fail
      refine HA.out.mono ?_
      rintro e w2 ⟨rfl, h2⟩
      have D := hid h2
      clear h2
      go_wp2_with fail
      exact ⟨rfl, .tuple #[.int .u64 (a : Int), .bool b, .int .i64 0], by simp [results, Tryz.results9, go_sem], D.out⟩
  | cons p l =>
    rw [hl] at HD
    have hz : h k = (p : Int) := HD
    rw [hz] at ch
    obtain ⟨hc, hne⟩ := (o.si.pm k hk p).1 (by rw [hl]; exact List.mem_cons_self)
    obtain ⟨i, r, hf⟩ : ∃ i r, S.fl p = i :: r := by
      cases e : S.fl p with
      | nil => exact absurd e hne
      | cons i r => exact ⟨i, r, rfl⟩
    have HA := hid (show Calls Tryz.prog 38 #[.pointer (some ⟨sb, 0, none⟩), .int .i64 (p : Int), .int .i64 (k : Int)] W fun e w' => e = .returned (.tuple #[.int .u64 ((caN x p k i : Nat) : Int), .int .i64 0]) ∧ TkP w W sb lw x t fr ls S h (k : Int) d (.returned (.tuple #[.int .u64 ((caN x p k i : Nat) : Int), .bool false, .int .i64 0])) w' from by
      refine (hand_s o p k i r hc hf).mono ?_
      rintro e w2 ⟨rfl, se⟩
      exact ⟨rfl, .old k p i l r hk rfl hl hf rfl ⟨_, _, _, o.hand hc hf se, hanM_n o hc hf se⟩ se.2⟩)
    obtain ⟨a, ha⟩ : ∃ a, a = caN x p k i := ⟨_, rfl⟩
    rw [← ha] at HA
    have hpn : (p : Int) ≠ -1 := by omega
    clear o HD hz hl hc hne hf ha
    go_enter Tryz.func9, Tryz.ntmps9
    go_wp2_with fail
    refine HA.out.mono ?_
    rintro e w2 ⟨rfl, h2⟩
    have D := hid h2
    clear h2
    go_wp2_with fail
    exact ⟨rfl, .tuple #[.int .u64 (a : Int), .bool false, .int .i64 0], by simp [results, Tryz.results9, go_sem], D.out⟩
theorem Take_any {w W sb lw x t fr ls S h} (o : SO w W sb lw x t fr ls S h) (c : Int) (d : Bool) :
    Calls Tryz.prog 9 #[.pointer (some ⟨sb, 0, none⟩), .int .i64 c, .bool d] W fun e w' => TkP w W sb lw x t fr ls S h c d e w' := by
  by_cases hc : 0 ≤ c ∧ c < 8
  · obtain ⟨k, rfl⟩ : ∃ k : Nat, c = (k : Int) := ⟨c.toNat, by omega⟩
    exact Take_s o k (by omega) d
  · exact Take_bad o c hc d
end Go.Proofs.YtocpnddacdpnmaaGreatDoor
