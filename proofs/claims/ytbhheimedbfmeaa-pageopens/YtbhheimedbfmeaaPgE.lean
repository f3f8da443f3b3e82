/- pagemap: Own. -/
import Derived.Test.YtbhheimedbfmeaaPgD
namespace Go.Proofs.Ytbhheimedbfmeaa
open Go.RowKit
set_option linter.unusedVariables false

theorem MapAt.rowg {w b B m} {g : Nat} (h : MapAt w b B m) (hg : B.g = some g) : Row w g m.n m.pg := by
  have hr := h.row
  rwa [hg] at hr
theorem ncell_le {c : Int} (h : 0 ≤ c) : ncell c ≤ 256 := Nat.div_le_self _ _
theorem inCell {cl c : Int} (h0 : 0 ≤ cl) (h : inR (ncell cl) c = true) : ∃ k : Nat, c = k ∧ k < 256 := by
  obtain ⟨k, rfl, hk⟩ := inR_nat h
  exact ⟨k, rfl, Nat.lt_of_lt_of_le hk (ncell_le h0)⟩
theorem Own_out (b : Nat) (B : Bs) (m : Mp) (i c : Int) (live : Bool) (w : World) (h : MapAt w b B m) (hi : inR m.n i = false) :
    Calls Try.prog 16 #[.pointer (some ⟨b, 0, none⟩), .int .i64 i, .int .i64 c, .bool live] w fun e w' => e = .returned (.int .i64 1) ∧ w' = w := by
  have HM := hid h
  have HI := hid hi
  clear h hi
  go_enter Try.func16, Try.ntmps16
  go_wp2_with fail
  refine (slab_out b B m i _ HM.out HI.out).mono ?_
  rintro e w1 ⟨rfl, rfl⟩
  go_wp2_with fail
  go_ret
  exact ⟨rfl, rfl⟩
theorem Own_kind (b : Nat) (B : Bs) (m : Mp) (k : Nat) (c : Int) (live : Bool) (w : World) (h : MapAt w b B m) (hk : k < m.n) (hkd : (m.pg k).kd ≠ 4) :
    Calls Try.prog 16 #[.pointer (some ⟨b, 0, none⟩), .int .i64 (k : Int), .int .i64 c, .bool live] w fun e w' => e = .returned (.int .i64 1) ∧ w' = w := by
  have HM := hid h
  obtain ⟨g, hg, hr⟩ := h.has_row (by omega)
  have S := hid (slab_in b B m g k w h hg hk)
  rw [if_neg hkd] at S
  clear h hr hg
  go_enter Try.func16, Try.ntmps16
  go_wp2_with fail
  refine S.out.mono ?_
  rintro e w1 ⟨rfl, rfl⟩
  go_wp2_with fail
  go_ret
  exact ⟨rfl, rfl⟩
theorem Own_cell (b : Nat) (B : Bs) (m : Mp) (k : Nat) (c : Int) (live : Bool) (w : World) (h : MapAt w b B m) (hk : k < m.n) (hkd : (m.pg k).kd = 4) (hc : inR (ncell (m.pg k).cl) c = false) :
    Calls Try.prog 16 #[.pointer (some ⟨b, 0, none⟩), .int .i64 (k : Int), .int .i64 c, .bool live] w fun e w' => e = .returned (.int .i64 1) ∧ w' = w := by
  have HM := hid h
  obtain ⟨g, hg, hr⟩ := h.has_row (by omega)
  have S := hid (slab_in b B m g k w h hg hk)
  rw [if_pos hkd] at S
  obtain ⟨d0, d1, d2, d3, d4, d5, d6, d7, d8, d9, d10⟩ := hr.cell k hk
  have HC := hid (hasCell_any g (k * 11) (m.pg k).cl (h.ok k hk).c0 (h.ok k hk).c7 c w d2)
  rw [hc] at HC
  clear h hr hg
  go_enter Try.func16, Try.ntmps16
  go_wp2_with fail
  refine S.out.mono ?_
  rintro e w1 ⟨rfl, rfl⟩
  go_wp2_with fail
  refine HC.out.mono ?_
  rintro e w1 ⟨rfl, rfl⟩
  go_wp2_with fail
  go_ret
  exact ⟨rfl, rfl⟩
theorem Own_same (b : Nat) (B : Bs) (m : Mp) (k c : Nat) (w : World) (h : MapAt w b B m) (hk : k < m.n) (hkd : (m.pg k).kd = 4) (hc : inR (ncell (m.pg k).cl) (c : Int) = true) (hc2 : c < 256) :
    Calls Try.prog 16 #[.pointer (some ⟨b, 0, none⟩), .int .i64 (k : Int), .int .i64 (c : Int), .bool (litP (m.pg k) c)] w fun e w' => e = .returned (.int .i64 1) ∧ Kept none' w w' := by
  have HM := hid h
  obtain ⟨g, hg, hr⟩ := h.has_row (by omega)
  have S := hid (slab_in b B m g k w h hg hk)
  rw [if_pos hkd] at S
  obtain ⟨d0, d1, d2, d3, d4, d5, d6, d7, d8, d9, d10⟩ := hr.cell k hk
  have HC := hid (hasCell_any g (k * 11) (m.pg k).cl (h.ok k hk).c0 (h.ok k hk).c7 c w d2)
  rw [hc] at HC
  have HL := hid (isLive_any (m.pg k) (h.ok k hk) c hc2 w)
  generalize litP (m.pg k) c = lv at *
  clear h hr hg
  go_enter Try.func16, Try.ntmps16
  go_wp2_with fail
  refine S.out.mono ?_
  rintro e w1 ⟨rfl, rfl⟩
  go_wp2_with fail
  refine HC.out.mono ?_
  rintro e w1 ⟨rfl, rfl⟩
  go_wp2_with fail
  refine HL.out.mono ?_
  rintro e w2 ⟨rfl, k2⟩
  have K2 := hid k2
  clear k2
  cases lv
  all_goals
    go_wp2_with fail
    go_ret
    exact ⟨rfl, K2.out⟩
theorem Row.bits {w g n pg} (h : Row w g n pg) (i : Nat) (hi : i < n) (t : Pg) (x : Int) (hr : t.kd = (pg i).kd ∧ t.od = (pg i).od ∧ t.cl = (pg i).cl ∧ t.lv = (pg i).lv ∧ t.nx = (pg i).nx ∧ t.pv = (pg i).pv ∧ t.fs = (pg i).fs) :
    Row (((((w.setCell ⟨g, i * 11 + 7, none⟩ (.int .u64 (t.b0 : Int))).setCell ⟨g, i * 11 + 7 + 1, none⟩ (.int .u64 (t.b1 : Int))).setCell ⟨g, i * 11 + 7 + 2, none⟩ (.int .u64 (t.b2 : Int))).setCell ⟨g, i * 11 + 7 + 3, none⟩ (.int .u64 (t.b3 : Int))).setCell ⟨g, i * 11 + 3, none⟩ (.int .i64 x)) g n (upp pg i { t with lv := x }) := by
  have := (((((RowC.set h i 7 hi (by decide) (.int .u64 (t.b0 : Int))).set i 8 hi (by decide) (.int .u64 (t.b1 : Int))).set i 9 hi (by decide) (.int .u64 (t.b2 : Int))).set i 10 hi (by decide) (.int .u64 (t.b3 : Int))).set i 3 hi (by decide) (.int .i64 x))
  obtain ⟨e0, e1, e2, e3, e4, e5, e6⟩ := hr
  refine RowC.congr this (fun a ha b hb => fld_up a b hb (fun j hj => ?_) (fun e => ?_))
  · revert j
    apply lt11 <;> simp [upc, Pg.fld, e0, e1, e2, e4, e5, e6]
  · simp [upc, e]
def ownP (p : Pg) (c : Nat) : Pg := { turnP p c with lv := wrap64 (if litP p c = true then p.lv - 1 else p.lv + 1) }
theorem Own_turn (b : Nat) (B : Bs) (m : Mp) (k c : Nat) (w : World) (h : MapAt w b B m) (hk : k < m.n) (hkd : (m.pg k).kd = 4) (hc : inR (ncell (m.pg k).cl) (c : Int) = true) (hc2 : c < 256) :
    Calls Try.prog 16 #[.pointer (some ⟨b, 0, none⟩), .int .i64 (k : Int), .int .i64 (c : Int), .bool (!litP (m.pg k) c)] w fun e w' => e = .returned (.int .i64 0) ∧ MapAt w' b B { m with pg := upp m.pg k (ownP (m.pg k) c) } ∧ Kept (mown b B m.o) w w' := by
  have HM := hid h
  obtain ⟨g, hg, hr⟩ := h.has_row (by omega)
  have S := hid (slab_in b B m g k w h hg hk)
  rw [if_pos hkd] at S
  obtain ⟨d0, d1, d2, d3, d4, d5, d6, d7, d8, d9, d10⟩ := hr.cell k hk
  have HC := hid (hasCell_any g (k * 11) (m.pg k).cl (h.ok k hk).c0 (h.ok k hk).c7 c w d2)
  rw [hc] at HC
  have HL := hid (isLive_any (m.pg k) (h.ok k hk) c hc2 w)
  have HT := hid (turned_any (m.pg k) (h.ok k hk) c hc2)
  have OP := hid (show ownP (m.pg k) c = { turnP (m.pg k) c with lv := wrap64 (if litP (m.pg k) c = true then (m.pg k).lv - 1 else (m.pg k).lv + 1) } from rfl)
  have HG := hid hg
  have HK := hid hk
  have OK := hid ((h.ok k hk).turn c)
  have TR := hid (turn_rest (m.pg k) c)
  generalize turnP (m.pg k) c = tp at *
  generalize litP (m.pg k) c = lv at *
  clear h hr hg hk
  go_enter Try.func16, Try.ntmps16
  go_wp2_with fail
  refine S.out.mono ?_
  rintro e w1 ⟨rfl, rfl⟩
  go_wp2_with fail
  refine HC.out.mono ?_
  rintro e w1 ⟨rfl, rfl⟩
  go_wp2_with fail
  refine HL.out.mono ?_
  rintro e w2 ⟨rfl, k2⟩
  have M2 := hid (HM.out.keep k2)
  have K2 := hid k2
  clear k2 d0 d1 d2 d3 d4 d5 d6 d7 d8 d9 d10
  obtain ⟨d0, d1, d2, d3, d4, d5, d6, d7, d8, d9, d10⟩ := (M2.out.rowg HG.out).cell k HK.out
  cases lv
  all_goals
    go_wp2_with fail
    refine (HT.out _).mono ?_
    rintro e w3 ⟨rfl, k3⟩
    have M3 := hid (M2.out.keep k3)
    have K3 := hid (none_trans K2.out k3)
    clear k3 d0 d1 d2 d3 d4 d5 d6 d7 d8 d9 d10
    obtain ⟨d0, d1, d2, d3, d4, d5, d6, d7, d8, d9, d10⟩ := (M3.out.rowg HG.out).cell k HK.out
    have z := RowC.froz (M3.out.rowg HG.out)
    go_wp2_with fail
    go_ret
    rw [OP.out]
    refine ⟨rfl, M3.out.pages HG.out ?_ ((M3.out.rowg HG.out).bits k HK.out tp _ TR.out) (fun i hi => ?_), ?_⟩
    · exact (((((Kept.refl (fun x => x = g) w3).setCell (p := ⟨g, _, none⟩) rfl _).setCell (p := ⟨g, _, none⟩) rfl _).setCell (p := ⟨g, _, none⟩) rfl _).setCell (p := ⟨g, _, none⟩) rfl _).setCell (p := ⟨g, _, none⟩) rfl _
    · unfold upp
      split
      · exact ⟨OK.out.o0, OK.out.o8, OK.out.c0, OK.out.c7, OK.out.b0, OK.out.b1, OK.out.b2, OK.out.b3⟩
      · exact M3.out.ok i hi
    · exact ((((((K3.out.mono (fun _ _ x => x.elim)).setCell (p := ⟨g, _, none⟩) (.inr (.inl HG.out)) _).setCell (p := ⟨g, _, none⟩) (.inr (.inl HG.out)) _).setCell (p := ⟨g, _, none⟩) (.inr (.inl HG.out)) _).setCell (p := ⟨g, _, none⟩) (.inr (.inl HG.out)) _).setCell (p := ⟨g, _, none⟩) (.inr (.inl HG.out)) _)
end Go.Proofs.Ytbhheimedbfmeaa
