import Derived.Test.YtocpnddacdpnmaaGreatDoorSlI
import Derived.Laws.CopyRow
import Derived.Laws.CopyOwn
/- Package slab: New, Open, Partial. -/
namespace Go.Proofs.YtocpnddacdpnmaaGreatDoor
open Go.RowKit
set_option linter.unusedVariables false

theorem SW.congr {w W sb lw x t h h'} (s : SW w W sb lw x t h) (e : ∀ k, k < 8 → h k = h' k) : SW w W sb lw x t h' := by
  refine ⟨s.pl, ?_, s.nw, s.tb⟩
  have := s.bx
  rw [slO, e 0 (by decide), e 1 (by decide), e 2 (by decide), e 3 (by decide), e 4 (by decide), e 5 (by decide), e 6 (by decide), e 7 (by decide)] at this
  exact this
set_option maxRecDepth 4000 in
theorem over_s {w W lw x t fr ls} (s : PO w W lw x t fr ls) (hT : Tab w) :
    Calls Tryz.prog 83 #[.pointer (some ⟨lw, 0, none⟩)] W fun e w' => ∃ sb, e = .returned (.pointer (some ⟨sb, 0, none⟩)) ∧ SW w w' sb lw x t (fun _ => 0) ∧ Kept none' W w' ∧ W.heap.size ≤ sb := by
  obtain ⟨n1, n2, n3, n4, _⟩ := s.nums
  have hst := s.st
  have HM := hid (Map6 s.pl)
  have PG := hid (pages6 s)
  have SP := hid (fun W' (k : Kept none' W W') => Space6 (s.keep k).pl)
  obtain ⟨pn, hpn⟩ : ∃ pn, pn = t.m.n := ⟨_, rfl⟩
  obtain ⟨xn, hxn⟩ : ∃ xn, xn = x.n := ⟨_, rfl⟩
  obtain ⟨en, hen⟩ : ∃ en, en = x.base + x.n := ⟨_, rfl⟩
  have EN := hid (fun W' (k : Kept none' W W') => end6 (s.keep k))
  rw [← hen] at EN
  rw [← hpn] at PG
  have hpi : (pn : Int) * 4096 = (xn : Int) := by omega
  have hxb : xn ≤ 4194304 := by omega
  have hpb : pn ≤ 1024 := by omega
  obtain ⟨bs, hbs⟩ : ∃ bs, bs = x.base := ⟨_, rfl⟩
  have heb : (en : Int) - (xn : Int) = (bs : Int) := by omega
  have henb : en ≤ 9223372036854775808 := by omega
  have hbsb : bs ≤ 9223372036854775808 := by omega
  have HB := hid hbs
  have HS := hid s
  have HT := hid hT
  clear s hst n1 n2 n3 n4 hpn hxn hen hbs hT
  go_enter Tryz.func83, Tryz.ntmps83
  go_wp2_with fail
  refine HM.out.mono ?_
  rintro e w1 ⟨rfl, h1⟩
  replace h1 := h1.symm
  subst h1
  go_wp2_with fail
  refine PG.out.mono ?_
  rintro e w2 ⟨rfl, h2⟩
  replace h2 := h2.symm
  subst h2
  go_wp2_with fail
  refine (SP.out _ (Kept.refl none' W)).mono ?_
  rintro e w3 ⟨rfl, h3⟩
  replace h3 := h3.symm
  subst h3
  go_wp2_with fail
  refine (EN.out _ (Kept.refl none' W)).mono ?_
  rintro e w4 ⟨rfl, hk⟩
  have D := hid (show SW w (w4.alloc (slO lw bs (fun _ => 0))) w4.heap.size lw x t (fun _ => 0) ∧ Kept none' W (w4.alloc (slO lw bs (fun _ => 0))) ∧ W.heap.size ≤ w4.heap.size from by
    have k2 := hk.alloc (slO lw bs (fun _ => 0))
    refine ⟨⟨(HS.out.keep k2).pl, ?_, Nat.le_trans (HS.out.keep hk).pl.kp.size (Nat.le_refl _), HT.out⟩, k2, hk.size⟩
    rw [← HB.out]
    exact heap_new w4 _)
  clear hk
  go_wp2_with fail
  go_ret
  exact ⟨_, rfl, D.out⟩
theorem New7 {w W lw x t fr ls} (s : PO w W lw x t fr ls) (hT : Tab w) :
    Calls Tryz.prog 33 #[.pointer (some ⟨lw, 0, none⟩)] W fun e w' => ∃ sb, e = .returned (.pointer (some ⟨sb, 0, none⟩)) ∧ SW w w' sb lw x t (fun _ => -1) ∧ Kept none' W w' ∧ W.heap.size ≤ sb := by
  have OV := hid (over_s s hT)
  clear s hT
  go_enter Tryz.func33, Tryz.ntmps33
  go_wp2_with fail
  refine OV.out.mono ?_
  rintro e w1 ⟨sb, rfl, hs, hk, hz⟩
  have I0 := hid (show SW w w1 sb lw x t (fun j => if j < 0 then -1 else 0) ∧ Kept none' W w1 from ⟨hs, hk⟩)
  have HZ := hid hz
  clear hs hk hz OV
  go_wp2_with fail
  go_loopw [7] (fun si W' => ∃ k : Nat, k ≤ 8 ∧ si = .int .i64 (k : Int) ∧ Hid (SW w W' sb lw x t (fun j => if j < k then -1 else 0) ∧ Kept none' W W')) (fun si _ => 8 - (intOf si).toNat)
  case atStart => exact ⟨0, by decide, rfl, I0⟩
  case round =>
    clear I0
    obtain ⟨k, hk, rfl, HI⟩ := hrel
    have SI := hid HI.out.1
    have KI := hid HI.out.2
    clear HI
    by_cases hlt : k < 8
    · have hki : (k : Int) < 8 := by omega
      have c2 := SI.out.hd k hlt
      have fz := SI.out.fz (2 + k)
      have S2 := hid (show SW w (wr.setCell ⟨sb, 2 + k, none⟩ (.int .i64 (-1))) sb lw x t (fun j => if j < k + 1 then -1 else 0) ∧ Kept none' W (wr.setCell ⟨sb, 2 + k, none⟩ (.int .i64 (-1))) from by
        refine ⟨(SI.out.set k hlt (-1)).congr (fun j hj => ?_), KI.out.setNew (p := ⟨sb, 2 + k, none⟩) (fun e => absurd e (Nat.not_lt.2 HZ.out)) _⟩
        unfold uphI
        by_cases e : j = k
        · rw [if_pos e, if_pos (by omega)]
        · rw [if_neg e]
          show (if j < k then (-1 : Int) else 0) = if j < k + 1 then (-1 : Int) else 0
          by_cases e2 : j < k
          · rw [if_pos e2, if_pos (by omega)]
          · rw [if_neg e2, if_neg (by omega)])
      go_wp2_with fail
      go_round
      case rel => exact ⟨k + 1, by omega, by go_num, S2⟩
      case measure => simp [intOf]; omega
    · have hki : ¬ (k : Int) < 8 := by omega
      have D := hid (show SW w wr sb lw x t (fun _ => -1) ∧ Kept none' W wr ∧ W.heap.size ≤ sb from ⟨SI.out.congr (fun j hj => by show (if j < k then (-1 : Int) else 0) = -1; rw [if_pos (by omega)]), KI.out, HZ.out⟩)
      go_wp2_with fail
      go_ret
      exact ⟨sb, rfl, D.out⟩
/-- Eight heads in a block of their own. -/
abbrev hdO (h : Nat → Int) : Obj := .cells #[.int .i64 (h 0), .int .i64 (h 1), .int .i64 (h 2), .int .i64 (h 3), .int .i64 (h 4), .int .i64 (h 5), .int .i64 (h 6), .int .i64 (h 7)] 96
theorem Partial_s {w W sb lw x t h} (s : SW w W sb lw x t h) :
    Calls Tryz.prog 11 #[.pointer (some ⟨sb, 0, none⟩)] W fun e w' => ∃ b, e = .returned (.slice (some ⟨b, 0, none⟩) 8 8) ∧ w'.heap[b]? = some (hdO h) ∧ Kept none' W w' ∧ W.heap.size ≤ b := by
  have c0 := s.hd 0 (by decide)
  have c1 := s.hd 1 (by decide)
  have c2 := s.hd 2 (by decide)
  have c3 := s.hd 3 (by decide)
  have c4 := s.hd 4 (by decide)
  have c5 := s.hd 5 (by decide)
  have c6 := s.hd 6 (by decide)
  have c7 := s.hd 7 (by decide)
  have D := hid (show (W.alloc (hdO h)).heap[W.heap.size]? = some (hdO h) ∧ Kept none' W (W.alloc (hdO h)) ∧ W.heap.size ≤ W.heap.size from ⟨heap_new W _, (Kept.refl none' W).alloc _, Nat.le_refl _⟩)
  clear s
  go_enter Tryz.func11, Tryz.ntmps11
  go_wp2_with fail
  go_ret
  exact ⟨_, rfl, D.out⟩
end Go.Proofs.YtocpnddacdpnmaaGreatDoor
