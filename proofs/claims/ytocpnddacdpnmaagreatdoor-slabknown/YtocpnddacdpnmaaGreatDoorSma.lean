/- croftlaw7.begin. -/
import Derived.Test.YtocpnddacdpnmaaGreatDoorSlZ
import Derived.Test.YtocpnddacdpnmaaGreatDoorSlw
import Derived.Deep.RegionHeld3
namespace Go.Proofs.YtocpnddacdpnmaaGreatDoor
open Go.RowKit
set_option linter.unusedVariables false

/-- A world of croftlaw7 in memory. -/
abbrev w7O (base lim o lw sb : Nat) (fv lv pv qv : Value) (po pp : Int) : Obj := .cells #[.int .u64 (base : Int), .int .i64 (lim : Int), .int .i64 (o : Int), .pointer (some ⟨lw, 0, none⟩), .pointer (some ⟨sb, 0, none⟩), .int .u64 (base : Int), .int .i64 (lim : Int), .int .i64 (o : Int), .int .i64 po, .int .i64 pp, fv, lv, pv, qv] 40
def S0 : Sb := ⟨fun _ => none, fun _ => [], fun _ => []⟩
/-- What begin leaves. -/
def Beg7 (w : World) (base lim o : Nat) (e : Ending) (w' : World) : Prop := ∃ wb lw sb x fv lv pv qv, e = .returned (.pointer (some ⟨wb, 0, none⟩)) ∧ w'.heap[wb]? = some (w7O base lim o lw sb fv lv pv qv (o : Int) 0) ∧ w.heap.size ≤ wb ∧ SO w w' sb lw x ⟨fun _ => 0, newM o, fun _ => 0⟩ (fun _ => []) [] S0 (fun _ => -1) ∧ x.base = base ∧ x.R = 4096 * 2 ^ o ∧ x.lim = lim ∧ x.n = 0 ∧ x.o = o ∧ Kept none' w w' ∧ ¬ sown x sb wb
theorem PO.from {w w1 W lw x t fr ls} (k : Kept none' w w1) (h : PO w1 W lw x t fr ls) : PO w W lw x t fr ls := ⟨h.pl.from k, h.sf, h.st, h.bm⟩
set_option maxRecDepth 4000 in
set_option maxHeartbeats 4000000 in
theorem begin7_ok (base : Nat) (hb64 : base < 18446744073709551616) (lim o : Nat) (hl : lim ≤ 64) (ho : o ≤ 8) (hm : M.mayB base (lim : Int) (o : Int) = true) (hb4 : base % 4096 = 0) (w : World) (hT : Tab w) :
    Calls Tryz.prog 7 #[cfgV base (lim : Int) (o : Int)] w fun e w' => Beg7 w base lim o e w' := by
  have K0 := hid ((Kept.refl none' w).alloc (cfgO base (lim : Int) (o : Int)))
  have X0 := hid (heap_new w (cfgO base (lim : Int) (o : Int)))
  have MY := hid (fun W => M.May_any base hb64 (lim : Int) (o : Int) (by omega) (by omega) (by omega) (by omega) W)
  rw [hm] at MY
  have NW := hid (fun W => New6_ok base hb64 lim o hl ho hm W)
  have HT := hid hT
  clear hm hT
  go_enter Tryz.func7, Tryz.ntmps7
  obtain ⟨x0, x1, x2⟩ := cfg3 X0.out
  go_wp2_with fail
  refine (MY.out _).mono ?_
  rintro e w1 ⟨rfl, hk⟩
  have X1 := hid (((toK hk).block _ (heap_lt X0.out) (fun x => x)).trans X0.out)
  have K1 := hid (none_trans K0.out (toK hk))
  clear x0 x1 x2 hk X0 K0 MY
  obtain ⟨x0, x1, x2⟩ := cfg3 X1.out
  go_wp2_with fail
  refine (NW.out _).mono ?_
  rintro e w2 ⟨lw, x, rfl, hP, e1, e2, e3, e4, e5, e6⟩
  have P2 := hid (PO.from K1.out (New6_po o hP e4 e5 e6 (by rw [e1]; exact hb4)))
  have X2 := hid ((hP.kp.block _ (heap_lt X1.out) (fun x => x)).trans X1.out)
  have EX := hid (show x.base = base ∧ x.R = 4096 * 2 ^ o ∧ x.lim = lim ∧ x.n = 0 ∧ x.o = o ∧ x.P = fun _ => none from ⟨e1, e2, e3, e4, e5, e6⟩)
  clear hP e1 e2 e3 e4 e5 e6 x0 x1 x2 X1 NW
  have NS := hid (New7 P2.out HT.out)
  go_wp2_with fail
  refine NS.out.mono ?_
  rintro e w3 ⟨sb, rfl, hs, hk, hz⟩
  have S3 := hid hs
  have P3 := hid (P2.out.keep hk)
  have X3 := hid ((hk.block _ (heap_lt X2.out) (fun x => x)).trans X2.out)
  have O3 := hid (SO.new P3.out hs EX.out.2.2.2.2.2)
  clear hs hk hz NS X2 P2
  obtain ⟨x0, x1, x2⟩ := cfg3 X3.out
  have SP := hid (Space6 P3.out.pl)
  have MP := hid (Map6 P3.out.pl)
  have BP := hid (Buddy6 P3.out.pl)
  go_wp2_with fail
  refine SP.out.mono ?_
  rintro e w4 ⟨rfl, h4⟩
  replace h4 := h4.symm
  subst h4
  go_wp2_with fail
  refine MP.out.mono ?_
  rintro e w4 ⟨rfl, h4⟩
  replace h4 := h4.symm
  subst h4
  go_wp2_with fail
  refine BP.out.mono ?_
  rintro e w4 ⟨rfl, h4⟩
  replace h4 := h4.symm
  subst h4
  go_upto_region 9 with fail
  have KD := hid ((Kept.refl none' w3).drew)
  have X4 := hid ((KD.out.block _ (heap_lt X3.out) (fun x => x)).trans X3.out)
  have NR := hid (New7r base lim o ho w3.drew)
  clear x0 x1 x2 SP MP BP
  obtain ⟨x0, x1, x2⟩ := cfg3 X4.out
  go_region_held3 (fun w' => w'.cell? ⟨w.heap.size, 0, none⟩ = some (.int .u64 (base : Int)) ∧ w'.cell? ⟨w.heap.size, 1, none⟩ = some (.int .i64 (lim : Int)) ∧ w'.cell? ⟨w.heap.size, 2, none⟩ = some (.int .i64 (o : Int))) (first | with_reducible exact ⟨x0, x1, x2⟩ | with_reducible exact ⟨y0, y1, y2⟩ | with_reducible exact ⟨alloc_cellL y0, alloc_cellL y1, alloc_cellL y2⟩) (first
    | (go_at_call 35; (with_reducible refine NR.out.mono ?_); rintro e w5 ⟨ga, gc, qa, qc, rfl, hk⟩; have K5 := hid (none_trans KD.out hk); obtain ⟨y0, y1, y2⟩ := cfg3 ((hk.block _ (heap_lt X4.out) (fun x => x)).trans X4.out); clear hk)
    | fail)
  all_goals
    have D := hid (show (w5.alloc (w7O base lim o lw sb (.slice ga (o + 1) gc) (.slice none 0 0) (.slice none 0 0) (.slice qa 8 qc) (o : Int) 0)).heap[w5.heap.size]? = some (w7O base lim o lw sb (.slice ga (o + 1) gc) (.slice none 0 0) (.slice none 0 0) (.slice qa 8 qc) (o : Int) 0) ∧ w.heap.size ≤ w5.heap.size ∧ SO w (w5.alloc (w7O base lim o lw sb (.slice ga (o + 1) gc) (.slice none 0 0) (.slice none 0 0) (.slice qa 8 qc) (o : Int) 0)) sb lw x ⟨fun _ => 0, newM o, fun _ => 0⟩ (fun _ => []) [] S0 (fun _ => -1) ∧ x.base = base ∧ x.R = 4096 * 2 ^ o ∧ x.lim = lim ∧ x.n = 0 ∧ x.o = o ∧ Kept none' w (w5.alloc (w7O base lim o lw sb (.slice ga (o + 1) gc) (.slice none 0 0) (.slice none 0 0) (.slice qa 8 qc) (o : Int) 0)) ∧ ¬ sown x sb w5.heap.size from by
      obtain ⟨e1, e2, e3, e4, e5, e6⟩ := EX.out
      have k := K5.out.alloc (w7O base lim o lw sb (.slice ga (o + 1) gc) (.slice none 0 0) (.slice none 0 0) (.slice qa 8 qc) (o : Int) 0)
      have hs := heap_lt O3.out.sw.bx
      have h5 := K5.out.size
      have hz := P3.out.pl.kp.size
      exact ⟨heap_new w5 _, by omega, O3.out.keep k, e1, e2, e3, e4, e5, none_trans P3.out.pl.kp k, fun e => e.elim (fun e => by have := P3.out.pl.lt _ (.inl e); omega) (fun e => by omega)⟩)
    clear x0 x1 x2 y0 y1 y2
    go_wp2_with fail
    go_ret
    exact ⟨_, lw, sb, x, _, _, _, _, rfl, D.out⟩
end Go.Proofs.YtocpnddacdpnmaaGreatDoor
