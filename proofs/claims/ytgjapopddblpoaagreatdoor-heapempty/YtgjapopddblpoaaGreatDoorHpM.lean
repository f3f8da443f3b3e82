import Derived.Test.YtgjapopddblpoaaGreatDoorHpH
/- Package malloc: New. -/
namespace Go.Proofs.YtgjapopddblpoaaGreatDoor
open Go.RowKit
set_option linter.unusedVariables false

theorem Pol.from8 {w w1 W lw x t} (k : Kept none' w w1) (h : Pol w1 W lw x t) : Pol w W lw x t := ⟨h.box, h.bd, fun y hy => Nat.le_trans k.size (h.nw y hy), none_trans k h.kp⟩
theorem PO.from8 {w w1 W lw x t fr ls} (k : Kept none' w w1) (h : PO w1 W lw x t fr ls) : PO w W lw x t fr ls := ⟨h.pl.from8 k, h.sf, h.st, h.bm⟩
theorem cfgc {w : World} {y b : Nat} {l o : Int} (h : w.heap[y]? = some (cfgO b l o)) : w.cell? ⟨y, 0, none⟩ = some (.int .u64 (b : Int)) ∧ w.cell? ⟨y, 1, none⟩ = some (.int .i64 l) ∧ w.cell? ⟨y, 2, none⟩ = some (.int .i64 o) := by
  refine ⟨?_, ?_, ?_⟩ <;> simp [World.cell?, h]
theorem cell_all {w : World} {A : Obj} {a : Addr} {v : Value} (h : w.cell? a = some v) : (w.alloc A).cell? a = some v := ((Kept.refl none' w).alloc A).cell (fun e => e) h
theorem Pol.lt8 {w W lw x t} (h : Pol w W lw x t) : ∀ y, bown x y ∨ y = x.b ∨ y = x.l ∨ y = lw → y < W.heap.size := by
  rintro y ((hx | hx | ⟨k, hk, rfl⟩) | rfl | rfl | rfl)
  · obtain ⟨cs', t', z', h1, h2⟩ := space_ty h.bd.sp hx
    exact heap_lt h1
  · rw [← h.bd.mo] at hx
    obtain ⟨cs', t', z', h1, h2⟩ := map_ty h.bd.mp hx
    exact heap_lt h1
  · exact heap_lt (h.bd.ls k hk).hc
  · exact heap_lt h.bd.bs
  · obtain ⟨cs', hl, _⟩ := h.bd.lr
    exact heap_lt hl
  · exact heap_lt h.box
set_option maxRecDepth 4000 in
theorem New8_bad (base : Nat) (hb64 : base < 18446744073709551616) (lim ord : Int) (hl1 : -9223372036854775808 ≤ lim) (hl2 : lim ≤ 9223372036854775807) (ho1 : -9223372036854775808 ≤ ord) (ho2 : ord ≤ 9223372036854775807) (h : M.mayB base lim ord = false) (w : World) :
    Calls Tryz.prog 9 #[cfgV base lim ord] w fun e w' => e = .returned (.tuple #[.pointer none, .int .i64 1]) ∧ Kept none' w w' := by
  have K0 := hid ((Kept.refl none' w).alloc (cfgO base lim ord))
  have X0 := hid (heap_new w (cfgO base lim ord))
  have NB := hid (fun W => New6_bad base hb64 lim ord hl1 hl2 ho1 ho2 h W)
  obtain ⟨x0, x1, x2⟩ := cfgc X0.out
  clear h
  go_enter Tryz.func9, Tryz.ntmps9
  go_wp2_with fail
  refine (NB.out _).mono ?_
  rintro e w1 ⟨rfl, hk⟩
  have D := hid (none_trans K0.out hk)
  clear hk
  go_wp2_with fail
  exact ⟨rfl, .tuple #[.pointer none, .int .i64 1], by simp [results, Tryz.results9, go_sem], rfl, D.out⟩
abbrev t80 (o : Nat) : Bt := ⟨fun _ => 0, newM o, fun _ => 0⟩
abbrev S80 : Sb := ⟨fun _ => none, fun _ => [], fun _ => []⟩
/-- What New makes. -/
def New8P (w : World) (base lim o : Nat) (e : Ending) (w' : World) : Prop := ∃ hb sb lw x, e = .returned (.tuple #[.pointer (some ⟨hb, 0, none⟩), .int .i64 0]) ∧ HW w w' hb sb lw x (t80 o) (fun _ => []) [] S80 0 ∧ x.base = base ∧ x.R = 4096 * 2 ^ o ∧ x.lim = lim ∧ x.n = 0 ∧ x.o = o
set_option maxRecDepth 4000 in
set_option maxHeartbeats 1000000 in
theorem New8_ok (base : Nat) (hb64 : base < 18446744073709551616) (lim o : Nat) (hl : lim ≤ 64) (ho : o ≤ 8) (hm : M.mayB base (lim : Int) (o : Int) = true) (hbr : base % (4096 * 2 ^ o) = 0) (w : World) (hT : Tab w) :
    Calls Tryz.prog 9 #[cfgV base (lim : Int) (o : Int)] w fun e w' => New8P w base lim o e w' := by
  have K0 := hid ((Kept.refl none' w).alloc (cfgO base (lim : Int) (o : Int)))
  have X0 := hid (heap_new w (cfgO base (lim : Int) (o : Int)))
  have NW := hid (fun W => New6_ok base hb64 lim o hl ho hm W)
  have hb4 : base % 4096 = 0 := Nat.mod_eq_zero_of_dvd (Nat.dvd_trans (Nat.dvd_mul_right _ _) (Nat.dvd_of_mod_eq_zero hbr))
  have HT := hid hT
  have HB := hid hbr
  have HB4 := hid hb4
  obtain ⟨x0, x1, x2⟩ := cfgc X0.out
  clear hm hT hbr hb4
  go_enter Tryz.func9, Tryz.ntmps9
  go_wp2_with fail
  refine (NW.out _).mono ?_
  rintro e w2 ⟨lw, x, rfl, hP, e1, e2, e3, e4, e5, e6⟩
  have P2 := hid (PO.from8 K0.out (New6_po o hP e4 e5 e6 (by rw [e1]; exact HB4.out)))
  have X2 := hid ((hP.kp.block _ (heap_lt X0.out) (fun x => x)).trans X0.out)
  have EX := hid (show x.base = base ∧ x.R = 4096 * 2 ^ o ∧ x.lim = lim ∧ x.n = 0 ∧ x.o = o ∧ x.P = fun _ => none from ⟨e1, e2, e3, e4, e5, e6⟩)
  clear hP e1 e2 e3 e4 e5 e6 x0 x1 x2 NW
  have KD := hid ((Kept.refl none' w2).drew)
  have NS := hid (New7 (P2.out.keep KD.out) HT.out)
  obtain ⟨x0, x1, x2⟩ := cfgc X2.out
  go_wp2_with fail
  obtain ⟨y0, y1, y2⟩ := cfgc ((KD.out.block _ (heap_lt X2.out) (fun x => x)).trans X2.out)
  go_region_held3 (fun w' => w'.cell? ⟨w.heap.size, 0, none⟩ = some (.int .u64 (base : Int)) ∧ w'.cell? ⟨w.heap.size, 1, none⟩ = some (.int .i64 (lim : Int)) ∧ w'.cell? ⟨w.heap.size, 2, none⟩ = some (.int .i64 (o : Int))) (first | with_reducible exact ⟨y0, y1, y2⟩ | with_reducible exact ⟨z0, z1, z2⟩ | with_reducible exact ⟨cell_all z0, cell_all z1, cell_all z2⟩) (first
    | (go_at_call 34; (with_reducible refine NS.out.mono ?_); rintro e w3 ⟨sb, rfl, hs, hk, hz⟩; have K3 := hid (none_trans KD.out hk); have S3 := hid hs; obtain ⟨z0, z1, z2⟩ := cfgc ((K3.out.block _ (heap_lt X2.out) (fun x => x)).trans X2.out); clear hk hs hz)
    | fail)
  all_goals
    have D := hid (show HW w (w3.alloc (hpO 0 lw sb base lim o)) w3.heap.size sb lw x (t80 o) (fun _ => []) [] S80 0 from by
      obtain ⟨e1, e2, e3, e4, e5, e6⟩ := EX.out
      have k := (Kept.refl none' w3).alloc (hpO 0 lw sb base lim o)
      have o3 := SO.new (P2.out.keep K3.out) S3.out e6
      have h5 := S3.out.pl.kp.size
      refine ⟨⟨_, o3.keep k⟩, Lve.none, ?_, h5, by rw [e1, e2]; exact HB.out⟩
      rw [e1, e3, e5]
      exact heap_new w3 _)
    go_wp2_with fail
    exact ⟨rfl, .tuple #[.pointer (some ⟨w3.heap.size, 0, none⟩), .int .i64 0], by simp [results, Tryz.results9, go_sem], _, sb, lw, x, rfl, D.out, EX.out.1, EX.out.2.1, EX.out.2.2.1, EX.out.2.2.2.1, EX.out.2.2.2.2.1⟩
end Go.Proofs.YtgjapopddblpoaaGreatDoor
