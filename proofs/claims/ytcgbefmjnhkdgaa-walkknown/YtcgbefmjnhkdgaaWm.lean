import Derived.Test.YtcgbefmjnhkdgaaWl
set_option maxRecDepth 1000000
set_option maxHeartbeats 80000000
/- malloc.Open: that it answers. -/
namespace Go.Proofs.Ytcgbefmjnhkdgaa.H
open Go.RowKit
set_option linter.unusedVariables false
set_option maxHeartbeats 4000000
set_option maxRecDepth 4000

theorem mallocOpen9 (base lim o : Nat) (hb64 : base < 18446744073709551616) (hl : lim ≤ 64) (ho : o ≤ 8) (hm : M.mayB base (lim : Int) (o : Int) = true) (r nb np : Nat) (hr : r ≤ lim) (hnp : np = r * 2 ^ o) (hnb : nb = np * 4096) (hb0 : 0 < nb) (hbe : base + nb ≤ 9223372036854775808) (ba pa qa : Option Addr) (bc pc qc nq : Nat) (gg : Nat → Nat) (g0 cp0 : Nat) (hd : List Nat) (hd64 : ∀ i, hd.getD i 0 < 18446744073709551616) (hN : hd.length = o + 1) (mp : Mp) (hmo : mp.o = o) (hmn : mp.n = np) (hm1 : np ≤ 1024) (w : World) (hbv : M.Bytes w (.slice ba nb bc) nb gg) (hh : w.heap[g0]? = some (.cells (wcells hd) 22 (0, 0)))
    (hpm : ∀ W, Kept none' w W → Calls Try.prog 48 #[.int .i64 (o : Int), .slice pa np pc, .slice qa nq qc] W fun e w' => ∃ b, e = .returned (.tuple #[.pointer (some ⟨b, 0, none⟩), .int .i64 0]) ∧ Hid (∃ B', MapAt w' b B' mp ∧ (∀ x, mown b B' o x → W.heap.size ≤ x) ∧ Kept none' W w')) (a : Addr) (cap : Nat) (h : Nat → Int) (hh8 : Hd8 w a h) :
    Calls Try.prog 18 #[.agg #[.int .u64 (base : Int), .int .i64 (lim : Int), .int .i64 (o : Int), .int .i64 (r : Int), .slice ba nb bc, .slice pa np pc, .slice qa nq qc, .slice (some ⟨g0, 0, none⟩) (o + 1) cp0, .slice (some a) 8 cap]] w (OkP w) := by
  obtain ⟨imo, himo⟩ : ∃ ob, ob = Obj.cells #[.int .u64 (base : Int), .int .i64 (lim : Int), .int .i64 (o : Int), .int .i64 (r : Int), .slice ba nb bc, .slice pa np pc, .slice qa nq qc, .slice (some ⟨g0, 0, none⟩) (o + 1) cp0, .slice (some a) 8 cap] 31 (0, 0) := ⟨_, rfl⟩
  have K0 := hid ((Kept.refl none' w).alloc imo)
  have X0 := hid (heap_new w imo)
  have RO := hid (regionOpen9 base lim o hb64 hl ho hm r nb np hr hnp hnb hb0 ba pa qa bc pc qc nq gg g0 cp0 hd hd64 hN mp hmo (w.alloc imo) (hbv.kept (ofK K0.out) (fun _ _ e => e)) ((K0.out.block _ (heap_lt hh) (fun e => e)).trans hh) (fun W hW => hpm W (none_trans K0.out hW)))
  have HH8 := hid (hh8.keep K0.out)
  have SO := hid (fun lw s m b a2 B f W (hP : PoW W lw s m b a2 base (M.RS o) lim nb f B mp) (h8 : Hd8 W a h) => slabOpen9 hP (by rw [hmn, hnb]) hbe (by rw [hmn]; exact hm1) a cap h h8)
  have XC := hid (show ∀ W, Kept none' (w.alloc imo) W → W.heap[w.heap.size]? = some (Obj.cells #[.int .u64 (base : Int), .int .i64 (lim : Int), .int .i64 (o : Int), .int .i64 (r : Int), .slice ba nb bc, .slice pa np pc, .slice qa nq qc, .slice (some ⟨g0, 0, none⟩) (o + 1) cp0, .slice (some a) 8 cap] 31 (0, 0)) from fun W hW => by rw [← himo]; exact (hW.block _ (heap_lt X0.out) (fun x => x)).trans X0.out)
  clear hm hpm hbv hh hN hd64 hnp hnb hmo hb0 hh8 hmn hm1 hr X0
  subst himo
  go_enter Try.func18, Try.ntmps18
  go_wp2_with fail
  refine RO.out.mono ?_
  rintro e w1 ⟨lw, s, m, b, a2, B, f, rfl, hP, hk1⟩
  have P1 := hid hP
  have K1 := hid hk1
  have SO1 := hid (SO.out _ _ _ _ _ _ _ w1 hP (HH8.out.keep hk1))
  have X1 := hid (XC.out w1 hk1)
  clear hP hk1 SO RO
  generalize w.heap.size = cb at *
  have c8 : w1.cell? ⟨cb, 8, none⟩ = some (.slice (some a) 8 cap) := by simp [World.cell?, X1.out]
  go_wp2_with fail
  refine SO1.out.mono ?_
  rintro e w2 ⟨sb, rfl, hk2⟩
  have K2 := hid (none_trans (none_trans K0.out K1.out) hk2)
  have X2 := hid (XC.out w2 (none_trans K1.out hk2))
  have d0 : w2.cell? ⟨cb, 0, none⟩ = some (.int .u64 (base : Int)) := by simp [World.cell?, X2.out]
  have d1 : w2.cell? ⟨cb, 1, none⟩ = some (.int .i64 (lim : Int)) := by simp [World.cell?, X2.out]
  have d2 : w2.cell? ⟨cb, 2, none⟩ = some (.int .i64 (o : Int)) := by simp [World.cell?, X2.out]
  clear hk2 c8
  have KF := hid (fun ob => K2.out.alloc ob)
  go_wp2_with fail
  exact ⟨rfl, .tuple #[.pointer (some ⟨w2.heap.size, 0, none⟩), .int .i64 0], by simp [results, Try.results18, go_sem], w2.heap.size, rfl, KF.out _⟩
end Go.Proofs.Ytcgbefmjnhkdgaa.H
