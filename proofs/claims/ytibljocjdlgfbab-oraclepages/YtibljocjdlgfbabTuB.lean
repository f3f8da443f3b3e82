/- croftlaw11.turned. -/
import Derived.Test.YtibljocjdlgfbabBlP
namespace Go.Proofs.Ytibljocjdlgfbab
open Go.RowKit
set_option linter.unusedVariables false

theorem info_rbk : (Try.prog.info? 41).map (fun i => (i.zero, i.size, i.bytes)) = some (some (.agg #[.int .u64 0, .int .u64 0]), 2, 16) := by kernel_rfl
theorem push_rbk {w0 W : World} {v : Value} {n : Nat} {xs : List Value} (h : GS w0 W 41 2 v n xs) (p z : Nat) (hn : n ≤ 8796093022207) :
    ∃ g cap w', (∀ ty, (Builtin.append_ #[25, 25] ty #[v, .slice (some ⟨W.heap.size, 0, none⟩) 1 1]).run Try.prog (W.alloc (.cells #[.int .u64 (p : Int), .int .u64 (z : Int)] 41)) = .ok (.slice (some ⟨g, 0, none⟩) (n + 1) cap) w') ∧ GS w0 w' 41 2 (.slice (some ⟨g, 0, none⟩) (n + 1) cap) (n + 1) (xs ++ [.int .u64 (p : Int), .int .u64 (z : Int)]) ∧ w0.heap.size ≤ g := by
  obtain ⟨i, hi, hzz⟩ := Option.map_eq_some_iff.1 info_rbk
  simp only [Prod.mk.injEq] at hzz
  obtain ⟨g, cap, w', h1, h2, h3, _⟩ := (h.keep ((Kept.refl none' W).alloc (.cells #[.int .u64 (p : Int), .int .u64 (z : Int)] 41))).push 25 i _ 16 Try.underlying25 hi hzz.1 hzz.2.1 hzz.2.2 rfl (by decide) ⟨W.heap.size, 0, none⟩ 1 [.int .u64 (p : Int), .int .u64 (z : Int)] rfl (fun j u hj => cells_new (cs := #[.int .u64 (p : Int), .int .u64 (z : Int)]) j u hj) (by simp [Value.oneCell']) (by simp only [maxLen]; omega) (by omega)
  exact ⟨g, cap, w', h1, h2, h3⟩
theorem GS.bl' {w0 W : World} {oa : Option Addr} {cap : Nat} {l : Bls} {t : TypeId} (h : GS w0 W t 2 (.slice oa l.length cap) l.length (bcl l)) (hl : l.length ≤ 9223372036854775807) (hb : ∀ b ∈ l, b.1 < 2 ^ 64 ∧ b.2 < 2 ^ 64) : BL W (.slice oa l.length cap) l := by
  refine ⟨hl, hb, oa, cap, rfl, ?_⟩
  rcases h.own.2 with ⟨_, h0⟩ | ⟨g, cap', cur, e, _, hg, _⟩
  · exact .inl h0
  · injection e with e1 e2 e3
    subst e1
    refine .inr ⟨g, 0, rfl, heap_lt hg, fun k b hk => ?_⟩
    obtain ⟨c1, c2⟩ := bcl_at l k b hk
    have d1 := World.ownsRow.cells h.own rfl _ _ c1
    have d2 := World.ownsRow.cells h.own rfl _ _ c2
    rw [Addr.add_lit] at d1 d2
    exact ⟨d1, by rw [Nat.add_assoc]; exact d2⟩
/-- What turned leaves. -/
def TuP (w : World) (l : Bls) (e : Ending) (w' : World) : Prop := ∃ v, e = .returned v ∧ BL w' v l.reverse ∧ Kept none' w w'

/-- Likewise, and that it can grow. -/
def TuG (w : World) (l : Bls) (e : Ending) (w' : World) : Prop := ∃ va vc, e = .returned (.slice va l.length vc) ∧ BL w' (.slice va l.length vc) l.reverse ∧ GS w w' 41 2 (.slice va l.length vc) l.length (bcl l.reverse)

set_option maxRecDepth 4000 in
set_option maxHeartbeats 2000000 in
theorem turned_gs (v : Value) (l : Bls) (w : World) (hbl : BL w v l) (hlen : l.length ≤ 8796093022000) :
    Calls Try.prog 9 #[v] w fun e w' => TuG w l e w' := by
  obtain ⟨oa, oc, rfl⟩ : ∃ oa oc, v = .slice oa l.length oc := by
    obtain ⟨_, _, oa, oc, hv, _⟩ := hbl
    exact ⟨oa, oc, hv⟩
  have BL0 := hid hbl
  have I0 := hid (GS.nil w w 41 2 (Kept.refl _ _))
  clear hbl
  go_enter Try.func9, Try.ntmps9
  go_wp2_with fail
  go_loopw [3, 4] (fun x i W => ∃ (a c : Nat) (va : Option Addr) (vc : Nat), a + c = l.length ∧ i = .int .i64 ((a : Int) - 1) ∧ x = .slice va c vc ∧ Hid (GS w W 41 2 (.slice va c vc) c (bcl (l.drop a).reverse))) (fun _ i _ => (intOf i + 1).toNat)
  case atStart => exact ⟨l.length, 0, none, 0, rfl, by go_num, rfl, by simpa [bcl] using I0⟩
  case round =>
    clear I0
    obtain ⟨a, c, va, vc, ha, rfl, rfl, HG⟩ := hrel
    cases a with
    | succ a =>
      have HAC := hid ha
      have hc1 : c ≤ 8796093022000 := by omega
      have hal : a < l.length := by omega
      have hai : (a : Int) < (l.length : Int) := by omega
      have hie : (((a + 1 : Nat) : Int) - 1) = (a : Int) := by omega
      rw [hie]
      have ha0 : ¬ (a : Int) < 0 := by omega
      obtain ⟨bl, o, p, s, rfl, hla, hp, hs, q0, q1⟩ := (BL0.out.keep HG.out.kp).at a hal
      have TK := hid (show bcl (l.drop a).reverse = bcl (l.drop (a + 1)).reverse ++ [.int .u64 (p : Int), .int .u64 (s : Int)] by
        rw [List.drop_eq_getElem_cons hal, List.reverse_cons, (List.getElem?_eq_some_iff.1 hla).2]
        exact bcl_app _ _)
      obtain ⟨g2, cap2, w2, hrun, hg2, hw2⟩ := push_rbk HG.out p s (by omega)
      have NX := hid (show GS w w2 41 2 (.slice (some ⟨g2, 0, none⟩) (c + 1) cap2) (c + 1) (bcl (l.drop a).reverse) from by
        rw [TK.out]
        exact hg2)
      have hrun2 := hid hrun
      clear hrun hg2 hw2 hla ha hie
      go_wp2_with (first | (at_builtin; refine wpl_app _ rfl _ _ 25 rfl _ _ rfl rfl _ _ hrun2.out ?_))
      go_round
      case rel => exact ⟨a, c + 1, _, _, by have := HAC.out; omega, by go_num, rfl, NX⟩
      case measure => simp [intOf]
    | zero =>
      obtain rfl : c = l.length := by omega
      have FIN := hid (show TuG w l (.returned (.slice va l.length vc)) wr from by
        have hG := HG.out
        rw [List.drop_zero] at hG
        refine ⟨_, _, rfl, ?_, hG⟩
        have := GS.bl' (l := l.reverse) (oa := va) (cap := vc) (w0 := w) (W := wr) (t := 41) (by rw [List.length_reverse]; exact hG) (by rw [List.length_reverse]; omega) (fun b hb => BL0.out.2.1 b (List.mem_reverse.1 hb))
        rw [List.length_reverse] at this
        exact this)
      clear HG
      go_wp2_with fail
      go_ret
      exact FIN.out
theorem turned_any (v : Value) (l : Bls) (w : World) (hbl : BL w v l) (hlen : l.length ≤ 8796093022000) :
    Calls Try.prog 9 #[v] w fun e w' => TuP w l e w' :=
  (turned_gs v l w hbl hlen).mono fun e w' ⟨va, vc, h1, h2, h3⟩ => ⟨_, h1, h2, h3.kp⟩
end Go.Proofs.Ytibljocjdlgfbab
