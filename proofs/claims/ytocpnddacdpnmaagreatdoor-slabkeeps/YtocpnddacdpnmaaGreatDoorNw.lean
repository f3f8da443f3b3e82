import Derived.Test.YtocpnddacdpnmaaGreatDoorNc
import Derived.Test.YtocpnddacdpnmaaGreatDoorNd
import Derived.Test.YtocpnddacdpnmaaGreatDoorNs
import Derived.Test.YtocpnddacdpnmaaGreatDoorRgD
import Derived.ProofKit
import Derived.OpenShut
import Derived.Deep.Slices
import Derived.Deep.Strs
import Derived.Test.YtocpnddacdpnmaaGreatDoorMa
import Derived.Deep.QuietTactic
import Derived.BigQuiet
/- croftlaw7.do of any deed. -/
namespace Go.Proofs.YtocpnddacdpnmaaGreatDoor
open Go.RowKit
set_option linter.unusedVariables false

theorem do7 {w W : World} {wb sb lw : Nat} {x : Bx} {t : Bt} {fr : Nat → List Nat} {ls : List (Nat × Nat)} {S : Sb} {R : Nat → Bk} {n : Nat} (L : LW7 w W wb lw sb x t fr ls S R n) (va : Option Addr) (vc : Nat) (hn : n ≤ 1000) (B : Bks W (.slice va n vc) n R) (op N wh : Int) (d : Bool) (hN2 : N ≤ 9223372036854775807) (hw2 : wh ≤ 9223372036854775807) :
    Calls Tryz.prog 23 #[.pointer (some ⟨wb, 0, none⟩), .slice va n vc, deV op N wh d] W fun e w' => DoP w wb lw sb x t ls S R n e w' := by
  by_cases h1 : op = 0 ∨ op = 1 ∨ op = 2
  · exact do_take L va vc hn B op N wh d h1 hN2
  by_cases h2 : op = 3
  · exact do_need L va vc hn B op N wh d h2 hN2
  by_cases h3 : op = 4 ∨ op = 5
  · rcases Nat.eq_zero_or_pos n with e | e
    · subst e
      exact do_give_none L va vc B op N wh d h3
    · by_cases hw : 0 < wh
      · obtain ⟨m, hm⟩ : ∃ m : Nat, wh = (m : Int) := ⟨wh.toNat, by omega⟩
        subst hm
        exact do_give_some L va vc hn e B op N d h3 m (m % n) (by omega) (by omega) rfl
      · exact do_give_first L va vc hn e B op N wh d h3 hw
  · exact do_trim L va vc hn B op N wh d (by
      rintro (e | e | e | e | e | e)
      · exact h1 (.inl e)
      · exact h1 (.inr (.inl e))
      · exact h1 (.inr (.inr e))
      · exact h2 e
      · exact h3 (.inl e)
      · exact h3 (.inr e))
end Go.Proofs.YtocpnddacdpnmaaGreatDoor
/- Deeds that came in. -/
namespace Go.Proofs.YtocpnddacdpnmaaGreatDoor
open Go.ChangeShapes Go.WideShapes Go.ChangeAt Go.RowKit Go.Deep
set_option linter.unusedVariables false

def N64 (z : Int) : Prop := -9223372036854775808 ≤ z ∧ z ≤ 9223372036854775807
def DeedAt (w : World) (bl o j : Nat) : Prop := ∃ (a b c : Int) (f : Bool), N64 a ∧ N64 b ∧ N64 c ∧ w.cell? ⟨bl, o + j * 4, none⟩ = some (.int .i64 a) ∧ w.cell? ⟨bl, o + j * 4 + 1, none⟩ = some (.int .i64 b) ∧ w.cell? ⟨bl, o + j * 4 + 2, none⟩ = some (.int .i64 c) ∧ w.cell? ⟨bl, o + j * 4 + 3, none⟩ = some (.bool f)
def DeedsIn (w : World) (v : Value) (n : Nat) : Prop :=
  n ≤ 9223372036854775807 ∧ ∃ oa oc, v = .slice oa n oc ∧ (n = 0 ∨ ∃ bl o, oa = some ⟨bl, o, none⟩ ∧ bl < w.heap.size ∧ ∀ j, j < n → DeedAt w bl o j)
theorem cells_deed : Tryz.prog.cellsOf 76 = 4 := by kernel_rfl
theorem cells1_int : Tryz.prog.cellsOf 3 = 1 := by kernel_rfl
theorem cells1_bool : Tryz.prog.cellsOf 4 = 1 := by kernel_rfl
theorem DeedAt.keep {w W : World} {bl o j : Nat} (h : DeedAt w bl o j) (k : Kept none' w W) : DeedAt W bl o j := by
  obtain ⟨a, b, c, f, h1, h2, h3, g0, g1, g2, g3⟩ := h
  exact ⟨a, b, c, f, h1, h2, h3, k.cell (fun e => e) g0, k.cell (fun e => e) g1, k.cell (fun e => e) g2, k.cell (fun e => e) g3⟩
theorem at_spot {w : World} {a : Addr} {v : Value} (h : w.cell? a = some v) : ∃ b o, a = ⟨b, o, none⟩ ∧ b < w.heap.size := by
  obtain ⟨b, o, s⟩ := a
  unfold World.cell? at h
  split at h
  · rename_i hh
    have hb := (Array.getElem?_eq_some_iff.1 hh).1
    cases s with
    | none => exact ⟨b, o, rfl, hb⟩
    | some s => simp at h
  · cases h
set_option maxRecDepth 8000 in
theorem deeds_of {H : Type} {enc : TypeId × Value → H} {W : World} {a : Option Addr} {len cap : Nat} {d : DataW H} {p : List MemPlace}
    (h : DataW.Trod enc Tryz.prog W 0 (fun _ => true) true 71 (.slice a len cap) d p) : DeedsIn W (.slice a len cap) len := by
  obtain ⟨fuel, hf⟩ := h
  rcases open_slice Tryz.underlying71 hf with ⟨hcs, _⟩ | ⟨x, l, c, m, n, D, Pl, hcs, _, hl, hm, hmm, _, hx⟩
  · simp [Value.cells] at hcs
    obtain ⟨rfl, rfl, rfl⟩ := hcs
    exact ⟨by omega, none, 0, rfl, Or.inl rfl⟩
  · simp [Value.cells] at hcs
    obtain ⟨rfl, rfl, rfl⟩ := hcs
    simp only [if_true] at hmm
    subst hmm
    have hml : m ≤ 9223372036854775807 := by unfold maxLen at hm; omega
    refine ⟨by omega, some x, m, rfl, ?_⟩
    by_cases h0 : len = 0
    · exact Or.inl h0
    · right
      rw [cells_deed] at hx
      have key : ∀ k, k < len → ∃ (a b c : Int) (f : Bool), N64 a ∧ N64 b ∧ N64 c ∧ W.cell? ((x.add (k * 4)).add 0) = some (.int .i64 a) ∧ W.cell? ((x.add (k * 4)).add 1) = some (.int .i64 b) ∧ W.cell? ((x.add (k * 4)).add 2) = some (.int .i64 c) ∧ W.cell? ((x.add (k * 4)).add 3) = some (.bool f) := by
        intro k hk
        obtain ⟨cs, h1, h2⟩ := hx k (by omega)
        obtain ⟨_, hlen, hcell⟩ := World.cells?_some h1
        obtain ⟨xs, nn, _, _, _, hxl, hfld⟩ := DataW.trod_struct Tryz.underlying76 h2
        match cs, hlen, xs, hxl with
        | [c0, c1, c2, c3], _, [y0, y1, y2, y3], _ =>
          have g0 := hfld 0 _ rfl
          have g1 := hfld 1 _ rfl
          have g2 := hfld 2 _ rfl
          have g3 := hfld 3 _ rfl
          obtain ⟨x0, e0, _, w0⟩ := DataW.trod_int Tryz.underlying3 g0
          obtain ⟨x1, e1, _, w1⟩ := DataW.trod_int Tryz.underlying3 g1
          obtain ⟨x2, e2, _, w2⟩ := DataW.trod_int Tryz.underlying3 g2
          obtain ⟨x3, e3, _⟩ := DataW.trod_bool Tryz.underlying4 g3
          simp [cells1_int] at e0 e1 e2
          simp [cells1_bool] at e3
          subst e0 e1 e2 e3
          exact ⟨x0, x1, x2, x3, bounds_i64 w0, bounds_i64 w1, bounds_i64 w2, hcell 0 (by simp), hcell 1 (by simp), hcell 2 (by simp), hcell 3 (by simp)⟩
      obtain ⟨a, b, c, f, _, _, _, g0, _⟩ := key 0 (by omega)
      have e0 : (x.add (0 * 4)).add 0 = x := by simp [Addr.add]
      rw [e0] at g0
      obtain ⟨bb, o, rfl, hb⟩ := at_spot g0
      refine ⟨bb, o, rfl, hb, fun k hk => ?_⟩
      obtain ⟨a, b, c, f, h1, h2, h3, g0, g1, g2, g3⟩ := key k hk
      rw [Addr.add_lit, Addr.add_lit] at g0 g1 g2 g3
      exact ⟨a, b, c, f, h1, h2, h3, g0, g1, g2, g3⟩
end Go.Proofs.YtocpnddacdpnmaaGreatDoor
/- SlabExactly. -/
namespace Go.Proofs.YtocpnddacdpnmaaGreatDoor
open Go.RowKit
set_option linter.unusedVariables false

/-- A world that begins. -/
theorem Beg7.lw {w w' : World} {base lim o : Nat} {e : Ending} (hb : base % (4096 * 2 ^ o) = 0) (h : Beg7 w base lim o e w') : ∃ wb lw sb x t fr, e = .returned (.pointer (some ⟨wb, 0, none⟩)) ∧ LW7 w w' wb lw sb x t fr [] S0 (fun _ => ⟨0, 0, 0⟩) 0 := by
  obtain ⟨wb, lw, sb, x, fv, lv, pv, qv, h1, h2, h3, h4, h5, h6, h7, h8, h9, h10, h11⟩ := h
  refine ⟨wb, lw, sb, x, _, _, h1, ⟨⟨_, h4⟩, Lve.none, ⟨fun i hi => absurd hi (Nat.not_lt_zero _), fun p s hl => ?_, fun i j hi => absurd hi (Nat.not_lt_zero _)⟩, ⟨fv, lv, pv, qv, _, _, by rw [h5, h7, h9]; exact h2⟩, h3, h11, fun i hi => absurd hi (Nat.not_lt_zero _), by rw [h5, h6]; exact hb⟩⟩
  rcases hl with ⟨g, k, i, ⟨e1, _⟩, _⟩ | ⟨q, k, e1, _⟩
  · cases e1
  · cases e1
theorem LW7.empty {w W wb lw sb x t fr ls S R} (L : LW7 w W wb lw sb x t fr ls S R 0) : ls = [] := by
  obtain ⟨h, o⟩ := L.so
  cases e : ls with
  | nil => rfl
  | cons a l =>
    exfalso
    obtain ⟨p, s, h1, _⟩ := o.thing L.lv (q := a.1) (k := a.2) (by rw [e]; exact List.mem_cons_self)
    exact L.none_deed p s h1
theorem leftL_nil (o : Nat) : ∀ r, leftL [] o r = 0
  | 0 => rfl
  | r + 1 => by
    rw [leftL, if_neg (by rintro ⟨⟩)]
    exact leftL_nil o r
/-- Between two deeds. -/
def EX7 (w : World) (wb lw sb n : Nat) (va : Option Addr) (vc : Nat) (W : World) : Prop := ∃ x t fr ls S R, LW7 w W wb lw sb x t fr ls S R n ∧ Bks W (.slice va n vc) n R
theorem EX7.kp {w wb lw sb n va vc W} (h : EX7 w wb lw sb n va vc W) : Kept none' w W := by
  obtain ⟨x, t, fr, ls, S, R, L, B⟩ := h
  exact L.po.pl.kp
theorem EX7.do {w wb lw sb n va vc W} (h : EX7 w wb lw sb n va vc W) (hn : n ≤ 1000) (op N wh : Int) (d : Bool) (hN2 : N ≤ 9223372036854775807) (hw2 : wh ≤ 9223372036854775807) :
    Calls Tryz.prog 23 #[.pointer (some ⟨wb, 0, none⟩), .slice va n vc, deV op N wh d] W fun e w' => ∃ va' vc' n', n' ≤ n + 1 ∧ e = .returned (.tuple #[.slice va' n' vc', .bool true]) ∧ EX7 w wb lw sb n' va' vc' w' := by
  obtain ⟨x, t, fr, ls, S, R, L, B⟩ := h
  refine (do7 L va vc hn B op N wh d hN2 hw2).mono ?_
  rintro e w' ⟨va', vc', n', R', x', t', fr', ls', S', rfl, L', B', ch, hR⟩
  refine ⟨va', vc', n', ?_, rfl, x', t', fr', ls', S', R', L', B'⟩
  rcases hR with ⟨h1, _⟩ | ⟨h1, _⟩ <;> omega
/-- The last block of the book is given back: its cells, and both calls. -/
theorem EX7.last {w wb lw sb n va vc W} (h : EX7 w wb lw sb (n + 1) va vc W) (hn : n + 1 ≤ 1000) : ∃ ga bp bs bm : Nat, va = some ⟨ga, 0, none⟩ ∧ W.cell? ⟨ga, n * 3, none⟩ = some (.int .u64 (bp : Int)) ∧ W.cell? ⟨ga, n * 3 + 1, none⟩ = some (.int .u64 (bs : Int)) ∧ W.cell? ⟨ga, n * 3 + 2, none⟩ = some (.int .u8 (bm : Int)) ∧
    Calls Tryz.prog 24 #[.pointer (some ⟨wb, 0, none⟩), bkV bp bs bm] W fun e w' => e = .returned (.bool true) ∧ Calls Tryz.prog 25 #[.slice va (n + 1) vc, .int .i64 (n : Int)] w' fun e w2 => ∃ va' vc', e = .returned (.slice va' n vc') ∧ EX7 w wb lw sb n va' vc' w2 := by
  obtain ⟨x, t, fr, ls, S, R, L, B⟩ := h
  obtain ⟨ga, hg, r0, r1, r2⟩ := B.get n (by omega)
  refine ⟨ga, (R n).p, (R n).s, (R n).mark, hg, r0, r1, r2, (gone7 L (d := n) (by omega)).mono ?_⟩
  rintro e w' ⟨rfl, g⟩
  refine ⟨rfl, (without7 va (n + 1) vc R hn n (by omega) w' (g.bks L B)).mono ?_⟩
  rintro e w2 ⟨va', vc', rfl, k2, gs, _⟩
  obtain ⟨x', t', fr', ls', S', L', ch, kp, no, ns⟩ := g
  exact ⟨va', vc', rfl, x', t', fr', ls', S', _, L'.keep k2, gs.own⟩
/-- All is given back: the regions go. -/
theorem EX7.end {w wb lw sb va vc W} (h : EX7 w wb lw sb 0 va vc W) : W.cell? ⟨wb, 3, none⟩ = some (.pointer (some ⟨lw, 0, none⟩)) ∧ ∃ i : Nat, Calls Tryz.prog 26 #[.pointer (some ⟨lw, 0, none⟩)] W fun e w' => e = .returned (.int .i64 (i : Int)) ∧ w'.cell? ⟨wb, 3, none⟩ = some (.pointer (some ⟨lw, 0, none⟩)) ∧ ∃ sp, (Calls Tryz.prog 27 #[.pointer (some ⟨lw, 0, none⟩)] w' fun e w3 => e = .returned (.pointer (some ⟨sp, 0, none⟩)) ∧ w3 = w') ∧ (Calls Tryz.prog 28 #[.pointer (some ⟨sp, 0, none⟩)] w' fun e w3 => e = .returned (.int .i64 0) ∧ Kept none' w w3) := by
  obtain ⟨x, t, fr, ls, S, R, L, B⟩ := h
  have he := L.empty
  subst he
  obtain ⟨rg, hrg, hrl, hxn, hR0⟩ := L.rg
  refine ⟨L.c.2.2.2.1, rg - leftL [] x.o rg, (L.trim hrg).mono ?_⟩
  rintro e w' ⟨rfl, x', t', fr', L', ch, ht, kp, hs⟩
  rw [leftL_nil] at ht
  refine ⟨rfl, L'.c.2.2.2.1, x'.s, Space6 L'.po.pl, (regions6 L'.po 0 ht).mono fun e w3 hh => ⟨hh.1, none_trans L'.po.pl.kp hh.2⟩⟩
/-- A slice's length. -/
def slN : Value → Nat
  | .slice _ n _ => n
  | _ => 0
set_option maxRecDepth 20000 in
set_option maxHeartbeats 20000000 in
theorem exactly7 (b0 : Nat) (hb64 : b0 < 18446744073709551616) (l0 o0 : Int) (l1 : -9223372036854775808 ≤ l0) (l2 : l0 ≤ 9223372036854775807) (o1 : -9223372036854775808 ≤ o0) (o2 : o0 ≤ 9223372036854775807) (oa : Option Addr) (m oc : Nat) (w : World) (hT : Tab w) (hS : DeedsIn w (.slice oa m oc) m) :
    Calls Tryz.prog 5 #[cfgV b0 l0 o0, .slice oa m oc] w fun e w' => e = .returned (.bool true) ∧ Kept none' w w' := by
  obtain ⟨hm, oa', oc', hsv, hD⟩ := hS
  injection hsv with e1 e2 e3
  subst e1 e3
  have HD := hid hD
  have K0 := hid ((Kept.refl none' w).alloc (cfgO b0 l0 o0))
  have X0 := hid (heap_new w (cfgO b0 l0 o0))
  have BG := hid (fun W (k : Kept none' w W) => begin7_any b0 hb64 l0 o0 l1 l2 o1 o2 W (fun i hi => k.cell (fun e => e) (hT i hi)))
  have LV := hid (fun W (k : Kept none' w W) => lives7 W (fun i hi => k.cell (fun e => e) (hT i hi)))
  clear hD hT
  go_enter Tryz.func5, Tryz.ntmps5
  obtain ⟨x0, x1, x2⟩ := cfg3 X0.out
  have BG0 := hid (BG.out _ K0.out)
  go_wp2_with fail
  refine BG0.out.mono ?_
  generalize w.alloc (cfgO b0 l0 o0) = W0 at *
  rintro e w1 ⟨base, lim, o, hbm, hB⟩
  obtain ⟨wb, lw, sb, x, t, fr, rfl, hL⟩ := Beg7.lw hbm hB
  have E1 := hid (show EX7 W0 wb lw sb 0 none 0 w1 from ⟨x, t, fr, [], S0, _, hL, ⟨rfl, .inl ⟨rfl, rfl⟩⟩⟩)
  have K1 := hid (none_trans K0.out hL.po.pl.kp)
  clear hbm hB hL x0 x1 x2 BG BG0 base lim o x t fr
  have LV1 := hid (LV.out _ K1.out)
  go_wp2_with fail
  refine LV1.out.mono ?_
  rintro e w2 ⟨rfl, hk⟩
  have E2 := hid (show EX7 W0 wb lw sb 0 none 0 w2 from by
    obtain ⟨x, t, fr, ls, S, R, L, B⟩ := E1.out
    exact ⟨x, t, fr, ls, S, R, L.keep hk, B.kept hk (fun _ _ e => e)⟩)
  clear hk LV LV1 E1 K1
  go_wp2_with fail
  go_loopw [6, 7, 8, 9] (fun s6 s7 _ _ W => ∃ (j n : Nat) (va : Option Addr) (vc : Nat), j ≤ m ∧ j ≤ 300 ∧ n ≤ j ∧ s6 = .slice va n vc ∧ s7 = .int .i64 (j : Int) ∧ Hid (EX7 W0 wb lw sb n va vc W)) (fun _ s7 _ _ _ => 300 - (intOf s7).toNat)
  case atStart => exact ⟨0, 0, none, 0, Nat.zero_le _, Nat.zero_le _, Nat.le_refl _, rfl, rfl, E2⟩
  case round =>
    clear E2
    obtain ⟨j, n, va, vc, hj, hj3, hnj, rfl, rfl, hE⟩ := hrel
    have K3 := hid (none_trans K0.out hE.out.kp)
    by_cases hlt : j < m ∧ j < 300
    · have h1 : (j : Int) < (m : Int) := by omega
      have h2 : (j : Int) < 300 := by omega
      have h3 : ((j : Int) < (m : Int)) = True := by simp [h1]
      rcases HD.out with h0 | ⟨bl, ob, hoa, hbl, hde⟩
      · omega
      · subst hoa
        obtain ⟨op, N, wh, d, n1, n2, n3, g0, g1, g2, g3⟩ := (hde j hlt.1).keep K3.out
        have DO := hid (hE.out.do (by omega) op N wh d n2.2 n3.2)
        have hj4 : j * 4 + ob < 9223372036854775808 ∨ True := .inr trivial
        clear hde n1 n2 n3 h3 hj4 HD
        go_wp2_with fail
        refine DO.out.mono ?_
        rintro e w4 ⟨va', vc', n', hn', rfl, hE'⟩
        have E4 := hid hE'
        clear hE' g0 g1 g2 g3 DO
        go_wp2_with fail
        exact ⟨⟨j + 1, n', va', vc', by omega, by omega, by omega, rfl, by simp, E4⟩, by simp [intOf]; omega⟩
    · have hn3 : n ≤ 300 := by omega
      have E5 := hid hE.out
      clear HD hE
      by_cases hc : j < m
      · have h1 : (j : Int) < (m : Int) := by omega
        have h2 : ¬ (j : Int) < 300 := by omega
        have h3 : decide ((j : Int) < (m : Int)) = true := decide_eq_true h1
        have h4 : decide (j < m) = true := decide_eq_true hc
        have h5 : decide ((j : Int) < 300) = false := decide_eq_false h2
        have h6 : decide (j < 300) = false := decide_eq_false (by omega)
        clear hlt hj hj3
        go_wp2_with fail
        go_loopw [6] (fun s6 W => ∃ (n : Nat) (va : Option Addr) (vc : Nat), n ≤ 300 ∧ s6 = .slice va n vc ∧ Hid (EX7 W0 wb lw sb n va vc W)) (fun s6 _ => slN s6)
        case atStart => exact ⟨n, va, vc, hn3, rfl, E5⟩
        case round =>
          clear E5
          obtain ⟨n, va, vc, hn3, rfl, hE⟩ := hrel
          cases n with
          | zero =>
            obtain ⟨c3, i, hT⟩ := hE.out.end
            have TR := hid hT
            clear hT
            go_wp2_with fail
            refine TR.out.mono ?_
            rintro e w5 ⟨rfl, d3, sp, h1, h2⟩
            have SP := hid h1
            have RG := hid h2
            clear h1 h2 c3 TR
            go_wp2_with fail
            refine SP.out.mono ?_
            rintro e w6 ⟨rfl, h1⟩
            replace h1 := h1.symm
            subst h1
            go_wp2_with fail
            refine RG.out.mono ?_
            rintro e w7 ⟨rfl, hk⟩
            have D := hid (none_trans K0.out hk)
            clear hk d3
            go_wp2_with fail
            go_ret
            exact ⟨rfl, D.out⟩
          | succ n =>
            obtain ⟨ga, bp, bs, bm, hga, r0, r1, r2, hG⟩ := hE.out.last (by omega)
            subst hga
            obtain ⟨N1, hN1⟩ : ∃ N1, N1 = n + 1 := ⟨_, rfl⟩
            rw [← hN1] at hG ⊢
            have GN := hid hG
            have f1 : (0 : Int) < (N1 : Int) := by omega
            have f2 : (N1 : Int) - 1 = (n : Int) := by omega
            have f3 : (n : Int) < (N1 : Int) := by omega
            have HN := hid hN1
            have hN2 : N1 ≤ 300 := by omega
            clear hG hN1 hE hn3
            go_wp2_with fail
            refine GN.out.mono ?_
            rintro e w5 ⟨rfl, hW⟩
            have WT := hid hW
            clear hW GN r0 r1 r2
            go_wp2_with fail
            refine WT.out.mono ?_
            rintro e w6 ⟨va', vc', rfl, hE'⟩
            have E6 := hid hE'
            clear hE' WT
            go_wp2_with fail
            exact ⟨⟨n, va', vc', by have := HN.out; omega, rfl, E6⟩, by simp [slN]; have := HN.out; omega⟩
      · have h1 : ¬ (j : Int) < (m : Int) := by omega
        have h2 : decide ((j : Int) < (m : Int)) = false := decide_eq_false h1
        have h3 : decide (j < m) = false := decide_eq_false hc
        clear hlt hj hc
        go_wp2_with fail
        go_loopw [6] (fun s6 W => ∃ (n : Nat) (va : Option Addr) (vc : Nat), n ≤ 300 ∧ s6 = .slice va n vc ∧ Hid (EX7 W0 wb lw sb n va vc W)) (fun s6 _ => slN s6)
        case atStart => exact ⟨n, va, vc, hn3, rfl, E5⟩
        case round =>
          clear E5
          obtain ⟨n, va, vc, hn3, rfl, hE⟩ := hrel
          cases n with
          | zero =>
            obtain ⟨c3, i, hT⟩ := hE.out.end
            have TR := hid hT
            clear hT
            go_wp2_with fail
            refine TR.out.mono ?_
            rintro e w5 ⟨rfl, d3, sp, h1, h2⟩
            have SP := hid h1
            have RG := hid h2
            clear h1 h2 c3 TR
            go_wp2_with fail
            refine SP.out.mono ?_
            rintro e w6 ⟨rfl, h1⟩
            replace h1 := h1.symm
            subst h1
            go_wp2_with fail
            refine RG.out.mono ?_
            rintro e w7 ⟨rfl, hk⟩
            have D := hid (none_trans K0.out hk)
            clear hk d3
            go_wp2_with fail
            go_ret
            exact ⟨rfl, D.out⟩
          | succ n =>
            obtain ⟨ga, bp, bs, bm, hga, r0, r1, r2, hG⟩ := hE.out.last (by omega)
            subst hga
            obtain ⟨N1, hN1⟩ : ∃ N1, N1 = n + 1 := ⟨_, rfl⟩
            rw [← hN1] at hG ⊢
            have GN := hid hG
            have f1 : (0 : Int) < (N1 : Int) := by omega
            have f2 : (N1 : Int) - 1 = (n : Int) := by omega
            have f3 : (n : Int) < (N1 : Int) := by omega
            have HN := hid hN1
            have hN2 : N1 ≤ 300 := by omega
            clear hG hN1 hE hn3
            go_wp2_with fail
            refine GN.out.mono ?_
            rintro e w5 ⟨rfl, hW⟩
            have WT := hid hW
            clear hW GN r0 r1 r2
            go_wp2_with fail
            refine WT.out.mono ?_
            rintro e w6 ⟨va', vc', rfl, hE'⟩
            have E6 := hid hE'
            clear hE' WT
            go_wp2_with fail
            exact ⟨⟨n, va', vc', by have := HN.out; omega, rfl, E6⟩, by simp [slN]; have := HN.out; omega⟩
end Go.Proofs.YtocpnddacdpnmaaGreatDoor
/- SlabKeeps: a live block is filled, is read. -/
namespace Go.Proofs.YtocpnddacdpnmaaGreatDoor
open Go.RowKit
set_option linter.unusedVariables false

theorem bkc3 {W : World} {y p s m : Nat} (h : W.heap[y]? = some (bkO p s m)) : W.cell? ⟨y, 0, none⟩ = some (.int .u64 (p : Int)) ∧ W.cell? ⟨y, 1, none⟩ = some (.int .u64 (s : Int)) ∧ W.cell? ⟨y, 2, none⟩ = some (.int .u8 (m : Int)) := by
  refine ⟨?_, ?_, ?_⟩ <;> simp [World.cell?, h]
theorem space_some8 {w : World} {s : Nat} {a : Option Nat} {base R lim n : Nat} {f : Nat → Nat} (h : M.SpaceAt w s a base R lim n f) (hn : 0 < n) : ∃ g, a = some g := space_some7 h hn
section
variable {w W : World} {wb sb lw : Nat} {x : Bx} {t : Bt} {fr : Nat → List Nat} {ls : List (Nat × Nat)} {S : Sb} {h : Nat → Int} {R : Nat → Bk} {n : Nat}
/-- Bytes of a live block are written. -/
theorem SO.wrote {W' : World} (o : SO w W sb lw x t fr ls S h) {p s : Nat} (hl : Lth x ls S p s) {f' : Nat → Nat} (hf : ∀ j, ¬ (p ≤ x.base + j ∧ x.base + j < p + s) → f' j = t.f j) (hs : M.SpaceAt W' x.s x.a x.base x.R x.lim x.n f') (k : Kept (M.own x.s x.a) W W') : SO w W' sb lw x { t with f := f' } fr ls S h := by
  have kb : Kept (bown x) W W' := k.mono (fun _ _ e => .inl e)
  obtain ⟨_, q, j, h1, h2, h3⟩ := o.span hl
  unfold ad at h2 h3
  refine ⟨⟨o.sw.pl.space0 k hs, (kb.block _ (heap_lt o.sw.bx) (fun e => o.sw.nsb (.inl e))).trans o.sw.bx, o.sw.nw, o.sw.tb⟩, o.sf.fill h1 (fun i hi => hf i (fun e => ?_)), o.st, o.bm, ⟨o.si.eP, o.si.pg, fun g c hg => ?_, o.si.lv, o.si.pn, o.si.pm⟩, o.hd⟩
  · omega
  · obtain ⟨n1, n2, n3⟩ := o.si.fl g c hg
    have hk := (o.si.pg g c hg).1
    have hz := szC_le hk
    have hm := o.mem hg
    have n4 := o.po.nums.2.2.2.1
    refine ⟨n1, n2, Lnk_move rfl (fun i hi => word_congr fun b hb => hf _ (fun e => ?_)) n3⟩
    have hib := n2 i hi
    have hcc := off_cell (x := x) (p := g) hk hib (by omega)
    have hno := o.free_no hg hi
    -- the free cell's bytes lie in no live block
    have hca : caN x g c i = x.base + 4096 * g + i * szC c := rfl
    rcases hl with ⟨g', c', i', ⟨l1, l2, l3, rfl⟩, rfl⟩ | ⟨q', j', l1, l2, rfl, rfl⟩
    · have hk' := (o.si.pg g' c' l1).1
      have hm' := o.mem l1
      have hcc' := off_cell (x := x) (p := g') hk' l2 (by omega)
      have hca' : caN x g' c' i' = x.base + 4096 * g' + i' * szC c' := rfl
      have eg : g' = g := by omega
      subst eg
      rw [hg] at l1
      injection l1 with l1
      subst l1
      rcases Nat.lt_trichotomy i i' with e2 | rfl | e2
      · have : (i + 1) * szC c ≤ i' * szC c := Nat.mul_le_mul_right _ e2
        rw [Nat.add_mul, Nat.one_mul] at this
        omega
      · exact l3 hi
      · have : (i' + 1) * szC c ≤ i * szC c := Nat.mul_le_mul_right _ e2
        rw [Nat.add_mul, Nat.one_mul] at this
        omega
    · have had : ad x q' = x.base + 4096 * q' := rfl
      rcases o.apart hm.1 l1 with ⟨e2, _⟩ | e2 | e2
      · rw [← e2, hg] at l2; cases l2
      · rw [Nat.pow_zero] at e2; omega
      · omega
/-- Each block holds its mark. -/
def MK (x : Bx) (t : Bt) (R : Nat → Bk) (n : Nat) : Prop := ∀ i, i < n → ∀ j, (R i).p ≤ x.base + j → x.base + j < (R i).p + (R i).s → t.f j = (R i).mark
theorem LW7.ins (L : LW7 w W wb lw sb x t fr ls S R n) {i : Nat} (hi : i < n) : 0 < (R i).s ∧ M.In x.base x.n (R i).p (R i).s := by
  obtain ⟨h, o⟩ := L.so
  have h1 := o.inside (L.bi.th i hi)
  have h2 := (o.span (L.bi.th i hi)).1
  exact ⟨h2, by unfold M.In; omega⟩
theorem LW7.fill (L : LW7 w W wb lw sb x t fr ls S R n) {d : Nat} (hd : d < n) (hm : ∀ i, i < n → i ≠ d → ∀ j, (R i).p ≤ x.base + j → x.base + j < (R i).p + (R i).s → t.f j = (R i).mark) :
    Calls Tryz.prog 29 #[.pointer (some ⟨x.s, 0, none⟩), .int .u64 ((R d).p : Int), .int .u64 ((R d).s : Int), .int .u8 ((R d).mark : Int)] W fun e w' => e = .returned (.int .i64 0) ∧ ∃ t', LW7 w w' wb lw sb x t' fr ls S R n ∧ MK x t' R n ∧ Kept (sown x sb) W w' := by
  obtain ⟨h, o⟩ := L.so
  obtain ⟨h0, hin⟩ := L.ins hd
  have hl := L.bi.th d hd
  obtain ⟨g, hg⟩ := space_some7 o.sw.pl.bd.sp (by unfold M.In at hin; omega)
  have hs := o.sw.pl.bd.sp
  rw [hg] at hs
  refine (M.Fill_in x.s g x.base x.R x.lim x.n t.f (R d).p (R d).s (R d).mark (L.mr d hd) W hs h0 hin).mono ?_
  rintro e w' ⟨rfl, h1, h2⟩
  rw [← hg] at h1 h2
  have k := toK h2
  have hp := hin.1
  have o' := o.wrote hl (f' := M.upd t.f ((R d).p - x.base) (R d).s fun _ => (R d).mark) (fun j hj => M.upd_out _ _ _ _ _ (fun e => hj (by omega))) h1 k
  have ks : Kept (sown x sb) W w' := k.mono (fun _ _ e => .inl (.inl e))
  obtain ⟨fv, lv, pv, qv, po, pp, hx⟩ := L.bx
  refine ⟨rfl, _, ⟨⟨h, o'⟩, L.lv, L.bi, ⟨fv, lv, pv, qv, po, pp, (ks.block _ (heap_lt hx) L.ns).trans hx⟩, L.nw, L.ns, L.mr, L.br⟩, fun i hi j h3 h4 => ?_, ks⟩
  show M.upd t.f ((R d).p - x.base) (R d).s (fun _ => (R d).mark) j = (R i).mark
  by_cases e : i = d
  · subst e
    rw [M.upd_in _ _ _ _ _ (by omega)]
  · rw [M.upd_out _ _ _ _ _ (fun e2 => ?_)]
    · exact hm i hi e j h3 h4
    · rcases o.two (L.bi.th i hi) hl with ⟨e3, _⟩ | e3 | e3
      · exact e (L.bi.nd i d hi hd e3)
      · omega
      · omega
/-- Marks through a deed. -/
theorem MK.deed {x' : Bx} {t' : Bt} {fr' : Nat → List Nat} {ls' : List (Nat × Nat)} {S' : Sb} {R' : Nat → Bk} {n' : Nat} {W' : World} (M0 : MK x t R n) (L : LW7 w W wb lw sb x t fr ls S R n) (L' : LW7 w W' wb lw sb x' t' fr' ls' S' R' n') (ch : Ch x t ls S x' t' ls' S') {i j : Nat} (hi : i < n') (hj : j < n) (e : R' i = R j) : ∀ b, (R' i).p ≤ x'.base + b → x'.base + b < (R' i).p + (R' i).s → t'.f b = (R' i).mark := fun b h1 h2 => by
  have h3 : Lby x' ls' S' b := ⟨_, _, L'.bi.th i hi, h1, h2⟩
  rw [e, ch.base] at h1 h2
  have h4 : Lby x ls S b := ⟨_, _, L.bi.th j hj, h1, h2⟩
  rw [ch.kb b h4 h3, e]
  exact M0 j hj b h1 h2
end
end Go.Proofs.YtocpnddacdpnmaaGreatDoor
/- SlabKeeps. -/
namespace Go.Proofs.YtocpnddacdpnmaaGreatDoor
open Go.RowKit
set_option linter.unusedVariables false

/-- Between two deeds: each block holds its mark. -/
def EK7 (w : World) (wb lw sb n : Nat) (va : Option Addr) (vc : Nat) (W : World) : Prop := ∃ x t fr ls S R, LW7 w W wb lw sb x t fr ls S R n ∧ Bks W (.slice va n vc) n R ∧ MK x t R n
/-- The last one does not yet. -/
def EP7 (w : World) (wb lw sb n : Nat) (va : Option Addr) (vc : Nat) (W : World) : Prop := ∃ x t fr ls S R, LW7 w W wb lw sb x t fr ls S R (n + 1) ∧ Bks W (.slice va (n + 1) vc) (n + 1) R ∧ ∀ i, i < n → ∀ j, (R i).p ≤ x.base + j → x.base + j < (R i).p + (R i).s → t.f j = (R i).mark
theorem EK7.kp {w wb lw sb n va vc W} (h : EK7 w wb lw sb n va vc W) : Kept none' w W := by
  obtain ⟨x, t, fr, ls, S, R, L, B, M0⟩ := h
  exact L.po.pl.kp
theorem EK7.keep {w wb lw sb n va vc W W'} (h : EK7 w wb lw sb n va vc W) (k : Kept none' W W') : EK7 w wb lw sb n va vc W' := by
  obtain ⟨x, t, fr, ls, S, R, L, B, M0⟩ := h
  exact ⟨x, t, fr, ls, S, R, L.keep k, B.kept k (fun _ _ e => e), M0⟩
theorem EK7.do {w wb lw sb n va vc W} (h : EK7 w wb lw sb n va vc W) (hn : n ≤ 1000) (op N wh : Int) (d : Bool) (hN2 : N ≤ 9223372036854775807) (hw2 : wh ≤ 9223372036854775807) :
    Calls Tryz.prog 23 #[.pointer (some ⟨wb, 0, none⟩), .slice va n vc, deV op N wh d] W fun e w' => ∃ va' vc' n', e = .returned (.tuple #[.slice va' n' vc', .bool true]) ∧ ((n' ≤ n ∧ Hid (EK7 w wb lw sb n' va' vc' w')) ∨ (n' = n + 1 ∧ Hid (EP7 w wb lw sb n va' vc' w'))) := by
  obtain ⟨x, t, fr, ls, S, R, L, B, M0⟩ := h
  refine (do7 L va vc hn B op N wh d hN2 hw2).mono ?_
  rintro e w' ⟨va', vc', n', R', x', t', fr', ls', S', rfl, L', B', ch, hR⟩
  refine ⟨va', vc', n', rfl, ?_⟩
  rcases hR with ⟨h1, h2⟩ | ⟨h1, h2⟩
  · refine .inl ⟨h1, hid ⟨x', t', fr', ls', S', R', L', B', fun i hi => ?_⟩⟩
    obtain ⟨j, hj, e⟩ := h2 i hi
    exact M0.deed L L' ch hi hj e
  · subst h1
    exact .inr ⟨rfl, hid ⟨x', t', fr', ls', S', R', L', B', fun i hi => M0.deed L L' ch (by omega) hi (h2 i hi)⟩⟩
/-- The last one is filled. -/
theorem EP7.fill {w wb lw sb n va vc W} (h : EP7 w wb lw sb n va vc W) : ∃ ga bp bs bm sp : Nat, va = some ⟨ga, 0, none⟩ ∧ W.cell? ⟨ga, n * 3, none⟩ = some (.int .u64 (bp : Int)) ∧ W.cell? ⟨ga, n * 3 + 1, none⟩ = some (.int .u64 (bs : Int)) ∧ W.cell? ⟨ga, n * 3 + 2, none⟩ = some (.int .u8 (bm : Int)) ∧
    ∀ W', Kept none' W W' → W'.cell? ⟨wb, 3, none⟩ = some (.pointer (some ⟨lw, 0, none⟩)) ∧ (Calls Tryz.prog 27 #[.pointer (some ⟨lw, 0, none⟩)] W' fun e w3 => e = .returned (.pointer (some ⟨sp, 0, none⟩)) ∧ w3 = W') ∧
      Calls Tryz.prog 29 #[.pointer (some ⟨sp, 0, none⟩), .int .u64 (bp : Int), .int .u64 (bs : Int), .int .u8 (bm : Int)] W' fun e w2 => e = .returned (.int .i64 0) ∧ EK7 w wb lw sb (n + 1) va vc w2 ∧ w2.cell? ⟨wb, 3, none⟩ = some (.pointer (some ⟨lw, 0, none⟩)) ∧ ∀ (y p s m : Nat), W'.heap[y]? = some (bkO p s m) → w2.heap[y]? = some (bkO p s m) := by
  obtain ⟨x, t, fr, ls, S, R, L, B, M0⟩ := h
  obtain ⟨ga, hg, r0, r1, r2⟩ := B.get n (by omega)
  refine ⟨ga, (R n).p, (R n).s, (R n).mark, x.s, hg, r0, r1, r2, fun W' k => ⟨(L.keep k).c.2.2.2.1, Space6 (L.keep k).po.pl, ?_⟩⟩
  refine ((L.keep k).fill (d := n) (by omega) (fun i hi hne => M0 i (by omega))).mono ?_
  rintro e w2 ⟨rfl, t', L', M1, ks⟩
  obtain ⟨h, o⟩ := (L.keep k).so
  exact ⟨rfl, ⟨x, t', fr, ls, S, R, L', (B.kept k (fun _ _ e => e)).call o ks, M1⟩, L'.c.2.2.2.1, fun y p s m hy => (ks.block _ (heap_lt hy) (o.bty hy)).trans hy⟩
/-- A block of the book is read. -/
theorem EK7.read {w wb lw sb n va vc W} (h : EK7 w wb lw sb n va vc W) {i : Nat} (hi : i < n) : ∃ ga bp bs bm sp : Nat, va = some ⟨ga, 0, none⟩ ∧ bs ≤ 1048576 ∧ (∀ W', Kept none' W W' → W'.cell? ⟨ga, i * 3, none⟩ = some (.int .u64 (bp : Int)) ∧ W'.cell? ⟨ga, i * 3 + 1, none⟩ = some (.int .u64 (bs : Int)) ∧ W'.cell? ⟨ga, i * 3 + 2, none⟩ = some (.int .u8 (bm : Int)) ∧ W'.cell? ⟨wb, 3, none⟩ = some (.pointer (some ⟨lw, 0, none⟩)) ∧ (Calls Tryz.prog 27 #[.pointer (some ⟨lw, 0, none⟩)] W' fun e w3 => e = .returned (.pointer (some ⟨sp, 0, none⟩)) ∧ w3 = W') ∧
      Calls Tryz.prog 30 #[.pointer (some ⟨sp, 0, none⟩), .int .u64 (bp : Int), .int .u64 (bs : Int)] W' fun e w2 => ∃ gb, e = .returned (.tuple #[.slice (some ⟨gb, 0, none⟩) bs bs, .int .i64 0]) ∧ Kept none' W' w2 ∧ ∀ w3, Kept none' w2 w3 → ∀ j, j < bs → w3.cell? ⟨gb, j, none⟩ = some (.int .u8 (bm : Int))) := by
  obtain ⟨x, t, fr, ls, S, R, L, B, M0⟩ := h
  obtain ⟨ga, hg, _⟩ := B.get i hi
  have hb := L.bnd i hi
  refine ⟨ga, (R i).p, (R i).s, (R i).mark, x.s, hg, hb.2, fun W' k => ?_⟩
  obtain ⟨ga', hg', r0, r1, r2⟩ := (B.kept k (fun _ _ e => e)).get i hi
  rw [hg] at hg'
  injection hg' with hg'
  injection hg' with hg'
  subst hg'
  have L' := L.keep k
  obtain ⟨h0, hin⟩ := L'.ins hi
  obtain ⟨g, hgs⟩ := space_some7 L'.po.pl.bd.sp (by unfold M.In at hin; omega)
  have hs := L'.po.pl.bd.sp
  rw [hgs] at hs
  refine ⟨r0, r1, r2, L'.c.2.2.2.1, Space6 L'.po.pl, (M.Read_in x.s g x.base x.R x.lim x.n t.f (R i).p (R i).s W' hs h0 hin).mono ?_⟩
  rintro e w2 ⟨rfl, hB, hk⟩
  refine ⟨_, rfl, toK hk, fun w3 k3 j hj => ?_⟩
  have hp := hin.1
  have hc := hB.cell j hj
  rw [M0 i hi ((R i).p - x.base + j) (by omega) (by omega)] at hc
  exact k3.cell (fun e => e) hc
set_option maxRecDepth 20000 in
set_option maxHeartbeats 20000000 in
theorem keeps7 (b0 : Nat) (hb64 : b0 < 18446744073709551616) (l0 o0 : Int) (l1 : -9223372036854775808 ≤ l0) (l2 : l0 ≤ 9223372036854775807) (o1 : -9223372036854775808 ≤ o0) (o2 : o0 ≤ 9223372036854775807) (oa : Option Addr) (m oc : Nat) (w : World) (hT : Tab w) (hS : DeedsIn w (.slice oa m oc) m) :
    Calls Tryz.prog 6 #[cfgV b0 l0 o0, .slice oa m oc] w fun e w' => e = .returned (.bool true) ∧ Kept none' w w' := by
  obtain ⟨hm, oa', oc', hsv, hD⟩ := hS
  injection hsv with e1 e2 e3
  subst e1 e3
  have HD := hid hD
  have K0 := hid ((Kept.refl none' w).alloc (cfgO b0 l0 o0))
  have X0 := hid (heap_new w (cfgO b0 l0 o0))
  have BG := hid (fun W (k : Kept none' w W) => begin7_any b0 hb64 l0 o0 l1 l2 o1 o2 W (fun i hi => k.cell (fun e => e) (hT i hi)))
  have LV := hid (fun W (k : Kept none' w W) => lives7 W (fun i hi => k.cell (fun e => e) (hT i hi)))
  clear hD hT
  go_enter Tryz.func6, Tryz.ntmps6
  obtain ⟨x0, x1, x2⟩ := cfg3 X0.out
  have BG0 := hid (BG.out _ K0.out)
  go_wp2_with fail
  refine BG0.out.mono ?_
  generalize w.alloc (cfgO b0 l0 o0) = W0 at *
  rintro e w1 ⟨base, lim, o, hbm, hB⟩
  obtain ⟨wb, lw, sb, x, t, fr, rfl, hL⟩ := Beg7.lw hbm hB
  have E1 := hid (show EK7 W0 wb lw sb 0 none 0 w1 from ⟨x, t, fr, [], S0, _, hL, ⟨rfl, .inl ⟨rfl, rfl⟩⟩, fun i hi => absurd hi (Nat.not_lt_zero _)⟩)
  have K1 := hid (none_trans K0.out hL.po.pl.kp)
  clear hbm hB hL x0 x1 x2 BG BG0 base lim o x t fr
  have LV1 := hid (LV.out _ K1.out)
  go_wp2_with fail
  refine LV1.out.mono ?_
  rintro e w2 ⟨rfl, hk⟩
  have E2 := hid (E1.out.keep hk)
  clear hk LV LV1 E1 K1
  go_wp2_with fail
  go_loopw [6, 7, 8, 9, 10] (fun s6 s7 _ _ _ W => ∃ (j n : Nat) (va : Option Addr) (vc : Nat), j ≤ m ∧ j ≤ 120 ∧ n ≤ j ∧ s6 = .slice va n vc ∧ s7 = .int .i64 (j : Int) ∧ Hid (EK7 W0 wb lw sb n va vc W)) (fun _ s7 _ _ _ _ => 120 - (intOf s7).toNat)
  case atStart => exact ⟨0, 0, none, 0, Nat.zero_le _, Nat.zero_le _, Nat.le_refl _, rfl, rfl, E2⟩
  case round =>
    clear E2
    obtain ⟨j, n, va, vc, hj, hj3, hnj, rfl, rfl, hE⟩ := hrel
    have K3 := hid (none_trans K0.out hE.out.kp)
    by_cases hlt : j < m ∧ j < 120
    · have h1 : (j : Int) < (m : Int) := by omega
      have h2 : (j : Int) < 120 := by omega
      rcases HD.out with h0 | ⟨bl, ob, hoa, hbl, hde⟩
      · omega
      · subst hoa
        obtain ⟨op, N, wh, d, n1, n2, n3, g0, g1, g2, g3⟩ := (hde j hlt.1).keep K3.out
        have DO := hid (hE.out.do (by omega) op N wh d n2.2 n3.2)
        clear hde n1 n2 n3 HD hE
        go_wp2_with fail
        refine DO.out.mono ?_
        rintro e w4 ⟨va', vc', n', rfl, ⟨hn', E4⟩ | ⟨hn', E4⟩⟩
        · have f1 : ¬ (n : Int) < (n' : Int) := by omega
          clear g0 g1 g2 g3 DO
          go_wp2_with fail
          exact ⟨⟨j + 1, n', va', vc', by omega, by omega, by omega, rfl, by simp, E4⟩, by simp [intOf]; omega⟩
        · obtain ⟨ga, bp, bs, bm, sp, hga, r0, r1, r2, hF⟩ := E4.out.fill
          subst hga
          have HF := hid hF
          have f1 : (n : Int) < (n' : Int) := by omega
          have f2 : (n' : Int) - 1 = (n : Int) := by omega
          have HN := hid hn'
          have hb1 : n' ≤ 1000 := by omega
          have Q4 := hid (heap_new w4 (bkO bp bs bm))
          have KA := hid ((Kept.refl none' w4).alloc (bkO bp bs bm))
          clear g0 g1 g2 g3 DO hF hn' E4
          go_upto_region 13 with fail
          generalize w4.heap.size = y at *
          generalize w4.alloc (bkO bp bs bm) = w5 at *
          have KD := hid ((Kept.refl none' w5).drew)
          have K6 := hid (none_trans KA.out KD.out)
          have Q6 := hid ((KD.out.block _ (heap_lt Q4.out) (fun e => e)).trans Q4.out)
          obtain ⟨c3, sp6, fi6⟩ := HF.out _ K6.out
          have SP6 := hid sp6
          have FI6 := hid fi6
          clear sp6 fi6 r0 r1 r2
          obtain ⟨q0, q1, q2⟩ := bkc3 Q6.out
          go_region_held3 (fun w' => w'.cell? ⟨wb, 3, none⟩ = some (.pointer (some ⟨lw, 0, none⟩)) ∧ w'.cell? ⟨y, 0, none⟩ = some (.int .u64 (bp : Int)) ∧ w'.cell? ⟨y, 1, none⟩ = some (.int .u64 (bs : Int)) ∧ w'.cell? ⟨y, 2, none⟩ = some (.int .u8 (bm : Int))) ((refine ⟨?_, ?_, ?_, ?_⟩ <;> first | with_reducible assumption | fail)) (first
            | (go_at_call 27; (with_reducible refine SP6.out.mono ?_); rintro e w7 ⟨rfl, h4⟩; replace h4 := h4.symm; subst h4)
            | (go_at_call 29; (with_reducible refine FI6.out.mono ?_); rintro e w8 ⟨rfl, hE8, d3, hY8⟩; have E8 := hid hE8; obtain ⟨p0, p1, p2⟩ := bkc3 (hY8 _ _ _ _ Q6.out); clear hE8 hY8)
            | fail)
          all_goals
            have E9 := hid (show EK7 W0 wb lw sb n' (some ⟨ga, 0, none⟩) vc' w8 from by rw [HN.out]; exact E8.out)
            clear c3 q0 q1 q2 d3 p0 p1 p2 E8
            go_wp2_with fail
            exact ⟨⟨j + 1, n', _, vc', by omega, by omega, by have := HN.out; omega, rfl, by simp, E9⟩, by simp [intOf]; omega⟩
    · have hn3 : n ≤ 120 := by omega
      have E5 := hid hE.out
      clear HD hE
      by_cases hc : j < m
      · have h1 : (j : Int) < (m : Int) := by omega
        have h2 : ¬ (j : Int) < 120 := by omega
        have h3 : decide ((j : Int) < (m : Int)) = true := decide_eq_true h1
        have h4 : decide (j < m) = true := decide_eq_true hc
        have h5 : decide ((j : Int) < 120) = false := decide_eq_false h2
        have h6 : decide (j < 120) = false := decide_eq_false (by omega)
        clear hlt hj hj3
        go_wp2_with fail
        go_loopw [11, 12, 13, 14] (fun s11 _ _ _ W => ∃ i : Nat, i ≤ n ∧ s11 = .int .i64 (i : Int) ∧ Hid (Kept none' wr W)) (fun s11 _ _ _ _ => n - (intOf s11).toNat)
        case atStart => exact ⟨0, Nat.zero_le _, rfl, hid (Kept.refl none' wr)⟩
        case round =>
          obtain ⟨i, hi, rfl, hK⟩ := hrel
          by_cases hin : i < n
          · have g1 : (i : Int) < (n : Int) := by omega
            have g2 : IntKind.i64.wrap (i : Int) = (i : Int) := by rw [IntKind.wrap_i64]; omega
            obtain ⟨ga, bp, bs, bm, sp, hga, hbs, hRd⟩ := E5.out.read hin
            subst hga
            have HR := hid hRd
            have KD := hid ((Kept.refl none' wr).drew)
            have K6 := hid (none_trans hK.out KD.out)
            obtain ⟨r0, r1, r2, c3, sp6, rd6⟩ := HR.out _ K6.out
            have SP6 := hid sp6
            have RD6 := hid rd6
            clear sp6 rd6 hRd
            go_upto_region 19 with fail
            go_region_held3 (fun w' => w'.cell? ⟨wb, 3, none⟩ = some (.pointer (some ⟨lw, 0, none⟩)) ∧ w'.cell? ⟨ga, i * 3, none⟩ = some (.int .u64 (bp : Int)) ∧ w'.cell? ⟨ga, i * 3 + 1, none⟩ = some (.int .u64 (bs : Int))) ((refine ⟨?_, ?_, ?_⟩ <;> first | with_reducible assumption | fail)) (first
              | (go_at_call 27; (with_reducible refine SP6.out.mono ?_); rintro e w7 ⟨rfl, h4⟩; replace h4 := h4.symm; subst h4)
              | (go_at_call 30; (with_reducible refine RD6.out.mono ?_); rintro e w8 ⟨gb, rfl, hk8, hC8⟩; have K8 := hid (none_trans K6.out hk8); have C8 := hid hC8; obtain ⟨p0, p1, p2, d3, _, _⟩ := HR.out _ K8.out; clear hk8 hC8)
              | fail)
            all_goals
              clear r0 r1 r2 c3
              go_wp2_with fail
              clear p0 p1 p2 d3
              go_loopw [14] (fun s14 W => ∃ j : Nat, j ≤ bs ∧ s14 = .int .i64 (j : Int) ∧ Hid (Kept none' w8 W)) (fun s14 _ => bs - (intOf s14).toNat)
              case atStart => exact ⟨0, Nat.zero_le _, rfl, hid (Kept.refl none' w8)⟩
              case round =>
                obtain ⟨j, hj, rfl, hK9⟩ := hrel
                have KX := hid (none_trans K8.out hK9.out)
                by_cases hjb : j < bs
                · have g3 : (j : Int) < (bs : Int) := by omega
                  have t0 := C8.out _ hK9.out j hjb
                  obtain ⟨q0, q1, q2, _, _, _⟩ := HR.out _ KX.out
                  have KE := hid (fun m => (Kept.refl none' wr).drewN m)
                  go_wp2_with fail
                  go_quiet (fail)
                  go_wp2_with fail
                  exact ⟨⟨j + 1, by omega, by simp, hid (none_trans hK9.out (KE.out _))⟩, by simp [intOf]; omega⟩
                · obtain rfl : j = bs := by omega
                  have g3 : ¬ (j : Int) < (j : Int) := by omega
                  go_wp2_with fail
                  exact ⟨⟨i + 1, by omega, by simp, KX⟩, by simp [intOf]; omega⟩
          · obtain rfl : i = n := by omega
            have D := hid (none_trans K3.out hK.out)
            go_wp2_with fail
            go_ret
            exact ⟨rfl, D.out⟩
      · have h1 : ¬ (j : Int) < (m : Int) := by omega
        have h2 : decide ((j : Int) < (m : Int)) = false := decide_eq_false h1
        have h3 : decide (j < m) = false := decide_eq_false hc
        clear hlt hj hc
        go_wp2_with fail
        go_loopw [11, 12, 13, 14] (fun s11 _ _ _ W => ∃ i : Nat, i ≤ n ∧ s11 = .int .i64 (i : Int) ∧ Hid (Kept none' wr W)) (fun s11 _ _ _ _ => n - (intOf s11).toNat)
        case atStart => exact ⟨0, Nat.zero_le _, rfl, hid (Kept.refl none' wr)⟩
        case round =>
          obtain ⟨i, hi, rfl, hK⟩ := hrel
          by_cases hin : i < n
          · have g1 : (i : Int) < (n : Int) := by omega
            have g2 : IntKind.i64.wrap (i : Int) = (i : Int) := by rw [IntKind.wrap_i64]; omega
            obtain ⟨ga, bp, bs, bm, sp, hga, hbs, hRd⟩ := E5.out.read hin
            subst hga
            have HR := hid hRd
            have KD := hid ((Kept.refl none' wr).drew)
            have K6 := hid (none_trans hK.out KD.out)
            obtain ⟨r0, r1, r2, c3, sp6, rd6⟩ := HR.out _ K6.out
            have SP6 := hid sp6
            have RD6 := hid rd6
            clear sp6 rd6 hRd
            go_upto_region 19 with fail
            go_region_held3 (fun w' => w'.cell? ⟨wb, 3, none⟩ = some (.pointer (some ⟨lw, 0, none⟩)) ∧ w'.cell? ⟨ga, i * 3, none⟩ = some (.int .u64 (bp : Int)) ∧ w'.cell? ⟨ga, i * 3 + 1, none⟩ = some (.int .u64 (bs : Int))) ((refine ⟨?_, ?_, ?_⟩ <;> first | with_reducible assumption | fail)) (first
              | (go_at_call 27; (with_reducible refine SP6.out.mono ?_); rintro e w7 ⟨rfl, h4⟩; replace h4 := h4.symm; subst h4)
              | (go_at_call 30; (with_reducible refine RD6.out.mono ?_); rintro e w8 ⟨gb, rfl, hk8, hC8⟩; have K8 := hid (none_trans K6.out hk8); have C8 := hid hC8; obtain ⟨p0, p1, p2, d3, _, _⟩ := HR.out _ K8.out; clear hk8 hC8)
              | fail)
            all_goals
              clear r0 r1 r2 c3
              go_wp2_with fail
              clear p0 p1 p2 d3
              go_loopw [14] (fun s14 W => ∃ j : Nat, j ≤ bs ∧ s14 = .int .i64 (j : Int) ∧ Hid (Kept none' w8 W)) (fun s14 _ => bs - (intOf s14).toNat)
              case atStart => exact ⟨0, Nat.zero_le _, rfl, hid (Kept.refl none' w8)⟩
              case round =>
                obtain ⟨j, hj, rfl, hK9⟩ := hrel
                have KX := hid (none_trans K8.out hK9.out)
                by_cases hjb : j < bs
                · have g3 : (j : Int) < (bs : Int) := by omega
                  have t0 := C8.out _ hK9.out j hjb
                  obtain ⟨q0, q1, q2, _, _, _⟩ := HR.out _ KX.out
                  have KE := hid (fun m => (Kept.refl none' wr).drewN m)
                  go_wp2_with fail
                  go_quiet (fail)
                  go_wp2_with fail
                  exact ⟨⟨j + 1, by omega, by simp, hid (none_trans hK9.out (KE.out _))⟩, by simp [intOf]; omega⟩
                · obtain rfl : j = bs := by omega
                  have g3 : ¬ (j : Int) < (j : Int) := by omega
                  go_wp2_with fail
                  exact ⟨⟨i + 1, by omega, by simp, KX⟩, by simp [intOf]; omega⟩
          · obtain rfl : i = n := by omega
            have D := hid (none_trans K3.out hK.out)
            go_wp2_with fail
            go_ret
            exact ⟨rfl, D.out⟩
end Go.Proofs.YtocpnddacdpnmaaGreatDoor
/- A Config that came in. -/
namespace Go.Proofs.YtocpnddacdpnmaaGreatDoor
open Go.ChangeShapes Go.WideShapes Go.ChangeAt Go.RowKit Go.Deep
set_option linter.unusedVariables false

theorem cells_u64 : Tryz.prog.cellsOf 24 = 1 := by kernel_rfl
theorem cells_int : Tryz.prog.cellsOf 3 = 1 := by kernel_rfl
set_option maxRecDepth 8000 in
theorem cfg_of {H : Type} {enc : TypeId × Value → H} {W : World} {base : Nat} {v : Value} {d : DataW H} {p : List MemPlace} (hok : Value.okWide Tryz.prog W .any base 26 v)
    (h : DataW.Trod enc Tryz.prog W 0 (fun _ => true) true 26 v d p) :
    ∃ (b : Nat) (lim ord : Int), v = .agg #[.int .u64 (b : Int), .int .i64 lim, .int .i64 ord] ∧ b < 18446744073709551616 ∧ -9223372036854775808 ≤ lim ∧ lim ≤ 9223372036854775807 ∧ -9223372036854775808 ≤ ord ∧ ord ≤ 9223372036854775807 := by
  obtain ⟨cs, rfl, _⟩ := okWide_struct Tryz.underlying26 hok
  obtain ⟨fuel, hf⟩ := h
  obtain ⟨y0, y1, y2, nn, _, hlen, g0, g1, g2⟩ := trod_struct3 Tryz.underlying26 hf
  obtain ⟨l⟩ := cs
  simp only [Value.cells] at hlen g0 g1 g2
  have hl3 : l.length = 3 := hlen.trans (by kernel_rfl)
  match l, hl3 with
  | [c0, c1, c2], _ =>
    rw [cells_u64] at g0
    rw [cells_int] at g1 g2
    obtain ⟨x, e0, _, w0⟩ := DataW.trod_int Tryz.underlying24 g0
    obtain ⟨y, e1, _, w1⟩ := DataW.trod_int Tryz.underlying3 g1
    obtain ⟨z, e2, _, w2⟩ := DataW.trod_int Tryz.underlying3 g2
    simp at e0 e1 e2
    subst e0 e1 e2
    have b0 := bounds_u64 w0
    have b1 := bounds_i64 w1
    have b2 := bounds_i64 w2
    obtain ⟨b, rfl⟩ := Int.eq_ofNat_of_zero_le b0.1
    exact ⟨b, y, z, rfl, by omega, b1.1, b1.2, b2.1, b2.2⟩
end Go.Proofs.YtocpnddacdpnmaaGreatDoor
