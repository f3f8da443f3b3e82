import Derived.Test.YtocpnddacdpnmaaGreatDoorNc
import Derived.Test.YtocpnddacdpnmaaGreatDoorNd
import Derived.Test.YtocpnddacdpnmaaGreatDoorNs
import Derived.Test.YtocpnddacdpnmaaGreatDoorRgD
import Derived.ProofKit
import Derived.OpenShut
import Derived.Deep.Slices
import Derived.Deep.Strs
import Derived.Test.YtocpnddacdpnmaaGreatDoorMa
/- croftlaw7.do of any deed. -/
namespace Go.Proofs.YtocpnddacdpnmaaGreatDoor
open Go.RowKit
set_option linter.unusedVariables false

theorem do7 {w W : World} {wb sb lw : Nat} {x : Bx} {t : Bt} {fr : Nat → List Nat} {ls : List (Nat × Nat)} {S : Sb} {R : Nat → Bk} {n : Nat} (L : LW7 w W wb lw sb x t fr ls S R n) (va : Option Addr) (vc : Nat) (hn : n ≤ 1000) (B : Bks W (.slice va n vc) n R) (op N wh : Int) (d : Bool) (hN2 : N ≤ 9223372036854775807) (hw2 : wh ≤ 9223372036854775807) :
    Calls Tryz.prog 23 #[.pointer (some ⟨wb, 0, none⟩), .slice va n vc, deV op N wh d] W fun e w' => DoP w wb lw sb x t ls S R n e w' := by
  by_cases h1 : op = 0 ∨ op = 1 ∨ op = 2
  · exact do_take L va vc hn B op N wh d h1 hN2
  by_cases h2 : op = 3
  · exact do_need L va vc hn B op N wh d h2 hN2
  by_cases h3 : op = 4 ∨ op = 5
  · rcases Nat.eq_zero_or_pos n with e | e
    · subst e
      exact do_give_none L va vc B op N wh d h3
    · by_cases hw : 0 < wh
      · obtain ⟨m, hm⟩ : ∃ m : Nat, wh = (m : Int) := ⟨wh.toNat, by omega⟩
        subst hm
        exact do_give_some L va vc hn e B op N d h3 m (m % n) (by omega) (by omega) rfl
      · exact do_give_first L va vc hn e B op N wh d h3 hw
  · exact do_trim L va vc hn B op N wh d (by
      rintro (e | e | e | e | e | e)
      · exact h1 (.inl e)
      · exact h1 (.inr (.inl e))
      · exact h1 (.inr (.inr e))
      · exact h2 e
      · exact h3 (.inl e)
      · exact h3 (.inr e))
end Go.Proofs.YtocpnddacdpnmaaGreatDoor
/- Deeds that came in. -/
namespace Go.Proofs.YtocpnddacdpnmaaGreatDoor
open Go.ChangeShapes Go.WideShapes Go.ChangeAt Go.RowKit Go.Deep
set_option linter.unusedVariables false

def N64 (z : Int) : Prop := -9223372036854775808 ≤ z ∧ z ≤ 9223372036854775807
def DeedAt (w : World) (bl o j : Nat) : Prop := ∃ (a b c : Int) (f : Bool), N64 a ∧ N64 b ∧ N64 c ∧ w.cell? ⟨bl, o + j * 4, none⟩ = some (.int .i64 a) ∧ w.cell? ⟨bl, o + j * 4 + 1, none⟩ = some (.int .i64 b) ∧ w.cell? ⟨bl, o + j * 4 + 2, none⟩ = some (.int .i64 c) ∧ w.cell? ⟨bl, o + j * 4 + 3, none⟩ = some (.bool f)
def DeedsIn (w : World) (v : Value) (n : Nat) : Prop :=
  n ≤ 9223372036854775807 ∧ ∃ oa oc, v = .slice oa n oc ∧ (n = 0 ∨ ∃ bl o, oa = some ⟨bl, o, none⟩ ∧ bl < w.heap.size ∧ ∀ j, j < n → DeedAt w bl o j)
theorem cells_deed : Tryz.prog.cellsOf 76 = 4 := by kernel_rfl
theorem cells1_int : Tryz.prog.cellsOf 3 = 1 := by kernel_rfl
theorem cells1_bool : Tryz.prog.cellsOf 4 = 1 := by kernel_rfl
theorem DeedAt.keep {w W : World} {bl o j : Nat} (h : DeedAt w bl o j) (k : Kept none' w W) : DeedAt W bl o j := by
  obtain ⟨a, b, c, f, h1, h2, h3, g0, g1, g2, g3⟩ := h
  exact ⟨a, b, c, f, h1, h2, h3, k.cell (fun e => e) g0, k.cell (fun e => e) g1, k.cell (fun e => e) g2, k.cell (fun e => e) g3⟩
theorem at_spot {w : World} {a : Addr} {v : Value} (h : w.cell? a = some v) : ∃ b o, a = ⟨b, o, none⟩ ∧ b < w.heap.size := by
  obtain ⟨b, o, s⟩ := a
  unfold World.cell? at h
  split at h
  · rename_i hh
    have hb := (Array.getElem?_eq_some_iff.1 hh).1
    cases s with
    | none => exact ⟨b, o, rfl, hb⟩
    | some s => simp at h
  · cases h
set_option maxRecDepth 8000 in
theorem deeds_of {H : Type} {enc : TypeId × Value → H} {W : World} {a : Option Addr} {len cap : Nat} {d : DataW H} {p : List MemPlace}
    (h : DataW.Trod enc Tryz.prog W 0 (fun _ => true) true 71 (.slice a len cap) d p) : DeedsIn W (.slice a len cap) len := by
  obtain ⟨fuel, hf⟩ := h
  rcases open_slice Tryz.underlying71 hf with ⟨hcs, _⟩ | ⟨x, l, c, m, n, D, Pl, hcs, _, hl, hm, hmm, _, hx⟩
  · simp [Value.cells] at hcs
    obtain ⟨rfl, rfl, rfl⟩ := hcs
    exact ⟨by omega, none, 0, rfl, Or.inl rfl⟩
  · simp [Value.cells] at hcs
    obtain ⟨rfl, rfl, rfl⟩ := hcs
    simp only [if_true] at hmm
    subst hmm
    have hml : m ≤ 9223372036854775807 := by unfold maxLen at hm; omega
    refine ⟨by omega, some x, m, rfl, ?_⟩
    by_cases h0 : len = 0
    · exact Or.inl h0
    · right
      rw [cells_deed] at hx
      have key : ∀ k, k < len → ∃ (a b c : Int) (f : Bool), N64 a ∧ N64 b ∧ N64 c ∧ W.cell? ((x.add (k * 4)).add 0) = some (.int .i64 a) ∧ W.cell? ((x.add (k * 4)).add 1) = some (.int .i64 b) ∧ W.cell? ((x.add (k * 4)).add 2) = some (.int .i64 c) ∧ W.cell? ((x.add (k * 4)).add 3) = some (.bool f) := by
        intro k hk
        obtain ⟨cs, h1, h2⟩ := hx k (by omega)
        obtain ⟨_, hlen, hcell⟩ := World.cells?_some h1
        obtain ⟨xs, nn, _, _, _, hxl, hfld⟩ := DataW.trod_struct Tryz.underlying76 h2
        match cs, hlen, xs, hxl with
        | [c0, c1, c2, c3], _, [y0, y1, y2, y3], _ =>
          have g0 := hfld 0 _ rfl
          have g1 := hfld 1 _ rfl
          have g2 := hfld 2 _ rfl
          have g3 := hfld 3 _ rfl
          obtain ⟨x0, e0, _, w0⟩ := DataW.trod_int Tryz.underlying3 g0
          obtain ⟨x1, e1, _, w1⟩ := DataW.trod_int Tryz.underlying3 g1
          obtain ⟨x2, e2, _, w2⟩ := DataW.trod_int Tryz.underlying3 g2
          obtain ⟨x3, e3, _⟩ := DataW.trod_bool Tryz.underlying4 g3
          simp [cells1_int] at e0 e1 e2
          simp [cells1_bool] at e3
          subst e0 e1 e2 e3
          exact ⟨x0, x1, x2, x3, bounds_i64 w0, bounds_i64 w1, bounds_i64 w2, hcell 0 (by simp), hcell 1 (by simp), hcell 2 (by simp), hcell 3 (by simp)⟩
      obtain ⟨a, b, c, f, _, _, _, g0, _⟩ := key 0 (by omega)
      have e0 : (x.add (0 * 4)).add 0 = x := by simp [Addr.add]
      rw [e0] at g0
      obtain ⟨bb, o, rfl, hb⟩ := at_spot g0
      refine ⟨bb, o, rfl, hb, fun k hk => ?_⟩
      obtain ⟨a, b, c, f, h1, h2, h3, g0, g1, g2, g3⟩ := key k hk
      rw [Addr.add_lit, Addr.add_lit] at g0 g1 g2 g3
      exact ⟨a, b, c, f, h1, h2, h3, g0, g1, g2, g3⟩
end Go.Proofs.YtocpnddacdpnmaaGreatDoor
/- SlabExactly. -/
namespace Go.Proofs.YtocpnddacdpnmaaGreatDoor
open Go.RowKit
set_option linter.unusedVariables false

/-- A world that begins. -/
theorem Beg7.lw {w w' : World} {base lim o : Nat} {e : Ending} (hb : base % (4096 * 2 ^ o) = 0) (h : Beg7 w base lim o e w') : ∃ wb lw sb x t fr, e = .returned (.pointer (some ⟨wb, 0, none⟩)) ∧ LW7 w w' wb lw sb x t fr [] S0 (fun _ => ⟨0, 0, 0⟩) 0 := by
  obtain ⟨wb, lw, sb, x, fv, lv, pv, qv, h1, h2, h3, h4, h5, h6, h7, h8, h9, h10, h11⟩ := h
  refine ⟨wb, lw, sb, x, _, _, h1, ⟨⟨_, h4⟩, Lve.none, ⟨fun i hi => absurd hi (Nat.not_lt_zero _), fun p s hl => ?_, fun i j hi => absurd hi (Nat.not_lt_zero _)⟩, ⟨fv, lv, pv, qv, _, _, by rw [h5, h7, h9]; exact h2⟩, h3, h11, fun i hi => absurd hi (Nat.not_lt_zero _), by rw [h5, h6]; exact hb⟩⟩
  rcases hl with ⟨g, k, i, ⟨e1, _⟩, _⟩ | ⟨q, k, e1, _⟩
  · cases e1
  · cases e1
theorem LW7.empty {w W wb lw sb x t fr ls S R} (L : LW7 w W wb lw sb x t fr ls S R 0) : ls = [] := by
  obtain ⟨h, o⟩ := L.so
  cases e : ls with
  | nil => rfl
  | cons a l =>
    exfalso
    obtain ⟨p, s, h1, _⟩ := o.thing L.lv (q := a.1) (k := a.2) (by rw [e]; exact List.mem_cons_self)
    exact L.none_deed p s h1
theorem leftL_nil (o : Nat) : ∀ r, leftL [] o r = 0
  | 0 => rfl
  | r + 1 => by
    rw [leftL, if_neg (by rintro ⟨⟩)]
    exact leftL_nil o r
/-- Between two deeds. -/
def EX7 (w : World) (wb lw sb n : Nat) (va : Option Addr) (vc : Nat) (W : World) : Prop := ∃ x t fr ls S R, LW7 w W wb lw sb x t fr ls S R n ∧ Bks W (.slice va n vc) n R
theorem EX7.kp {w wb lw sb n va vc W} (h : EX7 w wb lw sb n va vc W) : Kept none' w W := by
  obtain ⟨x, t, fr, ls, S, R, L, B⟩ := h
  exact L.po.pl.kp
theorem EX7.do {w wb lw sb n va vc W} (h : EX7 w wb lw sb n va vc W) (hn : n ≤ 1000) (op N wh : Int) (d : Bool) (hN2 : N ≤ 9223372036854775807) (hw2 : wh ≤ 9223372036854775807) :
    Calls Tryz.prog 23 #[.pointer (some ⟨wb, 0, none⟩), .slice va n vc, deV op N wh d] W fun e w' => ∃ va' vc' n', n' ≤ n + 1 ∧ e = .returned (.tuple #[.slice va' n' vc', .bool true]) ∧ EX7 w wb lw sb n' va' vc' w' := by
  obtain ⟨x, t, fr, ls, S, R, L, B⟩ := h
  refine (do7 L va vc hn B op N wh d hN2 hw2).mono ?_
  rintro e w' ⟨va', vc', n', R', x', t', fr', ls', S', rfl, L', B', ch, hR⟩
  refine ⟨va', vc', n', ?_, rfl, x', t', fr', ls', S', R', L', B'⟩
  rcases hR with ⟨h1, _⟩ | ⟨h1, _⟩ <;> omega
/-- The last block of the book is given back: its cells, and both calls. -/
theorem EX7.last {w wb lw sb n va vc W} (h : EX7 w wb lw sb (n + 1) va vc W) (hn : n + 1 ≤ 1000) : ∃ ga bp bs bm : Nat, va = some ⟨ga, 0, none⟩ ∧ W.cell? ⟨ga, n * 3, none⟩ = some (.int .u64 (bp : Int)) ∧ W.cell? ⟨ga, n * 3 + 1, none⟩ = some (.int .u64 (bs : Int)) ∧ W.cell? ⟨ga, n * 3 + 2, none⟩ = some (.int .u8 (bm : Int)) ∧
    Calls Tryz.prog 24 #[.pointer (some ⟨wb, 0, none⟩), bkV bp bs bm] W fun e w' => e = .returned (.bool true) ∧ Calls Tryz.prog 25 #[.slice va (n + 1) vc, .int .i64 (n : Int)] w' fun e w2 => ∃ va' vc', e = .returned (.slice va' n vc') ∧ EX7 w wb lw sb n va' vc' w2 := by
  obtain ⟨x, t, fr, ls, S, R, L, B⟩ := h
  obtain ⟨ga, hg, r0, r1, r2⟩ := B.get n (by omega)
  refine ⟨ga, (R n).p, (R n).s, (R n).mark, hg, r0, r1, r2, (gone7 L (d := n) (by omega)).mono ?_⟩
  rintro e w' ⟨rfl, g⟩
  refine ⟨rfl, (without7 va (n + 1) vc R hn n (by omega) w' (g.bks L B)).mono ?_⟩
  rintro e w2 ⟨va', vc', rfl, k2, gs, _⟩
  obtain ⟨x', t', fr', ls', S', L', ch, kp, no, ns⟩ := g
  exact ⟨va', vc', rfl, x', t', fr', ls', S', _, L'.keep k2, gs.own⟩
/-- All is given back: the regions go. -/
theorem EX7.end {w wb lw sb va vc W} (h : EX7 w wb lw sb 0 va vc W) : W.cell? ⟨wb, 3, none⟩ = some (.pointer (some ⟨lw, 0, none⟩)) ∧ ∃ i : Nat, Calls Tryz.prog 26 #[.pointer (some ⟨lw, 0, none⟩)] W fun e w' => e = .returned (.int .i64 (i : Int)) ∧ w'.cell? ⟨wb, 3, none⟩ = some (.pointer (some ⟨lw, 0, none⟩)) ∧ ∃ sp, (Calls Tryz.prog 27 #[.pointer (some ⟨lw, 0, none⟩)] w' fun e w3 => e = .returned (.pointer (some ⟨sp, 0, none⟩)) ∧ w3 = w') ∧ (Calls Tryz.prog 28 #[.pointer (some ⟨sp, 0, none⟩)] w' fun e w3 => e = .returned (.int .i64 0) ∧ Kept none' w w3) := by
  obtain ⟨x, t, fr, ls, S, R, L, B⟩ := h
  have he := L.empty
  subst he
  obtain ⟨rg, hrg, hrl, hxn, hR0⟩ := L.rg
  refine ⟨L.c.2.2.2.1, rg - leftL [] x.o rg, (L.trim hrg).mono ?_⟩
  rintro e w' ⟨rfl, x', t', fr', L', ch, ht, kp, hs⟩
  rw [leftL_nil] at ht
  refine ⟨rfl, L'.c.2.2.2.1, x'.s, Space6 L'.po.pl, (regions6 L'.po 0 ht).mono fun e w3 hh => ⟨hh.1, none_trans L'.po.pl.kp hh.2⟩⟩
/-- A slice's length. -/
def slN : Value → Nat
  | .slice _ n _ => n
  | _ => 0
set_option maxRecDepth 20000 in
set_option maxHeartbeats 20000000 in
theorem exactly7 (b0 : Nat) (hb64 : b0 < 18446744073709551616) (l0 o0 : Int) (l1 : -9223372036854775808 ≤ l0) (l2 : l0 ≤ 9223372036854775807) (o1 : -9223372036854775808 ≤ o0) (o2 : o0 ≤ 9223372036854775807) (oa : Option Addr) (m oc : Nat) (w : World) (hT : Tab w) (hS : DeedsIn w (.slice oa m oc) m) :
    Calls Tryz.prog 5 #[cfgV b0 l0 o0, .slice oa m oc] w fun e w' => e = .returned (.bool true) ∧ Kept none' w w' := by
  obtain ⟨hm, oa', oc', hsv, hD⟩ := hS
  injection hsv with e1 e2 e3
  subst e1 e3
  have HD := hid hD
  have K0 := hid ((Kept.refl none' w).alloc (cfgO b0 l0 o0))
  have X0 := hid (heap_new w (cfgO b0 l0 o0))
  have BG := hid (fun W (k : Kept none' w W) => begin7_any b0 hb64 l0 o0 l1 l2 o1 o2 W (fun i hi => k.cell (fun e => e) (hT i hi)))
  have LV := hid (fun W (k : Kept none' w W) => lives7 W (fun i hi => k.cell (fun e => e) (hT i hi)))
  clear hD hT
  go_enter Tryz.func5, Tryz.ntmps5
  obtain ⟨x0, x1, x2⟩ := cfg3 X0.out
  have BG0 := hid (BG.out _ K0.out)
  go_wp2_with fail
  refine BG0.out.mono ?_
  generalize w.alloc (cfgO b0 l0 o0) = W0 at *
  rintro e w1 ⟨base, lim, o, hbm, hB⟩
  obtain ⟨wb, lw, sb, x, t, fr, rfl, hL⟩ := Beg7.lw hbm hB
  have E1 := hid (show EX7 W0 wb lw sb 0 none 0 w1 from ⟨x, t, fr, [], S0, _, hL, ⟨rfl, .inl ⟨rfl, rfl⟩⟩⟩)
  have K1 := hid (none_trans K0.out hL.po.pl.kp)
  clear hbm hB hL x0 x1 x2 BG BG0 base lim o x t fr
  have LV1 := hid (LV.out _ K1.out)
  go_wp2_with fail
  refine LV1.out.mono ?_
  rintro e w2 ⟨rfl, hk⟩
  have E2 := hid (show EX7 W0 wb lw sb 0 none 0 w2 from by
    obtain ⟨x, t, fr, ls, S, R, L, B⟩ := E1.out
    exact ⟨x, t, fr, ls, S, R, L.keep hk, B.kept hk (fun _ _ e => e)⟩)
  clear hk LV LV1 E1 K1
  go_wp2_with fail
  go_loopw [6, 7, 8, 9] (fun s6 s7 _ _ W => ∃ (j n : Nat) (va : Option Addr) (vc : Nat), j ≤ m ∧ j ≤ 300 ∧ n ≤ j ∧ s6 = .slice va n vc ∧ s7 = .int .i64 (j : Int) ∧ Hid (EX7 W0 wb lw sb n va vc W)) (fun _ s7 _ _ _ => 300 - (intOf s7).toNat)
  case atStart => exact ⟨0, 0, none, 0, Nat.zero_le _, Nat.zero_le _, Nat.le_refl _, rfl, rfl, E2⟩
  case round =>
    clear E2
    obtain ⟨j, n, va, vc, hj, hj3, hnj, rfl, rfl, hE⟩ := hrel
    have K3 := hid (none_trans K0.out hE.out.kp)
    by_cases hlt : j < m ∧ j < 300
    · have h1 : (j : Int) < (m : Int) := by omega
      have h2 : (j : Int) < 300 := by omega
      have h3 : ((j : Int) < (m : Int)) = True := by simp [h1]
      rcases HD.out with h0 | ⟨bl, ob, hoa, hbl, hde⟩
      · omega
      · subst hoa
        obtain ⟨op, N, wh, d, n1, n2, n3, g0, g1, g2, g3⟩ := (hde j hlt.1).keep K3.out
        have DO := hid (hE.out.do (by omega) op N wh d n2.2 n3.2)
        have hj4 : j * 4 + ob < 9223372036854775808 ∨ True := .inr trivial
        clear hde n1 n2 n3 h3 hj4 HD
        go_wp2_with fail
        refine DO.out.mono ?_
        rintro e w4 ⟨va', vc', n', hn', rfl, hE'⟩
        have E4 := hid hE'
        clear hE' g0 g1 g2 g3 DO
        go_wp2_with fail
        exact ⟨⟨j + 1, n', va', vc', by omega, by omega, by omega, rfl, by simp, E4⟩, by simp [intOf]; omega⟩
    · have hn3 : n ≤ 300 := by omega
      have E5 := hid hE.out
      clear HD hE
      by_cases hc : j < m
      · have h1 : (j : Int) < (m : Int) := by omega
        have h2 : ¬ (j : Int) < 300 := by omega
        have h3 : decide ((j : Int) < (m : Int)) = true := decide_eq_true h1
        have h4 : decide (j < m) = true := decide_eq_true hc
        have h5 : decide ((j : Int) < 300) = false := decide_eq_false h2
        have h6 : decide (j < 300) = false := decide_eq_false (by omega)
        clear hlt hj hj3
        go_wp2_with fail
        go_loopw [6] (fun s6 W => ∃ (n : Nat) (va : Option Addr) (vc : Nat), n ≤ 300 ∧ s6 = .slice va n vc ∧ Hid (EX7 W0 wb lw sb n va vc W)) (fun s6 _ => slN s6)
        case atStart => exact ⟨n, va, vc, hn3, rfl, E5⟩
        case round =>
          clear E5
          obtain ⟨n, va, vc, hn3, rfl, hE⟩ := hrel
          cases n with
          | zero =>
            obtain ⟨c3, i, hT⟩ := hE.out.end
            have TR := hid hT
            clear hT
            go_wp2_with fail
            refine TR.out.mono ?_
            rintro e w5 ⟨rfl, d3, sp, h1, h2⟩
            have SP := hid h1
            have RG := hid h2
            clear h1 h2 c3 TR
            go_wp2_with fail
            refine SP.out.mono ?_
            rintro e w6 ⟨rfl, h1⟩
            replace h1 := h1.symm
            subst h1
            go_wp2_with fail
            refine RG.out.mono ?_
            rintro e w7 ⟨rfl, hk⟩
            have D := hid (none_trans K0.out hk)
            clear hk d3
            go_wp2_with fail
            go_ret
            exact ⟨rfl, D.out⟩
          | succ n =>
            obtain ⟨ga, bp, bs, bm, hga, r0, r1, r2, hG⟩ := hE.out.last (by omega)
            subst hga
            obtain ⟨N1, hN1⟩ : ∃ N1, N1 = n + 1 := ⟨_, rfl⟩
            rw [← hN1] at hG ⊢
            have GN := hid hG
            have f1 : (0 : Int) < (N1 : Int) := by omega
            have f2 : (N1 : Int) - 1 = (n : Int) := by omega
            have f3 : (n : Int) < (N1 : Int) := by omega
            have HN := hid hN1
            have hN2 : N1 ≤ 300 := by omega
            clear hG hN1 hE hn3
            go_wp2_with fail
            refine GN.out.mono ?_
            rintro e w5 ⟨rfl, hW⟩
            have WT := hid hW
            clear hW GN r0 r1 r2
            go_wp2_with fail
            refine WT.out.mono ?_
            rintro e w6 ⟨va', vc', rfl, hE'⟩
            have E6 := hid hE'
            clear hE' WT
            go_wp2_with fail
            exact ⟨⟨n, va', vc', by have := HN.out; omega, rfl, E6⟩, by simp [slN]; have := HN.out; omega⟩
      · have h1 : ¬ (j : Int) < (m : Int) := by omega
        have h2 : decide ((j : Int) < (m : Int)) = false := decide_eq_false h1
        have h3 : decide (j < m) = false := decide_eq_false hc
        clear hlt hj hc
        go_wp2_with fail
        go_loopw [6] (fun s6 W => ∃ (n : Nat) (va : Option Addr) (vc : Nat), n ≤ 300 ∧ s6 = .slice va n vc ∧ Hid (EX7 W0 wb lw sb n va vc W)) (fun s6 _ => slN s6)
        case atStart => exact ⟨n, va, vc, hn3, rfl, E5⟩
        case round =>
          clear E5
          obtain ⟨n, va, vc, hn3, rfl, hE⟩ := hrel
          cases n with
          | zero =>
            obtain ⟨c3, i, hT⟩ := hE.out.end
            have TR := hid hT
            clear hT
            go_wp2_with fail
            refine TR.out.mono ?_
            rintro e w5 ⟨rfl, d3, sp, h1, h2⟩
            have SP := hid h1
            have RG := hid h2
            clear h1 h2 c3 TR
            go_wp2_with fail
            refine SP.out.mono ?_
            rintro e w6 ⟨rfl, h1⟩
            replace h1 := h1.symm
            subst h1
            go_wp2_with fail
            refine RG.out.mono ?_
            rintro e w7 ⟨rfl, hk⟩
            have D := hid (none_trans K0.out hk)
            clear hk d3
            go_wp2_with fail
            go_ret
            exact ⟨rfl, D.out⟩
          | succ n =>
            obtain ⟨ga, bp, bs, bm, hga, r0, r1, r2, hG⟩ := hE.out.last (by omega)
            subst hga
            obtain ⟨N1, hN1⟩ : ∃ N1, N1 = n + 1 := ⟨_, rfl⟩
            rw [← hN1] at hG ⊢
            have GN := hid hG
            have f1 : (0 : Int) < (N1 : Int) := by omega
            have f2 : (N1 : Int) - 1 = (n : Int) := by omega
            have f3 : (n : Int) < (N1 : Int) := by omega
            have HN := hid hN1
            have hN2 : N1 ≤ 300 := by omega
            clear hG hN1 hE hn3
            go_wp2_with fail
            refine GN.out.mono ?_
            rintro e w5 ⟨rfl, hW⟩
            have WT := hid hW
            clear hW GN r0 r1 r2
            go_wp2_with fail
            refine WT.out.mono ?_
            rintro e w6 ⟨va', vc', rfl, hE'⟩
            have E6 := hid hE'
            clear hE' WT
            go_wp2_with fail
            exact ⟨⟨n, va', vc', by have := HN.out; omega, rfl, E6⟩, by simp [slN]; have := HN.out; omega⟩
end Go.Proofs.YtocpnddacdpnmaaGreatDoor
/- A Config that came in. -/
namespace Go.Proofs.YtocpnddacdpnmaaGreatDoor
open Go.ChangeShapes Go.WideShapes Go.ChangeAt Go.RowKit Go.Deep
set_option linter.unusedVariables false

theorem cells_u64 : Tryz.prog.cellsOf 24 = 1 := by kernel_rfl
theorem cells_int : Tryz.prog.cellsOf 3 = 1 := by kernel_rfl
set_option maxRecDepth 8000 in
theorem cfg_of {H : Type} {enc : TypeId × Value → H} {W : World} {base : Nat} {v : Value} {d : DataW H} {p : List MemPlace} (hok : Value.okWide Tryz.prog W .any base 26 v)
    (h : DataW.Trod enc Tryz.prog W 0 (fun _ => true) true 26 v d p) :
    ∃ (b : Nat) (lim ord : Int), v = .agg #[.int .u64 (b : Int), .int .i64 lim, .int .i64 ord] ∧ b < 18446744073709551616 ∧ -9223372036854775808 ≤ lim ∧ lim ≤ 9223372036854775807 ∧ -9223372036854775808 ≤ ord ∧ ord ≤ 9223372036854775807 := by
  obtain ⟨cs, rfl, _⟩ := okWide_struct Tryz.underlying26 hok
  obtain ⟨fuel, hf⟩ := h
  obtain ⟨y0, y1, y2, nn, _, hlen, g0, g1, g2⟩ := trod_struct3 Tryz.underlying26 hf
  obtain ⟨l⟩ := cs
  simp only [Value.cells] at hlen g0 g1 g2
  have hl3 : l.length = 3 := hlen.trans (by kernel_rfl)
  match l, hl3 with
  | [c0, c1, c2], _ =>
    rw [cells_u64] at g0
    rw [cells_int] at g1 g2
    obtain ⟨x, e0, _, w0⟩ := DataW.trod_int Tryz.underlying24 g0
    obtain ⟨y, e1, _, w1⟩ := DataW.trod_int Tryz.underlying3 g1
    obtain ⟨z, e2, _, w2⟩ := DataW.trod_int Tryz.underlying3 g2
    simp at e0 e1 e2
    subst e0 e1 e2
    have b0 := bounds_u64 w0
    have b1 := bounds_i64 w1
    have b2 := bounds_i64 w2
    obtain ⟨b, rfl⟩ := Int.eq_ofNat_of_zero_le b0.1
    exact ⟨b, y, z, rfl, by omega, b1.1, b1.2, b2.1, b2.2⟩
end Go.Proofs.YtocpnddacdpnmaaGreatDoor
