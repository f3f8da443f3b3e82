import Derived.Test.YtgjapopddblpoaaGreatDoorHqA
import Derived.Test.YtgjapopddblpoaaGreatDoorRgD
import Derived.ProofKit
import Derived.OpenShut
import Derived.Deep.Slices
import Derived.Deep.Strs
import Derived.Test.YtgjapopddblpoaaGreatDoorHpM
import Derived.Test.YtgjapopddblpoaaGreatDoorHpK3
/- croftlaw8: worked. -/
namespace Go.Proofs.YtgjapopddblpoaaGreatDoor
open Go.RowKit
open Go.MuLone
set_option linter.unusedVariables false

/-- A call of the script. -/
structure Ac8 where
  op : Int
  ref : Int
  p : Nat
  a : Nat
  b : Nat
  d : Bool
  sa : Option Addr
  sn : Nat
  sc : Nat
abbrev acV (c : Ac8) : Value := .agg #[.int .i64 c.op, .int .i64 c.ref, .int .u64 (c.p : Int), .int .u64 (c.a : Int), .int .u64 (c.b : Int), .bool c.d, .slice c.sa c.sn c.sc]
abbrev acO (c : Ac8) : Obj := .cells #[.int .i64 c.op, .int .i64 c.ref, .int .u64 (c.p : Int), .int .u64 (c.a : Int), .int .u64 (c.b : Int), .bool c.d, .slice c.sa c.sn c.sc] 66
abbrev clZ : Obj := .cells #[.int .i64 0, .int .u64 0, .int .u64 0, .int .u64 0, .bool false, .slice none 0 0] 63
theorem acc {W : World} {y : Nat} {c : Ac8} (h : W.heap[y]? = some (acO c)) : W.cell? ⟨y, 0, none⟩ = some (.int .i64 c.op) ∧ W.cell? ⟨y, 1, none⟩ = some (.int .i64 c.ref) ∧ W.cell? ⟨y, 2, none⟩ = some (.int .u64 (c.p : Int)) ∧ W.cell? ⟨y, 3, none⟩ = some (.int .u64 (c.a : Int)) ∧ W.cell? ⟨y, 4, none⟩ = some (.int .u64 (c.b : Int)) ∧ W.cell? ⟨y, 5, none⟩ = some (.bool c.d) ∧ W.cell? ⟨y, 6, none⟩ = some (.slice c.sa c.sn c.sc) := by
  refine ⟨?_, ?_, ?_, ?_, ?_, ?_, ?_⟩ <;> simp [World.cell?, h]
def nm8 (l : List Nat) : List Value := l.map (fun (n : Nat) => .int .u64 (n : Int))
/-- The address that is worked out. -/
def wkP (c : Ac8) (l : List Nat) : Nat := if 0 < c.ref ∧ c.ref ≤ (l.length : Int) then (c.p + l.getD (c.ref - 1).toNat 0) % 18446744073709551616 else c.p
def wkC (c : Ac8) (l : List Nat) : Cl8 := ⟨c.op, wkP c l, c.a, c.b, c.d, .slice c.sa c.sn c.sc⟩
theorem worked_no {W : World} {va : Option Addr} {n vc : Nat} (c : Ac8) (hr : ¬ (0 < c.ref ∧ c.ref ≤ (n : Int))) :
    Calls Tryz.prog 28 #[acV c, .slice va n vc] W fun e w' => e = .returned (clV ⟨c.op, c.p, c.a, c.b, c.d, .slice c.sa c.sn c.sc⟩) ∧ Kept none' W w' := by
  obtain ⟨x0, x1, x2, x3, x4, x5, x6⟩ := acc ((((Kept.refl none' (W.alloc (acO c))).alloc clZ).block _ (heap_lt (heap_new W (acO c))) (fun e => e)).trans (heap_new W (acO c)))
  have D := hid (((Kept.refl none' W).alloc (acO c)).alloc (clO ⟨c.op, c.p, c.a, c.b, c.d, .slice c.sa c.sn c.sc⟩))
  by_cases h0 : 0 < c.ref
  · have h1 : ¬ c.ref ≤ (n : Int) := fun e => hr ⟨h0, e⟩
    clear hr
    go_enter Tryz.func28, Tryz.ntmps28
    go_wp2_with fail
    exact ⟨rfl, clV ⟨c.op, c.p, c.a, c.b, c.d, .slice c.sa c.sn c.sc⟩, by simp [results, Tryz.results28, go_sem], rfl, D.out⟩
  · clear hr
    go_enter Tryz.func28, Tryz.ntmps28
    go_wp2_with fail
    exact ⟨rfl, clV ⟨c.op, c.p, c.a, c.b, c.d, .slice c.sa c.sn c.sc⟩, by simp [results, Tryz.results28, go_sem], rfl, D.out⟩
theorem worked_yes {W : World} {g n vc k u r : Nat} (c : Ac8) (hk : k < n) (hn : n ≤ 1000000) (hr : c.ref = (k : Int) + 1) (hu : W.cell? ⟨g, k, none⟩ = some (.int .u64 (u : Int))) (hr2 : r = (c.p + u) % 18446744073709551616) :
    Calls Tryz.prog 28 #[acV c, .slice (some ⟨g, 0, none⟩) n vc] W fun e w' => e = .returned (clV ⟨c.op, r, c.a, c.b, c.d, .slice c.sa c.sn c.sc⟩) ∧ Kept none' W w' := by
  have KA := ((Kept.refl none' W).alloc (acO c)).alloc clZ
  obtain ⟨x0, x1, x2, x3, x4, x5, x6⟩ := acc ((((Kept.refl none' (W.alloc (acO c))).alloc clZ).block _ (heap_lt (heap_new W (acO c))) (fun e => e)).trans (heap_new W (acO c)))
  have t0 := KA.cell (fun e => e) hu
  have D := hid (((Kept.refl none' W).alloc (acO c)).alloc (clO ⟨c.op, r, c.a, c.b, c.d, .slice c.sa c.sn c.sc⟩))
  have w1 : IntKind.u64.wrap ((c.p : Int) + (u : Int)) = (r : Int) := by rw [wrap_u64, hr2]; omega
  have h0 : 0 < c.ref := by omega
  have h1 : c.ref ≤ (n : Int) := by omega
  have h2 : c.ref - 1 = (k : Int) := by omega
  have h3 : (k : Int) < (n : Int) := by omega
  clear KA hu hr2 hr
  generalize c.ref = rf at *
  go_enter Tryz.func28, Tryz.ntmps28
  go_wp2_with fail
  exact ⟨rfl, clV ⟨c.op, r, c.a, c.b, c.d, .slice c.sa c.sn c.sc⟩, by simp [results, Tryz.results28, go_sem], rfl, D.out⟩
theorem worked_h {w0 W : World} {v : Value} {l : List Nat} (h : GS w0 W 27 1 v l.length (nm8 l)) (hl : l.length ≤ 1000000) (c : Ac8) :
    Calls Tryz.prog 28 #[acV c, v] W fun e w' => e = .returned (clV (wkC c l)) ∧ Kept none' W w' := by
  obtain ⟨va, vc, rfl⟩ := own_val h.own
  unfold wkC wkP
  by_cases hr : 0 < c.ref ∧ c.ref ≤ (l.length : Int)
  · rw [if_pos hr]
    have hk : (c.ref - 1).toNat < l.length := by omega
    have hg : (nm8 l)[(c.ref - 1).toNat]? = some (.int .u64 ((l.getD (c.ref - 1).toNat 0 : Nat) : Int)) := by
      unfold nm8
      rw [List.getElem?_map, List.getD_eq_getElem?_getD, List.getElem?_eq_getElem hk]
      rfl
    obtain ⟨g, rfl, hc⟩ := own_get h.own hg
    exact worked_yes c hk hl (by omega) hc rfl
  · rw [if_neg hr]
    exact worked_no c hr
end Go.Proofs.YtgjapopddblpoaaGreatDoor
/- A croftref11.Config that came in. (Off Cfa.) -/
namespace Go.Proofs.YtgjapopddblpoaaGreatDoor
open Go.ChangeShapes Go.WideShapes Go.ChangeAt Go.RowKit Go.Deep
set_option linter.unusedVariables false

theorem cells_u64 : Tryz.prog.cellsOf 27 = 1 := by kernel_rfl
theorem cells_int : Tryz.prog.cellsOf 3 = 1 := by kernel_rfl
set_option maxRecDepth 8000 in
theorem cfg8_of {H : Type} {enc : TypeId × Value → H} {W : World} {base : Nat} {v : Value} {d : DataW H} {p : List MemPlace} (hok : Value.okWide Tryz.prog W .any base 43 v)
    (h : DataW.Trod enc Tryz.prog W 0 (fun _ => true) true 43 v d p) :
    ∃ (b : Nat) (lim ord : Int), v = .agg #[.int .u64 (b : Int), .int .i64 lim, .int .i64 ord] ∧ b < 18446744073709551616 ∧ -9223372036854775808 ≤ lim ∧ lim ≤ 9223372036854775807 ∧ -9223372036854775808 ≤ ord ∧ ord ≤ 9223372036854775807 := by
  obtain ⟨cs, rfl, _⟩ := okWide_struct Tryz.underlying43 hok
  obtain ⟨fuel, hf⟩ := h
  obtain ⟨y0, y1, y2, nn, _, hlen, g0, g1, g2⟩ := trod_struct3 Tryz.underlying43 hf
  obtain ⟨l⟩ := cs
  simp only [Value.cells] at hlen g0 g1 g2
  have hl3 : l.length = 3 := hlen.trans (by kernel_rfl)
  match l, hl3 with
  | [c0, c1, c2], _ =>
    rw [cells_u64] at g0
    rw [cells_int] at g1 g2
    obtain ⟨x, e0, _, w0⟩ := DataW.trod_int Tryz.underlying27 g0
    obtain ⟨y, e1, _, w1⟩ := DataW.trod_int Tryz.underlying3 g1
    obtain ⟨z, e2, _, w2⟩ := DataW.trod_int Tryz.underlying3 g2
    simp at e0 e1 e2
    subst e0 e1 e2
    have b0 := bounds_u64 w0
    have b1 := bounds_i64 w1
    have b2 := bounds_i64 w2
    obtain ⟨b, rfl⟩ := Int.eq_ofNat_of_zero_le b0.1
    exact ⟨b, y, z, rfl, by omega, b1.1, b1.2, b2.1, b2.2⟩
theorem u64_of8 {a : Int} (h : (Lit.int .u64 a).wf = true) : ∃ n : Nat, a = (n : Int) ∧ n < 2 ^ 64 := by
  have b0 := bounds_u64 h
  obtain ⟨n, rfl⟩ := Int.eq_ofNat_of_zero_le b0.1
  exact ⟨n, rfl, by omega⟩

end Go.Proofs.YtgjapopddblpoaaGreatDoor
/- croftlaw8: the Script that came in. (Written by mk8r.py off RxR.) -/
namespace Go.Proofs.YtgjapopddblpoaaGreatDoor
open Go.ChangeShapes Go.WideShapes Go.ChangeAt Go.RowKit Go.Deep
set_option linter.unusedVariables false

/-- The cells of a call that came in. -/
structure CallIn (w : World) (bl o k : Nat) (c : Ac8) (g : Nat → Nat) : Prop where
  hp : c.p < 18446744073709551616
  ha : c.a < 18446744073709551616
  hb : c.b < 18446744073709551616
  hs : c.sn ≤ c.sc
  hc : c.sc ≤ 9223372036854775807
  by' : M.Bytes w (.slice c.sa c.sn c.sc) c.sn g
  c0 : w.cell? ⟨bl, o + k * 7 + 0, none⟩ = some (.int .i64 c.op)
  c1 : w.cell? ⟨bl, o + k * 7 + 1, none⟩ = some (.int .i64 c.ref)
  c2 : w.cell? ⟨bl, o + k * 7 + 2, none⟩ = some (.int .u64 (c.p : Int))
  c3 : w.cell? ⟨bl, o + k * 7 + 3, none⟩ = some (.int .u64 (c.a : Int))
  c4 : w.cell? ⟨bl, o + k * 7 + 4, none⟩ = some (.int .u64 (c.b : Int))
  c5 : w.cell? ⟨bl, o + k * 7 + 5, none⟩ = some (.bool c.d)
  c6 : w.cell? ⟨bl, o + k * 7 + 6, none⟩ = some (.slice c.sa c.sn c.sc)
/-- The calls that came in. -/
def Calls8 (w : World) (v : Value) (m : Nat) : Prop :=
  m ≤ 9223372036854775807 ∧ ∃ oa oc, v = .slice oa m oc ∧ (m = 0 ∨ ∃ bl o, oa = some ⟨bl, o, none⟩ ∧ bl < w.heap.size ∧ ∀ k, k < m → ∃ c g, CallIn w bl o k c g)
theorem CallIn.keep {w W : World} {bl o k : Nat} {c : Ac8} {g : Nat → Nat} (h : CallIn w bl o k c g) (kp : Kept none' w W) : CallIn W bl o k c g :=
  ⟨h.hp, h.ha, h.hb, h.hs, h.hc, h.by'.keep (ofK kp), kp.cell (fun e => e) h.c0, kp.cell (fun e => e) h.c1, kp.cell (fun e => e) h.c2, kp.cell (fun e => e) h.c3, kp.cell (fun e => e) h.c4, kp.cell (fun e => e) h.c5, kp.cell (fun e => e) h.c6⟩
theorem cells_op : Tryz.prog.cellsOf 66 = 7 := by kernel_rfl
theorem cells1_u64 : Tryz.prog.cellsOf 27 = 1 := by kernel_rfl
theorem cells1_int : Tryz.prog.cellsOf 3 = 1 := by kernel_rfl
theorem cells1_bool : Tryz.prog.cellsOf 4 = 1 := by kernel_rfl
theorem cells1_bytes : Tryz.prog.cellsOf 61 = 1 := by kernel_rfl
theorem cell_spot {w : World} {a : Addr} {v : Value} (h : w.cell? a = some v) : ∃ b o, a = ⟨b, o, none⟩ ∧ b < w.heap.size := by
  obtain ⟨b, o, s⟩ := a
  unfold World.cell? at h
  split at h
  · rename_i hh
    have hb := (Array.getElem?_eq_some_iff.1 hh).1
    cases s with
    | none => exact ⟨b, o, rfl, hb⟩
    | some s => simp at h
  · cases h
theorem wf_u64 {x : Int} (h : (Lit.int .u64 x).wf = true) : 0 ≤ x ∧ x < 18446744073709551616 := by
  simp [Lit.wf, show IntKind.u64.min = 0 from rfl, show IntKind.u64.max = 18446744073709551615 from rfl] at h
  omega
theorem wf_u8 {x : Int} (h : (Lit.int .u8 x).wf = true) : 0 ≤ x ∧ x < 256 := by
  simp [Lit.wf, show IntKind.u8.min = 0 from rfl, show IntKind.u8.max = 255 from rfl] at h
  omega
theorem bytes_in {w : World} {x : Addr} {l c : Nat} {zs : List Int} (hl : l ≤ c) (hz : zs.length = c) (hcell : ∀ i, i < zs.length → w.cell? (x.add i) = some (.int .u8 (zs.getD i 0))) (hwz : ∀ n ∈ zs, (Lit.int .u8 n).wf = true) : ∃ g, M.Bytes w (.slice (some x) l c) l g := by
  have hb : ∀ i, i < zs.length → 0 ≤ zs.getD i 0 ∧ zs.getD i 0 < 256 := fun i hi => by
    rw [List.getD_eq_getElem?_getD, List.getElem?_eq_getElem hi]
    exact wf_u8 (hwz _ (List.getElem_mem hi))
  refine ⟨fun i => (zs.getD i 0).toNat, fun i hi => ?_, some x, c, rfl, ?_⟩
  · have := hb i (by omega)
    show (zs.getD i 0).toNat < 256
    omega
  · rcases Nat.eq_zero_or_pos l with h0 | h0
    · exact .inl h0
    · have c0 := hcell 0 (by omega)
      obtain ⟨b, o, e, hlt⟩ := cell_spot c0
      have hxb : x.block = b := by
        have := congrArg Addr.block e
        rw [M.addr_add_block] at this
        exact this
      refine .inr ⟨x, rfl, by rw [hxb]; exact hlt, fun j hj => ?_⟩
      have := hb j (by omega)
      rw [hcell j (by omega), Int.toNat_of_nonneg this.1]
set_option maxRecDepth 4000 in
theorem calls_of {H : Type} {enc : TypeId × Value → H} {W : World} {a : Option Addr} {len cap : Nat} {d : DataW H} {p : List MemPlace}
    {fuel : Nat} (hf : DataW.trod enc Tryz.prog W 0 (fun _ => true) true fuel 44 [.slice a len cap] = some (d, p)) : Calls8 W (.slice a len cap) len := by
  rcases open_slice Tryz.underlying44 hf with ⟨hcs, _⟩ | ⟨x, l, c, m, n, D, Pl, hcs, _, hl, hm, hmm, _, hx⟩
  · simp at hcs
    obtain ⟨rfl, rfl, rfl⟩ := hcs
    exact ⟨by omega, none, 0, rfl, Or.inl rfl⟩
  · simp at hcs
    obtain ⟨rfl, rfl, rfl⟩ := hcs
    simp only [if_true] at hmm
    subst hmm
    have hml : m ≤ 9223372036854775807 := by unfold maxLen at hm; omega
    refine ⟨by omega, some x, m, rfl, ?_⟩
    by_cases h0 : len = 0
    · exact Or.inl h0
    · right
      rw [cells_op] at hx
      have key : ∀ k, k < len → ∃ (op rf : Int) (P A B : Nat) (dn : Bool) (ao : Option Addr) (dm dc : Nat) (g : Nat → Nat), P < 18446744073709551616 ∧ A < 18446744073709551616 ∧ B < 18446744073709551616 ∧ dm ≤ dc ∧ dc ≤ 9223372036854775807 ∧ M.Bytes W (.slice ao dm dc) dm g ∧
          W.cell? ((x.add (k * 7)).add 0) = some (.int .i64 op) ∧ W.cell? ((x.add (k * 7)).add 1) = some (.int .i64 rf) ∧ W.cell? ((x.add (k * 7)).add 2) = some (.int .u64 (P : Int)) ∧ W.cell? ((x.add (k * 7)).add 3) = some (.int .u64 (A : Int)) ∧ W.cell? ((x.add (k * 7)).add 4) = some (.int .u64 (B : Int)) ∧ W.cell? ((x.add (k * 7)).add 5) = some (.bool dn) ∧ W.cell? ((x.add (k * 7)).add 6) = some (.slice ao dm dc) := by
        intro k hk
        obtain ⟨cs, h1, h2⟩ := hx k (by omega)
        obtain ⟨_, hlen, hcell⟩ := World.cells?_some h1
        obtain ⟨xs, nn, _, _, _, hxl, hfld⟩ := DataW.trod_struct Tryz.underlying66 h2
        match cs, hlen, xs, hxl with
        | [c0, c1, c2, c3, c4, c5, c6], _, [y0, y1, y2, y3, y4, y5, y6], _ =>
          have g0 := hfld 0 _ rfl
          have g1 := hfld 1 _ rfl
          have g2 := hfld 2 _ rfl
          have g3 := hfld 3 _ rfl
          have g4 := hfld 4 _ rfl
          have g5 := hfld 5 _ rfl
          have g6 := hfld 6 _ rfl
          obtain ⟨x0, e0, _, _⟩ := DataW.trod_int Tryz.underlying3 g0
          obtain ⟨x1, e1, _, _⟩ := DataW.trod_int Tryz.underlying3 g1
          obtain ⟨x2, e2, _, w2⟩ := DataW.trod_int Tryz.underlying27 g2
          obtain ⟨x3, e3, _, w3⟩ := DataW.trod_int Tryz.underlying27 g3
          obtain ⟨x4, e4, _, w4⟩ := DataW.trod_int Tryz.underlying27 g4
          obtain ⟨x5, e5, _⟩ := DataW.trod_bool Tryz.underlying4 g5
          simp [cells1_u64, cells1_int, cells1_bool] at e0 e1 e2 e3 e4 e5
          subst e0 e1 e2 e3 e4 e5
          have b2 := wf_u64 w2
          have b3 := wf_u64 w3
          have b4 := wf_u64 w4
          obtain ⟨P, rfl⟩ := Int.eq_ofNat_of_zero_le b2.1
          obtain ⟨A, rfl⟩ := Int.eq_ofNat_of_zero_le b3.1
          obtain ⟨B, rfl⟩ := Int.eq_ofNat_of_zero_le b4.1
          have hrow : ∃ da dm dc gg, c6 = .slice da dm dc ∧ dm ≤ dc ∧ dc ≤ maxLen ∧ M.Bytes W (.slice da dm dc) dm gg := by
            rcases open_ints Tryz.underlying61 Tryz.underlying5 (by kernel_rfl) g6 with ⟨hcs, _⟩ | ⟨x, l, c, zs, hcs, _, hl, hm, hz, _, hcell, hwz⟩
            · simp [cells1_bytes] at hcs
              exact ⟨none, 0, 0, fun _ => 0, hcs, Nat.le_refl _, Nat.zero_le _, fun i hi => by omega, none, 0, rfl, .inl rfl⟩
            · simp [cells1_bytes] at hcs
              obtain ⟨gg, h3⟩ := bytes_in (w := W) (x := x) (l := l) (c := c) (zs := zs) hl (by simpa using hz) hcell hwz
              exact ⟨some x, l, c, gg, hcs, hl, hm, h3⟩
          obtain ⟨da, dm, dc, gg, rfl, hdm, hdc, hbt⟩ := hrow
          unfold maxLen at hdc
          exact ⟨x0, x1, P, A, B, x5, da, dm, dc, gg, by omega, by omega, by omega, hdm, by omega, hbt, hcell 0 (by simp), hcell 1 (by simp), hcell 2 (by simp), hcell 3 (by simp), hcell 4 (by simp), hcell 5 (by simp), hcell 6 (by simp)⟩
      obtain ⟨op, rf, P, A, B, dn, ao, dm, dc, g, _, _, _, _, _, _, g0, _⟩ := key 0 (by omega)
      have e0 : (x.add (0 * 7)).add 0 = x := by simp [Addr.add]
      rw [e0] at g0
      obtain ⟨b, o, rfl, hb⟩ := cell_spot g0
      refine ⟨b, o, rfl, hb, fun k hk => ?_⟩
      obtain ⟨op, rf, P, A, B, dn, ao, dm, dc, g, h1, h2, h3, h4, h5, h6, g0, g1, g2, g3, g4, g5, g6⟩ := key k hk
      rw [Addr.add_lit, Addr.add_lit] at g0 g1 g2 g3 g4 g5 g6
      exact ⟨⟨op, rf, P, A, B, dn, ao, dm, dc⟩, g, ⟨h1, h2, h3, h4, h5, h6, g0, g1, g2, g3, g4, g5, g6⟩⟩
theorem cells_cfg8 : Tryz.prog.cellsOf 43 = 3 := by kernel_rfl
theorem cells_calls : Tryz.prog.cellsOf 44 = 1 := by kernel_rfl
set_option maxRecDepth 8000 in
theorem script_of {H : Type} {enc : TypeId × Value → H} {W : World} {base : Nat} {v : Value} {d : DataW H} {p : List MemPlace} (hok : Value.okWide Tryz.prog W .any base 46 v)
    (h : DataW.Trod enc Tryz.prog W 0 (fun _ => true) true 46 v d p) :
    ∃ (b : Nat) (lim ord : Int) (sv : Value) (m : Nat), v = .agg #[.int .u64 (b : Int), .int .i64 lim, .int .i64 ord, sv] ∧ b < 18446744073709551616 ∧ -9223372036854775808 ≤ lim ∧ lim ≤ 9223372036854775807 ∧ -9223372036854775808 ≤ ord ∧ ord ≤ 9223372036854775807 ∧ Calls8 W sv m := by
  obtain ⟨cs, rfl, _⟩ := okWide_struct Tryz.underlying46 hok
  obtain ⟨fuel, hf⟩ := h
  obtain ⟨y0, y1, nn, _, hlen, g0, g1⟩ := trod_struct2 Tryz.underlying46 hf
  obtain ⟨l⟩ := cs
  simp only [Value.cells] at hlen g0 g1
  have hl4 : l.length = 4 := hlen.trans (by kernel_rfl)
  match l, hl4 with
  | [c0, c1, c2, c3], _ =>
    rw [cells_cfg8] at g0
    rw [cells_calls] at g1
    obtain ⟨z0, z1, z2, nn', _, hlen', f0, f1, f2⟩ := trod_struct3 Tryz.underlying43 g0
    rw [cells_u64] at f0
    rw [cells_int] at f1 f2
    obtain ⟨x, e0, _, w0⟩ := DataW.trod_int Tryz.underlying27 f0
    obtain ⟨y, e1, _, w1⟩ := DataW.trod_int Tryz.underlying3 f1
    obtain ⟨z, e2, _, w2⟩ := DataW.trod_int Tryz.underlying3 f2
    simp at e0 e1 e2
    subst e0 e1 e2
    have b0 := bounds_u64 w0
    have b1 := bounds_i64 w1
    have b2 := bounds_i64 w2
    obtain ⟨b, rfl⟩ := Int.eq_ofNat_of_zero_le b0.1
    rcases open_slice Tryz.underlying44 g1 with ⟨hcs, _⟩ | ⟨x, l, c, m, n, D, Pl, hcs, _, hl, hm, hmm, _, hx⟩
    · simp at hcs
      subst hcs
      exact ⟨b, y, z, _, _, rfl, by omega, b1.1, b1.2, b2.1, b2.2, calls_of g1⟩
    · simp at hcs
      subst hcs
      exact ⟨b, y, z, _, _, rfl, by omega, b1.1, b1.2, b2.1, b2.2, calls_of g1⟩
end Go.Proofs.YtgjapopddblpoaaGreatDoor
/- HeapEmpty: the heap beside the row of what was told; a call of the script. -/
namespace Go.Proofs.YtgjapopddblpoaaGreatDoor
open Go.RowKit
open Go.MuLone
set_option linter.unusedVariables false

/-- A call has been made on the heap. -/
def Go8 (w W W' : World) (hb sb lw : Nat) (x : Bx) (t : Bt) (ls : List (Nat × Nat)) (S : Sb) : Prop := ∃ x' t' fr' ls' S', Nx w W W' hb sb lw x t ls S 0 x' t' fr' ls' S'
section
variable {w W W' : World} {hb sb lw : Nat} {x : Bx} {t : Bt} {fr : Nat → List Nat} {ls : List (Nat × Nat)} {S : Sb}
theorem HW.go0 (H : HW w W hb sb lw x t fr ls S 0) (k : Kept none' W W') : Go8 w W W' hb sb lw x t ls S :=
  ⟨x, t, fr, ls, S, ⟨H.keep k, ⟨rfl, rfl, rfl, rfl, fun _ _ _ => rfl⟩, k.mono (fun _ _ e => e.elim), fun y hy => .inl hy⟩⟩
theorem Nx.plt {x' : Bx} {t' : Bt} {fr' : Nat → List Nat} {ls' : List (Nat × Nat)} {S' : Sb} (n : Nx w W W' hb sb lw x t ls S 0 x' t' fr' ls' S') {p z : Nat} (hl : Lth x' ls' S' p z) : p < 18446744073709551616 := by
  obtain ⟨h, o⟩ := n.H.so
  have h1 := o.inside hl
  have n4 := o.po.nums.2.2.2.1
  omega
theorem Tq.go {r : Nat} {d : Bool} {p : Nat} {er : Int} (H : HW w W hb sb lw x t fr ls S 0) (h : Tq w W hb sb lw x t fr ls S 0 r d p er W') : Go8 w W W' hb sb lw x t ls S ∧ p < 18446744073709551616 := by
  cases h with
  | no hp he nf hd kp => exact ⟨H.go0 kp, by omega⟩
  | yes x' t' fr' ls' S' b he td nx hL hN hn hm hb1 hb2 => exact ⟨⟨x', t', fr', ls', S', nx⟩, nx.plt ((hL _ _).2 (.inr ⟨rfl, rfl⟩))⟩
theorem Rq8.go {m : Nat} {d : Bool} {p : Nat} {er : Int} (H : HW w W hb sb lw x t fr ls S 0) (h : Rq8 w W hb sb lw x t fr ls S 0 m d p er W') : Go8 w W W' hb sb lw x t ls S ∧ p < 18446744073709551616 := by
  cases h with
  | big ho hp he kp => exact ⟨H.go0 kp, by omega⟩
  | ok ho hT => exact hT.go H
theorem Cz.go {m : Nat} {d : Bool} {p : Nat} {er : Int} (H : HW w W hb sb lw x t fr ls S 0) (h : Cz w W hb sb lw x t fr ls S 0 m d p er W') : Go8 w W W' hb sb lw x t ls S ∧ p < 18446744073709551616 := by
  cases h with
  | big ho hp he kp => exact ⟨H.go0 kp, by omega⟩
  | no ho hp he nf hd kp => exact ⟨H.go0 kp, by omega⟩
  | yes ho x' t' fr' ls' S' b he td nx hL hN hn hm hb1 hb2 hz => exact ⟨⟨x', t', fr', ls', S', nx⟩, nx.plt ((hL _ _).2 (.inr ⟨rfl, rfl⟩))⟩
theorem Rl.go {p m : Nat} {d : Bool} {p' : Nat} {er : Int} (hp64 : p < 18446744073709551616) (H : HW w W hb sb lw x t fr ls S 0) (h : Rl w W hb sb lw x t fr ls S 0 p m d p' er W') : Go8 w W W' hb sb lw x t ls S ∧ p' < 18446744073709551616 := by
  cases h with
  | nil hp h => exact h.go H
  | bad hp hl hp' he kp => exact ⟨H.go0 kp, by omega⟩
  | big z hp hl ho hp' he kp => exact ⟨H.go0 kp, by omega⟩
  | same hp ho hl hp' he kp => exact ⟨H.go0 kp, by omega⟩
  | shr z hp ho hl h1 h2 hp' he hS =>
    obtain ⟨t', q, k, j, _, _, _, _, _, _, nx, _⟩ := hS
    exact ⟨⟨_, _, _, _, _, nx⟩, by omega⟩
  | mov z hp ho hl hne h1 hM =>
    cases hM with
    | no hp he nf hd kp => exact ⟨H.go0 kp, by omega⟩
    | yes x' t' fr' ls' S' b he nx hL hN hn hm hb1 hb2 cp => exact ⟨⟨x', t', fr', ls', S', nx⟩, nx.plt ((hL _ _).2 (.inr ⟨rfl, rfl⟩))⟩
theorem Fq.go {p : Nat} {er : Int} (H : HW w W hb sb lw x t fr ls S 0) (h : Fq w W hb sb lw x t fr ls S 0 p er W') : Go8 w W W' hb sb lw x t ls S := by
  cases h with
  | nil hp he kp => exact H.go0 kp
  | bad hp hl he kp => exact H.go0 kp
  | ok z hp hl he hG =>
    obtain ⟨x', t', fr', ls', S', _, nx, _⟩ := hG
    exact ⟨x', t', fr', ls', S', nx⟩
theorem sn_pty : ¬ Go.Proofs.YtgjapopddblpoaaGreatDoor.pty 69 ∧ 69 ≠ 135 ∧ 69 ≠ 91 := by unfold Go.Proofs.YtgjapopddblpoaaGreatDoor.pty; decide
theorem HW.sny (H : HW w W hb sb lw x t fr ls S 0) {y : Nat} {cs : Array Value} {z : Nat × Nat} (hy : W.heap[y]? = some (.cells cs 69 z)) : ¬ sown x sb y := by
  obtain ⟨h, o⟩ := H.so
  rintro (e | e)
  · exact sn_pty.1 (o.sw.pl.pty hy (.inl e))
  · subst e
    exact absurd (ty_ne' hy o.sw.bx) (by decide)
end
/-- The heap beside the row of what was told. -/
structure EI (w1 W : World) (hb base lim o R : Nat) (lr : List Nat) (v : Value) : Prop where
  ex : ∃ sb lw x t fr ls S, HW w1 W hb sb lw x t fr ls S 0 ∧ x.base = base ∧ x.lim = lim ∧ x.o = o ∧ x.R = R ∧ ∀ g, v.ownBlock = some g → g < W.heap.size ∧ ¬ sown x sb g ∧ g ≠ hb
  gs : GS w1 W 27 1 v lr.length (nm8 lr)
theorem GS.kept8 {w W W' : World} {e : TypeId} {v : Value} {n : Nat} {xs : List Value} (h : GS w W e 1 v n xs) (k : Kept none' w W') (hE : ∀ y, v.ownBlock = some y → W'.heap[y]? = W.heap[y]?) : GS w W' e 1 v n xs := by
  refine ⟨⟨h.own.1, ?_⟩, h.new, k⟩
  rcases h.own.2 with h0 | ⟨g, cap, cur, rfl, hb, hg, h3⟩
  · exact .inl h0
  · exact .inr ⟨g, cap, cur, rfl, hb, (hE g (by simp [Value.ownBlock])).trans hg, h3⟩
section
variable {w1 W W' : World} {hb base lim o R : Nat} {lr : List Nat} {v : Value}
theorem EI.keep (T : EI w1 W hb base lim o R lr v) (k : Kept none' W W') : EI w1 W' hb base lim o R lr v := by
  obtain ⟨⟨sb, lw, x, t, fr, ls, S, H, e1, e2, e3, e4, e6⟩, G⟩ := T
  exact ⟨⟨sb, lw, x, t, fr, ls, S, H.keep k, e1, e2, e3, e4, fun g hg => ⟨Nat.lt_of_lt_of_le (e6 g hg).1 k.size, (e6 g hg).2⟩⟩, G.keep k⟩
theorem EI.go {sb lw : Nat} {x : Bx} {t : Bt} {fr : Nat → List Nat} {ls : List (Nat × Nat)} {S : Sb} (H : HW w1 W hb sb lw x t fr ls S 0) (G : GS w1 W 27 1 v lr.length (nm8 lr)) (hv : ∀ g, v.ownBlock = some g → g < W.heap.size ∧ ¬ sown x sb g ∧ g ≠ hb) (e1 : x.base = base) (e2 : x.lim = lim) (e3 : x.o = o) (e4 : x.R = R) (h : Go8 w1 W W' hb sb lw x t ls S) : EI w1 W' hb base lim o R lr v := by
  obtain ⟨x', t', fr', ls', S', nx⟩ := h
  refine ⟨⟨sb, lw, x', t', fr', ls', S', nx.H, nx.ch.base.trans e1, nx.ch.lim.trans e2, nx.ch.o.trans e3, nx.ch.R.trans e4, fun g hg => ?_⟩, ?_⟩
  · obtain ⟨a1, a2, a3⟩ := hv g hg
    exact ⟨Nat.lt_of_lt_of_le a1 nx.kp.size, fun e => (nx.ns g e).elim a2 (fun e2 => by omega), a3⟩
  · exact G.kept8 nx.H.po.pl.kp (fun y hy => nx.kp.block y (hv y hy).1 (hv y hy).2.1)
/-- An answer's box is written. -/
theorem EI.oth (T : EI w1 W hb base lim o R lr v) {y0 : Nat} {cs : Array Value} {z : Nat × Nat} (hy : W.heap[y0]? = some (.cells cs 69 z)) (hn : w1.heap.size ≤ y0) (k : Kept (fun y => y = y0) W W') : EI w1 W' hb base lim o R lr v := by
  obtain ⟨⟨sb, lw, x, t, fr, ls, S, H, e1, e2, e3, e4, e6⟩, G⟩ := T
  have H2 := H.other hy hn sn_pty.1 sn_pty.2.1 sn_pty.2.2 k
  refine ⟨⟨sb, lw, x, t, fr, ls, S, H2, e1, e2, e3, e4, fun g hg => ⟨Nat.lt_of_lt_of_le (e6 g hg).1 k.size, (e6 g hg).2⟩⟩, G.kept8 H2.po.pl.kp (fun y hy2 => k.block y (e6 y hy2).1 (fun e => ?_))⟩
  subst e
  obtain ⟨cs', hcs⟩ := own_ty G.own hy2
  rw [hy] at hcs
  simp at hcs
/-- done: a call that gives a block, or Free. -/
theorem EI.done (T : EI w1 W hb base lim o R lr v) (c : Cl8) (hop : c.op = 1 ∨ c.op = 2 ∨ c.op = 3 ∨ c.op = 4 ∨ c.op = 5) (hp : c.p < 18446744073709551616) (ha : c.a < 18446744073709551616) (hb' : c.b < 18446744073709551616) :
    Calls Tryz.prog 30 #[.pointer (some ⟨hb, 0, none⟩), clV c] W fun e w' => ∃ er p, e = .returned (snV er p) ∧ p < 18446744073709551616 ∧ EI w1 w' hb base lim o R lr v := by
  have kA : Kept none' W (dnW W c) := ((Kept.refl none' W).alloc (clO c)).alloc snZ
  have X1 : (dnW W c).heap[W.heap.size + 1]? = some snZ := by
    have := heap_new (W.alloc (clO c)) snZ
    rwa [World.size_alloc] at this
  have hwn : w1.heap.size ≤ W.heap.size + 1 := Nat.le_succ_of_le T.gs.kp.size
  obtain ⟨⟨sb, lw, x, t, fr, ls, S, H, e1, e2, e3, e4, e6⟩, G⟩ := T.keep kA
  have box : ∀ w2, Go8 w1 (dnW W c) w2 hb sb lw x t ls S → w2.heap[W.heap.size + 1]? = some snZ := fun w2 h => by
    obtain ⟨x', t', fr', ls', S', nx⟩ := h
    exact (nx.kp.block _ (heap_lt X1) (H.sny X1)).trans X1
  have fin : ∀ w2 w', Go8 w1 (dnW W c) w2 hb sb lw x t ls S → Kept (fun y => y = W.heap.size + 1) w2 w' → EI w1 w' hb base lim o R lr v := fun w2 w' h k => (EI.go H G e6 e1 e2 e3 e4 h).oth (box w2 h) hwn k
  rcases hop with h | h | h | h | h
  · refine (done_1 h (R := fun p _ w2 => p < 18446744073709551616 ∧ Go8 w1 (dnW W c) w2 hb sb lw x t ls S) ((Malloc_h H c.a ha c.d _ rfl).mono ?_)).mono ?_
    · rintro e w2 ⟨p, er, rfl, hR⟩
      obtain ⟨g1, g2⟩ := hR.go H
      exact ⟨p, er, rfl, g2, box _ g1, g2, g1⟩
    · rintro e w' ⟨p, er, w2, rfl, ⟨g1, g2⟩, k⟩
      exact ⟨er, p, rfl, g1, fin _ _ g2 k⟩
  · refine (done_2 h (R := fun p _ w2 => p < 18446744073709551616 ∧ Go8 w1 (dnW W c) w2 hb sb lw x t ls S) ?_).mono ?_
    · by_cases hpr : c.a * c.b < 18446744073709551616
      · refine (Calloc_h H c.a c.b ha hb' c.d hpr _ rfl).mono ?_
        rintro e w2 ⟨p, er, rfl, hR⟩
        obtain ⟨g1, g2⟩ := hR.go H
        exact ⟨p, er, rfl, g2, box _ g1, g2, g1⟩
      · have h0 : c.a ≠ 0 := fun e => by rw [e, Nat.zero_mul] at hpr; omega
        refine (Calloc_over H c.a c.b ha hb' c.d h0 ?_).mono ?_
        · rw [Nat.div_lt_iff_lt_mul (Nat.pos_of_ne_zero h0), Nat.mul_comm]
          omega
        · rintro e w2 ⟨rfl, kp⟩
          exact ⟨0, 3, rfl, by decide, box _ (H.go0 kp), by decide, H.go0 kp⟩
    · rintro e w' ⟨p, er, w2, rfl, ⟨g1, g2⟩, k⟩
      exact ⟨er, p, rfl, g1, fin _ _ g2 k⟩
  · refine (done_3 h (R := fun p _ w2 => p < 18446744073709551616 ∧ Go8 w1 (dnW W c) w2 hb sb lw x t ls S) ?_).mono ?_
    · cases hP : isP c.a with
      | true =>
        refine (Aligned_h H c.a c.b ha hb' c.d hP _ rfl).mono ?_
        rintro e w2 ⟨p, er, rfl, hR⟩
        obtain ⟨g1, g2⟩ := hR.go H
        exact ⟨p, er, rfl, g2, box _ g1, g2, g1⟩
      | false =>
        refine (Aligned_bad H c.a c.b ha hb' c.d hP).mono ?_
        rintro e w2 ⟨rfl, kp⟩
        exact ⟨0, 1, rfl, by decide, box _ (H.go0 kp), by decide, H.go0 kp⟩
    · rintro e w' ⟨p, er, w2, rfl, ⟨g1, g2⟩, k⟩
      exact ⟨er, p, rfl, g1, fin _ _ g2 k⟩
  · refine (done_4 h (R := fun p _ w2 => p < 18446744073709551616 ∧ Go8 w1 (dnW W c) w2 hb sb lw x t ls S) ((Realloc_h H c.p c.a hp ha c.d _ rfl).mono ?_)).mono ?_
    · rintro e w2 ⟨p, er, rfl, hR⟩
      obtain ⟨g1, g2⟩ := hR.go hp H
      exact ⟨p, er, rfl, g2, box _ g1, g2, g1⟩
    · rintro e w' ⟨p, er, w2, rfl, ⟨g1, g2⟩, k⟩
      exact ⟨er, p, rfl, g1, fin _ _ g2 k⟩
  · refine (done_5 h (R := fun _ w2 => Go8 w1 (dnW W c) w2 hb sb lw x t ls S) ((Free_h H c.p hp).mono ?_)).mono ?_
    · rintro e w2 ⟨er, rfl, hR⟩
      exact ⟨er, rfl, box _ (hR.go H), hR.go H⟩
    · rintro e w' ⟨er, w2, rfl, g2, k⟩
      exact ⟨er, 0, rfl, by decide, fin _ _ g2 k⟩
end
end Go.Proofs.YtgjapopddblpoaaGreatDoor
