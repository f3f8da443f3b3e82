import Derived.Test.YtgjapopddblpoaaGreatDoorRi
/- croftlaw8: number, gives, done (by kind, over any contract of the heap's call). -/
namespace Go.Proofs.YtgjapopddblpoaaGreatDoor
open Go.RowKit
open Go.MuLone
set_option linter.unusedVariables false

/-- A call as the law works with it. -/
structure Cl8 where
  op : Int
  p : Nat
  a : Nat
  b : Nat
  d : Bool
  v : Value
abbrev clV (c : Cl8) : Value := .agg #[.int .i64 c.op, .int .u64 (c.p : Int), .int .u64 (c.a : Int), .int .u64 (c.b : Int), .bool c.d, c.v]
abbrev clO (c : Cl8) : Obj := .cells #[.int .i64 c.op, .int .u64 (c.p : Int), .int .u64 (c.a : Int), .int .u64 (c.b : Int), .bool c.d, c.v] 63
abbrev snV (e : Int) (v : Nat) : Value := .agg #[.int .i64 e, .int .u64 (v : Int), .slice none 0 0, .int .u64 0, .int .u64 0, .int .i64 0, .int .i64 0, .int .u64 0, .slice none 0 0]
abbrev snO (e : Int) (v : Nat) : Obj := .cells #[.int .i64 e, .int .u64 (v : Int), .slice none 0 0, .int .u64 0, .int .u64 0, .int .i64 0, .int .i64 0, .int .u64 0, .slice none 0 0] 69
abbrev snI (e v : Int) : Obj := .cells #[.int .i64 e, .int .u64 v, .slice none 0 0, .int .u64 0, .int .u64 0, .int .i64 0, .int .i64 0, .int .u64 0, .slice none 0 0] 69
abbrev snZ : Obj := .cells #[.int .i64 0, .int .u64 0, .slice none 0 0, .int .u64 0, .int .u64 0, .int .i64 0, .int .i64 0, .int .u64 0, .slice none 0 0] 69
theorem clc {W : World} {y : Nat} {c : Cl8} (h : W.heap[y]? = some (clO c)) : W.cell? ⟨y, 0, none⟩ = some (.int .i64 c.op) ∧ W.cell? ⟨y, 1, none⟩ = some (.int .u64 (c.p : Int)) ∧ W.cell? ⟨y, 2, none⟩ = some (.int .u64 (c.a : Int)) ∧ W.cell? ⟨y, 3, none⟩ = some (.int .u64 (c.b : Int)) ∧ W.cell? ⟨y, 4, none⟩ = some (.bool c.d) ∧ W.cell? ⟨y, 5, none⟩ = some c.v := by
  refine ⟨?_, ?_, ?_, ?_, ?_, ?_⟩ <;> simp [World.cell?, h]
theorem gives_h (op : Int) (W : World) :
    Calls Tryz.prog 29 #[.int .i64 op] W fun e w' => e = .returned (.bool (op == 1 || op == 2 || op == 3 || op == 4)) ∧ w' = W := by
  cases h1 : (op == 1) <;> cases h2 : (op == 2) <;> cases h3 : (op == 3) <;> cases h4 : (op == 4) <;>
  · go_enter Tryz.func29, Tryz.ntmps29
    go_wp2_with fail
    go_ret
    exact ⟨rfl, rfl⟩
theorem number_h (v : Nat) (hv : v < 18446744073709551616) (er : Int) (W : World) :
    Calls Tryz.prog 64 #[.int .u64 (v : Int), .int .i64 er] W fun e w' => e = .returned (snV er v) ∧ Kept none' W w' := by
  have D := hid ((Kept.refl none' W).alloc (snO er v))
  go_enter Tryz.func64, Tryz.ntmps64
  go_wp2_with fail
  exact ⟨rfl, snV er v, by simp [results, Tryz.results64, go_sem], rfl, D.out⟩
theorem sn_set {W : World} {y : Nat} (e v : Int) (h : W.heap[y]? = some snZ) : (((((((((W.setCell ⟨y, 0, none⟩ (.int .i64 e)).setCell ⟨y, 1, none⟩ (.int .u64 v)).setCell ⟨y, 2, none⟩ (.slice none 0 0)).setCell ⟨y, 3, none⟩ (.int .u64 0)).setCell ⟨y, 4, none⟩ (.int .u64 0)).setCell ⟨y, 5, none⟩ (.int .i64 0)).setCell ⟨y, 6, none⟩ (.int .i64 0)).setCell ⟨y, 7, none⟩ (.int .u64 0)).setCell ⟨y, 8, none⟩ (.slice none 0 0)).heap[y]? = some (snI e v) := by
  have := heap_set (heap_set (heap_set (heap_set (heap_set (heap_set (heap_set (heap_set (heap_set h 0 (.int .i64 e)) 1 (.int .u64 v)) 2 (.slice none 0 0)) 3 (.int .u64 0)) 4 (.int .u64 0)) 5 (.int .i64 0)) 6 (.int .i64 0)) 7 (.int .u64 0)) 8 (.slice none 0 0)
  simpa using this
theorem snc {W : World} {y : Nat} {e v : Int} (h : W.heap[y]? = some (snI e v)) : W.cell? ⟨y, 0, none⟩ = some (.int .i64 e) ∧ W.cell? ⟨y, 1, none⟩ = some (.int .u64 v) ∧ W.cell? ⟨y, 2, none⟩ = some (.slice none 0 0) ∧ W.cell? ⟨y, 3, none⟩ = some (.int .u64 0) ∧ W.cell? ⟨y, 4, none⟩ = some (.int .u64 0) ∧ W.cell? ⟨y, 5, none⟩ = some (.int .i64 0) ∧ W.cell? ⟨y, 6, none⟩ = some (.int .i64 0) ∧ W.cell? ⟨y, 7, none⟩ = some (.int .u64 0) ∧ W.cell? ⟨y, 8, none⟩ = some (.slice none 0 0) ∧ ∀ j, W.frozen? ⟨y, j, none⟩ = false := by
  refine ⟨?_, ?_, ?_, ?_, ?_, ?_, ?_, ?_, ?_, fun j => ?_⟩ <;> simp [World.cell?, World.frozen?, h]
theorem sn_kept {W : World} {y : Nat} (u0 u1 u2 u3 u4 u5 u6 u7 u8 : Value) : Kept (fun z => z = y) W (((((((((W.setCell ⟨y, 0, none⟩ u0).setCell ⟨y, 1, none⟩ u1).setCell ⟨y, 2, none⟩ u2).setCell ⟨y, 3, none⟩ u3).setCell ⟨y, 4, none⟩ u4).setCell ⟨y, 5, none⟩ u5).setCell ⟨y, 6, none⟩ u6).setCell ⟨y, 7, none⟩ u7).setCell ⟨y, 8, none⟩ u8) :=
  (((((((((Kept.refl (fun z => z = y) W).setCell (p := ⟨y, 0, none⟩) rfl u0).setCell (p := ⟨y, 1, none⟩) rfl u1).setCell (p := ⟨y, 2, none⟩) rfl u2).setCell (p := ⟨y, 3, none⟩) rfl u3).setCell (p := ⟨y, 4, none⟩) rfl u4).setCell (p := ⟨y, 5, none⟩) rfl u5).setCell (p := ⟨y, 6, none⟩) rfl u6).setCell (p := ⟨y, 7, none⟩) rfl u7).setCell (p := ⟨y, 8, none⟩) rfl u8
/-- The world in which done calls: the call's box, the answer's. -/
abbrev dnW (W : World) (c : Cl8) : World := (W.alloc (clO c)).alloc snZ
set_option maxRecDepth 4000 in
theorem done_1 {W : World} {hb : Nat} {c : Cl8} (hc : c.op = 1) {R : Nat → Int → World → Prop}
    (h : Calls Tryz.prog 10 #[.pointer (some ⟨hb, 0, none⟩), .int .u64 (c.a : Int), .bool c.d] (dnW W c) fun e w' => ∃ p er, e = .returned (.tuple #[.int .u64 ((p : Nat) : Int), .int .i64 er]) ∧ p < 18446744073709551616 ∧ w'.heap[W.heap.size + 1]? = some snZ ∧ R p er w') :
    Calls Tryz.prog 30 #[.pointer (some ⟨hb, 0, none⟩), clV c] W fun e w' => ∃ p er w1, e = .returned (snV er p) ∧ R p er w1 ∧ Kept (fun y => y = W.heap.size + 1) w1 w' := by
  have X0 := hid (heap_new W (clO c))
  obtain ⟨c0, c1, c2, c3, c4, c5⟩ := clc ((((Kept.refl none' (W.alloc (clO c))).alloc snZ).block _ (heap_lt X0.out) (fun e => e)).trans X0.out)
  rw [hc] at c0
  have HM := hid h
  clear h hc X0
  go_enter Tryz.func30, Tryz.ntmps30
  go_wp2_with fail
  refine HM.out.mono ?_
  rintro e w2 ⟨p, er, rfl, hp, hx, hR⟩
  have X2 := hid hx
  have HR := hid hR
  have NU := hid (number_h p hp er w2)
  clear hx hR c0 c1 c2 c3 c4 c5 HM
  go_wp2_with fail
  refine NU.out.mono ?_
  rintro e w3 ⟨rfl, hk3⟩
  have X3 := hid ((hk3.block _ (heap_lt X2.out) (fun e => e)).trans X2.out)
  have K3 := hid hk3
  clear hk3
  obtain ⟨z0, z1, z2, z3, z4, z5, z6, z7, z8, zf⟩ := snc (e := 0) (v := 0) X3.out
  obtain ⟨s0, s1, s2, s3, s4, s5, s6, s7, s8, sf⟩ := snc (sn_set er (p : Int) X3.out)
  have D := hid (show Kept (fun y => y = W.heap.size + 1) w2 _ from (K3.out.mono (fun _ _ e => e.elim)).trans (sn_kept (W := w3) (y := W.heap.size + 1) (.int .i64 er) (.int .u64 (p : Int)) (.slice none 0 0) (.int .u64 0) (.int .u64 0) (.int .i64 0) (.int .i64 0) (.int .u64 0) (.slice none 0 0)) (fun _ _ e => e) (fun _ _ e => e))
  go_wp2_with fail
  exact ⟨rfl, snV er p, by simp [results, Tryz.results30, go_sem, s0, s1, s2, s3, s4, s5, s6, s7, s8], p, er, w2, rfl, HR.out, D.out⟩
set_option maxRecDepth 4000 in
theorem done_2 {W : World} {hb : Nat} {c : Cl8} (hc : c.op = 2) {R : Nat → Int → World → Prop}
    (h : Calls Tryz.prog 20 #[.pointer (some ⟨hb, 0, none⟩), .int .u64 (c.a : Int), .int .u64 (c.b : Int), .bool c.d] (dnW W c) fun e w' => ∃ p er, e = .returned (.tuple #[.int .u64 ((p : Nat) : Int), .int .i64 er]) ∧ p < 18446744073709551616 ∧ w'.heap[W.heap.size + 1]? = some snZ ∧ R p er w') :
    Calls Tryz.prog 30 #[.pointer (some ⟨hb, 0, none⟩), clV c] W fun e w' => ∃ p er w1, e = .returned (snV er p) ∧ R p er w1 ∧ Kept (fun y => y = W.heap.size + 1) w1 w' := by
  have X0 := hid (heap_new W (clO c))
  obtain ⟨c0, c1, c2, c3, c4, c5⟩ := clc ((((Kept.refl none' (W.alloc (clO c))).alloc snZ).block _ (heap_lt X0.out) (fun e => e)).trans X0.out)
  rw [hc] at c0
  have HM := hid h
  clear h hc X0
  go_enter Tryz.func30, Tryz.ntmps30
  go_wp2_with fail
  refine HM.out.mono ?_
  rintro e w2 ⟨p, er, rfl, hp, hx, hR⟩
  have X2 := hid hx
  have HR := hid hR
  have NU := hid (number_h p hp er w2)
  clear hx hR c0 c1 c2 c3 c4 c5 HM
  go_wp2_with fail
  refine NU.out.mono ?_
  rintro e w3 ⟨rfl, hk3⟩
  have X3 := hid ((hk3.block _ (heap_lt X2.out) (fun e => e)).trans X2.out)
  have K3 := hid hk3
  clear hk3
  obtain ⟨z0, z1, z2, z3, z4, z5, z6, z7, z8, zf⟩ := snc (e := 0) (v := 0) X3.out
  obtain ⟨s0, s1, s2, s3, s4, s5, s6, s7, s8, sf⟩ := snc (sn_set er (p : Int) X3.out)
  have D := hid (show Kept (fun y => y = W.heap.size + 1) w2 _ from (K3.out.mono (fun _ _ e => e.elim)).trans (sn_kept (W := w3) (y := W.heap.size + 1) (.int .i64 er) (.int .u64 (p : Int)) (.slice none 0 0) (.int .u64 0) (.int .u64 0) (.int .i64 0) (.int .i64 0) (.int .u64 0) (.slice none 0 0)) (fun _ _ e => e) (fun _ _ e => e))
  go_wp2_with fail
  exact ⟨rfl, snV er p, by simp [results, Tryz.results30, go_sem, s0, s1, s2, s3, s4, s5, s6, s7, s8], p, er, w2, rfl, HR.out, D.out⟩
set_option maxRecDepth 4000 in
theorem done_3 {W : World} {hb : Nat} {c : Cl8} (hc : c.op = 3) {R : Nat → Int → World → Prop}
    (h : Calls Tryz.prog 12 #[.pointer (some ⟨hb, 0, none⟩), .int .u64 (c.a : Int), .int .u64 (c.b : Int), .bool c.d] (dnW W c) fun e w' => ∃ p er, e = .returned (.tuple #[.int .u64 ((p : Nat) : Int), .int .i64 er]) ∧ p < 18446744073709551616 ∧ w'.heap[W.heap.size + 1]? = some snZ ∧ R p er w') :
    Calls Tryz.prog 30 #[.pointer (some ⟨hb, 0, none⟩), clV c] W fun e w' => ∃ p er w1, e = .returned (snV er p) ∧ R p er w1 ∧ Kept (fun y => y = W.heap.size + 1) w1 w' := by
  have X0 := hid (heap_new W (clO c))
  obtain ⟨c0, c1, c2, c3, c4, c5⟩ := clc ((((Kept.refl none' (W.alloc (clO c))).alloc snZ).block _ (heap_lt X0.out) (fun e => e)).trans X0.out)
  rw [hc] at c0
  have HM := hid h
  clear h hc X0
  go_enter Tryz.func30, Tryz.ntmps30
  go_wp2_with fail
  refine HM.out.mono ?_
  rintro e w2 ⟨p, er, rfl, hp, hx, hR⟩
  have X2 := hid hx
  have HR := hid hR
  have NU := hid (number_h p hp er w2)
  clear hx hR c0 c1 c2 c3 c4 c5 HM
  go_wp2_with fail
  refine NU.out.mono ?_
  rintro e w3 ⟨rfl, hk3⟩
  have X3 := hid ((hk3.block _ (heap_lt X2.out) (fun e => e)).trans X2.out)
  have K3 := hid hk3
  clear hk3
  obtain ⟨z0, z1, z2, z3, z4, z5, z6, z7, z8, zf⟩ := snc (e := 0) (v := 0) X3.out
  obtain ⟨s0, s1, s2, s3, s4, s5, s6, s7, s8, sf⟩ := snc (sn_set er (p : Int) X3.out)
  have D := hid (show Kept (fun y => y = W.heap.size + 1) w2 _ from (K3.out.mono (fun _ _ e => e.elim)).trans (sn_kept (W := w3) (y := W.heap.size + 1) (.int .i64 er) (.int .u64 (p : Int)) (.slice none 0 0) (.int .u64 0) (.int .u64 0) (.int .i64 0) (.int .i64 0) (.int .u64 0) (.slice none 0 0)) (fun _ _ e => e) (fun _ _ e => e))
  go_wp2_with fail
  exact ⟨rfl, snV er p, by simp [results, Tryz.results30, go_sem, s0, s1, s2, s3, s4, s5, s6, s7, s8], p, er, w2, rfl, HR.out, D.out⟩
set_option maxRecDepth 4000 in
theorem done_4 {W : World} {hb : Nat} {c : Cl8} (hc : c.op = 4) {R : Nat → Int → World → Prop}
    (h : Calls Tryz.prog 15 #[.pointer (some ⟨hb, 0, none⟩), .int .u64 (c.p : Int), .int .u64 (c.a : Int), .bool c.d] (dnW W c) fun e w' => ∃ p er, e = .returned (.tuple #[.int .u64 ((p : Nat) : Int), .int .i64 er]) ∧ p < 18446744073709551616 ∧ w'.heap[W.heap.size + 1]? = some snZ ∧ R p er w') :
    Calls Tryz.prog 30 #[.pointer (some ⟨hb, 0, none⟩), clV c] W fun e w' => ∃ p er w1, e = .returned (snV er p) ∧ R p er w1 ∧ Kept (fun y => y = W.heap.size + 1) w1 w' := by
  have X0 := hid (heap_new W (clO c))
  obtain ⟨c0, c1, c2, c3, c4, c5⟩ := clc ((((Kept.refl none' (W.alloc (clO c))).alloc snZ).block _ (heap_lt X0.out) (fun e => e)).trans X0.out)
  rw [hc] at c0
  have HM := hid h
  clear h hc X0
  go_enter Tryz.func30, Tryz.ntmps30
  go_wp2_with fail
  refine HM.out.mono ?_
  rintro e w2 ⟨p, er, rfl, hp, hx, hR⟩
  have X2 := hid hx
  have HR := hid hR
  have NU := hid (number_h p hp er w2)
  clear hx hR c0 c1 c2 c3 c4 c5 HM
  go_wp2_with fail
  refine NU.out.mono ?_
  rintro e w3 ⟨rfl, hk3⟩
  have X3 := hid ((hk3.block _ (heap_lt X2.out) (fun e => e)).trans X2.out)
  have K3 := hid hk3
  clear hk3
  obtain ⟨z0, z1, z2, z3, z4, z5, z6, z7, z8, zf⟩ := snc (e := 0) (v := 0) X3.out
  obtain ⟨s0, s1, s2, s3, s4, s5, s6, s7, s8, sf⟩ := snc (sn_set er (p : Int) X3.out)
  have D := hid (show Kept (fun y => y = W.heap.size + 1) w2 _ from (K3.out.mono (fun _ _ e => e.elim)).trans (sn_kept (W := w3) (y := W.heap.size + 1) (.int .i64 er) (.int .u64 (p : Int)) (.slice none 0 0) (.int .u64 0) (.int .u64 0) (.int .i64 0) (.int .i64 0) (.int .u64 0) (.slice none 0 0)) (fun _ _ e => e) (fun _ _ e => e))
  go_wp2_with fail
  exact ⟨rfl, snV er p, by simp [results, Tryz.results30, go_sem, s0, s1, s2, s3, s4, s5, s6, s7, s8], p, er, w2, rfl, HR.out, D.out⟩
set_option maxRecDepth 4000 in
theorem done_6 {W : World} {hb : Nat} {c : Cl8} (hc : c.op = 6) {R : Nat → Int → World → Prop}
    (h : Calls Tryz.prog 65 #[.pointer (some ⟨hb, 0, none⟩), .int .u64 (c.p : Int)] (dnW W c) fun e w' => ∃ p er, e = .returned (.tuple #[.int .u64 ((p : Nat) : Int), .int .i64 er]) ∧ p < 18446744073709551616 ∧ w'.heap[W.heap.size + 1]? = some snZ ∧ R p er w') :
    Calls Tryz.prog 30 #[.pointer (some ⟨hb, 0, none⟩), clV c] W fun e w' => ∃ p er w1, e = .returned (snV er p) ∧ R p er w1 ∧ Kept (fun y => y = W.heap.size + 1) w1 w' := by
  have X0 := hid (heap_new W (clO c))
  obtain ⟨c0, c1, c2, c3, c4, c5⟩ := clc ((((Kept.refl none' (W.alloc (clO c))).alloc snZ).block _ (heap_lt X0.out) (fun e => e)).trans X0.out)
  rw [hc] at c0
  have HM := hid h
  clear h hc X0
  go_enter Tryz.func30, Tryz.ntmps30
  go_wp2_with fail
  refine HM.out.mono ?_
  rintro e w2 ⟨p, er, rfl, hp, hx, hR⟩
  have X2 := hid hx
  have HR := hid hR
  have NU := hid (number_h p hp er w2)
  clear hx hR c0 c1 c2 c3 c4 c5 HM
  go_wp2_with fail
  refine NU.out.mono ?_
  rintro e w3 ⟨rfl, hk3⟩
  have X3 := hid ((hk3.block _ (heap_lt X2.out) (fun e => e)).trans X2.out)
  have K3 := hid hk3
  clear hk3
  obtain ⟨z0, z1, z2, z3, z4, z5, z6, z7, z8, zf⟩ := snc (e := 0) (v := 0) X3.out
  obtain ⟨s0, s1, s2, s3, s4, s5, s6, s7, s8, sf⟩ := snc (sn_set er (p : Int) X3.out)
  have D := hid (show Kept (fun y => y = W.heap.size + 1) w2 _ from (K3.out.mono (fun _ _ e => e.elim)).trans (sn_kept (W := w3) (y := W.heap.size + 1) (.int .i64 er) (.int .u64 (p : Int)) (.slice none 0 0) (.int .u64 0) (.int .u64 0) (.int .i64 0) (.int .i64 0) (.int .u64 0) (.slice none 0 0)) (fun _ _ e => e) (fun _ _ e => e))
  go_wp2_with fail
  exact ⟨rfl, snV er p, by simp [results, Tryz.results30, go_sem, s0, s1, s2, s3, s4, s5, s6, s7, s8], p, er, w2, rfl, HR.out, D.out⟩
set_option maxRecDepth 4000 in
theorem done_9 {W : World} {hb : Nat} {c : Cl8} (hc : c.op = 9) {R : Nat → Int → World → Prop}
    (h : Calls Tryz.prog 18 #[.pointer (some ⟨hb, 0, none⟩), .int .u64 (c.p : Int)] (dnW W c) fun e w' => ∃ p er, e = .returned (.tuple #[.int .u64 ((p : Nat) : Int), .int .i64 er]) ∧ p < 18446744073709551616 ∧ w'.heap[W.heap.size + 1]? = some snZ ∧ R p er w') :
    Calls Tryz.prog 30 #[.pointer (some ⟨hb, 0, none⟩), clV c] W fun e w' => ∃ p er w1, e = .returned (snV er p) ∧ R p er w1 ∧ Kept (fun y => y = W.heap.size + 1) w1 w' := by
  have X0 := hid (heap_new W (clO c))
  obtain ⟨c0, c1, c2, c3, c4, c5⟩ := clc ((((Kept.refl none' (W.alloc (clO c))).alloc snZ).block _ (heap_lt X0.out) (fun e => e)).trans X0.out)
  rw [hc] at c0
  have HM := hid h
  clear h hc X0
  go_enter Tryz.func30, Tryz.ntmps30
  go_wp2_with fail
  refine HM.out.mono ?_
  rintro e w2 ⟨p, er, rfl, hp, hx, hR⟩
  have X2 := hid hx
  have HR := hid hR
  have NU := hid (number_h p hp er w2)
  clear hx hR c0 c1 c2 c3 c4 c5 HM
  go_wp2_with fail
  refine NU.out.mono ?_
  rintro e w3 ⟨rfl, hk3⟩
  have X3 := hid ((hk3.block _ (heap_lt X2.out) (fun e => e)).trans X2.out)
  have K3 := hid hk3
  clear hk3
  obtain ⟨z0, z1, z2, z3, z4, z5, z6, z7, z8, zf⟩ := snc (e := 0) (v := 0) X3.out
  obtain ⟨s0, s1, s2, s3, s4, s5, s6, s7, s8, sf⟩ := snc (sn_set er (p : Int) X3.out)
  have D := hid (show Kept (fun y => y = W.heap.size + 1) w2 _ from (K3.out.mono (fun _ _ e => e.elim)).trans (sn_kept (W := w3) (y := W.heap.size + 1) (.int .i64 er) (.int .u64 (p : Int)) (.slice none 0 0) (.int .u64 0) (.int .u64 0) (.int .i64 0) (.int .i64 0) (.int .u64 0) (.slice none 0 0)) (fun _ _ e => e) (fun _ _ e => e))
  go_wp2_with fail
  exact ⟨rfl, snV er p, by simp [results, Tryz.results30, go_sem, s0, s1, s2, s3, s4, s5, s6, s7, s8], p, er, w2, rfl, HR.out, D.out⟩
set_option maxRecDepth 4000 in
theorem done_5 {W : World} {hb : Nat} {c : Cl8} (hc : c.op = 5) {R : Int → World → Prop}
    (h : Calls Tryz.prog 14 #[.pointer (some ⟨hb, 0, none⟩), .int .u64 (c.p : Int)] (dnW W c) fun e w' => ∃ er, e = .returned (.int .i64 er) ∧ w'.heap[W.heap.size + 1]? = some snZ ∧ R er w') :
    Calls Tryz.prog 30 #[.pointer (some ⟨hb, 0, none⟩), clV c] W fun e w' => ∃ er w1, e = .returned (snV er 0) ∧ R er w1 ∧ Kept (fun y => y = W.heap.size + 1) w1 w' := by
  have X0 := hid (heap_new W (clO c))
  obtain ⟨c0, c1, c2, c3, c4, c5⟩ := clc ((((Kept.refl none' (W.alloc (clO c))).alloc snZ).block _ (heap_lt X0.out) (fun e => e)).trans X0.out)
  rw [hc] at c0
  have HM := hid h
  clear h hc X0
  go_enter Tryz.func30, Tryz.ntmps30
  go_wp2_with fail
  refine HM.out.mono ?_
  rintro e w2 ⟨er, rfl, hx, hR⟩
  have X2 := hid hx
  have HR := hid hR
  clear hx hR c0 c1 c2 c3 c4 c5 HM
  obtain ⟨z0, z1, z2, z3, z4, z5, z6, z7, z8, zf⟩ := snc (e := 0) (v := 0) X2.out
  obtain ⟨s0, s1, s2, s3, s4, s5, s6, s7, s8, sf⟩ := snc (sn_set er 0 X2.out)
  have D := hid (show Kept (fun y => y = W.heap.size + 1) w2 _ from (sn_kept (W := w2) (y := W.heap.size + 1) (.int .i64 er) (.int .u64 0) (.slice none 0 0) (.int .u64 0) (.int .u64 0) (.int .i64 0) (.int .i64 0) (.int .u64 0) (.slice none 0 0)))
  go_wp2_with fail
  exact ⟨rfl, snV er 0, by simp [results, Tryz.results30, go_sem, s0, s1, s2, s3, s4, s5, s6, s7, s8], er, w2, rfl, HR.out, D.out⟩
set_option maxRecDepth 4000 in
theorem done_10 {W : World} {hb : Nat} {c : Cl8} (hc : c.op = 10) {R : Int → World → Prop}
    (h : Calls Tryz.prog 16 #[.pointer (some ⟨hb, 0, none⟩), .int .u64 (c.p : Int), .int .u64 (c.a : Int)] (dnW W c) fun e w' => ∃ er, e = .returned (.int .i64 er) ∧ w'.heap[W.heap.size + 1]? = some snZ ∧ R er w') :
    Calls Tryz.prog 30 #[.pointer (some ⟨hb, 0, none⟩), clV c] W fun e w' => ∃ er w1, e = .returned (snV er 0) ∧ R er w1 ∧ Kept (fun y => y = W.heap.size + 1) w1 w' := by
  have X0 := hid (heap_new W (clO c))
  obtain ⟨c0, c1, c2, c3, c4, c5⟩ := clc ((((Kept.refl none' (W.alloc (clO c))).alloc snZ).block _ (heap_lt X0.out) (fun e => e)).trans X0.out)
  rw [hc] at c0
  have HM := hid h
  clear h hc X0
  go_enter Tryz.func30, Tryz.ntmps30
  go_wp2_with fail
  refine HM.out.mono ?_
  rintro e w2 ⟨er, rfl, hx, hR⟩
  have X2 := hid hx
  have HR := hid hR
  clear hx hR c0 c1 c2 c3 c4 c5 HM
  obtain ⟨z0, z1, z2, z3, z4, z5, z6, z7, z8, zf⟩ := snc (e := 0) (v := 0) X2.out
  obtain ⟨s0, s1, s2, s3, s4, s5, s6, s7, s8, sf⟩ := snc (sn_set er 0 X2.out)
  have D := hid (show Kept (fun y => y = W.heap.size + 1) w2 _ from (sn_kept (W := w2) (y := W.heap.size + 1) (.int .i64 er) (.int .u64 0) (.slice none 0 0) (.int .u64 0) (.int .u64 0) (.int .i64 0) (.int .i64 0) (.int .u64 0) (.slice none 0 0)))
  go_wp2_with fail
  exact ⟨rfl, snV er 0, by simp [results, Tryz.results30, go_sem, s0, s1, s2, s3, s4, s5, s6, s7, s8], er, w2, rfl, HR.out, D.out⟩
set_option maxRecDepth 4000 in
theorem done_12 {W : World} {hb : Nat} {c : Cl8} (hc : c.op = 12) {R : Int → World → Prop}
    (h : Calls Tryz.prog 67 #[.pointer (some ⟨hb, 0, none⟩), .int .u64 (c.p : Int), c.v] (dnW W c) fun e w' => ∃ er, e = .returned (.int .i64 er) ∧ w'.heap[W.heap.size + 1]? = some snZ ∧ R er w') :
    Calls Tryz.prog 30 #[.pointer (some ⟨hb, 0, none⟩), clV c] W fun e w' => ∃ er w1, e = .returned (snV er 0) ∧ R er w1 ∧ Kept (fun y => y = W.heap.size + 1) w1 w' := by
  have X0 := hid (heap_new W (clO c))
  obtain ⟨c0, c1, c2, c3, c4, c5⟩ := clc ((((Kept.refl none' (W.alloc (clO c))).alloc snZ).block _ (heap_lt X0.out) (fun e => e)).trans X0.out)
  rw [hc] at c0
  have HM := hid h
  clear h hc X0
  go_enter Tryz.func30, Tryz.ntmps30
  go_wp2_with fail
  refine HM.out.mono ?_
  rintro e w2 ⟨er, rfl, hx, hR⟩
  have X2 := hid hx
  have HR := hid hR
  clear hx hR c0 c1 c2 c3 c4 c5 HM
  obtain ⟨z0, z1, z2, z3, z4, z5, z6, z7, z8, zf⟩ := snc (e := 0) (v := 0) X2.out
  obtain ⟨s0, s1, s2, s3, s4, s5, s6, s7, s8, sf⟩ := snc (sn_set er 0 X2.out)
  have D := hid (show Kept (fun y => y = W.heap.size + 1) w2 _ from (sn_kept (W := w2) (y := W.heap.size + 1) (.int .i64 er) (.int .u64 0) (.slice none 0 0) (.int .u64 0) (.int .u64 0) (.int .i64 0) (.int .i64 0) (.int .u64 0) (.slice none 0 0)))
  go_wp2_with fail
  exact ⟨rfl, snV er 0, by simp [results, Tryz.results30, go_sem, s0, s1, s2, s3, s4, s5, s6, s7, s8], er, w2, rfl, HR.out, D.out⟩
end Go.Proofs.YtgjapopddblpoaaGreatDoor
