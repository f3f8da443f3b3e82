import Derived.Test.YthjokkihlodapaaGreatXm
set_option maxRecDepth 1000000
set_option maxHeartbeats 80000000
/- walk.Check: the walk. -/
namespace Go.Proofs.YthjokkihlodapaaGreat
open Go.RowKit
set_option linter.unusedVariables false

/-- The table of rules. -/
def ruO : Obj := .cells #[.int .i64 1, .func (.func 59) #[] #[], .int .i64 2, .func (.func 60) #[] #[], .int .i64 3, .func (.func 61) #[] #[], .int .i64 4, .func (.func 62) #[] #[], .int .i64 5, .func (.func 63) #[] #[], .int .i64 6, .func (.func 64) #[] #[], .int .i64 7, .func (.func 65) #[] #[], .int .i64 8, .func (.func 66) #[] #[], .int .i64 9, .func (.func 67) #[] #[], .int .i64 10, .func (.func 68) #[] #[], .int .i64 11, .func (.func 69) #[] #[]] 82 (0, 0)
theorem rules_any (w : World) : Calls Tryz.prog 39 #[] w fun e w' => e = .returned (.slice (some ⟨w.heap.size, 0, none⟩) 11 11) ∧ w' = w.alloc ruO := by
  go_enter Tryz.func39, Tryz.ntmps39
  go_wp2
  go_ret
  exact ⟨rfl, rfl⟩
theorem rule_cells {w : World} {g : Nat} (h : w.heap[g]? = some ruO) (a : Nat) (ha : a < 11) : w.cell? ⟨g, a * 2, none⟩ = some (.int .i64 ((a + 1 : Nat) : Int)) ∧ w.cell? ⟨g, a * 2 + 1, none⟩ = some (.func (.func (ruleF a)) #[] #[]) := by
  unfold ruO at h
  match a, ha with
  | 0, _ => exact ⟨by simp [World.cell?, h], by simp [World.cell?, h, ruleF]⟩
  | 1, _ => exact ⟨by simp [World.cell?, h], by simp [World.cell?, h, ruleF]⟩
  | 2, _ => exact ⟨by simp [World.cell?, h], by simp [World.cell?, h, ruleF]⟩
  | 3, _ => exact ⟨by simp [World.cell?, h], by simp [World.cell?, h, ruleF]⟩
  | 4, _ => exact ⟨by simp [World.cell?, h], by simp [World.cell?, h, ruleF]⟩
  | 5, _ => exact ⟨by simp [World.cell?, h], by simp [World.cell?, h, ruleF]⟩
  | 6, _ => exact ⟨by simp [World.cell?, h], by simp [World.cell?, h, ruleF]⟩
  | 7, _ => exact ⟨by simp [World.cell?, h], by simp [World.cell?, h, ruleF]⟩
  | 8, _ => exact ⟨by simp [World.cell?, h], by simp [World.cell?, h, ruleF]⟩
  | 9, _ => exact ⟨by simp [World.cell?, h], by simp [World.cell?, h, ruleF]⟩
  | 10, _ => exact ⟨by simp [World.cell?, h], by simp [World.cell?, h, ruleF]⟩
theorem checkP (p : Addr) (x pl : Int) (older : List PanicEntry) (w : World) (hc : w.cell? p = some (.int .i64 x)) (hz : w.frozen? p = false) :
    CallsD Tryz.prog 37 #[.pointer (some p)] (.panicking ({ v := .iface 114 (.int .i64 pl), recovered := false } :: older)) w fun e u' w' =>
      e = .returned (.tuple #[]) ∧ u' = .panicking ({ v := .iface 114 (.int .i64 pl), recovered := true } :: older) ∧ w' = w.setCell p (.int .i64 pl) := by
  refine callsD_of_wpS Tryz.func37 rfl fun c₀ cs hu => ?_
  apply wpS_region
  simp [wpOpsS, go_sem, recoverD, hu, Tryz.ntmps37]
  refine (placeOf_some _ _).mono ?_
  rintro e w' ⟨rfl, rfl⟩
  simp [go_sem, hc, hz, bodyPostS, results, Tryz.results37]
theorem checkR (p : Addr) (x : Int) (w : World) (hc : w.cell? p = some (.int .i64 x)) (hz : w.frozen? p = false) :
    CallsD Tryz.prog 37 #[.pointer (some p)] .returning w fun e u' w' => e = .returned (.tuple #[]) ∧ u' = .returning ∧ w' = w.setCell p (.int .i64 0) := by
  refine callsD_of_wpS Tryz.func37 rfl fun c₀ cs hu => ?_
  apply wpS_region
  simp [wpOpsS, go_sem, recoverD, hu, Tryz.ntmps37]
  refine (placeOf_nil _).mono ?_
  rintro e w' ⟨rfl, rfl⟩
  cases c₀
  simp_all [go_sem, bodyPostS, results, Tryz.results37]

/-- Inside Check: the image's box, the place's, the table. -/
structure CkI (w W : World) (I : Img) (V : ImV) (g : Nat) : Prop where
  im : ImAt W w.heap.size I V
  pl : W.heap[w.heap.size + 1]? = some (.cells #[.int .i64 0] 3 (0, 0))
  tb : W.heap[g]? = some ruO
  k : Kept none' w W
theorem CkI.keep {w W W' : World} {I : Img} {V : ImV} {g : Nat} (h : CkI w W I V g) (hk : Kept none' W W') : CkI w W' I V g :=
  ⟨h.im.keep hk, (hk.block _ (heap_lt h.pl) (fun x => x)).trans h.pl, (hk.block _ (heap_lt h.tb) (fun x => x)).trans h.tb, none_trans h.k hk⟩

set_option maxRecDepth 6000 in
set_option maxHeartbeats 8000000 in
theorem Check_any (I : Img) (V : ImV) (w : World) (hI : ImD w I V) :
    Calls Tryz.prog 17 #[.agg #[.int .u64 (I.base : Int), .int .i64 I.lim, .int .i64 I.ord, .int .i64 I.reg, V.m, V.p, V.r, V.h, V.t]] w fun e w' => e = .returned (.tuple #[.int .i64 ((chk I).1 : Int), .int .i64 ((chk I).2 : Int)]) ∧ Kept none' w w' := by
  have hmf := M.mkf
  obtain ⟨EE, hEE⟩ : ∃ EE, EE = Ending.returned (.tuple #[.int .i64 ((chk I).1 : Int), .int .i64 ((chk I).2 : Int)]) := ⟨_, rfl⟩
  have FB := hid (show ∀ j p, j < 11 → (∀ a, a < j → rl I a = none) → rl I j = some p → Ending.returned (.tuple #[.int .i64 ((j + 1 : Nat) : Int), .int .i64 (p : Int)]) = EE from fun j p h1 h2 h3 => by rw [hEE, chk_bad h1 h2 h3])
  have FG := hid (show (∀ a, a < 11 → rl I a = none) → Ending.returned (.tuple #[.int .i64 0, .int .i64 0]) = EE from fun h => by rw [hEE, chk_ok h]; rfl)
  rw [← hEE]
  have K0 := hid (show Kept none' w ((w.alloc (imO I V)).alloc (.cells #[.int .i64 0] 3 (0, 0))) from ((Kept.refl _ w).alloc _).alloc _)
  have B1 := hid (show ((w.alloc (imO I V)).alloc (.cells #[.int .i64 0] 3 (0, 0))).heap[w.heap.size]? = some (imO I V) by rw [Below.heap_alloc _ _ _ (by simp)]; exact heap_new w _)
  have B2 := hid (show ((w.alloc (imO I V)).alloc (.cells #[.int .i64 0] 3 (0, 0))).heap[w.heap.size + 1]? = some (.cells #[.int .i64 0] 3 (0, 0)) from heap_new2 w _ _)
  have SZ := hid (show ((w.alloc (imO I V)).alloc (.cells #[.int .i64 0] 3 (0, 0))).heap.size = w.heap.size + 2 by simp)
  have HI := hid hI
  obtain ⟨⟨ma, mc, hm⟩, ⟨pa, pc, hp⟩, ⟨ra, rc, hr⟩, ⟨ha, hc, hh⟩, ⟨ta, tc, ht⟩, -⟩ := hI.sl
  rw [hm, hp, hr, hh, ht]
  clear hEE hI
  go_enter_defers Tryz.func17, Tryz.ntmps17
  go_wp2_with fail
  have EW : (w.alloc (.cells #[.int .u64 (I.base : Int), .int .i64 I.lim, .int .i64 I.ord, .int .i64 I.reg, .slice ma I.nm mc, .slice pa I.np pc, .slice ra I.no rc, .slice ha I.hd.length hc, .slice ta I.pt.length tc] 31 (0, 0))) = w.alloc (imO I V) := by rw [← hm, ← hp, ← hr, ← hh, ← ht]
  rw [EW]
  clear EW hm hp hr hh ht
  generalize (w.alloc (imO I V)).alloc (.cells #[.int .i64 0] 3 (0, 0)) = W0 at *
  refine (rules_any W0).mono ?_
  rintro e w1 ⟨rfl, rfl⟩
  have C0 := hid (show CkI w (W0.alloc ruO) I V W0.heap.size from ⟨⟨(((Kept.refl none' W0).alloc ruO).block _ (heap_lt B1.out) (fun x => x)).trans B1.out, HI.out.keep (K0.out.alloc _)⟩, (((Kept.refl none' W0).alloc ruO).block _ (heap_lt B2.out) (fun x => x)).trans B2.out, heap_new _ _, K0.out.alloc _⟩)
  have GSZ := hid (show w.heap.size + 1 < W0.heap.size by have := SZ.out; omega)
  generalize W0.alloc ruO = W1 at *
  generalize W0.heap.size = g at *
  clear B1 B2 SZ K0
  obtain ⟨ib, hib⟩ : ∃ ib, ib = w.heap.size := ⟨_, rfl⟩
  obtain ⟨pb, hpb⟩ : ∃ pb, pb = w.heap.size + 1 := ⟨_, rfl⟩
  have HIB := hid hib
  have HPB := hid hpb
  simp only [← hpb]
  simp only [← hib]
  clear hib hpb
  go_wp2_with fail
  go_loopw [9] (fun i W => ∃ a : Nat, a ≤ 11 ∧ i = .int .i64 a ∧ Hid (CkI w W I V g ∧ ∀ x, x < a → rl I x = none)) (fun i _ => 11 - (intOf i).toNat)
  case atStart => exact ⟨0, Nat.zero_le _, rfl, hid ⟨C0.out, fun x hx => by omega⟩⟩
  case round =>
    clear C0
    obtain ⟨a, ha', rfl, hR⟩ := hrel
    by_cases hlt : a < 11
    · have hai : (a : Int) < 11 := by omega
      obtain ⟨q0, q1⟩ := rule_cells hR.out.1.tb a hlt
      obtain ⟨a1, ha1⟩ : ∃ a1, a1 = a + 1 := ⟨_, rfl⟩
      rw [← ha1] at q0
      have HA1 := hid ha1
      obtain ⟨rw', hrw⟩ : ∃ ob, ob = Obj.cells #[.int .i64 (a1 : Int), .func (.func (ruleF a)) #[] #[]] 82 (0, 0) := ⟨_, rfl⟩
      have CK := hid (hR.out.1.keep ((Kept.refl none' wr).alloc rw'))
      rw [hrw] at CK
      have AK := hid (ask_any w.heap.size I V a hlt hR.out.2 _ CK.out.im)
      rw [← HIB.out] at AK
      have hent := AK.out.1
      have FBa := hid (show ∀ p, rl I a = some p → Ending.returned (.tuple #[.int .i64 (a1 : Int), .int .i64 (p : Int)]) = EE from fun p h => by rw [HA1.out]; exact FB.out a p hlt hR.out.2 h)
      have GA := hid (show rl I a = none → ∀ x, x < a + 1 → rl I x = none from fun h x hx => by
        by_cases e : x = a
        · rw [e]; exact h
        · exact hR.out.2 x (by omega))
      generalize ruleF a = fid at *
      have hst : ∀ (a : Addr) (w : World), (store a (.func (.func fid) #[] #[])).run Tryz.prog w = stored Tryz.prog w a (.func (.func fid) #[] #[]) .plain := fun a w => run_store Tryz.prog w a _ .plain rfl
      clear ha1 hrw
      go_wp2_with fail
      have PLC := hid CK.out.pl
      rw [← HPB.out] at PLC
      cases hrl : rl I a with
      | none =>
        rw [hrl] at AK
        have R2 := hid (GA.out hrl)
        clear hrl
        refine AK.out.2.mono ?_
        rintro e w2 ⟨rfl, hk2⟩
        have R3 := hid (show CkI w w2 I V g ∧ _ from ⟨CK.out.keep hk2, R2.out⟩)
        clear hk2 q0 q1 hent hst
        dsimp only [askE]
        go_wp2_with fail
        go_round
        case rel => exact ⟨a + 1, by omega, by go_num, R3⟩
        case measure => simp [intOf]; omega
      | some p =>
        rw [hrl] at AK
        have R2 := hid (FBa.out p hrl)
        clear hrl
        refine AK.out.2.mono ?_
        rintro e w2 ⟨rfl, hk2⟩
        have PL2 := hid ((hk2.block _ (heap_lt PLC.out) (fun x => x)).trans PLC.out)
        have hec : w2.cell? ⟨pb, 0, none⟩ = some (.int .i64 0) := by simp [World.cell?, PL2.out]
        have hef : w2.frozen? ⟨pb, 0, none⟩ = false := by simp [World.frozen?, PL2.out]
        have K2 := hid (none_trans CK.out.k hk2)
        clear hk2 q0 q1 hent hst
        refine leaves_cons (f := 37) (args := #[.pointer (some ⟨pb, 0, none⟩)]) (by simp) (by simp [go_sem]) ?_
        refine (checkP ⟨pb, 0, none⟩ 0 (p : Int) [] w2 hec hef).mono ?_
        rintro e u' w'' ⟨rfl, rfl, rfl⟩
        refine ⟨.tuple #[.int .i64 (a1 : Int), .int .i64 (p : Int)], ?_, R2.out, K2.out.setNew (fun h => absurd h (by have := HPB.out; show ¬ pb < _; omega)) _⟩
        simp [results, Tryz.results17, go_sem, hec]
    · have hae : a = 11 := by omega
      have hai : ¬ (a : Int) < 11 := by omega
      have R2 := hid (FG.out (fun x hx => hR.out.2 x (by omega)))
      have PL2 := hid hR.out.1.pl
      rw [← HPB.out] at PL2
      have hec : wr.cell? ⟨pb, 0, none⟩ = some (.int .i64 0) := by simp [World.cell?, PL2.out]
      have hef : wr.frozen? ⟨pb, 0, none⟩ = false := by simp [World.frozen?, PL2.out]
      have K2 := hid hR.out.1.k
      clear hae
      go_wp2_with fail
      refine leaves_cons (f := 37) (args := #[.pointer (some ⟨pb, 0, none⟩)]) (by simp) (by simp [go_sem]) ?_
      have BLK := hid (show (wr.setCell ⟨pb, 0, none⟩ (.int .i64 0)).heap[pb]? = some (.cells #[.int .i64 0] 3 (0, 0)) from heap_set PL2.out 0 _)
      have hec2 : (wr.setCell ⟨pb, 0, none⟩ (.int .i64 0)).cell? ⟨pb, 0, none⟩ = some (.int .i64 0) := by simp [World.cell?, BLK.out]
      have hef2 : (wr.setCell ⟨pb, 0, none⟩ (.int .i64 0)).frozen? ⟨pb, 0, none⟩ = false := by simp [World.frozen?, BLK.out]
      refine (checkR ⟨pb, 0, none⟩ 0 _ hec2 hef2).mono ?_
      rintro e u' w'' ⟨rfl, rfl, rfl⟩
      have hpn : ∀ h : pb < w.heap.size, none' pb := fun h => absurd h (by have := HPB.out; omega)
      refine ⟨.tuple #[.int .i64 0, .int .i64 0], ?_, R2.out, (K2.out.setNew hpn _).setNew hpn _⟩
      simp [results, Tryz.results17, go_sem, hec2]
end Go.Proofs.YthjokkihlodapaaGreat
