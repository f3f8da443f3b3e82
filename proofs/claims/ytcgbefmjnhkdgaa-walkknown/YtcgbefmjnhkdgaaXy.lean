import Derived.Test.YtcgbefmjnhkdgaaXx
set_option maxRecDepth 1000000
set_option maxHeartbeats 80000000
/- walk.Blocks. -/
namespace Go.Proofs.Ytcgbefmjnhkdgaa
open Go.RowKit
set_option linter.unusedVariables false

/-- The live blocks that begin at a page. -/
def pgB (I : Img) (g : Nat) : List (Nat × Nat) :=
  if (I.pg g).kd = 2 then [(I.base + g * 4096, 4096 * 2 ^ (I.pg g).od.toNat)]
  else if (I.pg g).kd = 4 then ceB I.base g (16 * 2 ^ (I.pg g).cl.toNat) (wsP (I.pg g)) (celN9 (I.pg g).cl.toNat) else []
def bkL (I : Img) : Nat → List (Nat × Nat)
  | 0 => []
  | j + 1 => bkL I j ++ pgB I j
/-- The live blocks of an image. -/
def blks (I : Img) : List (Nat × Nat) := if (chk I).1 = 0 then bkL I I.np else []
theorem chk_zero {I : Img} (h : (chk I).1 = 0) (a : Nat) (ha : a < 11) : rl I a = none := by
  cases e : (List.range 11).findSome? (fun j => (rl I j).map fun p => (j + 1, p)) with
  | none =>
    have := List.findSome?_eq_none_iff.1 e a (List.mem_range.2 ha)
    simpa using this
  | some x =>
    exfalso
    have : chk I = x := by unfold chk; rw [e]
    rw [this] at h
    obtain ⟨j, -, hj⟩ := List.exists_of_findSome?_eq_some e
    simp only [Option.map_eq_some_iff] at hj
    obtain ⟨p, -, hp⟩ := hj
    rw [← hp] at h
    simp at h
theorem sn9_chk {I : Img} (h : (chk I).1 = 0) : ∃ r, Sn9 I I.ord.toNat r := sn9_of (chk_zero h 0 (by decide)) (chk_zero h 1 (by decide)) (chk_zero h 2 (by decide))
theorem pgB_len {I : Img} {k r : Nat} (hS : Sn9 I k r) (g : Nat) (hg : g < I.np) : (pgB I g).length ≤ 256 := by
  obtain ⟨_, _, c, _, -, -, -, -, y5, y6, -⟩ := hS.pg g hg
  unfold pgB
  split
  · simp
  · split
    · rw [y5, Int.toNat_natCast]
      exact Nat.le_trans (ceB_len _ _ _ _ _) (celN9_b c y6).2
    · simp
theorem bkL_len {I : Img} {k r : Nat} (hS : Sn9 I k r) : ∀ j, j ≤ I.np → (bkL I j).length ≤ 256 * j
  | 0, _ => Nat.le_refl _
  | j + 1, h => by
    have h1 := bkL_len hS j (by omega)
    have h2 := pgB_len hS j (by omega)
    show (bkL I j ++ pgB I j).length ≤ _
    rw [List.length_append]
    omega
theorem shl_4096 {o : Nat} (h : o ≤ 8) : IntKind.u64.wrap ((4096 : Int) * 2 ^ o) = ((4096 * 2 ^ o : Nat) : Int) := by
  have h1 := M.pow8 o h
  have e : ((2 : Int) ^ o) = ((2 ^ o : Nat) : Int) := by simp
  rw [wrap_u64, e]
  generalize 2 ^ o = P at *
  omega

theorem gb_ty {w W : World} {v : Value} {l : List (Nat × Nat)} {x : Nat} (h : GB w W v l) (hx : v.ownBlock = some x) : ∃ cs, W.heap[x]? = some (.cells cs 42 (0, 0)) := by
  rcases h.own.2 with ⟨rfl, _⟩ | ⟨g, cap, cur, rfl, hb, hg, h3⟩
  · simp [Value.ownBlock] at hx
  · simp [Value.ownBlock] at hx
    rw [← hx]
    exact ⟨cur, hg⟩

set_option maxRecDepth 6000 in
set_option maxHeartbeats 16000000 in
theorem Blocks_any (I : Img) (V : ImV) (w : World) (hI : ImD w I V) :
    Calls Try.prog 9 #[.agg #[.int .u64 (I.base : Int), .int .i64 I.lim, .int .i64 I.ord, .int .i64 I.reg, V.m, V.p, V.r, V.h, V.t]] w fun e w' => ∃ v, e = .returned v ∧ GB w w' v (blks I) := by
  obtain ⟨⟨ma, mc, hm⟩, ⟨pa, pc, hp⟩, ⟨ra, rc, hr⟩, ⟨ha, hc, hh⟩, ⟨ta, tc, ht⟩, -⟩ := hI.sl
  have IM0 := hid (show ImAt (w.alloc (imO I V)) w.heap.size I V from ⟨heap_new _ _, hI.keep ((Kept.refl _ w).alloc _)⟩)
  have K0 := hid (show Kept none' w (w.alloc (imO I V)) from (Kept.refl _ w).alloc _)
  have HCK := hid (Check_any I V (w.alloc (imO I V)) IM0.out.d)
  have SP := hid hp
  obtain ⟨bL, hbL⟩ : ∃ bL, bL = blks I := ⟨_, rfl⟩
  rw [← hbL]
  have BAD := hid (show (chk I).1 ≠ 0 → bL = [] from fun h => by rw [hbL, blks, if_neg h])
  have GOOD := hid (show (chk I).1 = 0 → bL = bkL I I.np from fun h => by rw [hbL, blks, if_pos h])
  obtain ⟨ru, hru⟩ : ∃ ru, ru = (chk I).1 := ⟨_, rfl⟩
  obtain ⟨pl, hpl⟩ : ∃ pl, pl = (chk I).2 := ⟨_, rfl⟩
  rw [← hru, ← hpl] at HCK
  rw [hm, hp, hr, hh, ht] at HCK
  rw [hm, hp, hr, hh, ht]
  have HRU := hid hru
  clear hbL hru hpl
  have EW := hid (show (w.alloc (.cells #[.int .u64 (I.base : Int), .int .i64 I.lim, .int .i64 I.ord, .int .i64 I.reg, .slice ma I.nm mc, .slice pa I.np pc, .slice ra I.no rc, .slice ha I.hd.length hc, .slice ta I.pt.length tc] 31 (0, 0))) = w.alloc (imO I V) by rw [← hm, ← hp, ← hr, ← hh, ← ht])
  clear hm hp hr hh ht hI
  go_enter Try.func9, Try.ntmps9
  go_wp2_with fail
  rw [EW.out]
  refine HCK.out.mono ?_
  rintro e w1 ⟨rfl, hk1⟩
  have IM1 := hid (IM0.out.keep hk1)
  have K1 := hid (none_trans K0.out hk1)
  clear hk1 EW
  generalize w.alloc (imO I V) = W0 at *
  generalize w.heap.size = ib at *
  by_cases h0 : ru = 0
  case neg =>
    have f0 : ((ru : Int) != 0) = true := by rw [bne_iff_ne]; omega
    have E := hid (BAD.out (by rw [← HRU.out]; exact h0))
    clear h0
    go_wp2_with fail
    go_ret
    exact ⟨_, rfl, by rw [E.out]; exact GS.nil _ _ _ _ K1.out⟩
  have f0 : ((ru : Int) != 0) = false := by rw [bne_eq_false_iff_eq]; omega
  have hz : (chk I).1 = 0 := by rw [← HRU.out]; exact h0
  have E := hid (GOOD.out hz)
  obtain ⟨r, hS⟩ := sn9_chk hz
  have HS := hid hS
  have hnp := hS.np1
  obtain ⟨n, hn⟩ : ∃ n, n = I.np := ⟨_, rfl⟩
  rw [← hn] at hnp
  have HN := hid hn
  obtain ⟨c0, c1, c2, c3, c4, c5, c6, c7, c8⟩ := IM1.out.cells
  rw [SP.out, ← hn] at c5
  have F0 : bkL I 0 = [] := rfl
  have FS := hid (show ∀ j, bkL I (j + 1) = bkL I j ++ pgB I j from fun j => rfl)
  have FL := hid (show ∀ j, j ≤ n → (bkL I j).length ≤ 300000 from fun j hj => by
    have := bkL_len hS j (by omega)
    omega)
  generalize bkL I = f at *
  clear h0 hz hS hn
  go_wp2_with fail
  clear c0 c1 c2 c3 c4 c5 c6 c7 c8
  go_loopw [5, 18] (fun lv iv W => ∃ a : Nat, a ≤ n ∧ iv = .int .i64 a ∧ Hid (GB w1 W lv (f a))) (fun _ iv _ => n - (intOf iv).toNat)
  case atStart => exact ⟨0, Nat.zero_le _, rfl, hid (by rw [F0]; exact GS.nil _ _ _ _ (Kept.refl _ _))⟩
  case round =>
    obtain ⟨a, ha', rfl, hG⟩ := hrel
    have IMa := hid (IM1.out.keep hG.out.kp)
    obtain ⟨va, vc, hva⟩ := own_val hG.out.own
    by_cases hlt : a < n
    · have hai : (a : Int) < (n : Int) := by omega
      have hlt' : a < I.np := by rw [← HN.out]; exact hlt
      obtain ⟨bl, o, oc', hv', hpi, hpc⟩ := IMa.out.page a hlt'
      rw [SP.out] at hv'
      injection hv' with e1 e2 e3
      subst e1
      obtain ⟨kd, od, cc, ll, y1, y2, y3, y4, y5, y6, -⟩ := HS.out.pg a hlt'
      have hk8 := HS.out.k8
      have hod8 : od ≤ 8 := by omega
      have PB := hid (PbI.mk' (w := w1) IMa.out hG.out.kp (I.pg a))
      have GA := hid (GS.keep hG.out (show Kept none' wr (wr.alloc (pgO (I.pg a))) from (Kept.refl _ _).alloc _))
      have fa : f (a + 1) = f a ++ pgB I a := FS.out a
      have hab : I.base + a * 4096 < 18446744073709551616 := by have := HS.out.be; have := HS.out.nm; omega
      have HAD := hid (fun W (hW : Kept none' (wr.alloc (pgO (I.pg a))) W) => address_any ib I V a W (PB.out.im.keep hW) hab)
      have HLC := hid (fun W (hW : Kept none' (wr.alloc (pgO (I.pg a))) W) => liveCells_any ib I V I.ord.toNat r HS.out a cc hlt' y5 y6 W (PB.out.im.keep hW))
      have PGE := hid (show pgB I a = if (I.pg a).kd = 2 then [(I.base + a * 4096, 4096 * 2 ^ od)] else if (I.pg a).kd = 4 then ceB I.base a (16 * 2 ^ cc) (wsP (I.pg a)) (celN9 cc) else [] by unfold pgB; rw [y3, y5, Int.toNat_natCast, Int.toNat_natCast])
      have PGL := hid (pgB_len HS.out a hlt')
      have FLA := hid (FL.out a ha')
      have SH := hid (shl_4096 (o := od) (by omega))
      obtain ⟨m, hm⟩ : ∃ m, m = I.base + a * 4096 := ⟨_, rfl⟩
      rw [← hm] at HAD PGE
      obtain ⟨z, hz⟩ : ∃ z, z = 4096 * 2 ^ od := ⟨_, rfl⟩
      rw [← hz] at SH PGE
      generalize pgB I a = pB at *
      obtain ⟨d0, d1, d2, d3, d4, d5, d6, d7, d8, d9, d10⟩ := hpc.c
      generalize ceB I.base a (16 * 2 ^ cc) (wsP (I.pg a)) (celN9 cc) = cB at *
      generalize I.pg a = p at *
      clear hpi hpc e2 e3 y1 y2 y4 y5 y6 hm hz
      subst hva
      by_cases hk2 : p.kd = 2
      · have q2 : (p.kd == 2) = true := by rw [beq_iff_eq]; exact hk2
        have hpB : pB = [(m, z)] := by rw [PGE.out, if_pos hk2]
        rw [hpB] at fa
        have FA := hid fa
        clear hk2 hpB fa
        obtain ⟨pkd, pod, pcl, plv, pnx, ppv, pfs, pb0, pb1, pb2, pb3⟩ := p
        dsimp only at y3 q2 d0 d1 d2 d3 d4 d5 d6 d7 d8 d9 d10
        subst y3
        go_wp2_with fail
        generalize wr.alloc (pgO ⟨pkd, (od : Int), pcl, plv, pnx, ppv, pfs, pb0, pb1, pb2, pb3⟩) = W6 at *
        generalize wr.heap.size = y at *
        have KD := hid (show Kept none' W6 W6.drew from (Kept.refl none' W6).drew)
        have XC := hid (show ∀ W, Kept none' W6 W → W.cell? ⟨y, 1, none⟩ = some (.int .i64 (od : Int)) from fun W hW => (pgO_c (PB.out.keep hW).pb).2.1)
        have XE := hid (show ∀ W7 W8 vv ll, Kept none' W6 W7 → GB w1 W7 vv ll → Kept (fun b => vv.ownBlock = some b) W7 W8 → W8.cell? ⟨y, 1, none⟩ = some (.int .i64 (od : Int)) from fun W7 W8 vv ll k7 h7 k8 => k8.cell (fun e => by
          obtain ⟨cs, hcs⟩ := gb_ty h7 e
          rw [(PB.out.keep k7).pb] at hcs
          simp at hcs) (XC.out W7 k7))
        have A6 := hid (show Calls Try.prog 19 #[.pointer (some ⟨ib, 0, none⟩), .int .i64 (a : Int)] W6.drew fun e w' => e = .returned (.int .u64 (m : Int)) ∧ Kept none' W6 w' from (HAD.out W6.drew KD.out).mono fun _ _ ⟨h1, h2⟩ => ⟨h1, by rw [h2]; exact KD.out⟩)
        have x1 := XC.out _ KD.out
        have sh := SH.out
        have sh2 : IntKind.u64.wrap ((4096 : Int) * 2 ^ (min od 64)) = (z : Int) := by rw [Nat.min_eq_left (Nat.le_trans hod8 (by decide))]; exact SH.out
        have LEN := hid (show (f a).length ≤ 4000000 by have := FLA.out; omega)
        clear d0 d1 d2 d3 d4 d5 d6 d7 d8 d9 d10
        go_region_held3 (fun w' => w'.cell? ⟨y, 1, none⟩ = some (.int .i64 (od : Int))) (with_reducible assumption) (first
          | (go_at_call 19; (with_reducible refine A6.out.mono ?_); rintro e w7 ⟨rfl, hk7⟩; have K7 := hid hk7; have v1 := XC.out _ K7.out; have b1 := XC.out _ (K7.out.alloc (bkO m z)); obtain ⟨gg, cap, w8, HAP, G8, K8⟩ := GB.push (GS.keep GA.out K7.out) m z (LEN.out); have e1 := XE.out _ _ _ _ K7.out (GS.keep GA.out K7.out) K8; clear hk7 K8; have G8 := hid G8; replace HAP := hid HAP)
          | (refine step_pushB rfl (.tmp 27) (.tmp 34) rfl rfl rfl HAP.out ?_)
          | fail)
        all_goals
          have R3 := hid (show GB w1 w8 (.slice (some ⟨gg, 0, none⟩) ((f a).length + 1) cap) (f (a + 1)) by rw [FA.out]; exact G8.out)
          go_wp2_with fail
          go_round
          case rel => exact ⟨a + 1, by omega, by go_num, R3⟩
          case measure => simp [intOf]; omega
      · have q2 : (p.kd == 2) = false := by rw [beq_eq_false_iff_ne]; exact hk2
        have PGE2 := hid (show pB = if p.kd = 4 then cB else [] by rw [PGE.out, if_neg hk2])
        clear hk2 y3
        by_cases hk4 : p.kd = 4
        · have q4 : (p.kd == 4) = true := by rw [beq_iff_eq]; exact hk4
          have hpB : pB = cB := by rw [PGE2.out, if_pos hk4]
          rw [hpB] at fa PGL
          have FA := hid fa
          clear hk4 hpB fa
          go_wp2_with fail
          generalize wr.alloc (pgO p) = W6 at *
          generalize wr.heap.size = y at *
          refine (HLC.out W6 (Kept.refl _ _)).mono ?_
          rintro e w7 ⟨u, rfl, hu⟩
          have G7 := hid (GS.keep GA.out hu.kp)
          obtain ⟨v8, w8, HAP, G8, -⟩ := GB.pushL G7.out hu.own (by have := FLA.out; omega) (by have := PGL.out; omega)
          rw [← FA.out] at G8
          have HAP := hid HAP
          have G8 := hid G8
          obtain ⟨ua, uc, hua⟩ := own_val hu.own
          subst hua
          obtain ⟨va8, vc8, hv8⟩ := own_val G8.out.own
          subst hv8
          clear hu d0 d1 d2 d3 d4 d5 d6 d7 d8 d9 d10
          go_wp2_with (at_builtin; refine Lib.wpList_append_run _ rfl _ _ _ _ rfl _ _ rfl rfl _ _ (HAP.out _) ?_)
          go_round
          case rel => exact ⟨a + 1, by omega, by go_num, G8⟩
          case measure => simp [intOf]; omega
        · have q4 : (p.kd == 4) = false := by rw [beq_eq_false_iff_ne]; exact hk4
          have hpB : pB = [] := by rw [PGE2.out, if_neg hk4]
          rw [hpB, List.append_nil] at fa
          have FA := hid fa
          have R3 := hid (show GB w1 (wr.alloc (pgO p)) (.slice va (f a).length vc) (f (a + 1)) by rw [FA.out]; exact GA.out)
          clear hk4 hpB fa
          go_wp2_with fail
          go_round
          case rel => exact ⟨a + 1, by omega, by go_num, R3⟩
          case measure => simp [intOf]; omega
    · obtain rfl : a = n := by omega
      have hai : ¬ (a : Int) < (a : Int) := by omega
      subst hva
      go_wp2_with fail
      go_ret
      refine ⟨_, rfl, ?_⟩
      rw [E.out, ← HN.out]
      refine ⟨hG.out.own, fun g' cap' e => ?_, none_trans K1.out hG.out.kp⟩
      exact Nat.le_trans K1.out.size (hG.out.new g' cap' e)
end Go.Proofs.Ytcgbefmjnhkdgaa
