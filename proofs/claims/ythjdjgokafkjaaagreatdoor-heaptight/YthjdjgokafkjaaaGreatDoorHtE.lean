import Derived.Test.YthjdjgokafkjaaaGreatDoorRt
/- HeapTight: the walk. -/
namespace Go.Proofs.YthjdjgokafkjaaaGreatDoor
open Go.RowKit
open Go.Proofs.YthjdjgokafkjaaaGreatDoor.M (RS Bounds mayB pow8)
set_option linter.unusedVariables false

abbrev c8O (b : Nat) (l o : Int) : Obj := .cells #[.int .u64 (b : Int), .int .i64 l, .int .i64 o] 43
theorem c8c {W : World} {y b : Nat} {l o : Int} (h : W.heap[y]? = some (c8O b l o)) : W.cell? ⟨y, 0, none⟩ = some (.int .u64 (b : Int)) ∧ W.cell? ⟨y, 1, none⟩ = some (.int .i64 l) ∧ W.cell? ⟨y, 2, none⟩ = some (.int .i64 o) := by
  refine ⟨?_, ?_, ?_⟩ <;> simp [World.cell?, h]
theorem c8k {W W' : World} {y b : Nat} {l o : Int} (h : W.heap[y]? = some (c8O b l o)) (k : Kept none' W W') : W'.heap[y]? = some (c8O b l o) := (k.block _ (heap_lt h) (fun e => e)).trans h
theorem row_get {W : World} {va : Option Addr} {n vc : Nat} {l : List Nat} {w0 : World} (G : GS w0 W 27 1 (.slice va n vc) n (u64s l)) {i a : Nat} (h : l[i]? = some a) : ∃ g, va = some ⟨g, 0, none⟩ ∧ W.cell? ⟨g, i, none⟩ = some (.int .u64 (a : Int)) := by
  have : (u64s l)[i]? = some (.int .u64 (a : Int)) := by
    unfold u64s
    rw [List.getElem?_map, h]
    rfl
  obtain ⟨g, hg, hc⟩ := own_get G.own this
  exact ⟨g, hg, hc⟩
/-- A new heap, as the loop has it. -/
theorem New8P.ti {w1 w' : World} {base lim o m all : Nat} {e : Ending} (h : New8P w1 base lim o e w') : ∃ hb, e = .returned (.tuple #[.pointer (some ⟨hb, 0, none⟩), .int .i64 0]) ∧ TI w1 w' hb base lim o (4096 * 2 ^ o) m (fun n => n ≤ all) [] [] (.slice none 0 0) := by
  obtain ⟨hb, sb, lw, x, rfl, H, e1, e2, e3, e4, e5⟩ := h
  refine ⟨hb, rfl, ⟨⟨sb, lw, x, _, _, _, _, H, ⟨List.nodup_nil, fun a z => ?_⟩, e1, e3, e5, e2, by show x.n ≤ all; rw [e4]; exact Nat.zero_le _, fun g hg => by simp [Value.ownBlock] at hg⟩, GS.nil _ _ _ _ H.po.pl.kp⟩⟩
  constructor
  · rintro (⟨g, k, i, ⟨h1, _⟩, _⟩ | ⟨q, k, h1, _⟩)
    · cases h1
    · cases h1
  · rintro ⟨h1, _⟩
    cases h1
/-- Between two rounds. -/
def TR (w1 : World) (hb base lim o R m all N : Nat) (i : Nat) (v : Value) (W : World) : Prop := ∃ lr, lr.length = i ∧ TI w1 W hb base lim o R m (fun n => n ≤ all) lr lr v ∧ ∀ a ∈ lr, a < 9223372036854775808 ∧ base ≤ a
set_option maxRecDepth 20000 in
set_option maxHeartbeats 20000000 in
theorem tight_in (base : Nat) (hb64 : base < 18446744073709551616) (lim o : Nat) (hl1 : 1 ≤ lim) (hl2 : lim ≤ 64) (ho : o ≤ 8) (hmay : mayB base (lim : Int) (o : Int) = true) (kk r : Nat) (hk1 : 1 ≤ kk) (hkl : kk ≤ lim) (hall0 : kk * RS o ≤ 65536) (hP : isP r = true) (hr16 : 16 ≤ r) (hrR : r ≤ RS o) (great : Bool) (m : Nat) (hmg : (great = true ∧ m = 4096) ∨ (great = false ∧ m = bdM r)) (w : World) (hT : Tab w) :
    Calls Tryz.prog 5 #[cfgV base (lim : Int) (o : Int), .int .i64 (kk : Int), .int .u64 (r : Int), .bool great] w fun e w' => e = .returned (.bool true) ∧ Kept none' w w' := by
  have hP8 := pow8 o ho
  obtain ⟨R, hR⟩ : ∃ R, R = RS o := ⟨_, rfl⟩
  have hRv : R = 4096 * 2 ^ o := hR
  obtain ⟨all, hall⟩ : ∃ all, all = kk * R := ⟨_, rfl⟩
  have hbr : base % (4096 * 2 ^ o) = 0 := by
    unfold mayB at hmay
    rw [Bool.and_eq_true, Bool.and_eq_true, Bool.and_eq_true, Bool.and_eq_true] at hmay
    have := of_decide_eq_true hmay.2.1.2
    rw [Int.toNat_natCast] at this
    exact this
  have hm3 : M3 m := by
    rcases hmg with ⟨_, e⟩ | ⟨_, e⟩
    · exact .inr (.inr e)
    · unfold bdM at e
      by_cases h : r = 16
      · rw [if_pos h] at e; exact .inr (.inl e)
      · rw [if_neg h] at e; exact .inl e
  obtain ⟨s3, _, _, _, _⟩ := hm3.s
  obtain ⟨dm1, dm2, cm, hcm⟩ := s3.dv
  obtain ⟨N, hN⟩ : ∃ N, N = all / m := ⟨_, rfl⟩
  have hNm : all = N * m := by
    have : m ∣ all := by
      rw [hall, hRv, hcm]
      exact Nat.dvd_trans (Nat.dvd_mul_left m cm) (Nat.dvd_trans (Nat.dvd_mul_right _ _) (Nat.dvd_mul_left _ _))
    rw [hN, Nat.div_mul_cancel this]
  rw [← hR, ← hall] at hall0
  rw [← hR] at hrR
  have hNb : N ≤ 4096 := by
    have := Nat.mul_le_mul_left N dm1
    omega
  -- the size asked for
  obtain ⟨kn, nn, hko, hnn, hnv, hrk⟩ : ∃ kn nn, kn ≤ o ∧ nn = bdC r ∧ nn = 4096 * 2 ^ kn ∧ ((∃ k, k < 8 ∧ r = szC k ∧ m ≠ r ∧ kn = 0) ∨ r = 4096 * 2 ^ kn) := by
    obtain ⟨e, he⟩ := (isP_iff r).1 hP
    have h4 : 4 ≤ e := by
      refine Nat.le_of_not_lt fun h => ?_
      have := Nat.pow_le_pow_right (n := 2) (by decide) (show e ≤ 3 by omega)
      omega
    by_cases h12 : e < 12
    · have hlt : r < 4096 := by
        rw [he]
        exact (pow_lt e 12).2 h12
      refine ⟨0, 4096, Nat.zero_le _, by unfold bdC; rw [if_pos hlt], rfl, .inl ⟨e - 4, by omega, ?_, ?_, rfl⟩⟩
      · rw [he]
        unfold szC
        rw [show (16 : Nat) = 2 ^ 4 from rfl, ← Nat.pow_add]
        congr 1
        omega
      · rcases hmg with ⟨_, e2⟩ | ⟨_, e2⟩
        · omega
        · unfold bdM at e2
          by_cases h : r = 16
          · rw [if_pos h] at e2; omega
          · rw [if_neg h] at e2; omega
    · have hre : r = 4096 * 2 ^ (e - 12) := by
        rw [he, show (4096 : Nat) = 2 ^ 12 from rfl, ← Nat.pow_add]
        congr 1
        omega
      have h0 : 0 < 2 ^ (e - 12) := Nat.pow_pos (by decide)
      refine ⟨e - 12, r, ?_, by unfold bdC; rw [if_neg (by omega)], hre, .inr hre⟩
      rw [hre, hRv] at hrR
      exact (pow_le _ _).1 (Nat.le_of_mul_le_mul_left hrR (by decide))
  have K0 := hid ((Kept.refl none' w).alloc (c8O base (lim : Int) (o : Int)))
  have X0 := hid (heap_new w (c8O base (lim : Int) (o : Int)))
  have AW := hid (awake8 _ (fun j hj => K0.out.cell (fun e => e) (hT j hj)))
  have MY := hid (fun W => refMay_in base hb64 lim o ho hl1 hl2 W)
  rw [hmay] at MY
  have RR := hid (fun W => refR (base : Int) (lim : Int) o ho W)
  rw [← hR] at RR
  have PW := hid (fun W => refPower r (by omega) W)
  rw [hP] at PW
  have BD := hid (fun W => refBound r (by omega) W)
  rw [← hnn] at BD
  have CF := hid (fun W => config8 base (lim : Int) (o : Int) W)
  have NW := hid (fun W (k : Kept none' w W) => (New8_ok base hb64 lim o hl2 ho hmay hbr W (fun j hj => k.cell (fun e => e) (hT j hj))).mono fun e w' h => New8P.ti (m := m) (all := all) h)
  rw [← hRv] at NW
  have hki : (kk : Int) * (R : Int) = (all : Int) := by rw [hall]; simp
  have hNi : (all : Int) / (m : Int) = (N : Int) := by rw [hN]; rfl
  have k1 : ¬ (kk : Int) < 1 := by omega
  have k2 : ¬ (lim : Int) < (kk : Int) := by omega
  have k3 : ¬ (65536 : Int) < (all : Int) := by omega
  have k4 : ¬ (r : Int) < 16 := by omega
  have k5 : ¬ (R : Int) < (r : Int) := by omega
  have hkw : IntKind.u64.wrap (kk : Int) = (kk : Int) := by rw [wrap_u64]; omega
  have hRb : R ≤ 1048576 := by omega
  have hkb : kk ≤ 64 := by omega
  have hm0 : ¬ (m : Int) = 0 := by omega
  have hm1 : ((m : Int) == 0) = false := by rw [beq_eq_false_iff_ne]; exact hm0
  have HH := hid (show M3 m ∧ all = N * m ∧ R = 4096 * 2 ^ o ∧ all = kk * R ∧ kn ≤ o ∧ ((∃ k, k < 8 ∧ r = szC k ∧ m ≠ r ∧ kn = 0) ∨ r = 4096 * 2 ^ kn) ∧ nn = 4096 * 2 ^ kn ∧ kk ≤ lim from ⟨hm3, hNm, hRv, hall, hko, hrk, hnv, hkl⟩)
  have hnb : 4096 ≤ nn ∧ nn ≤ 1048576 := by
    have : 2 ^ kn ≤ 2 ^ 8 := Nat.pow_le_pow_right (by decide) (by omega)
    have : 0 < 2 ^ kn := Nat.pow_pos (by decide)
    omega
  obtain ⟨hn1, hn2⟩ := hnb
  obtain ⟨c0, c1, c2⟩ := c8c X0.out
  have HMG := hid hmg
  clear hT hmay hbr hm3 s3 hcm hN hNm hR hRv hP8 hko hnn hnv hrk hP hall hmg hl1 hl2 ho hk1 hkl hrR hr16
  go_enter Tryz.func5, Tryz.ntmps5
  go_wp2_with fail
  refine AW.out.mono ?_
  rintro e V1 ⟨rfl, hk⟩
  have K1 := hid (none_trans K0.out hk)
  have X1 := hid (c8k X0.out hk)
  clear hk AW c0 c1 c2 X0 K0
  obtain ⟨c0, c1, c2⟩ := c8c X1.out
  go_wp2_with fail
  refine (MY.out _).mono ?_
  rintro e V2 ⟨rfl, hk⟩
  have K2 := hid (none_trans K1.out hk)
  have X2 := hid (c8k X1.out hk)
  clear hk MY c0 c1 c2 X1 K1
  obtain ⟨c0, c1, c2⟩ := c8c X2.out
  go_wp2_with fail
  refine (RR.out _).mono ?_
  rintro e V3 ⟨rfl, hk⟩
  have K3 := hid (none_trans K2.out hk)
  have X3 := hid (c8k X2.out hk)
  clear hk c0 c1 c2 X2 K2
  obtain ⟨c0, c1, c2⟩ := c8c X3.out
  go_wp2_with fail
  refine (PW.out _).mono ?_
  rintro e V4 ⟨rfl, hk⟩
  replace hk := hk.symm
  subst hk
  go_wp2_with fail
  refine (RR.out _).mono ?_
  rintro e V4 ⟨rfl, hk⟩
  have K4 := hid (none_trans K3.out hk)
  have X4 := hid (c8k X3.out hk)
  clear hk c0 c1 c2 X3 K3
  obtain ⟨c0, c1, c2⟩ := c8c X4.out
  go_wp2_with fail
  refine (BD.out _).mono ?_
  rintro e V5 ⟨rfl, hk⟩
  replace hk := hk.symm
  subst hk
  go_upto_region 6 with fail
  go_cut [64] (fun s64 wx => wx = V4 ∧ Hid (s64 = .bool great))
  case first =>
    go_wp2_with fail
    go_meet
    case rel => exact ⟨rfl, hid rfl⟩
  case rest =>
  obtain ⟨rfl, hs64⟩ := hcut
  go_upto_region 8 with fail
  go_cut [10] (fun s10 wx => wx = wc ∧ s10 = .int .u64 (m : Int))
  case first =>
    have h64 := hs64.out
    subst h64
    rcases HMG.out with ⟨hg, hmm⟩ | ⟨hg, hmm⟩
    · subst hg hmm
      go_wp2_with fail
      go_meet
      case rel => exact ⟨rfl, rfl⟩
    · subst hg
      have hmv := hid hmm
      clear hmm
      go_wp2_with fail
      go_meet
      case rel => exact ⟨rfl, by rw [hmv.out]⟩
  case rest =>
  obtain ⟨rfl, rfl⟩ := hcut
  clear HMG hs64
  rename_i wq
  go_wp2_with fail
  refine (CF.out _).mono ?_
  rintro e V6 ⟨rfl, hk⟩
  have K6 := hid (none_trans K4.out hk)
  have X6 := hid (c8k X4.out hk)
  clear hk c0 c1 c2 X4 K4
  go_wp2_with fail
  refine (NW.out _ K6.out).mono ?_
  rintro e V7 ⟨hb, rfl, hTI⟩
  have X7 := hid (c8k X6.out hTI.kp)
  have T0 := hid (show TR V6 hb base lim o R m all N 0 (.slice none 0 0) V7 from ⟨[], rfl, hTI, fun a ha => by cases ha⟩)
  have XK := hid (fun W (k : Kept none' V6 W) => c8k X6.out k)
  clear hTI NW CF BD PW
  obtain ⟨c0, c1, c2⟩ := c8c X7.out
  go_wp2_with fail
  refine (RR.out _).mono ?_
  rintro e V8 ⟨rfl, hk⟩
  have T1 := hid (show TR V6 hb base lim o R m all N 0 (.slice none 0 0) V8 from by
    obtain ⟨lr, h1, h2, h3⟩ := T0.out
    exact ⟨lr, h1, h2.keep hk, h3⟩)
  clear hk T0 X7 c0 c1 c2 RR
  go_wp2_with fail
  go_loopw [14, 15] (fun sl si W => ∃ i : Nat, i ≤ N ∧ si = .int .u64 (i : Int) ∧ ∃ va vc, sl = .slice va i vc ∧ Hid (TR V6 hb base lim o R m all N i (.slice va i vc) W)) (fun _ si _ => N - (intOf si).toNat)
  case atStart => exact ⟨0, Nat.zero_le _, rfl, none, 0, rfl, T1⟩
  case round =>
    clear T1
    obtain ⟨i, hi, rfl, va, vc, rfl, hTR⟩ := hrel
    by_cases hlt : i < N
    · have hii : (i : Int) < (N : Int) := by omega
      have MA := hid (show Calls Tryz.prog 10 #[.pointer (some ⟨hb, 0, none⟩), .int .u64 (m : Int), .bool false] wr fun e w' => ∃ p : Nat, e = .returned (.tuple #[.int .u64 (p : Int), .int .i64 0]) ∧ p < 9223372036854775808 ∧ ∃ g cap w2, (∀ t, (Builtin.append_ #[59, 59] t #[.slice va i vc, .slice (some ⟨w'.heap.size, 0, none⟩) 1 1]).run Tryz.prog (w'.alloc (.cells #[.int .u64 (p : Int)] 27)) = .ok (.slice (some ⟨g, 0, none⟩) (i + 1) cap) w2) ∧ TR V6 hb base lim o R m all N (i + 1) (.slice (some ⟨g, 0, none⟩) (i + 1) cap) w2 from by
        obtain ⟨lr, h1, h2, h3⟩ := hTR.out
        obtain ⟨q1, q2, q3, q4, q5, q6, q7, q8⟩ := HH.out
        refine (h2.mal q1 q4 q8 (by rw [h1, q2]; exact Nat.mul_le_mul_right _ hlt)).mono ?_
        rintro e w' ⟨p, rfl, hp, hbp, hT⟩
        obtain ⟨g, cap, w2, hap, hT2⟩ := hT.push (p := p) (by rw [h1]; omega)
        rw [h1] at hap hT2
        refine ⟨p, rfl, hp, g, cap, w2, hap, lr ++ [p], by simp [h1], hT2, fun a ha => ?_⟩
        rcases List.mem_append.1 ha with ha | ha
        · exact h3 a ha
        · rw [List.mem_singleton] at ha
          subst ha
          exact ⟨hp, hbp⟩)
      go_wp2_with fail
      refine MA.out.mono ?_
      rintro e w2 ⟨p, rfl, hp, g, cap, w3, hap, hT⟩
      have HA := hid hap
      have D := hid hT
      clear hap hT MA hTR
      go_wp2_with (at_builtin; refine Lib.wpList_append_run _ rfl _ _ _ _ rfl (.slice va i vc) (.slice (some ⟨w2.heap.size, 0, none⟩) 1 1) rfl rfl _ _ (HA.out _) ?_)
      exact ⟨⟨i + 1, by omega, by simp, _, _, rfl, D⟩, by simp [intOf]; omega⟩
    · obtain rfl : i = N := by omega
      have hii : ¬ (i : Int) < (i : Int) := by omega
      obtain ⟨lr, hlr, hTI, hba⟩ := hTR.out
      obtain ⟨q1, q2, q3, q4, q5, q6, q7, q8⟩ := HH.out
      obtain ⟨hTD, hAll, hnd⟩ := hTI.done q1 q2 hlr
      have T2 := hid (show TI V6 wr hb base lim o R m (fun n => n = all) (fl2 (fun a => decide ((a - base) % nn = 0)) lr 0) lr (.slice va i vc) from hTD)
      have LR := hid (And.intro hlr (And.intro hba (And.intro hAll hnd)))
      clear hTI hTD hAll hnd q1 q2 q3 q4 q5 q6 q7 q8 hTR hlr hba
      go_wp2_with fail
      go_loopw [18] (fun s18 W' => ∃ j : Nat, j ≤ i ∧ s18 = .int .i64 (j : Int) ∧ Hid (TI V6 W' hb base lim o R m (fun n => n = all) (fl2 (fun a => decide ((a - base) % nn = 0)) lr j) lr (.slice va i vc))) (fun s18 _ => i - (intOf s18).toNat)
      case atStart => exact ⟨0, Nat.zero_le _, rfl, T2⟩
      case round =>
        clear T2
        obtain ⟨j, hj, rfl, hTJ⟩ := hrel
        by_cases hjl : j < i
        · have hji : (j : Int) < (i : Int) := by omega
          obtain ⟨hlen, hba, hAll, hnd⟩ := LR.out
          obtain ⟨a, ha⟩ : ∃ a, lr[j]? = some a := ⟨lr[j]'(by omega), List.getElem?_eq_getElem (by omega)⟩
          have hmem : a ∈ lr := List.mem_of_getElem? ha
          obtain ⟨ha1, ha2⟩ := hba a hmem
          have RW := hid (fun W' lh (T : TI V6 W' hb base lim o R m (fun n => n = all) lh lr (.slice va i vc)) => show ∃ g, va = some ⟨g, 0, none⟩ ∧ W'.cell? ⟨g, j, none⟩ = some (.int .u64 (a : Int)) from by
            have G := T.gs
            rw [hlen] at G
            exact row_get G ha)
          obtain ⟨g, hg, r0⟩ := RW.out _ _ hTJ.out
          subst hg
          have RC := hid (fun W' lh (T : TI V6 W' hb base lim o R m (fun n => n = all) lh lr (.slice (some ⟨g, 0, none⟩) i vc)) => show W'.cell? ⟨g, j, none⟩ = some (.int .u64 (a : Int)) ∧ W'.cell? ⟨w.heap.size, 0, none⟩ = some (.int .u64 (base : Int)) from by
            obtain ⟨g', hg', hc⟩ := RW.out _ _ T
            injection hg' with hg'
            injection hg' with hg'
            subst hg'
            exact ⟨hc, (c8c (XK.out _ T.kp)).1⟩)
          obtain ⟨e0, e1⟩ := RC.out _ _ hTJ.out
          obtain ⟨dd, hdd⟩ : ∃ dd, dd = a - base := ⟨_, rfl⟩
          have hdi : (a : Int) - (base : Int) = (dd : Int) := by omega
          obtain ⟨rm, hrm⟩ : ∃ rm, rm = dd % nn := ⟨_, rfl⟩
          have hri : (dd : Int) % (nn : Int) = (rm : Int) := by rw [hrm]; rfl
          have hn0 : ¬ (nn : Int) = 0 := by omega
          have hn1' : ((nn : Int) == 0) = false := by rw [beq_eq_false_iff_ne]; exact hn0
          have hn3 : decide ((nn : Int) = 0) = false := decide_eq_false hn0
          have hn4 : ¬ nn = 0 := by omega
          have hddb : dd < 9223372036854775808 := by omega
          by_cases h0 : rm = 0
          · have D := hid (fun nq => show TI V6 (wr.drewN nq) hb base lim o R m (fun n => n = all) (fl2 (fun a => decide ((a - base) % nn = 0)) lr (j + 1)) lr (.slice (some ⟨g, 0, none⟩) i vc) from by
              rw [fl2_keep ha (decide_eq_true (by rw [← hdd, ← hrm]; exact h0))]
              exact hTJ.out.keep ((Kept.refl none' wr).drewN nq))
            subst h0
            clear hTJ RW RC hmem ha hba hAll hnd hlen hdd hrm ha1 ha2
            go_wp2_with fail
            go_quiet (fail)
            go_wp2_with fail
            exact ⟨⟨j + 1, by omega, by simp, D.out _⟩, by simp [intOf]; omega⟩
          · have hrb : ((rm : Int) != 0) = true := by rw [bne_iff_ne]; omega
            have hrz : ¬ (rm : Int) = 0 := by omega
            have hrz2 : ¬ rm = 0 := h0
            have hrd : decide ((rm : Int) = 0) = false := decide_eq_false hrz
            have hdw : IntKind.u64.wrap ((a : Int) - (base : Int)) = (dd : Int) := by rw [wrap_u64]; omega
            have hdw2 : IntKind.u64.wrap (dd : Int) = (dd : Int) := by rw [wrap_u64]; omega
            have hrlt : rm < nn := by rw [hrm]; exact Nat.mod_lt _ (by omega)
            have hrw : IntKind.u64.wrap (rm : Int) = (rm : Int) := by rw [wrap_u64]; omega
            have htm : (dd : Int).tmod (nn : Int) = (rm : Int) := by rw [Int.tmod_eq_emod_of_nonneg (by omega)]; exact hri
            obtain ⟨f1, f2⟩ := fl2_drop (kq := fun a => decide ((a - base) % nn = 0)) hnd ha (decide_eq_false (by rw [← hdd, ← hrm]; exact h0))
            have hb0 : base ≠ 0 := by
              intro e
              obtain ⟨⟨sb, lw, x, t, fr, ls, S, H, _, e1, _⟩, _⟩ := hTJ.out
              have := H.po.nums.2.2.1
              omega
            have KD := hid ((Kept.refl none' wr).drew)
            have FR := hid ((hTJ.out.keep KD.out).free f1 (by omega) (by omega) (fl2_nd hnd (j + 1)) f2)
            obtain ⟨d0, d1⟩ := RC.out _ _ (hTJ.out.keep KD.out)
            clear hTJ RW hmem ha hba hAll hnd hlen hdd hrm f1 f2 hb0
            go_wp2_with fail
            go_region_held3 (fun w' => w'.cell? ⟨g, j, none⟩ = some (.int .u64 (a : Int)) ∧ w'.cell? ⟨w.heap.size, 0, none⟩ = some (.int .u64 (base : Int))) (first | with_reducible exact ⟨d0, d1⟩ | with_reducible exact u6) (first
              | (go_at_call 14; (with_reducible refine (FR.out).mono ?_); rintro e w5 ⟨rfl, hT5⟩; have u6 := RC.out _ _ hT5; have D := hid hT5; clear hT5)
              | fail)
            all_goals
              go_wp2_with fail
              exact ⟨⟨j + 1, by omega, by simp, D⟩, by simp [intOf]; omega⟩
        · obtain rfl : j = i := by omega
          have hjj : ¬ (j : Int) < (j : Int) := by omega
          obtain ⟨hlen, hba, hAll, hnd⟩ := LR.out
          obtain ⟨q1, q2, q3, q4, q5, q6, q7, q8⟩ := HH.out
          have EN := hid (show Calls Tryz.prog 10 #[.pointer (some ⟨hb, 0, none⟩), .int .u64 (r : Int), .bool true] wr fun e w' => e = .returned (.tuple #[.int .u64 0, .int .i64 2]) ∧ ∃ L B F : Nat, (nn : Int) * (L : Int) = (m : Int) * (all : Int) ∧ L ≤ 1073741824 ∧ Calls Tryz.prog 13 #[.pointer (some ⟨hb, 0, none⟩)] w' fun e w'' => e = .returned (stV all L B F) ∧ Kept none' w w'' from by
            have T := hTJ.out
            have hfe : fl2 (fun a => decide ((a - base) % nn = 0)) lr j = lr.filter fun a => decide ((a - base) % (4096 * 2 ^ kn) = 0) := by
              rw [← hlen, fl2_end, q7]
            rw [hfe] at T
            refine (T.end q1 q2 hAll q3 q4 q5 q6).mono ?_
            rintro e w' ⟨rfl, _, L, B, F, hb, hLb, hk, hS⟩
            refine ⟨rfl, L, B, F, ?_, hLb, hS.mono fun e w'' h => ⟨h.1, none_trans K6.out h.2⟩⟩
            rw [← q7] at hb
            have := congrArg (Nat.cast : Nat → Int) hb
            simpa using this)
          clear hTJ q1 q2 q3 q4 q5 q6 q7 q8 hlen hba hAll hnd LR
          go_wp2_with fail
          refine EN.out.mono ?_
          rintro e w5 ⟨rfl, L, B, F, hbd, hLb, hS⟩
          have SS := hid hS
          clear hS EN
          go_wp2_with fail
          refine SS.out.mono ?_
          rintro e w6 ⟨rfl, hk6⟩
          have D := hid (hk6.alloc (stO all L B F))
          obtain ⟨u0, u1, u2, u3, u4⟩ := stc (show (w6.alloc (stO all L B F)).heap[w6.heap.size]? = some (stO all L B F) from heap_new w6 _)
          obtain ⟨X, hX⟩ : ∃ X : Int, X = (m : Int) * (all : Int) := ⟨_, rfl⟩
          rw [← hX] at hbd
          have hX2 := hX.symm
          have hXb : 0 ≤ X ∧ X ≤ 268435456 := by
            rw [hX]
            constructor
            · exact Int.mul_nonneg (by omega) (by omega)
            · have : (m : Int) * (all : Int) ≤ 4096 * 65536 := Int.mul_le_mul (by omega) (by omega) (by omega) (by omega)
              omega
          have hXw : IntKind.u64.wrap X = X := by rw [wrap_u64]; omega
          have hXm : X % 18446744073709551616 = X := by omega
          clear hk6 SS hX hXb
          go_wp2_with fail
          go_ret
          exact ⟨by simp, D.out⟩
end Go.Proofs.YthjdjgokafkjaaaGreatDoor
