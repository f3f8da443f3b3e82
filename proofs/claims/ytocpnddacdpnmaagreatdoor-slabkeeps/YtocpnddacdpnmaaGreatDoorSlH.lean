import Derived.Test.YtocpnddacdpnmaaGreatDoorSlG
/- Package slab: Size; a page's cells chained; a cell entered. -/
namespace Go.Proofs.YtocpnddacdpnmaaGreatDoor
open Go.RowKit
set_option linter.unusedVariables false

/-- Is it the address of a live cell? -/
def livS (x : Bx) (t : Bt) (p : Nat) : Bool := atB x t p && litP (atQ x t p) (atN x t p)
set_option maxRecDepth 4000 in
theorem Size_yes {w W sb lw x t h} (s : SW w W sb lw x t h) (p : Nat) (hp : p < 18446744073709551616) (hl : livS x t p = true) :
    Calls Tryz.prog 12 #[.pointer (some ⟨sb, 0, none⟩), .int .u64 (p : Int)] W fun e w' => e = .returned (.int .u64 ((szC (atQ x t p).cl.toNat : Nat) : Int)) ∧ Kept none' W w' := by
  unfold livS at hl
  rw [Bool.and_eq_true] at hl
  have LV := hid (live_yes s p hp hl.1)
  rw [hl.2] at LV
  have ok : PgOk (atQ x t p) := atP_ok s.pl.bd.mp _
  have HT := hid s.tab
  generalize offS x p / 4096 = g at *
  generalize atN x t p = n at *
  generalize atQ x t p = q at *
  obtain ⟨c, hc⟩ := Int.eq_ofNat_of_zero_le ok.c0
  have hc8 : c < 8 := by have := ok.c7; omega
  have hci : (c : Int) < 8 := by omega
  rw [show q.cl.toNat = c by rw [hc]; rfl]
  have HC := hid hc
  obtain ⟨z, hz⟩ : ∃ z, z = szC c := ⟨_, rfl⟩
  rw [← hz]
  have TB := hid (show ∀ W', Kept none' W W' → W'.cell? ⟨0, c, none⟩ = some (.int .u64 (z : Int)) from fun W' k => by rw [hz]; exact k.cell (fun e => e) (HT.out c hc8))
  clear s hl hc hz ok
  go_enter Tryz.func12, Tryz.ntmps12
  go_wp2_with fail
  refine LV.out.mono ?_
  rintro e w1 ⟨rfl, hk⟩
  have K1 := hid (hk.alloc (cvO (g : Int) (n : Int) q))
  have X1 := hid (heap_new w1 (cvO (g : Int) (n : Int) q))
  have ct := TB.out _ K1.out
  clear hk
  go_upto_region 2 with fail
  generalize w1.heap.size = u at *
  generalize w1.alloc (cvO (g : Int) (n : Int) q) = W1 at *
  obtain ⟨_, _, _, _, a4, _⟩ := cv13 X1.out
  rw [HC.out] at a4
  go_wp2_with fail
  go_ret
  exact ⟨rfl, K1.out⟩
theorem Size_no {w W sb lw x t h} (s : SW w W sb lw x t h) (p : Nat) (hp : p < 18446744073709551616) (hl : livS x t p = false) :
    Calls Tryz.prog 12 #[.pointer (some ⟨sb, 0, none⟩), .int .u64 (p : Int)] W fun e w' => e = .returned (.int .u64 0) ∧ Kept none' W w' := by
  have LV := hid (show ∃ g n q, Calls Tryz.prog 39 #[.pointer (some ⟨sb, 0, none⟩), .int .u64 (p : Int)] W fun e w' => e = .returned (.tuple #[cvV g n q, .bool false]) ∧ Kept none' W w' from by
    cases hB : atB x t p with
    | false => exact ⟨_, _, _, live_no s p hp hB⟩
    | true =>
      have := live_yes s p hp hB
      unfold livS at hl
      rw [hB, Bool.true_and] at hl
      rw [hl] at this
      exact ⟨_, _, _, this⟩)
  obtain ⟨g, n, q, LX⟩ := LV.out
  have LY := hid LX
  clear s hl LX LV
  go_enter Tryz.func12, Tryz.ntmps12
  go_wp2_with fail
  refine LY.out.mono ?_
  rintro e w1 ⟨rfl, hk⟩
  have K1 := hid (hk.alloc (cvO g n q))
  clear hk
  go_wp2_with fail
  go_ret
  exact ⟨rfl, K1.out⟩
theorem cells_mul (c : Nat) (hc : c < 8) : 256 / 2 ^ c * szC c = 4096 ∧ 2 ≤ 256 / 2 ^ c ∧ 256 / 2 ^ c ≤ 256 := by
  revert c
  unfold szC
  decide
/-- A page's first k cells chained. -/
def chF (f : Nat → Nat) (P off z : Nat) : Nat → (Nat → Nat)
  | 0 => f
  | k + 1 => M.upd (chF f P off z k) (off + k * z) 8 (M.byteOf (P + (k + 1) * z))
/-- All of them. -/
def chA (f : Nat → Nat) (P off z N : Nat) : Nat → Nat := M.upd (chF f P off z (N - 1)) (off + (N - 1) * z) 8 (M.byteOf 0)
set_option maxRecDepth 4000 in
set_option maxHeartbeats 1000000 in
theorem chain_s {w W sb lw x t h} (s : SW w W sb lw x t h) (g c : Nat) (hc : c < 8) (hg : 4096 * g + 4096 ≤ x.n) :
    Calls Tryz.prog 87 #[.pointer (some ⟨sb, 0, none⟩), .int .u64 ((ad x g : Nat) : Int), .int .i64 (c : Int)] W fun e w' => e = .returned (.tuple #[]) ∧ SW w w' sb lw x { t with f := chA t.f (ad x g) (4096 * g) (szC c) (256 / 2 ^ c) } h ∧ Kept (bown x) W w' := by
  have hbe := s.pl.bd.sp.cfg.be
  have hnl := s.pl.bd.sp.nle
  obtain ⟨P, hP⟩ : ∃ P, P = ad x g := ⟨_, rfl⟩
  obtain ⟨z, hz⟩ : ∃ z, z = szC c := ⟨_, rfl⟩
  obtain ⟨N, hN⟩ : ∃ N, N = 256 / 2 ^ c := ⟨_, rfl⟩
  have hzb := szC_le hc
  have hNz : N * z = 4096 ∧ 2 ≤ N ∧ N ≤ 256 := by
    rw [hN, hz]
    exact cells_mul c hc
  rw [← hz] at hzb
  rw [← hP, ← hz, ← hN]
  have hPb : P = x.base + 4096 * g := by rw [hP]; rfl
  have hci : (c : Int) < 8 := by omega
  have hP64 : P + 4096 ≤ 9223372036854775808 := by omega
  obtain ⟨M1, hM1⟩ : ∃ M1, N = M1 + 1 := ⟨N - 1, by omega⟩
  obtain ⟨La, hLa⟩ : ∃ La, La = P + M1 * z := ⟨_, rfl⟩
  have hMz : M1 * z + z = 4096 := by
    have := hNz.1
    rw [hM1, Nat.add_mul, Nat.one_mul] at this
    exact this
  obtain ⟨P4, hP4⟩ : ∃ P4, P4 = P + 4096 := ⟨_, rfl⟩
  have hLi0 : (P : Int) + 4096 = (P4 : Int) := by omega
  have hLi : (P4 : Int) - (z : Int) = (La : Int) := by omega
  have hP4b : P4 ≤ 9223372036854775808 := by omega
  have hLab : La < 9223372036854775808 := by omega
  have HT := hid s.tab
  have TB := hid (show ∀ W', SW w W' sb lw x t h → True from fun _ _ => trivial)
  have HH := hid (show ∀ f W', SW w W' sb lw x { t with f := f } h → W'.cell? ⟨0, c, none⟩ = some (.int .u64 (z : Int)) from fun f W' k => by rw [hz]; exact k.tab c hc)
  have ct := HH.out t.f W s
  have HP := hid hPb
  have HLA := hid hLa
  have HMZ := hid hMz
  have HGN := hid hg
  have I0 := hid (show SW w W sb lw x { t with f := chF t.f P (4096 * g) z 0 } h ∧ Kept (bown x) W W from ⟨s, Kept.refl _ _⟩)
  rw [show chA t.f P (4096 * g) z N = M.upd (chF t.f P (4096 * g) z M1) (4096 * g + M1 * z) 8 (M.byteOf 0) by unfold chA; rw [hM1, Nat.add_sub_cancel]]
  clear s hP hz hN hPb hLa hMz hg hNz hM1 hP4
  go_enter Tryz.func87, Tryz.ntmps87
  go_wp2_with fail
  go_loopw [1] (fun sp W' => ∃ k pk : Nat, k ≤ M1 ∧ pk = P + k * z ∧ sp = .int .u64 (pk : Int) ∧ Hid (SW w W' sb lw x { t with f := chF t.f P (4096 * g) z k } h ∧ Kept (bown x) W W')) (fun sp _ => La - (intOf sp).toNat)
  case atStart => exact ⟨0, P, Nat.zero_le _, by rw [Nat.zero_mul, Nat.add_zero], rfl, I0⟩
  case round =>
    clear I0 ct
    obtain ⟨k, pk, hk, hpk, rfl, HI⟩ := hrel
    have SI := hid HI.out.1
    have KI := hid HI.out.2
    clear HI
    have ct := HH.out _ wr SI.out
    obtain ⟨c0, c1⟩ := SI.out.c0
    have hkz : k * z ≤ M1 * z := Nat.mul_le_mul_right _ hk
    have hpl : pk ≤ La := by rw [hpk, HLA.out]; omega
    by_cases hlt : k < M1
    · have hkz1 : (k + 1) * z ≤ M1 * z := Nat.mul_le_mul_right _ hlt
      rw [Nat.add_mul, Nat.one_mul] at hkz1
      have hpi : (pk : Int) < (La : Int) := by
        have := HLA.out
        omega
      obtain ⟨pn, hpn⟩ : ∃ pn, pn = pk + z := ⟨_, rfl⟩
      have hpni : (pk : Int) + (z : Int) = (pn : Int) := by omega
      have hpnb : pn ≤ La := by have := HLA.out; omega
      have hwn : IntKind.u64.wrap (pn : Int) = (pn : Int) := by rw [wrap_u64]; omega
      have SWD := hid (show ∀ W', Kept none' wr W' → Calls Tryz.prog 100 #[.pointer (some ⟨x.s, 0, none⟩), .int .u64 (pk : Int), .int .u64 (pn : Int)] W' fun e w' => e = .returned (.int .i64 0) ∧ SW w w' sb lw x { t with f := chF t.f P (4096 * g) z (k + 1) } h ∧ Kept (bown x) wr w' from fun W' kk => by
        have hin : M.In x.base x.n pk 8 := by
          unfold M.In
          have := HP.out
          have := HGN.out
          have := HMZ.out
          omega
        refine (SetWord_s (SI.out.keep kk) pk pn (by omega) hin).mono ?_
        rintro e w' ⟨rfl, h1, h2⟩
        refine ⟨rfl, ?_, kk.trans h2 (fun _ _ e => e.elim) (fun _ _ e => e)⟩
        rw [show pk - x.base = 4096 * g + k * z by have := HP.out; omega, show pn = P + (k + 1) * z by rw [Nat.add_mul, Nat.one_mul]; omega] at h1
        exact h1)
      have hpe := hid (show pn = P + (k + 1) * z from by rw [Nat.add_mul, Nat.one_mul]; omega)
      clear hpn hpk hkz hkz1
      go_upto_region 3 with fail
      have KD := hid ((Kept.refl none' wr).drew)
      have SP := hid (Space6 (SI.out.keep KD.out).pl)
      obtain ⟨d0, d1⟩ := (SI.out.keep KD.out).c0
      have dt := HH.out _ _ (SI.out.keep KD.out)
      go_region_held3 (fun w' => w'.cell? ⟨sb, 0, none⟩ = some (.pointer (some ⟨lw, 0, none⟩)) ∧ w'.cell? ⟨0, c, none⟩ = some (.int .u64 (z : Int))) ((refine ⟨?_, ?_⟩ <;> first | with_reducible assumption | fail)) (first
        | (go_at_call 100; (with_reducible refine (SWD.out _ KD.out).mono ?_); rintro e w5 ⟨rfl, hs5, hk5⟩; obtain ⟨f0, f1⟩ := hs5.c0; have f2 := HH.out _ _ hs5; have S5 := hid hs5; have K5 := hid (KI.out.trans hk5 (fun _ _ e => e) (fun _ _ e => e)); clear hs5 hk5)
        | (go_at_call 27; (with_reducible refine SP.out.mono ?_); rintro e w3 ⟨rfl, h3⟩; replace h3 := h3.symm; subst h3)
        | fail)
      all_goals
        clear ct c0 c1 d0 d1 dt SP SWD
        go_wp2_with fail
        go_round
        case rel => exact ⟨k + 1, pn, hlt, hpe.out, rfl, hid ⟨S5.out, K5.out⟩⟩
        case measure => simp [intOf]; omega
    · have hke : k = M1 := by omega
      subst hke
      have hpe : pk = La := by rw [hpk, HLA.out]
      subst hpe
      have hpi : ¬ (pk : Int) < (pk : Int) := by omega
      have SP := hid (Space6 SI.out.pl)
      have SWD := hid (show Calls Tryz.prog 100 #[.pointer (some ⟨x.s, 0, none⟩), .int .u64 (pk : Int), .int .u64 0] wr fun e w' => e = .returned (.int .i64 0) ∧ SW w w' sb lw x { t with f := M.upd (chF t.f P (4096 * g) z k) (4096 * g + k * z) 8 (M.byteOf 0) } h ∧ Kept (bown x) wr w' from by
        have hin : M.In x.base x.n pk 8 := by
          unfold M.In
          have := HP.out
          have := HGN.out
          have := HMZ.out
          omega
        refine (SetWord_s SI.out pk 0 (by omega) hin).mono ?_
        rintro e w' ⟨rfl, h1, h2⟩
        refine ⟨rfl, ?_, h2⟩
        rw [show pk - x.base = 4096 * g + k * z by have := HP.out; omega] at h1
        exact h1)
      clear hpk hkz
      go_wp2_with fail
      refine SP.out.mono ?_
      rintro e w3 ⟨rfl, h3⟩
      replace h3 := h3.symm
      subst h3
      go_wp2_with fail
      refine SWD.out.mono ?_
      rintro e w5 ⟨rfl, hs5, hk5⟩
      have D := hid (And.intro hs5 (KI.out.trans hk5 (fun _ _ e => e) (fun _ _ e => e)))
      clear hs5 hk5 ct c0 c1
      go_wp2_with fail
      exact ⟨rfl, .tuple #[], by simp [results, Tryz.results87, go_sem], rfl, D.out⟩
end Go.Proofs.YtocpnddacdpnmaaGreatDoor
