import Derived.Test.YtgjapopddblpoaaGreatDoorSlF
import Derived.Laws.CopyRow
import Derived.Laws.CopyOwn
/- Package slab: words in the memory; the cell behind a free one; Size. -/
namespace Go.Proofs.YtgjapopddblpoaaGreatDoor
open Go.RowKit
set_option linter.unusedVariables false

theorem space_some7 {w : World} {s : Nat} {a : Option Nat} {base R lim n : Nat} {f : Nat → Nat} (h : M.SpaceAt w s a base R lim n f) (hn : 0 < n) : ∃ g, a = some g := by
  obtain ⟨cap, hb, hr⟩ := h.ex
  cases a with
  | none => exact absurd hr.1 (by omega)
  | some g => exact ⟨g, rfl⟩
theorem Word_s {w W sb lw x t h} (s : SW w W sb lw x t h) (p : Nat) (hin : M.In x.base x.n p 8) :
    Calls Tryz.prog 56 #[.pointer (some ⟨x.s, 0, none⟩), .int .u64 (p : Int)] W fun e w' => e = .returned (.tuple #[.int .u64 ((M.word t.f (p - x.base) : Nat) : Int), .int .i64 0]) ∧ Kept none' W w' := by
  obtain ⟨g, hg⟩ := space_some7 s.pl.bd.sp (by unfold M.In at hin; omega)
  have hs := s.pl.bd.sp
  rw [hg] at hs
  exact (M.Word_in x.s g x.base x.R x.lim x.n t.f p W hs hin).mono fun e w' h => ⟨h.1, toK h.2⟩
theorem SetWord_s {w W sb lw x t h} (s : SW w W sb lw x t h) (p v : Nat) (hv : v < 18446744073709551616) (hin : M.In x.base x.n p 8) :
    Calls Tryz.prog 54 #[.pointer (some ⟨x.s, 0, none⟩), .int .u64 (p : Int), .int .u64 (v : Int)] W fun e w' => e = .returned (.int .i64 0) ∧ SW w w' sb lw x { t with f := M.upd t.f (p - x.base) 8 (M.byteOf v) } h ∧ Kept (bown x) W w' := by
  obtain ⟨g, hg⟩ := space_some7 s.pl.bd.sp (by unfold M.In at hin; omega)
  have hs := s.pl.bd.sp
  rw [hg] at hs
  refine (M.SetWord_in x.s g x.base x.R x.lim x.n t.f p v hv W hs hin).mono ?_
  rintro e w' ⟨rfl, h1, h2⟩
  rw [← hg] at h1 h2
  have kb : Kept (bown x) W w' := (toK h2).mono (fun _ _ e => .inl e)
  refine ⟨rfl, s.call ?_ kb, kb⟩
  exact s.pl.bd.space (toK h2) h1
theorem next_zero {w W sb lw x t h} (s : SW w W sb lw x t h) (p : Nat) (g : Int) (hin : M.In x.base x.n p 8) (hv : M.word t.f (p - x.base) = 0) :
    Calls Tryz.prog 194 #[.pointer (some ⟨sb, 0, none⟩), .int .u64 (p : Int), .int .i64 g] W fun e w' => e = .returned (.tuple #[.int .i64 (-1), .bool true]) ∧ Kept none' W w' := by
  have WD := hid (Word_s s p hin)
  rw [hv] at WD
  have SP := hid (Space6 s.pl)
  obtain ⟨c0, c1⟩ := s.c0
  clear s hv hin
  go_enter Tryz.func194, Tryz.ntmps194
  go_wp2_with fail
  refine SP.out.mono ?_
  rintro e w1 ⟨rfl, h1⟩
  replace h1 := h1.symm
  subst h1
  go_wp2_with fail
  refine WD.out.mono ?_
  rintro e w2 ⟨rfl, hk⟩
  have K2 := hid hk
  clear hk c0 c1
  go_wp2_with fail
  exact ⟨rfl, .tuple #[.int .i64 (-1), .bool true], by simp [results, Tryz.results194, go_sem], rfl, K2.out⟩
set_option maxRecDepth 4000 in
theorem next_cell {w W sb lw x t h} (s : SW w W sb lw x t h) (p g v : Nat) (hin : M.In x.base x.n p 8) (hv : M.word t.f (p - x.base) = v) (hv0 : v ≠ 0) (hv64 : v < 18446744073709551616) (hB : atB x t v = true) (hg : offS x v / 4096 = g) :
    Calls Tryz.prog 194 #[.pointer (some ⟨sb, 0, none⟩), .int .u64 (p : Int), .int .i64 (g : Int)] W fun e w' => e = .returned (.tuple #[.int .i64 ((atN x t v : Nat) : Int), .bool true]) ∧ Kept none' W w' := by
  have WD := hid (Word_s s p hin)
  rw [hv] at WD
  have SP := hid (Space6 s.pl)
  have AT := hid (show ∀ W', Kept none' W W' → Calls Tryz.prog 170 #[.pointer (some ⟨sb, 0, none⟩), .int .u64 (v : Int)] W' fun e w' => e = .returned (.tuple #[cvV (g : Int) ((atN x t v : Nat) : Int) (atQ x t v), .bool true]) ∧ Kept none' W' w' from fun W' k => by
    rw [← hg]
    exact at_yes (s.keep k) v hv64 hB)
  obtain ⟨c0, c1⟩ := s.c0
  have hvb : ((v : Int) == 0) = false := by rw [beq_eq_false_iff_ne]; omega
  generalize atN x t v = n at *
  generalize atQ x t v = q at *
  clear s hv hin hv0 hB hg
  go_enter Tryz.func194, Tryz.ntmps194
  go_wp2_with fail
  refine SP.out.mono ?_
  rintro e w1 ⟨rfl, h1⟩
  replace h1 := h1.symm
  subst h1
  go_wp2_with fail
  refine WD.out.mono ?_
  rintro e w2 ⟨rfl, hk⟩
  have K2 := hid hk
  clear hk c0 c1
  go_wp2_with fail
  refine (AT.out _ K2.out).mono ?_
  rintro e w3 ⟨rfl, hk⟩
  have K3 := hid (none_trans K2.out (hk.alloc (cvO (g : Int) (n : Int) q)))
  have X3 := hid (heap_new w3 (cvO (g : Int) (n : Int) q))
  clear hk
  go_upto_region 5 with fail
  generalize w3.heap.size = u at *
  generalize w3.alloc (cvO (g : Int) (n : Int) q) = W3 at *
  obtain ⟨a0, a1, _⟩ := cv13 X3.out
  have hgg : ((g : Int) == (g : Int)) = true := by simp
  go_quiet (fail)
  have K4 := hid (K3.out.drewN 1)
  go_wp2_with fail
  exact ⟨rfl, .tuple #[.int .i64 (n : Int), .bool true], by simp [results, Tryz.results194, go_sem], rfl, K3.out.drewN _⟩
end Go.Proofs.YtgjapopddblpoaaGreatDoor
/- Package slab: Size; a page's cells chained; a cell entered. -/
namespace Go.Proofs.YtgjapopddblpoaaGreatDoor
open Go.RowKit
set_option linter.unusedVariables false

/-- Is it the address of a live cell? -/
def livS (x : Bx) (t : Bt) (p : Nat) : Bool := atB x t p && litP (atQ x t p) (atN x t p)
set_option maxRecDepth 4000 in
theorem Size_yes {w W sb lw x t h} (s : SW w W sb lw x t h) (p : Nat) (hp : p < 18446744073709551616) (hl : livS x t p = true) :
    Calls Tryz.prog 111 #[.pointer (some ⟨sb, 0, none⟩), .int .u64 (p : Int)] W fun e w' => e = .returned (.int .u64 ((szC (atQ x t p).cl.toNat : Nat) : Int)) ∧ Kept none' W w' := by
  unfold livS at hl
  rw [Bool.and_eq_true] at hl
  have LV := hid (live_yes s p hp hl.1)
  rw [hl.2] at LV
  have ok : PgOk (atQ x t p) := atP_ok s.pl.bd.mp _
  have HT := hid s.tab
  generalize offS x p / 4096 = g at *
  generalize atN x t p = n at *
  generalize atQ x t p = q at *
  obtain ⟨c, hc⟩ := Int.eq_ofNat_of_zero_le ok.c0
  have hc8 : c < 8 := by have := ok.c7; omega
  have hci : (c : Int) < 8 := by omega
  rw [show q.cl.toNat = c by rw [hc]; rfl]
  have HC := hid hc
  obtain ⟨z, hz⟩ : ∃ z, z = szC c := ⟨_, rfl⟩
  rw [← hz]
  have TB := hid (show ∀ W', Kept none' W W' → W'.cell? ⟨0, c, none⟩ = some (.int .u64 (z : Int)) from fun W' k => by rw [hz]; exact k.cell (fun e => e) (HT.out c hc8))
  clear s hl hc hz ok
  go_enter Tryz.func111, Tryz.ntmps111
  go_wp2_with fail
  refine LV.out.mono ?_
  rintro e w1 ⟨rfl, hk⟩
  have K1 := hid (hk.alloc (cvO (g : Int) (n : Int) q))
  have X1 := hid (heap_new w1 (cvO (g : Int) (n : Int) q))
  have ct := TB.out _ K1.out
  clear hk
  go_upto_region 2 with fail
  generalize w1.heap.size = u at *
  generalize w1.alloc (cvO (g : Int) (n : Int) q) = W1 at *
  obtain ⟨_, _, _, _, a4, _⟩ := cv13 X1.out
  rw [HC.out] at a4
  go_wp2_with fail
  go_ret
  exact ⟨rfl, K1.out⟩
theorem Size_no {w W sb lw x t h} (s : SW w W sb lw x t h) (p : Nat) (hp : p < 18446744073709551616) (hl : livS x t p = false) :
    Calls Tryz.prog 111 #[.pointer (some ⟨sb, 0, none⟩), .int .u64 (p : Int)] W fun e w' => e = .returned (.int .u64 0) ∧ Kept none' W w' := by
  have LV := hid (show ∃ g n q, Calls Tryz.prog 127 #[.pointer (some ⟨sb, 0, none⟩), .int .u64 (p : Int)] W fun e w' => e = .returned (.tuple #[cvV g n q, .bool false]) ∧ Kept none' W w' from by
    cases hB : atB x t p with
    | false => exact ⟨_, _, _, live_no s p hp hB⟩
    | true =>
      have := live_yes s p hp hB
      unfold livS at hl
      rw [hB, Bool.true_and] at hl
      rw [hl] at this
      exact ⟨_, _, _, this⟩)
  obtain ⟨g, n, q, LX⟩ := LV.out
  have LY := hid LX
  clear s hl LX LV
  go_enter Tryz.func111, Tryz.ntmps111
  go_wp2_with fail
  refine LY.out.mono ?_
  rintro e w1 ⟨rfl, hk⟩
  have K1 := hid (hk.alloc (cvO g n q))
  clear hk
  go_wp2_with fail
  go_ret
  exact ⟨rfl, K1.out⟩
theorem cells_mul (c : Nat) (hc : c < 8) : 256 / 2 ^ c * szC c = 4096 ∧ 2 ≤ 256 / 2 ^ c ∧ 256 / 2 ^ c ≤ 256 := by
  revert c
  unfold szC
  decide
/-- A page's first k cells chained. -/
def chF (f : Nat → Nat) (P off z : Nat) : Nat → (Nat → Nat)
  | 0 => f
  | k + 1 => M.upd (chF f P off z k) (off + k * z) 8 (M.byteOf (P + (k + 1) * z))
/-- All of them. -/
def chA (f : Nat → Nat) (P off z N : Nat) : Nat → Nat := M.upd (chF f P off z (N - 1)) (off + (N - 1) * z) 8 (M.byteOf 0)
set_option maxRecDepth 4000 in
set_option maxHeartbeats 1000000 in
theorem chain_s {w W sb lw x t h} (s : SW w W sb lw x t h) (g c : Nat) (hc : c < 8) (hg : 4096 * g + 4096 ≤ x.n) :
    Calls Tryz.prog 193 #[.pointer (some ⟨sb, 0, none⟩), .int .u64 ((ad x g : Nat) : Int), .int .i64 (c : Int)] W fun e w' => e = .returned (.tuple #[]) ∧ SW w w' sb lw x { t with f := chA t.f (ad x g) (4096 * g) (szC c) (256 / 2 ^ c) } h ∧ Kept (bown x) W w' := by
  have hbe := s.pl.bd.sp.cfg.be
  have hnl := s.pl.bd.sp.nle
  obtain ⟨P, hP⟩ : ∃ P, P = ad x g := ⟨_, rfl⟩
  obtain ⟨z, hz⟩ : ∃ z, z = szC c := ⟨_, rfl⟩
  obtain ⟨N, hN⟩ : ∃ N, N = 256 / 2 ^ c := ⟨_, rfl⟩
  have hzb := szC_le hc
  have hNz : N * z = 4096 ∧ 2 ≤ N ∧ N ≤ 256 := by
    rw [hN, hz]
    exact cells_mul c hc
  rw [← hz] at hzb
  rw [← hP, ← hz, ← hN]
  have hPb : P = x.base + 4096 * g := by rw [hP]; rfl
  have hci : (c : Int) < 8 := by omega
  have hP64 : P + 4096 ≤ 9223372036854775808 := by omega
  obtain ⟨M1, hM1⟩ : ∃ M1, N = M1 + 1 := ⟨N - 1, by omega⟩
  obtain ⟨La, hLa⟩ : ∃ La, La = P + M1 * z := ⟨_, rfl⟩
  have hMz : M1 * z + z = 4096 := by
    have := hNz.1
    rw [hM1, Nat.add_mul, Nat.one_mul] at this
    exact this
  obtain ⟨P4, hP4⟩ : ∃ P4, P4 = P + 4096 := ⟨_, rfl⟩
  have hLi0 : (P : Int) + 4096 = (P4 : Int) := by omega
  have hLi : (P4 : Int) - (z : Int) = (La : Int) := by omega
  have hP4b : P4 ≤ 9223372036854775808 := by omega
  have hLab : La < 9223372036854775808 := by omega
  have HT := hid s.tab
  have TB := hid (show ∀ W', SW w W' sb lw x t h → True from fun _ _ => trivial)
  have HH := hid (show ∀ f W', SW w W' sb lw x { t with f := f } h → W'.cell? ⟨0, c, none⟩ = some (.int .u64 (z : Int)) from fun f W' k => by rw [hz]; exact k.tab c hc)
  have ct := HH.out t.f W s
  have HP := hid hPb
  have HLA := hid hLa
  have HMZ := hid hMz
  have HGN := hid hg
  have I0 := hid (show SW w W sb lw x { t with f := chF t.f P (4096 * g) z 0 } h ∧ Kept (bown x) W W from ⟨s, Kept.refl _ _⟩)
  rw [show chA t.f P (4096 * g) z N = M.upd (chF t.f P (4096 * g) z M1) (4096 * g + M1 * z) 8 (M.byteOf 0) by unfold chA; rw [hM1, Nat.add_sub_cancel]]
  clear s hP hz hN hPb hLa hMz hg hNz hM1 hP4
  go_enter Tryz.func193, Tryz.ntmps193
  go_wp2_with fail
  go_loopw [1] (fun sp W' => ∃ k pk : Nat, k ≤ M1 ∧ pk = P + k * z ∧ sp = .int .u64 (pk : Int) ∧ Hid (SW w W' sb lw x { t with f := chF t.f P (4096 * g) z k } h ∧ Kept (bown x) W W')) (fun sp _ => La - (intOf sp).toNat)
  case atStart => exact ⟨0, P, Nat.zero_le _, by rw [Nat.zero_mul, Nat.add_zero], rfl, I0⟩
  case round =>
    clear I0 ct
    obtain ⟨k, pk, hk, hpk, rfl, HI⟩ := hrel
    have SI := hid HI.out.1
    have KI := hid HI.out.2
    clear HI
    have ct := HH.out _ wr SI.out
    obtain ⟨c0, c1⟩ := SI.out.c0
    have hkz : k * z ≤ M1 * z := Nat.mul_le_mul_right _ hk
    have hpl : pk ≤ La := by rw [hpk, HLA.out]; omega
    by_cases hlt : k < M1
    · have hkz1 : (k + 1) * z ≤ M1 * z := Nat.mul_le_mul_right _ hlt
      rw [Nat.add_mul, Nat.one_mul] at hkz1
      have hpi : (pk : Int) < (La : Int) := by
        have := HLA.out
        omega
      obtain ⟨pn, hpn⟩ : ∃ pn, pn = pk + z := ⟨_, rfl⟩
      have hpni : (pk : Int) + (z : Int) = (pn : Int) := by omega
      have hpnb : pn ≤ La := by have := HLA.out; omega
      have hwn : IntKind.u64.wrap (pn : Int) = (pn : Int) := by rw [wrap_u64]; omega
      have SWD := hid (show ∀ W', Kept none' wr W' → Calls Tryz.prog 54 #[.pointer (some ⟨x.s, 0, none⟩), .int .u64 (pk : Int), .int .u64 (pn : Int)] W' fun e w' => e = .returned (.int .i64 0) ∧ SW w w' sb lw x { t with f := chF t.f P (4096 * g) z (k + 1) } h ∧ Kept (bown x) wr w' from fun W' kk => by
        have hin : M.In x.base x.n pk 8 := by
          unfold M.In
          have := HP.out
          have := HGN.out
          have := HMZ.out
          omega
        refine (SetWord_s (SI.out.keep kk) pk pn (by omega) hin).mono ?_
        rintro e w' ⟨rfl, h1, h2⟩
        refine ⟨rfl, ?_, kk.trans h2 (fun _ _ e => e.elim) (fun _ _ e => e)⟩
        rw [show pk - x.base = 4096 * g + k * z by have := HP.out; omega, show pn = P + (k + 1) * z by rw [Nat.add_mul, Nat.one_mul]; omega] at h1
        exact h1)
      have hpe := hid (show pn = P + (k + 1) * z from by rw [Nat.add_mul, Nat.one_mul]; omega)
      clear hpn hpk hkz hkz1
      go_upto_region 3 with fail
      have KD := hid ((Kept.refl none' wr).drew)
      have SP := hid (Space6 (SI.out.keep KD.out).pl)
      obtain ⟨d0, d1⟩ := (SI.out.keep KD.out).c0
      have dt := HH.out _ _ (SI.out.keep KD.out)
      go_region_held3 (fun w' => w'.cell? ⟨sb, 0, none⟩ = some (.pointer (some ⟨lw, 0, none⟩)) ∧ w'.cell? ⟨0, c, none⟩ = some (.int .u64 (z : Int))) ((refine ⟨?_, ?_⟩ <;> first | with_reducible assumption | fail)) (first
        | (go_at_call 54; (with_reducible refine (SWD.out _ KD.out).mono ?_); rintro e w5 ⟨rfl, hs5, hk5⟩; obtain ⟨f0, f1⟩ := hs5.c0; have f2 := HH.out _ _ hs5; have S5 := hid hs5; have K5 := hid (KI.out.trans hk5 (fun _ _ e => e) (fun _ _ e => e)); clear hs5 hk5)
        | (go_at_call 53; (with_reducible refine SP.out.mono ?_); rintro e w3 ⟨rfl, h3⟩; replace h3 := h3.symm; subst h3)
        | fail)
      all_goals
        clear ct c0 c1 d0 d1 dt SP SWD
        go_wp2_with fail
        go_round
        case rel => exact ⟨k + 1, pn, hlt, hpe.out, rfl, hid ⟨S5.out, K5.out⟩⟩
        case measure => simp [intOf]; omega
    · have hke : k = M1 := by omega
      subst hke
      have hpe : pk = La := by rw [hpk, HLA.out]
      subst hpe
      have hpi : ¬ (pk : Int) < (pk : Int) := by omega
      have SP := hid (Space6 SI.out.pl)
      have SWD := hid (show Calls Tryz.prog 54 #[.pointer (some ⟨x.s, 0, none⟩), .int .u64 (pk : Int), .int .u64 0] wr fun e w' => e = .returned (.int .i64 0) ∧ SW w w' sb lw x { t with f := M.upd (chF t.f P (4096 * g) z k) (4096 * g + k * z) 8 (M.byteOf 0) } h ∧ Kept (bown x) wr w' from by
        have hin : M.In x.base x.n pk 8 := by
          unfold M.In
          have := HP.out
          have := HGN.out
          have := HMZ.out
          omega
        refine (SetWord_s SI.out pk 0 (by omega) hin).mono ?_
        rintro e w' ⟨rfl, h1, h2⟩
        refine ⟨rfl, ?_, h2⟩
        rw [show pk - x.base = 4096 * g + k * z by have := HP.out; omega] at h1
        exact h1)
      clear hpk hkz
      go_wp2_with fail
      refine SP.out.mono ?_
      rintro e w3 ⟨rfl, h3⟩
      replace h3 := h3.symm
      subst h3
      go_wp2_with fail
      refine SWD.out.mono ?_
      rintro e w5 ⟨rfl, hs5, hk5⟩
      have D := hid (And.intro hs5 (KI.out.trans hk5 (fun _ _ e => e) (fun _ _ e => e)))
      clear hs5 hk5 ct c0 c1
      go_wp2_with fail
      exact ⟨rfl, .tuple #[], by simp [results, Tryz.results193, go_sem], rfl, D.out⟩
end Go.Proofs.YtgjapopddblpoaaGreatDoor
/- Package slab: a cell entered; New, Partial. -/
namespace Go.Proofs.YtgjapopddblpoaaGreatDoor
open Go.RowKit
set_option linter.unusedVariables false

/-- The address of what heads a page's list. -/
def hdA (x : Bx) (g c : Nat) (fs : Int) : Nat := if fs = -1 then 0 else caN x g c fs.toNat
set_option maxRecDepth 4000 in
set_option maxHeartbeats 1000000 in
theorem enter_s {w W sb lw x t h} (s : SW w W sb lw x t h) (g n c p : Nat) (q : Pg) (hg : g ≤ 1024) (hc : c < 8) (hcl : q.cl = (c : Int)) (hfs : q.fs = -1 ∨ ∃ j : Nat, j ≤ 256 ∧ q.fs = (j : Int)) (hp : p < 18446744073709551616) (hin : M.In x.base x.n p 8) :
    Calls Tryz.prog 132 #[.pointer (some ⟨sb, 0, none⟩), cvV (g : Int) (n : Int) q, .int .u64 (p : Int)] W fun e w' => e = .returned (.tuple #[]) ∧ SW w w' sb lw x ⟨M.upd t.f (p - x.base) 8 (M.byteOf (hdA x g c q.fs)), firstM t.m (g : Int) (n : Int), t.hd⟩ h ∧ Kept (bown x) W w' := by
  have hbe := s.pl.bd.sp.cfg.be
  have hnl := s.pl.bd.sp.nle
  have hv64 : hdA x g c q.fs < 18446744073709551616 := by
    unfold hdA
    split
    · omega
    · rcases hfs with e | ⟨j, hj, e⟩
      · contradiction
      · rw [e, Int.toNat_natCast]
        unfold caN
        have h1 := szC_le hc
        have h2 := Nat.mul_le_mul hj h1.2
        omega
  have K0 := hid ((Kept.refl none' W).alloc (cvO (g : Int) (n : Int) q))
  have X0 := hid (heap_new W (cvO (g : Int) (n : Int) q))
  have S0 := hid (s.keep K0.out)
  have NY := hid (show ¬ bown x W.heap.size from fun e => absurd (s.pl.lt _ (.inl e)) (Nat.lt_irrefl _))
  obtain ⟨v, hv⟩ : ∃ v, v = hdA x g c q.fs := ⟨_, rfl⟩
  rw [← hv] at hv64 ⊢
  have HV := hid hv
  have HC := hid hcl
  have HF := hid hfs
  clear s hv hcl hfs hbe hnl
  go_enter Tryz.func132, Tryz.ntmps132
  go_upto_region 1 with fail
  generalize W.heap.size = y at *
  generalize W.alloc (cvO (g : Int) (n : Int) q) = W0 at *
  have REST := hid (show ∀ W', Kept none' W0 W' → (Calls Tryz.prog 54 #[.pointer (some ⟨x.s, 0, none⟩), .int .u64 (p : Int), .int .u64 (v : Int)] W' fun e w' => e = .returned (.int .i64 0) ∧ SW w w' sb lw x { t with f := M.upd t.f (p - x.base) 8 (M.byteOf v) } h ∧ Kept (bown x) W' w') from fun W' k => SetWord_s (S0.out.keep k) p v hv64 hin)
  obtain ⟨a0, a1, a2, a3, a4, a5, a6, a7, a8, _⟩ := cv13 X0.out
  obtain ⟨c0, c1⟩ := S0.out.c0
  by_cases hf : q.fs = -1
  · have hb : (q.fs != -1) = false := by rw [hf]; rfl
    have hv0 : v = 0 := by rw [HV.out]; unfold hdA; rw [if_pos hf]
    subst hv0
    have SP := hid (Space6 S0.out.pl)
    have SWD := hid (REST.out W0 (Kept.refl none' W0))
    as_aux_lemma =>
      go_wp2_with fail
      refine SP.out.mono ?_
      rintro e w3 ⟨rfl, h3⟩
      replace h3 := h3.symm
      subst h3
      go_wp2_with fail
      refine SWD.out.mono ?_
      rintro e w4 ⟨rfl, hs4, hk4⟩
      have S4 := hid hs4
      have K4 := hid (K0.out.trans hk4 (fun _ _ e => e.elim) (fun _ _ e => e))
      have X4 := hid ((hk4.block _ (heap_lt X0.out) NY.out).trans X0.out)
      clear hs4 hk4 a0 a1 a2 a3 a4 a5 a6 a7 a8 c0 c1
      go_upto_region 5 with fail
      have KD := hid ((Kept.refl none' w4).drew)
      have S5 := hid (S4.out.keep KD.out)
      have X5 := hid ((KD.out.block _ (heap_lt X4.out) (fun e => e)).trans X4.out)
      obtain ⟨d0, d1, _⟩ := cv13 X5.out
      obtain ⟨c0, c1⟩ := S5.out.c0
      have MP := hid (Map6 S5.out.pl)
      have FR := hid (First_s S5.out (g : Int) (n : Int))
      go_region_held3 (fun w' => w'.cell? ⟨sb, 0, none⟩ = some (.pointer (some ⟨lw, 0, none⟩)) ∧ w'.cell? ⟨y, 0, none⟩ = some (.int .i64 (g : Int)) ∧ w'.cell? ⟨y, 1, none⟩ = some (.int .i64 (n : Int))) ((refine ⟨?_, ?_, ?_⟩ <;> first | with_reducible assumption | fail)) (first
        | (go_at_call 179; (with_reducible refine FR.out.mono ?_); rintro e w6 ⟨rfl, hs6, hk6⟩; obtain ⟨f0, f1⟩ := hs6.c0; have f2 := hk6.cell NY.out d0; have f3 := hk6.cell NY.out d1; have D6 := hid (And.intro hs6 ((K4.out.trans KD.out (fun _ _ e => e) (fun _ _ e => e.elim)).trans hk6 (fun _ _ e => e) (fun _ _ e => e))); clear hs6 hk6)
        | (go_at_call 40; (with_reducible refine MP.out.mono ?_); rintro e w5 ⟨rfl, h5⟩; replace h5 := h5.symm; subst h5)
        | fail)
      all_goals
        go_wp2_with fail
        exact ⟨rfl, .tuple #[], by simp [results, Tryz.results132, go_sem], rfl, D6.out⟩
  · obtain ⟨j, hj, hfj⟩ : ∃ j : Nat, j ≤ 256 ∧ q.fs = (j : Int) := by
      rcases HF.out with e | e
      · exact absurd e hf
      · exact e
    have hb : (q.fs != -1) = true := bne_iff_ne.2 hf
    have AD := hid (address_s S0.out g c j hg hc hj)
    have hvj : v = caN x g c j := by rw [HV.out]; unfold hdA; rw [if_neg hf, hfj]; rfl
    rw [← hvj] at AD
    rw [HC.out] at a4
    have AQ := hid hfj
    rw [AQ.out] at a8
    have hb2 : ((j : Int) != -1) = true := bne_iff_ne.2 (by omega)
    clear hfj hvj hf hb
    as_aux_lemma =>
      go_wp2_with fail
      refine AD.out.mono ?_
      rintro e w1 ⟨rfl, hk1⟩
      have S1 := hid (S0.out.keep hk1)
      have X1 := hid ((hk1.block _ (heap_lt X0.out) (fun e => e)).trans X0.out)
      have K1 := hid (none_trans K0.out hk1)
      have SP := hid (Space6 S1.out.pl)
      have SWD := hid (REST.out w1 hk1)
      clear hk1 c0 c1 a0 a1 a2 a3 a4 a5 a6 a7 a8
      obtain ⟨a0, a1, a2, a3, a4, a5, a6, a7, a8, _⟩ := cv13 X1.out
      obtain ⟨c0, c1⟩ := S1.out.c0
      go_wp2_with fail
      refine SP.out.mono ?_
      rintro e w3 ⟨rfl, h3⟩
      replace h3 := h3.symm
      subst h3
      go_wp2_with fail
      refine SWD.out.mono ?_
      rintro e w4 ⟨rfl, hs4, hk4⟩
      have S4 := hid hs4
      have K4 := hid (K1.out.trans hk4 (fun _ _ e => e.elim) (fun _ _ e => e))
      have X4 := hid ((hk4.block _ (heap_lt X1.out) NY.out).trans X1.out)
      clear hs4 hk4 a0 a1 a2 a3 a4 a5 a6 a7 a8 c0 c1
      go_upto_region 5 with fail
      have KD := hid ((Kept.refl none' w4).drew)
      have S5 := hid (S4.out.keep KD.out)
      have X5 := hid ((KD.out.block _ (heap_lt X4.out) (fun e => e)).trans X4.out)
      obtain ⟨d0, d1, _⟩ := cv13 X5.out
      obtain ⟨c0, c1⟩ := S5.out.c0
      have MP := hid (Map6 S5.out.pl)
      have FR := hid (First_s S5.out (g : Int) (n : Int))
      go_region_held3 (fun w' => w'.cell? ⟨sb, 0, none⟩ = some (.pointer (some ⟨lw, 0, none⟩)) ∧ w'.cell? ⟨y, 0, none⟩ = some (.int .i64 (g : Int)) ∧ w'.cell? ⟨y, 1, none⟩ = some (.int .i64 (n : Int))) ((refine ⟨?_, ?_, ?_⟩ <;> first | with_reducible assumption | fail)) (first
        | (go_at_call 179; (with_reducible refine FR.out.mono ?_); rintro e w6 ⟨rfl, hs6, hk6⟩; obtain ⟨f0, f1⟩ := hs6.c0; have f2 := hk6.cell NY.out d0; have f3 := hk6.cell NY.out d1; have D6 := hid (And.intro hs6 ((K4.out.trans KD.out (fun _ _ e => e) (fun _ _ e => e.elim)).trans hk6 (fun _ _ e => e) (fun _ _ e => e))); clear hs6 hk6)
        | (go_at_call 40; (with_reducible refine MP.out.mono ?_); rintro e w5 ⟨rfl, h5⟩; replace h5 := h5.symm; subst h5)
        | fail)
      all_goals
        go_wp2_with fail
        exact ⟨rfl, .tuple #[], by simp [results, Tryz.results132, go_sem], rfl, D6.out⟩
end Go.Proofs.YtgjapopddblpoaaGreatDoor
/- Package slab: New, Open, Partial. -/
namespace Go.Proofs.YtgjapopddblpoaaGreatDoor
open Go.RowKit
set_option linter.unusedVariables false

theorem SW.congr {w W sb lw x t h h'} (s : SW w W sb lw x t h) (e : ∀ k, k < 8 → h k = h' k) : SW w W sb lw x t h' := by
  refine ⟨s.pl, ?_, s.nw, s.tb⟩
  have := s.bx
  rw [slO, e 0 (by decide), e 1 (by decide), e 2 (by decide), e 3 (by decide), e 4 (by decide), e 5 (by decide), e 6 (by decide), e 7 (by decide)] at this
  exact this
set_option maxRecDepth 4000 in
theorem over_s {w W lw x t fr ls} (s : PO w W lw x t fr ls) (hT : Tab w) :
    Calls Tryz.prog 73 #[.pointer (some ⟨lw, 0, none⟩)] W fun e w' => ∃ sb, e = .returned (.pointer (some ⟨sb, 0, none⟩)) ∧ SW w w' sb lw x t (fun _ => 0) ∧ Kept none' W w' ∧ W.heap.size ≤ sb := by
  obtain ⟨n1, n2, n3, n4, _⟩ := s.nums
  have hst := s.st
  have HM := hid (Map6 s.pl)
  have PG := hid (pages6 s)
  have SP := hid (fun W' (k : Kept none' W W') => Space6 (s.keep k).pl)
  obtain ⟨pn, hpn⟩ : ∃ pn, pn = t.m.n := ⟨_, rfl⟩
  obtain ⟨xn, hxn⟩ : ∃ xn, xn = x.n := ⟨_, rfl⟩
  obtain ⟨en, hen⟩ : ∃ en, en = x.base + x.n := ⟨_, rfl⟩
  have EN := hid (fun W' (k : Kept none' W W') => end6 (s.keep k))
  rw [← hen] at EN
  rw [← hpn] at PG
  have hpi : (pn : Int) * 4096 = (xn : Int) := by omega
  have hxb : xn ≤ 4194304 := by omega
  have hpb : pn ≤ 1024 := by omega
  obtain ⟨bs, hbs⟩ : ∃ bs, bs = x.base := ⟨_, rfl⟩
  have heb : (en : Int) - (xn : Int) = (bs : Int) := by omega
  have henb : en ≤ 9223372036854775808 := by omega
  have hbsb : bs ≤ 9223372036854775808 := by omega
  have HB := hid hbs
  have HS := hid s
  have HT := hid hT
  clear s hst n1 n2 n3 n4 hpn hxn hen hbs hT
  go_enter Tryz.func73, Tryz.ntmps73
  go_wp2_with fail
  refine HM.out.mono ?_
  rintro e w1 ⟨rfl, h1⟩
  replace h1 := h1.symm
  subst h1
  go_wp2_with fail
  refine PG.out.mono ?_
  rintro e w2 ⟨rfl, h2⟩
  replace h2 := h2.symm
  subst h2
  go_wp2_with fail
  refine (SP.out _ (Kept.refl none' W)).mono ?_
  rintro e w3 ⟨rfl, h3⟩
  replace h3 := h3.symm
  subst h3
  go_wp2_with fail
  refine (EN.out _ (Kept.refl none' W)).mono ?_
  rintro e w4 ⟨rfl, hk⟩
  have D := hid (show SW w (w4.alloc (slO lw bs (fun _ => 0))) w4.heap.size lw x t (fun _ => 0) ∧ Kept none' W (w4.alloc (slO lw bs (fun _ => 0))) ∧ W.heap.size ≤ w4.heap.size from by
    have k2 := hk.alloc (slO lw bs (fun _ => 0))
    refine ⟨⟨(HS.out.keep k2).pl, ?_, Nat.le_trans (HS.out.keep hk).pl.kp.size (Nat.le_refl _), HT.out⟩, k2, hk.size⟩
    rw [← HB.out]
    exact heap_new w4 _)
  clear hk
  go_wp2_with fail
  go_ret
  exact ⟨_, rfl, D.out⟩
theorem New7 {w W lw x t fr ls} (s : PO w W lw x t fr ls) (hT : Tab w) :
    Calls Tryz.prog 34 #[.pointer (some ⟨lw, 0, none⟩)] W fun e w' => ∃ sb, e = .returned (.pointer (some ⟨sb, 0, none⟩)) ∧ SW w w' sb lw x t (fun _ => -1) ∧ Kept none' W w' ∧ W.heap.size ≤ sb := by
  have OV := hid (over_s s hT)
  clear s hT
  go_enter Tryz.func34, Tryz.ntmps34
  go_wp2_with fail
  refine OV.out.mono ?_
  rintro e w1 ⟨sb, rfl, hs, hk, hz⟩
  have I0 := hid (show SW w w1 sb lw x t (fun j => if j < 0 then -1 else 0) ∧ Kept none' W w1 from ⟨hs, hk⟩)
  have HZ := hid hz
  clear hs hk hz OV
  go_wp2_with fail
  go_loopw [7] (fun si W' => ∃ k : Nat, k ≤ 8 ∧ si = .int .i64 (k : Int) ∧ Hid (SW w W' sb lw x t (fun j => if j < k then -1 else 0) ∧ Kept none' W W')) (fun si _ => 8 - (intOf si).toNat)
  case atStart => exact ⟨0, by decide, rfl, I0⟩
  case round =>
    clear I0
    obtain ⟨k, hk, rfl, HI⟩ := hrel
    have SI := hid HI.out.1
    have KI := hid HI.out.2
    clear HI
    by_cases hlt : k < 8
    · have hki : (k : Int) < 8 := by omega
      have c2 := SI.out.hd k hlt
      have fz := SI.out.fz (2 + k)
      have S2 := hid (show SW w (wr.setCell ⟨sb, 2 + k, none⟩ (.int .i64 (-1))) sb lw x t (fun j => if j < k + 1 then -1 else 0) ∧ Kept none' W (wr.setCell ⟨sb, 2 + k, none⟩ (.int .i64 (-1))) from by
        refine ⟨(SI.out.set k hlt (-1)).congr (fun j hj => ?_), KI.out.setNew (p := ⟨sb, 2 + k, none⟩) (fun e => absurd e (Nat.not_lt.2 HZ.out)) _⟩
        unfold uphI
        by_cases e : j = k
        · rw [if_pos e, if_pos (by omega)]
        · rw [if_neg e]
          show (if j < k then (-1 : Int) else 0) = if j < k + 1 then (-1 : Int) else 0
          by_cases e2 : j < k
          · rw [if_pos e2, if_pos (by omega)]
          · rw [if_neg e2, if_neg (by omega)])
      go_wp2_with fail
      go_round
      case rel => exact ⟨k + 1, by omega, by go_num, S2⟩
      case measure => simp [intOf]; omega
    · have hki : ¬ (k : Int) < 8 := by omega
      have D := hid (show SW w wr sb lw x t (fun _ => -1) ∧ Kept none' W wr ∧ W.heap.size ≤ sb from ⟨SI.out.congr (fun j hj => by show (if j < k then (-1 : Int) else 0) = -1; rw [if_pos (by omega)]), KI.out, HZ.out⟩)
      go_wp2_with fail
      go_ret
      exact ⟨sb, rfl, D.out⟩
end Go.Proofs.YtgjapopddblpoaaGreatDoor
/- Package slab: Open. -/
namespace Go.Proofs.YtgjapopddblpoaaGreatDoor
open Go.RowKit
set_option linter.unusedVariables false

theorem info_num7 : (Tryz.prog.info? 3).map (fun i => i.size) = some 1 := by kernel_rfl
def hdVs (h : Nat → Int) : List Value := [.int .i64 (h 0), .int .i64 (h 1), .int .i64 (h 2), .int .i64 (h 3), .int .i64 (h 4), .int .i64 (h 5), .int .i64 (h 6), .int .i64 (h 7)]
theorem hdVs_get (h : Nat → Int) (j : Nat) (u : Value) (e : (hdVs h)[j]? = some u) : j < 8 ∧ u = .int .i64 (h j) := by
  unfold hdVs at e
  rcases j with _ | _ | _ | _ | _ | _ | _ | _ | j <;> simp at e <;> (subst e; exact ⟨by omega, rfl⟩)
/-- Eight numbers in memory. -/
def Hd8 (W : World) (a : Addr) (h : Nat → Int) : Prop := ∀ j, j < 8 → W.cell? (a.add j) = some (.int .i64 (h j))
theorem Hd8.keep {W W' : World} {a : Addr} {h : Nat → Int} (s : Hd8 W a h) (k : Kept none' W W') : Hd8 W' a h := fun j hj => k.cell (fun e => e) (s j hj)
end Go.Proofs.YtgjapopddblpoaaGreatDoor
/- Partial lists as lists: who stands behind a page, who ahead of it. -/
namespace Go.Proofs.YtgjapopddblpoaaGreatDoor
open Go.RowKit
set_option linter.unusedVariables false

def hdI : List Nat → Int
  | [] => -1
  | a :: _ => (a : Int)
/-- What stands behind p. -/
def nxI : List Nat → Nat → Int
  | [], _ => -1
  | a :: l, p => if a = p then hdI l else nxI l p
/-- What stands ahead of p. -/
def pvI : List Nat → Nat → Int
  | [], _ => -1
  | a :: l, p => if hdI l = (p : Int) then (a : Int) else pvI l p
theorem hdI_nil {l : List Nat} : hdI l = -1 ↔ l = [] := by
  cases l with
  | nil => exact ⟨fun _ => rfl, fun _ => rfl⟩
  | cons a l =>
    refine ⟨fun e => ?_, fun e => by cases e⟩
    have e : (a : Int) = -1 := e
    omega
theorem hdI_mem {l : List Nat} {p : Nat} (h : hdI l = (p : Int)) : p ∈ l := by
  cases l with
  | nil =>
    have h : (-1 : Int) = (p : Int) := h
    omega
  | cons a l =>
    have h : (a : Int) = (p : Int) := h
    rw [show p = a by omega]
    exact List.mem_cons_self
theorem hdI_cases (l : List Nat) : hdI l = -1 ∨ ∃ r : Nat, hdI l = (r : Int) ∧ r ∈ l := by
  cases l with
  | nil => exact .inl rfl
  | cons a l => exact .inr ⟨a, rfl, List.mem_cons_self⟩
theorem nxI_out {l : List Nat} {p : Nat} (h : p ∉ l) : nxI l p = -1 := by
  induction l with
  | nil => rfl
  | cons a l ih =>
    rw [List.mem_cons, not_or] at h
    rw [nxI, if_neg (fun e => h.1 e.symm)]
    exact ih h.2
theorem pvI_out {l : List Nat} {p : Nat} (h : p ∉ l) : pvI l p = -1 := by
  induction l with
  | nil => rfl
  | cons a l ih =>
    rw [List.mem_cons, not_or] at h
    rw [pvI, if_neg (fun e => h.2 (hdI_mem e))]
    exact ih h.2
theorem nxI_cases (l : List Nat) (p : Nat) (hd : l.Nodup) : nxI l p = -1 ∨ ∃ r : Nat, nxI l p = (r : Int) ∧ r ∈ l ∧ r ≠ p := by
  induction l with
  | nil => exact .inl rfl
  | cons a l ih =>
    rw [List.nodup_cons] at hd
    rw [nxI]
    by_cases e : a = p
    · rw [if_pos e]
      rcases hdI_cases l with h | ⟨r, h1, h2⟩
      · exact .inl h
      · exact .inr ⟨r, h1, List.mem_cons_of_mem _ h2, fun e2 => hd.1 (by rw [e, ← e2]; exact h2)⟩
    · rw [if_neg e]
      rcases ih hd.2 with h | ⟨r, h1, h2, h3⟩
      · exact .inl h
      · exact .inr ⟨r, h1, List.mem_cons_of_mem _ h2, h3⟩
theorem pvI_cases (l : List Nat) (p : Nat) (hd : l.Nodup) : pvI l p = -1 ∨ ∃ r : Nat, pvI l p = (r : Int) ∧ r ∈ l ∧ r ≠ p := by
  induction l with
  | nil => exact .inl rfl
  | cons a l ih =>
    rw [List.nodup_cons] at hd
    rw [pvI]
    by_cases e : hdI l = (p : Int)
    · rw [if_pos e]
      exact .inr ⟨a, rfl, List.mem_cons_self, fun e2 => hd.1 (by rw [e2]; exact hdI_mem e)⟩
    · rw [if_neg e]
      rcases ih hd.2 with h | ⟨r, h1, h2, h3⟩
      · exact .inl h
      · exact .inr ⟨r, h1, List.mem_cons_of_mem _ h2, h3⟩
/-- The head has none ahead of it. -/
theorem pvI_head {a : Nat} {l : List Nat} (hd : (a :: l).Nodup) : pvI (a :: l) a = -1 := by
  rw [List.nodup_cons] at hd
  rw [pvI, if_neg (fun e => hd.1 (hdI_mem e))]
  exact pvI_out hd.1
theorem pvI_no {l : List Nat} {p : Nat} (hd : l.Nodup) (hp : p ∈ l) : pvI l p = -1 ↔ hdI l = (p : Int) := by
  cases l with
  | nil => cases hp
  | cons a l =>
    constructor
    · intro h
      rcases List.mem_cons.1 hp with e | hm
      · rw [e]; rfl
      · exfalso
        clear hp
        induction l generalizing a with
        | nil => cases hm
        | cons b l ih =>
          rw [pvI] at h
          by_cases e : hdI (b :: l) = (p : Int)
          · rw [if_pos e] at h
            omega
          · rw [if_neg e] at h
            rcases List.mem_cons.1 hm with e2 | hm2
            · exact e (by rw [e2]; rfl)
            · exact ih b (List.nodup_cons.1 hd).2 h hm2
    · intro h
      have h : (a : Int) = (p : Int) := h
      rw [show p = a by omega]
      exact pvI_head hd
theorem dropL_cons_self {l : List Nat} {p : Nat} (h : p ∉ l) : M.dropL (p :: l) p = l := by
  unfold M.dropL
  rw [List.filter_cons_of_neg (by simp)]
  exact List.filter_eq_self.2 fun q hq => by simp; exact fun e => h (e ▸ hq)
theorem dropL_cons_ne {l : List Nat} {a p : Nat} (h : a ≠ p) : M.dropL (a :: l) p = a :: M.dropL l p := by
  unfold M.dropL
  rw [List.filter_cons_of_pos (by simp [h])]
theorem dropL_out {l : List Nat} {p : Nat} (h : p ∉ l) : M.dropL l p = l := by
  unfold M.dropL
  exact List.filter_eq_self.2 fun q hq => by simp; exact fun e => h (e ▸ hq)
theorem dropL_nd {l : List Nat} (h : l.Nodup) (p : Nat) : (M.dropL l p).Nodup := h.filter _
theorem hdI_drop {l : List Nat} {p : Nat} (hd : l.Nodup) (hp : p ∈ l) : hdI (M.dropL l p) = if pvI l p = -1 then nxI l p else hdI l := by
  cases l with
  | nil => cases hp
  | cons a l =>
    have hn := List.nodup_cons.1 hd
    by_cases e : a = p
    · subst e
      rw [dropL_cons_self hn.1, if_pos (pvI_head hd), nxI, if_pos rfl]
    · rw [dropL_cons_ne e, if_neg]
      · rfl
      · rw [pvI_no hd hp]
        intro h
        have h : (a : Int) = (p : Int) := h
        omega
theorem nxI_drop {l : List Nat} {p r : Nat} (hd : l.Nodup) (hp : p ∈ l) (hr : r ≠ p) : nxI (M.dropL l p) r = if (r : Int) = pvI l p then nxI l p else nxI l r := by
  induction l with
  | nil => cases hp
  | cons a l ih =>
    have hn := List.nodup_cons.1 hd
    by_cases e : a = p
    · subst e
      rw [dropL_cons_self hn.1, pvI_head hd, if_neg (by omega)]
      show nxI l r = if a = r then hdI l else nxI l r
      rw [if_neg (fun h => hr h.symm)]
    · have hpl : p ∈ l := by
        rcases List.mem_cons.1 hp with h | h
        · exact absurd h.symm e
        · exact h
      rw [dropL_cons_ne e]
      have hnx : nxI (a :: l) p = nxI l p := by rw [nxI, if_neg e]
      rw [hnx]
      by_cases e2 : a = r
      · subst e2
        rw [nxI, if_pos rfl, hdI_drop hn.2 hpl, nxI, if_pos rfl, pvI]
        by_cases e3 : hdI l = (p : Int)
        · rw [if_pos e3, if_pos rfl, if_pos ((pvI_no hn.2 hpl).2 e3)]
        · rw [if_neg e3, if_neg (fun h => e3 ((pvI_no hn.2 hpl).1 h)), if_neg]
          intro h
          rcases pvI_cases l p hn.2 with h2 | ⟨b, h2, h3, _⟩
          · rw [h2] at h
            omega
          · rw [h2] at h
            exact hn.1 (by rw [show a = b by omega]; exact h3)
      · rw [nxI, if_neg e2, ih hn.2 hpl, nxI, if_neg e2, pvI]
        by_cases e3 : hdI l = (p : Int)
        · rw [if_pos e3, (pvI_no hn.2 hpl).2 e3, if_neg (by omega), if_neg (fun h => e2 (by omega))]
        · rw [if_neg e3]
theorem pvI_drop {l : List Nat} {p r : Nat} (hd : l.Nodup) (hp : p ∈ l) (hr : r ≠ p) : pvI (M.dropL l p) r = if (r : Int) = nxI l p then pvI l p else pvI l r := by
  induction l with
  | nil => cases hp
  | cons a l ih =>
    have hn := List.nodup_cons.1 hd
    by_cases e : a = p
    · subst e
      rw [dropL_cons_self hn.1, pvI_head hd]
      have hnx : nxI (a :: l) a = hdI l := by rw [nxI, if_pos rfl]
      rw [hnx]
      by_cases e2 : (r : Int) = hdI l
      · rw [if_pos e2]
        exact (pvI_no hn.2 (hdI_mem e2.symm)).2 e2.symm
      · rw [if_neg e2, pvI, if_neg (fun h => e2 h.symm)]
    · have hpl : p ∈ l := by
        rcases List.mem_cons.1 hp with h | h
        · exact absurd h.symm e
        · exact h
      rw [dropL_cons_ne e]
      have hnx : nxI (a :: l) p = nxI l p := by rw [nxI, if_neg e]
      rw [hnx, pvI, hdI_drop hn.2 hpl, ih hn.2 hpl, pvI, pvI]
      by_cases e3 : hdI l = (p : Int)
      · have h1 := (pvI_no hn.2 hpl).2 e3
        rw [if_pos h1, if_pos e3, h1]
        by_cases e4 : nxI l p = (r : Int)
        · rw [if_pos e4, if_pos e4.symm]
        · rw [if_neg e4, if_neg (fun h => e4 h.symm), if_neg (fun h => e4 h.symm), if_neg]
          intro h
          rw [e3] at h
          exact hr (by omega)
      · have h1 : ¬ pvI l p = -1 := fun h => e3 ((pvI_no hn.2 hpl).1 h)
        rw [if_neg h1, if_neg e3]
        by_cases e4 : hdI l = (r : Int)
        · rw [if_pos e4]
          by_cases e5 : (r : Int) = nxI l p
          · exfalso
            -- the head stands behind nobody
            cases l with
            | nil => cases hpl
            | cons b l =>
              have e4 : (b : Int) = (r : Int) := e4
              have : nxI (b :: l) p = (b : Int) := by rw [← e5, e4]
              rw [nxI] at this
              have hn2 := List.nodup_cons.1 hn.2
              by_cases e6 : b = p
              · exact e3 (by rw [e6]; rfl)
              · rw [if_neg e6] at this
                rcases nxI_cases l p hn2.2 with h | ⟨c, h2, h3, _⟩
                · omega
                · exact hn2.1 (by rw [show b = c by omega]; exact h3)
          · rw [if_neg e5, if_pos e4]
        · rw [if_neg e4, if_neg e4]
end Go.Proofs.YtgjapopddblpoaaGreatDoor
