/- RegionPlays: croftlaw6.played, Give of any address. -/
import Derived.Test.YtggieolknccabaaGreatRxM
namespace Go.Proofs.YtggieolknccabaaGreat
open Go.RowKit
set_option linter.unusedVariables false

/-- The page that the law takes for an address. -/
def pgL (b a : Nat) : Int := if b ≤ a ∧ a % 4096 = 0 ∧ (a - b) / 4096 < 1024 then (((a - b) / 4096 : Nat) : Int) else -1
theorem live_pgL {w W lw x t fr ls b l r o g0 fc va vc} (h : RW w W lw x t fr ls b l r o g0 fc va vc) (a : Nat) (od : Int) : liveL ls (pgV x.base t.m.n a) od = liveL ls (pgL b a) od ∧ ∀ p : Nat, pgL b a = (p : Int) → a = b + 4096 * p := by
  have hbm := h.po.bm
  rw [h.eb] at hbm
  have hn := h.nums.2.2.2.2.2.1
  by_cases hc : b ≤ a ∧ a % 4096 = 0 ∧ (a - b) / 4096 < 1024
  · have e : pgL b a = (((a - b) / 4096 : Nat) : Int) := by unfold pgL; rw [if_pos hc]
    have ha : a = b + 4096 * ((a - b) / 4096) := by omega
    rw [e]
    exact ⟨live_in h _ od a ha, fun p hp => by rw [← Int.ofNat.inj hp]; exact ha⟩
  · have e : pgL b a = -1 := by unfold pgL; rw [if_neg hc]
    have e2 : pgV x.base t.m.n a = -1 := by
      unfold pgV
      rw [h.eb, if_neg (fun ⟨h1, h2, h3⟩ => hc ⟨h1, h2, by omega⟩)]
    rw [e, e2]
    exact ⟨rfl, fun p hp => by omega⟩
set_option maxRecDepth 4000 in
set_option maxHeartbeats 4000000 in
theorem played3 {w W lw x t fr ls b l r o g0 fc va vc} (h : RW w W lw x t fr ls b l r o g0 fc va vc) (n : Nat) (hn : n = ls.length) (od wh mo : Int) (dn : Bool) (a : Nat) (ha : a < 18446744073709551616) (dv : Value) :
    Calls Tryz.prog 10 #[.pointer (some ⟨lw, 0, none⟩), r6V b (l : Int) (o : Int) (r : Int) (.slice (some ⟨g0, 0, none⟩) (o + 1) fc) (.slice va n vc), opV 3 od wh mo dn (a : Int) dv] W fun e w' => Py6 w W lw x b l o g0 fc va e w' := by
  obtain ⟨n1, n2, n3, n4, n5, n6, n7⟩ := h.nums
  have B0 := hid (PB.start (w := w) (W := W) (lw := lw) (x := x) (va := va) (g0 := g0) (r6O b (l : Int) (o : Int) (r : Int) (.slice (some ⟨g0, 0, none⟩) (o + 1) fc) (.slice va n vc)) (opO 3 od wh mo dn (a : Int) dv))
  have R0 := hid (h.keep (three6 W (r6O b (l : Int) (o : Int) (r : Int) (.slice (some ⟨g0, 0, none⟩) (o + 1) fc) (.slice va n vc)) (opO 3 od wh mo dn (a : Int) dv) r6Z).1)
  obtain ⟨pg, hpg⟩ : ∃ pg, pg = pgL b a := ⟨_, rfl⟩
  have hLP := live_pgL h a od
  rw [← hpg] at hLP
  obtain ⟨ok, fr', ls', hG⟩ := give_both h pg od a ha hLP.1 hLP.2
  have HG := hid hG
  have HPG := hid hpg
  have HN := hid hn
  have hwW := h.po.pl.kp.size
  have HEQ := hid (And.intro h.eb (And.intro h.el (And.intro h.eo h.er)))
  clear h hn hG hpg hLP
  go_enter Tryz.func10, Tryz.ntmps10
  go_upto_region 1 with fail
  generalize ((W.alloc (r6O b (l : Int) (o : Int) (r : Int) (.slice (some ⟨g0, 0, none⟩) (o + 1) fc) (.slice va n vc))).alloc (opO 3 od wh mo dn (a : Int) dv)).alloc r6Z = W0 at *
  obtain ⟨x0, x1, x2, x3, x4, x5, xf⟩ := r6c B0.out.bx
  obtain ⟨o0, o1, o2, o3, o4, o5, o6⟩ := opc B0.out.bo
  go_upto_region 14 with fail
  go_cut [147] (fun sc wx => wx = W0 ∧ Hid (sc = .bool (decide (b ≤ a ∧ a % 4096 = 0 ∧ (a - b) / 4096 < 1024))))
  case first =>
    rename_i KK hKK J KK2 hJ hM
    clear hKK KK
    obtain ⟨e, he⟩ : ∃ e, e = a % 4096 := ⟨_, rfl⟩
    have hei : (a : Int) % 4096 = (e : Int) := by omega
    obtain ⟨c, hc⟩ : ∃ c, c = a - b := ⟨_, rfl⟩
    obtain ⟨d, hd⟩ : ∃ d, d = c / 4096 := ⟨_, rfl⟩
    have hdi : (c : Int) / 4096 = (d : Int) := by omega
    have HC := hid (show (b ≤ a ∧ a % 4096 = 0 ∧ (a - b) / 4096 < 1024) ↔ (b ≤ a ∧ e = 0 ∧ d < 1024) by rw [he, hd, hc])
    by_cases h1 : b ≤ a
    · have h1i : (b : Int) ≤ (a : Int) := by omega
      have hci : (a : Int) - (b : Int) = (c : Int) := by omega
      have hcb : c < 18446744073709551616 := by omega
      have hdb : d < 18446744073709551616 := by omega
      clear he hc hd
      by_cases h2 : e = 0
      · subst h2
        by_cases h3 : d < 1024
        · have h3i : (d : Int) < 1024 := by omega
          go_wp2_with fail
          go_meet
          case rel => exact ⟨rfl, hid (by rw [decide_eq_true (HC.out.2 (by first | exact ⟨h1, rfl, h3⟩ | exact ⟨h1, trivial, h3⟩ | simp [h1, h3]))])⟩
        · have h3i : ¬ (d : Int) < 1024 := by omega
          have h3d : decide ((d : Int) < 1024) = false := decide_eq_false h3i
          go_wp2_with fail
          go_meet
          case rel => exact ⟨rfl, hid (by rw [decide_eq_false (fun e => absurd (HC.out.1 e).2.2 (by omega))])⟩
      · have h2i : ¬ (e : Int) = 0 := by omega
        have h2b : ((e : Int) == 0) = false := beq_eq_false_iff_ne.2 h2i
        go_wp2_with fail
        go_meet
        case rel => exact ⟨rfl, hid (by rw [decide_eq_false (fun e' => h2 (HC.out.1 e').2.1)])⟩
    · have h1i : ¬ (b : Int) ≤ (a : Int) := by omega
      have h1d : decide ((b : Int) ≤ (a : Int)) = false := decide_eq_false h1i
      clear he hc hd
      go_wp2_with fail
      go_meet
      case rel => exact ⟨rfl, hid (by rw [decide_eq_false (fun e' => h1 (HC.out.1 e').1)])⟩
  case rest =>
  obtain ⟨rfl, hsc⟩ := hcut
  go_upto_region 16 with fail
  go_cut [18] (fun s18 wx => wx = wc ∧ Hid (s18 = .int .i64 pg))
  case first =>
    rename_i KK hKK J KK2 hJ hM
    clear hKK KK
    have hsc2 := hsc.out
    clear hsc
    by_cases hc : b ≤ a ∧ a % 4096 = 0 ∧ (a - b) / 4096 < 1024
    · rw [decide_eq_true hc] at hsc2
      subst hsc2
      obtain ⟨c, hc'⟩ : ∃ c, c = a - b := ⟨_, rfl⟩
      obtain ⟨d, hd⟩ : ∃ d, d = c / 4096 := ⟨_, rfl⟩
      have hdi : (c : Int) / 4096 = (d : Int) := by omega
      have hci : (a : Int) - (b : Int) = (c : Int) := by omega
      have hcb : c < 18446744073709551616 := by omega
      have hdb : d < 1024 := by omega
      have HD := hid (show pg = (d : Int) by rw [HPG.out, hd, hc']; unfold pgL; rw [if_pos hc])
      clear hc hc' hd
      go_wp2_with fail
      go_meet
      case rel => exact ⟨rfl, hid (by rw [HD.out])⟩
    · rw [decide_eq_false hc] at hsc2
      subst hsc2
      have HD := hid (show pg = -1 by rw [HPG.out]; unfold pgL; rw [if_neg hc])
      clear hc
      go_wp2_with fail
      go_meet
      case rel => exact ⟨rfl, hid (by rw [HD.out])⟩
  case rest =>
  obtain ⟨rfl, hsp⟩ := hcut
  have hsp2 := hsp.out
  subst hsp2
  clear hsc hsp
  have RF := hid (HG.out.ref wc R0.out.po.pl.kp.size R0.out.rf)
  rw [← HN.out] at RF
  go_wp2_with fail
  refine RF.out.mono ?_
  rintro e w3 ⟨va', vc', rfl, hr3, hk3⟩
  obtain ⟨m, hm⟩ : ∃ m, m = ls'.length := ⟨_, rfl⟩
  rw [← hm]
  have HM := hid hm
  have ka := (Kept.refl none' w3).alloc (r6O b (l : Int) (o : Int) (r : Int) (.slice (some ⟨g0, 0, none⟩) (o + 1) fc) (.slice va' m vc'))
  have Z3 := hid (heap_new w3 (r6O b (l : Int) (o : Int) (r : Int) (.slice (some ⟨g0, 0, none⟩) (o + 1) fc) (.slice va' m vc')))
  have B3 := hid ((B0.out.ref R0.out.rf hk3 (fun _ _ e => e)).keep ka)
  have P3 := hid ((R0.out.po.ref R0.out.rf (Nat.le_refl _) hk3).keep ka)
  have Q3 := hid (hr3.keep ka)
  clear hm hr3 hk3 ka RF x0 x1 x2 x3 x4 x5 xf o0 o1 o2 o3 o4 o5 o6
  go_upto_region 17 with fail
  generalize w3.heap.size = zb at *
  generalize w3.alloc (r6O b (l : Int) (o : Int) (r : Int) (.slice (some ⟨g0, 0, none⟩) (o + 1) fc) (.slice va' m vc')) = W3 at *
  obtain ⟨o0, o1, o2, o3, o4, o5, o6⟩ := opc B3.out.bo
  have PL := hid (HG.out.pool W3 P3.out)
  go_wp2_with fail
  refine PL.out.mono ?_
  rintro e w5 ⟨rfl, ⟨t5, hp5, hn5⟩, hk5⟩
  have B5 := hid (B3.out.pool P3.out hk5)
  obtain ⟨f0, f1, f2, f3, f4, f5, ff⟩ := r6c (P3.out.bx hk5 Z3.out (.inr (.inr (.inr (.inl rfl)))))
  obtain ⟨y0, y1, y2, y3, y4, y5, yf⟩ := r6c (b := 0) (l := 0) (o := 0) (r := 0) B5.out.by'
  have R5 := hid (show RW w w5 lw x t5 fr' ls' b l r o g0 fc va' vc' from ⟨hp5, Q3.out.pool P3.out hk5, HEQ.out.1, HEQ.out.2.1, HEQ.out.2.2.1, hn5.trans HEQ.out.2.2.2, HG.out.nd⟩)
  have FIN := hid (fun v0 v1 v2 v3 v4 v5 => And.intro (R5.out.fin B5.out.by' (by omega) v0 v1 v2 v3 v4 v5) (B5.out.fin v0 v1 v2 v3 v4 v5))
  clear hp5 hn5 hk5 PL o0 o1 o2 o3 o4 o5 o6
  cases ok with
  | true =>
    go_wp2_with fail
    exact ⟨rfl, .tuple #[r6V b (l : Int) (o : Int) (r : Int) (.slice (some ⟨g0, 0, none⟩) (o + 1) fc) (.slice va' m vc'), .bool true], by simp [results, Tryz.results10, go_sem, y0, y1, y2, y3, y4, y5], x, t5, fr', ls', r, va', vc', by rw [HM.out], (FIN.out _ _ _ _ _ _).1, (FIN.out _ _ _ _ _ _).2⟩
  | false =>
    go_wp2_with fail
    exact ⟨rfl, .tuple #[r6V b (l : Int) (o : Int) (r : Int) (.slice (some ⟨g0, 0, none⟩) (o + 1) fc) (.slice va' m vc'), .bool true], by simp [results, Tryz.results10, go_sem, y0, y1, y2, y3, y4, y5], x, t5, fr', ls', r, va', vc', by rw [HM.out], (FIN.out _ _ _ _ _ _).1, (FIN.out _ _ _ _ _ _).2⟩
end Go.Proofs.YtggieolknccabaaGreat
