/- OraclePages. (Written by mkpac.py.) -/
import Derived.Test.YtibljocjdlgfbabPaB
import Derived.Test.YtibljocjdlgfbabTuC
import Derived.Test.YtibljocjdlgfbabRfE
namespace Go.Proofs.Ytibljocjdlgfbab
open Go.RowKit
set_option linter.unusedVariables false

theorem GSl.mapsnd (l : Bls) (a : Nat) {p s : Nat} (h : l[a]? = some (p, s)) : scl ((l.take (a + 1)).map (·.2)) = scl ((l.take a).map (·.2)) ++ [.int .u64 (s : Int)] := by
  rw [List.take_add_one, h]
  simp [scl]
theorem count_take (s : List Nat) (a x : Nat) {p : Nat} (h : s[a]? = some p) : (s.take (a + 1)).count x = (s.take a).count x + if p = x then 1 else 0 := by
  rw [List.take_add_one, h]
  by_cases c : p = x <;> simp [List.count_append, c]
theorem upN_le' (n d : Nat) (hd : 1 ≤ d) : upN n d ≤ n := by
  rw [upN_iff _ _ _ hd]
  exact Nat.le_mul_of_pos_right _ hd
theorem smlS_le (s : List Nat) : ∀ k, smlS s k ≤ k * s.length
  | 0 => by simp [smlS]
  | k + 1 => by
    have ih := smlS_le s k
    have h1 := upN_le' (s.count (16 * 2 ^ k)) (2 ^ (8 - k)) (Nat.two_pow_pos _)
    have h2 := List.count_le_length (a := 16 * 2 ^ k) (l := s)
    rw [smlS_succ, Nat.add_mul, Nat.one_mul]
    omega
theorem bigS_take (s : List Nat) (a : Nat) {p : Nat} (h : s[a]? = some p) : bigS (s.take (a + 1)) = bigS (s.take a) + if 4096 ≤ p then p / 4096 else 0 := by
  rw [List.take_add_one, h, bigS_app]
  simp [bigS]
/-- Are the sizes so far all that they may be? -/
def gdP (base : Nat) (lim ord : Int) (s : List Nat) (a : Nat) : Bool := mayB base lim ord && (s.take a).all (szB ord.toNat)
theorem gdP_succ (base : Nat) (lim ord : Int) (s : List Nat) (a : Nat) {p : Nat} (h : s[a]? = some p) : gdP base lim ord s (a + 1) = (gdP base lim ord s a && szB ord.toNat p) := by
  unfold gdP
  rw [List.take_add_one, h, List.all_append, ← Bool.and_assoc]
  simp
theorem mayB_facts {base : Nat} {lim ord : Int} (h : mayB base lim ord = true) : ∃ k L : Nat, ord = (k : Int) ∧ lim = (L : Int) ∧ k ≤ 8 ∧ L ≤ 64 ∧ mayR base lim ord lim = true := by
  have hl : Bounds lim ord := by
    refine Classical.byContradiction fun c => ?_
    unfold mayB at h
    rw [decide_eq_false c, Bool.false_and, Bool.false_and] at h
    cases h
  unfold Bounds at hl
  have hm : mayR base lim ord lim = true := by
    simp only [mayR, h, Bool.true_and, Bool.and_eq_true, decide_eq_true_eq]
    exact ⟨by omega, by omega⟩
  exact ⟨ord.toNat, lim.toNat, by omega, by omega, by omega, by omega, hm⟩
/-- What Least must say of sizes alone. -/
theorem lea_good {base : Nat} {lim ord : Int} {s : List Nat} (h : gdP base lim ord s s.length = true) : ∃ k L : Nat, ord = (k : Int) ∧ lim = (L : Int) ∧ k ≤ 8 ∧ L ≤ 64 ∧ leaO base lim ord [] s = decide (upN (smlS s 8 + bigS s) (2 ^ k) ≤ L) ∧ leaV base lim ord [] s = if upN (smlS s 8 + bigS s) (2 ^ k) ≤ L then upN (smlS s 8 + bigS s) (2 ^ k) else 0 := by
  unfold gdP at h
  rw [List.take_length, Bool.and_eq_true] at h
  obtain ⟨k, L, rfl, rfl, hk, hL, hm⟩ := mayB_facts h.1
  have ha := h.2
  rw [Int.toNat_natCast] at ha
  have hz : ∀ x ∈ s, szB k x = true := List.all_eq_true.1 ha
  have e1 : leaN [] s k = upN (smlS s 8 + bigS s) (2 ^ k) := by
    rw [leaN_up hz, pgN_law fun x hx => ?_]
    have := szB_b hk (hz x hx)
    exact ⟨this.1, this.2.1, this.2.2.2⟩
  have e2 : leaO base (L : Int) (k : Int) [] s = decide (leaN [] s k ≤ L) := by
    simp only [leaO, hm, Int.toNat_natCast, ha, Bool.true_and, Bool.and_true]
    rfl
  refine ⟨k, L, rfl, rfl, hk, hL, by rw [e2, e1], ?_⟩
  unfold leaV
  rw [e2, e1, Int.toNat_natCast]
  by_cases c : upN (smlS s 8 + bigS s) (2 ^ k) ≤ L
  · rw [if_pos (by simpa using c), if_pos c]
    exact e1
  · rw [if_neg (by simpa using c), if_neg c]
theorem lea_bad {base : Nat} {lim ord : Int} {s : List Nat} (h : gdP base lim ord s s.length = false) : leaO base lim ord [] s = false := by
  unfold gdP at h
  rw [List.take_length] at h
  unfold leaO mayR
  cases hm : mayB base lim ord with
  | false => simp
  | true =>
    rw [hm, Bool.true_and] at h
    rw [h]
    simp

set_option maxRecDepth 40000 in
set_option maxHeartbeats 8000000 in
theorem oraclePages (base : Nat) (hb64 : base < 18446744073709551616) (lim ord : Int) (hl1 : -9223372036854775808 ≤ lim) (hl2 : lim ≤ 9223372036854775807) (ho1 : -9223372036854775808 ≤ ord) (ho2 : ord ≤ 9223372036854775807) (n : Int) (hn1 : -9223372036854775808 ≤ n) (hn2 : n ≤ 9223372036854775807) (v : Value) (l : Bls) (r : Nat) (hr : r < 2 ^ 64) (dn : Bool) (v2 : Value) (sz : List Nat) (w : World) (hbl : BL w v l) (hlen : l.length ≤ 8796093022000) (hsl : SL w v2 sz) (hlen2 : sz.length ≤ 17592186044400) :
    Calls Try.prog 5 #[.agg #[.int .u64 (base : Int), .int .i64 lim, .int .i64 ord, .int .i64 n, v, .int .u64 (r : Int), .bool dn], v2] w fun e w' => e = .returned (.bool true) ∧ Kept none' w w' := by
  obtain ⟨oa, oc, rfl⟩ : ∃ oa oc, v = .slice oa l.length oc := by
    obtain ⟨_, _, oa, oc, hv, _⟩ := hbl
    exact ⟨oa, oc, hv⟩
  obtain ⟨oa2, oc2, rfl⟩ : ∃ oa oc, v2 = .slice oa sz.length oc := by
    obtain ⟨_, _, oa, oc, hv, _⟩ := hsl
    exact ⟨oa, oc, hv⟩
  have C0 := hid (show AQ (w.alloc (.cells #[.int .u64 (base : Int), .int .i64 lim, .int .i64 ord, .int .i64 n, .slice oa l.length oc, .int .u64 (r : Int), .bool dn] 27)) w.heap.size base lim ord n (.slice oa l.length oc) r dn from heap_new w _)
  have K0 := hid (show Kept none' w (w.alloc (.cells #[.int .u64 (base : Int), .int .i64 lim, .int .i64 ord, .int .i64 n, .slice oa l.length oc, .int .u64 (r : Int), .bool dn] 27)) from (Kept.refl _ w).alloc _)
  have BL0 := hid hbl
  have SL0 := hid hsl
  obtain ⟨sv, hsv⟩ : ∃ sv, sv = sndV base lim ord n l := ⟨_, rfl⟩
  have HSV := hid hsv
  obtain ⟨xv, hxv⟩ : ∃ xv, xv = leaV base lim ord [] sz := ⟨_, rfl⟩
  obtain ⟨xo, hxo⟩ : ∃ xo, xo = leaO base lim ord [] sz := ⟨_, rfl⟩
  have HXV := hid hxv
  have HXO := hid hxo
  have HMY := hid (fun W => refMay base hb64 lim ord hl1 hl2 ho1 ho2 W)
  have HS := hid (show ∀ W v, BL W v l → Calls Try.prog 15 #[cfgV base lim ord, .int .i64 n, v] W fun e w' => e = .returned (.int .i64 sv) ∧ Kept none' W w' from fun W v h => by
    rw [hsv]; exact refSound base hb64 lim ord n hl1 hl2 ho1 ho2 v l W h)
  have HL := hid (show ∀ W vs, SL W vs sz → Calls Try.prog 13 #[cfgV base lim ord, .slice none 0 0, vs] W fun e w' => e = .returned (.tuple #[.int .i64 (xv : Int), .bool xo]) ∧ Kept none' W w' from fun W vs hs => by
    rw [hxv, hxo]; exact Least_any base hb64 lim ord hl1 hl2 ho1 ho2 _ [] vs sz W (BL.nil W) hs)
  have HL2 := hid (show ∀ W vs, SL W vs (l.map (·.2)) → Calls Try.prog 13 #[cfgV base lim ord, .slice none 0 0, vs] W fun e w' => e = .returned (.tuple #[.int .i64 ((leaV base lim ord [] (l.map (·.2)) : Nat) : Int), .bool (leaO base lim ord [] (l.map (·.2)))]) ∧ Kept none' W w' from fun W vs hs =>
    Least_any base hb64 lim ord hl1 hl2 ho1 ho2 _ [] vs _ W (BL.nil W) hs)
  have hb2 : ∀ b ∈ l.map (·.2), b < 2 ^ 64 := fun b hb => by
    obtain ⟨c, hc, rfl⟩ := List.mem_map.1 hb
    exact (hbl.2.1 c hc).2
  have HB2 := hid hb2
  obtain ⟨gm, hgm⟩ : ∃ gm, gm = mayB base lim ord := ⟨_, rfl⟩
  have HGM := hid hgm
  rw [← hgm] at HMY
  clear hbl hsl hsv hxv hxo hb2 hgm
  go_enter Try.func5, Try.ntmps5
  go_wp2_with fail
  generalize w.alloc (.cells #[.int .u64 (base : Int), .int .i64 lim, .int .i64 ord, .int .i64 n, .slice oa l.length oc, .int .u64 (r : Int), .bool dn] 27) = W0 at *
  generalize w.heap.size = cx at *
  refine (awake_any _).mono ?_
  rintro e w1 ⟨rfl, hk⟩
  have K1 := hid (none_trans K0.out hk)
  have C1 := hid (C0.out.keep hk)
  clear hk
  obtain ⟨c0, c1, c2, c3, c4, c5, c6⟩ := C1.out.cells
  go_wp2_with fail
  refine (config_any base lim ord _).mono ?_
  rintro e w2 ⟨rfl, hk⟩
  have ka : Kept none' w1 (w2.alloc (.cells #[.int .u64 (base : Int), .int .i64 lim, .int .i64 ord] 33)) := hk.alloc _
  have B3 := hid (show CB (w2.alloc (.cells #[.int .u64 (base : Int), .int .i64 lim, .int .i64 ord] 33)) w2.heap.size base lim ord from heap_new w2 _)
  have K3 := hid (none_trans K1.out ka)
  have C3 := hid (C1.out.keep ka)
  clear hk ka c0 c1 c2 c3 c4 c5 c6 K1 C1 K0 C0
  go_wp2_with fail
  generalize w2.alloc (.cells #[.int .u64 (base : Int), .int .i64 lim, .int .i64 ord] 33) = w3 at *
  generalize w2.heap.size = kx at *
  go_loop [6, 7] (fun z i => ∃ a : Nat, a ≤ 8 ∧ i = .int .i64 a ∧ ∃ y : Nat, z = .int .i64 (y : Int) ∧ Hid (y = smlS sz a)) (fun _ i => 8 - (intOf i).toNat)
  case atStart => exact ⟨0, by omega, rfl, 0, rfl, hid rfl⟩
  case round =>
    obtain ⟨k, hk8, rfl, y, rfl, HY⟩ := hrel
    have hyb : y ≤ 140737488355200 := by
      have h1 := smlS_le sz k
      have h2 : k * sz.length ≤ 8 * sz.length := Nat.mul_le_mul_right _ hk8
      rw [HY.out]
      omega
    by_cases hlt : k < 8
    · have hki : (k : Int) < 8 := by omega
      obtain ⟨sk, hsk⟩ : ∃ sk, sk = 16 * 2 ^ k := ⟨_, rfl⟩
      obtain ⟨dk, hdk⟩ : ∃ dk, dk = 2 ^ (8 - k) := ⟨_, rfl⟩
      have hp2 := pow8 k (by omega)
      have hskb : sk ≤ 4096 := by rw [hsk]; omega
      have hwk : IntKind.u64.wrap (16 * 2 ^ k) = (sk : Int) := by
        have e : ((2 : Int) ^ k) = ((2 ^ k : Nat) : Int) := by simp
        rw [wrap_u64, e, hsk]
        omega
      have hmul : 2 ^ k * dk = 256 := by
        rw [hdk, ← Nat.pow_add, show k + (8 - k) = 8 by omega]
      have hdk1 : 1 ≤ dk ∧ dk ≤ 256 := by
        rw [hdk]
        exact pow8 _ (by omega)
      have hd1 : (255 : Int) / 2 ^ k = (dk : Int) - 1 := by
        have e : ((2 : Int) ^ k) = ((2 ^ k : Nat) : Int) := by simp
        rw [e]
        have : 255 / 2 ^ k = dk - 1 := by
          have hp0 := hp2.1
          rw [Nat.div_eq_iff (by omega), Nat.sub_mul, Nat.mul_comm dk, hmul]
          omega
        rw [show (255 : Int) = ((255 : Nat) : Int) from rfl, ← Int.natCast_ediv, this]
        omega
      have hd2 : (256 : Int) / 2 ^ k = (dk : Int) := by
        have e : ((2 : Int) ^ k) = ((2 ^ k : Nat) : Int) := by simp
        rw [e]
        have : 256 / 2 ^ k = dk := by
          rw [← hmul]
          exact Nat.mul_div_cancel_left _ (by omega)
        rw [show (256 : Int) = ((256 : Nat) : Int) from rfl, ← Int.natCast_ediv, this]
      have HSK := hid hsk
      have HDK := hid hdk
      clear hp2 hmul hsk hdk hlt
      go_wp2_with fail
      go_loop [8, 9] (fun z i => ∃ a : Nat, a ≤ sz.length ∧ i = .int .i64 a ∧ ∃ c : Nat, z = .int .i64 (c : Int) ∧ Hid (c = (sz.take a).count sk)) (fun _ i => sz.length - (intOf i).toNat)
      case atStart => exact ⟨0, Nat.zero_le _, rfl, 0, rfl, hid (by simp)⟩
      case round =>
        obtain ⟨a, ha, rfl, c, rfl, HC⟩ := hrel
        have hcb : c ≤ 17592186044400 := by
          have h1 := List.count_le_length (a := sk) (l := sz.take a)
          rw [List.length_take] at h1
          rw [HC.out]
          omega
        by_cases hlt : a < sz.length
        · have hai : (a : Int) < (sz.length : Int) := by omega
          obtain ⟨bl, o, p, rfl, hla, hp, q0⟩ := (SL0.out.keep K3.out).at a hlt
          have HCT := hid (count_take sz a sk hla)
          clear hla
          by_cases e : p = sk
          · have NX := hid (show c + 1 = (sz.take (a + 1)).count sk by rw [HCT.out, if_pos e, HC.out])
            have e1 : (p : Int) = (sk : Int) := by omega
            clear e
            rw [e1] at q0
            go_wp2_with fail
            go_round
            case rel => exact ⟨a + 1, by omega, by go_num, c + 1, by go_num, NX⟩
            case measure => simp [intOf]; omega
          · have NX := hid (show c = (sz.take (a + 1)).count sk by rw [HCT.out, if_neg e, Nat.add_zero, HC.out])
            have e1 : ((p : Int) == (sk : Int)) = false := by rw [beq_eq_false_iff_ne]; omega
            have e2 : ¬ (p : Int) = (sk : Int) := by omega
            clear e
            go_wp2_with fail
            go_round
            case rel => exact ⟨a + 1, by omega, by go_num, c, rfl, NX⟩
            case measure => simp [intOf]; omega
        · have hge : ¬ (a : Int) < (sz.length : Int) := by omega
          obtain ⟨q, hq⟩ : ∃ q, q = upN c dk := ⟨_, rfl⟩
          have hqb : q ≤ c := by rw [hq]; exact upN_le' c dk hdk1.1
          have hq1 : ((c : Int) + ((dk : Int) - 1)) / (dk : Int) = (q : Int) := by
            rw [hq, show (c : Int) + ((dk : Int) - 1) = ((c + dk - 1 : Nat) : Int) by omega]
            simp [upN]
          have hq2 : ((c : Int) + ((dk : Int) - 1)).tdiv (dk : Int) = (q : Int) := by
            rw [Int.tdiv_eq_ediv_of_nonneg (by omega)]
            exact hq1
          have hdz : ¬ (dk : Int) = 0 := by omega
          have NX := hid (show y + q = smlS sz (k + 1) by
            have ea : a = sz.length := by omega
            rw [smlS_succ, ← HY.out, hq, HC.out, ea, List.take_length, HSK.out, HDK.out])
          clear hq
          go_wp2_with fail
          go_round
          case rel => exact ⟨k + 1, by omega, by go_num, y + q, by go_num, NX⟩
          case measure => simp [intOf]; omega
    · have hki : ¬ (k : Int) < 8 := by omega
      have EY := hid (show y = smlS sz 8 by rw [HY.out, show k = 8 by omega])
      have hyb2 : y ≤ 140737488355200 := hyb
      clear HY hlt hk8 hyb
      obtain ⟨c0, c1, c2, c3, c4, c5, c6⟩ := C3.out.cells
      go_wp2_with fail
      refine (HMY.out _).mono ?_
      rintro e w4 ⟨rfl, hk⟩
      have K4 := hid (none_trans K3.out hk)
      have C4 := hid (C3.out.keep hk)
      have B4 := hid (B3.out.keep hk (fun x => x))
      clear hk c0 c1 c2 c3 c4 c5 c6 K3 C3 B3 hki
      go_wp2_with fail
      go_loopw [6, 10, 11] (fun z g i W => ∃ a : Nat, a ≤ sz.length ∧ i = .int .i64 a ∧ ∃ (t : Nat) (gd : Bool), z = .int .i64 (t : Int) ∧ g = .bool gd ∧ Hid (gd = gdP base lim ord sz a ∧ t ≤ y + 256 * a ∧ (gd = true → t = y + bigS (sz.take a)) ∧ Kept none' w4 W)) (fun _ _ i _ => sz.length - (intOf i).toNat)
      case atStart => exact ⟨0, Nat.zero_le _, rfl, y, gm, rfl, rfl, hid ⟨by rw [HGM.out]; simp [gdP], by omega, fun _ => by simp [bigS], Kept.refl _ _⟩⟩
      case round =>
        obtain ⟨a, ha, rfl, t, gd, rfl, rfl, HI⟩ := hrel
        have htb : t ≤ 4644337115721600 := by
          have := HI.out.2.1
          omega
        by_cases hlt : a < sz.length
        · have hai : (a : Int) < (sz.length : Int) := by omega
          have KR := hid (none_trans K4.out HI.out.2.2.2)
          have CR' := hid (C4.out.keep HI.out.2.2.2)
          obtain ⟨bl, o, p, rfl, hla, hp, q0⟩ := (SL0.out.keep KR.out).at a hlt
          have hq : ∀ y : KW wr, y.v.cell? ⟨bl, o + a, none⟩ = some (.int .u64 (p : Int)) := fun y => y.k.cell (fun e => e) q0
          have HG := hid (gdP_succ base lim ord sz a hla)
          have HBT := hid (bigS_take sz a hla)
          have HPW := hid (fun W => refPower p hp W)
          clear hla
          obtain ⟨c0, c1, c2, c3, c4, c5, c6⟩ := CR'.out.all
          cases hpw : isP p with
          | false =>
            have E := hid (show gdP base lim ord sz (a + 1) = false by rw [HG.out]; simp [szB, hpw])
            rw [hpw] at HPW
            clear hpw HG HBT
            go_wp2_with fail
            refine wp_region_kept (by kernel_rfl) (by kernel_rfl) ?_
            repeat (go_big_quiet_step (first | (go_at_call 17; exact Calls.kept_of ((HPW.out _).mono fun e w' h => ⟨h.1, h.2 ▸ Kept.refl _ _⟩))))
            refine wpQuiet_nil ?_
            intro x
            have KX := hid (none_trans HI.out.2.2.2 x.k)
            have qx := hq x
            clear hq c0 c1 c2 c3 c4 c5 c6 q0
            go_wp2_with fail
            go_round
            case rel => exact ⟨a + 1, by omega, by go_num, t, false, rfl, rfl, hid ⟨E.out.symm, by have := HI.out.2.1; omega, (fun h => by cases h), KX.out⟩⟩
            case measure => simp [intOf]; omega
          | true =>
            rw [hpw] at HPW
            by_cases h16 : (p : Int) < 16
            · have E := hid (show gdP base lim ord sz (a + 1) = false by
                have : ¬ 16 ≤ p := by omega
                rw [HG.out]; simp [szB, this])
              clear hpw HG HBT
              go_wp2_with fail
              refine wp_region_kept (by kernel_rfl) (by kernel_rfl) ?_
              repeat (go_big_quiet_step (first | (go_at_call 17; exact Calls.kept_of ((HPW.out _).mono fun e w' h => ⟨h.1, h.2 ▸ Kept.refl _ _⟩))))
              refine wpQuiet_nil ?_
              intro x
              have KX := hid (none_trans HI.out.2.2.2 x.k)
              have qx := hq x
              clear hq c0 c1 c2 c3 c4 c5 c6 q0
              go_wp2_with fail
              go_round
              case rel => exact ⟨a + 1, by omega, by go_num, t, false, rfl, rfl, hid ⟨E.out.symm, by have := HI.out.2.1; omega, (fun h => by cases h), KX.out⟩⟩
              case measure => simp [intOf]; omega
            · have h16' : decide ((p : Int) < 16) = false := decide_eq_false h16
              cases gd with
              | false =>
                have E := hid (show gdP base lim ord sz (a + 1) = false by rw [HG.out, ← HI.out.1, Bool.false_and])
                clear hpw HG HBT
                go_wp2_with fail
                refine wp_region_kept (by kernel_rfl) (by kernel_rfl) ?_
                repeat (go_big_quiet_step (first | (go_at_call 17; exact Calls.kept_of ((HPW.out _).mono fun e w' h => ⟨h.1, h.2 ▸ Kept.refl _ _⟩))))
                refine wpQuiet_nil ?_
                intro x
                have KX := hid (none_trans HI.out.2.2.2 x.k)
                have qx := hq x
                clear hq c0 c1 c2 c3 c4 c5 c6 q0
                go_wp2_with fail
                go_round
                case rel => exact ⟨a + 1, by omega, by go_num, t, false, rfl, rfl, hid ⟨E.out.symm, by have := HI.out.2.1; omega, (fun h => by cases h), KX.out⟩⟩
                case measure => simp [intOf]; omega
              | true =>
                have hmb : mayB base lim ord = true := by
                  have := HI.out.1
                  unfold gdP at this
                  exact (Bool.and_eq_true_iff.1 this.symm).1
                obtain ⟨k, L, hok, hLk, hk8, hL64, hmm⟩ := mayB_facts hmb
                obtain ⟨R, hR⟩ : ∃ R, R = RS k := ⟨_, rfl⟩
                have hRb : R ≤ 1048576 := by rw [hR]; exact (RS_le k hk8).2
                have HRR := hid (show ∀ W, Calls Try.prog 14 #[cfgV base lim ord] W fun e w' => e = .returned (.int .u64 (R : Int)) ∧ Kept none' W w' from fun W => by
                  rw [hR, hok]; exact refR base lim k hk8 W)
                have ESZ := hid (show szB ord.toNat p = decide (p ≤ R) by
                  have : 16 ≤ p := by omega
                  rw [hok, Int.toNat_natCast, hR]; simp [szB, hpw, this])
                clear hpw hmb hok hLk hmm hR
                by_cases hgt : (R : Int) < (p : Int)
                · have E := hid (show gdP base lim ord sz (a + 1) = false by
                    have : ¬ p ≤ R := by omega
                    rw [HG.out, ESZ.out, decide_eq_false this, Bool.and_false])
                  have hgt' : decide ((R : Int) < (p : Int)) = true := decide_eq_true hgt
                  clear HG HBT
                  go_wp2_with fail
                  refine wp_region_kept (by kernel_rfl) (by kernel_rfl) ?_
                  repeat (go_big_quiet_step (first | (go_at_call 17; exact Calls.kept_of ((HPW.out _).mono fun e w' h => ⟨h.1, h.2 ▸ Kept.refl _ _⟩)) | (go_at_call 14; exact Calls.kept_of (HRR.out _))))
                  refine wpQuiet_nil ?_
                  intro x
                  have KX := hid (none_trans HI.out.2.2.2 x.k)
                  have qx := hq x
                  clear hq c0 c1 c2 c3 c4 c5 c6 q0
                  go_wp2_with fail
                  go_round
                  case rel => exact ⟨a + 1, by omega, by go_num, t, false, rfl, rfl, hid ⟨E.out.symm, by have := HI.out.2.1; omega, (fun h => by cases h), KX.out⟩⟩
                  case measure => simp [intOf]; omega
                · have E := hid (show gdP base lim ord sz (a + 1) = true by
                    have : p ≤ R := by omega
                    rw [HG.out, ← HI.out.1, ESZ.out, decide_eq_true this, Bool.and_self])
                  have hgt' : decide ((R : Int) < (p : Int)) = false := decide_eq_false hgt
                  obtain ⟨d, hd⟩ : ∃ d, d = p / 4096 := ⟨_, rfl⟩
                  have hdb : d ≤ 256 := by omega
                  have hdi : (p : Int) / 4096 = (d : Int) := by omega
                  by_cases hbig : (4096 : Int) ≤ (p : Int)
                  · have NX := hid (show t + d = y + bigS (sz.take (a + 1)) by
                      have h4 : 4096 ≤ p := by omega
                      rw [HBT.out, if_pos h4, HI.out.2.2.1 rfl, hd, Nat.add_assoc])
                    have hbig' : decide ((4096 : Int) ≤ (p : Int)) = true := decide_eq_true hbig
                    clear HG HBT hd
                    go_wp2_with fail
                    refine wp_region_kept (by kernel_rfl) (by kernel_rfl) ?_
                    repeat (go_big_quiet_step (first | (go_at_call 17; exact Calls.kept_of ((HPW.out _).mono fun e w' h => ⟨h.1, h.2 ▸ Kept.refl _ _⟩)) | (go_at_call 14; exact Calls.kept_of (HRR.out _))))
                    refine wpQuiet_nil ?_
                    intro x
                    have KX := hid (none_trans HI.out.2.2.2 x.k)
                    have qx := hq x
                    clear hq c0 c1 c2 c3 c4 c5 c6 q0
                    go_wp2_with fail
                    go_round
                    case rel => exact ⟨a + 1, by omega, by go_num, t + d, true, by go_num, rfl, hid ⟨E.out.symm, by have := HI.out.2.1; omega, fun _ => NX.out, KX.out⟩⟩
                    case measure => simp [intOf]; omega
                  · have NX := hid (show t = y + bigS (sz.take (a + 1)) by
                      have h4 : ¬ 4096 ≤ p := by omega
                      rw [HBT.out, if_neg h4, Nat.add_zero, HI.out.2.2.1 rfl])
                    have hbig' : decide ((4096 : Int) ≤ (p : Int)) = false := decide_eq_false hbig
                    clear HG HBT hd
                    go_wp2_with fail
                    refine wp_region_kept (by kernel_rfl) (by kernel_rfl) ?_
                    repeat (go_big_quiet_step (first | (go_at_call 17; exact Calls.kept_of ((HPW.out _).mono fun e w' h => ⟨h.1, h.2 ▸ Kept.refl _ _⟩)) | (go_at_call 14; exact Calls.kept_of (HRR.out _))))
                    refine wpQuiet_nil ?_
                    intro x
                    have KX := hid (none_trans HI.out.2.2.2 x.k)
                    have qx := hq x
                    clear hq c0 c1 c2 c3 c4 c5 c6 q0
                    go_wp2_with fail
                    go_round
                    case rel => exact ⟨a + 1, by omega, by go_num, t, true, rfl, rfl, hid ⟨E.out.symm, by have := HI.out.2.1; omega, fun _ => NX.out, KX.out⟩⟩
                    case measure => simp [intOf]; omega
        · have hge : ¬ (a : Int) < (sz.length : Int) := by omega
          have ea : a = sz.length := by omega
          have GD := hid (show gd = gdP base lim ord sz sz.length by rw [HI.out.1, ea])
          have TT := hid (show gd = true → t = smlS sz 8 + bigS sz from fun h => by
            have := HI.out.2.2.1 h
            rw [this, EY.out, ea, List.take_length])
          have K5 := hid (none_trans K4.out HI.out.2.2.2)
          have C5 := hid (C4.out.keep HI.out.2.2.2)
          have B5 := hid (B4.out.keep HI.out.2.2.2 (fun x => x))
          clear ea HI K4 C4 B4 ha hlt EY hyb2 HGM
          obtain ⟨d0, d1, d2⟩ := B5.out.cells
          go_wp2_with fail
          refine (HL.out _ _ (SL0.out.keep K5.out)).mono ?_
          rintro e w6 ⟨rfl, hk⟩
          have K6 := hid (none_trans K5.out hk)
          have C6 := hid (C5.out.keep hk)
          have B6 := hid (B5.out.keep hk (fun x => x))
          clear hk d0 d1 d2 K5 C5 B5
          obtain ⟨c0, c1, c2, c3, c4, c5, c6⟩ := C6.out.cells
          cases gd with
          | false =>
            have hxo : xo = false := by rw [HXO.out]; exact lea_bad GD.out.symm
            subst hxo
            clear HXO HXV GD TT
            go_wp2_with fail
            refine (HS.out _ _ (BL0.out.keep K6.out)).mono ?_
            rintro e w7 ⟨rfl, hk⟩
            have K7 := hid (none_trans K6.out hk)
            have C7 := hid (C6.out.keep hk)
            have B7 := hid (B6.out.keep hk (fun x => x))
            clear hk c0 c1 c2 c3 c4 c5 c6 K6 C6 B6
            obtain ⟨c0, c1, c2, c3, c4, c5, c6⟩ := C7.out.cells
            by_cases hs1 : sv = -1
            · subst hs1
              obtain ⟨SO, SV⟩ := sound_least HSV.out.symm
              rw [SO] at HL2
              obtain ⟨zv, hzv⟩ : ∃ zv, zv = leaV base lim ord [] (l.map (·.2)) := ⟨_, rfl⟩
              rw [← hzv] at SV
              rw [← hzv] at HL2
              clear hzv SO HSV
              go_wp2_with fail
              have I0 := hid (GS.nil w7 w7 22 1 (Kept.refl _ _))
              clear c0 c1 c2 c3 c4 c5 c6
              go_loopw [15, 16] (fun x i W => ∃ (a : Nat) (va : Option Addr) (vc : Nat), a ≤ l.length ∧ i = .int .i64 (a : Int) ∧ x = .slice va a vc ∧ Hid (GS w7 W 22 1 (.slice va a vc) a (scl ((l.take a).map (·.2))))) (fun _ i _ => l.length - (intOf i).toNat)
              case atStart => exact ⟨0, none, 0, Nat.zero_le _, rfl, rfl, by simpa [scl] using I0⟩
              case round =>
                clear I0
                obtain ⟨a, va, vc, ha, rfl, rfl, HG⟩ := hrel
                obtain ⟨c0, c1, c2, c3, c4, c5, c6⟩ := (C7.out.keep HG.out.kp).cells
                by_cases hlt : a < l.length
                · have hai : (a : Int) < (l.length : Int) := by omega
                  obtain ⟨bl, o, p, s, rfl, hla, hp, hs, q0, q1⟩ := (BL0.out.keep (none_trans K7.out HG.out.kp)).at a hlt
                  obtain ⟨g2, cap2, w8, hrun, hg2, hw2⟩ := push_u64 HG.out s (by omega)
                  have NX := hid (show GS w7 w8 22 1 (.slice (some ⟨g2, 0, none⟩) (a + 1) cap2) (a + 1) (scl ((l.take (a + 1)).map (·.2))) from by
                    rw [GSl.mapsnd l a hla]
                    exact hg2)
                  have hrun2 := hid hrun
                  clear hrun hg2 hw2 hla
                  go_wp2_with (first | (at_builtin; refine wpl_app _ rfl _ _ 28 rfl _ _ rfl rfl _ _ hrun2.out ?_))
                  go_round
                  case rel => exact ⟨a + 1, _, _, by omega, by go_num, rfl, NX⟩
                  case measure => simp [intOf]; omega
                · have hge : ¬ (a : Int) < (l.length : Int) := by omega
                  obtain rfl : a = l.length := by omega
                  have S10 := hid (show SL wr (.slice va l.length vc) (l.map (·.2)) from by
                    have hG := HG.out
                    rw [List.take_length] at hG
                    have := GS.sl (l := l.map (·.2)) (oa := va) (cap := vc) (w0 := w7) (W := wr) (t := 22) (by rw [List.length_map]; exact hG) (by rw [List.length_map]; omega) HB2.out
                    rw [List.length_map] at this
                    exact this)
                  have K10 := hid (none_trans K7.out HG.out.kp)
                  have C10 := hid (C7.out.keep HG.out.kp)
                  have B10 := hid (B7.out.keep HG.out.kp (fun x => x))
                  clear HG K7 C7 B7
                  obtain ⟨d0, d1, d2⟩ := B10.out.cells
                  go_wp2_with fail
                  refine (HL2.out _ _ S10.out).mono ?_
                  rintro e w11 ⟨rfl, hk⟩
                  have K11 := hid (none_trans K10.out hk)
                  have C11 := hid (C10.out.keep hk)
                  clear hk d0 d1 d2 c0 c1 c2 c3 c4 c5 c6 K10 C10 B10
                  obtain ⟨c0, c1, c2, c3, c4, c5, c6⟩ := C11.out.cells
                  go_wp2_with fail
                  go_ret
                  exact ⟨rfl, K11.out⟩
            · have hs2 : (sv == -1) = false := by rw [beq_eq_false_iff_ne]; exact hs1
              go_wp2_with fail
              go_ret
              exact ⟨rfl, K7.out⟩
          | true =>
            obtain ⟨k, L, rfl, rfl, hk8, hL64, eO, eV⟩ := lea_good GD.out.symm
            rw [← TT.out rfl] at eO eV
            obtain ⟨N, hN⟩ : ∃ N, N = upN t (2 ^ k) := ⟨_, rfl⟩
            obtain ⟨pk, hpk⟩ : ∃ pk, pk = 2 ^ k := ⟨_, rfl⟩
            have hpkb : 1 ≤ pk ∧ pk ≤ 256 := by rw [hpk]; exact pow8 k hk8
            have hwk : IntKind.i64.wrap (2 ^ k) = (pk : Int) := by
              have e : ((2 : Int) ^ k) = ((2 ^ k : Nat) : Int) := by simp
              rw [e, ← hpk, IntKind.wrap_i64]
              omega
            have hNb : N ≤ t := by rw [hN]; exact upN_le' _ _ (Nat.two_pow_pos _)
            have hsh : ((t : Int) + (pk : Int) - 1) / 2 ^ k = (N : Int) := by
              have e : ((2 : Int) ^ k) = ((2 ^ k : Nat) : Int) := by simp
              rw [e, hN, hpk, show (t : Int) + ((2 ^ k : Nat) : Int) - 1 = ((t + 2 ^ k - 1 : Nat) : Int) by have := Nat.two_pow_pos k; omega]
              simp [upN]
            rw [← hN] at eO eV
            by_cases hle : N ≤ L
            · have hxo : xo = true := by rw [HXO.out, eO]; exact decide_eq_true hle
              have hxv : xv = N := by rw [HXV.out, eV, if_pos hle]
              subst hxo
              subst hxv
              have hle1 : (xv : Int) ≤ (L : Int) := by omega
              have hle2 : decide ((xv : Int) ≤ (L : Int)) = true := decide_eq_true hle1
              clear HXO HXV GD TT eO eV hN hpk hle
              go_wp2_with fail
              refine (HS.out _ _ (BL0.out.keep K6.out)).mono ?_
              rintro e w7 ⟨rfl, hk⟩
              have K7 := hid (none_trans K6.out hk)
              have C7 := hid (C6.out.keep hk)
              have B7 := hid (B6.out.keep hk (fun x => x))
              clear hk c0 c1 c2 c3 c4 c5 c6 K6 C6 B6
              obtain ⟨c0, c1, c2, c3, c4, c5, c6⟩ := C7.out.cells
              by_cases hs1 : sv = -1
              · subst hs1
                obtain ⟨SO, SV⟩ := sound_least HSV.out.symm
                rw [SO] at HL2
                obtain ⟨zv, hzv⟩ : ∃ zv, zv = leaV base (L : Int) (k : Int) [] (l.map (·.2)) := ⟨_, rfl⟩
                rw [← hzv] at SV
                rw [← hzv] at HL2
                clear hzv SO HSV
                go_wp2_with fail
                have I0 := hid (GS.nil w7 w7 22 1 (Kept.refl _ _))
                clear c0 c1 c2 c3 c4 c5 c6
                go_loopw [15, 16] (fun x i W => ∃ (a : Nat) (va : Option Addr) (vc : Nat), a ≤ l.length ∧ i = .int .i64 (a : Int) ∧ x = .slice va a vc ∧ Hid (GS w7 W 22 1 (.slice va a vc) a (scl ((l.take a).map (·.2))))) (fun _ i _ => l.length - (intOf i).toNat)
                case atStart => exact ⟨0, none, 0, Nat.zero_le _, rfl, rfl, by simpa [scl] using I0⟩
                case round =>
                  clear I0
                  obtain ⟨a, va, vc, ha, rfl, rfl, HG⟩ := hrel
                  obtain ⟨c0, c1, c2, c3, c4, c5, c6⟩ := (C7.out.keep HG.out.kp).cells
                  by_cases hlt : a < l.length
                  · have hai : (a : Int) < (l.length : Int) := by omega
                    obtain ⟨bl, o, p, s, rfl, hla, hp, hs, q0, q1⟩ := (BL0.out.keep (none_trans K7.out HG.out.kp)).at a hlt
                    obtain ⟨g2, cap2, w8, hrun, hg2, hw2⟩ := push_u64 HG.out s (by omega)
                    have NX := hid (show GS w7 w8 22 1 (.slice (some ⟨g2, 0, none⟩) (a + 1) cap2) (a + 1) (scl ((l.take (a + 1)).map (·.2))) from by
                      rw [GSl.mapsnd l a hla]
                      exact hg2)
                    have hrun2 := hid hrun
                    clear hrun hg2 hw2 hla
                    go_wp2_with (first | (at_builtin; refine wpl_app _ rfl _ _ 28 rfl _ _ rfl rfl _ _ hrun2.out ?_))
                    go_round
                    case rel => exact ⟨a + 1, _, _, by omega, by go_num, rfl, NX⟩
                    case measure => simp [intOf]; omega
                  · have hge : ¬ (a : Int) < (l.length : Int) := by omega
                    obtain rfl : a = l.length := by omega
                    have S10 := hid (show SL wr (.slice va l.length vc) (l.map (·.2)) from by
                      have hG := HG.out
                      rw [List.take_length] at hG
                      have := GS.sl (l := l.map (·.2)) (oa := va) (cap := vc) (w0 := w7) (W := wr) (t := 22) (by rw [List.length_map]; exact hG) (by rw [List.length_map]; omega) HB2.out
                      rw [List.length_map] at this
                      exact this)
                    have K10 := hid (none_trans K7.out HG.out.kp)
                    have C10 := hid (C7.out.keep HG.out.kp)
                    have B10 := hid (B7.out.keep HG.out.kp (fun x => x))
                    clear HG K7 C7 B7
                    obtain ⟨d0, d1, d2⟩ := B10.out.cells
                    go_wp2_with fail
                    refine (HL2.out _ _ S10.out).mono ?_
                    rintro e w11 ⟨rfl, hk⟩
                    have K11 := hid (none_trans K10.out hk)
                    have C11 := hid (C10.out.keep hk)
                    clear hk d0 d1 d2 c0 c1 c2 c3 c4 c5 c6 K10 C10 B10
                    obtain ⟨c0, c1, c2, c3, c4, c5, c6⟩ := C11.out.cells
                    go_wp2_with fail
                    go_ret
                    exact ⟨rfl, K11.out⟩
              · have hs2 : (sv == -1) = false := by rw [beq_eq_false_iff_ne]; exact hs1
                go_wp2_with fail
                go_ret
                exact ⟨rfl, K7.out⟩
            · have hxo : xo = false := by rw [HXO.out, eO]; exact decide_eq_false hle
              have hxv : xv = 0 := by rw [HXV.out, eV, if_neg hle]
              subst hxo
              subst hxv
              have hle1 : ¬ (N : Int) ≤ (L : Int) := by omega
              have hle2 : decide ((N : Int) ≤ (L : Int)) = false := decide_eq_false hle1
              clear HXO HXV GD TT eO eV hN hpk hle
              go_wp2_with fail
              refine (HS.out _ _ (BL0.out.keep K6.out)).mono ?_
              rintro e w7 ⟨rfl, hk⟩
              have K7 := hid (none_trans K6.out hk)
              have C7 := hid (C6.out.keep hk)
              have B7 := hid (B6.out.keep hk (fun x => x))
              clear hk c0 c1 c2 c3 c4 c5 c6 K6 C6 B6
              obtain ⟨c0, c1, c2, c3, c4, c5, c6⟩ := C7.out.cells
              by_cases hs1 : sv = -1
              · subst hs1
                obtain ⟨SO, SV⟩ := sound_least HSV.out.symm
                rw [SO] at HL2
                obtain ⟨zv, hzv⟩ : ∃ zv, zv = leaV base (L : Int) (k : Int) [] (l.map (·.2)) := ⟨_, rfl⟩
                rw [← hzv] at SV
                rw [← hzv] at HL2
                clear hzv SO HSV
                go_wp2_with fail
                have I0 := hid (GS.nil w7 w7 22 1 (Kept.refl _ _))
                clear c0 c1 c2 c3 c4 c5 c6
                go_loopw [15, 16] (fun x i W => ∃ (a : Nat) (va : Option Addr) (vc : Nat), a ≤ l.length ∧ i = .int .i64 (a : Int) ∧ x = .slice va a vc ∧ Hid (GS w7 W 22 1 (.slice va a vc) a (scl ((l.take a).map (·.2))))) (fun _ i _ => l.length - (intOf i).toNat)
                case atStart => exact ⟨0, none, 0, Nat.zero_le _, rfl, rfl, by simpa [scl] using I0⟩
                case round =>
                  clear I0
                  obtain ⟨a, va, vc, ha, rfl, rfl, HG⟩ := hrel
                  obtain ⟨c0, c1, c2, c3, c4, c5, c6⟩ := (C7.out.keep HG.out.kp).cells
                  by_cases hlt : a < l.length
                  · have hai : (a : Int) < (l.length : Int) := by omega
                    obtain ⟨bl, o, p, s, rfl, hla, hp, hs, q0, q1⟩ := (BL0.out.keep (none_trans K7.out HG.out.kp)).at a hlt
                    obtain ⟨g2, cap2, w8, hrun, hg2, hw2⟩ := push_u64 HG.out s (by omega)
                    have NX := hid (show GS w7 w8 22 1 (.slice (some ⟨g2, 0, none⟩) (a + 1) cap2) (a + 1) (scl ((l.take (a + 1)).map (·.2))) from by
                      rw [GSl.mapsnd l a hla]
                      exact hg2)
                    have hrun2 := hid hrun
                    clear hrun hg2 hw2 hla
                    go_wp2_with (first | (at_builtin; refine wpl_app _ rfl _ _ 28 rfl _ _ rfl rfl _ _ hrun2.out ?_))
                    go_round
                    case rel => exact ⟨a + 1, _, _, by omega, by go_num, rfl, NX⟩
                    case measure => simp [intOf]; omega
                  · have hge : ¬ (a : Int) < (l.length : Int) := by omega
                    obtain rfl : a = l.length := by omega
                    have S10 := hid (show SL wr (.slice va l.length vc) (l.map (·.2)) from by
                      have hG := HG.out
                      rw [List.take_length] at hG
                      have := GS.sl (l := l.map (·.2)) (oa := va) (cap := vc) (w0 := w7) (W := wr) (t := 22) (by rw [List.length_map]; exact hG) (by rw [List.length_map]; omega) HB2.out
                      rw [List.length_map] at this
                      exact this)
                    have K10 := hid (none_trans K7.out HG.out.kp)
                    have C10 := hid (C7.out.keep HG.out.kp)
                    have B10 := hid (B7.out.keep HG.out.kp (fun x => x))
                    clear HG K7 C7 B7
                    obtain ⟨d0, d1, d2⟩ := B10.out.cells
                    go_wp2_with fail
                    refine (HL2.out _ _ S10.out).mono ?_
                    rintro e w11 ⟨rfl, hk⟩
                    have K11 := hid (none_trans K10.out hk)
                    have C11 := hid (C10.out.keep hk)
                    clear hk d0 d1 d2 c0 c1 c2 c3 c4 c5 c6 K10 C10 B10
                    obtain ⟨c0, c1, c2, c3, c4, c5, c6⟩ := C11.out.cells
                    go_wp2_with fail
                    go_ret
                    exact ⟨rfl, K11.out⟩
              · have hs2 : (sv == -1) = false := by rw [beq_eq_false_iff_ne]; exact hs1
                go_wp2_with fail
                go_ret
                exact ⟨rfl, K7.out⟩
end Go.Proofs.Ytibljocjdlgfbab
