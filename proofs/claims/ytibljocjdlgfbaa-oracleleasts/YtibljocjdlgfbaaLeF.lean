/- croftref11.laid. -/
import Derived.Test.YtibljocjdlgfbaaLeD
import Derived.Test.YtibljocjdlgfbaaLeE
import Derived.Test.YtibljocjdlgfbaaTuB
namespace Go.Proofs.Ytibljocjdlgfbaa
open Go.RowKit
set_option linter.unusedVariables false

/-- What laid answers. -/
def laiV (base k n : Nat) (l : Bls) (sz : List Nat) : Bool := l.all (fun b => okB base k n b.1 b.2) && laidG base (n * RS k) sz (k + 9) l
theorem GS.fresh (w0 : World) (e : TypeId) (size : Nat) : GS w0 (w0.alloc (.cells #[] e)) e size (.slice (some ⟨w0.heap.size, 0, none⟩) 0 0) 0 [] :=
  ⟨⟨by simp, .inr ⟨w0.heap.size, 0, #[], rfl, Nat.zero_le _, heap_new w0 _, Nat.le_refl _, Nat.zero_le _, by simp, by simp⟩⟩, fun g cap h => by injection h with h1 h2 h3; exact .inl (by omega), (Kept.refl _ _).alloc _⟩
theorem Snl.mono {base k m n : Nat} {L : Bls} (h : Snl base k m L) (hnm : n ≤ m) (ha : ∀ b ∈ L, okB base k n b.1 b.2 = true) : Snl base k n L :=
  ⟨h.bm, Nat.le_trans (Nat.mul_le_mul_right _ hnm) h.nr, fun a hal => by
    have hg := h.gd a hal
    unfold goodB at hg ⊢
    rw [List.getElem?_eq_getElem hal] at hg ⊢
    simp only [Bool.and_eq_true] at hg ⊢
    exact ⟨ha _ (List.getElem_mem hal), hg.2⟩⟩
theorem len_allU (base : Nat) : ∀ L : Bls, (∀ b ∈ L, 16 ≤ b.2) → L.length ≤ (allU base L).length
  | [], _ => Nat.zero_le _
  | b :: r, h => by
    have ih := len_allU base r fun x hx => h x (List.mem_cons_of_mem _ hx)
    have e : allU base (b :: r) = units (b.1 - base) b.2 ++ allU base r := rfl
    have h1 := h b (by simp)
    have h2 : 1 ≤ (units (b.1 - base) b.2).length := by
      simp [units, uns]
      unfold npg
      omega
    rw [e, List.length_append, List.length_cons]
    omega
theorem Snl.short {base k n : Nat} {L : Bls} (h : Snl base k n L) (hk : k ≤ 8) : L.length ≤ 262144 := by
  have h1 := len_allU base L fun b hb => (okO_of h.bm h.nr (h.ok hb)).1.l
  have h2 := (h.su hk).len (by have := h.nr; rw [RS_pages] at this; omega)
  omega
/-- What laid keeps: its row of blocks. -/
structure LI (W0 W : World) (base k n : Nat) (va : Option Addr) (q vc : Nat) (L : Bls) : Prop where
  gs : GS W0 W 60 2 (.slice va q vc) q (bcl L)
  ln : q = L.length
  sn : Snl base k n L
theorem LI.keep {W0 W W' : World} {base k n : Nat} {va : Option Addr} {q vc : Nat} {L : Bls} (h : LI W0 W base k n va q vc L) (kp : Kept none' W W') : LI W0 W' base k n va q vc L := ⟨h.gs.keep kp, h.ln, h.sn⟩
theorem LI.ends {W0 W : World} {base k n : Nat} {va : Option Addr} {q vc : Nat} {L : Bls} (h : LI W0 W base k n va q vc L) (hbe : base + n * RS k ≤ 9223372036854775808) : ∀ b ∈ L, base ≤ b.1 ∧ b.1 + b.2 < 2 ^ 64 := fun b hb => by
  obtain ⟨h1, h2, h3⟩ := okO_of h.sn.bm h.sn.nr (h.sn.ok hb)
  exact ⟨h2, by omega⟩
theorem LI.bl {W0 W : World} {base k n : Nat} {va : Option Addr} {q vc : Nat} {L : Bls} (h : LI W0 W base k n va q vc L) (hk : k ≤ 8) (hbe : base + n * RS k ≤ 9223372036854775808) : BL W (.slice va q vc) L := by
  obtain ⟨h1, h2, h3⟩ := h
  subst h2
  have hs := h3.short hk
  refine GS.bl' h1 (by omega) fun b hb => ?_
  obtain ⟨g1, g2, g3⟩ := okO_of h3.bm h3.nr (h3.ok hb)
  exact ⟨by omega, by omega⟩
/-- One block more. -/
theorem LI.push {W0 W w2 : World} {base k n : Nat} {va : Option Addr} {q vc p s : Nat} {L : Bls} {va2 : Option Addr} {vc2 : Nat} (h : LI W0 W base k n va q vc L) (hok : okB base k n p s = true) (hf : freB base L p s = true)
    (hg : GS W0 w2 60 2 (.slice va2 (q + 1) vc2) (q + 1) (bcl L ++ [.int .u64 (p : Int), .int .u64 (s : Int)])) : LI W0 w2 base k n va2 (q + 1) vc2 (L ++ [(p, s)]) :=
  ⟨by rw [bcl_app]; exact hg, by rw [List.length_append, List.length_singleton, h.ln], h.sn.snoc hok (by rw [← fre_lay h.sn hok]; exact hf)⟩
theorem runL_yes {base r t c c' : Nat} {sh : Bool} {L L' : Bls} (h : runL base r sh (L, c) t = (L', c')) (hc : 0 < c') (hs : stpB base r sh L' t = true) : runL base r sh (L, c) (t + 1) = (L' ++ [(base + r * t, r)], c' - 1) := by
  simp only [runL, h]
  rw [if_pos ⟨hc, hs⟩]
theorem runL_no {base r t c c' : Nat} {sh : Bool} {L L' : Bls} (h : runL base r sh (L, c) t = (L', c')) (hs : stpB base r sh L' t = false) : runL base r sh (L, c) (t + 1) = (L', c') := by
  simp only [runL, h]
  rw [if_neg (by rw [hs]; simp)]
theorem runL_end {base r t T c : Nat} {sh : Bool} {L L' : Bls} (h : runL base r sh (L, c) t = (L', 0)) (ht : t ≤ T) : runL base r sh (L, c) T = (L', 0) := by
  have := runL_done (base := base) (r := r) (sh := sh) (st := (L, c)) (t := t) (by rw [h]) (T - t)
  rw [show t + (T - t) = T by omega, h] at this
  exact this
/-- The state ahead of each pass, and behind both. -/
def pst (base r T : Nat) (L : Bls) (c : Nat) : Nat → Bls × Nat
  | 0 => (L, c)
  | 1 => runL base r true (L, c) T
  | _ => lay1 base r T L c
theorem count_take' (s : List Nat) (a x : Nat) {p : Nat} (h : s[a]? = some p) : (s.take (a + 1)).count x = (s.take a).count x + if p = x then 1 else 0 := by
  rw [List.take_add_one, h]
  by_cases c : p = x <;> simp [List.count_append, c]
theorem take_app' (l : Bls) (a : Nat) {p s : Nat} (h : l[a]? = some (p, s)) : l.take (a + 1) = l.take a ++ [(p, s)] := by
  rw [List.take_add_one, h]
  rfl

theorem box2 {W : World} {x p s : Nat} {t : TypeId} (h : W.heap[x]? = some (.cells #[.int .u64 (p : Int), .int .u64 (s : Int)] t)) : W.cell? ⟨x, 0, none⟩ = some (.int .u64 (p : Int)) ∧ W.cell? ⟨x, 1, none⟩ = some (.int .u64 (s : Int)) := by
  constructor <;> simp [World.cell?, h]

set_option maxRecDepth 20000 in
set_option maxHeartbeats 8000000 in
theorem refLaid (base k n m : Nat) (lim : Int) (hk8 : k ≤ 8) (hnm : n ≤ m) (hm64 : m ≤ 64) (v : Value) (l : Bls) (vs : Value) (sz : List Nat) (hS : Snl base k m l) (hbe : base + m * RS k ≤ 9223372036854775808) (hlen : l.length ≤ 8796093022000) (hlen2 : sz.length ≤ 17592186044400) (w : World) (hbl : BL w v l) (hsl : SL w vs sz) :
    Calls Try.prog 50 #[cfgV base lim (k : Int), .int .i64 (n : Int), v, vs] w fun e w' => e = .returned (.bool (laiV base k n l sz)) ∧ Kept none' w w' := by
  obtain ⟨oa, oc, rfl⟩ : ∃ oa oc, v = .slice oa l.length oc := by
    obtain ⟨_, _, oa, oc, hv, _⟩ := hbl
    exact ⟨oa, oc, hv⟩
  obtain ⟨oa2, oc2, rfl⟩ : ∃ oa oc, vs = .slice oa sz.length oc := by
    obtain ⟨_, _, oa, oc, hv, _⟩ := hsl
    exact ⟨oa, oc, hv⟩
  have hmk : ∀ w : World, (Instr.makeSlice 48 (.int .i64 0) (.int .i64 0)).run Try.prog w = .ok (.slice (some ⟨w.heap.size, 0, none⟩) 0 0) (w.alloc (.cells #[] 60)) := fun _ => by kernel_rfl
  have C0 := hid (show CR (w.alloc (.cells #[.int .u64 (base : Int), .int .i64 lim, .int .i64 (k : Int)] 42)) w.heap.size base lim (k : Int) from heap_new w _)
  have K0 := hid (show Kept none' w (w.alloc (.cells #[.int .u64 (base : Int), .int .i64 lim, .int .i64 (k : Int)] 42)) from (Kept.refl _ w).alloc _)
  have HSZ := hid (show (w.alloc (.cells #[.int .u64 (base : Int), .int .i64 lim, .int .i64 (k : Int)] 42)).heap.size = w.heap.size + 1 from World.size_alloc _ _)
  have BL0 := hid hbl
  have SL0 := hid hsl
  have hbn : base + n * RS k ≤ 9223372036854775808 := by
    have : n * RS k ≤ m * RS k := Nat.mul_le_mul_right _ hnm
    omega
  have hnr : n * RS k ≤ 4194304 := Nat.le_trans (Nat.mul_le_mul_right _ hnm) hS.nr
  have HBE := hid hbn
  obtain ⟨R, hR⟩ : ∃ R, R = RS k := ⟨_, rfl⟩
  have hRb : 4096 ≤ R ∧ R ≤ 1048576 := by rw [hR]; exact RS_le k hk8
  have HRR := hid (show ∀ W, Calls Try.prog 27 #[cfgV base lim (k : Int)] W fun e w' => e = .returned (.int .u64 (R : Int)) ∧ Kept none' W w' from fun W => by
    rw [hR]; exact refR base lim k hk8 W)
  obtain ⟨hh, hhd⟩ : ∃ hh, hh = n * R := ⟨_, rfl⟩
  have hhi : (n : Int) * (R : Int) = (hh : Int) := by rw [hhd]; simp
  have HHH := hid (show hh = n * RS k by rw [hhd, hR])
  have hhb : hh ≤ 4194304 := by rw [HHH.out]; exact hnr
  have hbh : base + hh ≤ 9223372036854775808 := by rw [HHH.out]; exact hbn
  have HOF := hid (fun W p s hp hs => refOf base lim k n hk8 (by omega) (by omega) p s hp hs W)
  have HS0 := hid hS
  have hn64 : n ≤ 64 := by omega
  have RK := hid (show R = 2 ^ (3 + (k + 9)) by rw [hR]; unfold RS; rw [show 3 + (k + 9) = 12 + k by omega, Nat.pow_add])
  obtain ⟨fv, hfv⟩ : ∃ fv, fv = laiV base k n l sz := ⟨_, rfl⟩
  have FV := hid hfv
  rw [← hfv]
  clear hbl hsl hS hbe hbn hnr hR hhd hfv hm64
  go_enter Try.func50, Try.ntmps50
  go_wp2_with fail
  generalize w.alloc (.cells #[.int .u64 (base : Int), .int .i64 lim, .int .i64 (k : Int)] 42) = W0 at *
  generalize w.heap.size = cx at *
  have I0 := hid (GS.fresh W0 60 2)
  go_loopw [9, 10] (fun x i W => ∃ (a : Nat) (va : Option Addr) (vc : Nat), a ≤ l.length ∧ i = .int .i64 (a : Int) ∧ x = .slice va a vc ∧ Hid (GS W0 W 60 2 (.slice va a vc) a (bcl (l.take a)) ∧ ∀ b ∈ l.take a, okB base k n b.1 b.2 = true)) (fun _ i _ => l.length - (intOf i).toNat)
  case atStart => exact ⟨0, _, _, Nat.zero_le _, rfl, rfl, hid ⟨by have h := I0.out; rw [HSZ.out] at h; simpa [bcl] using h, fun b hb => by simp at hb⟩⟩
  case round =>
    clear I0
    obtain ⟨a, va, vc, ha, rfl, rfl, HG⟩ := hrel
    by_cases hlt : a < l.length
    · have hai : (a : Int) < (l.length : Int) := by omega
      obtain ⟨bl, o, p, s, rfl, hla, hp, hs, q0, q1⟩ := BL0.out.all (none_trans K0.out HG.out.1.kp) a hlt
      obtain ⟨c0, c1, c2⟩ := (C0.out.keep HG.out.1.kp (fun x => x)).all
      have HO := hid (fun W => HOF.out W p s hp hs)
      have TK := hid (take_app' l a hla)
      go_wp2_with fail
      refine wp_region_kept (by kernel_rfl) (by kernel_rfl) ?_
      cases hok : okB base k n p s with
      | false =>
        rw [hok] at HO
        have E := hid (show fv = false by
          rw [FV.out]
          unfold laiV
          have : l.all (fun b => okB base k n b.1 b.2) = false := by
            rw [Bool.eq_false_iff]
            intro h
            have := List.all_eq_true.1 h (p, s) (List.mem_of_getElem? hla)
            rw [hok] at this
            cases this
          rw [this, Bool.false_and])
        clear hok hla
        repeat (go_big_quiet_step (first | (go_at_call 46; exact Calls.kept_of (HO.out _))))
        refine wpQuiet_nil ?_
        intro x
        have KX := hid (none_trans (none_trans K0.out HG.out.1.kp) x.k)
        go_wp2_with fail
        go_ret
        exact ⟨ret_bool E.out.symm, KX.out⟩
      | true =>
        rw [hok] at HO
        have HOK := hid hok
        clear hok hla
        repeat (go_big_quiet_step (first | (go_at_call 46; exact Calls.kept_of (HO.out _))))
        refine wpQuiet_nil ?_
        intro x
        have r0 := q0 x
        have r1 := q1 x
        obtain ⟨g2, cap2, w2, hrun, hg2, hw2⟩ := push_rbk (HG.out.1.keep x.k) p s (by omega)
        have NX := hid (show GS W0 w2 60 2 (.slice (some ⟨g2, 0, none⟩) (a + 1) cap2) (a + 1) (bcl (l.take (a + 1))) ∧ ∀ b ∈ l.take (a + 1), okB base k n b.1 b.2 = true from ⟨by rw [TK.out, bcl_app]; exact hg2, fun b hb => by
          rw [TK.out] at hb
          rcases List.mem_append.1 hb with h | h
          · exact HG.out.2 b h
          · rw [List.mem_singleton.1 h]; exact HOK.out⟩)
        have hrun2 := hid hrun
        clear hrun hg2 hw2 q0 q1 c0 c1 c2
        go_wp2_with (first | (at_builtin; refine wpl_app _ rfl _ _ 48 rfl _ _ rfl rfl _ _ hrun2.out ?_))
        go_round
        case rel => exact ⟨a + 1, _, _, by omega, by go_num, rfl, NX⟩
        case measure => simp [intOf]; omega
    · have hge : ¬ (a : Int) < (l.length : Int) := by omega
      obtain rfl : a = l.length := by omega
      have hall : ∀ b ∈ l, okB base k n b.1 b.2 = true := fun b hb => HG.out.2 b (by rw [List.take_length]; exact hb)
      have LI0 := hid (show LI W0 wr base k n va l.length vc l from ⟨by have := HG.out.1; rw [List.take_length] at this; exact this, rfl, HS0.out.mono hnm hall⟩)
      have FV2 := hid (show fv = laidG base hh sz (k + 9) l by
        rw [FV.out, HHH.out]
        unfold laiV
        rw [List.all_eq_true.2 hall, Bool.true_and])
      clear hall HG hlt ha FV HS0 HOF hmk BL0
      obtain ⟨c0, c1, c2⟩ := (C0.out.keep LI0.out.gs.kp (fun x => x)).cells
      go_wp2_with fail
      refine (HRR.out _).mono ?_
      rintro e w1 ⟨rfl, hk⟩
      have LI1 := hid (LI0.out.keep hk)
      clear hk c0 c1 c2 LI0
      obtain ⟨c0, c1, c2⟩ := (C0.out.keep LI1.out.gs.kp (fun x => x)).cells
      go_wp2_with fail
      refine (HRR.out _).mono ?_
      rintro e w2 ⟨rfl, hk⟩
      have LI2 := hid (LI1.out.keep hk)
      clear hk c0 c1 c2 LI1 HRR
      go_wp2_with fail
      go_loopw [9, 12] (fun x y W => ∃ (mm r : Nat) (L : Bls) (va : Option Addr) (q vc : Nat), x = .slice va q vc ∧ y = .int .u64 (r : Int) ∧ Hid (mm ≤ k + 9 ∧ r = 2 ^ (3 + mm) ∧ LI W0 W base k n va q vc L ∧ fv = laidG base hh sz mm L)) (fun _ y _ => (intOf y).toNat)
      case atStart => exact ⟨k + 9, R, l, va, l.length, vc, rfl, rfl, hid ⟨Nat.le_refl _, RK.out, LI2.out, FV2.out⟩⟩
      case round =>
        clear LI2 FV2 RK
        obtain ⟨mm, r, L, va, q, vc, rfl, rfl, HI⟩ := hrel
        cases mm with
        | zero =>
          have hr8 : r = 8 := HI.out.2.1
          subst hr8
          have E := hid (show fv = true from HI.out.2.2.2)
          have KE := hid (none_trans K0.out HI.out.2.2.1.gs.kp)
          go_wp2_with fail
          go_ret
          exact ⟨ret_bool E.out.symm, KE.out⟩
        | succ mm =>
          have hrp : r = 2 ^ (4 + mm) := by rw [HI.out.2.1, show 3 + (mm + 1) = 4 + mm by omega]
          have hmk9 : mm ≤ k + 8 := by have := HI.out.1; omega
          have hr16 : 16 ≤ r := by
            rw [hrp, pow_16]
            have := Nat.two_pow_pos mm
            omega
          have hrR : r ≤ RS k := by
            rw [hrp]
            unfold RS
            rw [show (4096 : Nat) = 2 ^ 12 by decide, ← Nat.pow_add]
            exact Nat.pow_le_pow_right (by decide) (by omega)
          have hrb : r ≤ 1048576 := Nat.le_trans hrR (RS_le k hk8).2
          have hisP : isP r = true := (isP_iff _).2 ⟨_, hrp⟩
          have hrg : (16 : Int) ≤ (r : Int) := by omega
          have hrg' : decide ((16 : Int) ≤ (r : Int)) = true := decide_eq_true hrg
          obtain ⟨T, hT⟩ : ∃ T, T = hh / r := ⟨_, rfl⟩
          have hdv : hh = r * T := by
            rw [hT]
            have : r ∣ hh := by rw [HHH.out]; exact Nat.dvd_trans (pow_dvd hisP (isP_RS k) hrR) (Nat.dvd_mul_left _ _)
            exact (Nat.mul_div_cancel' this).symm
          have POK := hid (show ∀ t, t < T → okB base k n (base + r * t) r = true from fun t ht => pos_ok HI.out.2.2.1.sn.bm hisP hr16 hrR (by rw [← HHH.out, ← hT]; exact ht))
          obtain ⟨rh, hrh⟩ : ∃ rh, rh = r / 2 := ⟨_, rfl⟩
          have hr2 : (r : Int) / 2 = (rh : Int) := by omega
          have hrl : rh < r := by omega
          have FVS := hid (show fv = (decide ((lay1 base r T L (sz.count r)).2 = 0) && laidG base hh sz mm (lay1 base r T L (sz.count r)).1) by
            rw [HI.out.2.2.2, hT, hrp]
            rfl)
          have R2 := hid (show rh = 2 ^ (3 + mm) by
            rw [hrh, hrp, show 4 + mm = (3 + mm) + 1 by omega, Nat.pow_succ]
            omega)
          have LI3 := hid HI.out.2.2.1
          have HDV := hid hdv
          clear HI hrp hrR hisP hT hdv hrh
          go_wp2_with fail
          go_loop [13, 14] (fun z i => ∃ a : Nat, a ≤ sz.length ∧ i = .int .i64 a ∧ ∃ c : Nat, z = .int .i64 (c : Int) ∧ Hid (c = (sz.take a).count r)) (fun _ i => sz.length - (intOf i).toNat)
          case atStart => exact ⟨0, Nat.zero_le _, rfl, 0, rfl, hid (by simp)⟩
          case round =>
            obtain ⟨a, ha, rfl, c, rfl, HC⟩ := hrel
            have hcb : c ≤ 17592186044400 := by
              have h1 := List.count_le_length (a := r) (l := sz.take a)
              rw [List.length_take] at h1
              rw [HC.out]
              omega
            by_cases hlt : a < sz.length
            · have hai : (a : Int) < (sz.length : Int) := by omega
              obtain ⟨bl, o, p, rfl, hla, hp, q0⟩ := (SL0.out.keep (none_trans K0.out LI3.out.gs.kp)).at a hlt
              have HCT := hid (count_take' sz a r hla)
              clear hla
              by_cases e : p = r
              · have NX := hid (show c + 1 = (sz.take (a + 1)).count r by rw [HCT.out, if_pos e, HC.out])
                have e1 : (p : Int) = (r : Int) := by omega
                clear e
                rw [e1] at q0
                go_wp2_with fail
                go_round
                case rel => exact ⟨a + 1, by omega, by go_num, c + 1, by go_num, NX⟩
                case measure => simp [intOf]; omega
              · have NX := hid (show c = (sz.take (a + 1)).count r by rw [HCT.out, if_neg e, Nat.add_zero, HC.out])
                have e1 : ((p : Int) == (r : Int)) = false := by rw [beq_eq_false_iff_ne]; omega
                have e2 : ¬ (p : Int) = (r : Int) := by omega
                clear e
                go_wp2_with fail
                go_round
                case rel => exact ⟨a + 1, by omega, by go_num, c, rfl, NX⟩
                case measure => simp [intOf]; omega
            · have hge : ¬ (a : Int) < (sz.length : Int) := by omega
              have EC := hid (show c = sz.count r by
                have ea : a = sz.length := by omega
                rw [HC.out, ea, List.take_length])
              clear HC hlt ha
              go_wp2_with fail
              go_loopw [9, 13, 15] (fun x y z W => ∃ (g c' : Nat) (bg : Int) (L' : Bls) (va : Option Addr) (q vc : Nat), z = .int .i64 bg ∧ x = .slice va q vc ∧ y = .int .i64 (c' : Int) ∧ Hid ((g = 0 ∧ bg = 1 ∨ g = 1 ∧ bg = 0 ∨ g = 2 ∧ bg = -1) ∧ LI W0 W base k n va q vc L' ∧ c' ≤ c ∧ pst base r T L c g = (L', c'))) (fun _ _ z _ => (intOf z + 1).toNat)
              case atStart => exact ⟨0, c, 1, L, va, q, vc, rfl, rfl, rfl, hid ⟨.inl ⟨rfl, rfl⟩, LI3.out, Nat.le_refl _, rfl⟩⟩
              case round =>
                clear LI3
                obtain ⟨g, c1, bg, L1, va, q, vc, rfl, rfl, rfl, HP⟩ := hrel
                rcases HP.out.1 with ⟨rfl, rfl⟩ | ⟨rfl, rfl⟩ | ⟨rfl, rfl⟩
                · have PS := hid (show ∀ L2 c2, runL base r true (L1, c1) T = (L2, c2) → pst base r T L c 1 = (L2, c2) from fun L2 c2 h => by
                    have hp : (L, c) = (L1, c1) := HP.out.2.2.2
                    injection hp with p1 p2
                    subst p1 p2
                    exact h)
                  have LI4 := hid HP.out.2.1
                  have C1B := hid HP.out.2.2.1
                  clear HP
                  go_wp2_with fail
                  go_loopw [9, 13, 16] (fun x y z W => ∃ (t c2 ot : Nat) (L2 : Bls) (va : Option Addr) (q vc : Nat), z = .int .u64 (ot : Int) ∧ x = .slice va q vc ∧ y = .int .i64 (c2 : Int) ∧ Hid (t ≤ T ∧ ot = r * t ∧ LI W0 W base k n va q vc L2 ∧ c2 ≤ c1 ∧ runL base r true (L1, c1) t = (L2, c2))) (fun _ _ z _ => hh - (intOf z).toNat)
                  case atStart => exact ⟨0, c1, 0, L1, va, q, vc, rfl, rfl, rfl, hid ⟨Nat.zero_le _, rfl, LI4.out, Nat.le_refl _, rfl⟩⟩
                  case round =>
                    clear LI4
                    obtain ⟨t, c2, ot, L2, va, q, vc, rfl, rfl, rfl, HJ⟩ := hrel
                    have hc2b : c2 ≤ 17592186044400 := by have := HJ.out.2.2.2.1; have := C1B.out; omega
                    have hotb : ot ≤ 4194304 := by
                      have h1 := HJ.out.2.1
                      have h2 : r * t ≤ r * T := Nat.mul_le_mul_left _ HJ.out.1
                      have := HDV.out
                      omega
                    by_cases ht : ot < hh
                    · have hti : (ot : Int) < (hh : Int) := by omega
                      have hti' : decide ((ot : Int) < (hh : Int)) = true := decide_eq_true hti
                      by_cases hc : 0 < c2
                      · have hci : (0 : Int) < (c2 : Int) := by omega
                        have hci' : decide ((0 : Int) < (c2 : Int)) = true := decide_eq_true hci
                        have htT : t < T := by
                          refine Nat.lt_of_not_le fun hle => ?_
                          have h1 : r * T ≤ r * t := Nat.mul_le_mul_left _ hle
                          have h2 := HDV.out
                          have h3 := HJ.out.2.1
                          omega
                        obtain ⟨p, hpd⟩ : ∃ p, p = base + ot := ⟨_, rfl⟩
                        have hpi : (base : Int) + (ot : Int) = (p : Int) := by omega
                        have hpb : base ≤ p ∧ p ≤ 9223372036854775808 := by omega
                        have PE := hid (show p = base + r * t by rw [hpd, HJ.out.2.1])
                        have OKP := hid (show okB base k n p r = true by rw [PE.out]; exact POK.out t htT)
                        obtain ⟨o2, ho2⟩ : ∃ o2, o2 = ot + r := ⟨_, rfl⟩
                        have NOT := hid (show o2 = r * (t + 1) by rw [ho2, HJ.out.2.1, Nat.mul_add, Nat.mul_one])
                        have hotr : o2 ≤ 5242880 := by omega
                        have hoto : ot < o2 := by omega
                        have hoti : (ot : Int) + (r : Int) = (o2 : Int) := by omega
                        clear ho2
                        obtain ⟨bs, hbs⟩ : ∃ bs, bs = shrB base L2 p r := ⟨_, rfl⟩
                        obtain ⟨bf, hbf⟩ : ∃ bf, bf = freB base L2 p r := ⟨_, rfl⟩
                        have EST := hid (show stpB base r true L2 t = ((!true || bs) && bf) by unfold stpB; rw [hbs, hbf, PE.out])
                        have HSR := hid (show ∀ W va q vc, BL W (.slice va q vc) L2 → (∀ b ∈ L2, base ≤ b.1 ∧ b.1 + b.2 < 2 ^ 64) → Calls Try.prog 58 #[cfgV base lim (k : Int), .slice va q vc, blkV p r] W fun e w' => e = .returned (.bool bs) ∧ Kept none' W w' from fun W va q vc h hB => by
                          rw [hbs]; exact refShares base lim k _ L2 p r hpb.1 (by omega) (by omega) (by omega) W h hB)
                        have HFR := hid (show ∀ W va q vc, BL W (.slice va q vc) L2 → (∀ b ∈ L2, base ≤ b.1 ∧ b.1 + b.2 < 2 ^ 64) → Calls Try.prog 59 #[cfgV base lim (k : Int), .slice va q vc, blkV p r] W fun e w' => e = .returned (.bool bf) ∧ Kept none' W w' from fun W va q vc h hB => by
                          rw [hbf]; exact refFree base lim k _ L2 p r hpb.1 (by omega) (by omega) (by omega) W h hB)
                        have HBF := hid hbf
                        have LI5 := hid HJ.out.2.2.1
                        have HB5 := hid (LI5.out.ends HBE.out)
                        have T5 := hid (show t ≤ T ∧ c2 ≤ c1 ∧ runL base r true (L1, c1) t = (L2, c2) from ⟨HJ.out.1, HJ.out.2.2.2.1, HJ.out.2.2.2.2⟩)
                        clear HJ hbs hbf hpd
                        obtain ⟨c0, c1', c2'⟩ := (C0.out.keep LI5.out.gs.kp (fun x => x)).cells
                        have KB := hid (show Kept none' wr (wr.alloc (.cells #[.int .u64 (p : Int), .int .u64 (r : Int)] 60)) from (Kept.refl _ _).alloc _)
                        have BB := hid (show (wr.alloc (.cells #[.int .u64 (p : Int), .int .u64 (r : Int)] 60)).heap[wr.heap.size]? = some (.cells #[.int .u64 (p : Int), .int .u64 (r : Int)] 60) from heap_new wr _)
                        have LI6 := hid (LI5.out.keep KB.out)
                        obtain ⟨e0, e1, e2⟩ := (C0.out.keep LI6.out.gs.kp (fun x => x)).cells
                        obtain ⟨d0, d1⟩ := box2 BB.out
                        go_wp2_with fail
                        generalize wr.alloc (.cells #[.int .u64 (p : Int), .int .u64 (r : Int)] 60) = w6 at *
                        generalize wr.heap.size = bx at *
                        clear LI5 KB c0 c1' c2' e0 e1 e2 d0 d1
                        obtain ⟨c0, c1', c2'⟩ := (C0.out.keep LI6.out.gs.kp (fun x => x)).cells
                        obtain ⟨d0, d1⟩ := box2 BB.out
                        refine (HSR.out _ _ _ _ (LI6.out.bl hk8 HBE.out) HB5.out).mono ?_
                        rintro e w7 ⟨rfl, hk⟩
                        have LI7 := hid (LI6.out.keep hk)
                        replace BB := hid ((hk.block _ (heap_lt BB.out) (fun x => x)).trans BB.out)
                        clear hk c0 c1' c2' d0 d1
                        obtain ⟨c0, c1', c2'⟩ := (C0.out.keep LI7.out.gs.kp (fun x => x)).cells
                        obtain ⟨d0, d1⟩ := box2 BB.out
                        cases bs with
                        | false =>
                          have NX := hid (show runL base r true (L1, c1) (t + 1) = (L2, c2) from runL_no T5.out.2.2 (by rw [EST.out]; rfl))
                          go_wp2_with fail
                          go_round
                          case rel => exact ⟨t + 1, c2, o2, L2, va, q, vc, by go_num, rfl, rfl, hid ⟨htT, NOT.out, LI7.out, T5.out.2.1, NX.out⟩⟩
                          case measure => simp [intOf]; omega
                        | true =>
                          go_wp2_with fail
                          refine (HFR.out _ _ _ _ (LI7.out.bl hk8 HBE.out) HB5.out).mono ?_
                          rintro e w8 ⟨rfl, hk⟩
                          have LI8 := hid (LI7.out.keep hk)
                          replace BB := hid ((hk.block _ (heap_lt BB.out) (fun x => x)).trans BB.out)
                          clear hk c0 c1' c2' d0 d1
                          obtain ⟨d0, d1⟩ := box2 BB.out
                          cases bf with
                          | false =>
                            have NX := hid (show runL base r true (L1, c1) (t + 1) = (L2, c2) from runL_no T5.out.2.2 (by rw [EST.out]; rfl))
                            go_wp2_with fail
                            go_round
                            case rel => exact ⟨t + 1, c2, o2, L2, va, q, vc, by go_num, rfl, rfl, hid ⟨htT, NOT.out, LI8.out, T5.out.2.1, NX.out⟩⟩
                            case measure => simp [intOf]; omega
                          | true =>
                            have hq : q ≤ 8796093022207 := by
                              have h1 := LI8.out.sn.short hk8
                              have h2 := LI8.out.ln
                              omega
                            obtain ⟨g2', cap2, w9, hrun, hg9, hw9⟩ := push_rbk LI8.out.gs p r hq
                            have LI9 := hid (LI8.out.push OKP.out HBF.out.symm hg9)
                            obtain ⟨c3, hc3⟩ : ∃ c3, c3 = c2 - 1 := ⟨_, rfl⟩
                            have NX := hid (show runL base r true (L1, c1) (t + 1) = (L2 ++ [(p, r)], c3) from by
                              rw [PE.out, hc3]
                              exact runL_yes T5.out.2.2 hc (by rw [EST.out]; rfl))
                            have hrun2 := hid hrun
                            have hcm : (c2 : Int) - 1 = (c3 : Int) := by omega
                            have C3B := hid (show c3 ≤ c1 by have := T5.out.2.1; omega)
                            clear hc3
                            clear hrun hg9 hw9
                            go_wp2_with (first | (at_builtin; refine wpl_app _ rfl _ _ 48 rfl _ _ rfl rfl _ _ hrun2.out ?_))
                            go_round
                            case rel => exact ⟨t + 1, c3, o2, L2 ++ [(p, r)], _, q + 1, _, by go_num, rfl, by go_num, hid ⟨htT, NOT.out, LI9.out, C3B.out, NX.out⟩⟩
                            case measure => simp [intOf]; omega
                      · have hc0 : c2 = 0 := by omega
                        subst hc0
                        have NX := hid (PS.out L2 0 (runL_end HJ.out.2.2.2.2 HJ.out.1))
                        have LI5 := hid HJ.out.2.2.1
                        clear HJ
                        go_wp2_with fail
                        go_round
                        case rel => exact ⟨1, 0, 0, L2, va, q, vc, by go_num, rfl, rfl, hid ⟨.inr (.inl ⟨rfl, rfl⟩), LI5.out, Nat.zero_le _, NX.out⟩⟩
                        case measure => simp [intOf]
                    · have hti : ¬ (ot : Int) < (hh : Int) := by omega
                      have hti' : decide ((ot : Int) < (hh : Int)) = false := decide_eq_false hti
                      have etT : t = T := by
                        refine Nat.le_antisymm HJ.out.1 (Nat.le_of_not_lt fun hlt => ht ?_)
                        rw [HJ.out.2.1, HDV.out]
                        exact Nat.mul_lt_mul_of_pos_left hlt (by omega)
                      have NX := hid (PS.out L2 c2 (by rw [← etT]; exact HJ.out.2.2.2.2))
                      have LI5 := hid HJ.out.2.2.1
                      have CB := hid (show c2 ≤ c from Nat.le_trans HJ.out.2.2.2.1 C1B.out)
                      clear HJ etT
                      go_wp2_with fail
                      go_round
                      case rel => exact ⟨1, c2, 0, L2, va, q, vc, by go_num, rfl, rfl, hid ⟨.inr (.inl ⟨rfl, rfl⟩), LI5.out, CB.out, NX.out⟩⟩
                      case measure => simp [intOf]
                · have PS := hid (show ∀ L2 c2, runL base r false (L1, c1) T = (L2, c2) → pst base r T L c 2 = (L2, c2) from fun L2 c2 h => by
                    have hp : runL base r true (L, c) T = (L1, c1) := HP.out.2.2.2
                    show lay1 base r T L c = (L2, c2)
                    unfold lay1
                    rw [hp]
                    exact h)
                  have LI4 := hid HP.out.2.1
                  have C1B := hid HP.out.2.2.1
                  clear HP
                  go_wp2_with fail
                  go_loopw [9, 13, 16] (fun x y z W => ∃ (t c2 ot : Nat) (L2 : Bls) (va : Option Addr) (q vc : Nat), z = .int .u64 (ot : Int) ∧ x = .slice va q vc ∧ y = .int .i64 (c2 : Int) ∧ Hid (t ≤ T ∧ ot = r * t ∧ LI W0 W base k n va q vc L2 ∧ c2 ≤ c1 ∧ runL base r false (L1, c1) t = (L2, c2))) (fun _ _ z _ => hh - (intOf z).toNat)
                  case atStart => exact ⟨0, c1, 0, L1, va, q, vc, rfl, rfl, rfl, hid ⟨Nat.zero_le _, rfl, LI4.out, Nat.le_refl _, rfl⟩⟩
                  case round =>
                    clear LI4
                    obtain ⟨t, c2, ot, L2, va, q, vc, rfl, rfl, rfl, HJ⟩ := hrel
                    have hc2b : c2 ≤ 17592186044400 := by have := HJ.out.2.2.2.1; have := C1B.out; omega
                    have hotb : ot ≤ 4194304 := by
                      have h1 := HJ.out.2.1
                      have h2 : r * t ≤ r * T := Nat.mul_le_mul_left _ HJ.out.1
                      have := HDV.out
                      omega
                    by_cases ht : ot < hh
                    · have hti : (ot : Int) < (hh : Int) := by omega
                      have hti' : decide ((ot : Int) < (hh : Int)) = true := decide_eq_true hti
                      by_cases hc : 0 < c2
                      · have hci : (0 : Int) < (c2 : Int) := by omega
                        have hci' : decide ((0 : Int) < (c2 : Int)) = true := decide_eq_true hci
                        have htT : t < T := by
                          refine Nat.lt_of_not_le fun hle => ?_
                          have h1 : r * T ≤ r * t := Nat.mul_le_mul_left _ hle
                          have h2 := HDV.out
                          have h3 := HJ.out.2.1
                          omega
                        obtain ⟨p, hpd⟩ : ∃ p, p = base + ot := ⟨_, rfl⟩
                        have hpi : (base : Int) + (ot : Int) = (p : Int) := by omega
                        have hpb : base ≤ p ∧ p ≤ 9223372036854775808 := by omega
                        have PE := hid (show p = base + r * t by rw [hpd, HJ.out.2.1])
                        have OKP := hid (show okB base k n p r = true by rw [PE.out]; exact POK.out t htT)
                        obtain ⟨o2, ho2⟩ : ∃ o2, o2 = ot + r := ⟨_, rfl⟩
                        have NOT := hid (show o2 = r * (t + 1) by rw [ho2, HJ.out.2.1, Nat.mul_add, Nat.mul_one])
                        have hotr : o2 ≤ 5242880 := by omega
                        have hoto : ot < o2 := by omega
                        have hoti : (ot : Int) + (r : Int) = (o2 : Int) := by omega
                        clear ho2
                        obtain ⟨bs, hbs⟩ : ∃ bs, bs = shrB base L2 p r := ⟨_, rfl⟩
                        obtain ⟨bf, hbf⟩ : ∃ bf, bf = freB base L2 p r := ⟨_, rfl⟩
                        have EST := hid (show stpB base r false L2 t = ((!false || bs) && bf) by unfold stpB; rw [hbs, hbf, PE.out])
                        have HSR := hid (show ∀ W va q vc, BL W (.slice va q vc) L2 → (∀ b ∈ L2, base ≤ b.1 ∧ b.1 + b.2 < 2 ^ 64) → Calls Try.prog 58 #[cfgV base lim (k : Int), .slice va q vc, blkV p r] W fun e w' => e = .returned (.bool bs) ∧ Kept none' W w' from fun W va q vc h hB => by
                          rw [hbs]; exact refShares base lim k _ L2 p r hpb.1 (by omega) (by omega) (by omega) W h hB)
                        have HFR := hid (show ∀ W va q vc, BL W (.slice va q vc) L2 → (∀ b ∈ L2, base ≤ b.1 ∧ b.1 + b.2 < 2 ^ 64) → Calls Try.prog 59 #[cfgV base lim (k : Int), .slice va q vc, blkV p r] W fun e w' => e = .returned (.bool bf) ∧ Kept none' W w' from fun W va q vc h hB => by
                          rw [hbf]; exact refFree base lim k _ L2 p r hpb.1 (by omega) (by omega) (by omega) W h hB)
                        have HBF := hid hbf
                        have LI5 := hid HJ.out.2.2.1
                        have HB5 := hid (LI5.out.ends HBE.out)
                        have T5 := hid (show t ≤ T ∧ c2 ≤ c1 ∧ runL base r false (L1, c1) t = (L2, c2) from ⟨HJ.out.1, HJ.out.2.2.2.1, HJ.out.2.2.2.2⟩)
                        clear HJ hbs hbf hpd
                        obtain ⟨c0, c1', c2'⟩ := (C0.out.keep LI5.out.gs.kp (fun x => x)).cells
                        have KB := hid (show Kept none' wr (wr.alloc (.cells #[.int .u64 (p : Int), .int .u64 (r : Int)] 60)) from (Kept.refl _ _).alloc _)
                        have BB := hid (show (wr.alloc (.cells #[.int .u64 (p : Int), .int .u64 (r : Int)] 60)).heap[wr.heap.size]? = some (.cells #[.int .u64 (p : Int), .int .u64 (r : Int)] 60) from heap_new wr _)
                        have LI6 := hid (LI5.out.keep KB.out)
                        obtain ⟨e0, e1, e2⟩ := (C0.out.keep LI6.out.gs.kp (fun x => x)).cells
                        obtain ⟨d0, d1⟩ := box2 BB.out
                        go_wp2_with fail
                        generalize wr.alloc (.cells #[.int .u64 (p : Int), .int .u64 (r : Int)] 60) = w6 at *
                        generalize wr.heap.size = bx at *
                        clear LI5 KB c0 c1' c2' e0 e1 e2 d0 d1
                        obtain ⟨c0, c1', c2'⟩ := (C0.out.keep LI6.out.gs.kp (fun x => x)).cells
                        obtain ⟨d0, d1⟩ := box2 BB.out
                        refine (HFR.out _ _ _ _ (LI6.out.bl hk8 HBE.out) HB5.out).mono ?_
                        rintro e w8 ⟨rfl, hk⟩
                        have LI8 := hid (LI6.out.keep hk)
                        replace BB := hid ((hk.block _ (heap_lt BB.out) (fun x => x)).trans BB.out)
                        clear hk c0 c1' c2' d0 d1
                        obtain ⟨d0, d1⟩ := box2 BB.out
                        cases bf with
                        | false =>
                          have NX := hid (show runL base r false (L1, c1) (t + 1) = (L2, c2) from runL_no T5.out.2.2 (by rw [EST.out]; rfl))
                          go_wp2_with fail
                          go_round
                          case rel => exact ⟨t + 1, c2, o2, L2, va, q, vc, by go_num, rfl, rfl, hid ⟨htT, NOT.out, LI8.out, T5.out.2.1, NX.out⟩⟩
                          case measure => simp [intOf]; omega
                        | true =>
                          have hq : q ≤ 8796093022207 := by
                            have h1 := LI8.out.sn.short hk8
                            have h2 := LI8.out.ln
                            omega
                          obtain ⟨g2', cap2, w9, hrun, hg9, hw9⟩ := push_rbk LI8.out.gs p r hq
                          have LI9 := hid (LI8.out.push OKP.out HBF.out.symm hg9)
                          obtain ⟨c3, hc3⟩ : ∃ c3, c3 = c2 - 1 := ⟨_, rfl⟩
                          have NX := hid (show runL base r false (L1, c1) (t + 1) = (L2 ++ [(p, r)], c3) from by
                            rw [PE.out, hc3]
                            exact runL_yes T5.out.2.2 hc (by rw [EST.out]; rfl))
                          have hrun2 := hid hrun
                          have hcm : (c2 : Int) - 1 = (c3 : Int) := by omega
                          have C3B := hid (show c3 ≤ c1 by have := T5.out.2.1; omega)
                          clear hc3
                          clear hrun hg9 hw9
                          go_wp2_with (first | (at_builtin; refine wpl_app _ rfl _ _ 48 rfl _ _ rfl rfl _ _ hrun2.out ?_))
                          go_round
                          case rel => exact ⟨t + 1, c3, o2, L2 ++ [(p, r)], _, q + 1, _, by go_num, rfl, by go_num, hid ⟨htT, NOT.out, LI9.out, C3B.out, NX.out⟩⟩
                          case measure => simp [intOf]; omega
                      · have hc0 : c2 = 0 := by omega
                        subst hc0
                        have NX := hid (PS.out L2 0 (runL_end HJ.out.2.2.2.2 HJ.out.1))
                        have LI5 := hid HJ.out.2.2.1
                        clear HJ
                        go_wp2_with fail
                        go_round
                        case rel => exact ⟨2, 0, (-1), L2, va, q, vc, by go_num, rfl, rfl, hid ⟨.inr (.inr ⟨rfl, rfl⟩), LI5.out, Nat.zero_le _, NX.out⟩⟩
                        case measure => simp [intOf]
                    · have hti : ¬ (ot : Int) < (hh : Int) := by omega
                      have hti' : decide ((ot : Int) < (hh : Int)) = false := decide_eq_false hti
                      have etT : t = T := by
                        refine Nat.le_antisymm HJ.out.1 (Nat.le_of_not_lt fun hlt => ht ?_)
                        rw [HJ.out.2.1, HDV.out]
                        exact Nat.mul_lt_mul_of_pos_left hlt (by omega)
                      have NX := hid (PS.out L2 c2 (by rw [← etT]; exact HJ.out.2.2.2.2))
                      have LI5 := hid HJ.out.2.2.1
                      have CB := hid (show c2 ≤ c from Nat.le_trans HJ.out.2.2.2.1 C1B.out)
                      clear HJ etT
                      go_wp2_with fail
                      go_round
                      case rel => exact ⟨2, c2, (-1), L2, va, q, vc, by go_num, rfl, rfl, hid ⟨.inr (.inr ⟨rfl, rfl⟩), LI5.out, CB.out, NX.out⟩⟩
                      case measure => simp [intOf]
                · have E2 := hid (show lay1 base r T L (sz.count r) = (L1, c1) from by rw [← EC.out]; exact HP.out.2.2.2)
                  have LI5 := hid HP.out.2.1
                  have hc1b : c1 ≤ 17592186044400 := by have := HP.out.2.2.1; omega
                  clear HP
                  by_cases hc : 0 < c1
                  · have hci : (0 : Int) < (c1 : Int) := by omega
                    have E := hid (show fv = false by
                      rw [FVS.out, E2.out, decide_eq_false (by show ¬ c1 = 0; omega), Bool.false_and])
                    have KE := hid (none_trans K0.out LI5.out.gs.kp)
                    go_wp2_with fail
                    go_ret
                    exact ⟨ret_bool E.out.symm, KE.out⟩
                  · have hci : ¬ (0 : Int) < (c1 : Int) := by omega
                    have E := hid (show fv = laidG base hh sz mm L1 by
                      rw [FVS.out, E2.out, decide_eq_true (show c1 = 0 by omega), Bool.true_and])
                    go_wp2_with fail
                    go_round
                    case rel => exact ⟨mm, rh, L1, va, q, vc, rfl, by go_num, hid ⟨by omega, R2.out, LI5.out, E.out⟩⟩
                    case measure => simp [intOf]; omega
end Go.Proofs.Ytibljocjdlgfbaa
