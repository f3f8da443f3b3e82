/- (pages).need. -/
import Derived.Test.YtibljocjdlgfbaaOrM
namespace Go.Proofs.Ytibljocjdlgfbaa
open Go.RowKit
set_option linter.unusedVariables false

/-- The order of the blocks that a size needs. -/
def ordN (s : Nat) : Nat := Nat.log2 (s / 4096)
/-- How many of them it needs. -/
def pN (U : List Un) (l : List Nat) (x : Nat) : Nat := upN (l.count x - min (l.count x) (rmN U x)) (celN x)
/-- What is needed of an order, of some sizes. -/
def ndD (U : List Un) (l d : List Nat) (i : Nat) : Nat := (d.map fun x => if ordN x = i then pN U l x else 0).sum
def ndV (U : List Un) (l : List Nat) (i : Nat) : Nat := ndD U l (ded l) i

theorem len_split (x : Nat) : ∀ l : List Nat, l.length = l.count x + (l.filter fun y => y != x).length
  | [] => rfl
  | a :: r => by
    have := len_split x r
    by_cases e : a = x
    · subst e; simp; omega
    · simp [e]; omega
theorem sum_count : ∀ (d l : List Nat), d.Nodup → (d.map fun x => l.count x).sum ≤ l.length
  | [], l, _ => by simp
  | x :: r, l, h => by
    obtain ⟨h1, h2⟩ := List.nodup_cons.1 h
    have ih := sum_count r (l.filter fun y => y != x) h2
    have e : (r.map fun y => l.count y) = r.map fun y => (l.filter fun z => z != x).count y := by
      refine List.map_congr_left fun y hy => ?_
      rw [List.count_filter]
      have : y ≠ x := fun e => h1 (e ▸ hy)
      simpa using this
    rw [List.map_cons, List.sum_cons, e, len_split x l]
    omega
theorem upN_le (n d : Nat) (hd : 1 ≤ d) : upN n d ≤ n := by
  unfold upN
  cases n with
  | zero => rw [Nat.zero_add, Nat.div_eq_of_lt (by omega)]; omega
  | succ n =>
    have : n + 1 + d - 1 ≤ d * (n + 1) + (d - 1) := by
      have : n + 1 ≤ d * (n + 1) := Nat.le_mul_of_pos_left _ hd
      omega
    have h2 := Nat.div_le_div_right (c := d) this
    rw [Nat.add_comm (d * (n + 1)), Nat.add_mul_div_left _ _ (by omega), Nat.div_eq_of_lt (by omega : d - 1 < d)] at h2
    omega
theorem pN_le (U : List Un) (l : List Nat) (x : Nat) (hx : 16 ≤ x) : pN U l x ≤ l.count x := by
  unfold pN
  exact Nat.le_trans (upN_le _ _ (celN_b x hx).1) (Nat.sub_le _ _)
theorem ndD_le (U : List Un) (l d : List Nat) (hd : d.Nodup) (hb : ∀ x ∈ d, 16 ≤ x) (i : Nat) : ndD U l d i ≤ l.length := by
  refine Nat.le_trans ?_ (sum_count d l hd)
  unfold ndD
  clear hd
  induction d with
  | nil => simp
  | cons a r ih =>
    have := ih (fun x hx => hb x (List.mem_cons_of_mem _ hx))
    have h2 := pN_le U l a (hb a (by simp))
    simp only [List.map_cons, List.sum_cons]
    split <;> omega
theorem ndD_perm (U : List Un) (l : List Nat) {d e : List Nat} (h : d.Perm e) (i : Nat) : ndD U l d i = ndD U l e i := (h.map _).sum_nat
theorem ndD_app (U : List Un) (l d : List Nat) (x i : Nat) : ndD U l (d ++ [x]) i = ndD U l d i + (if ordN x = i then pN U l x else 0) := by
  unfold ndD
  rw [List.map_append, List.sum_append]
  simp

/-- Nine numbers in a block. -/
def acl (f : Nat → Nat) : Array Value := #[.int .u64 (f 0 : Int), .int .u64 (f 1 : Int), .int .u64 (f 2 : Int), .int .u64 (f 3 : Int), .int .u64 (f 4 : Int), .int .u64 (f 5 : Int), .int .u64 (f 6 : Int), .int .u64 (f 7 : Int), .int .u64 (f 8 : Int)]
theorem acl_get (f : Nat → Nat) (i : Nat) (hi : i ≤ 8) : (acl f)[i]? = some (.int .u64 (f i : Int)) := by
  match i, hi with
  | 0, _ | 1, _ | 2, _ | 3, _ | 4, _ | 5, _ | 6, _ | 7, _ | 8, _ => rfl
theorem acl_set (f : Nat → Nat) (i y : Nat) (hi : i ≤ 8) : (acl f).setIfInBounds i (.int .u64 (y : Int)) = acl (fun j => if j = i then y else f j) := by
  match i, hi with
  | 0, _ | 1, _ | 2, _ | 3, _ | 4, _ | 5, _ | 6, _ | 7, _ | 8, _ => rfl
def ArA (w : World) (b : Nat) (f : Nat → Nat) : Prop := w.heap[b]? = some (.cells (acl f) 82)
theorem ArA.cell {w b f} (h : ArA w b f) (i : Nat) (hi : i ≤ 8) : w.cell? ⟨b, i, none⟩ = some (.int .u64 (f i : Int)) := by
  unfold ArA at h
  simp [World.cell?, h, acl_get f i hi]
theorem ArA.fz {w b f} (h : ArA w b f) (i : Nat) : w.frozen? ⟨b, i, none⟩ = false := by
  unfold ArA at h
  simp [World.frozen?, h]
theorem ArA.set {w b f} (h : ArA w b f) (i y : Nat) (hi : i ≤ 8) : ArA (w.setCell ⟨b, i, none⟩ (.int .u64 (y : Int))) b (fun j => if j = i then y else f j) := by
  have := heap_set h i (.int .u64 (y : Int))
  rw [acl_set f i y hi] at this
  exact this
theorem ArA.keep {w w' b f} (h : ArA w b f) {S : Nat → Prop} (k : Kept S w w') (hb : ¬ S b) : ArA w' b f := (k.block _ (heap_lt h) hb).trans h

structure NeI (w W : World) (N m g r b5 b4 : Nat) (U : List Un) (l : List Nat) (ds : List (Nat × Nat)) (done : List Nat) (rest : List (Nat × Value)) : Prop where
  rg : RG W g r (ds.map fun p => (p.1, mkU p.2)) rest
  pm : (done ++ rest.map (·.1)).Perm (ds.map (·.1))
  sb : ∀ p ∈ rest, p ∈ ds.map fun p => (p.1, mkU p.2)
  a5 : ArA W b5 (ndD U l done)
  a4 : ArA W b4 (fun _ => 0)
  kp : Kept none' w W
  w5 : w.heap.size ≤ b5
  w4 : w.heap.size ≤ b4
  wr' : w.heap.size ≤ r
  nr : r ≠ b5
  ng : g ≠ b5

theorem log2_le8 (x : Nat) (hx : x ≤ 1048576) : ordN x ≤ 8 := by
  unfold ordN
  by_cases h : x / 4096 = 0
  · rw [h]; decide
  · have := (Nat.log2_lt (k := 9) h).2 (by have := Nat.div_le_div_right (c := 4096) hx; omega)
    omega

set_option maxRecDepth 6000 in
set_option maxHeartbeats 4000000 in
theorem need_any {N w m U} (h : PG N w m U) (g : Nat) (ds : List (Nat × Nat)) (l : List Nat) (hmv : MV mkU w g ds) (hct : CT ds l) (hl : l.length ≤ 281474976710656) (hsz : ∀ x ∈ l, 16 ≤ x ∧ x ≤ 1048576) :
    Calls Try.prog 42 #[.map (some m), .map (some g)] w fun e w' => e = .returned (.agg (acl (ndV U l))) ∧ Kept none' w w' := by
  have K1 := hid (show Kept none' w ((w.alloc (.cells #[.int .u64 0, .int .u64 0, .int .u64 0, .int .u64 0, .int .u64 0, .int .u64 0, .int .u64 0, .int .u64 0, .int .u64 0] 82)).alloc (.cells #[.int .u64 0, .int .u64 0, .int .u64 0, .int .u64 0, .int .u64 0, .int .u64 0, .int .u64 0, .int .u64 0, .int .u64 0] 82)) from ((Kept.refl _ _).alloc _).alloc _)
  have A4 := hid (show ArA ((w.alloc (.cells #[.int .u64 0, .int .u64 0, .int .u64 0, .int .u64 0, .int .u64 0, .int .u64 0, .int .u64 0, .int .u64 0, .int .u64 0] 82)).alloc (.cells #[.int .u64 0, .int .u64 0, .int .u64 0, .int .u64 0, .int .u64 0, .int .u64 0, .int .u64 0, .int .u64 0, .int .u64 0] 82)) w.heap.size (fun _ => 0) from by
    unfold ArA
    rw [Below.heap_alloc _ _ _ (by simp)]
    exact heap_new w _)
  have A5 := hid (show ArA ((w.alloc (.cells #[.int .u64 0, .int .u64 0, .int .u64 0, .int .u64 0, .int .u64 0, .int .u64 0, .int .u64 0, .int .u64 0, .int .u64 0] 82)).alloc (.cells #[.int .u64 0, .int .u64 0, .int .u64 0, .int .u64 0, .int .u64 0, .int .u64 0, .int .u64 0, .int .u64 0, .int .u64 0] 82)) (w.heap.size + 1) (fun _ => 0) from by
    have := heap_new (w.alloc (.cells #[.int .u64 0, .int .u64 0, .int .u64 0, .int .u64 0, .int .u64 0, .int .u64 0, .int .u64 0, .int .u64 0, .int .u64 0] 82)) (.cells #[.int .u64 0, .int .u64 0, .int .u64 0, .int .u64 0, .int .u64 0, .int .u64 0, .int .u64 0, .int .u64 0, .int .u64 0] 82)
    rw [World.size_alloc] at this
    exact this)
  have H0 := hid h
  have M1 := hid (show MV mkU _ g ds from hmv.kept K1.out (fun x => x))
  have hgl := hid hmv.ltsz
  have Z1 := hid (show ((w.alloc (.cells #[.int .u64 0, .int .u64 0, .int .u64 0, .int .u64 0, .int .u64 0, .int .u64 0, .int .u64 0, .int .u64 0, .int .u64 0] 82)).alloc (.cells #[.int .u64 0, .int .u64 0, .int .u64 0, .int .u64 0, .int .u64 0, .int .u64 0, .int .u64 0, .int .u64 0, .int .u64 0] 82)).heap.size = w.heap.size + 1 + 1 by simp)
  have hnd : (ds.map (·.1)).Nodup := by simpa [List.map_map, Function.comp_def] using hmv.nodup
  have HND := hid hnd
  have HCT := hid hct
  have HSZ := hid hsz
  have HIN := hid (show ∀ n v, (n, v) ∈ (ds.map fun p => (p.1, mkU p.2)) → n ∈ l ∧ v = .int .u64 ((l.count n : Nat) : Int) from fun n v hv => by
    obtain ⟨p, hp, e⟩ := List.mem_map.1 hv
    have e1 : p.1 = n := congrArg Prod.fst e
    have e2 : mkU p.2 = v := congrArg Prod.snd e
    obtain ⟨h1, h2⟩ := hct.vl p hp
    rw [e1] at h1 h2
    exact ⟨h2, by rw [← e2, h1]⟩)
  have HEN := hid (show ∀ i, ndD U l (ds.map (·.1)) i = ndV U l i from fun i => ndD_perm U l (perm_of hnd (nodup_ded l) (fun x => by
    rw [mem_ded]
    constructor
    · intro hx
      obtain ⟨p, hp, rfl⟩ := List.mem_map.1 hx
      exact (hct.vl p hp).2
    · exact hct.ke x)) i)
  have HKB := hid (show ∀ x ∈ ds.map (·.1), 16 ≤ x ∧ x ≤ 1048576 from fun x hx => by
    obtain ⟨p, hp, rfl⟩ := List.mem_map.1 hx
    exact hsz _ (hct.vl p hp).2)
  clear h hmv hct hsz hnd
  go_enter Try.func42, Try.ntmps42
  go_wp2_with (first | (at_range; refine wpl_range _ rfl _ 77 rfl 22 22 Try.underlying77 g _ rfl M1.out ?_; intro w0 hrg0 hk0 hs0))
  rw [Z1.out] at hrg0 hs0 ⊢
  go_frame
  have I0 := hid (show NeI w w0 N m g (w.heap.size + 1 + 1) (w.heap.size + 1) w.heap.size U l ds [] (ds.map fun p => (p.1, mkU p.2)) from by
    have hg := hgl.out
    refine ⟨hrg0, by simp [List.map_map, Function.comp_def], fun p hp => hp, A5.out.keep hk0 (fun x => x), A4.out.keep hk0 (fun x => x), none_trans K1.out hk0, by omega, by omega, by omega, by omega, by omega⟩)
  clear hrg0 hk0 hs0 K1 A4 A5 M1 Z1
  generalize hwz : w.heap.size = wz at *
  go_loopw [12] (fun _ W => ∃ done rest, NeI w W N m g (wz + 1 + 1) (wz + 1) wz U l ds done rest) (fun _ W => W.rangeLeft g (wz + 1 + 1))
  case atStart => exact ⟨_, _, I0.out⟩
  case round =>
    clear I0
    obtain ⟨done, rest, hI⟩ := hrel
    have HI := hid hI
    clear hI
    go_wp2_with (first | (at_next; refine wpl_next _ rfl _ rfl g (wz + 1 + 1) _ rest rfl HI.out.rg ?_ ?_))
    · intro hd
      have HF := hid (show ArA wr (wz + 1) (ndV U l) from by
        have h1 := HI.out.a5
        have hp := HI.out.pm
        rw [hd] at hp
        simp only [List.map_nil, List.append_nil] at hp
        have e : ndD U l done = ndV U l := by
          funext i
          rw [ndD_perm U l hp i, HEN.out]
        rw [e] at h1
        exact h1)
      have f0 := HF.out.cell 0 (by decide)
      have f1 := HF.out.cell 1 (by decide)
      have f2 := HF.out.cell 2 (by decide)
      have f3 := HF.out.cell 3 (by decide)
      have f4 := HF.out.cell 4 (by decide)
      have f5 := HF.out.cell 5 (by decide)
      have f6 := HF.out.cell 6 (by decide)
      have f7 := HF.out.cell 7 (by decide)
      have f8 := HF.out.cell 8 (by decide)
      have g0 := HI.out.a4.cell 0 (by decide)
      have g1 := HI.out.a4.cell 1 (by decide)
      have g2 := HI.out.a4.cell 2 (by decide)
      have g3 := HI.out.a4.cell 3 (by decide)
      have g4 := HI.out.a4.cell 4 (by decide)
      have g5 := HI.out.a4.cell 5 (by decide)
      have g6 := HI.out.a4.cell 6 (by decide)
      have g7 := HI.out.a4.cell 7 (by decide)
      have g8 := HI.out.a4.cell 8 (by decide)
      have z0 := HI.out.a4.fz 0
      have z1 := HI.out.a4.fz 1
      have z2 := HI.out.a4.fz 2
      have z3 := HI.out.a4.fz 3
      have z4 := HI.out.a4.fz 4
      have z5 := HI.out.a4.fz 5
      have z6 := HI.out.a4.fz 6
      have z7 := HI.out.a4.fz 7
      have z8 := HI.out.a4.fz 8
      clear hd HF
      go_wp2_with fail
      refine ⟨rfl, .agg (acl (ndV U l)), ?_, rfl, ?_⟩
      · simp [results, Try.results42, go_sem, acl, g0, g1, g2, g3, g4, g5, g6, g7, g8]
      · have hw : ∀ x : Nat, x < w.heap.size → x ≠ wz := fun x hx => by omega
        have kk := HI.out.kp
        exact ((((((((kk.setNew (p := ⟨wz, 0, none⟩) (fun e => by have e2 : wz < w.heap.size := e; omega) _).setNew (p := ⟨wz, 1, none⟩) (fun e => by have e2 : wz < w.heap.size := e; omega) _).setNew (p := ⟨wz, 2, none⟩) (fun e => by have e2 : wz < w.heap.size := e; omega) _).setNew (p := ⟨wz, 3, none⟩) (fun e => by have e2 : wz < w.heap.size := e; omega) _).setNew (p := ⟨wz, 4, none⟩) (fun e => by have e2 : wz < w.heap.size := e; omega) _).setNew (p := ⟨wz, 5, none⟩) (fun e => by have e2 : wz < w.heap.size := e; omega) _).setNew (p := ⟨wz, 6, none⟩) (fun e => by have e2 : wz < w.heap.size := e; omega) _).setNew (p := ⟨wz, 7, none⟩) (fun e => by have e2 : wz < w.heap.size := e; omega) _).setNew (p := ⟨wz, 8, none⟩) (fun e => by have e2 : wz < w.heap.size := e; omega) _
    · intro n v rest' w1 hp hrg hk hz hen
      obtain ⟨hnl, rfl⟩ := HIN.out n v (HI.out.sb _ (hp.mem_iff.2 (by simp)))
      have hnb := HSZ.out n hnl
      obtain ⟨c, hc⟩ : ∃ c, c = l.count n := ⟨_, rfl⟩
      have hcb : c ≤ l.length := by rw [hc]; exact List.count_le_length
      obtain ⟨q, hq⟩ : ∃ q, q = n / 4096 := ⟨_, rfl⟩
      have hq1 : (n : Int) / 4096 = (q : Int) := by omega
      obtain ⟨o, ho⟩ : ∃ o, o = ordN n := ⟨_, rfl⟩
      have ho8 : o ≤ 8 := by rw [ho]; exact log2_le8 n hnb.2
      have hql : (q = 0 ∧ lg q = -1 ∧ o = 0) ∨ (lg q = (o : Int)) := by
        rw [ho]
        unfold ordN lg
        rw [← hq]
        by_cases e : q = 0
        · left; rw [e]; exact ⟨rfl, by simp, by decide⟩
        · right; rw [if_neg e]
      obtain ⟨rm, hrm⟩ : ∃ rm, rm = rmN U n := ⟨_, rfl⟩
      obtain ⟨cl, hcl⟩ : ∃ cl, cl = celN n := ⟨_, rfl⟩
      have hcl2 := celN_b n hnb.1
      rw [← hcl] at hcl2
      obtain ⟨rs, hrs⟩ : ∃ rs, rs = c - min c rm := ⟨_, rfl⟩
      obtain ⟨up, hup⟩ : ∃ up, up = upN rs cl := ⟨_, rfl⟩
      have hpn : pN U l n = up := by rw [hup, hrs, hc, hrm, hcl]; rfl
      have hupb : up ≤ rs := by rw [hup]; exact upN_le rs cl hcl2.1
      have hdk : ∀ x ∈ done, 16 ≤ x ∧ x ≤ 1048576 := fun x hx => HKB.out x (HI.out.pm.mem_iff.1 (List.mem_append_left _ hx))
      have hdn : done.Nodup := ((HI.out.pm.nodup_iff).2 HND.out).sublist (List.sublist_append_left _ _)
      obtain ⟨fo, hfo⟩ : ∃ fo, fo = ndD U l done o := ⟨_, rfl⟩
      have hfb : fo ≤ l.length := by rw [hfo]; exact ndD_le U l done hdn (fun x hx => (hdk x hx).1) o
      have K1 := hid (kept_new (N := wz) HI.out.kp (hk.mono (fun x _ e => by omega)) (by omega))
      have HLG := hid (fun W => log_64 q (by omega) W)
      have HRM := hid (show Calls Try.prog 38 #[.map (some m), .int .u64 (n : Int)] w1 fun e w' => e = .returned (.int .u64 (rm : Int)) ∧ Kept none' w1 w' from by
        rw [hrm]; exact room_any (H0.out.keep K1.out) n (by omega))
      have HCO := hid (show ∀ W, Calls Try.prog 57 #[.int .u64 (n : Int)] W fun e w' => e = .returned (.int .u64 (cl : Int)) ∧ w' = W from fun W => by
        rw [hcl]; exact cellsOf_any n (by omega) (by omega) W)
      have hrsb : rs ≤ c := by omega
      have HUP := hid (show ∀ W, Calls Try.prog 56 #[.int .u64 (rs : Int), .int .u64 (cl : Int)] W fun e w' => e = .returned (.int .u64 (up : Int)) ∧ w' = W from fun W => by
        rw [hup]; exact upward_any rs cl (by omega) hcl2.1 W)
      have A1 := hid (HI.out.a5.keep hk (fun e => by omega))
      obtain ⟨fu, hfu⟩ : ∃ fu, fu = fo + up := ⟨_, rfl⟩
      have hwr : IntKind.u64.wrap ((fo : Int) + (up : Int)) = (fu : Int) := by rw [wrap_u64]; omega
      have NXT := hid (show ∀ w2, Kept none' w1 w2 → NeI w ((w2.setCell ⟨wz + 1, o, none⟩ (.int .u64 (fu : Int))).drew) N m g (wz + 1 + 1) (wz + 1) wz U l ds (done ++ [n]) rest' from fun w2 h2 => by
        have k3 : Kept (fun x => x = wz + 1) w2 ((w2.setCell ⟨wz + 1, o, none⟩ (.int .u64 (fu : Int))).drew) := ((Kept.refl (fun x => x = wz + 1) w2).setCell (p := ⟨wz + 1, o, none⟩) rfl _).drew
        have hg := hgl.out
        refine ⟨(hrg.kept h2 (fun e => e) (fun e => e)).kept k3 (fun e => by omega) (fun e => by omega), ?_, fun p hp' => HI.out.sb p (hp.mem_iff.2 (List.mem_cons_of_mem _ hp')), ?_, ?_, kept_new (N := wz) (none_trans K1.out h2) (k3.mono (fun x _ e => by omega)) (by omega), HI.out.w5, HI.out.w4, HI.out.wr', HI.out.nr, HI.out.ng⟩
        · refine List.Perm.trans ?_ HI.out.pm
          rw [List.append_assoc]
          exact List.Perm.append_left done (show (n :: rest'.map Prod.fst).Perm (rest.map Prod.fst) from (hp.map Prod.fst).symm)
        · have a2 := ((A1.out.keep h2 (fun x => x)).set o fu ho8)
          have e : (fun j => if j = o then fu else ndD U l done j) = ndD U l (done ++ [n]) := by
            funext j
            rw [ndD_app, ← ho, hpn, hfu, hfo]
            by_cases e : j = o
            · subst e; simp
            · have : ¬ o = j := fun e2 => e e2.symm
              simp [e, this]
          rw [e] at a2
          exact a2
        · have a2 := (HI.out.a4.keep hk (fun e => by omega)).keep h2 (fun x => x)
          exact a2.keep k3 (fun e => by omega))
      have HML := hid (show rest'.length < rest.length by rw [hp.length_eq]; simp)
      have HFO := hid hfo
      have HRS := hid hrs
      rw [← hc] at hen ⊢
      clear hc hq ho hrm hcl hrs hup hpn hfo hfu hk hz hrg hp hnl hdk hdn
      rcases hql with ⟨hq0, hl0, ho0⟩ | hlo
      · subst hq0 ho0
        rw [hl0] at HLG
        go_wp2_with (first | (go_at_call 51; refine (HLG.out _).mono ?_; rintro e w' ⟨rfl, rfl⟩))
        refine HRM.out.mono ?_
        rintro e w2 ⟨rfl, hk2⟩
        have A2 := hid (A1.out.keep hk2 (fun x => x))
        have q0 := A2.out.cell 0 (by decide)
        have q1 := A2.out.fz 0
        rw [← HFO.out] at q0
        have hk3 := hid hk2
        clear hk2
        by_cases hmin : (rm : Int) < (c : Int)
        · have hrs1 : (c : Int) - (rm : Int) = (rs : Int) := by have := HRS.out; omega
          go_wp2_with fail
          go_region_with (first | (go_at_call 57; refine (HCO.out _).mono ?_; rintro e w' ⟨rfl, rfl⟩) | (go_at_call 56; refine (HUP.out _).mono ?_; rintro e w' ⟨rfl, rfl⟩))
          all_goals
            go_wp2_with fail
            have NX := NXT.out w2 hk3.out
            exact ⟨⟨_, _, NX⟩, by rw [NX.rg.left_eq, HI.out.rg.left_eq]; exact HML.out⟩
        · obtain rfl : rs = 0 := by have := HRS.out; omega
          go_wp2_with fail
          go_region_with (first | (go_at_call 57; refine (HCO.out _).mono ?_; rintro e w' ⟨rfl, rfl⟩) | (go_at_call 56; refine (HUP.out _).mono ?_; rintro e w' ⟨rfl, rfl⟩))
          all_goals
            go_wp2_with fail
            have NX := NXT.out w2 hk3.out
            exact ⟨⟨_, _, NX⟩, by rw [NX.rg.left_eq, HI.out.rg.left_eq]; exact HML.out⟩
      · rw [hlo] at HLG
        by_cases ho0 : o = 0
        · subst ho0
          go_wp2_with (first | (go_at_call 51; refine (HLG.out _).mono ?_; rintro e w' ⟨rfl, rfl⟩))
          refine HRM.out.mono ?_
          rintro e w2 ⟨rfl, hk2⟩
          have A2 := hid (A1.out.keep hk2 (fun x => x))
          have q0 := A2.out.cell 0 (by decide)
          have q1 := A2.out.fz 0
          rw [← HFO.out] at q0
          have hk3 := hid hk2
          clear hk2
          by_cases hmin : (rm : Int) < (c : Int)
          · have hrs1 : (c : Int) - (rm : Int) = (rs : Int) := by have := HRS.out; omega
            go_wp2_with fail
            go_region_with (first | (go_at_call 57; refine (HCO.out _).mono ?_; rintro e w' ⟨rfl, rfl⟩) | (go_at_call 56; refine (HUP.out _).mono ?_; rintro e w' ⟨rfl, rfl⟩))
            all_goals
              go_wp2_with fail
              have NX := NXT.out w2 hk3.out
              exact ⟨⟨_, _, NX⟩, by rw [NX.rg.left_eq, HI.out.rg.left_eq]; exact HML.out⟩
          · obtain rfl : rs = 0 := by have := HRS.out; omega
            go_wp2_with fail
            go_region_with (first | (go_at_call 57; refine (HCO.out _).mono ?_; rintro e w' ⟨rfl, rfl⟩) | (go_at_call 56; refine (HUP.out _).mono ?_; rintro e w' ⟨rfl, rfl⟩))
            all_goals
              go_wp2_with fail
              have NX := NXT.out w2 hk3.out
              exact ⟨⟨_, _, NX⟩, by rw [NX.rg.left_eq, HI.out.rg.left_eq]; exact HML.out⟩
        · have ho1 : (0 : Int) < (o : Int) := by omega
          go_wp2_with (first | (go_at_call 51; refine (HLG.out _).mono ?_; rintro e w' ⟨rfl, rfl⟩))
          refine HRM.out.mono ?_
          rintro e w2 ⟨rfl, hk2⟩
          have A2 := hid (A1.out.keep hk2 (fun x => x))
          have q0 := A2.out.cell o ho8
          have q1 := A2.out.fz o
          rw [← HFO.out] at q0
          have hk3 := hid hk2
          clear hk2
          by_cases hmin : (rm : Int) < (c : Int)
          · have hrs1 : (c : Int) - (rm : Int) = (rs : Int) := by have := HRS.out; omega
            go_wp2_with fail
            go_region_with (first | (go_at_call 57; refine (HCO.out _).mono ?_; rintro e w' ⟨rfl, rfl⟩) | (go_at_call 56; refine (HUP.out _).mono ?_; rintro e w' ⟨rfl, rfl⟩))
            all_goals
              go_wp2_with fail
              have NX := NXT.out w2 hk3.out
              exact ⟨⟨_, _, NX⟩, by rw [NX.rg.left_eq, HI.out.rg.left_eq]; exact HML.out⟩
          · obtain rfl : rs = 0 := by have := HRS.out; omega
            go_wp2_with fail
            go_region_with (first | (go_at_call 57; refine (HCO.out _).mono ?_; rintro e w' ⟨rfl, rfl⟩) | (go_at_call 56; refine (HUP.out _).mono ?_; rintro e w' ⟨rfl, rfl⟩))
            all_goals
              go_wp2_with fail
              have NX := NXT.out w2 hk3.out
              exact ⟨⟨_, _, NX⟩, by rw [NX.rg.left_eq, HI.out.rg.left_eq]; exact HML.out⟩
end Go.Proofs.Ytibljocjdlgfbaa
