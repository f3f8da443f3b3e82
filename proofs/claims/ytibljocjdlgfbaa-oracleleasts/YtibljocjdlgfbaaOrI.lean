/- Maps of numbers; (pages).stretches, room. -/
import Derived.Test.YtibljocjdlgfbaaOrH
namespace Go.Proofs.Ytibljocjdlgfbaa
open Go.RowKit
set_option linter.unusedVariables false

/-- Each once. -/
def ded : List Nat → List Nat
  | [] => []
  | x :: r => if x ∈ r then ded r else x :: ded r
theorem mem_ded : ∀ (l : List Nat) (x : Nat), x ∈ ded l ↔ x ∈ l
  | [], x => by simp [ded]
  | a :: r, x => by
    unfold ded
    split
    · rename_i h
      rw [mem_ded r x, List.mem_cons]
      constructor
      · exact .inr
      · rintro (e | e)
        · rw [e]; exact h
        · exact e
    · rw [List.mem_cons, List.mem_cons, mem_ded r x]
theorem nodup_ded : ∀ (l : List Nat), (ded l).Nodup
  | [] => List.nodup_nil
  | a :: r => by
    unfold ded
    split
    · exact nodup_ded r
    · rename_i h
      exact List.nodup_cons.2 ⟨fun e => h ((mem_ded r a).1 e), nodup_ded r⟩
theorem perm_of {l k : List Nat} (hl : l.Nodup) (hk : k.Nodup) (h : ∀ x, x ∈ l ↔ x ∈ k) : l.Perm k := (List.perm_ext_iff_of_nodup hl hk).2 h

section
variable (mk : Nat → Value)
/-- A map of numbers. -/
def MV (w : World) (b : Nat) (ds : List (Nat × Nat)) : Prop := MU w b (ds.map fun p => (p.1, mk p.2))
def dlk (ds : List (Nat × Nat)) (k : Nat) : Option Nat := (ds.find? (fun p => p.1 == k)).map (·.2)
def putD (ds : List (Nat × Nat)) (k v : Nat) : List (Nat × Nat) := if (dlk ds k).isSome then ds.map (fun p => if p.1 = k then (k, v) else p) else ds ++ [(k, v)]
theorem fnd_dlk (ds : List (Nat × Nat)) (k : Nat) : fnd (ds.map fun p => (p.1, mk p.2)) k = (dlk ds k).map mk := by
  unfold fnd dlk
  rw [List.find?_map]
  simp only [Function.comp_def, Option.map_map]
theorem putL_putD (ds : List (Nat × Nat)) (k v : Nat) : putL (ds.map fun p => (p.1, mk p.2)) k (mk v) = (putD ds k v).map fun p => (p.1, mk p.2) := by
  unfold putL putD
  rw [fnd_dlk, Option.isSome_map]
  split
  · rw [List.map_map, List.map_map]
    refine List.map_congr_left fun p hp => ?_
    simp only [Function.comp_def]
    split <;> rfl
  · simp
theorem putD_keys (ds : List (Nat × Nat)) (k v x : Nat) : x ∈ (putD ds k v).map (·.1) ↔ x ∈ ds.map (·.1) ∨ x = k := by
  unfold putD
  split
  · rename_i h
    have e : (ds.map (fun p => if p.1 = k then (k, v) else p)).map (·.1) = ds.map (·.1) := by
      rw [List.map_map]
      refine List.map_congr_left fun p hp => ?_
      simp only [Function.comp_def]
      split
      · rename_i e; exact e.symm
      · rfl
    rw [e]
    constructor
    · exact .inl
    · rintro (h1 | rfl)
      · exact h1
      · unfold dlk at h
        cases hf : ds.find? (fun p => p.1 == x) with
        | none => rw [hf] at h; simp at h
        | some p => exact List.mem_map.2 ⟨p, List.mem_of_find?_eq_some hf, by simpa using List.find?_some hf⟩
  · simp
theorem putD_vals (ds : List (Nat × Nat)) (k v : Nat) (p : Nat × Nat) (h : p ∈ putD ds k v) : p ∈ ds ∨ p = (k, v) := by
  unfold putD at h
  split at h
  · obtain ⟨q, hq, rfl⟩ := List.mem_map.1 h
    split
    · exact .inr rfl
    · exact .inl hq
  · rcases List.mem_append.1 h with h | h
    · exact .inl h
    · exact .inr (by simpa using h)
theorem dlk_mem {ds : List (Nat × Nat)} {k v : Nat} (h : dlk ds k = some v) : (k, v) ∈ ds := by
  unfold dlk at h
  cases hf : ds.find? (fun p => p.1 == k) with
  | none => rw [hf] at h; cases h
  | some p =>
    rw [hf] at h
    have h1 := List.find?_some hf
    have h2 := List.mem_of_find?_eq_some hf
    obtain ⟨a, b⟩ := p
    simp at h h1
    subst h h1
    exact h2
end

/-- How many stretches of so many pages are met. -/
def stN (U : List Un) (long : Nat) : Nat := (ded (U.map fun u => u.1 / long)).length

theorem zero_int (w : World) : (zeroValue 3).run Try.prog w = .ok (.int .i64 0) w := by kernel_rfl
abbrev mkI : Nat → Value := fun c => .int .i64 (c : Int)

/-- The state of the loop of stretches. -/
structure StI (w W : World) (N m r g long : Nat) (ks : List Nat) (L : List (Nat × Value)) (done : List Nat) (rest : List (Nat × Value)) (ds : List (Nat × Nat)) : Prop where
  rg : RG W m r L rest
  pm : (done ++ rest.map (·.1)).Perm ks
  mv : MV mkI W g ds
  ke : ∀ x, x ∈ ds.map (·.1) ↔ ∃ n ∈ done, n / long = x
  vl : ∀ p ∈ ds, p.2 ≤ done.length
  kp : Kept none' w W
  gw : w.heap.size ≤ g
  rw' : w.heap.size ≤ r
  gr : g ≠ r
  gm : g ≠ m

theorem wf_len {w b L} (h : MU w b L) (hb : ∀ p ∈ L, p.1 < 1024) : L.length ≤ 1024 := by
  have := nodup_le 1024 (L.map (·.1)) h.nodup (fun x hx => by obtain ⟨p, hp, rfl⟩ := List.mem_map.1 hx; exact hb p hp)
  simpa using this

set_option maxRecDepth 4000 in
theorem stretches_any {N w m U} (h : PG N w m U) (long : Nat) (hlo : 1 ≤ long ∧ long ≤ 4096) :
    Calls Try.prog 37 #[.map (some m), .int .u64 (long : Int)] w fun e w' => e = .returned (.int .u64 ((stN U long : Nat) : Int)) ∧ Kept none' w w' := by
  obtain ⟨ks, S, B, C, X, h⟩ := h
  obtain ⟨L, hL⟩ : ∃ L, L = ks.map fun n => (n, pgV (S n) (B n)) := ⟨_, rfl⟩
  have hLk : L.map (·.1) = ks := by rw [hL, List.map_map]; simp [Function.comp_def]
  have HM := hid (show MU w m L by rw [hL]; exact h.mu)
  have hkb : ∀ n ∈ ks, n < 1024 := fun n hn => by
    obtain ⟨u, hu, rfl⟩ := h.kin n hn
    exact (h.sz u hu).2.2.1
  have hlen := h.len
  have HE := hid (show ∀ ds : List (Nat × Nat), (ds.map (·.1)).Nodup → (∀ x, x ∈ ds.map (·.1) ↔ ∃ n ∈ ks, n / long = x) → ds.length = stN U long from fun ds h1 h2 => by
    have := (perm_of h1 (nodup_ded (U.map fun u => u.1 / long)) (fun x => by
      rw [h2, mem_ded, List.mem_map]
      constructor
      · rintro ⟨n, hn, e⟩
        obtain ⟨u, hu, e2⟩ := h.kin n hn
        exact ⟨u, hu, by rw [e2]; exact e⟩
      · rintro ⟨u, hu, e⟩
        exact ⟨u.1, (h.us u hu).1, e⟩)).length_eq
    simpa [stN] using this)
  have hmk : ∀ w, (Instr.makeMap 95 none).run Try.prog w = .ok (.map (some w.heap.size)) (w.alloc (.map #[] 0)) := fun w => run_makeMap _ w
  have K1 := hid (show Kept none' w (w.alloc (.map #[] 0)) from (Kept.refl _ w).alloc _)
  have M1 := hid (HM.out.kept K1.out (fun x => x))
  have G1 := hid (show MV mkI (w.alloc (.map #[] 0)) w.heap.size [] from MU.made w)
  have Z1 := hid (show (w.alloc (.map #[] 0)).heap.size = w.heap.size + 1 by simp)
  have hml := hid HM.out.ltsz
  have HLK := hid hLk
  clear h hL hLk
  go_enter Try.func37, Try.ntmps37
  go_wp2_with (first | (at_range; refine wpl_range _ rfl _ 72 rfl 22 98 Try.underlying72 m L rfl M1.out ?_; intro w0 hrg0 hk0 hs0))
  have I0 := hid (show StI w w0 N m (w.heap.size + 1) w.heap.size long ks L [] L [] from by
    have z := Z1.out
    have z2 := hml.out
    rw [z] at hrg0
    exact ⟨hrg0, by rw [List.nil_append, HLK.out], G1.out.kept hk0 (fun x => x), fun x => by simp, (fun p hp => by cases hp), none_trans K1.out hk0, Nat.le_refl _, by omega, by omega, by omega⟩)
  generalize w.heap.size = g at *
  clear hmk hrg0 hk0 hs0
  go_loopw [10] (fun _ W => ∃ done rest ds, StI w W N m (g + 1) g long ks L done rest ds) (fun _ W => W.rangeLeft m (g + 1))
  case atStart => exact ⟨_, _, _, I0.out⟩
  case round =>
    clear I0 K1 M1 G1 Z1 HM
    obtain ⟨done, rest, ds, hI⟩ := hrel
    have HI := hid hI
    have HRL := hid hI.rg.left_eq
    clear hI
    go_wp2_with (first | (at_next; refine wpl_next _ rfl _ rfl m (g + 1) L rest rfl HI.out.rg ?_ ?_))
    · intro hd
      have HF := hid (show ds.length = stN U long from HE.out ds (by simpa [List.map_map, Function.comp_def] using HI.out.mv.nodup) (fun x => by
        rw [HI.out.ke]
        have hp := HI.out.pm
        rw [hd] at hp
        simp only [List.map_nil, List.append_nil] at hp
        exact ⟨fun ⟨n, hn, e⟩ => ⟨n, hp.mem_iff.1 hn, e⟩, fun ⟨n, hn, e⟩ => ⟨n, hp.mem_iff.2 hn, e⟩⟩))
      have HLn := hid (show (ds.map fun p => (p.1, mkI p.2)).length = stN U long by rw [List.length_map]; exact HF.out)
      have hst : stN U long ≤ 1024 := by
        rw [← HF.out]
        have := wf_len HI.out.mv (fun p hp => by
          obtain ⟨q, hq, rfl⟩ := List.mem_map.1 hp
          obtain ⟨n, hn, e⟩ := (HI.out.ke q.1).1 (List.mem_map.2 ⟨q, hq, rfl⟩)
          have h1 := hkb n (HI.out.pm.mem_iff.1 (List.mem_append_left _ hn))
          have h2 := Nat.div_le_self n long
          show q.1 < 1024
          omega)
        simpa using this
      clear hd HF
      go_wp2_with (first | (at_len; refine wpl_len _ rfl _ 95 rfl 22 3 Try.underlying95 g _ rfl HI.out.mv ?_; rw [HLn.out]))
      go_ret
      exact ⟨rfl, HI.out.kp⟩
    · intro n v rest' w1 hp hrg hk hs hen
      have hg1 := hid HI.out.gw
      have hnk : n ∈ ks := HI.out.pm.mem_iff.1 (List.mem_append_right _ (List.mem_map.2 ⟨(n, v), hp.mem_iff.2 (by simp), rfl⟩))
      have hnb := hkb n hnk
      have hdl : done.length < 1024 := by
        have := HI.out.pm.length_eq
        have h2 := hp.length_eq
        simp at this h2
        omega
      obtain ⟨q, hq⟩ : ∃ q, q = n / long := ⟨_, rfl⟩
      have hq1 : (n : Int) / (long : Int) = (q : Int) := by rw [hq]; simp
      have hl0 : ¬ (long : Int) = 0 := by omega
      have hqb : q < 1024 := by rw [hq]; exact Nat.lt_of_le_of_lt (Nat.div_le_self _ _) hnb
      have MV1 := hid (show MV mkI w1 g ds from HI.out.mv.kept hk (fun e => HI.out.gr e))
      obtain ⟨c, hc, hcd⟩ : ∃ c : Nat, c ≤ 1024 ∧ (dlk ds q).getD 0 = c := by
        refine ⟨_, ?_, rfl⟩
        cases hd : dlk ds q with
        | none => simp
        | some c => have := HI.out.vl _ (dlk_mem hd); simp at this ⊢; omega
      have HC := hid (show (fnd (ds.map fun p => (p.1, mkI p.2)) q).getD (.int .i64 0) = .int .i64 (c : Int) by
        rw [fnd_dlk, ← hcd]
        cases dlk ds q <;> rfl)
      have hdsl := hid (show (ds.map fun p => (p.1, mkI p.2)).length < maxLen from by
        have := wf_len HI.out.mv (fun p hp => by
          obtain ⟨q, hq, rfl⟩ := List.mem_map.1 hp
          obtain ⟨n, hn, e⟩ := (HI.out.ke q.1).1 (List.mem_map.2 ⟨q, hq, rfl⟩)
          have h1 := hkb n (HI.out.pm.mem_iff.1 (List.mem_append_left _ hn))
          have h2 := Nat.div_le_self n long
          show q.1 < 1024
          omega)
        unfold maxLen
        omega)
      have NXT := hid (show ∀ w2, MV mkI w2 g (putD ds q (c + 1)) → Kept (fun x => x = g) w1 w2 → StI w w2 N m (g + 1) g long ks L (done ++ [n]) rest' (putD ds q (c + 1)) from fun w2 h1 h2 => by
        refine ⟨hrg.kept h2 (fun e => HI.out.gm e.symm) (fun e => by omega), ?_, h1, fun x => ?_, fun p hp' => ?_, ?_, HI.out.gw, HI.out.rw', HI.out.gr, HI.out.gm⟩
        · refine List.Perm.trans ?_ HI.out.pm
          rw [List.append_assoc]
          exact List.Perm.append_left done (show (n :: rest'.map Prod.fst).Perm (rest.map Prod.fst) from (hp.map Prod.fst).symm)
        · rw [putD_keys, HI.out.ke]
          constructor
          · rintro (⟨a, ha, e⟩ | e)
            · exact ⟨a, List.mem_append_left _ ha, e⟩
            · exact ⟨n, by simp, by rw [e, hq]⟩
          · rintro ⟨a, ha, e⟩
            rcases List.mem_append.1 ha with ha | ha
            · exact .inl ⟨a, ha, e⟩
            · rw [List.mem_singleton] at ha
              exact .inr (by rw [← e, ha, hq])
        · rw [List.length_append]
          rcases putD_vals ds q (c + 1) p hp' with h3 | h3
          · have := HI.out.vl p h3
            simp; omega
          · rw [h3]
            cases hd : dlk ds q with
            | none => rw [hd] at hcd; simp at hcd ⊢; omega
            | some c' =>
              have := HI.out.vl _ (dlk_mem hd)
              rw [hd] at hcd
              simp at hcd this ⊢
              omega
        · have k1 : Kept (fun x => w.heap.size ≤ x) wr w1 := hk.mono (fun x _ e => by rw [e]; exact HI.out.rw')
          have k2 : Kept (fun x => w.heap.size ≤ x) w1 w2 := h2.mono (fun x _ e => by rw [e]; exact HI.out.gw)
          exact kept_new (kept_new HI.out.kp k1 (Nat.le_refl _)) k2 (Nat.le_refl _))
      have HML := hid (show rest'.length < rest.length by rw [hp.length_eq]; simp)
      clear hq hrg hk hs hcd hnk hp
      go_wp2_with (first | (at_lookup; refine wpl_look _ rfl _ _ 95 rfl 22 3 Try.underlying22 Try.underlying95 (zero_int _) g _ rfl MV1.out q (by omega) rfl _ HC.out ?_) | (at_mapUpdate; refine wpl_store _ rfl _ _ _ 95 rfl 22 3 Try.underlying22 Try.underlying95 g _ rfl MV1.out hdsl.out q (by omega) rfl (mkI (c + 1)) rfl ?_; intro w2 m2 k2 z2; rw [putL_putD] at m2; have M2 := hid m2; have K2 := hid k2; clear m2 k2 z2))
      have NX := NXT.out w2 M2.out K2.out
      refine ⟨⟨_, _, _, _, _, _, _, _, _, _, _, ⟨_, _, _, NX⟩, rfl⟩, ?_⟩
      rw [NX.rg.left_eq, HI.out.rg.left_eq]
      exact HML.out

/-- How many cells are left on the pages that have blocks of a size. -/
def rmN (U : List Un) (s : Nat) : Nat := ((ded ((U.filter fun u => u.2.2 == s).map (·.1))).map fun n => celN s - (U.filter fun u => u.1 == n).length).sum

/-- How much a page has left. -/
def lfN (S : Nat → Nat) (X : Nat → List Nat) (s n : Nat) : Nat := if S n = s then celN s - cntS (X n) else 0

theorem PGx.cnt_le {N w m U ks S B C W} (h : PGx N w m U ks S B C W) {n : Nat} (hn : n ∈ ks) : cntS (W n) ≤ celN (S n) := by
  have hst := h.st n hn
  unfold cntS
  rw [cntTo_cntB _ hst.lt64, hst.len]
  have hc : ∀ j, celN (S n) ≤ j → bit (W n) j = false := fun j hj => by
    rw [Bool.eq_false_iff]
    intro hb
    have := (h.sz _ (h.bt n hn j hb)).2.2.2
    simp at this
    omega
  have e : 64 * ((celN (S n) + 63) / 64) = celN (S n) + (64 * ((celN (S n) + 63) / 64) - celN (S n)) := by omega
  rw [e, cntB_past _ _ _ hc]
  exact cntB_le _ _

theorem PGx.room {N w m U ks S B C W} (h : PGx N w m U ks S B C W) (s : Nat) : (ks.map (lfN S W s)).sum = rmN U s := by
  have h1 : ∀ l : List Nat, (∀ n ∈ l, n ∈ ks) → (l.map (lfN S W s)).sum = ((l.filter fun n => S n == s).map fun n => celN s - (U.filter fun u => u.1 == n).length).sum := by
    intro l
    induction l with
    | nil => intro _; rfl
    | cons a r ih =>
      intro hl
      rw [List.map_cons, List.sum_cons, ih (fun n hn => hl n (List.mem_cons_of_mem _ hn)), List.filter_cons]
      unfold lfN
      by_cases e : S a = s
      · simp only [e, if_true, beq_self_eq_true, List.map_cons, List.sum_cons]
        rw [h.cn a (hl a (by simp))]
      · simp [e]
  rw [h1 ks (fun _ h => h), rmN]
  refine (List.Perm.map _ (perm_of (h.nodup.filter _) (nodup_ded _) (fun x => ?_))).sum_nat
  rw [mem_ded, List.mem_filter, List.mem_map]
  constructor
  · rintro ⟨hx, e⟩
    obtain ⟨u, hu, e2⟩ := h.kin x hx
    refine ⟨u, List.mem_filter.2 ⟨hu, ?_⟩, e2⟩
    have := (h.us u hu).2.1
    rw [e2] at this
    simp at e ⊢
    omega
  · rintro ⟨u, hu, e⟩
    obtain ⟨hu1, hu2⟩ := List.mem_filter.1 hu
    have := (h.us u hu1)
    rw [e] at this
    simp at hu2 ⊢
    exact ⟨this.1, by rw [this.2.1]; exact hu2⟩
end Go.Proofs.Ytibljocjdlgfbaa
