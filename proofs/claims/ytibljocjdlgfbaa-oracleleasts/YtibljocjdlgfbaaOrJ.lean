/- (pages).room. -/
import Derived.Test.YtibljocjdlgfbaaOrI
namespace Go.Proofs.Ytibljocjdlgfbaa
open Go.RowKit
set_option linter.unusedVariables false

/-- The state of the loop of room. -/
structure RoI (w W : World) (m r s : Nat) (ks : List Nat) (S : Nat → Nat) (X : Nat → List Nat) (L : List (Nat × Value)) (done : List Nat) (rest : List (Nat × Value)) (a : Nat) : Prop where
  rg : RG W m r L rest
  pm : (done ++ rest.map (·.1)).Perm ks
  sb : ∀ p ∈ rest, p ∈ L
  ac : a = (done.map (lfN S X s)).sum
  kp : Kept none' w W
  rw' : w.heap.size ≤ r

theorem sum_le (f : Nat → Nat) (b : Nat) : ∀ l : List Nat, (∀ x ∈ l, f x ≤ b) → (l.map f).sum ≤ l.length * b
  | [], _ => by simp
  | x :: r, h => by
    have h1 := sum_le f b r (fun y hy => h y (List.mem_cons_of_mem _ hy))
    have h2 := h x (by simp)
    simp only [List.map_cons, List.sum_cons, List.length_cons, Nat.add_mul, Nat.one_mul]
    omega

set_option maxRecDepth 4000 in
theorem room_any {N w m U} (h : PG N w m U) (s : Nat) (hs : s < 2 ^ 64) :
    Calls Try.prog 38 #[.map (some m), .int .u64 (s : Int)] w fun e w' => e = .returned (.int .u64 ((rmN U s : Nat) : Int)) ∧ Kept none' w w' := by
  obtain ⟨ks, S, B, C, X, h⟩ := h
  obtain ⟨L, hL⟩ : ∃ L, L = ks.map fun n => (n, pgV (S n) (B n)) := ⟨_, rfl⟩
  have hLk : L.map (·.1) = ks := by rw [hL, List.map_map]; simp [Function.comp_def]
  have HM := hid (show MU w m L by rw [hL]; exact h.mu)
  have hlen := h.len
  have HX := hid h
  have HIN := hid (show ∀ n v, (n, v) ∈ L → n ∈ ks ∧ v = pgV (S n) (B n) from fun n v hv => by
    rw [hL] at hv
    obtain ⟨k, hk, e⟩ := List.mem_map.1 hv
    have e1 : k = n := congrArg Prod.fst e
    have e2 : pgV (S k) (B k) = v := congrArg Prod.snd e
    subst e1
    exact ⟨hk, e2.symm⟩)
  have hlf : ∀ n ∈ ks, lfN S X s n ≤ 256 := fun n hn => by
    unfold lfN
    split
    · rename_i e
      obtain ⟨u, hu, e2⟩ := h.kin n hn
      have h1 := (h.sz u hu).1
      have h2 := (h.us u hu).2.1
      rw [e2, e] at h2
      have := celN_b s (by omega)
      omega
    · omega
  have HLF := hid hlf
  have HLK := hid hLk
  clear h hL hLk hlf
  go_enter Try.func38, Try.ntmps38
  go_wp2_with (first | (at_range; refine wpl_range _ rfl _ 72 rfl 22 98 Try.underlying72 m L rfl HM.out ?_; intro w0 hrg0 hk0 hs0))
  go_frame
  have I0 := hid (show RoI w w0 m w.heap.size s ks S X L [] L 0 from ⟨hrg0, by rw [List.nil_append, HLK.out], fun p hp => hp, rfl, hk0, Nat.le_refl _⟩)
  generalize w.heap.size = r at *
  clear hrg0 hk0 hs0
  go_loopw [5] (fun x W => ∃ done rest a, x = .int .i64 ((a : Nat) : Int) ∧ Hid (RoI w W m r s ks S X L done rest a)) (fun _ W => W.rangeLeft m r)
  case atStart => exact ⟨[], L, 0, rfl, I0⟩
  case round =>
    clear I0 HM
    obtain ⟨done, rest, a, rfl, HI⟩ := hrel
    have hab : a ≤ 1024 * 256 := by
      rw [HI.out.ac]
      have h1 := sum_le (lfN S X s) 256 done (fun x hx => HLF.out x (HI.out.pm.mem_iff.1 (List.mem_append_left _ hx)))
      have h2 := HI.out.pm.length_eq
      simp at h2
      exact Nat.le_trans h1 (Nat.mul_le_mul_right _ (by omega))
    go_wp2_with (first | (at_next; refine wpl_next _ rfl _ rfl m r L rest rfl HI.out.rg ?_ ?_))
    · intro hd
      have HF := hid (show a = rmN U s from by
        rw [← HX.out.room s, HI.out.ac]
        have hp := HI.out.pm
        rw [hd] at hp
        simp only [List.map_nil, List.append_nil] at hp
        exact (hp.map _).sum_nat)
      clear hd
      go_wp2_with fail
      go_ret
      exact ⟨ret_int (by rw [HF.out]), HI.out.kp⟩
    · intro n v rest' w1 hp hrg hk hz hen
      obtain ⟨hnk, rfl⟩ := HIN.out n v (HI.out.sb _ (hp.mem_iff.2 (by simp)))
      have k1 : Kept (fun x => w.heap.size ≤ x) wr w1 := hk.mono (fun x _ e => by rw [e]; exact HI.out.rw')
      have K1 := hid (kept_new HI.out.kp k1 (Nat.le_refl _))
      have NXT := hid (show ∀ w2 b, Kept none' w1 w2 → b = a + lfN S X s n → RoI w w2 m r s ks S X L (done ++ [n]) rest' b from fun w2 b h2 hb => by
        refine ⟨hrg.kept h2 (fun e => e) (fun e => e), ?_, fun p hp' => HI.out.sb p (hp.mem_iff.2 (List.mem_cons_of_mem _ hp')), ?_, none_trans K1.out h2, HI.out.rw'⟩
        · refine List.Perm.trans ?_ HI.out.pm
          rw [List.append_assoc]
          exact List.Perm.append_left done (show (n :: rest'.map Prod.fst).Perm (rest.map Prod.fst) from (hp.map Prod.fst).symm)
        · rw [hb, List.map_append, List.sum_append, ← HI.out.ac]; simp)
      have HML := hid (show rest'.length < rest.length by rw [hp.length_eq]; simp)
      have hle := HX.out.cnt_le hnk
      have hSn := hid ((HX.out.st n hnk).kept K1.out (fun x => x) (fun x => x))
      have hcb : celN (S n) ≤ 256 := by
        obtain ⟨u, hu, e2⟩ := HX.out.kin n hnk
        have h1 := (HX.out.sz u hu).1
        have h2 := (HX.out.us u hu).2.1
        rw [e2] at h2
        exact (celN_b (S n) (by omega)).2
      have hsb : S n ≤ 1048576 := by
        obtain ⟨u, hu, e2⟩ := HX.out.kin n hnk
        have h1 := (HX.out.sz u hu).2.1
        have h2 := (HX.out.us u hu).2.1
        rw [e2] at h2
        omega
      obtain ⟨cc, hcc⟩ : ∃ cc, cc = celN (S n) := ⟨_, rfl⟩
      obtain ⟨ct, hct⟩ : ∃ ct, ct = cntS (X n) := ⟨_, rfl⟩
      rw [← hcc] at hcb hle
      rw [← hct] at hle
      have KA := hid (show Kept none' w1 (w1.alloc (.cells #[.int .u64 (S n : Int), .pointer (some ⟨B n, 0, none⟩)] 98)) from (Kept.refl _ _).alloc _)
      by_cases e1 : S n = s
      · have LE := hid (show lfN S X s n = cc - ct by unfold lfN; rw [if_pos e1, hcc, hct, e1])
        have QL := hid (show ∀ q, Calls Try.prog 54 #[.pointer (some ⟨B n, 0, none⟩)] ((w1.alloc (.cells #[.int .u64 (S n : Int), .pointer (some ⟨B n, 0, none⟩)] 98)).drewN q) fun e w' => e = .returned (.int .i64 (cc : Int)) ∧ w' = (w1.alloc (.cells #[.int .u64 (S n : Int), .pointer (some ⟨B n, 0, none⟩)] 98)).drewN q from fun q => by
          have := len_any (B n) (C n) (celN (S n)) (X n) ((w1.alloc (.cells #[.int .u64 (S n : Int), .pointer (some ⟨B n, 0, none⟩)] 98)).drewN q) (hSn.out.kept (KA.out.drewN q) (fun x => x) (fun x => x))
          rw [← hcc] at this
          exact this)
        have QC := hid (show ∀ q, Calls Try.prog 55 #[.pointer (some ⟨B n, 0, none⟩)] ((w1.alloc (.cells #[.int .u64 (S n : Int), .pointer (some ⟨B n, 0, none⟩)] 98)).drewN q) fun e w' => e = .returned (.int .i64 (ct : Int)) ∧ w' = (w1.alloc (.cells #[.int .u64 (S n : Int), .pointer (some ⟨B n, 0, none⟩)] 98)).drewN q from fun q => by
          have := countS_any (B n) (C n) (celN (S n)) (X n) ((w1.alloc (.cells #[.int .u64 (S n : Int), .pointer (some ⟨B n, 0, none⟩)] 98)).drewN q) (hSn.out.kept (KA.out.drewN q) (fun x => x) (fun x => x))
          rw [← hct] at this
          exact this)
        have e1' : ((S n : Int) == (s : Int)) = true := by rw [beq_iff_eq]; omega
        clear hcc hct hrg hk hz hp hnk e1 k1
        simp only [pgV] at hen ⊢
        go_wp2_with fail
        go_quiet (first | (go_at_call 54; exact Calls.quiet_of_same (QL.out _)) | (go_at_call 55; exact Calls.quiet_of_same (QC.out _)))
        go_wp2
        have NX := NXT.out _ (a + (cc - ct)) (KA.out.drewN nq) (by rw [LE.out])
        refine ⟨⟨_, _, _, ?_, hid NX⟩, by rw [NX.rg.left_eq, HI.out.rg.left_eq]; exact HML.out⟩
        congr 1
        omega
      · have LE := hid (show lfN S X s n = 0 by unfold lfN; rw [if_neg e1])
        have e1' : ((S n : Int) == (s : Int)) = false := by rw [beq_eq_false_iff_ne]; omega
        clear hcc hct hrg hk hz hp hnk e1 k1
        simp only [pgV] at hen ⊢
        go_wp2_with fail
        have NX := NXT.out _ a KA.out (by rw [LE.out]; rfl)
        exact ⟨⟨_, _, _, rfl, hid NX⟩, by rw [NX.rg.left_eq, HI.out.rg.left_eq]; exact HML.out⟩
end Go.Proofs.Ytibljocjdlgfbaa
