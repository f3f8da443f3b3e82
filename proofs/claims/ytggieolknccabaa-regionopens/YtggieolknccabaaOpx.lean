/- RegionOpens: what Open answers to all that the law hands it. -/
import Derived.Test.YtggieolknccabaaOpv
namespace Go.Proofs.Ytggieolknccabaa
open Go.RowKit
set_option linter.unusedVariables false

instance sizesDec (l o : Nat) (rg : Int) (nb np : Nat) : Decidable (sizesOk l o rg nb np) := by unfold sizesOk; infer_instance
def wantO (b0 : Nat) (l0 o0 rg : Int) (b np n h : Nat) : Int := if M.mayB b0 l0 o0 = true then (if sizesOk l0.toNat o0.toNat rg b np ∧ (n : Int) = o0 ∧ (h : Int) = o0 + 1 then 0 else 7) else 1
theorem may_bounds {b0 : Nat} {l0 o0 : Int} (h : M.mayB b0 l0 o0 = true) : 0 ≤ l0 ∧ l0 ≤ 64 ∧ 0 ≤ o0 ∧ o0 ≤ 8 ∧ l0.toNat * 2 ^ o0.toNat ≤ 1024 := by
  unfold M.mayB at h
  simp only [Bool.and_eq_true, decide_eq_true_eq] at h
  obtain ⟨⟨⟨h1, h2, h3, h4⟩, h5⟩, _⟩ := h
  exact ⟨by omega, h4, h1, h2, h5⟩
theorem open_law (b0 : Nat) (hb64 : b0 < 18446744073709551616) (l0 o0 : Int) (l1 : -9223372036854775808 ≤ l0) (l2 : l0 ≤ 9223372036854775807) (o1 : -9223372036854775808 ≤ o0) (o2 : o0 ≤ 9223372036854775807) (rg : Int) {b h np n K lc qc : Nat} (hb : b ≤ 4194304) (hh : h ≤ 100) (hnp : np ≤ 2000) (hn : n ≤ 14) (hK : (K : Int) = min (max o0 0) 9) {w0 W : World} {la qa : Option Addr} {vs : List Value} (hp : GS w0 W 53 11 (.slice la np lc) np (reps pg2 np)) (hq : PR w0 W (.slice qa n qc) np K n vs) (gb g0 : Nat) (hbv : M.Bytes W (.slice (some ⟨gb, 0, none⟩) b b) b (fun _ => 0)) (hg0 : W.heap[g0]? = some (.cells (wcells (List.replicate h 0)) 23 (0, 0))) :
    Calls Try.prog 18 #[cfgV b0 l0 o0, .int .i64 rg, .slice (some ⟨gb, 0, none⟩) b b, .slice la np lc, .slice qa n qc, .slice (some ⟨g0, 0, none⟩) h h] W fun e w' => OpP6 W (wantO b0 l0 o0 rg b np n h) e w' := by
  by_cases hm : M.mayB b0 l0 o0 = true
  · obtain ⟨p1, p2, p3, p4, p5⟩ := may_bounds hm
    obtain ⟨l, rfl⟩ := Int.eq_ofNat_of_zero_le p1
    obtain ⟨o, rfl⟩ := Int.eq_ofNat_of_zero_le p3
    simp only [Int.toNat_natCast] at p5
    by_cases hs : sizesOk l o rg b np
    · obtain ⟨s1, s2, s3, s4⟩ := id hs
      obtain ⟨r, rfl⟩ := Int.eq_ofNat_of_zero_le s1
      have s3' : np = r * 2 ^ o := by exact_mod_cast s3
      have hrl : r ≤ l := by omega
      have hle : np ≤ 1024 := by
        rw [s3']
        exact Nat.le_trans (Nat.mul_le_mul_right _ hrl) p5
      have hKo : K = o := by omega
      refine (Open6_go b0 hb64 l o (by omega) (by omega) hm r b np hrl s3' s4 (some ⟨gb, 0, none⟩) la qa b lc qc n (fun _ => 0) g0 h (List.replicate h 0) (fun i => ?_) h (by rw [List.length_replicate]) (by omega) (decide (n = o)) (wantO b0 (l : Int) (o : Int) (r : Int) b np n h) (fun a1 a2 => ?_) (fun a1 => ?_) W hbv hg0 (fun V k => open_made (by omega) hle ⟨r, s3'⟩ hp K (fun _ => hKo) hq (by omega) V k))
      · rw [List.getD_eq_getElem?_getD, List.getElem?_replicate]
        split <;> decide
      · have a3 : n = o := of_decide_eq_true a1
        unfold wantO
        rw [if_pos hm, if_pos ⟨by simpa using hs, by omega, by omega⟩]
      · unfold wantO
        rw [if_pos hm, if_neg (fun ⟨_, q2, q3⟩ => a1 ⟨decide_eq_true (by omega), by omega⟩)]
    · refine (Open6_size b0 hb64 l o (by omega) (by omega) hm rg b np (by omega) (by omega) hs _ _ _ _ _ _ W).mono ?_
      rintro e w' ⟨rfl, hk⟩
      refine ⟨.pointer none, ?_, hk⟩
      unfold wantO
      rw [if_pos hm, if_neg (fun ⟨q1, _⟩ => hs (by simpa using q1))]
  · refine (Open6_no b0 hb64 l0 o0 l1 l2 o1 o2 (by simpa using hm) rg _ _ _ _ W).mono ?_
    rintro e w' ⟨rfl, hk⟩
    refine ⟨.pointer none, ?_, hk⟩
    unfold wantO
    rw [if_neg hm]
end Go.Proofs.Ytggieolknccabaa
