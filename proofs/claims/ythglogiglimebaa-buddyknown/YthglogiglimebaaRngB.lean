/- The walk along next: for whatever is done in its rounds. -/
import Derived.Test.YthglogiglimebaaRngA
namespace Go.Proofs.Ythglogiglimebaa.M
open Go.RowKit Go.Shelf
set_option linter.unusedVariables false
attribute [local go_sem] Oper.semAt_some

theorem least_ex {Q : Nat → Prop} (h : ∃ m, Q m) : ∃ m, Q m ∧ ∀ k, Q k → m ≤ k := by
  obtain ⟨m, hm⟩ := h
  induction m using Nat.strongRecOn with
  | _ m ih =>
    by_cases hx : ∃ k, k < m ∧ Q k
    · obtain ⟨k, hk, hq⟩ := hx
      exact ih k hk hq
    · exact ⟨m, hm, fun k hq => Nat.le_of_not_lt fun hl => hx ⟨k, hl, hq⟩⟩
open Classical in
noncomputable def least (Q : Nat → Prop) : Nat := if h : ∃ m, Q m then Classical.choose (least_ex h) else 0
theorem least_spec {Q : Nat → Prop} (h : ∃ m, Q m) : Q (least Q) := by
  unfold least
  rw [dif_pos h]
  exact (Classical.choose_spec (least_ex h)).1
theorem least_le {Q : Nat → Prop} {k : Nat} (h : Q k) : least Q ≤ k := by
  unfold least
  rw [dif_pos ⟨k, h⟩]
  exact (Classical.choose_spec (least_ex ⟨k, h⟩)).2 k h

/-- A box that holds a pointer to a list. -/
def PtrB (w : World) (k c : Nat) : Prop := w.heap[k]? = some (.cells #[.pointer (some ⟨c, 0, none⟩)] 72 (0, 0))
theorem PtrB.lt {w k c} (h : PtrB w k c) : k < w.heap.size := (Array.getElem?_eq_some_iff.1 h).1
theorem PtrB.c0 {w k c} (h : PtrB w k c) : w.cell? ⟨k, 0, none⟩ = some (.pointer (some ⟨c, 0, none⟩)) := by simp [World.cell?, show w.heap[k]? = _ from h]
theorem PtrB.kept {w w' k c} {S : Nat → Prop} (h : PtrB w k c) (hk : Kept S w w') (hS : ¬ S k) : PtrB w' k c := (hk.block k h.lt hS).trans h
theorem PtrB.keep {w w' k c} (h : PtrB w k c) (hk : Kept none' w w') : PtrB w' k c := h.kept hk (fun x => x)

theorem chain1_any (k l c b : Nat) (ao : Option Nat) (base R lim n : Nat) (J : Nat → Nat → (Nat → Nat) → (Nat → Prop) → World → Prop) (Jx : World → Prop)
    (hJ : ∀ m p f S W, J m p f S W → p < 18446744073709551616 ∧ PtrB W k c ∧ (∃ hd, LS W c b ao base R lim n f hd) ∧ ∀ x, S x → x < W.heap.size)
    (hK : ∀ m p f S W W', J m p f S W → Kept none' W W' → J m p f S W')
    (hY : ∀ m p f S W, J m p f S W → p ≠ 0 → In base n p 16 → YieldAt Fence.wide 0 Try.prog l #[.int .u64 (p : Int), .agg #[.int .u64 (nx base f p : Int), .int .u64 (pv base f p : Int)]] W fun e W' =>
      (e = .returned (.bool true) ∧ (∃ m' f' S', m' < m ∧ J m' (nx base f p) f' S' W') ∧ Kept S W W') ∨ (e = .returned (.bool false) ∧ Jx W'))
    (m0 hd : Nat) (f : Nat → Nat) (S : Nat → Prop) (w : World) (h : LS w c b ao base R lim n f hd) (h0 : J m0 hd f S w) :
    Calls Try.prog 92 #[.func (.yield l) #[] #[], .pointer (some ⟨k, 0, none⟩)] w fun e W' => (∃ v, e = .returned v) ∧
      ((∃ m p f S, J m p f S W' ∧ (p = 0 ∨ ¬ In base n p 16)) ∨ Jx W') := by
  have hk0 := (hJ _ _ _ _ _ h0).2.1.c0
  have hc1 := h.l.c1
  have HJ := hid hJ
  have HK := hid hK
  have HY := hid hY
  have H0 := hid h0
  clear hJ hK hY h h0
  refine (callsIn_wide (n := 0)).1 ?_
  refine callsIn_of_wp Try.func92 rfl trivial ?_ rfl
  simp only [Try.ntmps92, List.size_toArray, List.length_cons, List.length_nil, Nat.reduceAdd, Nat.reduceSub, Array.replicate_succ, Array.replicate_zero, List.push_toArray, List.append_toArray, List.nil_append, List.cons_append]
  gi_wp2
  gi_loopw [3] (fun p wr => ∃ m pp f S, p = .int .u64 ((pp : Nat) : Int) ∧ J m pp f S wr) (fun p wr => least (fun m => ∃ pp f S, p = .int .u64 ((pp : Nat) : Int) ∧ J m pp f S wr))
  case atStart => exact ⟨m0, hd, f, S, rfl, H0.out⟩
  case round =>
    have hls := least_spec hrel
    obtain ⟨M, hM⟩ : ∃ M, M = least (fun m => ∃ pp f S, u3 = .int .u64 ((pp : Nat) : Int) ∧ J m pp f S wr) := ⟨_, rfl⟩
    rw [← hM] at hls
    obtain ⟨pp, f, S, rfl, hJs⟩ := hls
    have HM := hid hM
    have HS := hid hJs
    obtain ⟨hp64, hk0, ⟨hd', hL⟩, hSl⟩ := HJ.out _ _ _ _ _ hJs
    have hk0 := hk0.c0
    have HL := hid hL
    clear hrel hJs hM hSl
    by_cases h0 : pp = 0
    · subst h0
      clear hL
      gi_wp2
      go_end0
      exact ⟨⟨_, rfl⟩, .inl ⟨_, _, _, _, HS.out, .inl rfl⟩⟩
    · have h0i : ((pp : Int) == 0) = false := beq_eq_false_iff_ne.2 (by omega)
      by_cases hin : In base n pp 16
      · have A := hid (at_there c b ao base R lim n f hd' pp wr hL.s hL.l hin)
        have HI := hid hin
        clear hL hin
        gi_wp2_with fail
        refine ⟨trivial, rfl, ?_⟩
        refine (callsIn_wide.2 A.out).mono ?_
        rintro e w1 ⟨rfl, k1⟩
        have hP := PairB.box (w := w1) (nx base f pp) (pv base f pp)
        obtain ⟨W, hW⟩ : ∃ W, W = w1.alloc (.cells #[.int .u64 (nx base f pp : Int), .int .u64 (pv base f pp : Int)] 123) := ⟨_, rfl⟩
        have hJW : J M pp f S W := by rw [hW]; exact HK.out _ _ _ _ _ _ HS.out (k1.alloc _)
        have hSP : ¬ S w1.heap.size := fun hs => by
          have h1 := (HJ.out _ _ _ _ _ HS.out).2.2.2 _ hs
          have h2 := k1.size
          omega
        rw [← hW] at hP
        have hy := HY.out M pp f S W hJW h0 HI.out
        have hq0 := hP.c0
        have hq1 := hP.c1
        have HP := hid hP
        have HSP := hid hSP
        have HJW := hid hJW
        generalize nx base f pp = x at *
        generalize pv base f pp = y at *
        obtain ⟨fn, tmps, assign, body, hyr, hR⟩ := hy
        clear hP hSP k1 hJW
        gi_wp2_with fail
        rw [← hW, hyr]
        refine ⟨fun h => absurd h (by decide), ?_⟩
        refine hR.mono ?_
        rintro e W' (⟨rfl, hJ', hk⟩ | ⟨rfl, hJx⟩)
        · have hP2 := HP.out.kept hk HSP.out
          have hq0 := hP2.c0
          obtain ⟨m', f', S', hlt, hJ'⟩ := hJ'
          have HJ' := hid hJ'
          have HLT := hid hlt
          clear hk hP2 hlt hJ' hR hyr hW
          gi_wp2_with fail
          go_roundw
          case rel => exact ⟨m', x, f', S', rfl, HJ'.out⟩
          case measure =>
            refine Nat.lt_of_le_of_lt (least_le (k := m') ⟨x, f', S', rfl, HJ'.out⟩) ?_
            rw [← HM.out]
            exact HLT.out
        · have HX := hid hJx
          clear hJx hR hyr hW
          gi_wp2_with fail
          refine bodyPost_ret (results_none rfl _ _ _) rfl ?_
          exact ⟨⟨_, rfl⟩, .inr HX.out⟩
      · have A := hid (at_not c b ao base R lim n f hd' pp hp64 wr hL.s hL.l hin)
        have HI := hid hin
        clear hL hin
        gi_wp2_with fail
        refine ⟨trivial, rfl, ?_⟩
        refine (callsIn_wide.2 A.out).mono ?_
        rintro e w1 ⟨rfl, k1⟩
        gi_wp2_with fail
        refine ⟨fun _ h => (by cases h), ?_⟩
        gi_wp2_with fail
        refine bodyPost_ret (results_none rfl _ _ _) rfl ?_
        exact ⟨⟨_, rfl⟩, .inl ⟨_, _, _, _, HK.out _ _ _ _ _ _ HS.out (k1.alloc _), .inr HI.out⟩⟩
end Go.Proofs.Ythglogiglimebaa.M
