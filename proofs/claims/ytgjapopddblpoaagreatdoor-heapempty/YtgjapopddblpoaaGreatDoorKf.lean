import Derived.Test.YtgjapopddblpoaaGreatDoorKe
import Derived.Test.YtgjapopddblpoaaGreatDoorKd
/- slices.Collect over a list. -/
namespace Go.Proofs.YtgjapopddblpoaaGreatDoor.M
open Go.RowKit Go.Shelf
set_option linter.unusedVariables false
attribute [local go_sem] Oper.semAt_some

theorem AppendSeq_any (kk c b ao base R lim n f hd) (o : Nat) (ho : o ≤ 8) (hR : R = 4096 * 2 ^ o) (w : World) (h : LS w c b ao base R lim n f hd) (hpk : PtrB w kk c) :
    Calls Tryz.prog 231 #[.slice none 0 0, .func (.func 232) #[] #[.pointer (some ⟨kk, 0, none⟩)]] w fun e w' => ∃ v, e = .returned v ∧ Lst w' v (walkR base n f (n / 16) 0 hd) ∧ Kept none' w w' ∧ ∀ r, v.ownBlock = some r → w.heap.size ≤ r := by
  have H := hid h
  have HPKW := hid hpk
  have hkk := hpk.lt
  have hn : n ≤ 4194304 := Nat.le_trans h.s.nle h.s.cfg.lr
  have HRR := hid hR
  clear h hR hpk
  have hmf := mkf
  have hfe := fnil
  refine calls_marks Tryz.func231 rfl ?_
  simp only [Tryz.ntmps231, List.size_toArray, List.length_cons, List.length_nil, Nat.reduceAdd, Nat.reduceSub, Array.replicate_succ, Array.replicate_zero, List.push_toArray, List.append_toArray, List.nil_append, List.cons_append]
  go_wp2_with fail
  obtain ⟨w1, hw1⟩ : ∃ w1, w1 = w.alloc (.cells #[.slice none 0 0] 59) := ⟨_, rfl⟩
  rw [← hw1]
  have KW := hid (show Kept none' w w1 by rw [hw1]; exact (Kept.refl none' w).alloc _)
  have F1 := hid (show OutB w1 w.heap.size (.slice none 0 0) by rw [hw1]; exact heap_new _ _)
  have F2 := hid (HPKW.out.keep KW.out)
  have HZ1 := hid (show w1.heap.size = w.heap.size + 1 by rw [hw1]; simp)
  have HNL := hid hn
  clear hw1 hn
  have HKK := hid hkk
  refine wp_range (gf := 232) (lb := #[.pointer (some ⟨kk, 0, none⟩)]) rfl (enters_of Tryz.func232 (by kernel_rfl) rfl) ?_
  intro fn rc hrc
  have HRC := hid hrc
  clear hrc
  have hz1 := HZ1.out
  rw [hz1]
  obtain ⟨W3, hW3⟩ : ∃ W3, W3 = (w1.alloc (.deferred (some []))).alloc (.loop (rc .ready none)) := ⟨_, rfl⟩
  have KW3 := hid (show Kept none' w1 W3 by rw [hW3]; exact ((Kept.refl none' w1).alloc _).alloc _)
  have hz3 : W3.heap.size = w.heap.size + 3 := by rw [hW3]; simp; omega
  have G1 := hid (F1.out.kept KW3.out (fun x => x))
  have G2 := hid (F2.out.keep KW3.out)
  have G3 := hid (show RecAt W3 (w.heap.size + 2) (rc .ready none) by
    rw [hW3]
    have := heap_new2 w1 (.deferred (some [])) (.loop (rc .ready none))
    rw [hz1] at this
    exact this)
  have G4 := hid (show DefAt W3 (w.heap.size + 1) by
    rw [hW3]
    have := (Below.heap_alloc (w1.alloc (.deferred (some []))) (.loop (rc .ready none)) w1.heap.size (by simp)).trans (heap_new w1 _)
    rw [hz1] at this
    exact this)
  have K3 := hid (none_trans KW.out KW3.out)
  rw [← hW3]
  have HZ3 := hid hz3
  clear hW3
  obtain ⟨N, hN⟩ : ∃ N, N = n / 16 := ⟨_, rfl⟩
  have hNl : N ≤ 262144 := by have := HNL.out; omega
  have HN := hid hN
  clear hN
  refine (All1_any kk (w.heap.size + 2) c b ao base R lim n o ho HRR.out (w.heap.size + 3)
    (Taking c b ao base R lim n f hd kk w.heap.size (w.heap.size + 1) (w.heap.size + 2) w rc N) (fun _ _ => False) ?hK1 ?hK2 (fun _ _ _ _ h => h.elim) ?hY hd f
    (fun x => x < w.heap.size ∨ x = kk ∨ x = w.heap.size ∨ x = w.heap.size + 1 ∨ x = w.heap.size + 2 ∨ Value.ownBlock (.slice none 0 0) = some x) W3 (by omega) (H.out.keep K3.out) ?h0).mono ?hend
  case h0 =>
    exact ⟨rfl, H.out.keep K3.out, G2.out, K3.out, H.out.l.h64, by decide, [], .slice none 0 0, rfl, Nat.zero_le _, rfl, G1.out, Lst.nil _, G3.out, G4.out, fun r e => (by cases e), rfl⟩
  case hK1 =>
    rintro i q p f' S W ⟨hf, hls, hpk, hk0, hp, hq, xs, v, hxi, hiN, hwk, hob, hlst, hrec, hdef, hrow, rfl⟩
    refine ⟨hp, hq, ⟨hd, hls⟩, ?_, hpk⟩
    have := hk0.size
    have := hpk.lt
    have := hob.lt
    have := hrec.lt
    have := hdef.lt
    rintro x (h | h | h | h | h | h)
    all_goals first | omega | exact hlst.wds.lt h
  case hK2 =>
    rintro i q p f' S T W W' ⟨hf, hls, hpk, hk0, hp, hq, xs, v, hxi, hiN, hwk, hob, hlst, hrec, hdef, hrow, rfl⟩ hk hT
    have hnT : ∀ x, (x < w.heap.size ∨ x = kk ∨ x = w.heap.size ∨ x = w.heap.size + 1 ∨ x = w.heap.size + 2 ∨ v.ownBlock = some x) → ¬ T x := fun x hx ht => (hT x ht).2 hx
    exact ⟨hf, hls.kept hk (fun x hx => hnT x (.inl (H.out.lt x hx))), hpk.kept hk (hnT _ (by simp)), hk0.trans hk (fun _ _ x => x) (fun x hx ht => hnT x (.inl hx) ht), hp, hq,
      xs, v, hxi, hiN, hwk, hob.kept hk (hnT _ (by simp)), hlst.kept hk (fun r hr => hnT r (by simp [hr])), hrec.kept hk (hnT _ (by simp)), hdef.kept hk (hnT _ (by simp)), hrow, rfl⟩
  case hend =>
    rintro e W' ⟨hv, ⟨i, q, p, f', S, ⟨hf, hls, hpk, hk0, hp, hq, xs, v, hxi, hiN, hwk, hob, hlst, hrec, hdef, hrow, hSS⟩, hi, hor⟩ | ⟨_, h⟩⟩
    · refine ⟨hv, .ready, none, by simp, hrec, fun _ => ?_, fun c hc => by cases hc⟩
      have hwn : walkR base n f (N - i) q p = [] := by
        rcases Nat.eq_zero_or_pos (N - i) with e | e
        · rw [e]; rfl
        · obtain ⟨k, hk⟩ : ∃ k, N - i = k + 1 := ⟨N - i - 1, by omega⟩
          rw [hk]
          unfold walkR
          rw [if_neg]
          rintro ⟨h1, h2, h3⟩
          rw [hf] at hor
          have := HN.out
          rcases hor with h | h | h | h
          · exact h1 h
          · exact h h2
          · exact h h3
          · omega
      rw [hwn, List.append_nil] at hwk
      have kq : Kept (fun x => x = w.heap.size + 1 ∨ x = w.heap.size + 2) W' ((W'.putObj (w.heap.size + 2) (.loop (rc .exhausted none))).putObj (w.heap.size + 1) (.deferred none)) := ((Kept.refl _ W').putObj (fun _ => .inr rfl) _).putObj (fun _ => .inl rfl) _
      have hD2 : DefAt (W'.putObj (w.heap.size + 2) (.loop (rc .exhausted none))) (w.heap.size + 1) := (World.putObj_heap_other (by omega)).trans hdef
      have hO2 : OutB (W'.putObj (w.heap.size + 2) (.loop (rc .exhausted none))) w.heap.size v := (World.putObj_heap_other (by omega)).trans hob
      have hc := cell_of hO2
      have hne : ∀ r, v.ownBlock = some r → ¬ (r = w.heap.size + 1 ∨ r = w.heap.size + 2) := fun r hr e => by
        obtain ⟨cs, hcs⟩ := hlst.blk hr
        rcases e with rfl | rfl
        · rw [show W'.heap[w.heap.size + 1]? = _ from hdef] at hcs; cases hcs
        · rw [show W'.heap[w.heap.size + 2]? = _ from hrec] at hcs; cases hcs
      have HL := hid (hlst.kept kq hne)
      have HK := hid (hk0.trans (U := none') kq (fun _ _ x => x) (fun x hx e => by omega))
      have HW := hid hwk
      have HR := hid hrow
      clear hlst hk0 hwk hrow hne kq hO2 hor hSS hwn hls hpk hob hrec hdef hf hi
      go_wp2_with fail
      refine ⟨by simp, .inl ⟨_, _, rfl, run_takeDeferred hD2, ?_⟩⟩
      refine ⟨_, results_tmp rfl _ _ _, v, rfl, ?_, HK.out, HR.out⟩
      rw [← HN.out, ← HW.out]
      exact HL.out
    · exact h.elim
  case hY =>
    rintro i q p f' S W ⟨hf, hls, hpk, hk0, hp, hq, xs, v, hxi, hiN, hwk, hob, hlst, hrec, hdef, hrow, rfl⟩ hi hp0 hin hpv
    rw [← HN.out] at hi
    subst hf
    have hL := hrec
    rw [HRC.out] at hL
    refine yield_round hL rfl ?_
    rw [← HRC.out]
    have kq : Kept (fun x => x = w.heap.size + 2) W (W.putObj (w.heap.size + 2) (.loop (rc .busy none))) := (Kept.refl (fun x => x = w.heap.size + 2) W).putObj (fun _ => rfl) _
    have hne : ∀ r, v.ownBlock = some r → ¬ (r = w.heap.size + 2) := fun r hr e => by
      obtain ⟨cs, hcs⟩ := hlst.blk hr
      subst e
      rw [show W.heap[w.heap.size + 2]? = _ from hrec] at hcs; cases hcs
    have hnd : ∀ r, v.ownBlock = some r → ¬ (r = w.heap.size + 1) := fun r hr e => by
      obtain ⟨cs, hcs⟩ := hlst.blk hr
      subst e
      rw [show W.heap[w.heap.size + 1]? = _ from hdef] at hcs; cases hcs
    have hnk : ∀ r, v.ownBlock = some r → ¬ (r = kk) := fun r hr e => by
      obtain ⟨cs, hcs⟩ := hlst.blk hr
      rw [e, show W.heap[kk]? = _ from hpk] at hcs; simp at hcs
    have hno : ∀ r, v.ownBlock = some r → ¬ (r = w.heap.size) := fun r hr e => by
      obtain ⟨cs, hcs⟩ := hlst.blk hr
      subst e
      rw [show W.heap[w.heap.size]? = _ from hob] at hcs; simp at hcs
    obtain ⟨W2, hW2⟩ : ∃ W2, W2 = W.putObj (w.heap.size + 2) (.loop (rc .busy none)) := ⟨_, rfl⟩
    rw [← hW2] at kq
    have hz2 : W2.heap.size = W.heap.size := by rw [hW2]; simp
    have L2 := hlst.kept kq hne
    have O2 := hob.kept kq (by omega)
    have R2 : RecAt W2 (w.heap.size + 2) (rc .busy none) := by rw [hW2]; exact hrec.put _
    have D2 := hdef.kept kq (by omega)
    have P2 := hpk.kept kq (by omega)
    have kt : Kept none' W2 (W2.alloc (.cells #[.int .u64 (p : Int)] 27)) := (Kept.refl none' W2).alloc _
    obtain ⟨v', w4, hap, hL4, hK4, hown4, g, cap, hv'⟩ := push_run (W2.alloc (.cells #[.int .u64 (p : Int)] 27)) v xs p (L2.keep kt) hp (by omega) ⟨W2.heap.size, 0, none⟩ 1 (by rw [Addr.add_lit]; exact cell_of (heap_new _ _))
    subst hv'
    have kA : Kept (fun x => x = w.heap.size + 2 ∨ v.ownBlock = some x) W w4 := (kq.trans (U := fun x => x = w.heap.size + 2 ∨ v.ownBlock = some x) kt (fun _ _ h => .inl h) (fun _ _ h => h.elim)).trans hK4 (fun _ _ h => h) (fun _ _ h => .inr h)
    have kB : Kept (fun x => v.ownBlock = some x) W2 w4 := kt.trans hK4 (fun _ _ h => h.elim) (fun _ _ h => h)
    have O4 := O2.kept kB (fun h => hno _ h rfl)
    have hc0 := cell_of O2
    have hc4 := cell_of O4
    have hf4 := frozen_of O4
    have HAP := hid hap
    have HZ2 := hid hz2
    have HL4 := hid hL4
    have KA := hid kA
    have KB := hid kB
    have HO4 := hid O4
    have HR2 := hid R2
    have HD2 := hid D2
    have HP2 := hid P2
    have HOWN := hid hown4
    have HLS := hid hls
    have HK0 := hid hk0
    have HWK := hid hwk
    have HROW := hid hrow
    have HX := hid hxi
    have HPV := hid hpv
    have HH1 := hid hne
    have HH2 := hid hnd
    have HH3 := hid hnk
    have HH4 := hid hno
    have HIN := hid hin
    have HREC := hid hrec
    have HDEF := hid hdef
    have HPK := hid hpk
    clear hz2 hxi kq L2 O2 R2 D2 P2 kt hL4 hK4 hown4 kA kB O4 hL hls hk0 hwk hrow hpv hne hnd hnk hno hin hrec hdef hpk hob hlst
    gi_wp2_with fail
    refine ⟨HREC.out, ?_⟩
    rw [← hW2]
    clear hW2
    gi_wp2_with (gi_at_builtin; refine wpListIn_append_run _ rfl _ _ _ rfl v (.slice (some ⟨W2.heap.size, 0, none⟩) 1 1) rfl rfl _ _ HAP.out ?_)
    have hN4 : ¬ (v.ownBlock = some (w.heap.size + 2)) := fun h => HH1.out _ h rfl
    have R4 := HR2.out.kept KB.out hN4
    have kC : Kept (fun x => x = w.heap.size + 2 ∨ x = w.heap.size ∨ v.ownBlock = some x) W ((w4.setCell ⟨w.heap.size, 0, none⟩ (.slice (some ⟨g, 0, none⟩) (xs.length + 1) cap)).putObj (w.heap.size + 2) (.loop (rc .ready none))) :=
      ((KA.out.mono (fun x _ h => by rcases h with h | h; exact .inl h; exact .inr (.inr h))).setCell (fun _ => .inr (.inl rfl)) _).putObj (fun _ => .inl rfl) _
    have kD : Kept (fun x => x = w.heap.size + 2 ∨ x = w.heap.size) w4 ((w4.setCell ⟨w.heap.size, 0, none⟩ (.slice (some ⟨g, 0, none⟩) (xs.length + 1) cap)).putObj (w.heap.size + 2) (.loop (rc .ready none))) :=
      ((Kept.refl _ w4).setCell (fun _ => .inr rfl) _).putObj (fun _ => .inl rfl) _
    have hgn : ∀ r, Value.ownBlock (.slice (some ⟨g, 0, none⟩) (xs.length + 1) cap) = some r → r ≠ w.heap.size + 2 ∧ r ≠ w.heap.size ∧ w.heap.size ≤ r ∧ (v.ownBlock = some r ∨ W.heap.size ≤ r) := fun r hr => by
      have hWl := HREC.out.lt
      rcases HOWN.out with e | ⟨r', e, hle⟩
      · rw [e] at hr
        exact ⟨HH1.out r hr, HH4.out r hr, HROW.out r hr, .inl hr⟩
      · rw [e] at hr
        cases hr
        simp at hle
        have := HZ2.out
        exact ⟨by omega, by omega, by omega, .inr (by omega)⟩
    obtain ⟨W5, hW5⟩ : ∃ W5, W5 = (w4.setCell ⟨w.heap.size, 0, none⟩ (.slice (some ⟨g, 0, none⟩) (xs.length + 1) cap)).putObj (w.heap.size + 2) (.loop (rc .ready none)) := ⟨_, rfl⟩
    have R5 : RecAt (w4.setCell ⟨w.heap.size, 0, none⟩ (.slice (some ⟨g, 0, none⟩) (xs.length + 1) cap)) (w.heap.size + 2) (rc .busy none) := R4.kept ((Kept.refl (fun x => x = w.heap.size) w4).setCell (fun _ => rfl) _) (by omega)
    have R6 : RecAt W5 (w.heap.size + 2) (rc .ready none) := by rw [hW5]; exact R5.put _
    have O6 : OutB W5 w.heap.size (.slice (some ⟨g, 0, none⟩) (xs.length + 1) cap) := by rw [hW5]; exact (World.putObj_heap_other (by omega)).trans (HO4.out.set _)
    rw [← hW5] at kC kD
    have hTk : Taking c b ao base R lim n f' hd kk w.heap.size (w.heap.size + 1) (w.heap.size + 2) w rc N (i + 1) p (nx base f' p) f'
        (fun x => x < w.heap.size ∨ x = kk ∨ x = w.heap.size ∨ x = w.heap.size + 1 ∨ x = w.heap.size + 2 ∨ Value.ownBlock (.slice (some ⟨g, 0, none⟩) (xs.length + 1) cap) = some x) W5 := by
      refine ⟨rfl, ?_, ?_, ?_, ?_, hp, xs ++ [p], .slice (some ⟨g, 0, none⟩) (xs.length + 1) cap, by simp [HX.out], by omega, ?_, O6, ?_, R6, ?_, ?_, rfl⟩
      · refine HLS.out.kept kC (fun x hx h => ?_)
        have := H.out.lt x hx
        rcases h with h | h | h
        · omega
        · omega
        · have := HROW.out x h
          omega
      · exact HPK.out.kept kC (by rintro (h | h | h); omega; omega; exact HH3.out _ h rfl)
      · refine HK0.out.trans kC (fun _ _ h => h) (fun x hx h => ?_)
        rcases h with h | h | h
        · omega
        · omega
        · have := HROW.out x h
          omega
      · exact HLS.out.s.nx_lt p HIN.out
      · have e1 : N - i = (N - (i + 1)) + 1 := by omega
        rw [← HWK.out, e1, walkR, if_pos ⟨hp0, HIN.out, HPV.out⟩]
        simp
      · exact HL4.out.kept kD (fun r hr h => by have := hgn r hr; omega)
      · exact (HDEF.out.kept kC (by rintro (h | h | h); omega; omega; exact HH2.out _ h rfl))
      · exact fun r hr => (hgn r hr).2.2.1
    have hkk : Kept (fun x => x < w.heap.size ∨ x = kk ∨ x = w.heap.size ∨ x = w.heap.size + 1 ∨ x = w.heap.size + 2 ∨ v.ownBlock = some x) W W5 := by
      refine kC.mono (fun x _ h => ?_)
      rcases h with h | h | h
      · exact .inr (.inr (.inr (.inr (.inl h))))
      · exact .inr (.inr (.inl h))
      · exact .inr (.inr (.inr (.inr (.inr h))))
    have hss : ∀ x, (x < w.heap.size ∨ x = kk ∨ x = w.heap.size ∨ x = w.heap.size + 1 ∨ x = w.heap.size + 2 ∨ Value.ownBlock (.slice (some ⟨g, 0, none⟩) (xs.length + 1) cap) = some x) →
        (x < w.heap.size ∨ x = kk ∨ x = w.heap.size ∨ x = w.heap.size + 1 ∨ x = w.heap.size + 2 ∨ v.ownBlock = some x) ∨ W.heap.size ≤ x := by
      rintro x (h | h | h | h | h | h)
      · exact .inl (.inl h)
      · exact .inl (.inr (.inl h))
      · exact .inl (.inr (.inr (.inl h)))
      · exact .inl (.inr (.inr (.inr (.inl h))))
      · exact .inl (.inr (.inr (.inr (.inr (.inl h)))))
      · rcases (hgn x h).2.2.2 with h' | h'
        · exact .inl (.inr (.inr (.inr (.inr (.inr h')))))
        · exact .inr h'
    subst hW5
    first
      | exact ⟨R5, .inl ⟨rfl, f', _, hTk, hkk, hss⟩⟩
      | exact ⟨R5, rfl, f', _, hTk, hkk, hss⟩
theorem Collect_any (kk c b ao base R lim n f hd) (o : Nat) (ho : o ≤ 8) (hR : R = 4096 * 2 ^ o) (w : World) (h : LS w c b ao base R lim n f hd) (hpk : PtrB w kk c) :
    Calls Tryz.prog 226 #[.func (.func 232) #[] #[.pointer (some ⟨kk, 0, none⟩)]] w fun e w' => ∃ v, e = .returned v ∧ Lst w' v (walkR base n f (n / 16) 0 hd) ∧ Kept none' w w' ∧ ∀ r, v.ownBlock = some r → w.heap.size ≤ r := by
  have AS := hid (AppendSeq_any kk c b ao base R lim n f hd o ho hR w h hpk)
  clear h hpk
  go_enter Tryz.func226, Tryz.ntmps226
  go_wp2_with fail
  refine AS.out.mono ?_
  rintro e w1 ⟨v, rfl, hv⟩
  have HV := hid hv
  clear hv
  go_wp2_with fail
  go_ret
  exact ⟨v, rfl, HV.out⟩
end Go.Proofs.YtgjapopddblpoaaGreatDoor.M
/- croftlaw5.ints (off src3's LawB). -/
namespace Go.Proofs.YtgjapopddblpoaaGreatDoor.M
open Go.RowKit Go.Shelf
set_option linter.unusedVariables false

theorem getD_ext {xs ys : List Nat} (hl : xs.length = ys.length) (h : ∀ i, i < xs.length → xs.getD i 0 = ys.getD i 0) : xs = ys := by
  apply List.ext_getElem hl
  intro i h1 h2
  have := h i h1
  simpa [List.getD, h1, h2] using this

end Go.Proofs.YtgjapopddblpoaaGreatDoor.M
/- croftref2.May, R, New. -/
namespace Go.Proofs.YtgjapopddblpoaaGreatDoor.M
open Go.RowKit
set_option linter.unusedVariables false

theorem pow_mono (j k : Nat) (h : j ≤ k) (hk : k ≤ 8) : 1 ≤ 2 ^ j ∧ 2 ^ j ≤ 256 := pow8 j (by omega)

theorem two_new (w : World) (A B : Obj) : ((w.alloc A).alloc B).heap[w.heap.size + 1]? = some B := by
  have := heap_new (w.alloc A) B
  rwa [World.size_alloc] at this

/-- The document's own space, as a value. -/
def refV (base R lim : Nat) (mo : Option Nat) (n cap : Nat) : Value := .agg #[.int .u64 (base : Int), .int .u64 (R : Int), .int .i64 (lim : Int), .slice (adr mo) n cap]

end Go.Proofs.YtgjapopddblpoaaGreatDoor.M
