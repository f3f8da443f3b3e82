/- A range over a list: for whatever is done in its rounds. -/
import Derived.Test.YthglogiglimebaaRngB
namespace Go.Proofs.Ythglogiglimebaa.M
open Go.RowKit Go.Shelf
set_option linter.unusedVariables false
attribute [local go_sem] Oper.semAt_some

/-- What All's own function holds: the yield, how many are left, the last one, the list, the loop's record, the deferred calls. -/
structure Six (W : World) (y lf la kb D L : Nat) (l left q c : Nat) (rc : Loop) : Prop where
  hy : W.heap[y]? = some (.cells #[.func (.yield l) #[] #[]] 117 (0, 0))
  hlf : W.heap[lf]? = some (.cells #[.int .u64 (left : Int)] 24 (0, 0))
  hla : W.heap[la]? = some (.cells #[.int .u64 (q : Int)] 24 (0, 0))
  hkb : PtrB W kb c
  hL : RecAt W L rc
  hD : DefAt W D
def six (y lf la kb D L : Nat) : Nat → Prop := fun x => x = y ∨ x = lf ∨ x = la ∨ x = kb ∨ x = D ∨ x = L
theorem Six.kept {W W' y lf la kb D L l left q c rc} {S : Nat → Prop} (h : Six W y lf la kb D L l left q c rc) (k : Kept S W W') (hS : ∀ x, six y lf la kb D L x → ¬ S x) : Six W' y lf la kb D L l left q c rc :=
  ⟨(k.block y (Array.getElem?_eq_some_iff.1 h.hy).1 (hS _ (.inl rfl))).trans h.hy, (k.block lf (Array.getElem?_eq_some_iff.1 h.hlf).1 (hS _ (.inr (.inl rfl)))).trans h.hlf,
    (k.block la (Array.getElem?_eq_some_iff.1 h.hla).1 (hS _ (.inr (.inr (.inl rfl))))).trans h.hla, h.hkb.kept k (hS _ (.inr (.inr (.inr (.inl rfl))))), h.hL.kept k (hS _ (.inr (.inr (.inr (.inr (.inr rfl)))))), h.hD.kept k (hS _ (.inr (.inr (.inr (.inr (.inl rfl)))))) ⟩
theorem Six.lt {W y lf la kb D L l left q c rc} (h : Six W y lf la kb D L l left q c rc) (x : Nat) (hx : six y lf la kb D L x) : x < W.heap.size := by
  rcases hx with rfl | rfl | rfl | rfl | rfl | rfl
  · exact (Array.getElem?_eq_some_iff.1 h.hy).1
  · exact (Array.getElem?_eq_some_iff.1 h.hlf).1
  · exact (Array.getElem?_eq_some_iff.1 h.hla).1
  · exact h.hkb.lt
  · exact h.hD.lt
  · exact h.hL.lt
theorem Six.looped {W y lf la kb D L l left q c rc} (h : Six W y lf la kb D L l left q c rc) (h1 : y ≠ L) (h2 : lf ≠ L) (h3 : la ≠ L) (h4 : kb ≠ L) (h5 : D ≠ L) (r : Loop) : Six (W.putObj L (.loop r)) y lf la kb D L l left q c r :=
  ⟨(World.putObj_heap_other h1).trans h.hy, (World.putObj_heap_other h2).trans h.hlf, (World.putObj_heap_other h3).trans h.hla, (World.putObj_heap_other h4).trans h.hkb, h.hL.put r, (World.putObj_heap_other h5).trans h.hD⟩
/-- The last one, and how many are left, are set. -/
theorem Six.step {W y lf la kb D L l left q c rc} (h : Six W y lf la kb D L l left q c rc) (h1 : y < lf) (h2 : lf < la) (h3 : la < kb) (h4 : kb < D) (h5 : D < L) (left' q' : Nat) :
    Six ((W.setCell ⟨la, 0, none⟩ (.int .u64 (q' : Int))).setCell ⟨lf, 0, none⟩ (.int .u64 (left' : Int))) y lf la kb D L l left' q' c rc := by
  have k : Kept (fun x => x = la ∨ x = lf) W ((W.setCell ⟨la, 0, none⟩ (.int .u64 (q' : Int))).setCell ⟨lf, 0, none⟩ (.int .u64 (left' : Int))) := ((Kept.refl _ W).setCell (fun _ => Or.inl rfl) _).setCell (fun _ => Or.inr rfl) _
  refine ⟨(k.block y (Array.getElem?_eq_some_iff.1 h.hy).1 (by omega)).trans h.hy, ?_, ?_, h.hkb.kept k (by omega), h.hL.kept k (by omega), h.hD.kept k (by omega)⟩
  · exact heap_set ((((Kept.refl (fun x => x = la) W).setCell (p := ⟨la, 0, none⟩) (fun _ => rfl) _).block lf (Array.getElem?_eq_some_iff.1 h.hlf).1 (by omega)).trans h.hlf) 0 _
  · have h7 := heap_set h.hla 0 (.int .u64 (q' : Int))
    exact (((Kept.refl (fun x => x = lf) _).setCell (p := ⟨lf, 0, none⟩) (fun _ => rfl) _).block la (Array.getElem?_eq_some_iff.1 h7).1 (by omega)).trans h7
theorem cell_of {W : World} {k : Nat} {v : Value} {t : TypeId} (h : W.heap[k]? = some (.cells #[v] t (0, 0))) : W.cell? ⟨k, 0, none⟩ = some v := by simp [World.cell?, h]
theorem frozen_of {W : World} {k : Nat} {cs : Array Value} {t : TypeId} (h : W.heap[k]? = some (.cells cs t (0, 0))) : W.frozen? ⟨k, 0, none⟩ = false := by simp [World.frozen?, h]

theorem heap_new2 (w : World) (A B : Obj) : ((w.alloc A).alloc B).heap[w.heap.size + 1]? = some B := by
  have := heap_new (w.alloc A) B
  rwa [World.size_alloc] at this

/-- Between two rounds of All's own walk. -/
def AllJ (K : Nat → Nat → Nat → (Nat → Nat) → (Nat → Prop) → World → Prop) (N l c y lf la kb D L : Nat) (rc : LoopState → Option Code → Loop) (m p : Nat) (f : Nat → Nat) (S' : Nat → Prop) (W : World) : Prop :=
  ∃ i q S, m + i = N ∧ K i q p f S W ∧ Six W y lf la kb D L l m q c (rc .ready none) ∧ (∀ x, S x → ¬ six y lf la kb D L x) ∧ S' = fun x => S x ∨ six y lf la kb D L x
/-- Behind a round that has left it. -/
def AllX (K : Nat → Nat → Nat → (Nat → Nat) → (Nat → Prop) → World → Prop) (Kx : (Nat → Prop) → World → Prop) (N base D L : Nat) (rc : LoopState → Option Code → Loop) (W : World) : Prop :=
  RecAt W L (rc .done (some (.exit 0))) ∧ DefAt W D ∧ ((∃ i q p f S, K i q p f S W ∧ i ≤ N ∧ (pv base f p ≠ q ∨ i = N) ∧ ¬ S D ∧ ¬ S L) ∨ ∃ S, Kx S W ∧ ¬ S D ∧ ¬ S L)

theorem All1_any (k l c b : Nat) (ao : Option Nat) (base R lim n o : Nat) (ho : o ≤ 8) (hR : R = 4096 * 2 ^ o) (B : Nat) (K : Nat → Nat → Nat → (Nat → Nat) → (Nat → Prop) → World → Prop) (Kx : (Nat → Prop) → World → Prop)
    (hK1 : ∀ i q p f S W, K i q p f S W → p < 18446744073709551616 ∧ q < 18446744073709551616 ∧ (∃ hd, LS W c b ao base R lim n f hd) ∧ (∀ x, S x → x < W.heap.size) ∧ PtrB W k c)
    (hK2 : ∀ i q p f S T W W', K i q p f S W → Kept T W W' → (∀ x, T x → B ≤ x ∧ ¬ S x) → K i q p f S W')
    (hX2 : ∀ S T W W', Kx S W → Kept T W W' → (∀ x, T x → B ≤ x ∧ ¬ S x) → Kx S W')
    (hY : ∀ i q p f S W, K i q p f S W → i < n / 16 → p ≠ 0 → In base n p 16 → pv base f p = q → YieldAt Fence.wide 0 Try.prog l #[.int .u64 (p : Int)] W fun e W' =>
      (e = .returned (.bool true) ∧ ∃ f' S', K (i + 1) p (nx base f p) f' S' W' ∧ Kept S W W' ∧ ∀ x, S' x → S x ∨ W.heap.size ≤ x) ∨
      (e = .returned (.bool false) ∧ ∃ S', Kx S' W' ∧ Kept S W W' ∧ ∀ x, S' x → S x ∨ W.heap.size ≤ x))
    (hd : Nat) (f : Nat → Nat) (S : Nat → Prop) (w : World) (hB : B ≤ w.heap.size) (h : LS w c b ao base R lim n f hd) (h0 : K 0 0 hd f S w) :
    Calls Try.prog 66 #[.func (.yield l) #[] #[], .pointer (some ⟨k, 0, none⟩)] w fun e W' => (∃ v, e = .returned v) ∧
      ((∃ i q p f S, K i q p f S W' ∧ i ≤ n / 16 ∧ (p = 0 ∨ ¬ In base n p 16 ∨ pv base f p ≠ q ∨ i = n / 16)) ∨ ∃ S, Kx S W') := by
  have A := hid (fun w' (kk : Kept none' w w') => committed_any b ao base R lim n f o ho hR w' (h.keep kk).s)
  have HH := hid h
  have H0 := hid h0
  have HK1 := hid hK1
  have HK2 := hid hK2
  have HX2 := hid hX2
  have HY := hid hY
  have hn : n ≤ 4194304 := Nat.le_trans h.s.nle h.s.cfg.lr
  obtain ⟨N, hN⟩ : ∃ N, N = n / 16 := ⟨_, rfl⟩
  have HN := hid (show (n : Int) / 16 = (N : Int) by rw [hN]; simp)
  have hNl : N ≤ 4194304 := by omega
  rw [← hN] at HY ⊢
  have hSlt := (hK1 _ _ _ _ _ _ h0).2.2.2.1
  have hPk := (hK1 _ _ _ _ _ _ h0).2.2.2.2
  have HP := hid hPk
  clear hK1 hK2 hX2 hY h0 hN h
  have hk0 := (hPk.keep ((Kept.refl none' w).alloc (.cells #[.func (.yield l) #[] #[]] 117))).c0
  have hc0 := (HH.out.l.keep ((Kept.refl none' w).alloc (.cells #[.func (.yield l) #[] #[]] 117))).c0
  clear hPk
  refine calls_marks Try.func66 rfl ?_
  simp only [Try.ntmps66, List.size_toArray, List.length_cons, List.length_nil, Nat.reduceAdd, Nat.reduceSub, Array.replicate_succ, Array.replicate_zero, List.push_toArray, List.append_toArray, List.nil_append, List.cons_append]
  go_wp2_with fail
  apply wp_scope_straight
  go_wp2_with fail
  refine (A.out _ ((Kept.refl none' w).alloc _)).mono ?_
  rintro e w1 ⟨rfl, k1⟩
  have hk1 := (HP.out.keep (none_trans ((Kept.refl none' w).alloc (.cells #[.func (.yield l) #[] #[]] 117)) k1)).keep (((Kept.refl none' w1).alloc (.cells #[.int .u64 (N : Int)] 24)).alloc (.cells #[.int .u64 0] 24))
  have hk1 := hk1.c0
  clear hk0 hc0
  go_wp2_with fail
  rw [HN.out]
  apply wp_label
  go_wp2_with fail
  refine (chain_any c _).mono ?_
  rintro e w2 ⟨rfl, hw2⟩
  rw [World.size_alloc, World.size_alloc]
  have KW := hid (show Kept none' w w2 by rw [hw2]; exact (((none_trans ((Kept.refl none' w).alloc _) k1).alloc _).alloc _).alloc _)
  have F1 := hid (show w2.heap[w.heap.size]? = some (.cells #[.func (.yield l) #[] #[]] 117 (0, 0)) by
    have hlt : w.heap.size < w1.heap.size := by have := k1.size; simp at this; omega
    rw [hw2, Below.heap_alloc _ _ _ (by simp; omega), Below.heap_alloc _ _ _ (by simp; omega), Below.heap_alloc _ _ _ (by omega)]
    exact (k1.block _ (by simp) (fun x => x)).trans (heap_new _ _))
  have F2 := hid (show w2.heap[w1.heap.size]? = some (.cells #[.int .u64 (N : Int)] 24 (0, 0)) by
    rw [hw2, Below.heap_alloc _ _ _ (by simp; omega), Below.heap_alloc _ _ _ (by simp)]
    exact heap_new _ _)
  have F3 := hid (show w2.heap[w1.heap.size + 1]? = some (.cells #[.int .u64 ((0 : Nat) : Int)] 24 (0, 0)) by
    rw [hw2, Below.heap_alloc _ _ _ (by simp)]
    exact heap_new2 _ _ _)
  have F4 := hid (show PtrB w2 (w1.heap.size + 2) c by
    rw [hw2]
    have := heap_new ((w1.alloc (.cells #[.int .u64 (N : Int)] 24)).alloc (.cells #[.int .u64 0] 24)) (.cells #[.pointer (some ⟨c, 0, none⟩)] 72)
    rw [World.size_alloc, World.size_alloc] at this
    exact this)
  have hz2 : w2.heap.size = w1.heap.size + 3 := by rw [hw2]; simp
  have hz1 : w.heap.size < w1.heap.size := by have := k1.size; simp at this; omega
  have H2 := hid (HH.out.keep KW.out)
  have K2 := hid (HK2.out _ _ _ _ _ _ _ _ H0.out KW.out (fun x hx => hx.elim))
  clear hk1 k1 hw2 A
  generalize w1.heap.size = z at *
  go_wp2_with fail
  refine wp_range (gf := 92) (lb := #[.pointer (some ⟨z + 2, 0, none⟩)]) rfl (enters_of Try.func92 (by kernel_rfl) rfl) ?_
  intro fn rc hrc
  have HRC := hid hrc
  clear hrc
  rw [hz2]
  obtain ⟨W3, hW3⟩ : ∃ W3, W3 = (w2.alloc (.deferred (some []))).alloc (.loop (rc .ready none)) := ⟨_, rfl⟩
  have KW3 := hid (show Kept none' w2 W3 by rw [hW3]; exact ((Kept.refl none' w2).alloc _).alloc _)
  have X6 := hid (show Six W3 w.heap.size z (z + 1) (z + 2) (z + 3) (z + 4) l N 0 c (rc .ready none) from by
    refine ⟨?_, ?_, ?_, F4.out.keep KW3.out, ?_, ?_⟩
    · exact (KW3.out.block _ (by omega) (fun x => x)).trans F1.out
    · exact (KW3.out.block _ (by omega) (fun x => x)).trans F2.out
    · exact (KW3.out.block _ (by omega) (fun x => x)).trans F3.out
    · rw [hW3]
      have := heap_new2 w2 (.deferred (some [])) (.loop (rc .ready none))
      rw [hz2] at this
      exact this
    · rw [hW3]
      have := (Below.heap_alloc (w2.alloc (.deferred (some []))) (.loop (rc .ready none)) w2.heap.size (by simp)).trans (heap_new w2 _)
      rw [hz2] at this
      exact this)
  rw [← hW3]
  have hS6 : ∀ x, S x → ¬ six w.heap.size z (z + 1) (z + 2) (z + 3) (z + 4) x := fun x hx h6 => by
    have := hSlt x hx
    unfold six at h6
    omega
  have J0 := hid (show AllJ K N l c w.heap.size z (z + 1) (z + 2) (z + 3) (z + 4) rc N hd f (fun x => S x ∨ six w.heap.size z (z + 1) (z + 2) (z + 3) (z + 4) x) W3 from
    ⟨0, 0, S, rfl, HK2.out _ _ _ _ _ _ _ _ K2.out KW3.out (fun x hx => hx.elim), X6.out, hS6, rfl⟩)
  have HB := hid (show ∀ x, six w.heap.size z (z + 1) (z + 2) (z + 3) (z + 4) x → B ≤ x from fun x hx => by unfold six at hx; omega)
  have HNE := hid (show ∀ x, x ≠ z → x ≠ z + 1 → x ≠ z + 4 → six w.heap.size z (z + 1) (z + 2) (z + 3) (z + 4) x → x ≠ z ∧ x ≠ z + 1 ∧ x ≠ z + 4 from fun x h1 h2 h3 _ => ⟨h1, h2, h3⟩)
  have HY1 := hid (show w.heap.size < z from hz1)
  refine (chain1_any (z + 2) (z + 4) c b ao base R lim n (AllJ K N l c w.heap.size z (z + 1) (z + 2) (z + 3) (z + 4) rc) (AllX K Kx N base (z + 3) (z + 4) rc) ?hJ ?hK ?hY N hd f _ W3 (H2.out.keep KW3.out) J0.out).mono ?hend
  case hJ =>
    rintro m p f' S' W ⟨i, q, S, hmi, hk, h6, hS, rfl⟩
    obtain ⟨h1, h2, h3, h4, h5⟩ := HK1.out _ _ _ _ _ _ hk
    refine ⟨h1, h6.hkb, h3, ?_⟩
    rintro x (hx | hx)
    · exact h4 x hx
    · exact h6.lt x hx
  case hK =>
    rintro m p f' S' W W' ⟨i, q, S, hmi, hk, h6, hS, rfl⟩ hKK
    exact ⟨i, q, S, hmi, HK2.out _ _ _ _ _ _ _ _ hk hKK (fun x hx => hx.elim), h6.kept hKK (fun _ _ x => x), hS, rfl⟩
  case hend =>
    rintro e W' ⟨hv, hq⟩
    refine ⟨hv, ?_⟩
    rcases hq with ⟨m, p, f', S', ⟨i, q, S, hmi, hk, h6, hS, rfl⟩, hp⟩ | ⟨hr, hD, hx⟩
    · refine ⟨.ready, none, by simp, h6.hL, fun _ => ?_, fun c hc => by cases hc⟩
      have hD := h6.hD
      have hD2 : DefAt (W'.putObj (z + 4) (.loop (rc .exhausted none))) (z + 3) := (World.putObj_heap_other (by omega)).trans hD
      have HF := hid (show ∃ i q p f S, K i q p f S ((W'.putObj (z + 4) (.loop (rc .exhausted none))).putObj (z + 3) (.deferred none)) ∧ i ≤ N ∧ (p = 0 ∨ ¬ In base n p 16 ∨ pv base f p ≠ q ∨ i = N) from by
        refine ⟨i, q, p, f', S, HK2.out _ _ _ _ _ (fun x => x = z + 3 ∨ x = z + 4) _ _ hk ((((Kept.refl _ W').putObj (fun _ => Or.inr rfl) _)).putObj (fun _ => Or.inl rfl) _) ?_, by omega, ?_⟩
        · rintro x (rfl | rfl)
          · exact ⟨HB.out _ (by unfold six; omega), fun hs => hS _ hs (by unfold six; omega)⟩
          · exact ⟨HB.out _ (by unfold six; omega), fun hs => hS _ hs (by unfold six; omega)⟩
        · rcases hp with hp | hp
          · exact .inl hp
          · exact .inr (.inl hp))
      clear hk h6 hS hp
      go_wp2_with fail
      refine ⟨by simp, .inl ⟨_, _, rfl, run_takeDeferred hD2, ?_⟩⟩
      exact ⟨_, results_none rfl _ _ _, ⟨_, rfl⟩, .inl HF.out⟩
    · refine ⟨.done, some (.exit 0), by simp, hr, fun h => (by cases h), fun c hc => ?_⟩
      cases hc
      have hD2 : DefAt (W'.putObj (z + 4) (.loop (rc .exhausted (some (.exit 0))))) (z + 3) := (World.putObj_heap_other (by omega)).trans hD
      have hkk : Kept (fun x => x = z + 3 ∨ x = z + 4) W' ((W'.putObj (z + 4) (.loop (rc .exhausted (some (.exit 0))))).putObj (z + 3) (.deferred none)) := ((Kept.refl _ W').putObj (fun _ => Or.inr rfl) _).putObj (fun _ => Or.inl rfl) _
      have HF := hid (show (∃ i q p f S, K i q p f S ((W'.putObj (z + 4) (.loop (rc .exhausted (some (.exit 0))))).putObj (z + 3) (.deferred none)) ∧ i ≤ N ∧ (p = 0 ∨ ¬ In base n p 16 ∨ pv base f p ≠ q ∨ i = N)) ∨ ∃ S, Kx S ((W'.putObj (z + 4) (.loop (rc .exhausted (some (.exit 0))))).putObj (z + 3) (.deferred none)) from by
        rcases hx with ⟨i, q, p, f', S, hk, hi, hp, hsd, hsl⟩ | ⟨S, hk, hsd, hsl⟩
        · refine .inl ⟨i, q, p, f', S, HK2.out _ _ _ _ _ _ _ _ hk hkk ?_, hi, .inr (.inr hp)⟩
          rintro x (rfl | rfl)
          · exact ⟨HB.out _ (by unfold six; omega), hsd⟩
          · exact ⟨HB.out _ (by unfold six; omega), hsl⟩
        · refine .inr ⟨S, HX2.out _ _ _ _ hk hkk ?_⟩
          rintro x (rfl | rfl)
          · exact ⟨HB.out _ (by unfold six; omega), hsd⟩
          · exact ⟨HB.out _ (by unfold six; omega), hsl⟩)
      clear hx hkk
      go_wp2_with fail
      refine ⟨by simp, .inl ⟨_, _, rfl, run_takeDeferred hD2, ?_⟩⟩
      exact ⟨_, results_none rfl _ _ _, ⟨_, rfl⟩, HF.out⟩
  case hY =>
    rintro m p f' S' W ⟨i, q, S, hmi, hk, h6, hS, rfl⟩ hp0 hin
    have hL := h6.hL
    rw [HRC.out] at hL
    have hp64 := (HK1.out _ _ _ _ _ _ hk).1
    have hq64 := (HK1.out _ _ _ _ _ _ hk).2.1
    have hSl := (HK1.out _ _ _ _ _ _ hk).2.2.2.1
    refine yield_round hL rfl ?_
    rw [← HRC.out]
    clear hL
    have H6 := hid h6
    have HK := hid hk
    have HSl := hid hSl
    have HS := hid hS
    clear h6 hk hSl hS
    have HHS := hid (show ∀ x, S x → x ≠ z + 4 from fun x hx e => HS.out x hx (by unfold six; omega))
    gi_wp2_with fail
    refine ⟨H6.out.hL.kept ((Kept.refl none' W).alloc _) (fun x => x), ?_⟩
    obtain ⟨W2, hW2⟩ : ∃ W2, W2 = (W.alloc (.cells #[.int .u64 (nx base f' p : Int), .int .u64 (pv base f' p : Int)] 123)).putObj (z + 4) (.loop (rc .busy none)) := ⟨_, rfl⟩
    have hLW := H6.out.hL.lt
    have KW2 := hid (show Kept (fun x => x = z + 4) W W2 by rw [hW2]; exact ((Kept.refl (fun x => x = z + 4) W).alloc _).putObj (fun _ => rfl) _)
    have X2 := hid (show Six W2 w.heap.size z (z + 1) (z + 2) (z + 3) (z + 4) l m q c (rc .busy none) by
      rw [hW2]
      exact (H6.out.kept ((Kept.refl none' W).alloc _) (fun _ _ x => x)).looped (by omega) (by omega) (by omega) (by omega) (by omega) _)
    have P2 := hid (show PairB W2 W.heap.size (nx base f' p) (pv base f' p) by
      rw [hW2]
      exact (World.putObj_heap_other (by omega)).trans (PairB.box _ _))
    have KK2 := hid (HK2.out _ _ _ _ _ _ _ _ HK.out KW2.out (fun x hx => by subst hx; exact ⟨HB.out _ (by unfold six; omega), fun hs => HHS.out _ hs rfl⟩))
    have hc1 := P2.out.c1
    have hc2 := cell_of X2.out.hla
    have hc3 := cell_of X2.out.hlf
    have hc4 := cell_of X2.out.hy
    have hm64 : m ≤ 4194304 := by omega
    rw [← hW2]
    clear hW2 hLW
    have HD := hid (show ¬ S (z + 3) from fun hs => HS.out _ hs (by unfold six; omega))
    have HL4 := hid (show ¬ S (z + 4) from fun hs => HS.out _ hs (by unfold six; omega))
    have HOUT := hid (show (pv base f' p ≠ q ∨ i = N) → AllX K Kx N base (z + 3) (z + 4) rc (W2.putObj (z + 4) (.loop (rc .done (some (.exit 0))))) from fun hor => by
      refine ⟨X2.out.hL.put _, (World.putObj_heap_other (by omega)).trans X2.out.hD, .inl ⟨i, q, p, f', S, HK2.out _ _ _ _ _ (fun x => x = z + 4) _ _ KK2.out ((Kept.refl (fun x => x = z + 4) W2).putObj (fun _ => rfl) _) ?_, by omega, hor, HD.out, HL4.out⟩⟩
      rintro x rfl
      exact ⟨HB.out _ (by unfold six; omega), HL4.out⟩)
    obtain ⟨y, hy⟩ : ∃ y, y = pv base f' p := ⟨_, rfl⟩
    rw [← hy] at hc1
    by_cases hyq : y = q
    · have hyqi : ((y : Int) == (q : Int)) = true := beq_iff_eq.2 (by omega)
      by_cases hm0 : m = 0
      · have hm0i : ((m : Int) == 0) = true := beq_iff_eq.2 (by omega)
        have hi : i = N := by omega
        have HI := hid hi
        clear hi hy
        gi_wp2_with fail
        exact ⟨X2.out.hL, .inr ⟨rfl, HOUT.out (.inr HI.out)⟩⟩
      · have hm0i : ((m : Int) == 0) = false := beq_eq_false_iff_ne.2 (by omega)
        have hY := HY.out i q p f' S W2 KK2.out (by omega) hp0 hin (by rw [← hy]; exact hyq)
        obtain ⟨fn', tmps', assign', body', hyr, hR'⟩ := hY
        obtain ⟨m', rfl⟩ : ∃ m', m = m' + 1 := ⟨m - 1, by omega⟩
        clear hy
        gi_wp2_with fail
        refine ⟨rfl, ?_⟩
        refine RoundIn.mono (F := Fence.wide.inRound (z + 4)) hR' ?_
        rintro e W3 (⟨rfl, f2, S2, hk3, hkk, hs⟩ | ⟨rfl, S2, hx3, hkk, hs⟩)
        · have X3 := hid (X2.out.kept hkk (fun x hx hsx => HS.out x hsx hx))
          have HK3 := hid hk3
          have HKK := hid hkk
          have HSS := hid (show ∀ x, S2 x → ¬ six w.heap.size z (z + 1) (z + 2) (z + 3) (z + 4) x from fun x hx h6x => by
            rcases hs x hx with h1 | h1
            · exact HS.out x h1 h6x
            · have := X2.out.lt x h6x
              omega)
          have hd1 := cell_of X3.out.hla
          have hd2 := frozen_of X3.out.hla
          have hd3 := cell_of X3.out.hlf
          have hd4 := frozen_of X3.out.hlf
          have k5 : Kept (fun x => x = z + 1) W3 (W3.setCell ⟨z + 1, 0, none⟩ (.int .u64 (p : Int))) := (Kept.refl (fun x => x = z + 1) W3).setCell (fun _ => rfl) _
          have hd5 := k5.cell (p := ⟨z, 0, none⟩) (by simp) hd3
          clear hk3 hkk hs hR' hyr k5 hc1 hc2 hc3 hc4
          gi_wp2_with fail
          have X4 := X3.out.step HY1.out (by omega) (by omega) (by omega) (by omega) m' p
          have k6 : Kept (six w.heap.size z (z + 1) (z + 2) (z + 3) (z + 4)) W3 (((W3.setCell ⟨z + 1, 0, none⟩ (.int .u64 (p : Int))).setCell ⟨z, 0, none⟩ (.int .u64 (m' : Int))).putObj (z + 4) (.loop (rc .ready none))) :=
            (((Kept.refl _ W3).setCell (fun _ => by unfold six; simp) _).setCell (fun _ => by unfold six; simp) _).putObj (fun _ => by unfold six; simp) _
          refine ⟨X4.hL, .inl ⟨rfl, ⟨m', by omega, f2, _, i + 1, p, S2, by omega, HK2.out _ _ _ _ _ _ _ _ HK3.out k6 (fun x hx => ⟨HB.out x hx, fun h => HSS.out x h hx⟩), X4.looped (by omega) (by omega) (by omega) (by omega) (by omega) _, HSS.out, rfl⟩, ?_⟩⟩
          refine ((KW2.out.trans (U := fun x => S x ∨ six w.heap.size z (z + 1) (z + 2) (z + 3) (z + 4) x) HKK.out (fun x _ hx => .inr (by subst hx; unfold six; simp)) (fun x _ hx => .inl hx))).trans k6 (fun x _ hx => hx) (fun x _ hx => .inr hx)
        · have X3 := hid (X2.out.kept hkk (fun x hx hsx => HS.out x hsx hx))
          have HX3 := hid hx3
          have HSS := hid (show ∀ x, S2 x → ¬ six w.heap.size z (z + 1) (z + 2) (z + 3) (z + 4) x from fun x hx h6x => by
            rcases hs x hx with h1 | h1
            · exact HS.out x h1 h6x
            · have := X2.out.lt x h6x
              omega)
          clear hx3 hkk hs hR' hyr hc1 hc2 hc3 hc4
          gi_wp2_with fail
          refine ⟨X3.out.hL, .inr ⟨rfl, X3.out.hL.put _, (World.putObj_heap_other (by omega)).trans X3.out.hD, .inr ⟨S2, HX2.out _ (fun x => x = z + 4) _ _ HX3.out ((Kept.refl (fun x => x = z + 4) W3).putObj (fun _ => rfl) _) ?_, fun h => HSS.out _ h (by unfold six; omega), fun h => HSS.out _ h (by unfold six; omega)⟩⟩⟩
          rintro x rfl
          exact ⟨HB.out _ (by unfold six; omega), fun h => HSS.out _ h (by unfold six; omega)⟩
    · have hyqi : ((y : Int) == (q : Int)) = false := beq_eq_false_iff_ne.2 (by omega)
      have HYQ := hid (show pv base f' p ≠ q by rw [← hy]; exact hyq)
      clear hyq hy
      gi_wp2_with fail
      exact ⟨X2.out.hL, .inr ⟨rfl, HOUT.out (.inl HYQ.out)⟩⟩
end Go.Proofs.Ythglogiglimebaa.M
