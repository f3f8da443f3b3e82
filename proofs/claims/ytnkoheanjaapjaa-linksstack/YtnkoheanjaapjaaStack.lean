/- LinksStack: the walk. -/
import Derived.Test.YtnkoheanjaapjaaArgs
namespace Go.Proofs.Ytnkoheanjaapjaa
open Go.RowKit Go.Shelf
set_option linter.unusedVariables false

/-- Cells that were never on the list hold 0. -/
def Zer (f : Nat → Nat) (es : List Nat) : Prop := ∀ x, IsCell x → x ∉ es → nx 4096 f x = 0 ∧ pv 4096 f x = 0
theorem Zer.step {f f' : Nat → Nat} {es es' xs : List Nat} (h : Zer f es) (hs : Same f f' xs) (h1 : ∀ x ∈ es, x ∈ es') (h2 : ∀ x ∈ xs, x ∈ es') : Zer f' es' := fun x hx hn => by
  have := hs x hx (fun hm => hn (h2 x hm))
  rw [this.1, this.2]
  exact h x hx (fun hm => hn (h1 x hm))
theorem Zer.new : Zer (fun _ => 0) [] := fun x _ _ => by
  have hw : ∀ o, word (fun _ => 0) o = 0 := fun o => by simp [word, wordTo]
  exact ⟨hw _, hw _⟩
theorem cellA_cell (i : Int) : IsCell (cellA i) := cellA_bounds i

/-- What stands between two moves. -/
structure Stk (B : Nat) (w : World) (c b g : Nat) (i : Nat) (wv ev : Value) (wr : World) : Prop where
  k : Kept (from' B) w wr
  ex : ∃ f hd xs es, LS wr c b (some g) 4096 4096 1 4096 f hd ∧ Chn f hd xs ∧ Lst wr wv xs ∧ Lst wr ev es ∧ (∀ x ∈ xs, x ∈ es) ∧ es.length ≤ i ∧ Zer f es ∧
    (∀ r, wv.ownBlock = some r → B ≤ r) ∧ (∀ r, ev.ownBlock = some r → B ≤ r) ∧ (∀ r, wv.ownBlock = some r → ev.ownBlock ≠ some r)

set_option maxHeartbeats 2000000 in
set_option maxRecDepth 3000 in
theorem stack_any (v : Value) (m : Nat) (w : World) (hM : Moves w v m) :
    Calls Try.prog 5 #[v] w fun e w' => e = .returned (.bool true) ∧ Kept none' w w' := by
  obtain ⟨hm63, oa, oc, rfl, hmv⟩ := hM
  have HMV := hid hmv
  clear hmv
  go_enter Try.func5, Try.ntmps5
  go_wp2_with fail
  refine (small_any _).mono ?_
  rintro e w1 ⟨b, g, rfl, hS, hK, hb, hg⟩
  have HS := hid hS
  have K1 := hid (fresh_none (B := w.heap.size) hK)
  have HB := hid hb
  have HG := hid hg
  clear hS hK hb hg
  go_wp2_with fail
  refine (lives_any _).mono ?_
  rintro e w2 ⟨rfl, hK⟩
  have HS2 := hid (HS.out.keep hK)
  have K2 := hid (K1.out.then' (fresh_none hK))
  clear hK HS K1
  go_wp2_with fail
  refine (newList_any b 0 (by decide) _).mono ?_
  rintro e w3 ⟨c, rfl, hL, hK, hc⟩
  have HC := hid (show w.heap.size ≤ c from Nat.le_trans K2.out.size hc)
  have H0 := hid (show Stk w.heap.size w c b g 0 (.slice none 0 0) (.slice none 0 0) w3 from
    ⟨K2.out.then' (fresh_none hK), fun _ => 0, 0, [], [], ⟨HS2.out.keep hK, hL⟩, Chn.nil _, Lst.nil _, Lst.nil _, fun _ h => h, Nat.le_refl _, Zer.new, fun r h => (by cases h), fun r h => (by cases h), fun r h => (by cases h)⟩)
  clear hL hK hc HS2 K2
  go_wp2_with fail
  obtain ⟨M6, hM6⟩ : ∃ M6 : Nat, M6 = 600 := ⟨_, rfl⟩
  have HM6 := hid hM6
  clear hM6
  go_loopw [5, 6, 7] (fun wv ev i wr => ∃ k : Nat, k ≤ m ∧ k ≤ M6 ∧ i = .int .i64 k ∧ Stk w.heap.size w c b g k wv ev wr) (fun _ _ i _ => m - (intOf i).toNat)
  case atStart => exact ⟨0, by omega, by omega, rfl, H0.out⟩
  case round =>
    clear H0
    obtain ⟨k, hk, hk6, rfl, hst⟩ := hrel
    have HST := hid hst
    clear hst
    by_cases hlt : k < m ∧ k < M6
    · obtain ⟨bl, o, rfl, hbl, hrow⟩ := HMV.out.resolve_left (by omega)
      obtain ⟨op, ce, hop, hce, hc0, hc1⟩ := hrow k hlt.1
      have hkept := HST.out.k
      have hcA := hkept.cell (p := ⟨bl, o + k * 2 + 0, none⟩) (fun h => by unfold from' at h; simp at h; omega) hc0
      have hcB := hkept.cell (p := ⟨bl, o + k * 2 + 1, none⟩) (fun h => by unfold from' at h; simp at h; omega) hc1
      rw [Nat.add_zero] at hcA
      have hki : (k : Int) < (m : Int) := by omega
      have hk6i : (k : Int) < 600 := by have := HM6.out; omega
      have h3 := and_3 op
      obtain ⟨x, hx⟩ : ∃ x : Nat, op % 4 = (x : Int) := ⟨(op % 4).toNat, by omega⟩
      rw [hx] at h3
      obtain ⟨p, hp⟩ : ∃ p, p = cellA ce := ⟨_, rfl⟩
      have HP := hid (show IsCell p by rw [hp]; exact cellA_cell ce)
      have hp64 := HP.out.lt
      have A := hid (cell_any ce hce.1 hce.2)
      rw [← hp] at A
      clear hx hp
      have HOP := hid hop
      have HM63 := hid hm63
      have HLT := hid hlt
      have HK6 := hid hk6
      clear hc0 hc1 hrow hkept hop hce hm63 hlt hk6
      go_wp2_with fail
      refine (A.out _).mono ?_
      rintro e w4 ⟨rfl, hw⟩
      subst hw
      by_cases hx3 : x = 3
      · have hx3i : ((x : Int) == 3) = true := beq_iff_eq.2 (by omega)
        obtain ⟨f, hd, xs, es, hLS, hC, hW, hE, hsub, hlen, hz, hwr, her, hdis⟩ := HST.out.ex
        have A2 := hid (Pop_any c b (some g) 4096 4096 1 4096 f hd w4 hLS)
        have HLS := hid hLS
        have HCH := hid hC
        have HW := hid hW
        have HE := hid hE
        have HSUB := hid hsub
        have HLEN := hid hlen
        have HZ := hid hz
        have HWR := hid hwr
        have HER := hid her
        have HDIS := hid hdis
        obtain ⟨-, ao, ac, hu5, hne, hcell⟩ := hW.wds
        have hxl := hC.len
        clear hLS hC hW hE hsub hlen hz hwr her hdis
        by_cases h0 : xs = []
        · have hp0 := HCH.out.popNil h0
          have hd0 : hd = 0 := HCH.out.zero.2 h0
          have A3 := hid (show Calls Try.prog 11 #[.pointer (some ⟨c, 0, none⟩)] w4 fun e w' => e = .returned (.tuple #[.int .u64 0, .int .i64 9]) ∧ LS w' c b (some g) 4096 4096 1 4096 f hd ∧ Kept (lown c b (some g)) w4 w' by
            have := A2.out
            rw [hp0] at this
            rw [hd0]
            exact this)
          have hl0 : xs.length = 0 := by rw [h0]; rfl
          rw [hl0] at hu5
          have H00 := hid h0
          obtain ⟨aa, haa⟩ : ∃ aa, aa = adr ao := ⟨_, rfl⟩
          rw [← haa] at hu5
          subst hu5
          clear hp0 hne hcell A2 haa hl0 h0 hd0
          go_wp2_with fail
          refine A3.out.mono ?_
          rintro e w5 ⟨rfl, h5, k5⟩
          have H5 := hid h5
          have K5 := hid k5
          clear h5 k5 hx3 hx3i h3 hki hxl hcA hcB hbl hp64
          go_wp2_with fail
          refine ⟨⟨k + 1, by have := HLT.out; omega, by have := HLT.out; omega, by simp, ?_⟩, by have := HLT.out; simp [intOf]; omega⟩
          exact ⟨HST.out.k.then' (fresh_lown K5.out HC.out HB.out HG.out), f, hd, xs, es, H5.out, HCH.out, HW.out.lown HLS.out K5.out, HE.out.lown HLS.out K5.out, HSUB.out, by have := HLEN.out; omega, HZ.out, HWR.out, HER.out, HDIS.out⟩
        · obtain ⟨ga, rfl⟩ := hne h0
          obtain ⟨hp1, hp2, hp3⟩ := HCH.out.popCons h0
          have hpos : 0 < xs.length := by
            cases xs with
            | nil => exact absurd rfl h0
            | cons y r => simp
          have hc5 := (hcell ga rfl).2.2 0 hpos
          have hd0 : hd ≠ 0 := fun e => h0 (HCH.out.zero.1 e)
          rw [show (popR 4096 4096 f hd).2.2.1 = xs.getD 0 0 by rw [hp1], show (popR 4096 4096 f hd).2.2.2 = 0 by rw [hp1]] at A2
          have HCH5 := hid hp2
          have HSM := hid hp3
          have hq64 := (HCH.out.cellD hpos).lt
          have D := hid (fun w' (hv : Wds w' u5 xs) => drop_any u5 xs (xs.getD 0 0) hq64 (by omega) w' hv)
          subst hu5
          unfold e64 at hc5
          rw [show adr (some ga) = some ⟨ga, 0, none⟩ from rfl] at HW HWR HDIS D ⊢
          have HSUB5 := hid (show ∀ x ∈ dropL xs (xs.getD 0 0), x ∈ es from fun x hx => HSUB.out x (mem_dropL hx))
          generalize (popR 4096 4096 f hd).1 = f5 at *
          generalize (popR 4096 4096 f hd).2.1 = hd5 at *
          generalize dropL xs (xs.getD 0 0) = xs5 at *
          generalize xs.getD 0 0 = q at *
          have hne0 : ¬ ((xs.length : Int) == 0) = true := by simp; exact h0
          have HXS := hid h0
          obtain ⟨L, hL⟩ : ∃ L, L = xs.length := ⟨_, rfl⟩
          have HLL := hid hL
          rw [← hL] at hxl hpos HW HWR HDIS D ⊢
          have hL0 : ((L : Int) == 0) = false := beq_eq_false_iff_ne.2 (by omega)
          have hL1 : (0 : Int) < (L : Int) := by omega
          clear hp1 hp2 hp3 hcell hne h0 hd0 hne0 hL
          go_wp2_with fail
          refine A2.out.mono ?_
          rintro e w5 ⟨rfl, h5, k5⟩
          have hW5 := HW.out.lown HLS.out k5
          have hc6 := k5.cell (p := ⟨ga, 0, none⟩) (HW.out.apart rfl HLS.out) hc5
          have HLS5 := hid h5
          have K5 := hid (HST.out.k.then' (fresh_lown k5 HC.out HB.out HG.out))
          have HW5 := hid hW5
          have HE5 := hid (HE.out.lown HLS.out k5)
          clear h5 k5 hW5 hc5
          go_wp2_with fail
          refine (D.out _ HW5.out.wds).mono ?_
          rintro e w6 ⟨v6, rfl, hv, hk, hr⟩
          have HLS6 := hid (HLS5.out.keep hk)
          have K6 := hid (K5.out.then' (fresh_none hk))
          have HW6 := hid hv
          have HE6 := hid (HE5.out.keep hk)
          have HR6 := hid hr
          have HE5b := hid (fun r (h : u6.ownBlock = some r) => show r < w5.heap.size from HE5.out.wds.lt h)
          clear hv hk hr
          go_wp2_with fail
          refine (held_true c b g _ _ _ _ _ HLS6.out HCH5.out HW6.out.wds).mono ?_
          rintro e w9 ⟨rfl, hK⟩
          have K9 := hid hK
          clear hK
          go_wp2_with fail
          refine ⟨⟨k + 1, by have := HLT.out; omega, by have := HLT.out; omega, by simp, ?_⟩, by have := HLT.out; simp [intOf]; omega⟩
          exact ⟨K6.out.then' (fresh_none K9.out), _, _, _, _, HLS6.out.keep K9.out, HCH5.out, HW6.out.keep K9.out, HE6.out.keep K9.out, HSUB5.out, by have := HLEN.out; omega, HZ.out.step HSM.out (fun _ h => h) (fun x hx => HSUB.out x hx),
            fun r h => by have := HR6.out r h; have := K5.out.size; omega, HER.out, fun r h h2 => by have := HR6.out r h; have := HE5b.out r h2; omega⟩
      · have hx3i : ((x : Int) == 3) = false := beq_eq_false_iff_ne.2 (by omega)
        obtain ⟨f, hd, xs, es, hLS, hC, hW, hE, hsub, hlen, hz, hwr, her, hdis⟩ := HST.out.ex
        have HLS := hid hLS
        have HCH := hid hC
        have HW := hid hW
        have HE := hid hE
        have HSUB := hid hsub
        have HLEN := hid hlen
        have HZ := hid hz
        have HWR := hid hwr
        have HER := hid her
        have HDIS := hid hdis
        have hxl := hC.len
        have hel : es.length ≤ 600 := by have := HK6.out; have := HM6.out; omega
        clear hLS hC hW hE hsub hlen hz hwr her hdis
        go_wp2_with fail
        refine (has_any u5 xs p hp64 (by omega) _ HW.out.wds).mono ?_
        rintro e w5 ⟨rfl, hk⟩
        have HLS5 := hid (HLS.out.keep hk)
        have K5 := hid (HST.out.k.then' (fresh_none hk))
        have HW5 := hid (HW.out.keep hk)
        have HE5 := hid (HE.out.keep hk)
        clear hk HLS HW HE
        by_cases hpx : p ∈ xs
        · rw [decide_eq_true hpx]
          obtain ⟨j, hj, hjp⟩ := mem_getD hpx
          obtain ⟨hr1, hr2, hr3⟩ := HCH.out.remove j hj
          rw [hjp] at hr1 hr2 hr3
          have A2 := hid (Remove_any c b (some g) 4096 4096 1 4096 f hd p hp64 w5 HLS5.out)
          rw [hr1] at A2
          have HCH5 := hid hr2
          have HSM := hid hr3
          have D := hid (fun w' (hv : Wds w' u5 xs) => drop_any u5 xs p hp64 (by omega) w' hv)
          have HSUB5 := hid (show ∀ x ∈ dropL xs p, x ∈ es from fun x hx => HSUB.out x (mem_dropL hx))
          generalize (removeR 4096 4096 f hd p).1 = f5 at *
          generalize (removeR 4096 4096 f hd p).2.1 = hd5 at *
          generalize dropL xs p = xs5 at *
          clear hr1 hr2 hr3 hpx hj hjp
          go_wp2_with fail
          refine A2.out.mono ?_
          rintro e w6 ⟨rfl, h6, k6⟩
          have HW6 := hid (HW5.out.lown HLS5.out k6)
          have HE6 := hid (HE5.out.lown HLS5.out k6)
          have HLS6 := hid h6
          have K6 := hid (K5.out.then' (fresh_lown k6 HC.out HB.out HG.out))
          clear h6 k6 HLS5 HW5 HE5
          go_wp2_with fail
          refine (D.out _ HW6.out.wds).mono ?_
          rintro e w7 ⟨v7, rfl, hv, hk, hr⟩
          have HLS7 := hid (HLS6.out.keep hk)
          have K7 := hid (K6.out.then' (fresh_none hk))
          have HW7 := hid hv
          have HE7 := hid (HE6.out.keep hk)
          have HR7 := hid hr
          have HE7b := hid (fun r (h : u6.ownBlock = some r) => show r < w6.heap.size from HE6.out.wds.lt h)
          clear hv hk hr
          go_wp2_with fail
          refine (held_true c b g _ _ _ _ _ HLS7.out HCH5.out HW7.out.wds).mono ?_
          rintro e w9 ⟨rfl, hK⟩
          have K9 := hid hK
          clear hK
          go_wp2_with fail
          refine ⟨⟨k + 1, by have := HLT.out; omega, by have := HLT.out; omega, by simp, ?_⟩, by have := HLT.out; simp [intOf]; omega⟩
          exact ⟨K7.out.then' (fresh_none K9.out), _, _, _, _, HLS7.out.keep K9.out, HCH5.out, HW7.out.keep K9.out, HE7.out.keep K9.out, HSUB5.out, by have := HLEN.out; omega, HZ.out.step HSM.out (fun _ h => h) (fun x hx => HSUB.out x hx),
            fun r h => by have := HR7.out r h; have := K6.out.size; omega, HER.out, fun r h h2 => by have := HR7.out r h; have := HE7b.out r h2; omega⟩
        · rw [decide_eq_false hpx]
          obtain ⟨hr1, hr2, hr3⟩ := HCH.out.push p HP.out hpx
          have A2 := hid (Push_any c b (some g) 4096 4096 1 4096 f hd p hp64 w5 HLS5.out)
          rw [hr1] at A2
          have HCH5 := hid hr2
          have HSM := hid hr3
          generalize (pushR 4096 4096 f hd p).1 = f5 at *
          generalize (pushR 4096 4096 f hd p).2.1 = hd5 at *
          clear hr1 hr2 hr3 hpx
          go_wp2_with fail
          refine A2.out.mono ?_
          rintro e w6 ⟨rfl, h6, k6⟩
          have hW6 := HW5.out.lown HLS5.out k6
          have hE6 := HE5.out.lown HLS5.out k6
          have hK6 := K5.out.then' (fresh_lown k6 HC.out HB.out HG.out)
          have ka : Kept none' w6 (w6.alloc (.cells #[.int .u64 (p : Int)] 27)) := (Kept.refl none' w6).alloc _
          obtain ⟨v7, w7, hap, hL7, hk7, hr7, g7, cap7, hv7⟩ := prepend_run (w6.alloc (.cells #[.int .u64 (p : Int)] 27)) w6.heap.size p u5 xs (heap_new _ _) (hW6.keep ka) hp64 (by omega)
          have HAP := hid hap
          have HLS7 := hid ((h6.keep ka).keep hk7)
          have HW7 := hid hL7
          have HE7 := hid ((hE6.keep ka).keep hk7)
          have HE7b := hid (fun r (h : u6.ownBlock = some r) => show r < w6.heap.size from hE6.wds.lt h)
          have K7 := hid ((hK6.then' (fresh_none ka)).then' (fresh_none hk7))
          have HR7 := hid (show ∀ r, v7.ownBlock = some r → w6.heap.size ≤ r from fun r hr => by
            obtain ⟨r', e', h'⟩ := hr7
            rw [e'] at hr
            cases hr
            rcases h' with h' | h'
            · omega
            · simp at h'; omega)
          have HZ6 := hid (show w.heap.size ≤ w6.heap.size from hK6.size)
          subst hv7
          clear h6 k6 hW6 hE6 hK6 ka hap hL7 hk7 hr7 HLS5 HW5 HE5
          go_wp2_with (at_builtin; refine Lib.wpList_append_run _ rfl _ _ _ _ rfl (.slice (some ⟨w6.heap.size, 0, none⟩) 1 1) u5 rfl rfl _ _ (HAP.out _) ?_)
          clear HAP
          refine (has_any u6 es p hp64 (by omega) _ HE7.out.wds).mono ?_
          rintro e w8 ⟨rfl, hk⟩
          have HLS8 := hid (HLS7.out.keep hk)
          have K8 := hid (K7.out.then' (fresh_none hk))
          have HW8 := hid (HW7.out.keep hk)
          have HE8 := hid (HE7.out.keep hk)
          clear hk HLS7 HW7 HE7
          by_cases hpe : p ∈ es
          · rw [decide_eq_true hpe]
            have HPE := hid hpe
            clear hpe
            go_wp2_with fail
            refine (held_true c b g _ _ _ _ _ HLS8.out HCH5.out HW8.out.wds).mono ?_
            rintro e w9 ⟨rfl, hK⟩
            have K9 := hid hK
            clear hK
            go_wp2_with fail
            refine ⟨⟨k + 1, by have := HLT.out; omega, by have := HLT.out; omega, by simp, ?_⟩, by have := HLT.out; simp [intOf]; omega⟩
            refine ⟨K8.out.then' (fresh_none K9.out), _, _, _, _, HLS8.out.keep K9.out, HCH5.out, HW8.out.keep K9.out, HE8.out.keep K9.out, ?_, by have := HLEN.out; omega, HZ.out.step HSM.out (fun _ h => h) ?_,
              fun r h => by have := HR7.out r h; have := HZ6.out; omega, HER.out, fun r h h2 => by have := HR7.out r h; have := HE7b.out r h2; omega⟩
            · intro x hx
              rcases List.mem_cons.1 hx with rfl | hx
              · exact HPE.out
              · exact HSUB.out x hx
            · intro x hx
              rcases List.mem_cons.1 hx with rfl | hx
              · exact HPE.out
              · exact HSUB.out x hx
          · rw [decide_eq_false hpe]
            have kb : Kept none' w8 (w8.alloc (.cells #[.int .u64 (p : Int)] 27)) := (Kept.refl none' w8).alloc _
            obtain ⟨v9, w9, hap, hL9, hk9, hr9, g9, cap9, hv9⟩ := push_run (w8.alloc (.cells #[.int .u64 (p : Int)] 27)) u6 es p (HE8.out.keep kb) hp64 (by omega) ⟨w8.heap.size, 0, none⟩ 1 (by rw [Addr.add_lit]; exact cell_of (heap_new _ _))
            have HAP := hid hap
            have hsep : ∀ r, Value.ownBlock (.slice (some ⟨g7, 0, none⟩) (xs.length + 1) cap7) = some r → ¬ (u6.ownBlock = some r) := fun r h h2 => by
              have := HR7.out r h
              have := HE7b.out r h2
              omega
            have HLS9 := hid ((HLS8.out.keep kb).kept hk9 (fun x hx h => (HE8.out.keep kb).apart h (HLS8.out.keep kb) hx))
            have HW9 := hid ((HW8.out.keep kb).kept hk9 (fun r h h2 => hsep r h h2))
            have HE9 := hid hL9
            have K10 := hid ((K8.out.then' (fresh_none kb)).then' (hk9.mono (fun x _ h => show from' w.heap.size x from HER.out x h)))
            have HR9 := hid (show ∀ r, v9.ownBlock = some r → u6.ownBlock = some r ∨ w8.heap.size ≤ r from fun r hr => by
              rcases hr9 with e' | ⟨r', e', h'⟩
              · left; rw [← e']; exact hr
              · rw [e'] at hr
                cases hr
                simp at h'
                exact .inr (by omega))
            have HW8b := hid (fun r (h : Value.ownBlock (.slice (some ⟨g7, 0, none⟩) (xs.length + 1) cap7) = some r) => show r < w8.heap.size from HW8.out.wds.lt h)
            have HZ8 := hid (show w.heap.size ≤ w8.heap.size from K8.out.size)
            have HSEP := hid hsep
            subst hv9
            clear kb hap hL9 hk9 hr9 hsep hpe HLS8 HW8 HE8
            go_wp2_with (at_builtin; refine Lib.wpList_append_run _ rfl _ _ _ _ rfl u6 (.slice (some ⟨w8.heap.size, 0, none⟩) 1 1) rfl rfl _ _ (HAP.out _) ?_)
            clear HAP
            refine (held_true c b g _ _ _ _ _ HLS9.out HCH5.out HW9.out.wds).mono ?_
            rintro e w10 ⟨rfl, hK⟩
            have K11 := hid hK
            clear hK
            go_wp2_with fail
            refine ⟨⟨k + 1, by have := HLT.out; omega, by have := HLT.out; omega, by simp, ?_⟩, by have := HLT.out; simp [intOf]; omega⟩
            refine ⟨K10.out.then' (fresh_none K11.out), _, _, _, _, HLS9.out.keep K11.out, HCH5.out, HW9.out.keep K11.out, HE9.out.keep K11.out, ?_, by have := HLEN.out; simp; omega, HZ.out.step HSM.out (fun x h => by simp [h]) ?_,
              fun r h => by have := HR7.out r h; have := HZ6.out; omega, fun r h => by rcases HR9.out r h with h' | h'; exact HER.out r h'; have := HZ8.out; omega, fun r h h2 => ?_⟩
            · intro x hx
              rcases List.mem_cons.1 hx with rfl | hx
              · simp
              · simp [HSUB.out x hx]
            · intro x hx
              rcases List.mem_cons.1 hx with rfl | hx
              · simp
              · simp [HSUB.out x hx]
            · rcases HR9.out r h2 with h' | h'
              · exact HSEP.out r h h'
              · have := HW8b.out r h
                omega
    · obtain ⟨f, hd, xs, es, hLS, hC, hW, hE, hsub, hlen, hz, hwr, her, hdis⟩ := HST.out.ex
      have HLS := hid hLS
      have HE := hid hE
      have HZ := hid hz
      have hel : es.length ≤ 600 := by have := HM6.out; omega
      have hki : decide ((k : Int) < (m : Int) ∧ (k : Int) < 600) = false := decide_eq_false (by have := HM6.out; omega)
      have KB := hid HST.out.k
      clear hLS hC hW hE hsub hlen hz hwr her hdis
      have hgd : (decide ((k : Int) < (m : Int)) && decide ((k : Int) < 600)) = false := by
        rw [← Bool.decide_and]; exact hki
      by_cases hm' : k < m
      · have h1 : (k : Int) < (m : Int) := by omega
        have h2 : ¬ (k : Int) < 600 := by have := HM6.out; omega
        clear hki hgd hlt hk6
        obtain ⟨M2, hM2⟩ : ∃ M2 : Nat, M2 = 256 := ⟨_, rfl⟩
        have HM2 := hid hM2
        clear hM2
        obtain ⟨W0, hW0⟩ : ∃ W0, W0 = wr := ⟨_, rfl⟩
        subst hW0
        have HZN := hid (show ∀ p, IsCell p → p ∉ es → word f (p - 4096) = 0 ∧ word f (p + 8 - 4096) = 0 from fun p hp hn => HZ.out p hp hn)
        go_wp2_with fail
        go_loopw [11] (fun i wr' => ∃ k2 : Nat, k2 ≤ M2 ∧ i = .int .i64 k2 ∧ Kept none' W0 wr') (fun i _ => M2 - (intOf i).toNat)
        case atStart => exact ⟨0, by omega, rfl, Kept.refl _ _⟩
        case round =>
          obtain ⟨k2, hk2, rfl, kr⟩ := hrel
          have KR := hid kr
          clear kr
          by_cases hlt2 : k2 < M2
          · have hk2i : (k2 : Int) < 256 := by have := HM2.out; omega
            obtain ⟨p, hp⟩ : ∃ p, p = cellA (k2 : Int) := ⟨_, rfl⟩
            have HP := hid (show IsCell p by rw [hp]; exact cellA_cell _)
            have hp64 := HP.out.lt
            have hp8 : p + 8 ≤ 8200 := by have := HP.out; unfold IsCell at this; omega
            have A := hid (cell_any (k2 : Int) (by omega) (by omega))
            rw [← hp] at A
            clear hp
            have HIN := hid (show In 4096 4096 p 8 ∧ In 4096 4096 (p + 8) 8 by have := HP.out; unfold IsCell at this; unfold In; omega)
            have W1 := hid (fun w' (kk : Kept none' W0 w') => lword_any b (some g) 4096 4096 1 4096 f p hp64 w' (HLS.out.keep kk).s)
            have W2 := hid (fun w' (kk : Kept none' W0 w') => lword_any b (some g) 4096 4096 1 4096 f (p + 8) (by omega) w' (HLS.out.keep kk).s)
            rw [if_pos HIN.out.1] at W1
            rw [if_pos HIN.out.2, show ((p + 8 : Nat) : Int) = (p : Int) + 8 by omega] at W2
            have HLT2 := hid hlt2
            clear hlt2 hk2
            go_wp2_with fail
            refine (A.out _).mono ?_
            rintro e w4 ⟨rfl, hw⟩
            subst hw
            go_wp2_with fail
            refine (has_any u6 es p hp64 (by omega) _ (HE.out.keep KR.out).wds).mono ?_
            rintro e w5 ⟨rfl, hk⟩
            have K5 := hid (none_trans KR.out hk)
            clear hk
            by_cases hpe : p ∈ es
            · rw [decide_eq_true hpe]
              clear hpe
              go_wp2_with fail
              exact ⟨⟨k2 + 1, by have := HLT2.out; omega, by simp, K5.out⟩, by have := HLT2.out; simp [intOf]; omega⟩
            · rw [decide_eq_false hpe]
              have hz := HZN.out p HP.out hpe
              rw [hz.1] at W1
              rw [hz.2] at W2
              clear hpe hz
              go_wp2_with fail
              refine (A.out _).mono ?_
              rintro e w6 ⟨rfl, hw⟩
              subst hw
              go_wp2_with fail
              refine (W1.out _ K5.out).mono ?_
              rintro e w7 ⟨rfl, hk⟩
              have K7 := hid (none_trans K5.out hk)
              clear hk
              go_wp2_with fail
              refine (A.out _).mono ?_
              rintro e w8 ⟨rfl, hw⟩
              subst hw
              go_wp2_with fail
              refine (W2.out _ K7.out).mono ?_
              rintro e w9 ⟨rfl, hk⟩
              have K9 := hid (none_trans K7.out hk)
              clear hk
              go_wp2_with fail
              exact ⟨⟨k2 + 1, by have := HLT2.out; omega, by simp, K9.out⟩, by have := HLT2.out; simp [intOf]; omega⟩
          · have hk2i : ¬ (k2 : Int) < 256 := by have := HM2.out; omega
            clear hlt2 hk2
            go_wp2_with fail
            go_ret
            exact ⟨rfl, from_none (KB.out.then' (fresh_none KR.out))⟩
      · have h1 : ¬ (k : Int) < (m : Int) := by omega
        clear hki hgd hlt hk6
        obtain ⟨M2, hM2⟩ : ∃ M2 : Nat, M2 = 256 := ⟨_, rfl⟩
        have HM2 := hid hM2
        clear hM2
        obtain ⟨W0, hW0⟩ : ∃ W0, W0 = wr := ⟨_, rfl⟩
        subst hW0
        have HZN := hid (show ∀ p, IsCell p → p ∉ es → word f (p - 4096) = 0 ∧ word f (p + 8 - 4096) = 0 from fun p hp hn => HZ.out p hp hn)
        go_wp2_with fail
        go_loopw [11] (fun i wr' => ∃ k2 : Nat, k2 ≤ M2 ∧ i = .int .i64 k2 ∧ Kept none' W0 wr') (fun i _ => M2 - (intOf i).toNat)
        case atStart => exact ⟨0, by omega, rfl, Kept.refl _ _⟩
        case round =>
          obtain ⟨k2, hk2, rfl, kr⟩ := hrel
          have KR := hid kr
          clear kr
          by_cases hlt2 : k2 < M2
          · have hk2i : (k2 : Int) < 256 := by have := HM2.out; omega
            obtain ⟨p, hp⟩ : ∃ p, p = cellA (k2 : Int) := ⟨_, rfl⟩
            have HP := hid (show IsCell p by rw [hp]; exact cellA_cell _)
            have hp64 := HP.out.lt
            have hp8 : p + 8 ≤ 8200 := by have := HP.out; unfold IsCell at this; omega
            have A := hid (cell_any (k2 : Int) (by omega) (by omega))
            rw [← hp] at A
            clear hp
            have HIN := hid (show In 4096 4096 p 8 ∧ In 4096 4096 (p + 8) 8 by have := HP.out; unfold IsCell at this; unfold In; omega)
            have W1 := hid (fun w' (kk : Kept none' W0 w') => lword_any b (some g) 4096 4096 1 4096 f p hp64 w' (HLS.out.keep kk).s)
            have W2 := hid (fun w' (kk : Kept none' W0 w') => lword_any b (some g) 4096 4096 1 4096 f (p + 8) (by omega) w' (HLS.out.keep kk).s)
            rw [if_pos HIN.out.1] at W1
            rw [if_pos HIN.out.2, show ((p + 8 : Nat) : Int) = (p : Int) + 8 by omega] at W2
            have HLT2 := hid hlt2
            clear hlt2 hk2
            go_wp2_with fail
            refine (A.out _).mono ?_
            rintro e w4 ⟨rfl, hw⟩
            subst hw
            go_wp2_with fail
            refine (has_any u6 es p hp64 (by omega) _ (HE.out.keep KR.out).wds).mono ?_
            rintro e w5 ⟨rfl, hk⟩
            have K5 := hid (none_trans KR.out hk)
            clear hk
            by_cases hpe : p ∈ es
            · rw [decide_eq_true hpe]
              clear hpe
              go_wp2_with fail
              exact ⟨⟨k2 + 1, by have := HLT2.out; omega, by simp, K5.out⟩, by have := HLT2.out; simp [intOf]; omega⟩
            · rw [decide_eq_false hpe]
              have hz := HZN.out p HP.out hpe
              rw [hz.1] at W1
              rw [hz.2] at W2
              clear hpe hz
              go_wp2_with fail
              refine (A.out _).mono ?_
              rintro e w6 ⟨rfl, hw⟩
              subst hw
              go_wp2_with fail
              refine (W1.out _ K5.out).mono ?_
              rintro e w7 ⟨rfl, hk⟩
              have K7 := hid (none_trans K5.out hk)
              clear hk
              go_wp2_with fail
              refine (A.out _).mono ?_
              rintro e w8 ⟨rfl, hw⟩
              subst hw
              go_wp2_with fail
              refine (W2.out _ K7.out).mono ?_
              rintro e w9 ⟨rfl, hk⟩
              have K9 := hid (none_trans K7.out hk)
              clear hk
              go_wp2_with fail
              exact ⟨⟨k2 + 1, by have := HLT2.out; omega, by simp, K9.out⟩, by have := HLT2.out; simp [intOf]; omega⟩
          · have hk2i : ¬ (k2 : Int) < 256 := by have := HM2.out; omega
            clear hlt2 hk2
            go_wp2_with fail
            go_ret
            exact ⟨rfl, from_none (KB.out.then' (fresh_none KR.out))⟩
end Go.Proofs.Ytnkoheanjaapjaa
