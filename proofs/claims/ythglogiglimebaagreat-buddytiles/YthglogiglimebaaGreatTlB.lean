/- BuddyTiles: tiled. -/
import Derived.Test.YthglogiglimebaaGreatTlA
import Derived.Deep.RegionHeld3
namespace Go.Proofs.YthglogiglimebaaGreat
open Go.RowKit
set_option linter.unusedVariables false

/-- tiled's boxes: the book's, the row of the pages seen. -/
structure TS (W0 W : World) (v : Value) (P I : Nat) (f : Nat → Nat) : Prop where
  kp : Kept none' W0 W
  kb : W.heap[W0.heap.size]? = some (.cells #[v] 54)
  sn : NR W I P f
  i1 : W0.heap.size < I
theorem TS.keep {W0 W W' v P I f} (h : TS W0 W v P I f) (k : Kept none' W W') : TS W0 W' v P I f := ⟨none_trans h.kp k, (k.block _ (heap_lt h.kb) (fun e => e)).trans h.kb, h.sn.kept k (fun e => e), h.i1⟩
theorem TS.b {W0 W v P I f} (h : TS W0 W v P I f) : W.cell? ⟨W0.heap.size, 0, none⟩ = some v := by simp [World.cell?, h.kb]
theorem TS.set {W0 W v P I f} (h : TS W0 W v P I f) (c : Nat) (hc : c < P) (u : Nat) : TS W0 (W.setCell ⟨I, c, none⟩ (.int .i64 (u : Int))) v P I (fun j => if j = c then u else f j) := by
  have k : Kept (fun y => y = I) W (W.setCell ⟨I, c, none⟩ (.int .i64 (u : Int))) := (Kept.refl (fun y => y = I) W).setCell (p := ⟨I, c, none⟩) rfl _
  have := h.i1
  exact ⟨h.kp.trans k (fun _ _ e => e) (fun y hy e => by have e : y = I := e; omega), (k.block _ (heap_lt h.kb) (by omega)).trans h.kb, h.sn.set c hc u, h.i1⟩
/-- .. and the row of the free blocks' beginnings. -/
structure TU (W0 W : World) (v : Value) (P I J : Nat) (f d : Nat → Nat) : Prop where
  ts : TS W0 W v P I f
  sd : NR W J P d
  ne : I < J
theorem TU.keep {W0 W W' v P I J f d} (h : TU W0 W v P I J f d) (k : Kept none' W W') : TU W0 W' v P I J f d := ⟨h.ts.keep k, h.sd.kept k (fun e => e), h.ne⟩
theorem TU.set {W0 W v P I J f d} (h : TU W0 W v P I J f d) (c : Nat) (hc : c < P) (u : Nat) : TU W0 (W.setCell ⟨I, c, none⟩ (.int .i64 (u : Int))) v P I J (fun j => if j = c then u else f j) d := by
  have k : Kept (fun y => y = I) W (W.setCell ⟨I, c, none⟩ (.int .i64 (u : Int))) := (Kept.refl (fun y => y = I) W).setCell (p := ⟨I, c, none⟩) rfl _
  have := h.ne
  exact ⟨h.ts.set c hc u, h.sd.kept k (by omega), h.ne⟩
theorem TU.put {W0 W v P I J f d} (h : TU W0 W v P I J f d) (c : Nat) (hc : c < P) (u : Nat) : TU W0 (W.setCell ⟨J, c, none⟩ (.int .i64 (u : Int))) v P I J f (fun j => if j = c then u else d j) := by
  have k : Kept (fun y => y = J) W (W.setCell ⟨J, c, none⟩ (.int .i64 (u : Int))) := (Kept.refl (fun y => y = J) W).setCell (p := ⟨J, c, none⟩) rfl _
  have := h.ne
  have := h.ts.i1
  exact ⟨⟨h.ts.kp.trans k (fun _ _ e => e) (fun y hy e => by have e : y = J := e; omega), (k.block _ (heap_lt h.ts.kb) (by omega)).trans h.ts.kb, h.ts.sn.kept k (by omega), h.ts.i1⟩, h.sd.set c hc u, h.ne⟩
theorem Ti.words {x t fr R n} (h : Ti x t fr R n) {o : Nat} (ho : o ≤ x.o) : freeL x t o = (fr o).map (ad x) := by
  obtain ⟨B, s, _⟩ := h.s
  exact s.freeL o ho
theorem map_getD (x : Bx) (l : List Nat) (i : Nat) (hi : i < l.length) : (l.map (ad x)).getD i 0 = ad x (l.getD i 0) := by
  simp [List.getD, hi]
/-- A list of free blocks as it is told. -/
theorem Ti.told {x t fr R n} {w w2 : World} {v : Value} {o : Nat} (h : Ti x t fr R n) (ho : o ≤ x.o) (hL : M.Lst w2 v (freeL x t o)) (hN : ∀ r, v.ownBlock = some r → w.heap.size ≤ r) : ∃ av cap, v = .slice av (fr o).length cap ∧ ∀ i, i < (fr o).length → ∃ g, av = some ⟨g, 0, none⟩ ∧ w.heap.size ≤ g ∧ w2.cell? ⟨g, i, none⟩ = some (.int .u64 ((ad x ((fr o).getD i 0) : Nat) : Int)) := by
  rw [h.words ho] at hL
  obtain ⟨_, ao, cap, hv, hne, hcs⟩ := hL.wds
  rw [List.length_map] at hv hcs
  refine ⟨M.adr ao, cap, hv, fun i hi => ?_⟩
  obtain ⟨g, hg⟩ := hne (fun e => by rw [List.map_eq_nil_iff] at e; rw [e] at hi; exact absurd hi (Nat.not_lt_zero _))
  subst hg
  have h3 := (hcs g rfl).2.2 i hi
  rw [map_getD x _ i hi] at h3
  exact ⟨g, rfl, hN g (by rw [hv]; rfl), h3⟩
theorem tmod0 {p z : Nat} (h : p % z = 0) : (p : Int).tmod (z : Int) = 0 := by
  have := Int.ofNat_tmod p z
  rw [← this, h]; rfl
set_option maxRecDepth 4000 in
set_option maxHeartbeats 4000000 in
theorem tiled_ok {E w W lw c x t fa fl fc ra nv rc va n vc R} (h : BW E w W lw c x t fa fl fc ra nv rc va n vc R) (hn : n ≤ 1000) :
    Calls Tryz.prog 17 #[.pointer (some ⟨lw, 0, none⟩), .agg #[.slice va n vc]] W fun e w' => e = .returned (.bool true) ∧ Kept none' W w' := by
  obtain ⟨fr, hT⟩ := h.wb.sn.ti h.inj
  have TI := hid hT
  have RG := hid h.wb.rng
  obtain ⟨m1, m2, m3, m4, _, m8, m9⟩ := h.wb.nums
  obtain ⟨P, hP⟩ : ∃ P, P = t.m.n := ⟨_, rfl⟩
  have HC := hid (fun W' (k : Kept none' W W') => show W'.cell? ⟨lw, 2, none⟩ = some (.int .i64 (x.o : Int)) ∧ W'.cell? ⟨lw, 4, none⟩ = some (.pointer (some ⟨x.m, 0, none⟩)) ∧ W'.cell? ⟨lw, 5, none⟩ = some (.pointer (some ⟨x.b, 0, none⟩)) ∧ W'.cell? ⟨lw, 7, none⟩ = some (.int .i64 (P : Int)) from by
    obtain ⟨c0, c1, c2, c3, c4, c5, c6, c7, c8, c9⟩ := (h.keep k).wb.lw.c
    rw [hP]
    exact ⟨c2, c4, c5, c7⟩)
  rw [← hP] at RG m2
  have HB := hid h
  have HP := hid hP
  have K0 := hid ((Kept.refl none' W).alloc (.cells #[.slice va n vc] 54))
  have X0 := hid (heap_new W (.cells #[.slice va n vc] 54))
  have SZ := hid (show (W.alloc (.cells #[.slice va n vc] 54)).heap.size = W.heap.size + 1 by simp)
  obtain ⟨c2, c4, c5, c7⟩ := HC.out _ K0.out
  obtain ⟨w5, hmk, hI5, hk5, hs5⟩ := make_nums P (by omega) (W.alloc (.cells #[.slice va n vc] 54))
  have T5 := hid (show TS W w5 (.slice va n vc) P (W.heap.size + 1) (fun _ => 0) from ⟨none_trans K0.out hk5, (hk5.block _ (heap_lt X0.out) (fun e => e)).trans X0.out, by rw [← SZ.out]; exact hI5, by omega⟩)
  clear h hT hP m3 m4 m8 m9 hI5 hk5 hs5
  go_enter Tryz.func17, Tryz.ntmps17
  go_wp2_with fail
  generalize hI : W.heap.size + 1 = I at *
  have HI := hid hI
  clear hI hmk c2 c4 c5 c7 SZ X0 K0
  go_loopw [6] (fun i W' => ∃ a : Nat, a ≤ n ∧ i = .int .i64 a ∧ Hid (∃ f, TS W W' (.slice va n vc) P I f ∧ Sees f P (LC R a))) (fun i _ => n - (intOf i).toNat)
  case atStart => exact ⟨0, by omega, rfl, hid ⟨_, T5.out, Sees.zero P fun g _ ⟨j, hj, _⟩ => by omega⟩⟩
  case round =>
    clear T5
    obtain ⟨a, ha, rfl, hT⟩ := hrel
    obtain ⟨f, hTS, hSe⟩ := hT.out
    have T := hid hTS
    have SE := hid hSe
    have b0 := hTS.b
    clear hTS hSe hT
    by_cases hlt : a < n
    · have hai : (a : Int) < (n : Int) := by omega
      obtain ⟨z1, z2, z3⟩ := RG.out a hlt
      obtain ⟨y, hy⟩ : ∃ y, y = 2 ^ (R a).od := ⟨_, rfl⟩
      have hyi : (2 : Int) ^ (R a).od = (y : Int) := by rw [hy]; simp
      have hod8 : (R a).od ≤ 8 := by omega
      have hy2 : y ≤ 256 := by rw [hy]; exact Nat.pow_le_pow_right (n := 2) (by decide) hod8
      have hin : (R a).pg + y ≤ P := by rw [hy]; exact z3
      have HY := hid hy
      clear hy z1 z2 z3
      go_wp2_with fail
      go_loopw [7] (fun i W' => ∃ j : Nat, j ≤ y ∧ i = .int .i64 j ∧ Hid (∃ f, TS W W' (.slice va n vc) P I f ∧ Sees f P (fun g => LC R a g ∨ ((R a).pg ≤ g ∧ g < (R a).pg + j)))) (fun i _ => y - (intOf i).toNat)
      case atStart => exact ⟨0, by omega, rfl, hid ⟨f, T.out, SE.out.congr fun g _ => ⟨.inl, fun e => e.elim id (fun e => by omega)⟩⟩⟩
      case round =>
        clear T SE b0
        obtain ⟨j, hj, rfl, hT⟩ := hrel
        obtain ⟨f, hTS, hSe⟩ := hT.out
        have T := hid hTS
        have SE := hid hSe
        have b0 := hTS.b
        obtain ⟨g0, hva, r0, r1, r2⟩ := (HB.out.keep hTS.kp).bk.get a hlt
        subst hva
        clear hTS hSe hT
        by_cases hjy : j < y
        · have hjyi : (j : Int) < (y : Int) := by omega
          have hjP : (R a).pg + j < P := by omega
          obtain ⟨f0, hS2⟩ := SE.out.step (TI.out.liv hlt (by rw [← HY.out]; exact hjy)) hjP
          have s0 := T.out.sn.cell _ hjP
          rw [f0] at s0
          have sf := T.out.sn.froz ((R a).pg + j)
          have D := hid (And.intro (T.out.set ((R a).pg + j) hjP 1) hS2)
          clear hS2 f0
          go_wp2_with fail
          exact ⟨⟨j + 1, by omega, by simp, hid ⟨_, D.out⟩⟩, by simp [intOf]; omega⟩
        · obtain rfl : j = y := by omega
          have D := hid (show Sees f P (LC R (a + 1)) from SE.out.congr fun g _ => by rw [LC.succ, HY.out])
          have hjyi : ¬ (j : Int) < (j : Int) := by omega
          go_wp2_with fail
          exact ⟨⟨a + 1, by omega, by simp, hid ⟨_, T.out, D.out⟩⟩, by simp [intOf]; omega⟩
    · obtain rfl : a = n := by omega
      have hai : ¬ (a : Int) < (a : Int) := by omega
      have k1 := T.out.kp
      obtain ⟨c2, c4, c5, c7⟩ := HC.out _ k1
      obtain ⟨w6, hmk, hI6, hk6, hs6⟩ := make_nums P m2 wr
      have T6 := hid (show TU W w6 (.slice va a vc) P I wr.heap.size f (fun _ => 0) from ⟨T.out.keep hk6, hI6, T.out.sn.lt⟩)
      clear hI6 hk6 hs6 k1 T
      go_wp2_with fail
      generalize wr.heap.size = J at *
      clear hmk c2 c4 c5 c7 b0 hai ha hlt
      generalize hn' : a = n at *
      clear hn'
      go_loopw [9] (fun i W' => ∃ o : Nat, o ≤ x.o + 1 ∧ i = .int .i64 o ∧ Hid (∃ f d, TU W W' (.slice va n vc) P I J f d ∧ Sees f P (fun g => LC R n g ∨ FC fr o 0 g) ∧ Begs d P (Fd fr o 0))) (fun i _ => x.o + 1 - (intOf i).toNat)
      case atStart => exact ⟨0, by omega, rfl, hid ⟨f, _, T6.out, SE.out.congr fun g _ => ⟨.inl, fun e => e.elim id (fun ⟨q, k, h1, _⟩ => by rcases h1 with ⟨h, _⟩ | ⟨_, j, h, _⟩ <;> omega)⟩, Begs.zero P fr⟩⟩
      case round =>
        clear T6 SE
        obtain ⟨o, ho, rfl, hT⟩ := hrel
        obtain ⟨f, d, hTU, hSe, hBe⟩ := hT.out
        have T := hid hTU
        have SE := hid hSe
        have BE := hid hBe
        obtain ⟨c2, c4, c5, c7⟩ := HC.out _ hTU.ts.kp
        clear hTU hSe hBe hT
        by_cases hox : o ≤ x.o
        · have hoi : (o : Int) ≤ (x.o : Int) := by omega
          have FR := hid (Free_yes x t o hox wr (HB.out.keep T.out.ts.kp).wb.lw.bd)
          go_wp2_with fail
          refine FR.out.mono ?_
          rintro e w2 ⟨v, rfl, hL, hk2, hN2⟩
          obtain ⟨av, cap, hv, hcs⟩ := TI.out.told hox hL hN2
          subst hv
          have CS := hid hcs
          have JW : Hid (J < wr.heap.size) := hid T.out.sd.lt
          have T2 := hid (T.out.keep hk2)
          obtain ⟨L, hL'⟩ : ∃ L, L = (fr o).length := ⟨_, rfl⟩
          rw [← hL'] at CS
          rw [← hL']
          have hL2 : L ≤ 1024 := by
            have hnd := TI.out.nd hox
            have := M.nodup_len P (fr o) hnd (fun p hp => by
              obtain ⟨q, hq, rfl⟩ := M.mem_getD hp
              have := (TI.out.at hox hq).2
              have hz0 : 0 < 2 ^ o := Nat.pow_pos (by decide)
              rw [HP.out]
              omega)
            omega
          have HL := hid hL'
          obtain ⟨z, hz⟩ : ∃ z, z = 2 ^ o := ⟨_, rfl⟩
          have hzi : (2 : Int) ^ o = (z : Int) := by rw [hz]; simp
          have ho8 : o ≤ 8 := by omega
          have hz2 : z ≤ 256 := by rw [hz]; exact Nat.pow_le_pow_right (n := 2) (by decide) ho8
          have hz0 : 0 < z := by rw [hz]; exact Nat.pow_pos (by decide)
          have HZ := hid hz
          clear hL hk2 hN2 hcs T c2 c4 c5 c7 FR hL' hz
          go_wp2_with fail
          go_loopw [11] (fun i W' => ∃ a : Nat, a ≤ L ∧ i = .int .i64 a ∧ Hid (Kept (fun y => y = I ∨ y = J) w2 W' ∧ ∃ f d, TU W W' (.slice va n vc) P I J f d ∧ Sees f P (fun g => LC R n g ∨ FC fr o a g) ∧ Begs d P (Fd fr o a))) (fun i _ => L - (intOf i).toNat)
          case atStart => exact ⟨0, by omega, rfl, hid ⟨Kept.refl _ _, f, d, T2.out, SE.out, BE.out⟩⟩
          case round =>
            clear T2 SE BE
            obtain ⟨a, ha, rfl, hT⟩ := hrel
            obtain ⟨hk3, f, d, hTU, hSe, hBe⟩ := hT.out
            have T := hid hTU
            have SE := hid hSe
            have BE := hid hBe
            have K3 := hid hk3
            clear hTU hSe hBe hT hk3
            by_cases haL : a < L
            · have hai : (a : Int) < (L : Int) := by omega
              obtain ⟨gl, hav, hgl, hcl⟩ := CS.out a haL
              subst hav
              have hcl := K3.out.cell (p := ⟨gl, a, none⟩) (by
                have h1 := JW.out
                have h2 := T.out.ne
                show ¬ (gl = I ∨ gl = J)
                omega) hcl
              have haL2 : a < (fr o).length := by rw [← HL.out]; exact haL
              obtain ⟨q1, q2⟩ := TI.out.at hox haL2
              rw [← HZ.out, ← HP.out] at q2
              rw [← HZ.out] at q1
              have FRE := hid (fun j (hj : j < z) => TI.out.fre hox haL2 (j := j) (by rw [← HZ.out]; exact hj))
              have BEG := hid (fun k => TI.out.beg hox haL2 (k := k))
              have FDS := hid (fun q k => @Fd.succ fr o a q k haL2)
              have FCS := hid (fun g => @FC.succ fr o a g haL2)
              obtain ⟨p, hp⟩ : ∃ p, p = (fr o).getD a 0 := ⟨_, rfl⟩
              rw [← hp] at hcl q1 q2 FRE BEG FDS FCS
              have HBW := hid (HB.out.keep T.out.ts.kp)
              have PG := hid (page_ok HBW.out.wb.lw p (by rw [← HP.out]; omega) (by rw [← HP.out]; omega) (by
                obtain ⟨n1, n2, n3⟩ := HBW.out.wb.sn.n
                omega) HBW.out.wb.bm)
              generalize ad x p = A at *
              have hrem := tmod0 q1
              have hp0 : decide ((p : Int) < 0) = false := by simp
              have hpz : ¬ (P : Int) < (p : Int) + (z : Int) := by omega
              clear hp hgl HBW q1
              go_wp2_with fail
              refine PG.out.mono ?_
              rintro e w3 ⟨rfl, hk3⟩
              have K4 := hid (Kept.trans (U := fun y => y = I ∨ y = J) K3.out hk3 (fun _ _ e => e) (fun _ _ e => e.elim))
              have T4 := hid (T.out.keep hk3)
              have KD := hid (fun m => (Kept.refl none' w3).drewN m)
              obtain ⟨c2, c4, c5, c7⟩ := HC.out _ T4.out.ts.kp
              have jf := T4.out.sd.froz p
              have jc := T4.out.sd.cell p (by omega)
              clear hk3 T PG K3 hcl
              go_wp2_with fail
              have hpP : p < P := by omega
              have T5 := T4.out.put p hpP (o + 1)
              rw [show ((o + 1 : Nat) : Int) = (o : Int) + 1 by simp] at T5
              have B5 := hid (show Begs (fun q => if q = p then o + 1 else d q) P (Fd fr o (a + 1)) from BE.out.step FDS.out BEG.out)
              have K5 := hid (K4.out.setCell (p := ⟨J, p, none⟩) (.inr rfl) (.int .i64 ((o : Int) + 1)))
              have T6 := hid T5
              clear T5 T4 K4 BE KD c2 c4 c5 c7 jf jc hrem hp0
              generalize w3.setCell ⟨J, p, none⟩ (.int .i64 ((o : Int) + 1)) = w4 at *
              go_loopw [13] (fun i W' => ∃ j : Nat, j ≤ z ∧ i = .int .i64 j ∧ Hid (Kept (fun y => y = I ∨ y = J) w2 W' ∧ ∃ f, TU W W' (.slice va n vc) P I J f (fun q => if q = p then o + 1 else d q) ∧ Sees f P (fun g => (LC R n g ∨ FC fr o a g) ∨ (p ≤ g ∧ g < p + j)))) (fun i _ => z - (intOf i).toNat)
              case atStart => exact ⟨0, by omega, rfl, hid ⟨K5.out, f, T6.out, SE.out.congr fun g _ => ⟨.inl, fun e => e.elim id (fun e => by omega)⟩⟩⟩
              case round =>
                clear T6 SE K5
                obtain ⟨j, hj, rfl, hT⟩ := hrel
                obtain ⟨hk5, f, hTU, hSe⟩ := hT.out
                have T := hid hTU
                have SE := hid hSe
                have K5 := hid hk5
                clear hTU hSe hT hk5
                by_cases hjz : j < z
                · have hjzi : (j : Int) < (z : Int) := by omega
                  have hjP : p + j < P := by omega
                  obtain ⟨f0, hS2⟩ := SE.out.step (FRE.out j hjz) hjP
                  have s0 := T.out.ts.sn.cell _ hjP
                  rw [f0] at s0
                  have sf := T.out.ts.sn.froz (p + j)
                  have D := hid (And.intro (K5.out.setCell (p := ⟨I, p + j, none⟩) (.inl rfl) (.int .i64 ((1 : Nat) : Int))) (And.intro (T.out.set (p + j) hjP 1) hS2))
                  clear hS2 f0
                  go_wp2_with fail
                  exact ⟨⟨j + 1, by omega, by simp, hid ⟨D.out.1, _, D.out.2⟩⟩, by simp [intOf]; omega⟩
                · obtain rfl : j = z := by omega
                  have hjzi : ¬ (j : Int) < (j : Int) := by omega
                  have D := hid (show Sees f P (fun g => LC R n g ∨ FC fr o (a + 1) g) from SE.out.congr fun g _ => by rw [FCS.out, HZ.out, or_assoc])
                  go_wp2_with fail
                  exact ⟨⟨a + 1, by omega, by simp, hid ⟨K5.out, _, _, T.out, D.out, B5.out⟩⟩, by simp [intOf]; omega⟩
            · obtain rfl : a = L := by omega
              have hai : ¬ (a : Int) < (a : Int) := by omega
              have D := hid (show Sees f P (fun g => LC R n g ∨ FC fr (o + 1) 0 g) ∧ Begs d P (Fd fr (o + 1) 0) from ⟨SE.out.congr fun g _ => by rw [HL.out, FC.next], BE.out.congr fun q k => by rw [HL.out, Fd.next]⟩)
              go_wp2_with fail
              exact ⟨⟨o + 1, by omega, by simp, hid ⟨_, _, T.out, D.out⟩⟩, by simp [intOf]; omega⟩
        · obtain rfl : o = x.o + 1 := by omega
          have hoi : ¬ ((x.o + 1 : Nat) : Int) ≤ (x.o : Int) := by omega
          have ONE := hid (fun g (hg : g < P) => show f g = 1 from by
            rcases SE.out g hg with h1 | h1
            · exact h1.1
            · exact absurd (TI.out.all (by rw [← HP.out]; exact hg)) h1.2)
          clear SE
          go_wp2_with fail
          generalize wr = w9 at *
          clear c2 c4 c5 c7 hoi ho hox
          go_loopw [14] (fun i W' => ∃ a : Nat, a ≤ P ∧ i = .int .i64 a ∧ Hid (Kept none' w9 W')) (fun i _ => P - (intOf i).toNat)
          case atStart => exact ⟨0, by omega, rfl, hid (Kept.refl none' w9)⟩
          case round =>
            obtain ⟨a, ha, rfl, hK⟩ := hrel
            have T9 := hid (T.out.keep hK.out)
            by_cases haP : a < P
            · have hai : (a : Int) < (P : Int) := by omega
              have s0 := T9.out.ts.sn.cell a haP
              rw [ONE.out a haP] at s0
              have KD := hid (fun m => none_trans hK.out ((Kept.refl none' wr).drewN m))
              go_wp2_with fail
              exact ⟨⟨a + 1, by omega, by simp, hK⟩, by simp [intOf]; omega⟩
            · obtain rfl : a = P := by omega
              have hai : ¬ (a : Int) < (a : Int) := by omega
              clear ONE
              go_wp2_with fail
              generalize wr = w10 at *
              generalize hP' : a = P at *
              clear hP' hK T ha haP hai
              go_loopw [15] (fun i W' => ∃ o : Nat, o ≤ x.o ∧ i = .int .i64 o ∧ Hid (Kept none' w10 W')) (fun i _ => x.o - (intOf i).toNat)
              case atStart => exact ⟨0, by omega, rfl, hid (Kept.refl none' w10)⟩
              case round =>
                obtain ⟨o, ho, rfl, hK⟩ := hrel
                have T10 := hid (T9.out.keep hK.out)
                obtain ⟨c2, c4, c5, c7⟩ := HC.out _ T10.out.ts.kp
                by_cases hox : o < x.o
                · have hoi : (o : Int) < (x.o : Int) := by omega
                  have ho8 : o ≤ 8 := by omega
                  obtain ⟨z, hz⟩ : ∃ z, z = 2 ^ o := ⟨_, rfl⟩
                  have hzi : (2 : Int) ^ o = (z : Int) := by rw [hz]; simp
                  have hz2 : z ≤ 256 := by rw [hz]; exact Nat.pow_le_pow_right (n := 2) (by decide) ho8
                  have hz0 : 0 < z := by rw [hz]; exact Nat.pow_pos (by decide)
                  have hz3 : 2 ^ (o + 1) = 2 * z := by rw [Nat.pow_succ, Nat.mul_comm, hz]
                  have HZ := hid hz
                  have HZ3 := hid hz3
                  clear hz hz3 c4 c5
                  go_wp2_with fail
                  clear c7 c2
                  go_loopw [16] (fun i W' => ∃ p q : Nat, p ≤ P + 2 * z ∧ i = .int .i64 p ∧ Hid (p = q * (2 * z)) ∧ Hid (Kept none' w10 W')) (fun i _ => P + 2 * z - (intOf i).toNat)
                  case atStart => exact ⟨0, 0, by omega, rfl, hid (by omega), hK⟩
                  case round =>
                    clear hK T10
                    obtain ⟨p, q, hp, rfl, hpq, hK⟩ := hrel
                    have T10 := hid (T9.out.keep hK.out)
                    obtain ⟨c2, c4, c5, c7⟩ := HC.out _ T10.out.ts.kp
                    by_cases hpP : p < P
                    · have hpi : (p : Int) < (P : Int) := by omega
                      have hpq2 : q * 2 ^ (o + 1) = p := by rw [HZ3.out]; exact hpq.out.symm
                      obtain ⟨f1, f2, f3⟩ := TI.out.pair (f := d) (by rw [← HP.out]; exact BE.out) hox (i := q) (by rw [hpq2, ← HP.out]; exact hpP)
                      have PR := hid (Pair_in x.m x.B t.m o p wr (HB.out.keep T10.out.ts.kp).wb.lw.bd.mp (by rw [(HB.out.keep T10.out.ts.kp).wb.lw.bd.mo]; exact hox) (by rw [← HP.out]; exact hpP))
                      rw [hpq2, ← HZ.out] at f1 f2 f3
                      rw [← HP.out] at f1
                      rw [f3] at PR
                      have hq2 := hid (show p + 2 * z = (q + 1) * (2 * z) by rw [Nat.add_mul, Nat.one_mul, ← hpq.out])
                      have s0 := T10.out.sd.cell p hpP
                      have s1 := T10.out.sd.cell (p + z) f1
                      clear f3 hpq2
                      generalize d p = u at *
                      generalize d (p + z) = v at *
                      by_cases hu : u = o + 1
                      · have hv : ¬ v = o + 1 := fun e => f2 ⟨hu, e⟩
                        have hui : ((u : Int) == (o : Int) + 1) = true := by rw [beq_iff_eq]; omega
                        have hvi : ((v : Int) == (o : Int) + 1) = false := by rw [beq_eq_false_iff_ne]; omega
                        rw [decide_eq_true hu, decide_eq_false hv] at PR
                        clear f2 hu hv
                        go_wp2_with fail
                        refine PR.out.mono ?_
                        rintro e w11 ⟨rfl, hk⟩
                        have K11 := hid (none_trans hK.out hk)
                        clear hk PR
                        go_wp2_with fail
                        exact ⟨⟨p + 2 * z, q + 1, by omega, by simp, hq2, K11⟩, by simp [intOf]; omega⟩
                      · by_cases hv : v = o + 1
                        · have hui : ((u : Int) == (o : Int) + 1) = false := by rw [beq_eq_false_iff_ne]; omega
                          have hvi : ((v : Int) == (o : Int) + 1) = true := by rw [beq_iff_eq]; omega
                          rw [decide_eq_false hu, decide_eq_true hv] at PR
                          clear f2 hu hv
                          go_wp2_with fail
                          refine PR.out.mono ?_
                          rintro e w11 ⟨rfl, hk⟩
                          have K11 := hid (none_trans hK.out hk)
                          clear hk PR
                          go_wp2_with fail
                          exact ⟨⟨p + 2 * z, q + 1, by omega, by simp, hq2, K11⟩, by simp [intOf]; omega⟩
                        · have hui : ((u : Int) == (o : Int) + 1) = false := by rw [beq_eq_false_iff_ne]; omega
                          have hvi : ((v : Int) == (o : Int) + 1) = false := by rw [beq_eq_false_iff_ne]; omega
                          rw [decide_eq_false hu, decide_eq_false hv] at PR
                          clear f2 hu hv
                          go_wp2_with fail
                          refine PR.out.mono ?_
                          rintro e w11 ⟨rfl, hk⟩
                          have K11 := hid (none_trans hK.out hk)
                          clear hk PR
                          go_wp2_with fail
                          exact ⟨⟨p + 2 * z, q + 1, by omega, by simp, hq2, K11⟩, by simp [intOf]; omega⟩
                    · have hpi : ¬ (p : Int) < (P : Int) := by omega
                      go_wp2_with fail
                      exact ⟨⟨o + 1, by omega, by simp, hK⟩, by simp [intOf]; omega⟩
                · obtain rfl : o = x.o := by omega
                  have hoi : ¬ (x.o : Int) < (x.o : Int) := by omega
                  have K12 := hid T10.out.ts.kp
                  go_wp2_with fail
                  go_ret
                  exact ⟨rfl, K12.out⟩
end Go.Proofs.YthglogiglimebaaGreat
