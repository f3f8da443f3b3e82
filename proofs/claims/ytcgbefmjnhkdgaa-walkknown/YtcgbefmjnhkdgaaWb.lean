import Derived.Test.YtcgbefmjnhkdgaaWa
set_option maxRecDepth 1000000
set_option maxHeartbeats 80000000
/- pagemap: resize. -/
namespace Go.Proofs.Ytcgbefmjnhkdgaa.H
open Go.RowKit
set_option linter.unusedVariables false

def resizeM (m : Mp) (c : Nat) : Mp := ⟨m.o, c, fun i => if i < m.n then m.pg i else zeroP, fun k => ofW (m.wd k) (c / 2 ^ (k + 1))⟩
/-- Where the blocks of a map come from: they were its own, or they are new. -/
def From (w : World) (b : Nat) (B B' : Bs) (o : Nat) : Prop := ∀ x, mown b B' o x → mown b B o x ∨ w.heap.size ≤ x
/-- While the sets are resized. -/
structure Rz (w W : World) (b : Nat) (B : Bs) (m : Mp) (c g k : Nat) (C : Nat → Nat) : Prop where
  hb : ∃ cq, W.heap[b]? = some (.cells #[.int .i64 (m.o : Int), .slice (some ⟨g, 0, none⟩) c c, .slice (adr B.P) m.o cq] 133 (0, 0)) ∧ Prs W B.P m.o cq B.S
  row : Row W g c (fun i => if i < m.n then m.pg i else zeroP)
  old : ∀ j, k ≤ j → j < m.o → SetAt W (B.S j) (C j) (m.n / 2 ^ (j + 1)) (m.wd j)
  new : ∀ j, j < k → j < m.o → SetAt W (B.S j) (C j) (c / 2 ^ (j + 1)) (ofW (m.wd j) (c / 2 ^ (j + 1)))
  inj : ∀ i j, i < m.o → j < m.o → C i = C j → i = j
  kp : Kept (mown b B m.o) w W
  hg : w.heap.size ≤ g
  fr : ∀ j, j < m.o → C j = B.C j ∨ w.heap.size ≤ C j
theorem Rz.any {w W b B m c g k C} (h : Rz w W b B m c g k C) (j : Nat) (hj : j < m.o) : ∃ n ws, SetAt W (B.S j) (C j) n ws := by
  by_cases e : j < k
  · exact ⟨_, _, h.new j e hj⟩
  · exact ⟨_, _, h.old j (by omega) hj⟩
theorem Rz.next {w W W' b B m c g k C} (h : Rz w W b B m c g k C) (hk : k < m.o) (inS : ∀ i j, i < m.o → j < m.o → B.S i = B.S j → i = j) (hS : SetAt W' (B.S k) W.heap.size (c / 2 ^ (k + 1)) (ofW (m.wd k) (c / 2 ^ (k + 1)))) (kp : Kept (fun x => x = B.S k) W W') :
    Rz w W' b B m c g (k + 1) (fun j => if j = k then W.heap.size else C j) := by
  obtain ⟨cq, hb, hp⟩ := h.hb
  obtain ⟨n0, ws0, s0⟩ := h.any k hk
  obtain ⟨cs, hgb, hrow⟩ := h.row
  have lt : ∀ j, j < m.o → C j < W.heap.size := fun j hj => by
    obtain ⟨_, _, s⟩ := h.any j hj
    exact heap_lt s.hc
  refine ⟨⟨cq, (kp.block b (heap_lt hb) (ty_ne hb s0.hb (by decide))).trans hb, hp.kept kp (fun x e => ?_)⟩, RowC.kept h.row kp (ty_ne hgb s0.hb (by decide)), fun j hj hj2 => ?_, fun j hj hj2 => ?_, fun i j hi hj e => ?_, h.kp.trans kp (fun _ _ x => x) (fun x _ e => .inr (.inr (.inr ⟨k, hk, .inl e⟩))), h.hg, fun j hj => ?_⟩
  · rw [e] at hp
    obtain ⟨ds, hq, _⟩ := hp
    exact ty_ne hq s0.hb (by decide)
  · rw [if_neg (by omega)]
    have s := h.old j (by omega) hj2
    exact s.kept kp (fun e => by have := inS j k hj2 hk e; omega) (ty_ne s.hc s0.hb (by decide))
  · by_cases e : j = k
    · rw [if_pos e, e]
      exact hS
    · rw [if_neg e]
      have s := h.new j (by omega) hj2
      exact s.kept kp (fun e => by have := inS j k hj2 hk e; omega) (ty_ne s.hc s0.hb (by decide))
  · by_cases e1 : i = k <;> by_cases e2 : j = k
    · omega
    · rw [if_pos e1, if_neg e2] at e
      have := lt j hj
      omega
    · rw [if_neg e1, if_pos e2] at e
      have := lt i hi
      omega
    · rw [if_neg e1, if_neg e2] at e
      exact h.inj i j hi hj e
  · by_cases e : j = k
    · rw [if_pos e]
      exact .inr h.kp.size
    · rw [if_neg e]
      exact h.fr j hj
theorem fit_nat (n : Nat) (h : n ≤ 1048576) : fit (n : Int) = n := by unfold fit; split <;> (try split) <;> omega
theorem _root_.Go.Proofs.Ytcgbefmjnhkdgaa.Prs.cell {w q o cq S} (h : Prs w (some q) o cq S) (k : Nat) (hk : k < o) : w.cell? ⟨q, k, none⟩ = some (.pointer (some ⟨S k, 0, none⟩)) := by
  obtain ⟨cs, hg, h2, h3, h4⟩ := h
  simp [World.cell?, hg, h4 k hk]
set_option maxRecDepth 4000 in
theorem mresize_0 (b : Nat) (B : Bs) (m : Mp) (c : Nat) (hc : c ≤ 1024) (hd : ∃ r, c = r * 2 ^ m.o) (w : World) (h : MapAt w b B m) (h0 : m.o = 0) :
    Calls Try.prog 81 #[.pointer (some ⟨b, 0, none⟩), .int .i64 (c : Int)] w fun e w' => e = .returned (.tuple #[]) ∧ ∃ B', MapAt w' b B' (resizeM m c) ∧ Kept (mown b B m.o) w w' ∧ From w b B B' m.o := by
  obtain ⟨cq, c0, c1, c2⟩ := h.cb
  obtain ⟨w1, hmk, hr1, hk1, hs1⟩ := make_pages c hc w
  have M1 := hid (h.keep hk1)
  obtain ⟨kk, w2, hcp, hr2, hk2, hs2⟩ := copy_pages w1 w.heap.size c B.g m.n (fun _ => zeroP) m.pg hr1 M1.out.row
  obtain ⟨cq1, d0, d1, d2⟩ := M1.out.cb
  have R2 := hid hr2
  have K2 := hid (show Kept none' w w2 from hk1.trans hk2 (fun _ _ x => x) (fun x hx e => by omega))
  have M2 := hid (h.keep K2.out)
  obtain ⟨cq2, e0, e1, e2⟩ := M2.out.cb
  have z := M2.out.bz
  have HO := hid h
  have hbl : b < w.heap.size := h.own_lt b (.inl rfl)
  have HBL := hid hbl
  have HD := hid hd
  have HZ := hid h0
  clear h hr1 hk1 hr2 hk2 hd h0
  go_enter Try.func81, Try.ntmps81
  go_wp2_with fail
  have H0 := hid (show Rz w (w2.setCell ⟨b, 1, none⟩ (.slice (some ⟨w.heap.size, 0, none⟩) c c)) b B m c w.heap.size 0 B.C from by
    obtain ⟨cq, hb, hp⟩ := M2.out.hb
    obtain ⟨cs, hgb, _⟩ := R2.out
    have k : Kept (fun x => x = b) w2 (w2.setCell ⟨b, 1, none⟩ (.slice (some ⟨w.heap.size, 0, none⟩) c c)) := (Kept.refl (fun x => x = b) w2).setCell (p := ⟨b, 1, none⟩) rfl _
    refine ⟨⟨cq, (heap_set hb 1 _).trans (by simp), hp.kept k (fun x e => ?_)⟩, Row.kept R2.out k (fun e => by have := HBL.out; omega), fun j _ hj => (M2.out.set j hj).kept k (ty_ne (M2.out.set j hj).hb hb (by decide)) (ty_ne (M2.out.set j hj).hc hb (by decide)), fun j hj => absurd hj (by omega), M2.out.injC, K2.out.trans k (fun _ _ x => x.elim) (fun x _ e => .inl e), Nat.le_refl _, fun j _ => .inl rfl⟩
    rw [e] at hp
    obtain ⟨ds, hq, _⟩ := hp
    exact ty_ne hq hb (by decide))
  clear M1 M2 R2 K2 c0 c1 c2 d0 d1 d2 e0 e1 e2 z hmk hcp hs1 hs2
  go_loopw [5, 6, 24] (fun x y i W => ∃ k : Nat, k ≤ m.o ∧ i = .int .i64 k ∧ Hid (∃ C, Rz w W b B m c w.heap.size k C)) (fun _ _ i _ => m.o - (intOf i).toNat)
  case atStart => exact ⟨0, by omega, rfl, ⟨B.C, H0.out⟩⟩
  case round =>
    clear H0
    obtain ⟨k, hk, rfl, hR⟩ := hrel
    obtain ⟨C, hR⟩ := hR.out
    have HR := hid hR
    clear hR
    have hki : ¬ (k : Int) < (m.o : Int) := by have := HZ.out; omega
    · obtain rfl : k = m.o := by have := HZ.out; omega
      go_wp2_with fail
      go_end0
      refine ⟨rfl, ⟨some w.heap.size, B.P, B.S, C⟩, ?_, HR.out.kp, ?_⟩
      · refine ⟨HO.out.o8, hc, HD.out, HR.out.hb, HR.out.row, fun j hj => HR.out.new j hj hj, HO.out.injS, HR.out.inj, fun i hi => ?_⟩
        show PgOk (if i < m.n then m.pg i else zeroP)
        split
        · rename_i e
          exact HO.out.ok i e
        · exact PgOk.zero
      · rintro x (e | e | e | ⟨j, hj, e | e⟩)
        · exact .inl (.inl e)
        · cases e
          exact .inr (Nat.le_refl _)
        · exact .inl (.inr (.inr (.inl e)))
        · exact .inl (.inr (.inr (.inr ⟨j, hj, .inl e⟩)))
        · rcases HR.out.fr j hj with e2 | e2
          · exact .inl (.inr (.inr (.inr ⟨j, hj, .inr (e.trans e2)⟩)))
          · exact .inr (by rw [show x = C j from e]; exact e2)
set_option maxRecDepth 4000 in
theorem mresize_q (b q : Nat) (B : Bs) (m : Mp) (c : Nat) (hc : c ≤ 1024) (hd : ∃ r, c = r * 2 ^ m.o) (w : World) (h : MapAt w b B m) (hq : B.P = some q) :
    Calls Try.prog 81 #[.pointer (some ⟨b, 0, none⟩), .int .i64 (c : Int)] w fun e w' => e = .returned (.tuple #[]) ∧ ∃ B', MapAt w' b B' (resizeM m c) ∧ Kept (mown b B m.o) w w' ∧ From w b B B' m.o := by
  obtain ⟨cq, c0, c1, c2⟩ := h.cb
  obtain ⟨w1, hmk, hr1, hk1, hs1⟩ := make_pages c hc w
  have M1 := hid (h.keep hk1)
  obtain ⟨kk, w2, hcp, hr2, hk2, hs2⟩ := copy_pages w1 w.heap.size c B.g m.n (fun _ => zeroP) m.pg hr1 M1.out.row
  obtain ⟨cq1, d0, d1, d2⟩ := M1.out.cb
  have R2 := hid hr2
  have K2 := hid (show Kept none' w w2 from hk1.trans hk2 (fun _ _ x => x) (fun x hx e => by omega))
  have M2 := hid (h.keep K2.out)
  obtain ⟨cq2, e0, e1, e2⟩ := M2.out.cb
  have z := M2.out.bz
  rw [show adr B.P = some ⟨q, 0, none⟩ by rw [hq]; rfl] at c2 d2 e2
  have HQ := hid hq
  have HO := hid h
  have hbl : b < w.heap.size := h.own_lt b (.inl rfl)
  have HBL := hid hbl
  have HD := hid hd
  clear h hr1 hk1 hr2 hk2 hd hq
  go_enter Try.func81, Try.ntmps81
  go_wp2_with fail
  have H0 := hid (show Rz w (w2.setCell ⟨b, 1, none⟩ (.slice (some ⟨w.heap.size, 0, none⟩) c c)) b B m c w.heap.size 0 B.C from by
    obtain ⟨cq, hb, hp⟩ := M2.out.hb
    obtain ⟨cs, hgb, _⟩ := R2.out
    have k : Kept (fun x => x = b) w2 (w2.setCell ⟨b, 1, none⟩ (.slice (some ⟨w.heap.size, 0, none⟩) c c)) := (Kept.refl (fun x => x = b) w2).setCell (p := ⟨b, 1, none⟩) rfl _
    refine ⟨⟨cq, (heap_set hb 1 _).trans (by simp), hp.kept k (fun x e => ?_)⟩, Row.kept R2.out k (fun e => by have := HBL.out; omega), fun j _ hj => (M2.out.set j hj).kept k (ty_ne (M2.out.set j hj).hb hb (by decide)) (ty_ne (M2.out.set j hj).hc hb (by decide)), fun j hj => absurd hj (by omega), M2.out.injC, K2.out.trans k (fun _ _ x => x.elim) (fun x _ e => .inl e), Nat.le_refl _, fun j _ => .inl rfl⟩
    rw [e] at hp
    obtain ⟨ds, hq, _⟩ := hp
    exact ty_ne hq hb (by decide))
  clear M1 M2 R2 K2 c0 c1 c2 d0 d1 d2 e0 e1 e2 z hmk hcp hs1 hs2
  go_loopw [5, 6, 24] (fun x y i W => ∃ k : Nat, k ≤ m.o ∧ i = .int .i64 k ∧ Hid (∃ C, Rz w W b B m c w.heap.size k C)) (fun _ _ i _ => m.o - (intOf i).toNat)
  case atStart => exact ⟨0, by omega, rfl, ⟨B.C, H0.out⟩⟩
  case round =>
    clear H0
    obtain ⟨k, hk, rfl, hR⟩ := hrel
    obtain ⟨C, hR⟩ := hR.out
    have HR := hid hR
    clear hR
    by_cases hlt : k < m.o
    · have hki : (k : Int) < (m.o : Int) := by omega
      have hpc : wr.cell? ⟨q, k, none⟩ = some (.pointer (some ⟨B.S k, 0, none⟩)) := by
        obtain ⟨cq, _, hp⟩ := HR.out.hb
        rw [HQ.out] at hp
        exact hp.cell k hlt
      have hk8 : k < 8 := by have := HO.out.o8; omega
      have PC := hid (pairCount_any k c hk8 hc)
      have hle : c / 2 ^ (k + 1) ≤ 1024 := Nat.le_trans (Nat.div_le_self _ _) hc
      have HN := hid (fun W2 hS hK => HR.out.next (W' := W2) hlt HO.out.injS hS hK)
      generalize c / 2 ^ (k + 1) = d at PC hle HN
      have RS := hid (resize_any (B.S k) (C k) (m.n / 2 ^ (k + 1)) (m.wd k) (d : Int) (by omega) (by omega) wr (HR.out.old k (Nat.le_refl _) hlt))
      rw [fit_nat _ (by omega)] at RS
      clear hle
      go_wp2_with fail
      refine (PC.out _).mono ?_
      rintro e W1 ⟨rfl, rfl⟩
      go_wp2_with fail
      refine RS.out.mono ?_
      rintro e W2 ⟨rfl, hS, hK, hsz⟩
      have HN := hid (HN.out W2 hS hK)
      clear hS hK hsz
      go_wp2_with fail
      exact ⟨⟨k + 1, by omega, by simp, ⟨_, HN.out⟩⟩, by simp [intOf]; omega⟩
    · obtain rfl : k = m.o := by omega
      go_wp2_with fail
      go_end0
      refine ⟨rfl, ⟨some w.heap.size, B.P, B.S, C⟩, ?_, HR.out.kp, ?_⟩
      · refine ⟨HO.out.o8, hc, HD.out, HR.out.hb, HR.out.row, fun j hj => HR.out.new j hj hj, HO.out.injS, HR.out.inj, fun i hi => ?_⟩
        show PgOk (if i < m.n then m.pg i else zeroP)
        split
        · rename_i e
          exact HO.out.ok i e
        · exact PgOk.zero
      · rintro x (e | e | e | ⟨j, hj, e | e⟩)
        · exact .inl (.inl e)
        · cases e
          exact .inr (Nat.le_refl _)
        · exact .inl (.inr (.inr (.inl e)))
        · exact .inl (.inr (.inr (.inr ⟨j, hj, .inl e⟩)))
        · rcases HR.out.fr j hj with e2 | e2
          · exact .inl (.inr (.inr (.inr ⟨j, hj, .inr (e.trans e2)⟩)))
          · exact .inr (by rw [show x = C j from e]; exact e2)
theorem mresize_any (b : Nat) (B : Bs) (m : Mp) (c : Nat) (hc : c ≤ 1024) (hd : ∃ r, c = r * 2 ^ m.o) (w : World) (h : MapAt w b B m) :
    Calls Try.prog 81 #[.pointer (some ⟨b, 0, none⟩), .int .i64 (c : Int)] w fun e w' => e = .returned (.tuple #[]) ∧ ∃ B', MapAt w' b B' (resizeM m c) ∧ Kept (mown b B m.o) w w' ∧ From w b B B' m.o := by
  by_cases h0 : m.o = 0
  · exact mresize_0 b B m c hc hd w h h0
  · obtain ⟨q, hq, _⟩ := h.cp 0 (by omega)
    exact mresize_q b q B m c hc hd w h hq
end Go.Proofs.Ytcgbefmjnhkdgaa.H
