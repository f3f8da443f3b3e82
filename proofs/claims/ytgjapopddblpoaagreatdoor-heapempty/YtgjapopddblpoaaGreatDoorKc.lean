import Derived.Test.YtgjapopddblpoaaGreatDoorKb
import Derived.ArgAppend
import Derived.Laws.OwnMore
import Derived.Maps.AppendAt
import Derived.Deep.RegionLaw
import Derived.Deep.OwnRows
import Derived.Lib.AppendZeros
/- pagemap: Flip. -/
namespace Go.Proofs.YtgjapopddblpoaaGreatDoor
open Go.RowKit
set_option linter.unusedVariables false

def upw (wd : Nat → List Nat) (k : Nat) (ws : List Nat) : Nat → List Nat := fun j => if j = k then ws else wd j
theorem MapAt.words {w w' b B m} {ws : List Nat} (h : MapAt w b B m) (k : Nat) (hk : k < m.o) (kp : Kept (fun x => x = B.C k) w w') (hS : SetAt w' (B.S k) (B.C k) (m.n / 2 ^ (k + 1)) ws) : MapAt w' b B { m with wd := upw m.wd k ws } := by
  obtain ⟨cq, hb, hp⟩ := h.hb
  have s0 := h.set k hk
  refine ⟨h.o8, h.n1, h.dv, ⟨cq, (kp.block b (heap_lt hb) (ty_ne hb s0.hc (by decide))).trans hb, hp.kept kp (fun x e => ?_)⟩, Rows.kept h.row kp (fun x e => ?_), fun j hj => ?_, h.injS, h.injC, h.ok⟩
  · rw [e] at hp
    obtain ⟨ds, hq, _⟩ := hp
    exact ty_ne hq s0.hc (by decide)
  · have hr := h.row
    rw [e] at hr
    obtain ⟨cs, hgb, _⟩ := hr
    exact ty_ne hgb s0.hc (by decide)
  · show SetAt w' (B.S j) (B.C j) (m.n / 2 ^ (j + 1)) (upw m.wd k ws j)
    unfold upw
    by_cases e : j = k
    · rw [if_pos e, e]
      exact hS
    · rw [if_neg e]
      have s := h.set j hj
      exact s.kept kp (ty_ne s.hb s0.hc (by decide)) (fun e2 => e (h.injC j k hj hk e2))
theorem shr_run (i k : Nat) (hk : k < 8) (W : World) : Sem.run Tryz.prog (Op.shift BinOp.shr IntKind.i64 (i : Int) IntKind.i64 (IntKind.i64.wrap ((k : Int) + 1))) W = Result.ok (.int .i64 ((i / 2 ^ (k + 1) : Nat) : Int)) W := by
  have hw : IntKind.i64.wrap ((k : Int) + 1) = ((k + 1 : Nat) : Int) := by rw [IntKind.wrap_i64]; omega
  rw [hw]
  unfold Op.shift
  simp [go_sem]
  rw [if_neg (by omega), Nat.min_eq_left (by omega), Int.fdiv_eq_ediv_of_nonneg _ (Int.le_of_lt (Int.pow_pos (by decide)))]
theorem Flip_no (b : Nat) (B : Bs) (m : Mp) (k i : Int) (w : World) (h : MapAt w b B m) (hp : (inR m.o k && inR m.n i) = false) :
    Calls Tryz.prog 214 #[.pointer (some ⟨b, 0, none⟩), .int .i64 k, .int .i64 i] w fun e w' => e = .returned (.tuple #[.bool false, .int .i64 1]) ∧ Kept none' w w' := by
  have HM := hid h
  have HP := hid hp
  clear h hp
  go_enter Tryz.func214, Tryz.ntmps214
  go_wp2_with fail
  refine (hasPair_any b B m k i _ HM.out).mono ?_
  rintro e w1 ⟨rfl, rfl⟩
  rw [HP.out]
  go_wp2_with fail
  exact ⟨rfl, _, by simp [results, Tryz.results214, go_sem], rfl, Kept.refl none' _⟩
theorem flipI_in {n k : Nat} (ws : List Nat) (h : k < n) : flipI n ws (k : Int) = flipW ws k := by
  unfold flipI
  rw [if_pos (inR_yes h)]
  simp
theorem Flip_in (b : Nat) (B : Bs) (m : Mp) (k i : Nat) (w : World) (h : MapAt w b B m) (hk : k < m.o) (hi : i < m.n) :
    Calls Tryz.prog 214 #[.pointer (some ⟨b, 0, none⟩), .int .i64 (k : Int), .int .i64 (i : Int)] w fun e w' => e = .returned (.tuple #[.bool (inS (m.n / 2 ^ (k + 1)) (flipI (m.n / 2 ^ (k + 1)) (m.wd k) ((i / 2 ^ (k + 1) : Nat) : Int)) ((i / 2 ^ (k + 1) : Nat) : Int)), .int .i64 0]) ∧ MapAt w' b B { m with wd := upw m.wd k (flipI (m.n / 2 ^ (k + 1)) (m.wd k) ((i / 2 ^ (k + 1) : Nat) : Int)) } ∧ Kept (mown b B m.o) w w' := by
  have HM := hid h
  have HP := hid (show (inR m.o (k : Int) && inR m.n (i : Int)) = true by rw [inR_yes hk, inR_yes hi]; rfl)
  obtain ⟨q, hq, cp⟩ := h.cp k hk
  obtain ⟨cq, c2⟩ := h.c2 hq
  have FL := hid (fun w' (kk : Kept none' w w') => flip_any (B.S k) (B.C k) _ (m.wd k) ((i / 2 ^ (k + 1) : Nat) : Int) w' ((h.set k hk).kept kk (fun x => x) (fun x => x)))
  have hk8 : k < 8 := by have := h.o8; omega
  have hi10 : i < 1024 := by have := h.n1; omega
  have hki : (k : Int) < (m.o : Int) := by omega
  have hsh := shr_run i k hk8
  have HK := hid hk
  have HI := hid hi
  clear h hq hk hi
  go_enter Tryz.func214, Tryz.ntmps214
  go_wp2_with fail
  refine (hasPair_any b B m k i _ HM.out).mono ?_
  rintro e w1 ⟨rfl, rfl⟩
  rw [HP.out]
  go_wp2_with fail
  go_region_with ((go_at_call 224; refine (FL.out _ (Kept.refl none' w1).drew).mono ?_; rintro e w2 ⟨rfl, hS, hK, hsz⟩))
  all_goals
    have M2 := hid ((HM.out.keep (Kept.refl none' _).drew).words k HK.out hK hS)
    have K2 := hid (show Kept (mown b B m.o) w1 w2 from (Kept.refl none' w1).drew.trans hK (fun _ _ x => x.elim) (fun x _ e => .inr (.inr (.inr ⟨k, HK.out, .inr e⟩))))
    clear hS hK hsz
    have PI := hid (Pair_in b B _ k i w2 M2.out HK.out HI.out)
    go_wp2_with fail
    refine PI.out.mono ?_
    rintro e w3 ⟨rfl, hK3⟩
    have M3 := hid (M2.out.keep hK3)
    have K3 := hid (K2.out.trans (U := mown b B m.o) hK3 (fun _ _ x => x) (fun _ _ x => x.elim))
    clear hK3
    go_wp2_with fail
    exact ⟨rfl, _, by simp [results, Tryz.results214, go_sem, upw], rfl, M3.out, K3.out⟩
end Go.Proofs.YtgjapopddblpoaaGreatDoor
/- Pages are made and copied. -/
namespace Go.Proofs.YtgjapopddblpoaaGreatDoor
open Go.RowKit
set_option linter.unusedVariables false

theorem info_page : (Tryz.prog.info? 103).map (fun i => (i.zero, i.size, i.bytes)) = some (some (pval zeroP), 11, 88) := by kernel_rfl
theorem info_page_parts : ∃ i, Tryz.prog.info? 103 = some i ∧ i.zero = some (pval zeroP) ∧ i.size = 11 ∧ i.bytes = 88 := by
  obtain ⟨i, hi, hzz⟩ := Option.map_eq_some_iff.1 info_page
  simp only [Prod.mk.injEq] at hzz
  exact ⟨i, hi, hzz.1, hzz.2.1, hzz.2.2⟩
theorem fld_one (p : Pg) (j : Nat) : (p.fld j).oneCell' = true := by unfold Pg.fld; split <;> rfl
theorem make_pages (c : Nat) (hc : c ≤ 1024) (w : World) :
    ∃ w1, (Instr.makeSlice 138 (.int .i64 (c : Int)) (.int .i64 (c : Int))).run Tryz.prog w = .ok (.slice (some ⟨w.heap.size, 0, none⟩) c c) w1 ∧ Row w1 w.heap.size c (fun _ => zeroP) ∧ Kept none' w w1 ∧ w1.heap.size = w.heap.size + 1 := by
  obtain ⟨i, hi, hz, hs, hb⟩ := info_page_parts
  have hr := run_make (P := Tryz.prog) w 138 103 i (pval zeroP) Tryz.underlying138 hi hz .i64 .i64 (c : Int) (c : Int) (by omega) (Int.le_refl _) (by rw [hb]; omega) (by omega)
  simp only [Int.toNat_natCast] at hr
  refine ⟨_, hr, ⟨_, heap_new w _, by rw [size_madeCells, hs], fun a ha b hb => ?_⟩, (Kept.refl none' w).alloc _, by simp⟩
  rw [hs]
  have hlt : a * 11 + b < c * 11 := by omega
  have hsz : (Value.cells (pval zeroP)).size = 11 := rfl
  simp only [madeCells]
  rw [Array.getElem?_map, Array.getElem?_range, if_pos hlt, Option.map_some, hsz, show (a * 11 + b) % 11 = b by omega]
  exact lt11 (P := fun b => some ((Value.cells (pval zeroP))[b]!) = some (zeroP.fld b)) rfl rfl rfl rfl rfl rfl rfl rfl rfl rfl rfl b hb
theorem run_copy_pages (w : World) (ty : TypeId) (g dLen dCap : Nat) (a : Addr) (sLen sCap : Nat) (cur : Array Value) (cs : List Value)
    (hg : w.heap[g]? = some (.cells cur 103 (0, 0))) (hn : cs.length = Nat.min sLen dLen * 11)
    (hsrc : ∀ j v, cs[j]? = some v → w.cell? (a.add j) = some v) (hfit : cs.length ≤ cur.size) (h1 : ∀ v ∈ cs, v.oneCell' = true) :
    (Builtin.copy_ #[138, 138] ty #[.slice (some ⟨g, 0, none⟩) dLen dCap, .slice (some a) sLen sCap]).run Tryz.prog w =
      .ok (goInt (Nat.min sLen dLen : Nat)) (w.setRow g (cur.toList.take 0 ++ cs ++ cur.toList.drop (0 + cs.length)).toArray) := by
  have hl := run_loadCells_list (P := Tryz.prog) w a cs hsrc
  have hst := run_storeCells_at Tryz.prog g 0 103 cs 0 cur w hg (by simpa using hfit) h1
  obtain ⟨i, hi, hz, hs, hb⟩ := info_page_parts
  rw [hn] at hl
  simp [Builtin.copy_, run_underlying Tryz.underlying138, Builtin.lenOf, Builtin.firstCells, sizeOf, typeInfo, hi, hs, hl, hst]
theorem copy_pages (w : World) (g c : Nat) (gs : Option Nat) (n : Nat) (pd pg : Nat → Pg) (hg : Row w g c pd) (hs : Rows w gs n pg) :
    ∃ (k : Nat) (w2 : World), (∀ ty, (Builtin.copy_ #[138, 138] ty #[.slice (some ⟨g, 0, none⟩) c c, .slice (adr gs) n n]).run Tryz.prog w = .ok (goInt k) w2) ∧ Row w2 g c (fun i => if i < n then pg i else pd i) ∧ Kept (fun x => x = g) w w2 ∧ w2.heap.size = w.heap.size := by
  cases gs with
  | none =>
    have h0 : n = 0 := hs
    subst h0
    refine ⟨0, w, fun ty => ?_, ?_, Kept.refl _ _, rfl⟩
    · exact run_copy_nil (P := Tryz.prog) w 138 138 ty 103 _ c c Tryz.underlying138 (by obtain ⟨i, hi, _⟩ := info_page_parts; rw [hi]; rfl)
    · exact Row.congr hg (fun i hi => by simp)
  | some q =>
    obtain ⟨cur, hgb, hsz, hcc⟩ := hg
    obtain ⟨sr, hqb, hsz2, hsc⟩ := hs
    obtain ⟨cs, hcs⟩ : ∃ cs : List Value, cs = sr.toList.take (Nat.min n c * 11) := ⟨_, rfl⟩
    have hmn : Nat.min n c ≤ n ∧ Nat.min n c ≤ c := ⟨Nat.min_le_left _ _, Nat.min_le_right _ _⟩
    have hmm : (n ≤ c ∧ Nat.min n c = n) ∨ (c ≤ n ∧ Nat.min n c = c) := (Nat.le_total n c).imp (fun h => ⟨h, Nat.min_eq_left h⟩) (fun h => ⟨h, Nat.min_eq_right h⟩)
    have hlen : cs.length = Nat.min n c * 11 := by rw [hcs, List.length_take, Array.length_toList, hsz2]; omega
    refine ⟨Nat.min n c, w.setRow g (cur.toList.take 0 ++ cs ++ cur.toList.drop (0 + cs.length)).toArray, fun ty => ?_, ?_, ⟨rfl, rfl, rfl, by simp [World.setRow], fun k hk hn => setRow_other w g k _ hn⟩, by simp [World.setRow]⟩
    · refine run_copy_pages w ty g c c ⟨q, 0, none⟩ n n cur cs hgb hlen (fun j v hj => ?_) (by omega) (fun v hv => ?_)
      · rw [Addr.add_lit, Nat.zero_add]
        rw [hcs, List.getElem?_take] at hj
        split at hj
        · simpa [World.cell?, hqb] using hj
        · cases hj
      · rw [hcs] at hv
        have hv2 := List.mem_of_mem_take hv
        obtain ⟨j, hj, rfl⟩ := List.mem_iff_getElem.1 hv2
        have hj2 : j < n * 11 := by simpa [hsz2] using hj
        have := hsc (j / 11) (by omega) (j % 11) (by omega)
        rw [show j / 11 * 11 + j % 11 = j by omega] at this
        have e : sr.toList[j] = ((pg (j / 11)).fld (j % 11)) := by
          have h2 : sr[j]? = some sr.toList[j] := by simp
          rw [h2] at this
          exact Option.some.inj this
        rw [e]
        exact fld_one _ _
    · refine ⟨_, setRow_heap w g cur _ 103 (0, 0) hgb, ?_, fun a ha b hb => ?_⟩
      · simp [hlen, hsz]; omega
      · simp only [List.take_zero, List.nil_append, Nat.zero_add, List.getElem?_toArray]
        by_cases hl : a * 11 + b < cs.length
        · rw [List.getElem?_append_left hl, if_pos (by omega), hcs, List.getElem?_take, if_pos (by omega)]
          simpa using hsc a (by omega) b hb
        · rw [List.getElem?_append_right (by omega), List.getElem?_drop, if_neg (by omega)]
          rw [show cs.length + (a * 11 + b - cs.length) = a * 11 + b by omega]
          simpa using hcc a ha b hb
end Go.Proofs.YtgjapopddblpoaaGreatDoor
/- pagemap: resize. -/
namespace Go.Proofs.YtgjapopddblpoaaGreatDoor
open Go.RowKit
set_option linter.unusedVariables false

def resizeM (m : Mp) (c : Nat) : Mp := ⟨m.o, c, fun i => if i < m.n then m.pg i else zeroP, fun k => ofW (m.wd k) (c / 2 ^ (k + 1))⟩
/-- Where the blocks of a map come from: they were its own, or they are new. -/
def From (w : World) (b : Nat) (B B' : Bs) (o : Nat) : Prop := ∀ x, mown b B' o x → mown b B o x ∨ w.heap.size ≤ x
/-- While the sets are resized. -/
structure Rz (w W : World) (b : Nat) (B : Bs) (m : Mp) (c g k : Nat) (C : Nat → Nat) : Prop where
  hb : ∃ cq, W.heap[b]? = some (.cells #[.int .i64 (m.o : Int), .slice (some ⟨g, 0, none⟩) c c, .slice (adr B.P) m.o cq] 141 (0, 0)) ∧ Prs W B.P m.o cq B.S
  row : Row W g c (fun i => if i < m.n then m.pg i else zeroP)
  old : ∀ j, k ≤ j → j < m.o → SetAt W (B.S j) (C j) (m.n / 2 ^ (j + 1)) (m.wd j)
  new : ∀ j, j < k → j < m.o → SetAt W (B.S j) (C j) (c / 2 ^ (j + 1)) (ofW (m.wd j) (c / 2 ^ (j + 1)))
  inj : ∀ i j, i < m.o → j < m.o → C i = C j → i = j
  kp : Kept (mown b B m.o) w W
  hg : w.heap.size ≤ g
  fr : ∀ j, j < m.o → C j = B.C j ∨ w.heap.size ≤ C j
theorem Rz.any {w W b B m c g k C} (h : Rz w W b B m c g k C) (j : Nat) (hj : j < m.o) : ∃ n ws, SetAt W (B.S j) (C j) n ws := by
  by_cases e : j < k
  · exact ⟨_, _, h.new j e hj⟩
  · exact ⟨_, _, h.old j (by omega) hj⟩
theorem Rz.next {w W W' b B m c g k C} (h : Rz w W b B m c g k C) (hk : k < m.o) (inS : ∀ i j, i < m.o → j < m.o → B.S i = B.S j → i = j) (hS : SetAt W' (B.S k) W.heap.size (c / 2 ^ (k + 1)) (ofW (m.wd k) (c / 2 ^ (k + 1)))) (kp : Kept (fun x => x = B.S k) W W') :
    Rz w W' b B m c g (k + 1) (fun j => if j = k then W.heap.size else C j) := by
  obtain ⟨cq, hb, hp⟩ := h.hb
  obtain ⟨n0, ws0, s0⟩ := h.any k hk
  obtain ⟨cs, hgb, hrow⟩ := h.row
  have lt : ∀ j, j < m.o → C j < W.heap.size := fun j hj => by
    obtain ⟨_, _, s⟩ := h.any j hj
    exact heap_lt s.hc
  refine ⟨⟨cq, (kp.block b (heap_lt hb) (ty_ne hb s0.hb (by decide))).trans hb, hp.kept kp (fun x e => ?_)⟩, RowC.kept h.row kp (ty_ne hgb s0.hb (by decide)), fun j hj hj2 => ?_, fun j hj hj2 => ?_, fun i j hi hj e => ?_, h.kp.trans kp (fun _ _ x => x) (fun x _ e => .inr (.inr (.inr ⟨k, hk, .inl e⟩))), h.hg, fun j hj => ?_⟩
  · rw [e] at hp
    obtain ⟨ds, hq, _⟩ := hp
    exact ty_ne hq s0.hb (by decide)
  · rw [if_neg (by omega)]
    have s := h.old j (by omega) hj2
    exact s.kept kp (fun e => by have := inS j k hj2 hk e; omega) (ty_ne s.hc s0.hb (by decide))
  · by_cases e : j = k
    · rw [if_pos e, e]
      exact hS
    · rw [if_neg e]
      have s := h.new j (by omega) hj2
      exact s.kept kp (fun e => by have := inS j k hj2 hk e; omega) (ty_ne s.hc s0.hb (by decide))
  · by_cases e1 : i = k <;> by_cases e2 : j = k
    · omega
    · rw [if_pos e1, if_neg e2] at e
      have := lt j hj
      omega
    · rw [if_neg e1, if_pos e2] at e
      have := lt i hi
      omega
    · rw [if_neg e1, if_neg e2] at e
      exact h.inj i j hi hj e
  · by_cases e : j = k
    · rw [if_pos e]
      exact .inr h.kp.size
    · rw [if_neg e]
      exact h.fr j hj
theorem fit_nat (n : Nat) (h : n ≤ 1048576) : fit (n : Int) = n := by unfold fit; split <;> (try split) <;> omega
theorem Prs.cell {w q o cq S} (h : Prs w (some q) o cq S) (k : Nat) (hk : k < o) : w.cell? ⟨q, k, none⟩ = some (.pointer (some ⟨S k, 0, none⟩)) := by
  obtain ⟨cs, hg, h2, h3, h4⟩ := h
  simp [World.cell?, hg, h4 k hk]
set_option maxRecDepth 4000 in
theorem mresize_0 (b : Nat) (B : Bs) (m : Mp) (c : Nat) (hc : c ≤ 1024) (hd : ∃ r, c = r * 2 ^ m.o) (w : World) (h : MapAt w b B m) (h0 : m.o = 0) :
    Calls Tryz.prog 189 #[.pointer (some ⟨b, 0, none⟩), .int .i64 (c : Int)] w fun e w' => e = .returned (.tuple #[]) ∧ ∃ B', MapAt w' b B' (resizeM m c) ∧ Kept (mown b B m.o) w w' ∧ From w b B B' m.o := by
  obtain ⟨cq, c0, c1, c2⟩ := h.cb
  obtain ⟨w1, hmk, hr1, hk1, hs1⟩ := make_pages c hc w
  have M1 := hid (h.keep hk1)
  obtain ⟨kk, w2, hcp, hr2, hk2, hs2⟩ := copy_pages w1 w.heap.size c B.g m.n (fun _ => zeroP) m.pg hr1 M1.out.row
  obtain ⟨cq1, d0, d1, d2⟩ := M1.out.cb
  have R2 := hid hr2
  have K2 := hid (show Kept none' w w2 from hk1.trans hk2 (fun _ _ x => x) (fun x hx e => by omega))
  have M2 := hid (h.keep K2.out)
  obtain ⟨cq2, e0, e1, e2⟩ := M2.out.cb
  have z := M2.out.bz
  have HO := hid h
  have hbl : b < w.heap.size := h.own_lt b (.inl rfl)
  have HBL := hid hbl
  have HD := hid hd
  have HZ := hid h0
  clear h hr1 hk1 hr2 hk2 hd h0
  go_enter Tryz.func189, Tryz.ntmps189
  go_wp2_with fail
  have H0 := hid (show Rz w (w2.setCell ⟨b, 1, none⟩ (.slice (some ⟨w.heap.size, 0, none⟩) c c)) b B m c w.heap.size 0 B.C from by
    obtain ⟨cq, hb, hp⟩ := M2.out.hb
    obtain ⟨cs, hgb, _⟩ := R2.out
    have k : Kept (fun x => x = b) w2 (w2.setCell ⟨b, 1, none⟩ (.slice (some ⟨w.heap.size, 0, none⟩) c c)) := (Kept.refl (fun x => x = b) w2).setCell (p := ⟨b, 1, none⟩) rfl _
    refine ⟨⟨cq, (heap_set hb 1 _).trans (by simp), hp.kept k (fun x e => ?_)⟩, Row.kept R2.out k (fun e => by have := HBL.out; omega), fun j _ hj => (M2.out.set j hj).kept k (ty_ne (M2.out.set j hj).hb hb (by decide)) (ty_ne (M2.out.set j hj).hc hb (by decide)), fun j hj => absurd hj (by omega), M2.out.injC, K2.out.trans k (fun _ _ x => x.elim) (fun x _ e => .inl e), Nat.le_refl _, fun j _ => .inl rfl⟩
    rw [e] at hp
    obtain ⟨ds, hq, _⟩ := hp
    exact ty_ne hq hb (by decide))
  clear M1 M2 R2 K2 c0 c1 c2 d0 d1 d2 e0 e1 e2 z hmk hcp hs1 hs2
  go_loopw [5, 6, 24] (fun x y i W => ∃ k : Nat, k ≤ m.o ∧ i = .int .i64 k ∧ Hid (∃ C, Rz w W b B m c w.heap.size k C)) (fun _ _ i _ => m.o - (intOf i).toNat)
  case atStart => exact ⟨0, by omega, rfl, ⟨B.C, H0.out⟩⟩
  case round =>
    clear H0
    obtain ⟨k, hk, rfl, hR⟩ := hrel
    obtain ⟨C, hR⟩ := hR.out
    have HR := hid hR
    clear hR
    have hki : ¬ (k : Int) < (m.o : Int) := by have := HZ.out; omega
    · obtain rfl : k = m.o := by have := HZ.out; omega
      go_wp2_with fail
      go_end0
      refine ⟨rfl, ⟨some w.heap.size, B.P, B.S, C⟩, ?_, HR.out.kp, ?_⟩
      · refine ⟨HO.out.o8, hc, HD.out, HR.out.hb, HR.out.row, fun j hj => HR.out.new j hj hj, HO.out.injS, HR.out.inj, fun i hi => ?_⟩
        show PgOk (if i < m.n then m.pg i else zeroP)
        split
        · rename_i e
          exact HO.out.ok i e
        · exact PgOk.zero
      · rintro x (e | e | e | ⟨j, hj, e | e⟩)
        · exact .inl (.inl e)
        · cases e
          exact .inr (Nat.le_refl _)
        · exact .inl (.inr (.inr (.inl e)))
        · exact .inl (.inr (.inr (.inr ⟨j, hj, .inl e⟩)))
        · rcases HR.out.fr j hj with e2 | e2
          · exact .inl (.inr (.inr (.inr ⟨j, hj, .inr (e.trans e2)⟩)))
          · exact .inr (by rw [show x = C j from e]; exact e2)
set_option maxRecDepth 4000 in
theorem mresize_q (b q : Nat) (B : Bs) (m : Mp) (c : Nat) (hc : c ≤ 1024) (hd : ∃ r, c = r * 2 ^ m.o) (w : World) (h : MapAt w b B m) (hq : B.P = some q) :
    Calls Tryz.prog 189 #[.pointer (some ⟨b, 0, none⟩), .int .i64 (c : Int)] w fun e w' => e = .returned (.tuple #[]) ∧ ∃ B', MapAt w' b B' (resizeM m c) ∧ Kept (mown b B m.o) w w' ∧ From w b B B' m.o := by
  obtain ⟨cq, c0, c1, c2⟩ := h.cb
  obtain ⟨w1, hmk, hr1, hk1, hs1⟩ := make_pages c hc w
  have M1 := hid (h.keep hk1)
  obtain ⟨kk, w2, hcp, hr2, hk2, hs2⟩ := copy_pages w1 w.heap.size c B.g m.n (fun _ => zeroP) m.pg hr1 M1.out.row
  obtain ⟨cq1, d0, d1, d2⟩ := M1.out.cb
  have R2 := hid hr2
  have K2 := hid (show Kept none' w w2 from hk1.trans hk2 (fun _ _ x => x) (fun x hx e => by omega))
  have M2 := hid (h.keep K2.out)
  obtain ⟨cq2, e0, e1, e2⟩ := M2.out.cb
  have z := M2.out.bz
  rw [show adr B.P = some ⟨q, 0, none⟩ by rw [hq]; rfl] at c2 d2 e2
  have HQ := hid hq
  have HO := hid h
  have hbl : b < w.heap.size := h.own_lt b (.inl rfl)
  have HBL := hid hbl
  have HD := hid hd
  clear h hr1 hk1 hr2 hk2 hd hq
  go_enter Tryz.func189, Tryz.ntmps189
  go_wp2_with fail
  have H0 := hid (show Rz w (w2.setCell ⟨b, 1, none⟩ (.slice (some ⟨w.heap.size, 0, none⟩) c c)) b B m c w.heap.size 0 B.C from by
    obtain ⟨cq, hb, hp⟩ := M2.out.hb
    obtain ⟨cs, hgb, _⟩ := R2.out
    have k : Kept (fun x => x = b) w2 (w2.setCell ⟨b, 1, none⟩ (.slice (some ⟨w.heap.size, 0, none⟩) c c)) := (Kept.refl (fun x => x = b) w2).setCell (p := ⟨b, 1, none⟩) rfl _
    refine ⟨⟨cq, (heap_set hb 1 _).trans (by simp), hp.kept k (fun x e => ?_)⟩, Row.kept R2.out k (fun e => by have := HBL.out; omega), fun j _ hj => (M2.out.set j hj).kept k (ty_ne (M2.out.set j hj).hb hb (by decide)) (ty_ne (M2.out.set j hj).hc hb (by decide)), fun j hj => absurd hj (by omega), M2.out.injC, K2.out.trans k (fun _ _ x => x.elim) (fun x _ e => .inl e), Nat.le_refl _, fun j _ => .inl rfl⟩
    rw [e] at hp
    obtain ⟨ds, hq, _⟩ := hp
    exact ty_ne hq hb (by decide))
  clear M1 M2 R2 K2 c0 c1 c2 d0 d1 d2 e0 e1 e2 z hmk hcp hs1 hs2
  go_loopw [5, 6, 24] (fun x y i W => ∃ k : Nat, k ≤ m.o ∧ i = .int .i64 k ∧ Hid (∃ C, Rz w W b B m c w.heap.size k C)) (fun _ _ i _ => m.o - (intOf i).toNat)
  case atStart => exact ⟨0, by omega, rfl, ⟨B.C, H0.out⟩⟩
  case round =>
    clear H0
    obtain ⟨k, hk, rfl, hR⟩ := hrel
    obtain ⟨C, hR⟩ := hR.out
    have HR := hid hR
    clear hR
    by_cases hlt : k < m.o
    · have hki : (k : Int) < (m.o : Int) := by omega
      have hpc : wr.cell? ⟨q, k, none⟩ = some (.pointer (some ⟨B.S k, 0, none⟩)) := by
        obtain ⟨cq, _, hp⟩ := HR.out.hb
        rw [HQ.out] at hp
        exact hp.cell k hlt
      have hk8 : k < 8 := by have := HO.out.o8; omega
      have PC := hid (pairCount_any k c hk8 hc)
      have hle : c / 2 ^ (k + 1) ≤ 1024 := Nat.le_trans (Nat.div_le_self _ _) hc
      have HN := hid (fun W2 hS hK => HR.out.next (W' := W2) hlt HO.out.injS hS hK)
      generalize c / 2 ^ (k + 1) = d at PC hle HN
      have RS := hid (resize_any (B.S k) (C k) (m.n / 2 ^ (k + 1)) (m.wd k) (d : Int) (by omega) (by omega) wr (HR.out.old k (Nat.le_refl _) hlt))
      rw [fit_nat _ (by omega)] at RS
      clear hle
      go_wp2_with fail
      refine (PC.out _).mono ?_
      rintro e W1 ⟨rfl, rfl⟩
      go_wp2_with fail
      refine RS.out.mono ?_
      rintro e W2 ⟨rfl, hS, hK, hsz⟩
      have HN := hid (HN.out W2 hS hK)
      clear hS hK hsz
      go_wp2_with fail
      exact ⟨⟨k + 1, by omega, by simp, ⟨_, HN.out⟩⟩, by simp [intOf]; omega⟩
    · obtain rfl : k = m.o := by omega
      go_wp2_with fail
      go_end0
      refine ⟨rfl, ⟨some w.heap.size, B.P, B.S, C⟩, ?_, HR.out.kp, ?_⟩
      · refine ⟨HO.out.o8, hc, HD.out, HR.out.hb, HR.out.row, fun j hj => HR.out.new j hj hj, HO.out.injS, HR.out.inj, fun i hi => ?_⟩
        show PgOk (if i < m.n then m.pg i else zeroP)
        split
        · rename_i e
          exact HO.out.ok i e
        · exact PgOk.zero
      · rintro x (e | e | e | ⟨j, hj, e | e⟩)
        · exact .inl (.inl e)
        · cases e
          exact .inr (Nat.le_refl _)
        · exact .inl (.inr (.inr (.inl e)))
        · exact .inl (.inr (.inr (.inr ⟨j, hj, .inl e⟩)))
        · rcases HR.out.fr j hj with e2 | e2
          · exact .inl (.inr (.inr (.inr ⟨j, hj, .inr (e.trans e2)⟩)))
          · exact .inr (by rw [show x = C j from e]; exact e2)
theorem mresize_any (b : Nat) (B : Bs) (m : Mp) (c : Nat) (hc : c ≤ 1024) (hd : ∃ r, c = r * 2 ^ m.o) (w : World) (h : MapAt w b B m) :
    Calls Tryz.prog 189 #[.pointer (some ⟨b, 0, none⟩), .int .i64 (c : Int)] w fun e w' => e = .returned (.tuple #[]) ∧ ∃ B', MapAt w' b B' (resizeM m c) ∧ Kept (mown b B m.o) w w' ∧ From w b B B' m.o := by
  by_cases h0 : m.o = 0
  · exact mresize_0 b B m c hc hd w h h0
  · obtain ⟨q, hq, _⟩ := h.cp 0 (by omega)
    exact mresize_q b q B m c hc hd w h hq
end Go.Proofs.YtgjapopddblpoaaGreatDoor
/- pagemap: Run. -/
namespace Go.Proofs.YtgjapopddblpoaaGreatDoor
open Go.RowKit
set_option linter.unusedVariables false

def runP (pg : Nat → Pg) (p o : Nat) (k : Int) : Nat → Pg := fun i => if i = p then blankP k o else if p < i ∧ i < p + 2 ^ o then blankP (k + 1) o else pg i
theorem run_fits {n mo p o r : Nat} (hn : n = r * 2 ^ mo) (ho : o ≤ mo) (hp : p < n) (hm : p % 2 ^ o = 0) : p + 2 ^ o ≤ n := by
  obtain ⟨d, rfl⟩ : ∃ d, mo = o + d := ⟨mo - o, by omega⟩
  obtain ⟨a, ha⟩ : ∃ a, p = a * 2 ^ o := ⟨p / 2 ^ o, by have := Nat.div_add_mod p (2 ^ o); rw [hm, Nat.add_zero, Nat.mul_comm] at this; exact this.symm⟩
  obtain ⟨b, hb⟩ : ∃ b, n = b * 2 ^ o := ⟨r * 2 ^ d, by rw [hn, Nat.pow_add, Nat.mul_comm (2 ^ o), Nat.mul_assoc]⟩
  have h0 : 0 < 2 ^ o := pw_pos o
  generalize 2 ^ o = z at *
  subst ha hb
  have : a < b := Nat.lt_of_mul_lt_mul_right hp
  calc a * z + z = (a + 1) * z := by rw [Nat.add_mul, Nat.one_mul]
    _ ≤ b * z := Nat.mul_le_mul_right _ this
set_option maxRecDepth 4000 in
set_option maxHeartbeats 4000000 in
theorem Run_ok (b : Nat) (B : Bs) (m : Mp) (p o k : Nat) (w : World) (h : MapAt w b B m) (hp : p < m.n) (ho : o ≤ m.o) (hm : p % 2 ^ o = 0) (hk : k = 0 ∨ k = 2) :
    Calls Tryz.prog 138 #[.pointer (some ⟨b, 0, none⟩), .int .i64 (p : Int), .int .i64 (o : Int), .int .i64 (k : Int)] w fun e w' => e = .returned (.int .i64 0) ∧ MapAt w' b B { m with pg := runP m.pg p o k } ∧ Kept (mown b B m.o) w w' := by
  obtain ⟨r, hr⟩ := h.dv
  have hfit := run_fits hr ho hp hm
  have ho8 : o ≤ 8 := by have := h.o8; omega
  have hn1 := h.n1
  obtain ⟨g, hg, hrow⟩ := h.has_row (by omega)
  have HM := hid h
  have HI := hid (inR_yes hp)
  have HG := hid hg
  have HP := hid hp
  have c0 := h.c0
  have c1 := h.c1 hg
  have hoi : ¬ (m.o : Int) < (o : Int) := by omega
  have hmi : (p : Int) % 2 ^ o = 0 := by
    have : ((p % 2 ^ o : Nat) : Int) = 0 := by rw [hm]; rfl
    simpa using this
  have hpw : 1 ≤ 2 ^ o := pw_pos o
  have hpw2 : 2 ^ o ≤ 256 := Nat.pow_le_pow_right (n := 2) (by decide) ho8
  obtain ⟨z, hz⟩ : ∃ z, z = 2 ^ o := ⟨_, rfl⟩
  have hzi : (2 : Int) ^ o = (z : Int) := by rw [hz]; simp
  rw [← hz] at hfit hpw hpw2
  rw [hzi] at hmi
  have HZ := hid hz
  clear h hr hg hrow hm hz
  rcases hk with rfl | rfl
  · go_enter Tryz.func138, Tryz.ntmps138
    go_wp2_with fail
    refine (has_any b B m p _ HM.out).mono ?_
    rintro e w1 ⟨rfl, rfl⟩
    rw [HI.out]
    go_wp2_with fail
    go_region_with ((go_at_call 184; refine (blank_any 0 o _).mono ?_; rintro e w2 ⟨rfl, hw2⟩; have K2 := hid (show Kept none' w1 w2 by rw [hw2]; exact ((Kept.refl none' w1).drew).alloc _); have R2 := hid (Row.kept (HM.out.rowg HG.out) K2.out (fun x => x)); obtain ⟨d0, d1, d2, d3, d4, d5, d6, d7, d8, d9, d10⟩ := R2.out.cell p HP.out; have zz := RowC.froz R2.out; have c1 := (HM.out.keep K2.out).c1 HG.out; clear hw2))
    all_goals
      have R3 := hid (R2.out.put p HP.out (blankP 0 o))
      have K3 := hid (show Kept (fun x => x = g) w1 (setP w2 g p (blankP 0 o)) from K2.out.trans (setP_kept w2 g p _) (fun _ _ x => x.elim) (fun _ _ x => x))
      generalize hW : setP w2 g p (blankP 0 o) = W at R3 K3
      unfold setP at hW
      rw [hW]
      clear hW K2 R2 d0 d1 d2 d3 d4 d5 d6 d7 d8 d9 d10 zz c1
      go_wp2_with fail
      have H0 := hid (show Row W g m.n (fun i => if i = p then blankP 0 o else if p < i ∧ i < p + 1 then blankP 1 o else m.pg i) from R3.out.congr (fun i hi => by unfold upp; by_cases e : i = p <;> simp [e]; omega))
      go_loopw [10] (fun i W => ∃ q : Nat, p + 1 ≤ q ∧ q ≤ p + z ∧ i = .int .i64 (q : Int) ∧ Hid (Row W g m.n (fun i => if i = p then blankP 0 o else if p < i ∧ i < q then blankP 1 o else m.pg i) ∧ Kept (fun x => x = g) w1 W)) (fun i _ => p + z - (intOf i).toNat)
      case atStart => exact ⟨p + 1, Nat.le_refl _, by omega, by simp, ⟨H0.out, K3.out⟩⟩
      case round =>
        clear H0 K3 R3
        obtain ⟨q, hq1, hqz, rfl, hR⟩ := hrel
        have HR := hid hR.out
        clear hR
        have KW := hid (show MapAt wr b B _ from HM.out.pages HG.out HR.out.2 HR.out.1 (fun i hi => by
          by_cases e : i = p
          · simp only [e, if_true]; exact PgOk.blank _ _ (by omega) (by omega)
          · simp only [e, if_false]
            split
            · exact PgOk.blank _ _ (by omega) (by omega)
            · exact HM.out.ok i hi))
        by_cases hlt : q < p + z
        · have hji : (q : Int) < (p : Int) + z := by omega
          have hjn : (q : Int) < (m.n : Int) := by omega
          have HQ := hid (show q < m.n ∧ q < p + z ∧ p + 1 ≤ q by omega)
          have c1 := KW.out.c1 HG.out
          clear hlt hq1 hqz
          go_wp2_with fail
          go_region_with ((go_at_call 184; refine (blank_any 1 o _).mono ?_; rintro e w3 ⟨rfl, hw3⟩; have K4 := hid (show Kept none' wr w3 by rw [hw3]; exact ((Kept.refl none' wr).drew).alloc _); have R4 := hid (Row.kept HR.out.1 K4.out (fun x => x)); obtain ⟨d0, d1, d2, d3, d4, d5, d6, d7, d8, d9, d10⟩ := R4.out.cell q HQ.out.1; have zz := RowC.froz R4.out; have c1 := (KW.out.keep K4.out).c1 HG.out; clear hw3))
          all_goals
            have R5 := hid (R4.out.put q HQ.out.1 (blankP 1 o))
            have K5 := hid (show Kept (fun x => x = g) w1 (setP w3 g q (blankP 1 o)) from (HR.out.2.trans (U := fun x => x = g) K4.out (fun _ _ x => x) (fun _ _ x => x.elim)).trans (setP_kept w3 g q _) (fun _ _ x => x) (fun _ _ x => x))
            generalize hW : setP w3 g q (blankP 1 o) = W5 at R5 K5
            unfold setP at hW
            rw [hW]
            clear hW K4 R4 d0 d1 d2 d3 d4 d5 d6 d7 d8 d9 d10 zz c1
            have R6 := hid (show Row W5 g m.n (fun i => if i = p then blankP 0 o else if p < i ∧ i < q + 1 then blankP 1 o else m.pg i) from R5.out.congr (fun i hi => by
              have := HQ.out
              unfold upp
              by_cases e : i = q
              · simp only [e, if_true]; rw [if_neg (by omega), if_pos (by omega)]
              · simp only [e, if_false]
                by_cases e2 : i = p
                · simp only [e2, if_true]
                · simp only [e2, if_false]
                  by_cases e3 : p < i ∧ i < q
                  · rw [if_pos e3, if_pos (by omega)]
                  · rw [if_neg e3, if_neg (by omega)]))
            go_wp2_with fail
            exact ⟨⟨q + 1, by have := HQ.out; omega, by have := HQ.out; omega, by simp, ⟨R6.out, K5.out⟩⟩, by have := HQ.out; simp [intOf]; omega⟩
        · have hji : ¬ (q : Int) < (p : Int) + z := by omega
          have HQ := hid (show q = p + z by omega)
          clear hlt hq1 hqz
          go_wp2_with fail
          go_ret
          refine ⟨rfl, ?_, HR.out.2.mono (fun x _ e => .inr (.inl (by rw [e]; exact HG.out)))⟩
          have := KW.out
          rw [HQ.out, HZ.out] at this
          exact this
  · go_enter Tryz.func138, Tryz.ntmps138
    go_wp2_with fail
    refine (has_any b B m p _ HM.out).mono ?_
    rintro e w1 ⟨rfl, rfl⟩
    rw [HI.out]
    go_wp2_with fail
    go_region_with ((go_at_call 184; refine (blank_any 2 o _).mono ?_; rintro e w2 ⟨rfl, hw2⟩; have K2 := hid (show Kept none' w1 w2 by rw [hw2]; exact ((Kept.refl none' w1).drew).alloc _); have R2 := hid (Row.kept (HM.out.rowg HG.out) K2.out (fun x => x)); obtain ⟨d0, d1, d2, d3, d4, d5, d6, d7, d8, d9, d10⟩ := R2.out.cell p HP.out; have zz := RowC.froz R2.out; have c1 := (HM.out.keep K2.out).c1 HG.out; clear hw2))
    all_goals
      have R3 := hid (R2.out.put p HP.out (blankP 2 o))
      have K3 := hid (show Kept (fun x => x = g) w1 (setP w2 g p (blankP 2 o)) from K2.out.trans (setP_kept w2 g p _) (fun _ _ x => x.elim) (fun _ _ x => x))
      generalize hW : setP w2 g p (blankP 2 o) = W at R3 K3
      unfold setP at hW
      rw [hW]
      clear hW K2 R2 d0 d1 d2 d3 d4 d5 d6 d7 d8 d9 d10 zz c1
      go_wp2_with fail
      have H0 := hid (show Row W g m.n (fun i => if i = p then blankP 2 o else if p < i ∧ i < p + 1 then blankP 3 o else m.pg i) from R3.out.congr (fun i hi => by unfold upp; by_cases e : i = p <;> simp [e]; omega))
      go_loopw [10] (fun i W => ∃ q : Nat, p + 1 ≤ q ∧ q ≤ p + z ∧ i = .int .i64 (q : Int) ∧ Hid (Row W g m.n (fun i => if i = p then blankP 2 o else if p < i ∧ i < q then blankP 3 o else m.pg i) ∧ Kept (fun x => x = g) w1 W)) (fun i _ => p + z - (intOf i).toNat)
      case atStart => exact ⟨p + 1, Nat.le_refl _, by omega, by simp, ⟨H0.out, K3.out⟩⟩
      case round =>
        clear H0 K3 R3
        obtain ⟨q, hq1, hqz, rfl, hR⟩ := hrel
        have HR := hid hR.out
        clear hR
        have KW := hid (show MapAt wr b B _ from HM.out.pages HG.out HR.out.2 HR.out.1 (fun i hi => by
          by_cases e : i = p
          · simp only [e, if_true]; exact PgOk.blank _ _ (by omega) (by omega)
          · simp only [e, if_false]
            split
            · exact PgOk.blank _ _ (by omega) (by omega)
            · exact HM.out.ok i hi))
        by_cases hlt : q < p + z
        · have hji : (q : Int) < (p : Int) + z := by omega
          have hjn : (q : Int) < (m.n : Int) := by omega
          have HQ := hid (show q < m.n ∧ q < p + z ∧ p + 1 ≤ q by omega)
          have c1 := KW.out.c1 HG.out
          clear hlt hq1 hqz
          go_wp2_with fail
          go_region_with ((go_at_call 184; refine (blank_any 3 o _).mono ?_; rintro e w3 ⟨rfl, hw3⟩; have K4 := hid (show Kept none' wr w3 by rw [hw3]; exact ((Kept.refl none' wr).drew).alloc _); have R4 := hid (Row.kept HR.out.1 K4.out (fun x => x)); obtain ⟨d0, d1, d2, d3, d4, d5, d6, d7, d8, d9, d10⟩ := R4.out.cell q HQ.out.1; have zz := RowC.froz R4.out; have c1 := (KW.out.keep K4.out).c1 HG.out; clear hw3))
          all_goals
            have R5 := hid (R4.out.put q HQ.out.1 (blankP 3 o))
            have K5 := hid (show Kept (fun x => x = g) w1 (setP w3 g q (blankP 3 o)) from (HR.out.2.trans (U := fun x => x = g) K4.out (fun _ _ x => x) (fun _ _ x => x.elim)).trans (setP_kept w3 g q _) (fun _ _ x => x) (fun _ _ x => x))
            generalize hW : setP w3 g q (blankP 3 o) = W5 at R5 K5
            unfold setP at hW
            rw [hW]
            clear hW K4 R4 d0 d1 d2 d3 d4 d5 d6 d7 d8 d9 d10 zz c1
            have R6 := hid (show Row W5 g m.n (fun i => if i = p then blankP 2 o else if p < i ∧ i < q + 1 then blankP 3 o else m.pg i) from R5.out.congr (fun i hi => by
              have := HQ.out
              unfold upp
              by_cases e : i = q
              · simp only [e, if_true]; rw [if_neg (by omega), if_pos (by omega)]
              · simp only [e, if_false]
                by_cases e2 : i = p
                · simp only [e2, if_true]
                · simp only [e2, if_false]
                  by_cases e3 : p < i ∧ i < q
                  · rw [if_pos e3, if_pos (by omega)]
                  · rw [if_neg e3, if_neg (by omega)]))
            go_wp2_with fail
            exact ⟨⟨q + 1, by have := HQ.out; omega, by have := HQ.out; omega, by simp, ⟨R6.out, K5.out⟩⟩, by have := HQ.out; simp [intOf]; omega⟩
        · have hji : ¬ (q : Int) < (p : Int) + z := by omega
          have HQ := hid (show q = p + z by omega)
          clear hlt hq1 hqz
          go_wp2_with fail
          go_ret
          refine ⟨rfl, ?_, HR.out.2.mono (fun x _ e => .inr (.inl (by rw [e]; exact HG.out)))⟩
          have := KW.out
          rw [HQ.out, HZ.out] at this
          exact this
end Go.Proofs.YtgjapopddblpoaaGreatDoor
/- pagemap: Run that is refused, Grow, Shrink. -/
namespace Go.Proofs.YtgjapopddblpoaaGreatDoor
open Go.RowKit
set_option linter.unusedVariables false

/-- May it run? -/
def canRun (m : Mp) (p o k : Int) : Bool := decide ((k = 0 ∨ k = 2) ∧ 0 ≤ o ∧ o ≤ m.o) && (inR m.n p && decide (p % 2 ^ o.toNat = 0))
theorem Run_a (b : Nat) (B : Bs) (m : Mp) (p o k : Int) (w : World) (h : MapAt w b B m) (hc : ¬ ((k = 0 ∨ k = 2) ∧ 0 ≤ o ∧ o ≤ m.o)) :
    Calls Tryz.prog 138 #[.pointer (some ⟨b, 0, none⟩), .int .i64 p, .int .i64 o, .int .i64 k] w fun e w' => e = .returned (.int .i64 1) ∧ w' = w := by
  have c0 := h.c0
  clear h
  by_cases h0 : k = 0
  · subst h0
    by_cases h1 : o < 0
    · clear hc
      go_enter Tryz.func138, Tryz.ntmps138
      go_wp2_with fail
      go_ret
      exact ⟨rfl, rfl⟩
    · have h2 : (m.o : Int) < o := by omega
      clear hc
      go_enter Tryz.func138, Tryz.ntmps138
      go_wp2_with fail
      go_ret
      exact ⟨rfl, rfl⟩
  · by_cases h2k : k = 2
    · subst h2k
      by_cases h1 : o < 0
      · clear hc
        go_enter Tryz.func138, Tryz.ntmps138
        go_wp2_with fail
        go_ret
        exact ⟨rfl, rfl⟩
      · have h2 : (m.o : Int) < o := by omega
        clear hc
        go_enter Tryz.func138, Tryz.ntmps138
        go_wp2_with fail
        go_ret
        exact ⟨rfl, rfl⟩
    · clear hc
      go_enter Tryz.func138, Tryz.ntmps138
      go_wp2_with fail
      go_ret
      exact ⟨rfl, rfl⟩
theorem Run_b (b : Nat) (B : Bs) (m : Mp) (p : Int) (o k : Nat) (w : World) (h : MapAt w b B m) (hk : k = 0 ∨ k = 2) (ho : o ≤ m.o) (hp : inR m.n p = false) :
    Calls Tryz.prog 138 #[.pointer (some ⟨b, 0, none⟩), .int .i64 p, .int .i64 (o : Int), .int .i64 (k : Int)] w fun e w' => e = .returned (.int .i64 1) ∧ w' = w := by
  have c0 := h.c0
  have HM := hid h
  have HP := hid hp
  have hoi : ¬ (m.o : Int) < (o : Int) := by omega
  have ho0 : ¬ (o : Int) < 0 := by omega
  clear h hp
  rcases hk with rfl | rfl
  all_goals
    go_enter Tryz.func138, Tryz.ntmps138
    go_wp2_with fail
    refine (has_any b B m p _ HM.out).mono ?_
    rintro e w1 ⟨rfl, rfl⟩
    rw [HP.out]
    go_wp2_with fail
    go_ret
    exact ⟨rfl, rfl⟩
theorem Run_c (b : Nat) (B : Bs) (m : Mp) (p o k : Nat) (w : World) (h : MapAt w b B m) (hk : k = 0 ∨ k = 2) (ho : o ≤ m.o) (hp : p < m.n) (hm : p % 2 ^ o ≠ 0) :
    Calls Tryz.prog 138 #[.pointer (some ⟨b, 0, none⟩), .int .i64 (p : Int), .int .i64 (o : Int), .int .i64 (k : Int)] w fun e w' => e = .returned (.int .i64 1) ∧ w' = w := by
  have c0 := h.c0
  have HM := hid h
  have HP := hid (inR_yes hp)
  have ho8 : o ≤ 8 := by have := h.o8; omega
  have hn1 := h.n1
  have hoi : ¬ (m.o : Int) < (o : Int) := by omega
  have ho0 : ¬ (o : Int) < 0 := by omega
  obtain ⟨z, hz⟩ : ∃ z, z = 2 ^ o := ⟨_, rfl⟩
  have hzi : (2 : Int) ^ o = (z : Int) := by rw [hz]; simp
  have hz1 : 1 ≤ z := by rw [hz]; exact pw_pos o
  have hz2 : z ≤ 256 := by rw [hz]; exact Nat.pow_le_pow_right (n := 2) (by decide) ho8
  rw [← hz] at hm
  have hmi : ((p : Int) % (z : Int) == 0) = false := beq_eq_false_iff_ne.2 (by omega)
  have hmj : ((p : Int) % (z : Int) != 0) = true := by simp only [bne, hmi, Bool.not_false]
  clear h hp hz hm
  rcases hk with rfl | rfl
  all_goals
    go_enter Tryz.func138, Tryz.ntmps138
    go_wp2_with fail
    refine (has_any b B m p _ HM.out).mono ?_
    rintro e w1 ⟨rfl, rfl⟩
    rw [HP.out]
    go_wp2_with fail
    go_ret
    exact ⟨rfl, rfl⟩
def runM (m : Mp) (p o k : Int) : Mp := if canRun m p o k = true then { m with pg := runP m.pg p.toNat o.toNat k } else m
def runE (m : Mp) (p o k : Int) : Int := if canRun m p o k = true then 0 else 1
theorem Run_any (b : Nat) (B : Bs) (m : Mp) (p o k : Int) (w : World) (h : MapAt w b B m) :
    Calls Tryz.prog 138 #[.pointer (some ⟨b, 0, none⟩), .int .i64 p, .int .i64 o, .int .i64 k] w fun e w' => e = .returned (.int .i64 (runE m p o k)) ∧ MapAt w' b B (runM m p o k) ∧ Kept (mown b B m.o) w w' := by
  have no : ∀ {E : Ending} {w' : World}, canRun m p o k = false → E = .returned (.int .i64 1) ∧ w' = w → E = .returned (.int .i64 (runE m p o k)) ∧ MapAt w' b B (runM m p o k) ∧ Kept (mown b B m.o) w w' := by
    rintro E w' hc ⟨rfl, rfl⟩
    rw [show runE m p o k = 1 by simp [runE, hc], show runM m p o k = m by simp [runM, hc]]
    exact ⟨rfl, h, Kept.refl _ _⟩
  by_cases h1 : (k = 0 ∨ k = 2) ∧ 0 ≤ o ∧ o ≤ m.o
  · obtain ⟨o', rfl⟩ := Int.eq_ofNat_of_zero_le h1.2.1
    obtain ⟨k', rfl⟩ := Int.eq_ofNat_of_zero_le (show 0 ≤ k by omega)
    have ho : o' ≤ m.o := by omega
    have hk : k' = 0 ∨ k' = 2 := by omega
    cases h2 : inR m.n p with
    | false => exact (Run_b b B m p o' k' w h hk ho h2).mono (fun _ _ => no (by simp [canRun, h2]))
    | true =>
      obtain ⟨q, rfl, hq⟩ := inR_nat h2
      have e1 : ((q : Int) % 2 ^ (o' : Int).toNat = 0) ↔ q % 2 ^ o' = 0 := by
        have : ((q : Int) % 2 ^ (o' : Int).toNat) = ((q % 2 ^ o' : Nat) : Int) := by simp
        rw [this]; omega
      by_cases h3 : q % 2 ^ o' = 0
      · have hc : canRun m (q : Int) (o' : Int) (k' : Int) = true := by
          unfold canRun
          rw [decide_eq_true h1, h2, decide_eq_true (e1.2 h3)]; rfl
        rw [show runE m (q : Int) (o' : Int) (k' : Int) = 0 by simp [runE, hc], show runM m (q : Int) (o' : Int) (k' : Int) = { m with pg := runP m.pg q o' k' } by simp [runM, hc]]
        exact Run_ok b B m q o' k' w h hq ho h3 hk
      · exact (Run_c b B m q o' k' w h hk ho hq h3).mono (fun _ _ => no (by
          unfold canRun
          rw [show decide ((q : Int) % 2 ^ (o' : Int).toNat = 0) = false from decide_eq_false (fun e => h3 (e1.1 e))]
          simp))
  · exact (Run_a b B m p o k w h h1).mono (fun _ _ => no (by
      unfold canRun
      rw [decide_eq_false h1]; rfl))
theorem From.kept {w w1 w2 : World} {b : Nat} {B B' : Bs} {o : Nat} (k : Kept (mown b B o) w w1) (f : From w b B B' o) (k2 : Kept (mown b B' o) w1 w2) : Kept (mown b B o) w w2 :=
  k.trans k2 (fun _ _ x => x) (fun x hx e => (f x e).resolve_right (by omega))
def growM (m : Mp) : Mp := if 1024 < m.n + 2 ^ m.o then m else { resizeM m (m.n + 2 ^ m.o) with pg := runP (resizeM m (m.n + 2 ^ m.o)).pg m.n m.o 2 }
theorem Grow_full (b : Nat) (B : Bs) (m : Mp) (w : World) (h : MapAt w b B m) (hf : 1024 < m.n + 2 ^ m.o) :
    Calls Tryz.prog 199 #[.pointer (some ⟨b, 0, none⟩)] w fun e w' => e = .returned (.tuple #[]) ∧ w' = w := by
  obtain ⟨cq, c0, c1, c2⟩ := h.cb
  have ho8 := h.o8
  have hn1 := h.n1
  obtain ⟨z, hz⟩ : ∃ z, z = 2 ^ m.o := ⟨_, rfl⟩
  have hzi : (2 : Int) ^ m.o = (z : Int) := by rw [hz]; simp
  have hz2 : z ≤ 256 := by rw [hz]; exact Nat.pow_le_pow_right (n := 2) (by decide) ho8
  rw [← hz] at hf
  have hfi : (1024 : Int) < (m.n : Int) + z := by omega
  clear h hz
  go_enter Tryz.func199, Tryz.ntmps199
  go_wp2_with fail
  exact ⟨rfl, .tuple #[], by simp [results, Tryz.results199, go_sem], rfl, rfl⟩
theorem dv_add {n o : Nat} (h : ∃ r, n = r * 2 ^ o) : ∃ r, n + 2 ^ o = r * 2 ^ o := by
  obtain ⟨r, hr⟩ := h
  exact ⟨r + 1, by rw [hr, Nat.add_mul, Nat.one_mul]⟩
theorem dv_mod {n o : Nat} (h : ∃ r, n = r * 2 ^ o) : n % 2 ^ o = 0 := by
  obtain ⟨r, hr⟩ := h
  rw [hr]; exact Nat.mul_mod_left _ _
theorem Grow_ok (b : Nat) (B : Bs) (m : Mp) (w : World) (h : MapAt w b B m) (hf : ¬ 1024 < m.n + 2 ^ m.o) :
    Calls Tryz.prog 199 #[.pointer (some ⟨b, 0, none⟩)] w fun e w' => e = .returned (.tuple #[]) ∧ ∃ B', MapAt w' b B' (growM m) ∧ Kept (mown b B m.o) w w' ∧ From w b B B' m.o := by
  rw [show growM m = { resizeM m (m.n + 2 ^ m.o) with pg := runP (resizeM m (m.n + 2 ^ m.o)).pg m.n m.o 2 } by simp only [growM, if_neg hf]]
  obtain ⟨cq, c0, c1, c2⟩ := h.cb
  have ho8 := h.o8
  have hn1 := h.n1
  have RZ := hid (mresize_any b B m (m.n + 2 ^ m.o) (by omega) (dv_add h.dv) w h)
  have RN := hid (fun w1 B1 (h1 : MapAt w1 b B1 (resizeM m (m.n + 2 ^ m.o))) => Run_ok b B1 (resizeM m (m.n + 2 ^ m.o)) m.n m.o 2 w1 h1 (by show m.n < m.n + 2 ^ m.o; have := pw_pos m.o; omega) (Nat.le_refl _) (dv_mod h.dv) (.inr rfl))
  obtain ⟨z, hz⟩ : ∃ z, z = 2 ^ m.o := ⟨_, rfl⟩
  have hzi : (2 : Int) ^ m.o = (z : Int) := by rw [hz]; simp
  have hz2 : z ≤ 256 := by rw [hz]; exact Nat.pow_le_pow_right (n := 2) (by decide) ho8
  rw [← hz] at hf RZ RN ⊢
  have hfi : ¬ (1024 : Int) < (m.n : Int) + z := by omega
  have hcast : ((m.n + z : Nat) : Int) = (m.n : Int) + z := by omega
  rw [hcast] at RZ
  have HOM := hid (show (resizeM m (m.n + z)).o = m.o from rfl)
  generalize resizeM m (m.n + z) = m2 at *
  clear h hz hcast
  go_enter Tryz.func199, Tryz.ntmps199
  go_wp2_with fail
  refine RZ.out.mono ?_
  rintro e w1 ⟨rfl, B1, hM1, hK1, hF1⟩
  have M1 := hid hM1
  have K1 := hid hK1
  have F1 := hid hF1
  have c0 := hM1.c0
  rw [HOM.out] at c0
  clear hM1 hK1 hF1
  go_wp2_with fail
  refine (RN.out w1 B1 M1.out).mono ?_
  rintro e w2 ⟨rfl, hM2, hK2⟩
  have M2 := hid hM2
  have K2 := hid hK2
  rw [HOM.out] at K2
  clear hM2 hK2
  go_wp2_with fail
  go_end0
  exact ⟨rfl, B1, M2.out, From.kept K1.out F1.out K2.out, F1.out⟩
theorem From.refl (w : World) (b : Nat) (B : Bs) (o : Nat) : From w b B B o := fun _ h => .inl h
theorem Grow_any (b : Nat) (B : Bs) (m : Mp) (w : World) (h : MapAt w b B m) :
    Calls Tryz.prog 199 #[.pointer (some ⟨b, 0, none⟩)] w fun e w' => e = .returned (.tuple #[]) ∧ ∃ B', MapAt w' b B' (growM m) ∧ Kept (mown b B m.o) w w' ∧ From w b B B' m.o := by
  by_cases hf : 1024 < m.n + 2 ^ m.o
  · refine (Grow_full b B m w h hf).mono ?_
    rintro e w' ⟨rfl, rfl⟩
    rw [show growM m = m by simp only [growM, if_pos hf]]
    exact ⟨rfl, B, h, Kept.refl _ _, From.refl _ _ _ _⟩
  · exact Grow_ok b B m w h hf
end Go.Proofs.YtgjapopddblpoaaGreatDoor
/- pagemap: Shrink. -/
namespace Go.Proofs.YtgjapopddblpoaaGreatDoor
open Go.RowKit
set_option linter.unusedVariables false

def canShrink (m : Mp) (n : Int) : Bool := decide (0 ≤ n ∧ n ≤ ((m.n / 2 ^ m.o : Nat) : Int))
def shrinkM (m : Mp) (n : Int) : Mp := if canShrink m n = true then resizeM m (m.n - n.toNat * 2 ^ m.o) else m
def shrinkE (m : Mp) (n : Int) : Int := if canShrink m n = true then 0 else 1
theorem Shrink_no (b : Nat) (B : Bs) (m : Mp) (n : Int) (w : World) (h : MapAt w b B m) (hn : n < 0 ∨ ((m.n / 2 ^ m.o : Nat) : Int) < n) :
    Calls Tryz.prog 141 #[.pointer (some ⟨b, 0, none⟩), .int .i64 n] w fun e w' => e = .returned (.int .i64 1) ∧ Kept none' w w' := by
  obtain ⟨cq, c0, c1, c2⟩ := h.cb
  have ho8 := h.o8
  have hn1 := h.n1
  clear h
  by_cases h0 : n < 0
  · clear hn
    go_enter Tryz.func141, Tryz.ntmps141
    go_wp2_with fail
    go_quiet (fail)
    go_wp2_with fail
    go_ret
    exact ⟨rfl, (Kept.refl none' w).drewN _⟩
  · have h1 : (m.n : Int) / 2 ^ m.o < n := by have := hn.resolve_left h0; simpa using this
    have hd : decide (n < 0) = false := decide_eq_false h0
    clear hn
    go_enter Tryz.func141, Tryz.ntmps141
    go_wp2_with fail
    go_quiet (fail)
    go_wp2_with fail
    go_ret
    exact ⟨rfl, (Kept.refl none' w).drewN _⟩
theorem dv_sub {n o k : Nat} (h : ∃ r, n = r * 2 ^ o) : ∃ r, n - k * 2 ^ o = r * 2 ^ o := by
  obtain ⟨r, hr⟩ := h
  exact ⟨r - k, by rw [hr, Nat.sub_mul]⟩
theorem shl_run (n o d : Nat) (ho : o ≤ 8) (hd : (n : Int) * 2 ^ o = d) (hd2 : d ≤ 1024) (W : World) : Sem.run Tryz.prog (Op.shift BinOp.shl IntKind.i64 (n : Int) IntKind.i64 (o : Int)) W = Result.ok (.int .i64 (d : Int)) W := by
  unfold Op.shift
  simp [go_sem]
  rw [if_neg (by omega), Nat.min_eq_left (by omega), hd, show IntKind.i64.wrap (d : Int) = d by rw [IntKind.wrap_i64]; omega]
set_option maxRecDepth 4000 in
set_option maxHeartbeats 2000000 in
theorem Shrink_ok (b : Nat) (B : Bs) (m : Mp) (n : Nat) (w : World) (h : MapAt w b B m) (hn : n ≤ m.n / 2 ^ m.o) :
    Calls Tryz.prog 141 #[.pointer (some ⟨b, 0, none⟩), .int .i64 (n : Int)] w fun e w' => e = .returned (.int .i64 0) ∧ ∃ B', MapAt w' b B' (resizeM m (m.n - n * 2 ^ m.o)) ∧ Kept (mown b B m.o) w w' ∧ From w b B B' m.o := by
  obtain ⟨cq, c0, c1, c2⟩ := h.cb
  have ho8 := h.o8
  have hn1 := h.n1
  have RZ := hid (fun w' (kk : Kept none' w w') => mresize_any b B m (m.n - n * 2 ^ m.o) (by omega) (dv_sub h.dv) w' (h.keep kk))
  have hle : n * 2 ^ m.o ≤ m.n := Nat.le_trans (Nat.mul_le_mul_right _ hn) (Nat.div_mul_le_self _ _)
  have hn0 : ¬ (n : Int) < 0 := by omega
  have hdi : ¬ (m.n : Int) / 2 ^ m.o < (n : Int) := by
    have : (m.n : Int) / 2 ^ m.o = ((m.n / 2 ^ m.o : Nat) : Int) := by simp
    rw [this]; omega
  have hmul : (n : Int) * 2 ^ m.o = ((n * 2 ^ m.o : Nat) : Int) := by simp
  obtain ⟨d, hd⟩ : ∃ d, d = n * 2 ^ m.o := ⟨_, rfl⟩
  rw [← hd] at hle hmul RZ ⊢
  have hcast : ((m.n - d : Nat) : Int) = (m.n : Int) - d := by omega
  rw [hcast] at RZ
  have hd10 : d ≤ 1024 := by omega
  have hdn : decide ((n : Int) < 0) = false := decide_eq_false hn0
  have hdd : decide ((m.n : Int) / 2 ^ m.o < (n : Int)) = false := decide_eq_false hdi
  have hsh := shl_run n m.o d ho8 hmul hd10
  have hws : IntKind.i64.wrap ((m.n : Int) - d) = (m.n : Int) - d := by rw [IntKind.wrap_i64]; omega
  clear h hd hcast hn
  go_enter Tryz.func141, Tryz.ntmps141
  go_wp2_with fail
  go_quiet (fail)
  go_wp2_with fail
  obtain ⟨W, hW⟩ : ∃ W, W = w.drewN nq := ⟨_, rfl⟩
  have KW := hid (show Kept none' w W by rw [hW]; exact (Kept.refl none' w).drewN nq)
  have c0 := KW.out.cell (fun x => x) c0
  have c1 := KW.out.cell (fun x => x) c1
  rw [← hW]
  have HAR := hid (show IntKind.i64.wrap ((m.n : Int) - IntKind.i64.wrap ((n : Int) * 2 ^ min m.o 64)) = (m.n : Int) - d by rw [Nat.min_eq_left (by omega), hmul, show IntKind.i64.wrap (d : Int) = d by rw [IntKind.wrap_i64]; omega]; exact hws)
  clear hW hmul hdi hdd hdn hn0 c2 hle ho8 hn1 hsh hws
  go_region_with ((go_at_call 189; rw [HAR.out]; refine (RZ.out _ (KW.out.drew)).mono ?_; rintro e w1 ⟨rfl, B1, hM1, hK1, hF1⟩))
  all_goals
    have F1 := hid (show ∃ B', MapAt w1 b B' (resizeM m (m.n - d)) ∧ Kept (mown b B m.o) w w1 ∧ From w b B B' m.o from ⟨B1, hM1, KW.out.drew.trans hK1 (fun _ _ x => x.elim) (fun _ _ x => x), fun x hx => (hF1 x hx).imp (fun h => h) (fun h => Nat.le_trans KW.out.size h)⟩)
    clear hM1 hK1 hF1
    go_wp2_with fail
    go_ret
    exact ⟨rfl, F1.out⟩
theorem Shrink_any (b : Nat) (B : Bs) (m : Mp) (n : Int) (w : World) (h : MapAt w b B m) :
    Calls Tryz.prog 141 #[.pointer (some ⟨b, 0, none⟩), .int .i64 n] w fun e w' => e = .returned (.int .i64 (shrinkE m n)) ∧ ∃ B', MapAt w' b B' (shrinkM m n) ∧ Kept (mown b B m.o) w w' ∧ From w b B B' m.o := by
  by_cases hn : 0 ≤ n ∧ n ≤ ((m.n / 2 ^ m.o : Nat) : Int)
  · obtain ⟨k, rfl⟩ := Int.eq_ofNat_of_zero_le hn.1
    have hc : canShrink m (k : Int) = true := decide_eq_true hn
    rw [show shrinkE m (k : Int) = 0 by simp only [shrinkE, hc, if_true], show shrinkM m (k : Int) = resizeM m (m.n - k * 2 ^ m.o) by simp only [shrinkM, hc, if_true, Int.toNat_natCast]]
    exact Shrink_ok b B m k w h (by omega)
  · have hc : canShrink m n = false := decide_eq_false hn
    rw [show shrinkE m n = 1 by simp [shrinkE, hc], show shrinkM m n = m by simp [shrinkM, hc]]
    refine (Shrink_no b B m n w h (by omega)).mono ?_
    rintro e w' ⟨rfl, hk⟩
    exact ⟨rfl, B, h.keep hk, hk.mono (fun _ _ x => x.elim), From.refl _ _ _ _⟩
end Go.Proofs.YtgjapopddblpoaaGreatDoor
/- pagemap: the calls that write, each with one contract: what becomes of the map, and the answer. -/
namespace Go.Proofs.YtgjapopddblpoaaGreatDoor
open Go.RowKit
set_option linter.unusedVariables false

/-- Behind a call on a map: the map m' in place of m, in blocks of its own or new ones. -/
def Aft (w w' : World) (b : Nat) (B : Bs) (o : Nat) (m' : Mp) : Prop := MapAt w' b B m' ∧ Kept (mown b B o) w w'
theorem Aft.same {w w' b B m} (h : MapAt w b B m) (k : Kept none' w w') : Aft w w' b B m.o m := ⟨h.keep k, k.mono (fun _ _ x => x.elim)⟩
theorem Aft.mk {w w' b B o m'} (h : MapAt w' b B m') (k : Kept (mown b B o) w w') : Aft w w' b B o m' := ⟨h, k⟩

theorem Slab_a (b : Nat) (B : Bs) (m : Mp) (i c : Int) (w : World) (h : MapAt w b B m) (hc : ¬ (inR m.n i = true ∧ 0 ≤ c ∧ c ≤ 7)) :
    Calls Tryz.prog 192 #[.pointer (some ⟨b, 0, none⟩), .int .i64 i, .int .i64 c] w fun e w' => e = .returned (.int .i64 1) ∧ Kept none' w w' := by
  have HM := hid h
  cases hi : inR m.n i with
  | false =>
    have HI := hid hi
    clear h hc hi
    go_enter Tryz.func192, Tryz.ntmps192
    go_wp2_with fail
    refine (has_any b B m i _ HM.out).mono ?_
    rintro e w1 ⟨rfl, rfl⟩
    rw [HI.out]
    go_wp2_with fail
    go_ret
    exact ⟨rfl, Kept.refl none' _⟩
  | true =>
    have HI := hid hi
    by_cases h0 : c < 0
    · clear h hc hi
      go_enter Tryz.func192, Tryz.ntmps192
      go_wp2_with fail
      refine (has_any b B m i _ HM.out).mono ?_
      rintro e w1 ⟨rfl, rfl⟩
      rw [HI.out]
      go_wp2_with fail
      go_ret
      exact ⟨rfl, Kept.refl none' _⟩
    · have h8 : 8 ≤ c := by
        by_cases h7 : c ≤ 7
        · exact absurd ⟨hi, by omega, h7⟩ hc
        · omega
      clear h hc hi
      go_enter Tryz.func192, Tryz.ntmps192
      go_wp2_with fail
      refine (has_any b B m i _ HM.out).mono ?_
      rintro e w1 ⟨rfl, rfl⟩
      rw [HI.out]
      go_wp2_with fail
      go_ret
      exact ⟨rfl, Kept.refl none' _⟩
theorem Slab_any (b : Nat) (B : Bs) (m : Mp) (i c : Int) (w : World) (h : MapAt w b B m) :
    Calls Tryz.prog 192 #[.pointer (some ⟨b, 0, none⟩), .int .i64 i, .int .i64 c] w fun e w' => e = .returned (.int .i64 (slabE m i c)) ∧ Aft w w' b B m.o (slabM m i c) := by
  by_cases hc : inR m.n i = true ∧ 0 ≤ c ∧ c ≤ 7
  · rw [show slabE m i c = 0 from if_pos hc, show slabM m i c = { m with pg := upp m.pg i.toNat (slabP c) } from if_pos hc]
    obtain ⟨k, rfl, hk⟩ := inR_nat hc.1
    obtain ⟨d, rfl⟩ := Int.eq_ofNat_of_zero_le hc.2.1
    refine (Slab_in b B m k d w h hk (by omega)).mono ?_
    rintro e w' ⟨rfl, h1, h2⟩
    exact ⟨rfl, Aft.mk h1 h2⟩
  · rw [show slabE m i c = 1 from if_neg hc, show slabM m i c = m from if_neg hc]
    refine (Slab_a b B m i c w h hc).mono ?_
    rintro e w' ⟨rfl, hk⟩
    exact ⟨rfl, Aft.same h hk⟩
/-- Is there such a cell of a slab? -/
def isCell (m : Mp) (i c : Int) : Bool := inR m.n i && (decide ((m.pg i.toNat).kd = 4) && inR (ncell (m.pg i.toNat).cl) c)
def canOwn (m : Mp) (i c : Int) (live : Bool) : Bool := isCell m i c && (litP (m.pg i.toNat) c.toNat != live)
def ownM (m : Mp) (i c : Int) (live : Bool) : Mp := if canOwn m i c live = true then { m with pg := upp m.pg i.toNat (ownP (m.pg i.toNat) c.toNat) } else m
def ownE (m : Mp) (i c : Int) (live : Bool) : Int := if canOwn m i c live = true then 0 else 1
theorem Own_any (b : Nat) (B : Bs) (m : Mp) (i c : Int) (live : Bool) (w : World) (h : MapAt w b B m) :
    Calls Tryz.prog 128 #[.pointer (some ⟨b, 0, none⟩), .int .i64 i, .int .i64 c, .bool live] w fun e w' => e = .returned (.int .i64 (ownE m i c live)) ∧ Aft w w' b B m.o (ownM m i c live) := by
  have no : ∀ {E : Ending} {w' : World}, canOwn m i c live = false → E = .returned (.int .i64 1) ∧ w' = w → E = .returned (.int .i64 (ownE m i c live)) ∧ Aft w w' b B m.o (ownM m i c live) := by
    rintro E w' hc ⟨rfl, rfl⟩
    rw [show ownE m i c live = 1 by simp [ownE, hc], show ownM m i c live = m by simp [ownM, hc]]
    exact ⟨rfl, Aft.same h (Kept.refl _ _)⟩
  cases hi : inR m.n i with
  | false => exact (Own_out b B m i c live w h hi).mono (fun _ _ => no (by simp [canOwn, isCell, hi]))
  | true =>
    obtain ⟨k, rfl, hk⟩ := inR_nat hi
    by_cases hkd : (m.pg k).kd = 4
    · cases hc : inR (ncell (m.pg k).cl) c with
      | false => exact (Own_cell b B m k c live w h hk hkd hc).mono (fun _ _ => no (by simp [canOwn, isCell, hc]))
      | true =>
        obtain ⟨d, rfl, hd⟩ := inCell (h.ok k hk).c0 hc
        by_cases hl : litP (m.pg k) d = live
        · subst hl
          refine (Own_same b B m k d w h hk hkd hc hd).mono ?_
          rintro E w' ⟨rfl, hkk⟩
          have hcc : canOwn m (k : Int) (d : Int) (litP (m.pg k) d) = false := by simp [canOwn]
          rw [show ownE m (k : Int) (d : Int) (litP (m.pg k) d) = 1 by simp [ownE, hcc], show ownM m (k : Int) (d : Int) (litP (m.pg k) d) = m by simp [ownM, hcc]]
          exact ⟨rfl, Aft.same h hkk⟩
        · obtain rfl : live = !litP (m.pg k) d := by revert hl; cases litP (m.pg k) d <;> cases live <;> simp
          have hcc : canOwn m (k : Int) (d : Int) (!litP (m.pg k) d) = true := by
            unfold canOwn isCell
            rw [hi, Int.toNat_natCast, Int.toNat_natCast, decide_eq_true hkd, hc]
            cases litP (m.pg k) d <;> rfl
          rw [show ownE m (k : Int) (d : Int) (!litP (m.pg k) d) = 0 by simp [ownE, hcc], show ownM m (k : Int) (d : Int) (!litP (m.pg k) d) = { m with pg := upp m.pg k (ownP (m.pg k) d) } by simp [ownM, hcc]]
          refine (Own_turn b B m k d w h hk hkd hc hd).mono ?_
          rintro E w' ⟨rfl, h1, h2⟩
          exact ⟨rfl, Aft.mk h1 h2⟩
    · exact (Own_kind b B m k c live w h hk hkd).mono (fun _ _ => no (by simp [canOwn, isCell, hkd]))
def canFirst (m : Mp) (i c : Int) : Bool := inR m.n i && (decide ((m.pg i.toNat).kd = 4) && (c == -1 || inR (ncell (m.pg i.toNat).cl) c))
def firstM (m : Mp) (i c : Int) : Mp := if canFirst m i c = true then { m with pg := upp m.pg i.toNat { m.pg i.toNat with fs := c } } else m
def firstE (m : Mp) (i c : Int) : Int := if canFirst m i c = true then 0 else 1
theorem First_any (b : Nat) (B : Bs) (m : Mp) (i c : Int) (w : World) (h : MapAt w b B m) :
    Calls Tryz.prog 179 #[.pointer (some ⟨b, 0, none⟩), .int .i64 i, .int .i64 c] w fun e w' => e = .returned (.int .i64 (firstE m i c)) ∧ Aft w w' b B m.o (firstM m i c) := by
  have no : ∀ {E : Ending} {w' : World}, canFirst m i c = false → E = .returned (.int .i64 1) ∧ w' = w → E = .returned (.int .i64 (firstE m i c)) ∧ Aft w w' b B m.o (firstM m i c) := by
    rintro E w' hc ⟨rfl, rfl⟩
    rw [show firstE m i c = 1 by simp [firstE, hc], show firstM m i c = m by simp [firstM, hc]]
    exact ⟨rfl, Aft.same h (Kept.refl _ _)⟩
  cases hi : inR m.n i with
  | false => exact (First_out b B m i c w h hi).mono (fun _ _ => no (by simp [canFirst, hi]))
  | true =>
    obtain ⟨k, rfl, hk⟩ := inR_nat hi
    by_cases hkd : (m.pg k).kd = 4
    · by_cases hc : c = -1 ∨ inR (ncell (m.pg k).cl) c = true
      · have hcc : canFirst m (k : Int) c = true := by
          unfold canFirst
          rw [hi, Int.toNat_natCast, decide_eq_true hkd]
          rcases hc with rfl | hc
          · rfl
          · simp [hc]
        rw [show firstE m (k : Int) c = 0 by simp [firstE, hcc], show firstM m (k : Int) c = { m with pg := upp m.pg k { m.pg k with fs := c } } by simp [firstM, hcc]]
        refine (First_ok b B m k c w h hk hkd hc).mono ?_
        rintro E w' ⟨rfl, h1, h2⟩
        exact ⟨rfl, Aft.mk h1 h2⟩
      · have h1 : c ≠ -1 := fun e => hc (.inl e)
        have h2 : inR (ncell (m.pg k).cl) c = false := by cases e : inR (ncell (m.pg k).cl) c with | false => rfl | true => exact absurd (.inr e) hc
        exact (First_cell b B m k c w h hk hkd h1 h2).mono (fun _ _ => no (by simp [canFirst, h1, h2]))
    · exact (First_kind b B m k c w h hk hkd).mono (fun _ _ => no (by simp [canFirst, hkd]))
def canChain (m : Mp) (i x y : Int) : Bool := inR m.n i && (decide ((m.pg i.toNat).kd = 4) && (lnk m.n x && lnk m.n y))
def chainM (m : Mp) (i x y : Int) : Mp := if canChain m i x y = true then { m with pg := upp m.pg i.toNat { m.pg i.toNat with nx := x, pv := y } } else m
def chainE (m : Mp) (i x y : Int) : Int := if canChain m i x y = true then 0 else 1
theorem Chain_any (b : Nat) (B : Bs) (m : Mp) (i x y : Int) (w : World) (h : MapAt w b B m) :
    Calls Tryz.prog 177 #[.pointer (some ⟨b, 0, none⟩), .int .i64 i, .int .i64 x, .int .i64 y] w fun e w' => e = .returned (.int .i64 (chainE m i x y)) ∧ Aft w w' b B m.o (chainM m i x y) := by
  have no : ∀ {E : Ending} {w' : World}, canChain m i x y = false → E = .returned (.int .i64 1) ∧ w' = w → E = .returned (.int .i64 (chainE m i x y)) ∧ Aft w w' b B m.o (chainM m i x y) := by
    rintro E w' hc ⟨rfl, rfl⟩
    rw [show chainE m i x y = 1 by simp [chainE, hc], show chainM m i x y = m by simp [chainM, hc]]
    exact ⟨rfl, Aft.same h (Kept.refl _ _)⟩
  cases hi : inR m.n i with
  | false => exact (Chain_out b B m i x y w h hi).mono (fun _ _ => no (by simp [canChain, hi]))
  | true =>
    obtain ⟨k, rfl, hk⟩ := inR_nat hi
    by_cases hkd : (m.pg k).kd = 4
    · cases hx : lnk m.n x with
      | false =>
        have h1 : x ≠ -1 := fun e => by subst e; simp [lnk] at hx
        have h2 : inR m.n x = false := by simpa [lnk, h1] using hx
        exact (Chain_next b B m k x y w h hk hkd h1 h2).mono (fun _ _ => no (by simp [canChain, hx]))
      | true =>
        cases hy : lnk m.n y with
        | false => exact (Chain_rest b B m k x y w h hk hkd hx 1 w (.inl ⟨hy, rfl, rfl⟩)).mono (fun _ _ => no (by simp [canChain, hy]))
        | true =>
          obtain ⟨g, hg, hr⟩ := h.has_row (by omega)
          have hcc : canChain m (k : Int) x y = true := by
            unfold canChain
            rw [hi, Int.toNat_natCast, decide_eq_true hkd, hx, hy]; rfl
          rw [show chainE m (k : Int) x y = 0 by simp [chainE, hcc], show chainM m (k : Int) x y = { m with pg := upp m.pg k { m.pg k with nx := x, pv := y } } by simp [chainM, hcc]]
          refine (Chain_rest b B m k x y w h hk hkd hx 0 _ (.inr ⟨hy, rfl, g, hg, rfl⟩)).mono ?_
          rintro E w' ⟨rfl, rfl⟩
          refine ⟨rfl, Aft.mk (h.pages hg (((Kept.refl (fun x => x = g) w).setCell (p := ⟨g, _, none⟩) rfl _).setCell (p := ⟨g, _, none⟩) rfl _) (hr.f45 k hk x y) (fun j hj => ?_)) (((Kept.refl (mown b B m.o) w).setCell (p := ⟨g, _, none⟩) (.inr (.inl hg)) _).setCell (p := ⟨g, _, none⟩) (.inr (.inl hg)) _)⟩
          unfold upp
          split
          · exact ⟨(h.ok k hk).o0, (h.ok k hk).o8, (h.ok k hk).c0, (h.ok k hk).c7, (h.ok k hk).b0, (h.ok k hk).b1, (h.ok k hk).b2, (h.ok k hk).b3⟩
          · exact h.ok j hj
    · exact (Chain_kind b B m k x y w h hk hkd).mono (fun _ _ => no (by simp [canChain, hkd]))
/-- The number of a page's pair. -/
def prN (k i : Int) : Nat := i.toNat / 2 ^ (k.toNat + 1)
def prL (m : Mp) (k : Int) : Nat := m.n / 2 ^ (k.toNat + 1)
def hasP (m : Mp) (k i : Int) : Bool := inR m.o k && inR m.n i
def flipM (m : Mp) (k i : Int) : Mp := if hasP m k i = true then { m with wd := upw m.wd k.toNat (flipI (prL m k) (m.wd k.toNat) (prN k i : Int)) } else m
def flipE (m : Mp) (k i : Int) : Int := if hasP m k i = true then 0 else 1
def pairV (m : Mp) (k i : Int) : Bool := hasP m k i && inS (prL m k) (m.wd k.toNat) (prN k i : Int)
theorem Flip_any (b : Nat) (B : Bs) (m : Mp) (k i : Int) (w : World) (h : MapAt w b B m) :
    Calls Tryz.prog 214 #[.pointer (some ⟨b, 0, none⟩), .int .i64 k, .int .i64 i] w fun e w' => e = .returned (.tuple #[.bool (pairV (flipM m k i) k i), .int .i64 (flipE m k i)]) ∧ Aft w w' b B m.o (flipM m k i) := by
  cases hp : hasP m k i with
  | false =>
    have e1 : flipM m k i = m := by simp [flipM, hp]
    rw [show flipE m k i = 1 by simp [flipE, hp], e1, show pairV m k i = false by simp [pairV, hp]]
    refine (Flip_no b B m k i w h hp).mono ?_
    rintro e w' ⟨rfl, hk⟩
    exact ⟨rfl, Aft.same h hk⟩
  | true =>
    have h1 : inR m.o k = true ∧ inR m.n i = true := by unfold hasP at hp; exact Bool.and_eq_true_iff.1 hp
    obtain ⟨a, rfl, ha⟩ := inR_nat h1.1
    obtain ⟨j, rfl, hj⟩ := inR_nat h1.2
    have e1 : flipM m (a : Int) (j : Int) = { m with wd := upw m.wd a (flipI (m.n / 2 ^ (a + 1)) (m.wd a) ((j / 2 ^ (a + 1) : Nat) : Int)) } := by simp [flipM, hp, prL, prN]
    rw [show flipE m (a : Int) (j : Int) = 0 by simp [flipE, hp], e1, show pairV { m with wd := upw m.wd a (flipI (m.n / 2 ^ (a + 1)) (m.wd a) ((j / 2 ^ (a + 1) : Nat) : Int)) } (a : Int) (j : Int) = inS (m.n / 2 ^ (a + 1)) (flipI (m.n / 2 ^ (a + 1)) (m.wd a) ((j / 2 ^ (a + 1) : Nat) : Int)) ((j / 2 ^ (a + 1) : Nat) : Int) by
      unfold pairV
      rw [show hasP { m with wd := upw m.wd a (flipI (m.n / 2 ^ (a + 1)) (m.wd a) ((j / 2 ^ (a + 1) : Nat) : Int)) } (a : Int) (j : Int) = true from hp]
      simp [prL, prN, upw]]
    refine (Flip_in b B m a j w h ha hj).mono ?_
    rintro e w' ⟨rfl, h2, h3⟩
    exact ⟨rfl, Aft.mk h2 h3⟩
end Go.Proofs.YtgjapopddblpoaaGreatDoor
/- pagemap: New. -/
namespace Go.Proofs.YtgjapopddblpoaaGreatDoor
open Go.RowKit
set_option linter.unusedVariables false

def ptr (s : Nat) : Value := .pointer (some ⟨s, 0, none⟩)
/-- A row of sets, with its spare room. -/
def PL (w : World) (v : Value) (xs : List Nat) : Prop := w.ownsRow 0 174 1 v xs.length (xs.map ptr)
theorem info_ptr : (Tryz.prog.info? 174).map (fun i => (i.zero, i.size, i.bytes)) = some (some (.pointer none), 1, 8) := by kernel_rfl
theorem info_ptr_parts : ∃ i, Tryz.prog.info? 174 = some i ∧ i.zero = some (.pointer none) ∧ i.size = 1 ∧ i.bytes = 8 := by
  obtain ⟨i, hi, hzz⟩ := Option.map_eq_some_iff.1 info_ptr
  simp only [Prod.mk.injEq] at hzz
  exact ⟨i, hi, hzz.1, hzz.2.1, hzz.2.2⟩
theorem grown_kept {w w' : World} {row : Option Nat} (h : w.grownBy w' row) : Kept (fun b => row = some b) w w' := ⟨h.os, h.tape, h.output, h.size, fun k hk hn => h.block k hk (fun e => hn e.symm)⟩
theorem PL.blk {w v xs r} (h : PL w v xs) (hr : v.ownBlock = some r) : ∃ cs, w.heap[r]? = some (.cells cs 174 (0, 0)) := by
  rcases h.2 with ⟨rfl, _⟩ | ⟨g, cap, cur, rfl, hb, hg, h3⟩
  · simp [Value.ownBlock] at hr
  · simp [Value.ownBlock] at hr
    subst hr
    exact ⟨_, hg⟩
theorem PL.kept {w w' v xs} {S : Nat → Prop} (h : PL w v xs) (k : Kept S w w') (hS : ∀ r, v.ownBlock = some r → ¬ S r) : PL w' v xs := by
  refine ⟨h.1, ?_⟩
  rcases h.2 with h0 | ⟨g, cap, cur, rfl, hb, hg, h3⟩
  · exact .inl h0
  · exact .inr ⟨g, cap, cur, rfl, hb, (k.block g (heap_lt hg) (hS g rfl)).trans hg, h3⟩
theorem PL.push (w : World) (v : Value) (xs : List Nat) (x : Nat) (h : PL w v xs) (hlen : xs.length + 1 ≤ 8) (a : Addr) (c : Nat) (ha : w.cell? (a.add 0) = some (ptr x)) :
    ∃ v' w', (∀ ty, (Builtin.append_ #[139, 139] ty #[v, .slice (some a) 1 c]).run Tryz.prog w = .ok v' w') ∧ PL w' v' (xs ++ [x]) ∧ Kept (fun b => v.ownBlock = some b) w w' ∧
      (v'.ownBlock = v.ownBlock ∨ ∃ r, v'.ownBlock = some r ∧ w.heap.size ≤ r) ∧ ∃ g cap, v' = .slice (some ⟨g, 0, none⟩) (xs.length + 1) cap := by
  obtain ⟨i, hi, hz0, hz1, hz2⟩ := info_ptr_parts
  have hmax : xs.length + 1 ≤ maxLen := by simp only [maxLen]; omega
  have hnews : ∀ j u, [ptr x][j]? = some u → w.cell? (a.add j) = some u := by
    intro j u hj
    match j, hj with
    | 0, hj => simp at hj; subst hj; exact ha
    | j + 1, hj => simp at hj
  have hmap : (xs ++ [x]).map ptr = xs.map ptr ++ [ptr x] := by simp
  have hl1 : (xs ++ [x]).length = xs.length + 1 := by simp
  by_cases hr : ∃ g cap, v = .slice (some ⟨g, 0, none⟩) xs.length cap ∧ xs.length + 1 ≤ cap
  · obtain ⟨g, cap, rfl, hroom⟩ := hr
    obtain ⟨w', hrun, hown, hgr⟩ := run_append_fits (P := Tryz.prog) w 0 139 0 174 i 1 Tryz.underlying139 hi hz1 g xs.length cap (xs.map ptr) h a 1 c [ptr x] rfl hnews (by simp [Value.oneCell', ptr]) hroom
    refine ⟨.slice (some ⟨g, 0, none⟩) (xs.length + 1) cap, w', fun ty => ?_, ?_, grown_kept hgr, .inl rfl, g, cap, rfl⟩
    · rw [← hrun]; simp [Builtin.append_]
    · unfold PL; rw [hmap, hl1]; exact hown
  · have key : ∃ v' w', (Builtin.append_ #[139, 139] 0 #[v, .slice (some a) 1 c]).run Tryz.prog w = .ok v' w' ∧ w'.ownsRow w.heap.size 174 1 v' (xs.length + 1) (xs.map ptr ++ [ptr x]) ∧ Kept (fun b => v.ownBlock = some b) w w' := by
      have ho := h
      rcases ho.2 with ⟨rfl, h0⟩ | ⟨g, cap, cur, rfl, hb, hg, hnc, hcm, hcs, htake⟩
      · have : xs = [] := List.eq_nil_of_length_eq_zero h0
        subst this
        obtain ⟨v', w', hrun, hown, hgr, _⟩ := run_append_own (P := Tryz.prog) w w.heap.size 139 0 174 i (.pointer none) 1 8 Tryz.underlying139 hi hz0 hz1 hz2 rfl (by decide) (.slice none 0 0) 0 [] (World.ownsRow_nil _ _ _ _) a 1 c [ptr x] rfl hnews (by simp [Value.oneCell', ptr]) hmax (by simp) (Nat.le_refl _)
        exact ⟨v', w', hrun, hown, grown_kept hgr⟩
      · obtain ⟨v', w', hrun, hown, hgr⟩ := run_append_arg_grows (P := Tryz.prog) w 139 0 174 i (.pointer none) 1 8 Tryz.underlying139 hi hz0 hz1 hz2 rfl (by decide) ⟨g, 0, none⟩ xs.length cap (xs.map ptr) (by simp) (fun j u hj => by
          rw [Addr.add_lit, Nat.zero_add]
          rw [← htake, List.getElem?_take] at hj
          split at hj
          · simp only [World.cell?, hg]
            rw [← Array.getElem?_toList, hj]
            rfl
          · cases hj) a 1 c [ptr x] rfl hnews (Nat.lt_of_not_le fun hle => hr ⟨g, cap, rfl, hle⟩) hmax (by omega)
        exact ⟨v', w', hrun, hown, (grown_kept hgr).mono (fun _ _ e => by cases e)⟩
    obtain ⟨v', w', hrun, hown, hk⟩ := key
    rcases hown.2 with ⟨_, h0⟩ | ⟨g, cap, cur, rfl, hb, hg, h3⟩
    · omega
    · refine ⟨_, w', fun ty => ?_, ?_, hk, .inr ⟨g, rfl, hb⟩, g, cap, rfl⟩
      · rw [← hrun]; simp [Builtin.append_]
      · unfold PL
        rw [hmap, hl1]
        exact ⟨hown.1, .inr ⟨g, cap, cur, rfl, Nat.zero_le _, hg, h3⟩⟩
theorem cell_new (w : World) (v : Value) (t : TypeId) : (w.alloc (.cells #[v] t)).cell? ⟨w.heap.size, 0 + 0, none⟩ = some v := by
  have := heap_new w (.cells #[v] t)
  simp only [World.cell?, this]
  rfl
/-- Behind the append. -/
structure Pushed (w w' : World) (v v' : Value) (xs : List Nat) (x : Nat) : Prop where
  pl : PL w' v' (xs ++ [x])
  kp : Kept (fun b => v.ownBlock = some b) w w'
  ob : v'.ownBlock = v.ownBlock ∨ ∃ r, v'.ownBlock = some r ∧ w.heap.size ≤ r
  sl : ∃ g cap, v' = .slice (some ⟨g, 0, none⟩) (xs.length + 1) cap
theorem step_push {ops : Array Oper} {o : Oper} {a : Act} {w : World} {K : Act → World → Prop} {Q : Exit → Act → World → Prop} {E : Prop} (hgd : o.guard = none) (s x : Operand)
    (hop : o.op = Op.call { callee := Callee.builtin Builtin.append, args := #[s, x], argTypes := #[139, 139] }) (v : Value) (xs : List Nat) (n y b : Nat) (c0 c1 : Value) (h : PL w v xs) (hn : xs.length = n) (hl : n + 1 ≤ 8)
    (hb : w.heap[b]? = some (.cells #[c0, c1, v] 141 (0, 0))) (ad : Addr) (c : Nat)
    (hs : a.eval s = v) (hx : a.eval x = .slice (some ad) 1 c) (ha : w.cell? (ad.add 0) = some (ptr y))
    (hK : ∀ g' cap' w', Hid (Pushed w w' v (.slice (some ⟨g', 0, none⟩) (n + 1) cap') xs y) → w'.cell? ⟨b, 2, none⟩ = some v → w'.frozen? ⟨b, 2, none⟩ = false → K (a.put o.dst (.slice (some ⟨g', 0, none⟩) (n + 1) cap')) w') :
    if Region.wanted o (yielded ops a.tmps) = true then Oper.wp Tryz.prog o a w K Q else E := by
  have hw : Region.wanted o (yielded ops a.tmps) = true := by simp [Region.wanted, hgd]
  rw [if_pos hw]
  obtain ⟨v', w', hrun, h1, h2, h3, g', cap', rfl⟩ := h.push w v xs y (by omega) ad c ha
  rw [hn] at hrun h1 h3
  have hrun := hrun o.type
  have hb' : w'.heap[b]? = some (.cells #[c0, c1, v] 141 (0, 0)) := (h2.block b (heap_lt hb) (fun e => by
    obtain ⟨cs, hcs⟩ := h.blk e
    exact ty_ne hb hcs (by decide) rfl)).trans hb
  unfold Oper.wp
  simp [execOp, hop, resolve, invoke, builtin, hs, hx, hrun, Result.andThen]
  exact hK g' cap' w' ⟨h1, h2, h3, g', cap', by rw [hn]⟩ (by simp [World.cell?, hb']) (by simp [World.frozen?, hb'])
theorem step_newset {ops : Array Oper} {o : Oper} {a : Act} {w : World} {K : Act → World → Prop} {Q : Exit → Act → World → Prop} {E : Prop} (hgd : o.guard = none)
    (hop : o.op = Op.call { callee := Callee.value (Operand.func 114), args := #[Operand.const (Value.int .i64 0)], argTypes := #[3] }) (b : Nat) (v : Value) (hc : w.cell? ⟨b, 2, none⟩ = some v)
    (hK : ∀ W2, Hid (SetAt W2 (w.heap.size + 1) w.heap.size 0 []) → Hid (Kept none' w W2) → W2.cell? ⟨b, 2, none⟩ = some v → K (a.put o.dst (.pointer (some ⟨w.heap.size + 1, 0, none⟩))) W2) :
    if Region.wanted o (yielded ops a.tmps) = true then Oper.wp Tryz.prog o a w K Q else E := by
  have hw : Region.wanted o (yielded ops a.tmps) = true := by simp [Region.wanted, hgd]
  rw [if_pos hw]
  unfold Oper.wp
  simp [execOp, hop, resolve, invoke, Deferred.ofValue, Act.eval, callFunc, Result.andThen, go_sem]
  rw [if_neg (by decide +kernel), if_neg (by decide +kernel)]
  show Calls Tryz.prog 114 _ _ _
  refine (newSet_any 0 (by decide) (by decide) w).mono ?_
  rintro e W2 ⟨rfl, hS, hk, hsz⟩
  exact hK W2 (RawAt.set hS (fun i hi => absurd hi (by simp))) hk (hk.cell (fun x => x) hc)
/-- While the sets are made. -/
structure Nw (w W : World) (b o k : Nat) (v : Value) (S C : Nat → Nat) : Prop where
  hb : W.heap[b]? = some (.cells #[.int .i64 (o : Int), .slice none 0 0, v] 141 (0, 0))
  pl : PL W v ((List.range k).map S)
  vs : v = .slice none 0 0 ∧ k = 0 ∨ ∃ g cap, v = .slice (some ⟨g, 0, none⟩) k cap ∧ w.heap.size ≤ g
  st : ∀ j, j < k → SetAt W (S j) (C j) 0 []
  iS : ∀ i j, i < k → j < k → S i = S j → i = j
  iC : ∀ i j, i < k → j < k → C i = C j → i = j
  hS : ∀ j, j < k → w.heap.size ≤ S j ∧ w.heap.size ≤ C j
  hw : w.heap.size ≤ b
  kp : Kept none' w W
theorem Nw.next {w W W2 W3 b o k v v' S C} (h : Nw w W b o k v S C) (hS : SetAt W2 (W.heap.size + 1) W.heap.size 0 []) (k2 : Kept none' W W2) (hp : Pushed W2 W3 v v' ((List.range k).map S) (W.heap.size + 1)) :
    Nw w (W3.setCell ⟨b, 2, none⟩ v') b o (k + 1) v' (fun j => if j = k then W.heap.size + 1 else S j) (fun j => if j = k then W.heap.size else C j) := by
  have hvb : ∀ r, v.ownBlock = some r → ∃ cs, W.heap[r]? = some (.cells cs 174 (0, 0)) := fun r hr => h.pl.blk hr
  have kv : Kept (fun x => v.ownBlock = some x) W W3 := k2.trans hp.kp (fun _ _ x => x.elim) (fun _ _ x => x)
  have hb3 : W3.heap[b]? = some (.cells #[.int .i64 (o : Int), .slice none 0 0, v] 141 (0, 0)) := (kv.block b (heap_lt h.hb) (fun e => by
    obtain ⟨cs, hcs⟩ := hvb _ e
    exact ty_ne h.hb hcs (by decide) rfl)).trans h.hb
  have ks : Kept (fun x => x = b) W3 (W3.setCell ⟨b, 2, none⟩ v') := (Kept.refl (fun x => x = b) W3).setCell (p := ⟨b, 2, none⟩) rfl _
  have set3 : ∀ {s c n ws}, SetAt W2 s c n ws → SetAt (W3.setCell ⟨b, 2, none⟩ v') s c n ws := fun {s c n ws} hs => by
    have hvb2 : ∀ r, v.ownBlock = some r → ∃ cs, W2.heap[r]? = some (.cells cs 174 (0, 0)) := fun r hr => by
      obtain ⟨cs, hcs⟩ := hvb r hr
      exact ⟨cs, (k2.block r (heap_lt hcs) (fun x => x)).trans hcs⟩
    have h3 := hs.kept hp.kp (fun e => by obtain ⟨cs, hcs⟩ := hvb2 _ e; exact ty_ne hs.hb hcs (by decide) rfl) (fun e => by obtain ⟨cs, hcs⟩ := hvb2 _ e; exact ty_ne hs.hc hcs (by decide) rfl)
    exact h3.kept ks (ty_ne h3.hb hb3 (by decide)) (ty_ne h3.hc hb3 (by decide))
  have hmap : (List.range (k + 1)).map (fun j => if j = k then W.heap.size + 1 else S j) = (List.range k).map S ++ [W.heap.size + 1] := by
    rw [List.range_succ, List.map_append]
    congr 1
    · exact List.map_congr_left (fun j hj => by rw [if_neg (by have := List.mem_range.1 hj; omega)])
    · simp
  obtain ⟨g, cap, hv'⟩ := hp.sl
  rw [List.length_map, List.length_range] at hv'
  have ltS : ∀ j, j < k → S j < W.heap.size := fun j hj => heap_lt (h.st j hj).hb
  have ltC : ∀ j, j < k → C j < W.heap.size := fun j hj => heap_lt (h.st j hj).hc
  refine ⟨(heap_set hb3 2 _).trans (by simp), ?_, .inr ⟨g, cap, hv', ?_⟩, fun j hj => ?_, fun i j hi hj e => ?_, fun i j hi hj e => ?_, fun j hj => ?_, h.hw, ?_⟩
  · rw [hmap]
    exact hp.pl.kept ks (fun r hr e => by obtain ⟨cs, hcs⟩ := hp.pl.blk hr; exact ty_ne hcs hb3 (by decide) e)
  · rcases hp.ob with e | ⟨r, e, hr⟩
    · rw [hv'] at e
      rcases h.vs with ⟨h0, _⟩ | ⟨g2, cap2, h0, hg2⟩
      · rw [h0] at e; simp [Value.ownBlock] at e
      · rw [h0] at e; simp [Value.ownBlock] at e; omega
    · rw [hv'] at e
      simp [Value.ownBlock] at e
      have := h.kp.size
      have := k2.size
      omega
  · by_cases e : j = k
    · simp only [e, if_true]
      exact set3 hS
    · simp only [e, if_false]
      exact set3 ((h.st j (by omega)).kept k2 (fun x => x) (fun x => x))
  · by_cases e1 : i = k <;> by_cases e2 : j = k <;> simp only [e1, e2, if_true, if_false] at e
    · omega
    · have := ltS j (by omega); omega
    · have := ltS i (by omega); omega
    · exact h.iS i j (by omega) (by omega) e
  · by_cases e1 : i = k <;> by_cases e2 : j = k <;> simp only [e1, e2, if_true, if_false] at e
    · omega
    · have := ltC j (by omega); omega
    · have := ltC i (by omega); omega
    · exact h.iC i j (by omega) (by omega) e
  · have hz := h.kp.size
    by_cases e : j = k
    · simp only [e, if_true]
      omega
    · simp only [e, if_false]
      exact h.hS j (by omega)
  · refine (h.kp.trans (U := none') kv (fun _ _ x => x) (fun x hx e => ?_)).setNew (p := ⟨b, 2, none⟩) (fun e => absurd e (Nat.not_lt.2 h.hw)) _
    rcases h.vs with ⟨h0, _⟩ | ⟨g2, cap2, h0, hg2⟩
    · rw [h0] at e; simp [Value.ownBlock] at e
    · rw [h0] at e; simp [Value.ownBlock] at e; omega
def newM (o : Nat) : Mp := ⟨o, 0, fun _ => zeroP, fun _ => []⟩
/-- All of a map's blocks are new. -/
def New' (w : World) (b : Nat) (B : Bs) (o : Nat) : Prop := ∀ x, mown b B o x → w.heap.size ≤ x
theorem Nw.fin {w W b o v S C} (h : Nw w W b o o v S C) (ho : o ≤ 8) : ∃ B, MapAt W b B (newM o) ∧ New' w b B o := by
  have hs : ∀ k, k < o → SetAt W (S k) (C k) (0 / 2 ^ (k + 1)) [] := fun k hk => by rw [Nat.zero_div]; exact h.st k hk
  rcases h.vs with ⟨hv, h0⟩ | ⟨g, cap, hv, hg⟩
  · refine ⟨⟨none, none, S, C⟩, ⟨ho, Nat.zero_le _, ⟨0, by simp [newM]⟩, ⟨0, ?_, h0, rfl⟩, rfl, hs, h.iS, h.iC, fun i hi => absurd hi (Nat.not_lt_zero _)⟩, ?_⟩
    · have := h.hb
      rw [hv] at this
      subst h0
      exact this
    · rintro x (rfl | e | e | ⟨k, hk, _⟩)
      · exact h.hw
      · cases e
      · cases e
      · omega
  · have hp := h.pl
    rcases hp.2 with ⟨h0, _⟩ | ⟨g2, cap2, cur, h0, hb2, hg2, h3, h4, h5, h6⟩
    · rw [hv] at h0; cases h0
    · rw [hv] at h0
      simp at h0
      obtain ⟨rfl, -, rfl⟩ := h0
      refine ⟨⟨none, some g, S, C⟩, ⟨ho, Nat.zero_le _, ⟨0, by simp [newM]⟩, ⟨cap, ?_, cur, hg2, by have := h5; omega, by show o ≤ cap; have := h3; simp at this; omega, fun k hk => ?_⟩, rfl, hs, h.iS, h.iC, fun i hi => absurd hi (Nat.not_lt_zero _)⟩, ?_⟩
      · have := h.hb
        rw [hv] at this
        exact this
      · have e : (cur.toList.take (((List.range o).map S).length * 1))[k]? = (((List.range o).map S).map ptr)[k]? := by rw [h6]
        rw [List.getElem?_take, if_pos (by simp; exact hk)] at e
        have hk2 : k < o := hk
        simpa [hk2, ptr] using e
      · rintro x (rfl | e | e | ⟨k, hk, rfl | rfl⟩)
        · exact h.hw
        · cases e
        · cases e; exact hg
        · exact (h.hS k hk).1
        · exact (h.hS k hk).2
set_option maxRecDepth 4000 in
set_option maxHeartbeats 4000000 in
theorem new_a (o : Nat) (ho : o ≤ 8) (w : World) :
    Calls Tryz.prog 71 #[.int .i64 (o : Int)] w fun e w' => ∃ b B, e = .returned (.pointer (some ⟨b, 0, none⟩)) ∧ MapAt w' b B (newM o) ∧ Kept none' w w' ∧ New' w b B o := by
  have HO := hid (show o ≤ 8 by omega)
  go_enter Tryz.func71, Tryz.ntmps71
  go_wp2
  have H0 := hid (show Nw w (w.alloc (.cells #[.int .i64 (o : Int), .slice none 0 0, .slice none 0 0] 141)) w.heap.size o 0 (.slice none 0 0) (fun _ => 0) (fun _ => 0) from
    ⟨heap_new w _, World.ownsRow_nil _ _ _ _, .inl ⟨rfl, rfl⟩, fun j hj => absurd hj (by omega), fun i j hi => absurd hi (by omega), fun i j hi => absurd hi (by omega), fun j hj => absurd hj (by omega), Nat.le_refl _, (Kept.refl none' w).alloc _⟩)
  go_loopw [13] (fun i W => ∃ k : Nat, k ≤ o ∧ i = .int .i64 k ∧ Hid (∃ v S C, Nw w W w.heap.size o k v S C)) (fun i _ => o - (intOf i).toNat)
  case atStart => exact ⟨0, by omega, rfl, ⟨_, _, _, H0.out⟩⟩
  case round =>
    clear H0
    obtain ⟨k, hk, rfl, hR⟩ := hrel
    obtain ⟨v, S, C, hR⟩ := hR.out
    have HR := hid hR
    have c2 : wr.cell? ⟨w.heap.size, 2, none⟩ = some v := by simp [World.cell?, hR.hb]
    clear hR
    by_cases hlt : k < o
    · have hki : (k : Int) < (o : Int) := by omega
      go_wp2_with fail
      go_region_law (first | (refine step_newset rfl rfl w.heap.size v c2 ?_; intro W2 HS K2 c2; have K2 := hid (none_trans (Kept.refl none' wr).drew K2.out); have c22 := ((Kept.refl none' W2).alloc (.cells #[.pointer (some ⟨wr.heap.size + 1, 0, none⟩)] 174)).cell (fun x => x) c2) | (refine step_push rfl (.tmp 19) (.tmp 21) rfl v _ k (wr.heap.size + 1) w.heap.size _ _ ((HR.out.pl.kept K2.out (fun _ _ x => x)).kept ((Kept.refl none' W2).alloc _) (fun _ _ x => x)) (by simp) (by have := HO.out; omega) (((K2.out.alloc _).block w.heap.size (heap_lt HR.out.hb) (fun x => x)).trans HR.out.hb) ⟨W2.heap.size, 0, none⟩ 1 rfl rfl (by rw [Addr.add_lit]; exact cell_new _ _ _) ?_; intro g' cap' W3 HPU e2 z2))
      all_goals
        have HN := hid (HR.out.next (HS.out.kept ((Kept.refl none' W2).alloc _) (fun x => x) (fun x => x)) (K2.out.alloc _) HPU.out)
        generalize hW : W3.setCell ⟨w.heap.size, 2, none⟩ (.slice (some ⟨g', 0, none⟩) (k + 1) cap') = W4 at HN
        clear hW HPU e2 z2 c22 c2
        go_wp2_with fail
        exact ⟨⟨k + 1, by omega, by simp, ⟨_, _, _, HN.out⟩⟩, by simp [intOf]; omega⟩
    · have hki : ¬ (k : Int) < (o : Int) := by omega
      obtain ⟨B, hB, hN⟩ := (show Nw w wr w.heap.size o o v S C from by
        have e : k = o := by omega
        rw [e] at HR
        exact HR.out).fin HO.out
      have HF := hid (show MapAt wr w.heap.size B (newM o) ∧ Kept none' w wr ∧ New' w w.heap.size B o from ⟨hB, HR.out.kp, hN⟩)
      clear hB hN
      go_wp2_with fail
      go_ret
      exact ⟨w.heap.size, rfl, B, HF.out⟩
set_option maxRecDepth 4000 in
set_option maxHeartbeats 4000000 in
theorem new_b (i : Int) (hi : i < 0) (w : World) :
    Calls Tryz.prog 71 #[.int .i64 i] w fun e w' => ∃ b B, e = .returned (.pointer (some ⟨b, 0, none⟩)) ∧ MapAt w' b B (newM 0) ∧ Kept none' w w' ∧ New' w b B 0 := by
  have HO := hid (show 0 ≤ 8 by omega)
  go_enter Tryz.func71, Tryz.ntmps71
  go_wp2
  have H0 := hid (show Nw w (w.alloc (.cells #[.int .i64 0, .slice none 0 0, .slice none 0 0] 141)) w.heap.size 0 0 (.slice none 0 0) (fun _ => 0) (fun _ => 0) from
    ⟨heap_new w _, World.ownsRow_nil _ _ _ _, .inl ⟨rfl, rfl⟩, fun j hj => absurd hj (by omega), fun i j hi => absurd hi (by omega), fun i j hi => absurd hi (by omega), fun j hj => absurd hj (by omega), Nat.le_refl _, (Kept.refl none' w).alloc _⟩)
  go_loopw [13] (fun i W => ∃ k : Nat, k ≤ 0 ∧ i = .int .i64 k ∧ Hid (∃ v S C, Nw w W w.heap.size 0 k v S C)) (fun i _ => 0 - (intOf i).toNat)
  case atStart => exact ⟨0, by omega, rfl, ⟨_, _, _, H0.out⟩⟩
  case round =>
    clear H0
    obtain ⟨k, hk, rfl, hR⟩ := hrel
    obtain ⟨v, S, C, hR⟩ := hR.out
    have HR := hid hR
    have c2 : wr.cell? ⟨w.heap.size, 2, none⟩ = some v := by simp [World.cell?, hR.hb]
    clear hR
    by_cases hlt : k < 0
    · have hki : (k : Int) < 0 := by omega
      go_wp2_with fail
      go_region_law (first | (refine step_newset rfl rfl w.heap.size v c2 ?_; intro W2 HS K2 c2; have K2 := hid (none_trans (Kept.refl none' wr).drew K2.out); have c22 := ((Kept.refl none' W2).alloc (.cells #[.pointer (some ⟨wr.heap.size + 1, 0, none⟩)] 174)).cell (fun x => x) c2) | (refine step_push rfl (.tmp 19) (.tmp 21) rfl v _ k (wr.heap.size + 1) w.heap.size _ _ ((HR.out.pl.kept K2.out (fun _ _ x => x)).kept ((Kept.refl none' W2).alloc _) (fun _ _ x => x)) (by simp) (by have := HO.out; omega) (((K2.out.alloc _).block w.heap.size (heap_lt HR.out.hb) (fun x => x)).trans HR.out.hb) ⟨W2.heap.size, 0, none⟩ 1 rfl rfl (by rw [Addr.add_lit]; exact cell_new _ _ _) ?_; intro g' cap' W3 HPU e2 z2))
      all_goals
        have HN := hid (HR.out.next (HS.out.kept ((Kept.refl none' W2).alloc _) (fun x => x) (fun x => x)) (K2.out.alloc _) HPU.out)
        generalize hW : W3.setCell ⟨w.heap.size, 2, none⟩ (.slice (some ⟨g', 0, none⟩) (k + 1) cap') = W4 at HN
        clear hW HPU e2 z2 c22 c2
        go_wp2_with fail
        exact ⟨⟨k + 1, by omega, by simp, ⟨_, _, _, HN.out⟩⟩, by simp [intOf]; omega⟩
    · have hki : ¬ (k : Int) < 0 := by omega
      obtain ⟨B, hB, hN⟩ := (show Nw w wr w.heap.size 0 0 v S C from by
        have e : k = 0 := by omega
        rw [e] at HR
        exact HR.out).fin HO.out
      have HF := hid (show MapAt wr w.heap.size B (newM 0) ∧ Kept none' w wr ∧ New' w w.heap.size B 0 from ⟨hB, HR.out.kp, hN⟩)
      clear hB hN
      go_wp2_with fail
      go_ret
      exact ⟨w.heap.size, rfl, B, HF.out⟩
set_option maxRecDepth 4000 in
set_option maxHeartbeats 4000000 in
theorem new_c (i : Int) (hi : 8 < i) (w : World) :
    Calls Tryz.prog 71 #[.int .i64 i] w fun e w' => ∃ b B, e = .returned (.pointer (some ⟨b, 0, none⟩)) ∧ MapAt w' b B (newM 8) ∧ Kept none' w w' ∧ New' w b B 8 := by
  have HO := hid (show 8 ≤ 8 by omega)
  go_enter Tryz.func71, Tryz.ntmps71
  go_wp2
  have H0 := hid (show Nw w (w.alloc (.cells #[.int .i64 8, .slice none 0 0, .slice none 0 0] 141)) w.heap.size 8 0 (.slice none 0 0) (fun _ => 0) (fun _ => 0) from
    ⟨heap_new w _, World.ownsRow_nil _ _ _ _, .inl ⟨rfl, rfl⟩, fun j hj => absurd hj (by omega), fun i j hi => absurd hi (by omega), fun i j hi => absurd hi (by omega), fun j hj => absurd hj (by omega), Nat.le_refl _, (Kept.refl none' w).alloc _⟩)
  go_loopw [13] (fun i W => ∃ k : Nat, k ≤ 8 ∧ i = .int .i64 k ∧ Hid (∃ v S C, Nw w W w.heap.size 8 k v S C)) (fun i _ => 8 - (intOf i).toNat)
  case atStart => exact ⟨0, by omega, rfl, ⟨_, _, _, H0.out⟩⟩
  case round =>
    clear H0
    obtain ⟨k, hk, rfl, hR⟩ := hrel
    obtain ⟨v, S, C, hR⟩ := hR.out
    have HR := hid hR
    have c2 : wr.cell? ⟨w.heap.size, 2, none⟩ = some v := by simp [World.cell?, hR.hb]
    clear hR
    by_cases hlt : k < 8
    · have hki : (k : Int) < 8 := by omega
      go_wp2_with fail
      go_region_law (first | (refine step_newset rfl rfl w.heap.size v c2 ?_; intro W2 HS K2 c2; have K2 := hid (none_trans (Kept.refl none' wr).drew K2.out); have c22 := ((Kept.refl none' W2).alloc (.cells #[.pointer (some ⟨wr.heap.size + 1, 0, none⟩)] 174)).cell (fun x => x) c2) | (refine step_push rfl (.tmp 19) (.tmp 21) rfl v _ k (wr.heap.size + 1) w.heap.size _ _ ((HR.out.pl.kept K2.out (fun _ _ x => x)).kept ((Kept.refl none' W2).alloc _) (fun _ _ x => x)) (by simp) (by have := HO.out; omega) (((K2.out.alloc _).block w.heap.size (heap_lt HR.out.hb) (fun x => x)).trans HR.out.hb) ⟨W2.heap.size, 0, none⟩ 1 rfl rfl (by rw [Addr.add_lit]; exact cell_new _ _ _) ?_; intro g' cap' W3 HPU e2 z2))
      all_goals
        have HN := hid (HR.out.next (HS.out.kept ((Kept.refl none' W2).alloc _) (fun x => x) (fun x => x)) (K2.out.alloc _) HPU.out)
        generalize hW : W3.setCell ⟨w.heap.size, 2, none⟩ (.slice (some ⟨g', 0, none⟩) (k + 1) cap') = W4 at HN
        clear hW HPU e2 z2 c22 c2
        go_wp2_with fail
        exact ⟨⟨k + 1, by omega, by simp, ⟨_, _, _, HN.out⟩⟩, by simp [intOf]; omega⟩
    · have hki : ¬ (k : Int) < 8 := by omega
      obtain ⟨B, hB, hN⟩ := (show Nw w wr w.heap.size 8 8 v S C from by
        have e : k = 8 := by omega
        rw [e] at HR
        exact HR.out).fin HO.out
      have HF := hid (show MapAt wr w.heap.size B (newM 8) ∧ Kept none' w wr ∧ New' w w.heap.size B 8 from ⟨hB, HR.out.kp, hN⟩)
      clear hB hN
      go_wp2_with fail
      go_ret
      exact ⟨w.heap.size, rfl, B, HF.out⟩
/-- What an order counts as. -/
def ordN (i : Int) : Nat := if i < 0 then 0 else if 8 < i then 8 else i.toNat
theorem ordN_le (i : Int) : ordN i ≤ 8 := by unfold ordN; split <;> (try split) <;> omega
theorem new_any (i : Int) (w : World) :
    Calls Tryz.prog 71 #[.int .i64 i] w fun e w' => ∃ b B, e = .returned (.pointer (some ⟨b, 0, none⟩)) ∧ MapAt w' b B (newM (ordN i)) ∧ Kept none' w w' ∧ New' w b B (ordN i) := by
  by_cases h : i < 0
  · rw [show ordN i = 0 by simp [ordN, h]]
    exact new_b i h w
  · by_cases h8 : 8 < i
    · rw [show ordN i = 8 by simp [ordN, h, h8]]
      exact new_c i h8 w
    · obtain ⟨o, rfl⟩ := Int.eq_ofNat_of_zero_le (show 0 ≤ i by omega)
      rw [show ordN (o : Int) = o by unfold ordN; rw [if_neg (by omega), if_neg (by omega)]; rfl]
      exact new_a o (by omega) w
end Go.Proofs.YtgjapopddblpoaaGreatDoor
/- pagemap: Plain. -/
namespace Go.Proofs.YtgjapopddblpoaaGreatDoor
open Go.RowKit
set_option linter.unusedVariables false

theorem info_wsl : (Tryz.prog.info? 59).map (fun i => (i.zero, i.size, i.bytes)) = some (some (.slice none 0 0), 1, 24) := by kernel_rfl
abbrev wsl (D : Nat → Nat) (wd : Nat → List Nat) (j : Nat) : Value := .slice (some ⟨D j, 0, none⟩) (wd j).length (wd j).length
/-- What Plain tells, while it is made. -/
structure Told (w W : World) (gp gq : Nat) (m : Mp) (k : Nat) (D : Nat → Nat) : Prop where
  row : Row W gp m.n m.pg
  q : ∃ cs : Array Value, W.heap[gq]? = some (.cells cs 59 (0, 0)) ∧ cs.size = m.o ∧ ∀ j, j < k → cs[j]? = some (wsl D m.wd j)
  d : ∀ j, j < k → W.heap[D j]? = some (.cells (wcells (m.wd j)) 27 (0, 0))
  iD : ∀ i j, i < k → j < k → D i = D j → i = j
  fp : w.heap.size ≤ gp
  fq : w.heap.size ≤ gq
  fd : ∀ j, j < k → w.heap.size ≤ D j
  kp : Kept none' w W
theorem Told.cell {w W gp gq m k D} (h : Told w W gp gq m k D) (j : Nat) (hj : j < m.o) : ∃ v, W.cell? ⟨gq, j, none⟩ = some v := by
  obtain ⟨cs, hg, hs, _⟩ := h.q
  exact ⟨cs[j]'(by omega), by simp [World.cell?, hg, hs, hj]⟩
theorem Told.froz {w W gp gq m k D} (h : Told w W gp gq m k D) (j : Nat) : W.frozen? ⟨gq, j, none⟩ = false := by
  obtain ⟨cs, hg, hs, _⟩ := h.q
  simp [World.frozen?, hg]
theorem Told.keep {w W W' gp gq m k D} (h : Told w W gp gq m k D) (kp : Kept none' W W') : Told w W' gp gq m k D := by
  obtain ⟨cs, hg, hs⟩ := h.q
  exact ⟨Row.kept h.row kp (fun x => x), ⟨cs, (kp.block _ (heap_lt hg) (fun x => x)).trans hg, hs⟩, fun j hj => (kp.block _ (heap_lt (h.d j hj)) (fun x => x)).trans (h.d j hj), h.iD, h.fp, h.fq, h.fd, none_trans h.kp kp⟩
theorem Told.next {w W W2 gp gq m k D} (h : Told w W gp gq m k D) (hk : k < m.o) (kp : Kept none' W W2) (hx : W2.heap[W.heap.size]? = some (.cells (wcells (m.wd k)) 27 (0, 0))) :
    Told w (W2.setCell ⟨gq, k, none⟩ (.slice (some ⟨W.heap.size, 0, none⟩) (m.wd k).length (m.wd k).length)) gp gq m (k + 1) (fun j => if j = k then W.heap.size else D j) := by
  have h2 := h.keep kp
  obtain ⟨cs, hg, hs, hc⟩ := h2.q
  obtain ⟨rs, hrb, _⟩ := h2.row
  have ks : Kept (fun x => x = gq) W2 (W2.setCell ⟨gq, k, none⟩ (.slice (some ⟨W.heap.size, 0, none⟩) (m.wd k).length (m.wd k).length)) := (Kept.refl (fun x => x = gq) W2).setCell (p := ⟨gq, k, none⟩) rfl _
  have lt : ∀ j, j < k → D j < W.heap.size := fun j hj => heap_lt (h.d j hj)
  refine ⟨Row.kept h2.row ks (ty_ne hrb hg (by decide)), ⟨_, heap_set hg k _, by simpa using hs, fun j hj => ?_⟩, fun j hj => ?_, fun i j hi hj e => ?_, h.fp, h.fq, fun j hj => ?_, h2.kp.setNew (p := ⟨gq, k, none⟩) (fun e => absurd e (Nat.not_lt.2 h.fq)) _⟩
  · rw [Array.getElem?_setIfInBounds]
    by_cases e : j = k
    · subst e
      rw [if_pos rfl, if_pos (by omega)]
      simp [wsl]
    · rw [if_neg (by omega), hc j (by omega)]
      simp [wsl, e]
  · by_cases e : j = k
    · simp only [e, if_true]
      exact (ks.block _ (heap_lt hx) (ty_ne hx hg (by decide))).trans hx
    · simp only [e, if_false]
      exact (ks.block _ (heap_lt (h2.d j (by omega))) (ty_ne (h2.d j (by omega)) hg (by decide))).trans (h2.d j (by omega))
  · by_cases e1 : i = k <;> by_cases e2 : j = k <;> simp only [e1, e2, if_true, if_false] at e
    · omega
    · have := lt j (by omega); omega
    · have := lt i (by omega); omega
    · exact h.iD i j (by omega) (by omega) e
  · by_cases e : j = k
    · simp only [e, if_true]
      exact h.kp.size
    · simp only [e, if_false]
      exact h.fd j (by omega)
end Go.Proofs.YtgjapopddblpoaaGreatDoor
/- Rows that grow by append. -/
namespace Go.Proofs.YtgjapopddblpoaaGreatDoor
open Go.RowKit
set_option linter.unusedVariables false

/-- A row that grows, since w0: it is full, or newer than w0. -/
structure GS (w0 W : World) (e : TypeId) (size : Nat) (v : Value) (n : Nat) (xs : List Value) : Prop where
  own : W.ownsRow 0 e size v n xs
  new : ∀ g cap, v = .slice (some ⟨g, 0, none⟩) n cap → cap ≤ n ∨ w0.heap.size ≤ g
  kp : Kept none' w0 W
theorem grown_kept' {w w' : World} {row : Option Nat} (h : w.grownBy w' row) : Kept (fun b => row = some b) w w' := ⟨h.os, h.tape, h.output, h.size, fun k hk hn => h.block k hk (fun e => hn e.symm)⟩
theorem GS.nil (w0 W : World) (e : TypeId) (size : Nat) (k : Kept none' w0 W) : GS w0 W e size (.slice none 0 0) 0 [] :=
  ⟨World.ownsRow_nil _ _ _ _, fun g cap h => by simp at h, k⟩
theorem GS.keep {w0 W W' e size v n xs} (h : GS w0 W e size v n xs) (k : Kept none' W W') : GS w0 W' e size v n xs := by
  refine ⟨⟨h.own.1, ?_⟩, h.new, none_trans h.kp k⟩
  rcases h.own.2 with h0 | ⟨g, cap, cur, rfl, hb, hg, h3⟩
  · exact .inl h0
  · exact .inr ⟨g, cap, cur, rfl, hb, (k.block g (heap_lt hg) (fun x => x)).trans hg, h3⟩
theorem GS.push {w0 W : World} {e : TypeId} {size : Nat} {v : Value} {n : Nat} {xs : List Value} (h : GS w0 W e size v n xs) (t : TypeId) (i : TypeInfo) (z : Value) (bytes : Nat)
    (ht : Tryz.prog.underlying t = some (.slice e)) (hi : Tryz.prog.info? e = some i) (hz : i.zero = some z) (hs : i.size = size) (hby : i.bytes = bytes) (hzs : z.cells.size = size) (hsz : 0 < size)
    (a : Addr) (c : Nat) (news : List Value) (hl : news.length = size) (hnews : ∀ j u, news[j]? = some u → W.cell? (a.add j) = some u) (h1 : ∀ u ∈ news, u.oneCell' = true) (h63 : n + 1 ≤ maxLen) (hbb : (n + 1) * bytes ≤ 140737488355328) :
    ∃ g cap w', (∀ ty, (Builtin.append_ #[t, t] ty #[v, .slice (some a) 1 c]).run Tryz.prog W = .ok (.slice (some ⟨g, 0, none⟩) (n + 1) cap) w') ∧ GS w0 w' e size (.slice (some ⟨g, 0, none⟩) (n + 1) cap) (n + 1) (xs ++ news) ∧ w0.heap.size ≤ g ∧ (∀ x, v.ownBlock ≠ some x → ∀ o, W.heap[x]? = some o → w'.heap[x]? = some o) := by
  have hl' : news.length = 1 * size := by rw [hl, Nat.one_mul]
  have ho := h.own
  by_cases hr : ∃ g cap, v = .slice (some ⟨g, 0, none⟩) n cap ∧ n + 1 ≤ cap
  · obtain ⟨g, cap, rfl, hroom⟩ := hr
    obtain ⟨w', hrun, hown, hgr⟩ := run_append_fits (P := Tryz.prog) W 0 t 0 e i size ht hi hs g n cap xs ho a 1 c news hl' hnews h1 hroom
    have hg := (h.new g cap rfl).resolve_left (by omega)
    have hk := grown_kept' hgr
    refine ⟨g, cap, w', fun ty => ?_, ⟨hown, fun g' cap' e => ?_, h.kp.trans hk (fun _ _ x => x) (fun x hx e => ?_)⟩, hg, fun x hx o hxo => (hk.block x (heap_lt hxo) hx).trans hxo⟩
    · rw [← hrun]; simp [Builtin.append_]
    · simp at e; exact .inr (by omega)
    · cases e; omega
  · have key : ∃ v' w', (Builtin.append_ #[t, t] 0 #[v, .slice (some a) 1 c]).run Tryz.prog W = .ok v' w' ∧ w'.ownsRow W.heap.size e size v' (n + 1) (xs ++ news) ∧ Kept none' W w' := by
      rcases ho.2 with ⟨rfl, h0⟩ | ⟨g, cap, cur, rfl, hb, hg, hnc, hcm, hcs, htake⟩
      · subst h0
        have : xs = [] := List.eq_nil_of_length_eq_zero (by rw [ho.1, Nat.zero_mul])
        subst this
        obtain ⟨v', w', hrun, hown, hgr, _⟩ := run_append_own (P := Tryz.prog) W W.heap.size t 0 e i z size bytes ht hi hz hs hby hzs hsz (.slice none 0 0) 0 [] (World.ownsRow_nil _ _ _ _) a 1 c news hl' hnews h1 h63 hbb (Nat.le_refl _)
        exact ⟨v', w', hrun, hown, (grown_kept' hgr).mono (fun _ _ e => by cases e)⟩
      · obtain ⟨v', w', hrun, hown, hgr⟩ := run_append_arg_grows (P := Tryz.prog) W t 0 e i z size bytes ht hi hz hs hby hzs hsz ⟨g, 0, none⟩ n cap xs ho.1 (fun j u hj => by
          rw [Addr.add_lit, Nat.zero_add]
          rw [← htake, List.getElem?_take] at hj
          split at hj
          · simp only [World.cell?, hg]
            rw [← Array.getElem?_toList, hj]
            rfl
          · cases hj) a 1 c news hl' hnews (Nat.lt_of_not_le fun hle => hr ⟨g, cap, rfl, hle⟩) h63 hbb
        exact ⟨v', w', hrun, hown, (grown_kept' hgr).mono (fun _ _ e => by cases e)⟩
    obtain ⟨v', w', hrun, hown, hk⟩ := key
    rcases hown.2 with ⟨_, h0⟩ | ⟨g, cap, cur, rfl, hb, hg, h3⟩
    · omega
    · refine ⟨g, cap, w', fun ty => ?_, ⟨⟨hown.1, .inr ⟨g, cap, cur, rfl, Nat.zero_le _, hg, h3⟩⟩, fun g' cap' e => ?_, none_trans h.kp hk⟩, Nat.le_trans h.kp.size hb, fun x hx o hxo => (hk.block x (heap_lt hxo) (fun x => x)).trans hxo⟩
      · rw [← hrun]; simp [Builtin.append_]
      · simp at e
        exact .inr (by have := h.kp.size; omega)
theorem info_w64 : (Tryz.prog.info? 27).map (fun i => (i.zero, i.size, i.bytes)) = some (some (.int .u64 0), 1, 8) := by kernel_rfl
theorem cells_new {w : World} {cs : Array Value} {t : TypeId} (j : Nat) (u : Value) (h : cs.toList[j]? = some u) : (w.alloc (.cells cs t)).cell? (Addr.add ⟨w.heap.size, 0, none⟩ j) = some u := by
  rw [Addr.add_lit, Nat.zero_add]
  have := heap_new w (.cells cs t)
  simp only [World.cell?, this]
  rw [← Array.getElem?_toList, h]
  rfl
theorem push_w64 {w0 W : World} {v : Value} {n : Nat} {xs : List Value} (h : GS w0 W 27 1 v n xs) (y : Int) (hn : n ≤ 2000) :
    ∃ g cap w', (∀ ty, (Builtin.append_ #[59, 59] ty #[v, .slice (some ⟨W.heap.size, 0, none⟩) 1 1]).run Tryz.prog (W.alloc (.cells #[.int .u64 y] 27)) = .ok (.slice (some ⟨g, 0, none⟩) (n + 1) cap) w') ∧ GS w0 w' 27 1 (.slice (some ⟨g, 0, none⟩) (n + 1) cap) (n + 1) (xs ++ [.int .u64 y]) := by
  obtain ⟨i, hi, hzz⟩ := Option.map_eq_some_iff.1 info_w64
  simp only [Prod.mk.injEq] at hzz
  obtain ⟨g, cap, w', h1, h2, _⟩ := (h.keep ((Kept.refl none' W).alloc (.cells #[.int .u64 y] 27))).push 59 i (.int .u64 0) 8 Tryz.underlying59 hi hzz.1 hzz.2.1 hzz.2.2 rfl (by decide) ⟨W.heap.size, 0, none⟩ 1 [.int .u64 y] rfl (fun j u hj => cells_new (cs := #[.int .u64 y]) j u hj) (by simp [Value.oneCell']) (by simp only [maxLen]; omega) (by omega)
  exact ⟨g, cap, w', h1, h2⟩
def flds (p : Pg) : List Value := [.int .i64 p.kd, .int .i64 p.od, .int .i64 p.cl, .int .i64 p.lv, .int .i64 p.nx, .int .i64 p.pv, .int .i64 p.fs, .int .u64 (p.b0 : Int), .int .u64 (p.b1 : Int), .int .u64 (p.b2 : Int), .int .u64 (p.b3 : Int)]
theorem push_page {w0 W : World} {v : Value} {n : Nat} {xs : List Value} (h : GS w0 W 103 11 v n xs) (p : Pg) (hn : n ≤ 2000) :
    ∃ g cap w', (∀ ty, (Builtin.append_ #[138, 138] ty #[v, .slice (some ⟨W.heap.size, 0, none⟩) 1 1]).run Tryz.prog (W.alloc (.cells (flds p).toArray 103)) = .ok (.slice (some ⟨g, 0, none⟩) (n + 1) cap) w') ∧ GS w0 w' 103 11 (.slice (some ⟨g, 0, none⟩) (n + 1) cap) (n + 1) (xs ++ flds p) := by
  obtain ⟨i, hi, hz, hs, hb⟩ := info_page_parts
  obtain ⟨g, cap, w', h1, h2, _⟩ := (h.keep ((Kept.refl none' W).alloc (.cells (flds p).toArray 103))).push 138 i (pval zeroP) 88 Tryz.underlying138 hi hz hs hb rfl (by decide) ⟨W.heap.size, 0, none⟩ 1 (flds p) rfl (fun j u hj => cells_new (cs := (flds p).toArray) j u hj) (by simp [Value.oneCell', flds]) (by simp only [maxLen]; omega) (by omega)
  exact ⟨g, cap, w', h1, h2⟩
end Go.Proofs.YtgjapopddblpoaaGreatDoor
