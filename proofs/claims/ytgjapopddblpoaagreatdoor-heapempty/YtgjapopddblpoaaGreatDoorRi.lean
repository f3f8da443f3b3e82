import Derived.Test.YtgjapopddblpoaaGreatDoorHpI
import Derived.Deep.Upon
import Derived.Test.YtgjapopddblpoaaGreatDoorHpJ
/- Package malloc: rows of blocks; the live cells of a page. -/
namespace Go.Proofs.YtgjapopddblpoaaGreatDoor
open Go.RowKit
open Go.MuLone
set_option linter.unusedVariables false

theorem GS.pushM {w0 W : World} {e : TypeId} {size : Nat} {v : Value} {n : Nat} {xs : List Value} (h : GS w0 W e size v n xs) (t : TypeId) (i : TypeInfo) (z : Value) (bytes : Nat)
    (ht : Tryz.prog.underlying t = some (.slice e)) (hi : Tryz.prog.info? e = some i) (hz : i.zero = some z) (hs : i.size = size) (hby : i.bytes = bytes) (hzs : z.cells.size = size) (hsz : 0 < size)
    (a : Addr) (c m : Nat) (hm : 0 < m) (news : List Value) (hl' : news.length = m * size) (hnews : ∀ j u, news[j]? = some u → W.cell? (a.add j) = some u) (h1 : ∀ u ∈ news, u.oneCell' = true) (h63 : n + m ≤ maxLen) (hbb : (n + m) * bytes ≤ 140737488355328) :
    ∃ g cap w', (∀ ty, (Builtin.append_ #[t, t] ty #[v, .slice (some a) m c]).run Tryz.prog W = .ok (.slice (some ⟨g, 0, none⟩) (n + m) cap) w') ∧ GS w0 w' e size (.slice (some ⟨g, 0, none⟩) (n + m) cap) (n + m) (xs ++ news) ∧ w0.heap.size ≤ g ∧ Kept (fun b => v.ownBlock = some b) W w' ∧ (v.ownBlock = some g ∨ W.heap.size ≤ g) := by
  have ho := h.own
  by_cases hr : ∃ g cap, v = .slice (some ⟨g, 0, none⟩) n cap ∧ n + m ≤ cap
  · obtain ⟨g, cap, rfl, hroom⟩ := hr
    obtain ⟨w', hrun, hown, hgr⟩ := run_append_fits (P := Tryz.prog) W 0 t 0 e i size ht hi hs g n cap xs ho a m c news hl' hnews h1 hroom
    have hg := (h.new g cap rfl).resolve_left (by omega)
    have hk := grown_kept' hgr
    refine ⟨g, cap, w', fun ty => ?_, ⟨hown, fun g' cap' e => ?_, h.kp.trans hk (fun _ _ x => x) (fun x hx e => ?_)⟩, hg, hk, .inl (by simp [Value.ownBlock])⟩
    · rw [← hrun]; simp [Builtin.append_]
    · simp at e; exact .inr (by omega)
    · cases e; omega
  · have key : ∃ v' w', (Builtin.append_ #[t, t] 0 #[v, .slice (some a) m c]).run Tryz.prog W = .ok v' w' ∧ w'.ownsRow W.heap.size e size v' (n + m) (xs ++ news) ∧ Kept none' W w' := by
      rcases ho.2 with ⟨rfl, h0⟩ | ⟨g, cap, cur, rfl, hb, hg, hnc, hcm, hcs, htake⟩
      · subst h0
        have : xs = [] := List.eq_nil_of_length_eq_zero (by rw [ho.1, Nat.zero_mul])
        subst this
        obtain ⟨v', w', hrun, hown, hgr, _⟩ := run_append_own (P := Tryz.prog) W W.heap.size t 0 e i z size bytes ht hi hz hs hby hzs hsz (.slice none 0 0) 0 [] (World.ownsRow_nil _ _ _ _) a m c news hl' hnews h1 h63 hbb (Nat.le_refl _)
        exact ⟨v', w', hrun, hown, (grown_kept' hgr).mono (fun _ _ e => by cases e)⟩
      · obtain ⟨v', w', hrun, hown, hgr⟩ := run_append_arg_grows (P := Tryz.prog) W t 0 e i z size bytes ht hi hz hs hby hzs hsz ⟨g, 0, none⟩ n cap xs ho.1 (fun j u hj => by
          rw [Addr.add_lit, Nat.zero_add]
          rw [← htake, List.getElem?_take] at hj
          split at hj
          · simp only [World.cell?, hg]
            rw [← Array.getElem?_toList, hj]
            rfl
          · cases hj) a m c news hl' hnews (Nat.lt_of_not_le fun hle => hr ⟨g, cap, rfl, hle⟩) h63 hbb
        exact ⟨v', w', hrun, hown, (grown_kept' hgr).mono (fun _ _ e => by cases e)⟩
    obtain ⟨v', w', hrun, hown, hk⟩ := key
    rcases hown.2 with ⟨_, h0⟩ | ⟨g, cap, cur, rfl, hb, hg, h3⟩
    · omega
    · refine ⟨g, cap, w', fun ty => ?_, ⟨⟨hown.1, .inr ⟨g, cap, cur, rfl, Nat.zero_le _, hg, h3⟩⟩, fun g' cap' e => ?_, none_trans h.kp hk⟩, Nat.le_trans h.kp.size hb, hk.mono (fun _ _ e => e.elim), .inr hb⟩
      · rw [← hrun]; simp [Builtin.append_]
      · simp at e
        exact .inr (by have := h.kp.size; omega)
/-- Blocks as the cells of a row. -/
def blV : List (Nat × Nat) → List Value
  | [] => []
  | b :: l => .int .u64 (b.1 : Int) :: .int .u64 (b.2 : Int) :: blV l
theorem blV_app : ∀ l m : List (Nat × Nat), blV (l ++ m) = blV l ++ blV m
  | [], _ => rfl
  | b :: l, m => by
    show _ :: _ :: blV (l ++ m) = _
    rw [blV_app l m]
    rfl
theorem blV_len : ∀ l : List (Nat × Nat), (blV l).length = l.length * 2
  | [] => rfl
  | b :: l => by
    show (blV l).length + 1 + 1 = (l.length + 1) * 2
    rw [blV_len l]
    omega
theorem blV_one : ∀ (l : List (Nat × Nat)) (u : Value), u ∈ blV l → u.oneCell' = true
  | b :: l, u, h => by
    rcases List.mem_cons.1 h with rfl | h
    · rfl
    · rcases List.mem_cons.1 h with rfl | h
      · rfl
      · exact blV_one l u h
theorem info_blk : (Tryz.prog.info? 74).map (fun i => (i.zero, i.size, i.bytes)) = some (some (.agg #[.int .u64 0, .int .u64 0]), 2, 16) := by kernel_rfl
/-- A row of blocks. -/
abbrev GB (w0 W : World) (v : Value) (l : List (Nat × Nat)) : Prop := GS w0 W 74 2 v l.length (blV l)
theorem GB.push {w0 W : World} {v : Value} {l : List (Nat × Nat)} (h : GB w0 W v l) (a s : Nat) (hn : l.length ≤ 4000000) :
    ∃ g cap w', (∀ t, (Builtin.append_ #[71, 71] t #[v, .slice (some ⟨W.heap.size, 0, none⟩) 1 1]).run Tryz.prog (W.alloc (bkO a s)) = .ok (.slice (some ⟨g, 0, none⟩) (l.length + 1) cap) w') ∧ GB w0 w' (.slice (some ⟨g, 0, none⟩) (l.length + 1) cap) (l ++ [(a, s)]) ∧ Kept (fun b => v.ownBlock = some b) W w' := by
  obtain ⟨i, hi, hzz⟩ := Option.map_eq_some_iff.1 info_blk
  simp only [Prod.mk.injEq] at hzz
  have ka := (Kept.refl none' W).alloc (bkO a s)
  obtain ⟨g, cap, w', h1, h2, h5, h6, h7⟩ := (GS.keep h ka).pushM 71 i (.agg #[.int .u64 0, .int .u64 0]) 16 Tryz.underlying71 hi hzz.1 hzz.2.1 hzz.2.2 rfl (by decide) ⟨W.heap.size, 0, none⟩ 1 1 (by decide) [.int .u64 (a : Int), .int .u64 (s : Int)] rfl (fun j u hj => cells_new (cs := #[.int .u64 (a : Int), .int .u64 (s : Int)]) j u hj) (by simp [Value.oneCell']) (by simp only [maxLen]; omega) (by omega)
  refine ⟨g, cap, w', h1, ?_, ka.trans h6 (fun _ _ e => e.elim) (fun _ _ e => e)⟩
  show GS _ _ _ _ _ (l ++ [(a, s)]).length (blV (l ++ [(a, s)]))
  rw [blV_app, List.length_append]
  exact h2
theorem GB.pushL {w0 W : World} {v u : Value} {l m : List (Nat × Nat)} (h : GB w0 W v l) (hu : W.ownsRow 0 74 2 u m.length (blV m)) (hn : l.length ≤ 4000000) (hm : m.length ≤ 4000000) :
    ∃ v' w', (∀ t, (Builtin.append_ #[71, 71] t #[v, u]).run Tryz.prog W = .ok v' w') ∧ GB w0 w' v' (l ++ m) ∧ Kept (fun b => v.ownBlock = some b) W w' := by
  obtain ⟨i, hi, hzz⟩ := Option.map_eq_some_iff.1 info_blk
  simp only [Prod.mk.injEq] at hzz
  rcases hu.2 with ⟨rfl, h0⟩ | ⟨g, cap, cur, rfl, hb, hg, hnc, hcm, hcs, htake⟩
  · obtain rfl := List.eq_nil_of_length_eq_zero h0
    refine ⟨v, W, fun t => ?_, by rw [List.append_nil]; exact h, Kept.refl _ _⟩
    exact run_append_owned_none W 0 71 t 74 i 2 Tryz.underlying71 hi v _ _ h.own
  · rcases Nat.eq_zero_or_pos m.length with h0 | h0
    · obtain rfl := List.eq_nil_of_length_eq_zero h0
      refine ⟨v, W, fun t => ?_, by rw [List.append_nil]; exact h, Kept.refl _ _⟩
      obtain ⟨va, vc, rfl⟩ := own_val h.own
      have hle : l.length ≤ vc := by
        rcases h.own.2 with ⟨e, _⟩ | ⟨g', cap', cur', e, _, hg', hnc', _⟩
        · simp at e
          omega
        · simp at e
          omega
      exact run_append_nothing W 71 71 t 74 i Tryz.underlying71 hi va l.length vc hle _ (Src.ofSlice W Tryz.underlying71 ⟨g, 0, none⟩ 0 cap [] (by simp) (fun j u hj => by simp at hj) (fun u hu => by simp at hu))
    · obtain ⟨g2, cap2, w', h1, h2, h5, h6, h7⟩ := GS.pushM h 71 i (.agg #[.int .u64 0, .int .u64 0]) 16 Tryz.underlying71 hi hzz.1 hzz.2.1 hzz.2.2 rfl (by decide) ⟨g, 0, none⟩ cap m.length h0 (blV m) (blV_len m) (fun j u hj => by
          rw [Addr.add_lit, Nat.zero_add]
          rw [← htake, List.getElem?_take] at hj
          split at hj
          · simp only [World.cell?, hg]
            rw [← Array.getElem?_toList, hj]
            rfl
          · cases hj) (blV_one m) (by simp only [maxLen]; omega) (by omega)
      refine ⟨_, w', h1, ?_, h6⟩
      show GS _ _ _ _ _ (l ++ m).length (blV (l ++ m))
      rw [blV_app, List.length_append]
      exact h2
theorem next_pg (b g : Nat) : b + 4096 * (g + 1) = b + 4096 * g + 4096 := by omega
/-- The live cells of a page whose number is below j. -/
def ceL (x : Bx) (S : Sb) (g k : Nat) : Nat → List (Nat × Nat)
  | 0 => []
  | j + 1 => if j ∈ S.fl g then ceL x S g k j else ceL x S g k j ++ [(caN x g k j, szC k)]
theorem ceL_len (x : Bx) (S : Sb) (g k : Nat) : ∀ j, (ceL x S g k j).length ≤ j
  | 0 => Nat.le_refl _
  | j + 1 => by
    have := ceL_len x S g k j
    unfold ceL
    split
    · omega
    · rw [List.length_append]
      exact Nat.succ_le_succ this
section
variable {w W W' : World} {hb sb lw : Nat} {x : Bx} {t : Bt} {fr : Nat → List Nat} {ls : List (Nat × Nat)} {S : Sb} {s : Int}
theorem cell_size (H : HW w W hb sb lw x t fr ls S s) {g k j : Nat} (hc : S.c g = some k) (hj : j < ncl k) : ∃ z : Nat, (j ∈ S.fl g → z = 0) ∧ (j ∉ S.fl g → 16 ≤ z) ∧ z ≤ 2048 ∧ ∀ W', Kept none' W W' → Calls Tryz.prog 111 #[.pointer (some ⟨sb, 0, none⟩), .int .u64 ((caN x g k j : Nat) : Int)] W' fun e w' => e = .returned (.int .u64 (z : Int)) ∧ Kept none' W' w' := by
  obtain ⟨h, o⟩ := H.so
  have n4 := H.po.nums.2.2.2.1
  obtain ⟨hk, sp⟩ := o.si.pg _ k hc
  have hm := o.mem hc
  have hof := off_cell (x := x) (p := g) hk hj (by omega)
  have hz := szC_le hk
  have hlv := o.cell_liv hc hj
  by_cases hf : j ∈ S.fl g
  · rw [decide_eq_false (fun e => e hf)] at hlv
    refine ⟨0, fun _ => rfl, fun e => absurd hf e, by omega, fun W' kp => ?_⟩
    obtain ⟨h', o'⟩ := (H.keep kp).so
    exact Size_no o'.sw _ hof.2.2 hlv
  · rw [decide_eq_true hf] at hlv
    refine ⟨szC k, fun e => absurd e hf, fun _ => hz.1, hz.2, fun W' kp => ?_⟩
    obtain ⟨h', o'⟩ := (H.keep kp).so
    have := Size_yes o'.sw _ hof.2.2 hlv
    rw [show atQ x t (caN x g k j) = t.m.pg g from (at_cell (x := x) (t := t) hk hj (by omega) hm.2.1 sp.kd sp.cl).2.2.1, sp.cl, Int.toNat_natCast] at this
    exact this
set_option maxRecDepth 4000 in
set_option maxHeartbeats 4000000 in
theorem cells_h (H : HW w W hb sb lw x t fr ls S s) {g k : Nat} (hc : S.c g = some k) (q : Pg) (hq : q.cl = (k : Int)) :
    Calls Tryz.prog 69 #[.pointer (some ⟨hb, 0, none⟩), .int .i64 (g : Int), pval q] W fun e w' => ∃ v, e = .returned v ∧ GB W w' v (ceL x S g k (ncl k)) := by
  have n4 := H.po.nums.2.2.2.1
  have n2 := H.po.nums.2.1
  obtain ⟨h, o⟩ := H.so
  obtain ⟨hk, sp⟩ := o.si.pg _ k hc
  have hm := o.mem hc
  have hnb := ncl_b hk
  have hz := szC_le hk
  have hg : g + 1 ≤ 1024 := by omega
  clear o h sp
  have K0 := hid ((Kept.refl none' W).alloc (pobj q))
  have X0 := hid (heap_new W (pobj q))
  have CL := hid (fun W' => cell_h k hk q hq W')
  have AD := hid (fun W' (k : Kept none' W W') => address_h (H.keep k) g (by omega))
  have AD1 := hid (fun W' (k : Kept none' W W') => address_h (H.keep k) (g + 1) hg)
  have SZ := hid (fun j (hj : j < ncl k) => cell_size H hc hj)
  have CB := hid (fun W' (k : Kept none' W W') => (H.keep k).c)
  have CE := hid (fun j => And.intro (ceL_len x S g k j) (show ceL x S g k (j + 1) = if j ∈ S.fl g then ceL x S g k j else ceL x S g k j ++ [(caN x g k j, szC k)] from rfl))
  have cj : ∀ j, caN x g k j = x.base + 4096 * g + j * szC k := fun j => rfl
  have jm : ∀ j, j ≤ ncl k → j * szC k ≤ 4096 := fun j hj => by
    rw [← hnb.1]
    exact Nat.mul_le_mul_right _ hj
  have js : ∀ j, (j + 1) * szC k = j * szC k + szC k := fun j => by rw [Nat.add_mul, Nat.one_mul]
  have CF := hid (fun j => cj j)
  have JM := hid (fun j (hj : j ≤ ncl k) => jm j hj)
  have JS := hid js
  obtain ⟨a1, ha1⟩ : ∃ a, a = x.base + 4096 * (g + 1) := ⟨_, rfl⟩
  obtain ⟨a0, ha0⟩ : ∃ a, a = x.base + 4096 * g := ⟨_, rfl⟩
  rw [← ha1] at AD1
  rw [← ha0] at AD CF
  have hA : a1 = a0 + 4096 := by rw [ha1, ha0]; exact next_pg x.base g
  have hab : a1 ≤ 9223372036854775808 := by omega
  obtain ⟨N, hN⟩ : ∃ N, N = ncl k := ⟨_, rfl⟩
  obtain ⟨z, hzz⟩ : ∃ z, z = szC k := ⟨_, rfl⟩
  have NZ := hid (show N * z = 4096 by rw [hN, hzz]; exact hnb.1)
  rw [← hN] at SZ JM hnb ⊢
  rw [← hzz] at CL CE CF JM JS hz hnb
  have hNb : N ≤ 256 := hnb.2.2
  obtain ⟨f, hf⟩ : ∃ f, f = ceL x S g k := ⟨_, rfl⟩
  rw [← hf] at CE ⊢
  have f0 : f 0 = [] := by rw [hf]; rfl
  have HH := hid H
  clear H n4 n2 hm hq hc cj jm js ha0 ha1 hN hzz hnb hf hk
  go_enter Tryz.func69, Tryz.ntmps69
  obtain ⟨x0, x1, x2, x3, x4, x5, x6, x7, x8, x9, x10⟩ := box11 X0.out
  go_wp2_with fail
  refine (CL.out _).mono ?_
  rintro e w1 ⟨rfl, hk1⟩
  have K1 := hid (none_trans K0.out hk1)
  clear hk1 x0 x1 x2 x3 x4 x5 x6 x7 x8 x9 x10 X0 K0
  go_wp2_with fail
  refine (AD.out _ K1.out).mono ?_
  rintro e w2 ⟨rfl, h2⟩
  replace h2 := h2.symm
  subst h2
  go_wp2_with fail
  have HA := hid hA
  clear hA
  obtain ⟨g1, hg1⟩ : ∃ g1, g1 = g + 1 := ⟨_, rfl⟩
  rw [← hg1] at AD1 hg
  have ig2 : (g : Int) + 1 = (g1 : Int) := by omega
  clear hg1
  go_loopw [7, 9] (fun c p V => ∃ j : Nat, j ≤ N ∧ p = .int .u64 ((a0 + j * z : Nat) : Int) ∧ Hid (GB W V c (f j))) (fun _ p _ => a1 - (intOf p).toNat)
  case atStart => exact ⟨0, Nat.zero_le _, by rw [Nat.zero_mul, Nat.add_zero], hid (by rw [f0]; exact GS.nil _ _ _ _ K1.out)⟩
  case round =>
    clear K1 AD f0
    obtain ⟨j, hj, rfl, hG⟩ := hrel
    have hle := (CE.out j).1
    have jm := JM.out j hj
    have A1 := hid (AD1.out _ hG.out.kp)
    have hA := HA.out
    by_cases hlt : j < N
    · have js := JS.out j
      have jm1 := JM.out (j + 1) hlt
      obtain ⟨zz, z1, z2, z3, SZj⟩ := SZ.out j hlt
      have SZj := hid SZj
      rw [CF.out j] at SZj
      have ce := (CE.out j).2
      rw [CF.out j] at ce
      obtain ⟨c0, c2, c3, c4, c5, c6⟩ := CB.out _ hG.out.kp
      rw [js] at jm1
      obtain ⟨p, hp⟩ : ∃ p, p = a0 + j * z := ⟨_, rfl⟩
      obtain ⟨p1, hp1⟩ : ∃ p, p = a0 + (j + 1) * z := ⟨_, rfl⟩
      rw [← hp] at SZj ce ⊢
      have hpa : (p : Int) < (a1 : Int) := by omega
      have hpp : (p : Int) + (z : Int) = (p1 : Int) := by omega
      have hp1b : p1 ≤ a1 := by omega
      have hpd : p < p1 := by omega
      have PP := hid (show p1 = a0 + (j + 1) * z from hp1)
      clear jm jm1 js hp hp1 JM JS hA HA
      go_wp2_with fail
      refine A1.out.mono ?_
      rintro e w3 ⟨rfl, h3⟩
      replace h3 := h3.symm
      subst h3
      go_wp2_with fail
      refine (SZj.out _ hG.out.kp).mono ?_
      rintro e w4 ⟨rfl, hk4⟩
      have G4 := hid (GS.keep hG.out hk4)
      clear hk4 c0 c2 c3 c4 c5 c6
      by_cases hf : j ∈ S.fl g
      · rw [if_pos hf] at ce
        obtain rfl := z1 hf
        have zn : (((0 : Nat) : Int) != 0) = false := rfl
        go_wp2_with fail
        exact ⟨⟨j + 1, hlt, by rw [← PP.out], hid (by rw [ce]; exact G4.out)⟩, by simp [intOf]; omega⟩
      · rw [if_neg hf] at ce
        have zp := z2 hf
        have zn : ((zz : Int) != 0) = true := by rw [bne_iff_ne]; omega
        obtain ⟨gg, cap, w5, PU, G5, _⟩ := GB.push G4.out p z (by omega)
        have G5 := hid G5
        have HAP := hid PU
        clear PU
        go_wp2_with (at_builtin; refine Lib.wpList_append_run _ rfl _ _ _ _ rfl _ (.slice (some ⟨w4.heap.size, 0, none⟩) 1 1) rfl rfl _ _ (HAP.out _) ?_)
        exact ⟨⟨j + 1, hlt, by rw [← PP.out], hid (by rw [ce]; exact G5.out)⟩, by simp [intOf]; omega⟩
    · obtain rfl : j = N := by omega
      rw [NZ.out] at jm ⊢
      obtain ⟨p, hp⟩ : ∃ p, p = a0 + 4096 := ⟨_, rfl⟩
      rw [← hp]
      have hpa : ¬ (p : Int) < (a1 : Int) := by omega
      clear hp hA HA jm NZ JM JS CF
      go_wp2_with fail
      refine A1.out.mono ?_
      rintro e w3 ⟨rfl, h3⟩
      replace h3 := h3.symm
      subst h3
      go_wp2_with fail
      go_ret
      exact ⟨_, rfl, hG.out⟩
end
end Go.Proofs.YtgjapopddblpoaaGreatDoor
/- Package malloc: Live. -/
namespace Go.Proofs.YtgjapopddblpoaaGreatDoor
open Go.RowKit
open Go.MuLone
set_option linter.unusedVariables false

/-- The live blocks that begin in a page. -/
def pgL (x : Bx) (t : Bt) (S : Sb) (i : Nat) : List (Nat × Nat) := match S.c i with
  | some k => ceL x S i k (ncl k)
  | none => if (t.m.pg i).kd = 2 then [(x.base + 4096 * i, 4096 * 2 ^ (t.m.pg i).od.toNat)] else []
/-- The live blocks that begin ahead of page i, rising. -/
def lvL (x : Bx) (t : Bt) (S : Sb) : Nat → List (Nat × Nat)
  | 0 => []
  | i + 1 => lvL x t S i ++ pgL x t S i
/-- A page as Live looks at it. -/
inductive Lv8 (x : Bx) (S : Sb) (q : Pg) (i : Nat) (l : List (Nat × Nat)) : Prop where
  | none (hq : q.kd = 0 ∨ q.kd = 1 ∨ q.kd = 3) (h1 : l = [])
  | head (k : Nat) (hk : k ≤ 8) (hq : q.kd = 2) (ho : q.od = (k : Int)) (h1 : l = [(x.base + 4096 * i, 4096 * 2 ^ k)])
  | slab (k : Nat) (hq : q.kd = 4) (hc : S.c i = some k) (hl : q.cl = (k : Int)) (h1 : l = ceL x S i k (ncl k))
theorem own_frame {w0 w1 W W' : World} {v : Value} {l : List (Nat × Nat)} (h : GB w0 W v l) (hs : w0.heap.size = w1.heap.size) (k : Kept none' w1 W') (hE : ∀ y, v.ownBlock = some y → W'.heap[y]? = W.heap[y]?) : GB w1 W' v l := by
  refine ⟨⟨h.own.1, ?_⟩, fun g cap e => by rw [← hs]; exact h.new g cap e, k⟩
  rcases h.own.2 with h0 | ⟨g, cap, cur, rfl, hb, hg, h3⟩
  · exact .inl h0
  · exact .inr ⟨g, cap, cur, rfl, hb, (hE g (by simp [Value.ownBlock])).trans hg, h3⟩
theorem step_pushB {ops : Array Oper} {o : Oper} {a : Act} {K : Act → World → Prop} {Q : Exit → Act → World → Prop} {E : Prop} {W w' : World} {v u v' : Value}
    (hgd : o.guard = none) (s x : Operand) (hop : o.op = .call { callee := .builtin .append, args := #[s, x], argTypes := #[71, 71] })
    (hs : a.eval s = v) (hx : a.eval x = u) (hrun : ∀ t, (Builtin.append_ #[71, 71] t #[v, u]).run Tryz.prog W = .ok v' w') (h : K (a.put o.dst v') w') :
    if Region.wanted o (yielded ops a.tmps) = true then Oper.wp Tryz.prog o a W K Q else E := by
  have hw : Region.wanted o (yielded ops a.tmps) = true := by simp [Region.wanted, hgd]
  rw [if_pos hw]
  exact Lib.wp_append_run W s x _ _ hop _ _ hs hx _ _ (hrun _) h
section
variable {w W W' : World} {hb sb lw : Nat} {x : Bx} {t : Bt} {fr : Nat → List Nat} {ls : List (Nat × Nat)} {S : Sb} {s : Int}
theorem HW.lk (H : HW w W hb sb lw x t fr ls S s) {i : Nat} (hi : i < t.m.n) : Lv8 x S (t.m.pg i) i (pgL x t S i) := by
  obtain ⟨h, o⟩ := H.so
  have n1 := o.po.nums.1
  cases o.kind hi with
  | slab k hc =>
    obtain ⟨hk, sp⟩ := o.si.pg i k hc
    exact .slab k sp.kd hc sp.cl (by unfold pgL; rw [hc])
  | big q k hm hc hg h1 h2 hp =>
    have hk : k ≤ 8 := Nat.le_trans (o.al hm).1 n1
    by_cases e : i = q
    · rw [if_pos e] at hp
      refine .head k hk (by rw [hp]; rfl) (by rw [hp]; rfl) ?_
      unfold pgL
      rw [hg, hp]
      rfl
    · rw [if_neg e] at hp
      refine .none (.inr (.inr (by rw [hp]; rfl))) ?_
      unfold pgL
      rw [hg, hp]
      rfl
  | free q j hm hj hg h1 h2 hp =>
    by_cases e : i = q
    · rw [if_pos e] at hp
      refine .none (.inl (by rw [hp]; rfl)) ?_
      unfold pgL
      rw [hg, hp]
      rfl
    · rw [if_neg e] at hp
      refine .none (.inr (.inl (by rw [hp]; rfl))) ?_
      unfold pgL
      rw [hg, hp]
      rfl
theorem HW.lvb (H : HW w W hb sb lw x t fr ls S s) : ∀ i, i ≤ t.m.n → (lvL x t S i).length ≤ i * 256
  | 0, _ => Nat.le_refl _
  | i + 1, hi => by
    have h1 := H.lvb i (by omega)
    have h2 : (pgL x t S i).length ≤ 256 := by
      cases H.lk (i := i) (by omega) with
      | none hq h1 => rw [h1]; decide
      | head k hk hq ho h1 => rw [h1]; exact (by decide : 1 ≤ 256)
      | slab k hq hc hl h1 =>
        obtain ⟨h, o⟩ := H.so
        rw [h1]
        exact Nat.le_trans (ceL_len x S i k _) (ncl_b (o.si.pg i k hc).1).2.2
    unfold lvL
    rw [List.length_append]
    omega
set_option maxRecDepth 6000 in
set_option maxHeartbeats 4000000 in
theorem Live_h (H : HW w W hb sb lw x t fr ls S 0) :
    Calls Tryz.prog 31 #[.pointer (some ⟨hb, 0, none⟩)] W fun e w' => ∃ v, e = .returned v ∧ GB W w' v (lvL x t S t.m.n) := by
  have n2 := H.po.nums.2.1
  have LK := hid H.lock
  have HI := hid H.in
  have SB := hid (fun i (hi : i ≤ t.m.n) => H.lvb i hi)
  have SK := hid (fun i (hi : i < t.m.n) => H.lk hi)
  have sL := hid (fun i => show lvL x t S (i + 1) = lvL x t S i ++ pgL x t S i from rfl)
  have hsz : (lk1 W hb).heap.size = W.heap.size := by simp
  obtain ⟨n, hn⟩ : ∃ n, n = t.m.n := ⟨_, rfl⟩
  have HH := hid H
  have HN := hid hn
  have z0 : lvL x t S 0 = [] := rfl
  rw [← hn] at n2 SB SK ⊢
  obtain ⟨f, hf⟩ : ∃ f, f = lvL x t S := ⟨_, rfl⟩
  rw [← hf] at SB sL z0 ⊢
  have AD := hid (fun i (hi : i < n) W' (k : Kept none' (lk1 W hb) W') => address_h (HI.out.keep k) i (by omega))
  have CH := hid (fun i k (hc : S.c i = some k) (q : Pg) (hq : q.cl = (k : Int)) W' (kk : Kept none' (lk1 W hb) W') => cells_h (HI.out.keep kk) hc q hq)
  clear H hn hf
  go_enter_defers Tryz.func31, Tryz.ntmps31
  go_wp2_with fail
  refine LK.out.mono ?_
  rintro e w1 ⟨rfl, rfl⟩
  have MP := hid (Map6 HI.out.po.pl)
  have PGS := hid (pages6 HI.out.po)
  rw [← HN.out] at PGS
  obtain ⟨c0, c2, c3, c4, c5, c6⟩ := HI.out.c
  go_wp2_with fail
  refine MP.out.mono ?_
  rintro e w4 ⟨rfl, h4⟩
  replace h4 := h4.symm
  subst h4
  go_wp2_with fail
  refine PGS.out.mono ?_
  rintro e w4 ⟨rfl, h4⟩
  replace h4 := h4.symm
  subst h4
  clear MP PGS c0 c2 c3 c4 c5 c6
  go_wp2_with fail
  go_loopw [3, 22] (fun v c V => ∃ i : Nat, i ≤ n ∧ c = .int .i64 (i : Int) ∧ Hid (GB (lk1 W hb) V v (f i))) (fun _ c _ => n - (intOf c).toNat)
  case atStart => exact ⟨0, Nat.zero_le _, rfl, hid (by rw [z0]; exact GS.nil _ _ _ _ (Kept.refl none' _))⟩
  case round =>
    rename_i v _
    clear z0
    obtain ⟨i, hi, rfl, hG⟩ := hrel
    obtain ⟨va, vc, rfl⟩ := own_val hG.out.own
    have hle := SB.out i hi
    by_cases hlt : i < n
    · have hii : (i : Int) < (n : Int) := by omega
      have hin : i < t.m.n := by rw [← HN.out]; exact hlt
      have HJ := hid (HI.out.keep hG.out.kp)
      have MP := hid (Map6 HJ.out.po.pl)
      have AT := hid (at_any x.m x.B t.m (i : Int) wr HJ.out.po.pl.bd.mp)
      rw [show atP t.m (i : Int) = t.m.pg i by unfold atP; rw [if_pos (inR_yes hin), Int.toNat_natCast]] at AT
      obtain ⟨c0, c2, c3, c4, c5, c6⟩ := HJ.out.c
      have sk := SK.out i hlt
      have aL := sL.out i
      have ADi := hid (AD.out i hlt)
      obtain ⟨m, hm⟩ : ∃ m, m = x.base + 4096 * i := ⟨_, rfl⟩
      rw [← hm] at ADi
      generalize t.m.pg i = q at *
      go_wp2_with fail
      refine MP.out.mono ?_
      rintro e w4 ⟨rfl, h4⟩
      replace h4 := h4.symm
      subst h4
      go_wp2_with fail
      refine AT.out.mono ?_
      rintro e w5 ⟨rfl, hk5⟩
      have G6 := hid (GS.keep hG.out (hk5.alloc (pobj q)))
      have X5 := hid (heap_new w5 (pobj q))
      clear MP AT hk5 c0 c2 c3 c4 c5 c6 hG HJ
      go_upto_region 8 with fail
      generalize w5.alloc (pobj q) = w6 at *
      generalize w5.heap.size = y5 at *
      obtain ⟨x0, x1, x2, x3, x4, x5, x6, x7, x8, x9, x10⟩ := box11 X5.out
      cases sk with
      | none hq h1 =>
        rw [h1, List.append_nil] at aL
        have q2 : (q.kd == 2) = false := by rw [beq_eq_false_iff_ne]; omega
        have q4 : (q.kd == 4) = false := by rw [beq_eq_false_iff_ne]; omega
        clear hq
        go_wp2_with fail
        exact ⟨⟨i + 1, by omega, by simp, hid (by rw [aL]; exact G6.out)⟩, by simp [intOf]; omega⟩
      | head k hk hq ho h1 =>
        have q2 : (q.kd == 2) = true := by rw [beq_iff_eq]; exact hq
        have RN := hid (fun W' => run_h k hk q ho W')
        obtain ⟨z, hz⟩ : ∃ z, z = 4096 * 2 ^ k := ⟨_, rfl⟩
        rw [← hz] at RN h1
        rw [← hm] at h1
        rw [h1] at aL
        have KD := hid ((Kept.refl none' w6).drew)
        have AL := hid aL
        have HLE := hid hle
        have XC := hid (fun W' (kk : Kept none' w6 W') => box11 ((kk.block _ (heap_lt X5.out) (fun e => e)).trans X5.out))
        have XE := hid (fun W7 W8 (k7 : Kept none' w6 W7) (k8 : Kept (fun b => (Value.slice va (f i).length vc).ownBlock = some b) W7 W8) => box11 ((k8.block _ (Nat.lt_of_lt_of_le (heap_lt X5.out) k7.size) (fun e => by
          obtain ⟨cs, hcs⟩ := own_ty G6.out.own e
          rw [X5.out] at hcs
          simp at hcs)).trans ((k7.block _ (heap_lt X5.out) (fun e => e)).trans X5.out)))
        have HL6 := hid (show (f i).length ≤ 4000000 by omega)
        have A6 := hid (ADi.out _ (none_trans G6.out.kp KD.out))
        clear hq ho hk hz h1 aL hm hle hin
        go_wp2_with fail
        refine wp_region_noPanic ?_
        obtain ⟨d0, d1, d2, d3, d4, d5, d6, d7, d8, d9, d10⟩ := XC.out _ KD.out
        go_region_held3 (fun w' => w'.cell? ⟨y5, 0, none⟩ = some (.int .i64 q.kd) ∧ w'.cell? ⟨y5, 1, none⟩ = some (.int .i64 q.od) ∧ w'.cell? ⟨y5, 2, none⟩ = some (.int .i64 q.cl) ∧ w'.cell? ⟨y5, 3, none⟩ = some (.int .i64 q.lv) ∧ w'.cell? ⟨y5, 4, none⟩ = some (.int .i64 q.nx) ∧ w'.cell? ⟨y5, 5, none⟩ = some (.int .i64 q.pv) ∧ w'.cell? ⟨y5, 6, none⟩ = some (.int .i64 q.fs) ∧ w'.cell? ⟨y5, 7, none⟩ = some (.int .u64 (q.b0 : Int)) ∧ w'.cell? ⟨y5, 8, none⟩ = some (.int .u64 (q.b1 : Int)) ∧ w'.cell? ⟨y5, 9, none⟩ = some (.int .u64 (q.b2 : Int)) ∧ w'.cell? ⟨y5, 10, none⟩ = some (.int .u64 (q.b3 : Int))) ((refine ⟨?_, ?_, ?_, ?_, ?_, ?_, ?_, ?_, ?_, ?_, ?_⟩ <;> with_reducible assumption)) (first
          | (go_at_call 68; (with_reducible refine A6.out.mono ?_); rintro e w7 ⟨rfl, h7⟩; replace h7 := h7.symm; subst h7)
          | (go_at_call 43; (with_reducible refine (RN.out _).mono ?_); rintro e w7 ⟨rfl, hk7⟩; have K7 := hid (none_trans KD.out hk7); obtain ⟨v0, v1, v2, v3, v4, v5, v6, v7, v8, v9, v10⟩ := XC.out _ K7.out; obtain ⟨b0, b1, b2, b3, b4, b5, b6, b7, b8, b9, b10⟩ := XC.out _ (K7.out.alloc (bkO m z)); obtain ⟨gg, cap, w8, HAP, G8, K8⟩ := GB.push (GS.keep G6.out K7.out) m z (HL6.out); obtain ⟨e0, e1, e2, e3, e4, e5, e6, e7, e8, e9, e10⟩ := XE.out _ _ K7.out K8; clear hk7 K8; have G8 := hid G8; replace HAP := hid HAP)
          | (refine step_pushB rfl (.tmp 41) (.tmp 48) rfl rfl rfl HAP.out ?_)
          | fail)
        all_goals
          refine NoPanic.normal ?_
          go_wp2_with fail
          exact ⟨⟨i + 1, by omega, by simp, hid (by rw [AL.out]; exact G8.out)⟩, by simp [intOf]; omega⟩
      | slab k hq hc hl h1 =>
        have q2 : (q.kd == 2) = false := by rw [beq_eq_false_iff_ne]; omega
        have q4 : (q.kd == 4) = true := by rw [beq_iff_eq]; exact hq
        rw [h1] at aL
        have AL := hid aL
        have HLE := hid hle
        have C6 := hid (CH.out i k hc q hl _ G6.out.kp)
        have hcl : (ceL x S i k (ncl k)).length ≤ 256 := by
          obtain ⟨h, o⟩ := HI.out.so
          exact Nat.le_trans (ceL_len x S i k _) (ncl_b (o.si.pg i k hc).1).2.2
        have HCL := hid hcl
        clear hq hc hl h1 aL hm hle hin hcl
        go_wp2_with fail
        refine C6.out.mono ?_
        rintro e w7 ⟨u, rfl, hu⟩
        have G7 := hid (GS.keep G6.out hu.kp)
        obtain ⟨v8, w8, HAP, G8, _⟩ := GB.pushL G7.out hu.own (by have := HLE.out; omega) (by have := HCL.out; omega)
        have HAP := hid HAP
        have G8 := hid G8
        clear hu
        go_wp2_with (at_builtin; refine Lib.wpList_append_run _ rfl _ _ _ _ rfl _ _ rfl rfl _ _ (HAP.out _) ?_)
        exact ⟨⟨i + 1, by omega, by simp, hid (by rw [AL.out]; exact G8.out)⟩, by simp [intOf]; omega⟩
    · obtain rfl : i = n := by omega
      have hii : ¬ (i : Int) < (i : Int) := by omega
      have H9 := hid (HI.out.keep hG.out.kp)
      go_wp2_with fail
      have UL := hid (H9.out.unlock .returning)
      have D := hid (show GB W (lk0 wr hb) (.slice va (f i).length vc) (f i) from by
        refine own_frame hG.out hsz (HH.out.round (K := none') (fun e => e) hG.out.kp H9.out rfl rfl rfl) (fun y hy => (H9.out.set 0).2.block _ ?_ ?_)
        · obtain ⟨cs, hcs⟩ := own_ty hG.out.own hy
          exact heap_lt hcs
        · intro e
          subst e
          obtain ⟨cs, hcs⟩ := own_ty hG.out.own hy
          rw [H9.out.bx] at hcs
          simp at hcs)
      refine leaves_cons (f := 36) (args := #[.pointer (some ⟨hb, 0, none⟩)]) (by simp) (by simp [go_sem]) ?_
      refine UL.out.mono ?_
      rintro e u' w3 ⟨rfl, rfl, rfl⟩
      exact ⟨_, by simp [results, Tryz.results31, go_sem], _, rfl, D.out⟩
end
end Go.Proofs.YtgjapopddblpoaaGreatDoor
