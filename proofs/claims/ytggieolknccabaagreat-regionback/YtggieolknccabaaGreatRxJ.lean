/- RegionPlays: a pool and the document's own side by side; croftlaw6.lists. -/
import Derived.Test.YtggieolknccabaaGreatRxI
namespace Go.Proofs.YtggieolknccabaaGreat
open Go.RowKit
set_option linter.unusedVariables false

/-- Both: of one Config, with the same lists and live blocks. -/
structure RW (w W : World) (lw : Nat) (x : Bx) (t : Bt) (fr : Nat → List Nat) (ls : List (Nat × Nat)) (b l r o g0 fc : Nat) (va : Option Addr) (vc : Nat) : Prop where
  po : PO w W lw x t fr ls
  rf : R6 w.heap.size W g0 fc o fr va vc ls
  eb : x.base = b
  el : x.lim = l
  eo : x.o = o
  er : t.m.n = r * 2 ^ o
  nd : (ls.map Prod.fst).Nodup
theorem RW.keep {w W W' lw x t fr ls b l r o g0 fc va vc} (h : RW w W lw x t fr ls b l r o g0 fc va vc) (k : Kept none' W W') : RW w W' lw x t fr ls b l r o g0 fc va vc := ⟨h.po.keep k, h.rf.keep k, h.eb, h.el, h.eo, h.er, h.nd⟩
theorem RW.nums {w W lw x t fr ls b l r o g0 fc va vc} (h : RW w W lw x t fr ls b l r o g0 fc va vc) : o ≤ 8 ∧ l ≤ 64 ∧ r ≤ l ∧ l * 2 ^ o ≤ 1024 ∧ b + 4096 * 1024 + 4096 < 18446744073709551616 ∧ t.m.n ≤ 1024 ∧ b + 4096 * t.m.n ≤ 9223372036854775808 := by
  obtain ⟨h1, h2, h3, h4, ⟨r', h5, h6, h7⟩, h8, h9⟩ := h.po.nums
  rw [h.el, h.eo] at *
  have hz : 0 < 2 ^ o := Nat.pow_pos (by decide)
  have hst := h.po.st
  have hrr : r = r' := by
    have e := h.er
    rw [h5] at e
    exact (Nat.eq_of_mul_eq_mul_right hz e).symm
  rw [h.eb] at *
  refine ⟨h1, h8, by omega, h9, by omega, h2, by omega⟩
theorem RW.fl {w W lw x t fr ls b l r o g0 fc va vc} (h : RW w W lw x t fr ls b l r o g0 fc va vc) : (∀ j, j ≤ o → (fr j).length ≤ 1024) ∧ ∀ j q, j ≤ o → q ∈ fr j → q ≤ 1024 := by
  refine ⟨fun j hj => h.po.sf.len (by rw [h.eo]; exact hj), fun j q hj hq => h.po.sf.le (by rw [h.eo]; exact hj) hq⟩
theorem RW.al {w W lw x t fr ls b l r o g0 fc va vc} (h : RW w W lw x t fr ls b l r o g0 fc va vc) : ∀ p k, (p, k) ∈ ls → k ≤ o ∧ p ≤ 1024 ∧ p % 2 ^ k = 0 := fun p k hm => by
  obtain ⟨a1, a2, a3⟩ := h.po.sf.sn.al hm
  have hn := h.po.nums.2.1
  rw [h.eo] at a1
  exact ⟨a1, by omega, a2⟩
theorem RW.len {w W lw x t fr ls b l r o g0 fc va vc} (h : RW w W lw x t fr ls b l r o g0 fc va vc) : ls.length ≤ 1024 := by
  have h1 := M.nodup_len 1024 (ls.map Prod.fst) h.nd (fun q hq => by
    obtain ⟨⟨p, k⟩, hm, rfl⟩ := List.mem_map.1 hq
    obtain ⟨a1, a2, a3⟩ := h.po.sf.sn.al hm
    have hn := h.po.nums.2.1
    have hz : 0 < 2 ^ k := Nat.pow_pos (by decide)
    show p < 1024
    omega)
  rwa [List.length_map] at h1
/-- What Free tells, and the document's own list. -/
theorem free_told {w W lw x t fr ls b l r o g0 fc va vc} (h : RW w W lw x t fr ls b l r o g0 fc va vc) (k : Nat) (hk : k ≤ o) :
    Calls Tryz.prog 36 #[.pointer (some ⟨x.b, 0, none⟩), .int .i64 (k : Int)] W fun e w' => ∃ fa fc', e = .returned (.slice fa (fr k).length fc') ∧ Kept none' W w' ∧ ∀ i, i < (fr k).length → ∃ g, fa = some ⟨g, 0, none⟩ ∧ w'.cell? ⟨g, i, none⟩ = some (.int .u64 ((b + 4096 * (fr k).getD i 0 : Nat) : Int)) := by
  refine (Free_yes x t k (by rw [h.eo]; exact hk) W h.po.pl.bd).mono ?_
  rintro e w' ⟨v, rfl, hv, hk', _⟩
  have h2 := hv.own
  obtain ⟨fa, fc', rfl⟩ := own_val h2
  have h3 := h.po.sf.words (k := k) (by rw [h.eo]; exact hk)
  rw [h3, List.length_map] at h2 ⊢
  refine ⟨fa, fc', rfl, hk', fun i hi => ?_⟩
  obtain ⟨g, hg, hc⟩ := own_get h2 (i := i) (u := .int .u64 ((b + 4096 * (fr k).getD i 0 : Nat) : Int)) (by
    rw [List.getElem?_map, List.getElem?_map, List.getElem?_eq_getElem hi]
    simp only [Option.map_some, M.e64, ad, h.eb]
    rw [List.getD_eq_getElem?_getD, List.getElem?_eq_getElem hi]
    rfl)
  exact ⟨g, hg, hc⟩
set_option maxRecDepth 4000 in
set_option maxHeartbeats 2000000 in
theorem lists6 {w W lw x t fr ls b l r o g0 fc va vc} (h : RW w W lw x t fr ls b l r o g0 fc va vc) (n : Nat) :
    Calls Tryz.prog 11 #[.pointer (some ⟨lw, 0, none⟩), r6V b (l : Int) (o : Int) (r : Int) (.slice (some ⟨g0, 0, none⟩) (o + 1) fc) (.slice va n vc)] W fun e w' => e = .returned (.bool true) ∧ Kept none' W w' := by
  have K0 := hid ((Kept.refl none' W).alloc (r6O b (l : Int) (o : Int) (r : Int) (.slice (some ⟨g0, 0, none⟩) (o + 1) fc) (.slice va n vc)))
  have X0 := hid (heap_new W (r6O b (l : Int) (o : Int) (r : Int) (.slice (some ⟨g0, 0, none⟩) (o + 1) fc) (.slice va n vc)))
  have R0 := hid (h.keep K0.out)
  obtain ⟨n1, n2, n3, n4, n5, n6, n7⟩ := h.nums
  have HLE := hid h.fl
  clear h
  go_enter Tryz.func11, Tryz.ntmps11
  go_upto_block 0 with fail
  generalize W.alloc (r6O b (l : Int) (o : Int) (r : Int) (.slice (some ⟨g0, 0, none⟩) (o + 1) fc) (.slice va n vc)) = W0 at *
  go_cut [4, 5, 6, 7] (fun s4 s5 s6 s7 wx => Hid (Kept none' W0 wx))
  case first =>
    rename_i KK hKK J' KK2 hJ hM
    clear hKK KK
    go_wp2_with fail
    go_loopw [4, 5, 6, 7] (fun s4 s5 s6 s7 W' => ∃ k : Nat, k ≤ o + 1 ∧ s5 = .int .i64 k ∧ Hid (Kept none' W0 W')) (fun _ i _ _ _ => o + 1 - (intOf i).toNat)
    case atStart => exact ⟨0, by omega, rfl, hid (Kept.refl none' W0)⟩
    case round =>
      obtain ⟨k, hk, rfl, hK⟩ := hrel
      obtain ⟨x0, x1, x2, x3, x4, x5, xf⟩ := r6c ((hK.out.block _ (heap_lt X0.out) (fun e => e)).trans X0.out)
      by_cases hlt : k ≤ o
      · have hki : (k : Int) ≤ (o : Int) := by omega
        have hk2 : (k : Int) < ((o + 1 : Nat) : Int) := by omega
        have hk3 : (k : Int) < (o : Int) + 1 := by omega
        have R1 := hid (R0.out.keep hK.out)
        obtain ⟨c0, c1, c2⟩ := R1.out.po.pl.c
        have FR := hid (free_told R1.out k hlt)
        obtain ⟨m, hm⟩ : ∃ m, m = (fr k).length := ⟨_, rfl⟩
        rw [← hm] at FR
        have HM := hid hm
        have hmb : m ≤ 1024 := by rw [hm]; exact HLE.out.1 k hlt
        clear hm
        go_wp2_with fail
        refine (Buddy6 R1.out.po.pl).mono ?_
        rintro e w2 ⟨rfl, h2⟩
        replace h2 := h2.symm
        subst h2
        go_wp2_with fail
        refine FR.out.mono ?_
        rintro e w3 ⟨fa, fc', rfl, hk3', hcell⟩
        have K3 := hid (none_trans hK.out hk3')
        have HC := hid hcell
        have R3 := hid (R1.out.keep hk3')
        clear hk3' hcell FR x0 x1 x2 x3 x4 x5 xf
        obtain ⟨x0, x1, x2, x3, x4, x5, xf⟩ := r6c ((K3.out.block _ (heap_lt X0.out) (fun e => e)).trans X0.out)
        obtain ⟨g, A, C, hg, r1, hA⟩ := R3.out.rf.fl.get k hlt
        injection hg with hg
        injection hg with hg
        subst hg
        rw [← HM.out] at r1
        clear hA
        go_wp2_with fail
        go_loopw [4, 7] (fun s4 s7 W' => ∃ i : Nat, i ≤ m ∧ s7 = .int .i64 i ∧ Hid (Kept none' w3 W')) (fun _ i _ => m - (intOf i).toNat)
        case atStart => exact ⟨0, Nat.zero_le _, rfl, hid (Kept.refl none' w3)⟩
        case round =>
          obtain ⟨i, hi, rfl, hK4⟩ := hrel
          by_cases hil : i < m
          · as_aux_lemma =>
            have hii : (i : Int) < (m : Int) := by omega
            have hil2 : i < (fr k).length := by rw [← HM.out]; exact hil
            obtain ⟨ga, hga, q1⟩ := HC.out i hil
            subst hga
            have q2 := hK4.out.cell (fun e => e) q1
            have R4 := hid (R3.out.keep hK4.out)
            obtain ⟨g, A', C', hg, r2, hA'⟩ := R4.out.rf.fl.get k hlt
            injection hg with hg
            injection hg with hg
            subst hg
            obtain ⟨gl, hgl, r3⟩ := hA'.get hil2
            subst hgl
            rw [← HM.out] at r2
            have hqb := HLE.out.2 k ((fr k).getD i 0) hlt (by rw [List.getD_eq_getElem?_getD, List.getElem?_eq_getElem hil2]; exact List.getElem_mem hil2)
            clear hA' hil2
            generalize (fr k).getD i 0 = q at *
            have AD := hid (fun W => Address6 b (l : Int) (o : Int) q hqb (by omega) W)
            obtain ⟨y, hy⟩ : ∃ y, y = b + 4096 * q := ⟨_, rfl⟩
            rw [← hy] at AD q1 q2
            clear hy q1
            have KD := hid ((Kept.refl none' wr).drew)
            have X4 := hid (((none_trans K3.out hK4.out).block _ (heap_lt X0.out) (fun e => e)).trans X0.out)
            obtain ⟨d0, d1, d2, d3, d4, d5, df⟩ := r6c ((KD.out.block _ (heap_lt X4.out) (fun e => e)).trans X4.out)
            have e1 := KD.out.cell (fun e => e) q2
            have e2 := KD.out.cell (fun e => e) r2
            have e3 := KD.out.cell (fun e => e) r3
            go_wp2_with fail
            go_region_held3 (fun w' => w'.cell? ⟨W.heap.size, 0, none⟩ = some (.int .u64 (b : Int)) ∧ w'.cell? ⟨W.heap.size, 1, none⟩ = some (.int .i64 (l : Int)) ∧ w'.cell? ⟨W.heap.size, 2, none⟩ = some (.int .i64 (o : Int)) ∧ w'.cell? ⟨W.heap.size, 4, none⟩ = some (.slice (some ⟨g0, 0, none⟩) (o + 1) fc) ∧ w'.cell? ⟨ga, i, none⟩ = some (.int .u64 (y : Int)) ∧ w'.cell? ⟨g0, k, none⟩ = some (.slice (some ⟨gl, 0, none⟩) m C') ∧ w'.cell? ⟨gl, i, none⟩ = some (.int .i64 (q : Int))) ((refine ⟨?_, ?_, ?_, ?_, ?_, ?_, ?_⟩ <;> with_reducible assumption)) (first
              | (go_at_call 31; (with_reducible refine (AD.out _).mono ?_); rintro e w5 ⟨rfl, hk5⟩; have K5 := hid (none_trans hK4.out (none_trans KD.out hk5)); obtain ⟨f0, f1, f2, f3, f4, f5, ff⟩ := r6c (((none_trans KD.out hk5).block _ (heap_lt X4.out) (fun e => e)).trans X4.out); have h1 := hk5.cell (fun e => e) e1; have h2 := hk5.cell (fun e => e) e2; have h3 := hk5.cell (fun e => e) e3; clear hk5)
              | fail)
            all_goals
              go_wp2_with fail
              exact ⟨⟨i + 1, by omega, by simp, K5⟩, by simp [intOf]; omega⟩
          · obtain rfl : i = m := by omega
            have hii : ¬ (i : Int) < (i : Int) := by omega
            have D := hid (none_trans K3.out hK4.out)
            go_wp2_with fail
            exact ⟨⟨k + 1, by omega, by simp, D⟩, by simp [intOf]; omega⟩
      · have hki : ¬ (k : Int) ≤ (o : Int) := by omega
        go_wp2_with fail
        go_meet
        case rel => exact hK
  case rest => as_aux_lemma =>
    have R1 := hid (R0.out.keep hcut.out)
    have X1 := hid ((hcut.out.block _ (heap_lt X0.out) (fun e => e)).trans X0.out)
    obtain ⟨z, hz⟩ : ∃ z, z = 2 ^ o := ⟨_, rfl⟩
    have hz2 : z ≤ 256 := by
      rw [hz]
      exact Nat.pow_le_pow_right (n := 2) (by decide) n1
    obtain ⟨q, hq⟩ : ∃ q, q = r * z := ⟨_, rfl⟩
    have hqi : (r : Int) * (z : Int) = (q : Int) := by rw [hq]; simp
    have hqb : q ≤ 1024 := by
      rw [hq, hz]
      exact Nat.le_trans (Nat.mul_le_mul_right _ n3) n4
    have hqw : IntKind.i64.wrap (q : Int) = (q : Int) := by rw [IntKind.wrap_i64]; omega
    have hqn : t.m.n = q := by rw [R1.out.er, hq, hz]
    have PW := hid (fun W => Power6 o (by omega) W)
    rw [← hz] at PW
    have KD := hid ((Kept.refl none' wc).drew)
    obtain ⟨d0, d1, d2, d3, d4, d5, df⟩ := r6c ((KD.out.block _ (heap_lt X1.out) (fun e => e)).trans X1.out)
    have SP := hid (fun W' (k : Kept none' wc W') => Space6 (R1.out.po.keep k).pl)
    have MP := hid (fun W' (k : Kept none' wc W') => Map6 (R1.out.po.keep k).pl)
    have RG := hid (fun W' (k : Kept none' wc W') => regions6 (R1.out.po.keep k) r (by rw [R1.out.eo]; exact R1.out.er))
    have PG := hid (fun W' (k : Kept none' wc W') => pages6 (R1.out.po.keep k))
    rw [hqn] at PG
    have KF := hid (none_trans K0.out hcut.out)
    have HX := hid (fun W' (k : Kept none' wc W') => r6c ((k.block _ (heap_lt X1.out) (fun e => e)).trans X1.out))
    clear hz hq hqn
    go_wp2_with fail
    go_region_held3 (fun w' => w'.cell? ⟨W.heap.size, 2, none⟩ = some (.int .i64 (o : Int)) ∧ w'.cell? ⟨W.heap.size, 3, none⟩ = some (.int .i64 (r : Int))) ((refine ⟨?_, ?_⟩ <;> with_reducible assumption)) (first
      | (go_at_call 35; (with_reducible refine (PW.out _).mono ?_); rintro e w8 ⟨rfl, h8⟩; replace h8 := h8.symm; subst h8)
      | (go_at_call 37; (with_reducible refine (PG.out _ K7.out).mono ?_); rintro e w8 ⟨rfl, h8⟩; replace h8 := h8.symm; subst h8)
      | (go_at_call 24; (with_reducible refine (MP.out _ K7.out).mono ?_); rintro e w8 ⟨rfl, h8⟩; replace h8 := h8.symm; subst h8)
      | (go_at_call 18; (with_reducible refine (RG.out _ KD.out).mono ?_); rintro e w7 ⟨rfl, hk7⟩; have K7 := hid (none_trans KD.out hk7); obtain ⟨_, _, a7, b7, _, _, _⟩ := HX.out _ K7.out; clear hk7)
      | (go_at_call 17; (with_reducible refine (SP.out _ KD.out).mono ?_); rintro e w4 ⟨rfl, h4⟩; replace h4 := h4.symm; subst h4)
      | fail)
    all_goals
      have D := hid (none_trans KF.out K7.out)
      go_wp2_with fail
      go_ret
      exact ⟨rfl, D.out⟩
end Go.Proofs.YtggieolknccabaaGreat
