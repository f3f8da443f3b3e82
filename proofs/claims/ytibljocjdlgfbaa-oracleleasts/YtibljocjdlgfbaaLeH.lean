/- croftlaw11.sizes; OracleLeasts. -/
import Derived.Test.YtibljocjdlgfbaaLeG
import Derived.Test.YtibljocjdlgfbaaTuC
import Derived.Test.YtibljocjdlgfbaaBlB
namespace Go.Proofs.Ytibljocjdlgfbaa
open Go.RowKit
set_option linter.unusedVariables false

/-- Several at once. -/
theorem GS.pushN {w0 W : World} {e : TypeId} {size : Nat} {v : Value} {n : Nat} {xs : List Value} (m : Nat) (hm : 1 ≤ m) (h : GS w0 W e size v n xs) (t : TypeId) (i : TypeInfo) (z : Value) (bytes : Nat)
    (ht : Try.prog.underlying t = some (.slice e)) (hi : Try.prog.info? e = some i) (hz : i.zero = some z) (hs : i.size = size) (hby : i.bytes = bytes) (hzs : z.cells.size = size) (hsz : 0 < size)
    (a : Addr) (c : Nat) (news : List Value) (hl' : news.length = m * size) (hnews : ∀ j u, news[j]? = some u → W.cell? (a.add j) = some u) (h1 : ∀ u ∈ news, u.oneCell' = true) (h63 : n + m ≤ maxLen) (hbb : (n + m) * bytes ≤ 140737488355328) :
    ∃ g cap w', (∀ ty, (Builtin.append_ #[t, t] ty #[v, .slice (some a) m c]).run Try.prog W = .ok (.slice (some ⟨g, 0, none⟩) (n + m) cap) w') ∧ GS w0 w' e size (.slice (some ⟨g, 0, none⟩) (n + m) cap) (n + m) (xs ++ news) ∧ n + m ≤ cap := by
  have ho := h.own
  by_cases hr : ∃ g cap, v = .slice (some ⟨g, 0, none⟩) n cap ∧ n + m ≤ cap
  · obtain ⟨g, cap, rfl, hroom⟩ := hr
    obtain ⟨w', hrun, hown, hgr⟩ := run_append_fits (P := Try.prog) W 0 t 0 e i size ht hi hs g n cap xs ho a m c news hl' hnews h1 hroom
    have hg := (h.new g cap rfl).resolve_left (by omega)
    have hk := grown_kept' hgr
    refine ⟨g, cap, w', fun ty => ?_, ⟨hown, fun g' cap' e => ?_, h.kp.trans hk (fun _ _ x => x) (fun x hx e => ?_)⟩, hroom⟩
    · rw [← hrun]; simp [Builtin.append_]
    · simp at e; exact .inr (by omega)
    · cases e; omega
  · have key : ∃ v' w', (Builtin.append_ #[t, t] 0 #[v, .slice (some a) m c]).run Try.prog W = .ok v' w' ∧ w'.ownsRow W.heap.size e size v' (n + m) (xs ++ news) ∧ Kept none' W w' := by
      rcases ho.2 with ⟨rfl, h0⟩ | ⟨g, cap, cur, rfl, hb, hg, hnc, hcm, hcs, htake⟩
      · subst h0
        have : xs = [] := List.eq_nil_of_length_eq_zero (by rw [ho.1, Nat.zero_mul])
        subst this
        obtain ⟨v', w', hrun, hown, hgr, _⟩ := run_append_own (P := Try.prog) W W.heap.size t 0 e i z size bytes ht hi hz hs hby hzs hsz (.slice none 0 0) 0 [] (World.ownsRow_nil _ _ _ _) a m c news hl' hnews h1 h63 hbb (Nat.le_refl _)
        exact ⟨v', w', hrun, hown, (grown_kept' hgr).mono (fun _ _ e => by cases e)⟩
      · obtain ⟨v', w', hrun, hown, hgr⟩ := run_append_arg_grows (P := Try.prog) W t 0 e i z size bytes ht hi hz hs hby hzs hsz ⟨g, 0, none⟩ n cap xs ho.1 (fun j u hj => by
          rw [Addr.add_lit, Nat.zero_add]
          rw [← htake, List.getElem?_take] at hj
          split at hj
          · simp only [World.cell?, hg]
            rw [← Array.getElem?_toList, hj]
            rfl
          · cases hj) a m c news hl' hnews (Nat.lt_of_not_le fun hle => hr ⟨g, cap, rfl, hle⟩) h63 hbb
        exact ⟨v', w', hrun, hown, (grown_kept' hgr).mono (fun _ _ e => by cases e)⟩
    obtain ⟨v', w', hrun, hown, hk⟩ := key
    rcases hown.2 with ⟨_, h0⟩ | ⟨g, cap, cur, rfl, hb, hg, h3⟩
    · omega
    · refine ⟨g, cap, w', fun ty => ?_, ⟨⟨hown.1, .inr ⟨g, cap, cur, rfl, Nat.zero_le _, hg, h3⟩⟩, fun g' cap' e => ?_, none_trans h.kp hk⟩, h3.1⟩
      · rw [← hrun]; simp [Builtin.append_]
      · simp at e
        exact .inr (by have := h.kp.size; omega)
theorem push_three {w0 W : World} {v : Value} {n : Nat} {xs : List Value} (h : GS w0 W 22 1 v n xs) (hn : n ≤ 17592186044410) :
    ∃ g cap w', (∀ ty, (Builtin.append_ #[41, 41] ty #[v, .slice (some ⟨W.heap.size, 0, none⟩) 3 3]).run Try.prog (W.alloc (.cells #[.int .u64 77, .int .u64 77, .int .u64 77] 22)) = .ok (.slice (some ⟨g, 0, none⟩) (n + 3) cap) w') ∧ GS w0 w' 22 1 (.slice (some ⟨g, 0, none⟩) (n + 3) cap) (n + 3) (xs ++ [.int .u64 77, .int .u64 77, .int .u64 77]) ∧ n + 3 ≤ cap := by
  obtain ⟨i, hi, hzz⟩ := Option.map_eq_some_iff.1 info_z64
  simp only [Prod.mk.injEq] at hzz
  exact GS.pushN 3 (by decide) (h.keep ((Kept.refl none' W).alloc (.cells #[.int .u64 77, .int .u64 77, .int .u64 77] 22))) 41 i _ 8 Try.underlying41 hi hzz.1 hzz.2.1 hzz.2.2 rfl (by decide) ⟨W.heap.size, 0, none⟩ 3 [.int .u64 77, .int .u64 77, .int .u64 77] rfl (fun j u hj => cells_new (cs := #[.int .u64 77, .int .u64 77, .int .u64 77]) j u hj) (by simp [Value.oneCell']) (by simp only [maxLen]; omega) (by omega)
/-- What sizes leaves. -/
def SzP (w : World) (sz : List Nat) (e : Ending) (w' : World) : Prop := ∃ g cap, e = .returned (.slice (some ⟨g, 0, none⟩) (sz.length + 3) cap) ∧ sz.length + 3 ≤ cap ∧ SL w' (.slice (some ⟨g, 0, none⟩) (sz.length + 3) cap) (sz ++ [77, 77, 77]) ∧ Kept none' w w'
theorem SL.pre {w : World} {g n cap : Nat} {l k : List Nat} (h : SL w (.slice (some ⟨g, 0, none⟩) n cap) (l ++ k)) : SL w (.slice (some ⟨g, 0, none⟩) l.length cap) l := by
  obtain ⟨h1, h2, oa, oc, h3, h4⟩ := h
  injection h3 with e1 e2 e3
  subst e1 e3
  refine ⟨by rw [List.length_append] at h1; omega, fun b hb => h2 b (List.mem_append_left _ hb), _, cap, rfl, ?_⟩
  rcases h4 with h4 | ⟨bl, o, e, hlt, hc⟩
  · exact .inl (by rw [List.length_append] at h4; omega)
  · refine .inr ⟨bl, o, e, hlt, fun i b hi => hc i b ?_⟩
    rw [List.getElem?_append_left (List.getElem?_eq_some_iff.1 hi).1]
    exact hi
theorem sizes_any (vs : Value) (sz : List Nat) (w : World) (hsl : SL w vs sz) (hlen : sz.length ≤ 17592186044400) :
    Calls Try.prog 29 #[vs] w fun e w' => SzP w sz e w' := by
  obtain ⟨oa, oc, rfl⟩ : ∃ oa oc, vs = .slice oa sz.length oc := by
    obtain ⟨_, _, oa, oc, hv, _⟩ := hsl
    exact ⟨oa, oc, hv⟩
  have SL0 := hid hsl
  have I0 := hid (GS.nil w w 22 1 (Kept.refl _ _))
  clear hsl
  go_enter Try.func29, Try.ntmps29
  go_wp2_with fail
  go_loopw [3, 4] (fun x i W => ∃ (a : Nat) (va : Option Addr) (vc : Nat), a ≤ sz.length ∧ i = .int .i64 (a : Int) ∧ x = .slice va a vc ∧ Hid (GS w W 22 1 (.slice va a vc) a (scl (sz.take a)))) (fun _ i _ => sz.length - (intOf i).toNat)
  case atStart => exact ⟨0, none, 0, Nat.zero_le _, rfl, rfl, by simpa [scl] using I0⟩
  case round =>
    clear I0
    obtain ⟨a, va, vc, ha, rfl, rfl, HG⟩ := hrel
    by_cases hlt : a < sz.length
    · have hai : (a : Int) < (sz.length : Int) := by omega
      obtain ⟨bl, o, p, rfl, hla, hp, q0⟩ := (SL0.out.keep HG.out.kp).at a hlt
      obtain ⟨g2, cap2, w8, hrun, hg2, hw2⟩ := push_u64 HG.out p (by omega)
      have NX := hid (show GS w w8 22 1 (.slice (some ⟨g2, 0, none⟩) (a + 1) cap2) (a + 1) (scl (sz.take (a + 1))) from by
        rw [List.take_add_one, hla]
        simpa [scl] using hg2)
      have hrun2 := hid hrun
      clear hrun hg2 hw2 hla
      go_wp2_with (first | (at_builtin; refine wpl_app _ rfl _ _ 41 rfl _ _ rfl rfl _ _ hrun2.out ?_))
      go_round
      case rel => exact ⟨a + 1, _, _, by omega, by go_num, rfl, NX⟩
      case measure => simp [intOf]; omega
    · have hge : ¬ (a : Int) < (sz.length : Int) := by omega
      obtain rfl : a = sz.length := by omega
      obtain ⟨g2, cap2, w8, hrun, hg2, hcap⟩ := push_three HG.out (by omega)
      have FIN := hid (show SzP w sz (.returned (.slice (some ⟨g2, 0, none⟩) (sz.length + 3) cap2)) w8 from by
        rw [List.take_length] at hg2
        have hl : (sz ++ [77, 77, 77]).length = sz.length + 3 := by simp
        have hs : scl (sz ++ [77, 77, 77]) = scl sz ++ [.int .u64 77, .int .u64 77, .int .u64 77] := by simp [scl]
        refine ⟨g2, cap2, rfl, hcap, ?_, hg2.kp⟩
        have := GS.sl (l := sz ++ [77, 77, 77]) (oa := some ⟨g2, 0, none⟩) (cap := cap2) (w0 := w) (W := w8) (t := 22) (by rw [hl, hs]; exact hg2) (by rw [hl]; omega) (fun b hb => by
          rcases List.mem_append.1 hb with hb | hb
          · exact SL0.out.2.1 b hb
          · have : b = 77 := by simpa using hb
            omega)
        rw [hl] at this
        exact this)
      have hrun2 := hid hrun
      clear hrun hg2 hcap HG
      go_wp2_with (first | (at_builtin; refine wpl_app _ rfl _ _ 41 rfl _ _ rfl rfl _ _ hrun2.out ?_))
      go_ret
      exact FIN.out

/-- What is asked of Least, in its box. -/
def AL (W : World) (x base : Nat) (lim ord : Int) (v vs : Value) : Prop := W.heap[x]? = some (.cells #[.int .u64 (base : Int), .int .i64 lim, .int .i64 ord, v, vs] 62)
theorem AL.keep {W W' : World} {x base : Nat} {lim ord : Int} {v vs : Value} (h : AL W x base lim ord v vs) (k : Kept none' W W') : AL W' x base lim ord v vs := (k.block _ (heap_lt h) (fun e => e)).trans h
theorem AL.cells {W : World} {x base : Nat} {lim ord : Int} {v vs : Value} (h : AL W x base lim ord v vs) : W.cell? ⟨x, 0, none⟩ = some (.int .u64 (base : Int)) ∧ W.cell? ⟨x, 1, none⟩ = some (.int .i64 lim) ∧ W.cell? ⟨x, 2, none⟩ = some (.int .i64 ord) ∧ W.cell? ⟨x, 3, none⟩ = some v ∧ W.cell? ⟨x, 4, none⟩ = some vs := by
  unfold AL at h
  refine ⟨?_, ?_, ?_, ?_, ?_⟩ <;> simp [World.cell?, h]
theorem AL.all {W : World} {x base : Nat} {lim ord : Int} {v vs : Value} (h : AL W x base lim ord v vs) : (∀ y : KW W, y.v.cell? ⟨x, 0, none⟩ = some (.int .u64 (base : Int))) ∧ (∀ y : KW W, y.v.cell? ⟨x, 1, none⟩ = some (.int .i64 lim)) ∧ (∀ y : KW W, y.v.cell? ⟨x, 2, none⟩ = some (.int .i64 ord)) ∧ (∀ y : KW W, y.v.cell? ⟨x, 3, none⟩ = some v) ∧ (∀ y : KW W, y.v.cell? ⟨x, 4, none⟩ = some vs) :=
  ⟨fun y => (h.keep y.k).cells.1, fun y => (h.keep y.k).cells.2.1, fun y => (h.keep y.k).cells.2.2.1, fun y => (h.keep y.k).cells.2.2.2.1, fun y => (h.keep y.k).cells.2.2.2.2⟩

set_option maxRecDepth 20000 in
set_option maxHeartbeats 4000000 in
theorem oracleLeasts (base : Nat) (hb64 : base < 18446744073709551616) (lim ord : Int) (hl1 : -9223372036854775808 ≤ lim) (hl2 : lim ≤ 9223372036854775807) (ho1 : -9223372036854775808 ≤ ord) (ho2 : ord ≤ 9223372036854775807) (v : Value) (l : Bls) (v2 : Value) (sz : List Nat) (w : World) (hbl : BL w v l) (hlen : l.length ≤ 8796093022000) (hsl : SL w v2 sz) (hlen2 : sz.length ≤ 17592186044400) :
    Calls Try.prog 8 #[.agg #[.int .u64 (base : Int), .int .i64 lim, .int .i64 ord, v, v2]] w fun e w' => e = .returned (.bool true) ∧ Kept none' w w' := by
  obtain ⟨oa, oc, rfl⟩ : ∃ oa oc, v = .slice oa l.length oc := by
    obtain ⟨_, _, oa, oc, hv, _⟩ := hbl
    exact ⟨oa, oc, hv⟩
  obtain ⟨oa2, oc2, rfl⟩ : ∃ oa oc, v2 = .slice oa sz.length oc := by
    obtain ⟨_, _, oa, oc, hv, _⟩ := hsl
    exact ⟨oa, oc, hv⟩
  have C0 := hid (show AL (w.alloc (.cells #[.int .u64 (base : Int), .int .i64 lim, .int .i64 ord, .slice oa l.length oc, .slice oa2 sz.length oc2] 62)) w.heap.size base lim ord (.slice oa l.length oc) (.slice oa2 sz.length oc2) from heap_new w _)
  have K0 := hid (show Kept none' w (w.alloc (.cells #[.int .u64 (base : Int), .int .i64 lim, .int .i64 ord, .slice oa l.length oc, .slice oa2 sz.length oc2] 62)) from (Kept.refl _ w).alloc _)
  have BL0 := hid hbl
  have SL0 := hid hsl
  obtain ⟨xv, hxv⟩ : ∃ xv, xv = leaV base lim ord l sz := ⟨_, rfl⟩
  obtain ⟨xo, hxo⟩ : ∃ xo, xo = leaO base lim ord l sz := ⟨_, rfl⟩
  have HL := hid (show ∀ W v vs, BL W v l → SL W vs sz → Calls Try.prog 17 #[cfgV base lim ord, v, vs] W fun e w' => e = .returned (.tuple #[.int .i64 (xv : Int), .bool xo]) ∧ Kept none' W w' from fun W v vs h hs => by
    rw [hxv, hxo]; exact Least_any base hb64 lim ord hl1 hl2 ho1 ho2 v l vs sz W h hs)
  have HR := hid (show ∀ W v vs, BL W v l → SL W vs sz → Calls Try.prog 30 #[cfgV base lim ord, v, vs] W fun e w' => e = .returned (.tuple #[.int .i64 (xv : Int), .bool xo]) ∧ Kept none' W w' from fun W v vs h hs => by
    rw [hxv, hxo]; exact refLeast base hb64 lim ord hl1 hl2 ho1 ho2 v l vs sz hlen hlen2 W h hs)
  have HBK := hid (fun W v h => blocks_any v l W h hlen)
  have HSZ := hid (fun W v h => sizes_any v sz W h hlen2)
  clear hbl hsl hxv hxo
  go_enter Try.func8, Try.ntmps8
  go_wp2_with fail
  generalize w.alloc (.cells #[.int .u64 (base : Int), .int .i64 lim, .int .i64 ord, .slice oa l.length oc, .slice oa2 sz.length oc2] 62) = W0 at *
  generalize w.heap.size = cx at *
  refine (HBK.out _ _ (BL0.out.keep K0.out)).mono ?_
  rintro e w1 ⟨g, cap, rfl, hcap, hA, hk⟩
  have A1 := hid hA
  have K1 := hid (none_trans K0.out hk)
  have C1 := hid (C0.out.keep hk)
  have hc1 : (l.length : Int) ≤ (cap : Int) := by omega
  have hc2 : ¬ (cap : Int) < (l.length : Int) := by omega
  clear hk hA HBK hcap C0 K0
  obtain ⟨c0, c1, c2, c3, c4⟩ := C1.out.cells
  go_wp2_with fail
  refine (HSZ.out _ _ (SL0.out.keep K1.out)).mono ?_
  rintro e w2 ⟨g2, cap2, rfl, hcap2, hS, hk⟩
  have A2 := hid (A1.out.keep hk)
  have S2 := hid hS
  have K2 := hid (none_trans K1.out hk)
  have C2 := hid (C1.out.keep hk)
  have P2 := hid (BL.pre A2.out)
  have Q2 := hid (SL.pre hS)
  have hc3 : (sz.length : Int) ≤ (cap2 : Int) := by omega
  have hc4 : ¬ (cap2 : Int) < (sz.length : Int) := by omega
  clear hk hS HSZ hcap2 A1 K1 C1 c0 c1 c2 c3 c4
  obtain ⟨c0, c1, c2, c3, c4⟩ := C2.out.all
  go_wp2_with fail
  refine wp_region_kept (by kernel_rfl) (by kernel_rfl) ?_
  repeat (go_big_quiet_step (first | (go_at_call 18; exact Calls.kept_of (config_any base lim ord _)) | (go_at_call 17; exact Calls.kept_of (HL.out _ _ _ (P2.out.keep (KW.k _)) (Q2.out.keep (KW.k _))))))
  refine wpQuiet_nil ?_
  intro x
  have K3 := hid (none_trans K2.out x.k)
  have C3 := hid (C2.out.keep x.k)
  have A3 := hid (A2.out.keep x.k)
  have S3 := hid (S2.out.keep x.k)
  clear c0 c1 c2 c3 c4 K2 C2 A2 S2 P2 Q2
  obtain ⟨c0, c1, c2, c3, c4⟩ := C3.out.cells
  go_wp2_with fail
  generalize x.v = w3 at *
  refine (HR.out _ _ _ (BL0.out.keep K3.out) (SL0.out.keep K3.out)).mono ?_
  rintro e w4 ⟨rfl, hk⟩
  have K4 := hid (none_trans K3.out hk)
  have C4 := hid (C3.out.keep hk)
  have A4 := hid (A3.out.keep hk)
  have S4 := hid (S3.out.keep hk)
  clear hk c0 c1 c2 c3 c4 K3 C3 A3 S3
  obtain ⟨c0, c1, c2, c3, c4⟩ := C4.out.cells
  go_wp2_with fail
  refine (left_any g cap _ l w4 hlen A4.out (BL0.out.keep K4.out)).mono ?_
  rintro e w5 ⟨rfl, hk⟩
  have K5 := hid (none_trans K4.out hk)
  have C5 := hid (C4.out.keep hk)
  have S5 := hid (S4.out.keep hk)
  clear hk c0 c1 c2 c3 c4 K4 C4 A4 S4
  go_wp2_with fail
  refine (awake_any _).mono ?_
  rintro e w6 ⟨rfl, hk⟩
  have K6 := hid (none_trans K5.out hk)
  have C6 := hid (C5.out.keep hk)
  have S6 := hid (S5.out.keep hk)
  have hl3 := hid (show (sz ++ [77, 77, 77]).length = sz.length + 3 by simp)
  clear hk K5 C5 S5
  go_wp2_with fail
  go_loopw [9] (fun i W => ∃ a : Nat, a ≤ sz.length ∧ i = .int .i64 (a : Int) ∧ Hid (Kept none' w6 W)) (fun i _ => sz.length - (intOf i).toNat)
  case atStart => exact ⟨0, Nat.zero_le _, rfl, hid (Kept.refl _ _)⟩
  case round =>
    obtain ⟨a, ha, rfl, HK⟩ := hrel
    obtain ⟨c0, c1, c2, c3, c4⟩ := (C6.out.keep HK.out).all
    by_cases hlt : a < sz.length
    · have hai : (a : Int) < (sz.length : Int) := by omega
      have hai3 : (a : Int) < (sz.length : Int) + 3 := by omega
      obtain ⟨bl, o, p, rfl, hla, hp, q0⟩ := (SL0.out.keep (none_trans K6.out HK.out)).at a hlt
      obtain ⟨bl2, o2, p2, e2, hl2, _, r0⟩ := (S6.out.keep HK.out).at a (by have := hl3.out; omega)
      rw [List.getElem?_append_left hlt, hla] at hl2
      injection hl2 with hl2
      injection e2 with e2
      injection e2 with e3 e4
      subst hl2 e3 e4
      rw [Nat.zero_add] at r0
      have hq : ∀ y : KW wr, y.v.cell? ⟨bl, o + a, none⟩ = some (.int .u64 (p : Int)) := fun y => y.k.cell (fun e => e) q0
      have hr : ∀ y : KW wr, y.v.cell? ⟨g2, a, none⟩ = some (.int .u64 (p : Int)) := fun y => y.k.cell (fun e => e) r0
      have d4 := c4 ⟨wr, Kept.refl _ _⟩
      have d4' : wr.cell? ⟨cx, 4, none⟩ = some (.slice (some ⟨bl, o, none⟩) sz.length oc2) := d4
      clear hla q0 r0 d4
      go_wp2_with fail
      refine wp_region_kept (by kernel_rfl) (by kernel_rfl) ?_
      repeat (go_big_quiet_step (fail))
      refine wpQuiet_nil ?_
      intro x
      have K7 := hid (none_trans HK.out x.k)
      go_wp2_with fail
      go_round
      case rel => exact ⟨a + 1, by omega, by go_num, K7⟩
      case measure => simp [intOf]; omega
    · have hge : ¬ (a : Int) < (sz.length : Int) := by omega
      obtain ⟨b, hb⟩ : ∃ b, b = sz.length := ⟨_, rfl⟩
      obtain ⟨bl2, o2, p2, e2, hl2, _, r0⟩ := (S6.out.keep HK.out).at b (by have := hl3.out; omega)
      rw [List.getElem?_append_right (by omega), hb, Nat.sub_self] at hl2
      injection e2 with e2
      injection e2 with e3 e4
      have hp2 : p2 = 77 := by simpa using hl2.symm
      subst hp2 e3 e4
      rw [Nat.zero_add, hb] at r0
      have r0' : wr.cell? ⟨g2, sz.length, none⟩ = some (.int .u64 77) := r0
      have d4 := c4 ⟨wr, Kept.refl _ _⟩
      have d4' : wr.cell? ⟨cx, 4, none⟩ = some (.slice oa2 sz.length oc2) := d4
      have K7 := hid (none_trans K6.out HK.out)
      have hai3 : (sz.length : Int) < (sz.length : Int) + 3 := by omega
      clear hl2 hb r0 d4
      go_wp2_with fail
      go_ret
      exact ⟨rfl, K7.out⟩
end Go.Proofs.Ytibljocjdlgfbaa
