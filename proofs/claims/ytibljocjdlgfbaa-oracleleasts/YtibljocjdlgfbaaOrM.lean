/- Lists of sizes in memory (SL); oracle.countsOf. -/
import Derived.Test.YtibljocjdlgfbaaOrL
namespace Go.Proofs.Ytibljocjdlgfbaa
open Go.RowKit
set_option linter.unusedVariables false

/-- A slice that holds a list of sizes. -/
def SL (w : World) (v : Value) (l : List Nat) : Prop :=
  l.length ≤ 281474976710656 ∧ (∀ x ∈ l, x < 2 ^ 64) ∧ ∃ oa oc, v = .slice oa l.length oc ∧ (l.length = 0 ∨ ∃ bl o, oa = some ⟨bl, o, none⟩ ∧ bl < w.heap.size ∧ ∀ (k x : Nat), l[k]? = some x → w.cell? ⟨bl, o + k, none⟩ = some (.int .u64 (x : Int)))
theorem SL.keep {w W : World} {v : Value} {l : List Nat} (h : SL w v l) (kp : Kept none' w W) : SL W v l := by
  obtain ⟨h1, h2, oa, oc, h3, h4⟩ := h
  refine ⟨h1, h2, oa, oc, h3, ?_⟩
  rcases h4 with h4 | ⟨bl, o, e, hlt, hc⟩
  · exact .inl h4
  · exact .inr ⟨bl, o, e, Nat.lt_of_lt_of_le hlt kp.size, fun k b hb => kp.cell (fun e => e) (hc k b hb)⟩
theorem SL.at {w : World} {oa : Option Addr} {n oc : Nat} {l : List Nat} (h : SL w (.slice oa n oc) l) (k : Nat) (hk : k < l.length) :
    ∃ bl o x, oa = some ⟨bl, o, none⟩ ∧ l[k]? = some x ∧ x < 2 ^ 64 ∧ w.cell? ⟨bl, o + k, none⟩ = some (.int .u64 (x : Int)) := by
  obtain ⟨h1, h2, oa', oc', h3, h4⟩ := h
  injection h3 with e1 e2 e3
  subst e1
  rcases h4 with h4 | ⟨bl, o, e, hlt, hc⟩
  · omega
  · have hb := List.getElem?_eq_getElem hk
    exact ⟨bl, o, l[k], e, hb, h2 _ (List.getElem_mem hk), hc k _ hb⟩

abbrev mkU : Nat → Value := fun c => .int .u64 (c : Int)
/-- The map counts the list. -/
structure CT (ds : List (Nat × Nat)) (l : List Nat) : Prop where
  vl : ∀ p ∈ ds, p.2 = l.count p.1 ∧ p.1 ∈ l
  ke : ∀ x ∈ l, x ∈ ds.map (·.1)
theorem CT.nil : CT [] [] := ⟨fun _ h => (by cases h), fun _ h => (by cases h)⟩
theorem dlk_none {ds : List (Nat × Nat)} {k : Nat} (h : dlk ds k = none) : k ∉ ds.map (·.1) := by
  intro hk
  obtain ⟨p, hp, e⟩ := List.mem_map.1 hk
  unfold dlk at h
  have := List.find?_eq_none.1 (Option.map_eq_none_iff.1 h) p hp
  simp [e] at this
theorem CT.look {ds : List (Nat × Nat)} {l : List Nat} (h : CT ds l) (x : Nat) : (dlk ds x).getD 0 = l.count x := by
  cases hd : dlk ds x with
  | none =>
    have := dlk_none hd
    rw [List.count_eq_zero_of_not_mem (fun e => this (h.ke x e))]
    rfl
  | some c => exact (h.vl _ (dlk_mem hd)).1
theorem CT.add {ds : List (Nat × Nat)} {l : List Nat} (h : CT ds l) (hn : (ds.map (·.1)).Nodup) (x : Nat) : CT (putD ds x (l.count x + 1)) (l ++ [x]) := by
  refine ⟨fun p hp => ?_, fun y hy => ?_⟩
  · have hk : ∀ p ∈ putD ds x (l.count x + 1), p.1 = x → p.2 = l.count x + 1 := by
      intro p hp e
      unfold putD at hp
      split at hp
      · obtain ⟨q, hq, rfl⟩ := List.mem_map.1 hp
        split
        · rfl
        · rename_i e2
          rw [if_neg e2] at e
          exact absurd e e2
      · rename_i hs
        rcases List.mem_append.1 hp with hp | hp
        · exfalso
          have hd : dlk ds x = none := by simpa using hs
          exact dlk_none hd (List.mem_map.2 ⟨p, hp, e⟩)
        · rw [List.mem_singleton] at hp
          rw [hp]
    rw [List.count_append]
    by_cases e : p.1 = x
    · rw [hk p hp e, e]
      simp
    · rcases putD_vals ds x _ p hp with h1 | h1
      · have := h.vl p h1
        have hne : (x == p.1) = false := by rw [beq_eq_false_iff_ne]; exact fun e2 => e e2.symm
        simp [List.count_singleton, hne, this]
      · rw [h1] at e
        exact absurd rfl e
  · rw [putD_keys]
    rcases List.mem_append.1 hy with hy | hy
    · exact .inl (h.ke y hy)
    · exact .inr (by simpa using hy)

structure CoI (w W : World) (g cx base : Nat) (lim : Int) (k : Nat) (l : List Nat) (i : Nat) (ds : List (Nat × Nat)) : Prop where
  mv : MV mkU W g ds
  ct : CT ds (l.take i)
  cb : CB W cx base lim (k : Int)
  kp : Kept none' w W
  gd : ∀ x ∈ l.take i, szB k x = true
  gw : w.heap.size ≤ g
  gc : g ≠ cx

theorem zero_u64 (w : World) : (zeroValue 22).run Try.prog w = .ok (.int .u64 0) w := by kernel_rfl
theorem szB_b {k x : Nat} (hk : k ≤ 8) (h : szB k x = true) : isP x = true ∧ 16 ≤ x ∧ x ≤ RS k ∧ x ≤ 1048576 := by
  have := RS_le k hk
  simp only [szB, Bool.and_eq_true, decide_eq_true_eq] at h
  exact ⟨h.1.1, h.1.2, h.2, by omega⟩

/-- What countsOf tells. -/
def CoP (w : World) (k : Nat) (l : List Nat) (e : Ending) (w' : World) : Prop := Kept none' w w' ∧
  ((l.all (szB k) = false ∧ e = .returned (.tuple #[.map none, .bool false])) ∨ (l.all (szB k) = true ∧ ∃ g ds, e = .returned (.tuple #[.map (some g), .bool true]) ∧ w.heap.size ≤ g ∧ MV mkU w' g ds ∧ CT ds l))
set_option maxRecDepth 4000 in
theorem countsOf_any (base : Nat) (lim : Int) (k : Nat) (hk8 : k ≤ 8) (v : Value) (l : List Nat) (w : World) (hsl : SL w v l) :
    Calls Try.prog 39 #[cfgV base lim (k : Int), v] w fun e w' => CoP w k l e w' := by
  have C0 := hid (show CB (w.alloc (.cells #[.int .u64 (base : Int), .int .i64 lim, .int .i64 (k : Int)] 24)) w.heap.size base lim k from heap_new w _)
  have K0 := hid (show Kept none' w (w.alloc (.cells #[.int .u64 (base : Int), .int .i64 lim, .int .i64 (k : Int)] 24)) from (Kept.refl _ w).alloc _)
  have Z0 := hid (show (w.alloc (.cells #[.int .u64 (base : Int), .int .i64 lim, .int .i64 (k : Int)] 24)).heap.size = w.heap.size + 1 by simp)
  have SL0 := hid hsl
  obtain ⟨oa, oc, rfl⟩ : ∃ oa oc, v = .slice oa l.length oc := by
    obtain ⟨_, _, oa, oc, hv, _⟩ := hsl
    exact ⟨oa, oc, hv⟩
  have hlen := hsl.1
  have hmk : ∀ w, (Instr.makeMap 77 none).run Try.prog w = .ok (.map (some w.heap.size)) (w.alloc (.map #[] 0)) := fun w => run_makeMap _ w
  have HS := hid (fun W x hx => isSize_any base lim k hk8 x hx W)
  have K1 := hid (show Kept none' (w.alloc (.cells #[.int .u64 (base : Int), .int .i64 lim, .int .i64 (k : Int)] 24)) ((w.alloc (.cells #[.int .u64 (base : Int), .int .i64 lim, .int .i64 (k : Int)] 24)).alloc (.map #[] 0)) from (Kept.refl _ _).alloc _)
  have G1 := hid (MU.made (w.alloc (.cells #[.int .u64 (base : Int), .int .i64 lim, .int .i64 (k : Int)] 24)))
  have I0 := hid (show CoI w ((w.alloc (.cells #[.int .u64 (base : Int), .int .i64 lim, .int .i64 (k : Int)] 24)).alloc (.map #[] 0)) (w.heap.size + 1) w.heap.size base lim k l 0 [] from by
    have g1 := G1.out
    rw [Z0.out] at g1
    exact ⟨g1, by rw [List.take_zero]; exact CT.nil, C0.out.keep K1.out (fun x => x), none_trans K0.out K1.out, (fun x hx => by simp at hx), by omega, by omega⟩)
  clear hsl
  go_enter Try.func39, Try.ntmps39
  go_wp2_with fail
  generalize (w.alloc (.cells #[.int .u64 (base : Int), .int .i64 lim, .int .i64 (k : Int)] 24)).alloc (.map #[] 0) = W1 at *
  generalize hcx : w.heap.size = cx at *
  clear hmk
  go_loopw [12] (fun i W => ∃ a ds, a ≤ l.length ∧ i = .int .i64 ((a : Nat) : Int) ∧ Hid (CoI w W (cx + 1) cx base lim k l a ds)) (fun i _ => l.length - (intOf i).toNat)
  case atStart => exact ⟨0, [], Nat.zero_le _, rfl, I0⟩
  case round =>
    clear I0 C0 K0 Z0 K1 G1
    obtain ⟨a, ds, ha, rfl, HI⟩ := hrel
    by_cases hlt : a < l.length
    · have hai : (a : Int) < (l.length : Int) := by omega
      obtain ⟨bl, o, x, rfl, hla, hx, q0⟩ := (SL0.out.keep HI.out.kp).at a hlt
      obtain ⟨c0, c1, c2⟩ := HI.out.cb.cells
      have HSX := hid (fun W => HS.out W x hx)
      have TK := hid (show l.take (a + 1) = l.take a ++ [x] by rw [List.take_add_one, hla]; rfl)
      have hxl : x ∈ l := List.mem_of_getElem? hla
      clear hla HS
      go_wp2_with fail
      refine (HSX.out _).mono ?_
      rintro e w2 ⟨rfl, hk⟩
      have K2 := hid (none_trans HI.out.kp hk)
      have M2 := hid (HI.out.mv.kept hk (fun x => x))
      have C2 := hid (HI.out.cb.keep hk (fun x => x))
      clear hk c0 c1 c2 q0
      cases hz : szB k x with
      | false =>
        have E := hid (show l.all (szB k) = false by
          rw [Bool.eq_false_iff]
          intro h
          have := List.all_eq_true.1 h x hxl
          rw [hz] at this
          cases this)
        clear hz
        go_wp2_with fail
        exact ⟨rfl, .tuple #[.map none, .bool false], by simp [results, Try.results39, go_sem], ⟨K2.out, .inl ⟨E.out, rfl⟩⟩⟩
      | true =>
        have hcn := hid (HI.out.ct.look x)
        obtain ⟨c, hc⟩ : ∃ c, c = (l.take a).count x := ⟨_, rfl⟩
        have hcb : c ≤ l.length := by
          rw [hc]
          exact Nat.le_trans List.count_le_length (by rw [List.length_take]; omega)
        have HC := hid (show (fnd (ds.map fun p => (p.1, mkU p.2)) x).getD (.int .u64 0) = .int .u64 (c : Int) by
          rw [fnd_dlk, hc, ← hcn.out]
          cases dlk ds x <;> rfl)
        have hnd : (ds.map (·.1)).Nodup := by simpa [List.map_map, Function.comp_def] using HI.out.mv.nodup
        have hdsl := hid (show (ds.map fun p => (p.1, mkU p.2)).length < maxLen from by
          have := nodup_le 1048577 (ds.map (·.1)) hnd (fun y hy => by
            obtain ⟨p, hp, rfl⟩ := List.mem_map.1 hy
            have := szB_b hk8 (HI.out.gd _ (HI.out.ct.vl p hp).2)
            omega)
          rw [List.length_map] at this ⊢
          unfold maxLen
          omega)
        have NXT := hid (show ∀ w3, MV mkU w3 (cx + 1) (putD ds x (c + 1)) → Kept (fun y => y = cx + 1) w2 w3 → CoI w w3 (cx + 1) cx base lim k l (a + 1) (putD ds x (c + 1)) from fun w3 h1 h2 => by
          refine ⟨h1, ?_, C2.out.keep h2 (fun e => by omega), kept_new (N := cx + 1) K2.out (h2.mono (fun y _ e => by omega)) (by omega), fun y hy => ?_, HI.out.gw, HI.out.gc⟩
          · rw [TK.out, hc]; exact HI.out.ct.add hnd x
          · rw [TK.out] at hy
            rcases List.mem_append.1 hy with hy | hy
            · exact HI.out.gd y hy
            · rw [List.mem_singleton] at hy
              rw [hy]; exact hz)
        clear hz hc hnd
        go_wp2_with (first | (at_lookup; refine wpl_look _ rfl _ _ 77 rfl 22 22 Try.underlying22 Try.underlying77 (zero_u64 _) (cx + 1) _ rfl M2.out x hx rfl _ HC.out ?_) | (at_mapUpdate; refine wpl_store _ rfl _ _ _ 77 rfl 22 22 Try.underlying22 Try.underlying77 (cx + 1) _ rfl M2.out hdsl.out x hx rfl (mkU (c + 1)) rfl ?_; intro w3 m3 k3 z3; rw [putL_putD] at m3; have M3 := hid m3; have K3 := hid k3; clear m3 k3 z3))
        have NX := hid (NXT.out w3 M3.out K3.out)
        go_round
        case rel => exact ⟨a + 1, _, by omega, by go_num, NX⟩
        case measure => simp [intOf]; omega
    · have hae : a = l.length := by omega
      have hai : ¬ (a : Int) < (l.length : Int) := by omega
      have FIN := hid (show Kept none' w wr ∧ l.all (szB k) = true ∧ cx ≤ cx + 1 ∧ MV mkU wr (cx + 1) ds ∧ CT ds l from by
        have h1 := HI.out.ct
        have h2 := HI.out.gd
        rw [hae, List.take_length] at h1 h2
        exact ⟨HI.out.kp, List.all_eq_true.2 h2, by omega, HI.out.mv, h1⟩)
      clear HI
      go_wp2_with fail
      exact ⟨rfl, .tuple #[.map (some (cx + 1)), .bool true], by simp [results, Try.results39, go_sem], ⟨FIN.out.1, .inr ⟨FIN.out.2.1, cx + 1, ds, rfl, by rw [hcx]; exact FIN.out.2.2.1, FIN.out.2.2.2⟩⟩⟩
end Go.Proofs.Ytibljocjdlgfbaa
