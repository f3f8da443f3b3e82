import Derived.Test.YtcgbefmjnhkdgaaZf
set_option maxRecDepth 1000000
set_option maxHeartbeats 80000000
/- bits.cut, Of, Words, Count, Resize. -/
namespace Go.Proofs.Ytcgbefmjnhkdgaa
open Go.RowKit
set_option linter.unusedVariables false

def maskW (n : Nat) (ws : List Nat) : List Nat := if n % 64 = 0 then ws else ws.set (ws.length - 1) (ws.getD (ws.length - 1) 0 % 2 ^ (n % 64))

theorem pow_cast (r : Nat) : ((2 : Int) ^ r) = ((2 ^ r : Nat) : Int) := by simp
theorem pow_b (r : Nat) (h : r < 64) : 1 ≤ (2 : Int) ^ r ∧ (2 : Int) ^ r < 18446744073709551616 := by
  have h1 := (pow_lt r 64).2 h
  have h2 := Nat.two_pow_pos r
  rw [pow_cast]
  obtain ⟨p, hp⟩ : ∃ p, p = 2 ^ r := ⟨_, rfl⟩
  rw [← hp] at h1 h2 ⊢
  omega
theorem wrap_pow (r : Nat) (h : r < 64) : IntKind.u64.wrap (2 ^ r) = 2 ^ r := by
  have := pow_b r h
  rw [wrap_u64]
  omega

theorem cut_any (b c n : Nat) (ws : List Nat) (w : World) (h : RawAt w b c n ws) :
    Calls Try.prog 89 #[.pointer (some ⟨b, 0, none⟩)] w fun e w' => e = .returned (.tuple #[]) ∧ RawAt w' b c n (maskW n ws) ∧ Kept (fun x => x = c) w w' ∧ w'.heap.size = w.heap.size := by
  have h0 := h.cb0
  have hn := h.nle
  obtain ⟨r, hr⟩ : ∃ r, r = n % 64 := ⟨_, rfl⟩
  have hr1 : (n : Int) % 64 = (r : Int) := by omega
  have hr64 : r < 64 := by omega
  by_cases hz : n % 64 = 0
  · have e1 : maskW n ws = ws := by simp [maskW, hz]
    rw [e1]
    have : r = 0 := by omega
    subst this
    clear hr e1 hz
    go_enter Try.func89, Try.ntmps89
    go_wp2
    go_end0
    exact ⟨rfl, h, Kept.refl _ _, rfl⟩
  · have hl := h.len
    obtain ⟨q, hq⟩ : ∃ q, q = ws.length - 1 := ⟨_, rfl⟩
    have hql : q < ws.length := by omega
    have hcc := h.cc q hql
    have hlt := h.lt q
    have h1 := h.cb1
    have hf := h.fc q
    obtain ⟨x, hx⟩ : ∃ x, x = ws.getD q 0 := ⟨_, rfl⟩
    have e1 : maskW n ws = ws.set q (x % 2 ^ r) := by simp only [maskW, hz, if_false, hx, hq, hr]
    rw [e1]
    rw [← hx] at hcc hlt
    have hy : x % 2 ^ r < 2 ^ 64 := Nat.lt_of_le_of_lt (Nat.mod_le _ _) hlt
    have E : bits BinOp.and IntKind.u64 (x : Int) (2 ^ r - 1) = ((x % 2 ^ r : Nat) : Int) := by
      have hp := Nat.two_pow_pos r
      have hp2 := (pow_lt r 64).2 hr64
      have := u64_and_nat x (2 ^ r - 1) hlt (by omega)
      rw [Nat.and_two_pow_sub_one_eq_mod] at this
      rw [← this]
      congr 1
      rw [pow_cast]
      omega
    obtain ⟨y, hyd⟩ : ∃ y, y = x % 2 ^ r := ⟨_, rfl⟩
    rw [← hyd] at hy E ⊢
    have hq1 : (ws.length : Int) - 1 = (q : Int) := by omega
    have hpb := pow_b r hr64
    have hpb1 := hpb.1
    have hpb2 := hpb.2
    have hw := wrap_pow r hr64
    have hrn : ((r : Int) != 0) = true := by rw [bne_iff_ne]; omega
    have hlm : ws.length ≤ 1048576 := by omega
    have fin : RawAt (w.setCell ⟨c, q, none⟩ (.int .u64 (y : Int))).drew b c n (ws.set q y) ∧ Kept (fun x => x = c) w (w.setCell ⟨c, q, none⟩ (.int .u64 (y : Int))).drew ∧ (w.setCell ⟨c, q, none⟩ (.int .u64 (y : Int))).drew.heap.size = w.heap.size :=
      ⟨(h.write q y hql hy).drew, ((Kept.refl (fun x => x = c) w).setCell (p := ⟨c, q, none⟩) rfl _).drew, by simp⟩
    have FIN := hid fin
    clear hx h hl hq hr fin hyd hpb e1 hz
    go_enter Try.func89, Try.ntmps89
    go_wp2
    go_region
    all_goals (go_wp2; go_end0; exact ⟨rfl, FIN.out⟩)

/-- A slice of words that can be read. -/
def Src (w : World) (v : Value) (zs : List Nat) : Prop :=
  (∀ i, zs.getD i 0 < 2 ^ 64) ∧ ∃ ao cap, v = .slice ao zs.length cap ∧ (zs = [] ∨ ∃ a : Addr, ao = some a ∧ a.block < w.heap.size ∧ ∀ j, j < zs.length → w.cell? (a.add j) = some (.int .u64 ((zs.getD j 0 : Nat) : Int)))

theorem addr_add_block (a : Addr) (j : Nat) : (a.add j).block = a.block := by unfold Addr.add; split <;> rfl

theorem Src.kept {w w' : World} {S : Nat → Prop} {v : Value} {zs : List Nat} (h : Src w v zs) (k : Kept S w w') (hS : ∀ b, v.ownBlock = some b → ¬ S b) : Src w' v zs := by
  obtain ⟨h1, ao, cap, rfl, h2⟩ := h
  refine ⟨h1, ao, cap, rfl, ?_⟩
  rcases h2 with h2 | ⟨a, rfl, hb, hc⟩
  · exact Or.inl h2
  · refine Or.inr ⟨a, rfl, Nat.lt_of_lt_of_le hb k.size, fun j hj => ?_⟩
    rw [← hc j hj]
    exact World.cell?_of_block (by rw [addr_add_block]; exact k.block _ hb (hS a.block rfl))

/-- zs laid over ws. -/
def over (zs ws : List Nat) : List Nat := zs.take ws.length ++ ws.drop zs.length
theorem over_len (zs ws : List Nat) : (over zs ws).length = ws.length := by simp [over]; omega
theorem over_get (zs ws : List Nat) (i : Nat) (hi : i < ws.length) : (over zs ws).getD i 0 = if i < zs.length then zs.getD i 0 else ws.getD i 0 := by
  simp only [over, List.getD, List.getElem?_append, List.length_take, List.getElem?_take, List.getElem?_drop]
  by_cases h : i < zs.length
  · have h0 : i < min ws.length zs.length := by omega
    simp [h, hi, h0]
  · have h2 : ¬ i < min ws.length zs.length := by omega
    simp only [h2, h, if_false]
    by_cases h3 : zs.length ≤ ws.length
    · congr 2; omega
    · have : ¬ i < ws.length := by omega
      exact absurd hi this

theorem wcells_over (zs ws : List Nat) (cs : List Value) (hcs : cs = (zs.take ws.length).map fun (x : Nat) => Value.int .u64 (x : Int)) : ((wcells ws).toList.take 0 ++ cs ++ (wcells ws).toList.drop (0 + cs.length)).toArray = wcells (over zs ws) := by
  subst hcs
  simp only [wcells, over, List.take_zero, List.nil_append, Nat.zero_add, List.map_append, List.length_map, List.length_take]
  congr 2
  rw [← List.map_drop]
  by_cases h : zs.length ≤ ws.length
  · rw [Nat.min_eq_right h]
  · rw [Nat.min_eq_left (by omega), List.drop_eq_nil_of_le (Nat.le_refl _), List.drop_eq_nil_of_le (by omega)]

theorem copy_words (w : World) (g : Nat) (ds : List Nat) (v : Value) (zs : List Nat) (hg : w.heap[g]? = some (.cells (wcells ds) 22 (0, 0))) (hs : Src w v zs) :
    ∃ (k : Nat) (w2 : World), (∀ ty, (Builtin.copy_ #[28, 28] ty #[.slice (some ⟨g, 0, none⟩) ds.length ds.length, v]).run Try.prog w = .ok (goInt k) w2) ∧ w2.heap[g]? = some (.cells (wcells (over zs ds)) 22 (0, 0)) ∧ Kept (fun x => x = g) w w2 ∧ w2.heap.size = w.heap.size := by
  obtain ⟨i, hi, hz0, hz1, hz2⟩ := info_parts info_u64
  obtain ⟨h1, ao, cap, rfl, h2⟩ := hs
  rcases h2 with rfl | ⟨a, rfl, hb, hc⟩
  · refine ⟨0, w, fun ty => ?_, ?_, Kept.refl _ _, rfl⟩
    · exact run_copy_none (P := Try.prog) w 28 28 ty 22 (some ⟨g, 0, none⟩) ao ds.length ds.length 0 cap Try.underlying28 (by rw [hi]; simp [hz1]) (Nat.zero_min _)
    · simpa [over] using hg
  · obtain ⟨cs, hcs⟩ : ∃ cs : List Value, cs = (zs.take ds.length).map fun (x : Nat) => Value.int .u64 (x : Int) := ⟨_, rfl⟩
    have hlen : cs.length = min zs.length ds.length := by rw [hcs]; simp; omega
    refine ⟨cs.length, w.setRow g ((wcells ds).toList.take 0 ++ cs ++ (wcells ds).toList.drop (0 + cs.length)).toArray, fun ty => ?_, ?_, ?_, by simp [World.setRow]⟩
    · refine run_copy_row (P := Try.prog) w 28 28 ty 22 g 0 ds.length ds.length a zs.length cap (wcells ds) 22 cs Try.underlying28 (by rw [hi]; simp [hz1]) hg hlen ?_ ?_ ?_
      · intro j u hj
        rw [hcs] at hj
        simp only [List.getElem?_map, List.getElem?_take] at hj
        have hjl : j < cs.length := by
          rcases Nat.lt_or_ge j cs.length with h | h
          · exact h
          · exfalso
            have : ¬ j < ds.length ∨ ¬ j < zs.length := by omega
            rcases this with h3 | h3
            · simp [h3] at hj
            · simp [Nat.not_lt.1 h3] at hj
        have h3 : j < ds.length := by omega
        have h4 : j < zs.length := by omega
        simp [h3, h4] at hj
        rw [hc j h4, ← hj]
        simp [List.getD, h4]
      · simp [wcells]; omega
      · intro u hu
        rw [hcs] at hu
        obtain ⟨_, _, rfl⟩ := List.mem_map.1 hu
        rfl
    · rw [setRow_heap w g (wcells ds) _ 22 (0, 0) hg, wcells_over zs ds cs hcs]
    · exact ⟨rfl, rfl, rfl, by simp [World.setRow], fun k hk hn => setRow_other w g k _ hn⟩

/-- The words of a set of N numbers that is made of zs. -/
def ofW (zs : List Nat) (N : Nat) : List Nat := maskW N (over zs (zeros ((N + 63) / 64)))

theorem maskW_len (n : Nat) (ws : List Nat) : (maskW n ws).length = ws.length := by unfold maskW; split <;> simp
theorem ofW_len (zs : List Nat) (N : Nat) : (ofW zs N).length = (N + 63) / 64 := by rw [ofW, maskW_len, over_len, zeros_len]
theorem over_zeros (zs : List Nat) (m i : Nat) (hi : i < m) : (over zs (zeros m)).getD i 0 = zs.getD i 0 := by
  rw [over_get _ _ _ (by rw [zeros_len]; exact hi), zeros_get]
  split
  · rfl
  · simp [List.getD, Nat.not_lt.1 (by assumption)]
theorem ofW_get (zs : List Nat) (N i : Nat) (hz : ∀ i, zs.getD i 0 < 2 ^ 64) (hi : i < (N + 63) / 64) : (ofW zs N).getD i 0 = zs.getD i 0 % 2 ^ (min 64 (N - 64 * i)) := by
  have hl : (over zs (zeros ((N + 63) / 64))).length = (N + 63) / 64 := by rw [over_len, zeros_len]
  unfold ofW maskW
  split
  · rename_i h0
    rw [over_zeros _ _ _ hi, Nat.min_eq_left (by omega), Nat.mod_eq_of_lt (hz i)]
  · rename_i h0
    rw [hl]
    by_cases e : i = (N + 63) / 64 - 1
    · rw [← e, getD_set_same _ _ _ (by omega), over_zeros _ _ _ hi]
      congr 2
      omega
    · rw [getD_set_ne _ _ _ _ e, over_zeros _ _ _ hi, Nat.min_eq_left (by omega), Nat.mod_eq_of_lt (hz i)]
theorem ofW_ok (zs : List Nat) (N : Nat) (hz : ∀ i, zs.getD i 0 < 2 ^ 64) (i : Nat) (hi : i < (ofW zs N).length) : (ofW zs N).getD i 0 < 2 ^ (min 64 (N - 64 * i)) := by
  rw [ofW_len] at hi
  rw [ofW_get zs N i hz hi]
  exact Nat.mod_lt _ (Nat.two_pow_pos _)

theorem RawAt.copied {w w2 b c n ws} (h : RawAt w b c n ws) (zs : List Nat) (hz : ∀ i, zs.getD i 0 < 2 ^ 64) (hg : w2.heap[c]? = some (.cells (wcells (over zs ws)) 22 (0, 0))) (k : Kept (fun x => x = c) w w2) : RawAt w2 b c n (over zs ws) := by
  refine ⟨h.ne, ?_, hg, by rw [over_len]; exact h.len, h.nle, ?_⟩
  · rw [k.block b h.bc.1 (fun e => h.ne e.symm), h.hb, over_len]
  · intro i
    by_cases hi : i < ws.length
    · rw [over_get _ _ _ hi]
      split
      · exact hz i
      · exact h.lt i
    · have : (over zs ws).getD i 0 = 0 := by simp [List.getD, over_len, Nat.not_lt.1 hi]
      rw [this]; decide

theorem of_any (v : Value) (zs : List Nat) (n : Int) (hlo : -9223372036854775808 ≤ n) (hhi : n ≤ 9223372036854775807) (w : World) (hs : Src w v zs) :
    Calls Try.prog 52 #[v, .int .i64 n] w fun e w' => e = .returned (.pointer (some ⟨w.heap.size + 1, 0, none⟩)) ∧ SetAt w' (w.heap.size + 1) w.heap.size (fit n) (ofW zs (fit n)) ∧ Kept (fun _ => False) w w' ∧ w'.heap.size = w.heap.size + 2 := by
  have HS := hid hs
  clear hs
  go_enter Try.func52, Try.ntmps52
  go_wp2_with (first | (go_at_call 74; refine (newSet_any n hlo hhi _).mono ?_; rintro e w1 ⟨rfl, hraw, hk, hsz⟩; have h1 := hraw.cb1; obtain ⟨kk, w2, hcp, hg2, hk2, hs2⟩ := copy_words w1 w.heap.size _ v zs hraw.hc (HS.out.kept hk (fun _ _ x => x)); have HR := hid (hraw.copied zs HS.out.1 hg2 hk2); have HK := hid hk; have HK2 := hid hk2; have HZ := hid hsz; have HZ2 := hid hs2; clear hraw hk hk2 hg2 hsz hs2) | (go_at_call 89; refine (cut_any _ _ _ _ _ HR.out).mono ?_; rintro e w3 ⟨rfl, hr3, hk3, hs3⟩))
  go_ret
  have e1 := HZ.out
  have e2 := HZ2.out
  exact ⟨rfl, hr3.set (ofW_ok zs _ HS.out.1), (HK.out.trans (U := fun _ => False) HK2.out (fun _ _ x => x) (fun x hx e => by omega)).trans hk3 (fun _ _ x => x) (fun x hx e => by omega), by omega⟩
end Go.Proofs.Ytcgbefmjnhkdgaa
/- bits.Words, Count, Resize, Next. -/
namespace Go.Proofs.Ytcgbefmjnhkdgaa
open Go.RowKit
set_option linter.unusedVariables false

theorem make_own (m : Nat) (hm : m ≤ 1048576) (w : World) :
    ∃ w1, (Instr.makeSlice 28 (.int .i64 (m : Int)) (.int .i64 (m : Int))).run Try.prog w = .ok (.slice (some ⟨w.heap.size, 0, none⟩) m m) w1 ∧ w1.heap[w.heap.size]? = some (.cells (wcells (zeros m)) 22 (0, 0)) ∧ Kept (fun _ => False) w w1 ∧ w1.heap.size = w.heap.size + 1 :=
  ⟨_, make_words m hm w, heap_new _ _, (Kept.refl _ w).alloc _, by simp⟩

/-- A block of words as a source. -/
theorem src_block {w : World} {g : Nat} {zs : List Nat} (hg : w.heap[g]? = some (.cells (wcells zs) 22 (0, 0))) (hz : ∀ i, zs.getD i 0 < 2 ^ 64) (cap : Nat) : Src w (.slice (some ⟨g, 0, none⟩) zs.length cap) zs := by
  refine ⟨hz, some ⟨g, 0, none⟩, cap, rfl, Or.inr ⟨⟨g, 0, none⟩, rfl, (Array.getElem?_eq_some_iff.1 hg).1, fun j hj => ?_⟩⟩
  rw [Addr.add_lit]
  simp [World.cell?, hg, wcells, hj]

theorem over_self (zs ws : List Nat) (h : zs.length = ws.length) : over zs ws = zs := by
  simp [over, h]
  rw [← h, List.take_of_length_le (Nat.le_refl _)]

theorem words_any (b c n : Nat) (ws : List Nat) (w : World) (h : SetAt w b c n ws) :
    Calls Try.prog 83 #[.pointer (some ⟨b, 0, none⟩)] w fun e w' => e = .returned (.slice (some ⟨w.heap.size, 0, none⟩) ws.length ws.length) ∧ w'.heap[w.heap.size]? = some (.cells (wcells ws) 22 (0, 0)) ∧ Kept (fun _ => False) w w' ∧ w'.heap.size = w.heap.size + 1 := by
  have hl := h.len
  have hn := h.nle
  obtain ⟨w1, hmk, hg1, hk1, hs1⟩ := make_own ws.length (by omega) w
  have h1 := h.cb1
  have hA1 := h.kept hk1 (fun x => x) (fun x => x)
  have h11 := hA1.cb1
  obtain ⟨kk, w2, hcp, hg2, hk2, hs2⟩ := copy_words w1 w.heap.size (zeros ws.length) (.slice (some ⟨c, 0, none⟩) ws.length ws.length) ws hg1 (src_block hA1.hc hA1.lt64 _)
  rw [over_self ws (zeros ws.length) (zeros_len _).symm] at hg2
  rw [zeros_len] at hcp
  have hlm : ws.length ≤ 1048576 := by omega
  have FIN := hid (show w2.heap[w.heap.size]? = some (.cells (wcells ws) 22 (0, 0)) ∧ Kept (fun _ => False) w w2 ∧ w2.heap.size = w.heap.size + 1 from ⟨hg2, hk1.trans hk2 (fun _ _ x => x) (fun x hx e => by omega), by omega⟩)
  clear h hA1 hk1 hk2 hg1 hg2 hs1 hs2 hl
  go_enter Try.func83, Try.ntmps83
  go_wp2
  go_ret
  exact ⟨rfl, FIN.out⟩

/-- How many bits of the first k words are 1. -/
def cntTo (ws : List Nat) (k : Nat) : Nat := ((List.range k).map fun i => cnt (ws.getD i 0)).sum
theorem cntTo_succ (ws : List Nat) (k : Nat) : cntTo ws (k + 1) = cntTo ws k + cnt (ws.getD k 0) := by
  simp [cntTo, List.range_succ]
theorem cntTo_le (ws : List Nat) (hz : ∀ i, ws.getD i 0 < 2 ^ 64) (k : Nat) : cntTo ws k ≤ 64 * k := by
  induction k with
  | zero => simp [cntTo]
  | succ k ih => rw [cntTo_succ]; have := cnt_le (ws.getD k 0) (hz k); omega
def cntS (ws : List Nat) : Nat := cntTo ws ws.length

theorem countS_any (b c n : Nat) (ws : List Nat) (w : World) (h : SetAt w b c n ws) :
    Calls Try.prog 61 #[.pointer (some ⟨b, 0, none⟩)] w fun e w' => e = .returned (.int .i64 (cntS ws)) ∧ w' = w := by
  have hl := h.len
  have hn := h.nle
  have hlm : ws.length ≤ 1048576 := by omega
  have h1 := h.cb1
  have HA := hid h
  clear h hl hn
  go_enter Try.func61, Try.ntmps61
  go_wp2
  go_loop [3, 11] (fun t i => ∃ k : Nat, k ≤ ws.length ∧ i = .int .i64 k ∧ t = .int .i64 (cntTo ws k)) (fun _ i => ws.length - (intOf i).toNat)
  case atStart => exact ⟨0, by omega, rfl, rfl⟩
  case round =>
    obtain ⟨k, hk, rfl, rfl⟩ := hrel
    by_cases hlt : k < ws.length
    · have hcc := HA.out.cc k hlt
      have hx := HA.out.lt64 k
      have hb := cntTo_le ws HA.out.lt64 k
      have hc := cnt_le (ws.getD k 0) hx
      have hs := hid (cntTo_succ ws k)
      obtain ⟨x, hxd⟩ : ∃ x, x = ws.getD k 0 := ⟨_, rfl⟩
      rw [← hxd] at hcc hx hc hs
      clear hxd
      go_wp2_with (go_at_call 90; refine (count_64 x hx _).mono ?_; rintro e w' ⟨rfl, rfl⟩)
      go_round
      case rel => exact ⟨k + 1, by omega, by go_num, by rw [hs.out]; go_num⟩
      case measure => simp [intOf]; omega
    · go_wp2
      go_ret
      have : k = ws.length := by omega
      subst this
      exact ⟨rfl, rfl⟩

theorem SetAt.stored {w : World} {b c n ws b' c' n' ws'} (hB : SetAt w b c n ws) (hA : SetAt w b' c' n' ws') (hne : c' ≠ b) :
    SetAt ((w.setCell ⟨b, 0, none⟩ (.int .i64 (n' : Int))).setCell ⟨b, 1, none⟩ (.slice (some ⟨c', 0, none⟩) ws'.length ws'.length)) b c' n' ws' := by
  refine ⟨hne, ?_, ?_, hA.len, hA.nle, hA.ok⟩
  · simp [World.setCell, Array.getElem?_modify, hB.hb]
  · rw [Below.heap_setCell _ _ _ _ hne, Below.heap_setCell _ _ _ _ hne]; exact hA.hc

theorem resize_any (b c n : Nat) (ws : List Nat) (i : Int) (hlo : -9223372036854775808 ≤ i) (hhi : i ≤ 9223372036854775807) (w : World) (h : SetAt w b c n ws) :
    Calls Try.prog 95 #[.pointer (some ⟨b, 0, none⟩), .int .i64 i] w fun e w' => e = .returned (.tuple #[]) ∧ SetAt w' b w.heap.size (fit i) (ofW ws (fit i)) ∧ Kept (fun x => x = b) w w' ∧ w'.heap.size = w.heap.size + 2 := by
  have h1 := h.cb1
  have HA := hid h
  have HS := hid (src_block h.hc h.lt64 ws.length)
  clear h
  go_enter Try.func95, Try.ntmps95
  go_wp2_with (go_at_call 52; refine (of_any _ ws i hlo hhi _ HS.out).mono ?_; rintro e w1 ⟨rfl, hA1, hk1, hs1⟩; have g0 := hA1.cb0; have g1 := hA1.cb1; have hB := HA.out.kept hk1 (fun x => x) (fun x => x); have b0 := hB.cb0; have b1 := hB.cb1; have f0 := hB.fb 0; have f1 := hB.fb 1; have HA1 := hid hA1; have HB := hid hB; have HK := hid hk1; have HZ := hid hs1; clear hA1 hB hk1 hs1)
  go_end0
  have hb := HA.out.raw.bc
  have hz := HZ.out
  refine ⟨rfl, HB.out.stored HA1.out (by omega), ?_, by simp; omega⟩
  exact ((HK.out.mono (T := fun x => x = b) (fun _ _ x => x.elim)).setCell (p := ⟨b, 0, none⟩) rfl _).setCell (p := ⟨b, 1, none⟩) rfl _
end Go.Proofs.Ytcgbefmjnhkdgaa
/- bits.Next. -/
namespace Go.Proofs.Ytcgbefmjnhkdgaa
open Go.RowKit
set_option linter.unusedVariables false

/-- A number other than 0 is 2^p times an odd one. -/
theorem low_form (x : Nat) (h : x ≠ 0) : ∃ p m, x = 2 ^ p * (2 * m + 1) := by
  induction x using Nat.strongRecOn with
  | _ x ih =>
    by_cases h2 : x % 2 = 1
    · exact ⟨0, x / 2, by omega⟩
    · obtain ⟨p, m, hp⟩ := ih (x / 2) (by omega) (by omega)
      refine ⟨p + 1, m, ?_⟩
      rw [Nat.pow_succ, Nat.mul_right_comm, ← hp]
      omega

theorem low_bits (p m i : Nat) : ((2 ^ p * (2 * m + 1)).testBit i && !(2 ^ p * (2 * m + 1) - 1).testBit i) = decide (i = p) := by
  have hp := Nat.two_pow_pos p
  have e1 : 2 ^ p * (2 * m + 1) = 2 ^ p * (2 * m + 1) + 0 := rfl
  have e2 : 2 ^ p * (2 * m + 1) - 1 = 2 ^ p * (2 * m) + (2 ^ p - 1) := by rw [Nat.mul_add, Nat.mul_one]; omega
  rw [e2]
  rw [Nat.testBit_two_pow_mul_add _ (by omega : 2 ^ p - 1 < 2 ^ p)]
  rw [e1, Nat.testBit_two_pow_mul_add _ hp]
  by_cases h : i < p
  · simp [h]; omega
  · simp only [h, if_false]
    by_cases e : i = p
    · subst e
      have : 2 * m % 2 = 0 := by omega
      simp [Nat.testBit_zero]
    · obtain ⟨t, ht⟩ : ∃ t, i - p = t + 1 := ⟨i - p - 1, by omega⟩
      rw [ht, Nat.testBit_succ, Nat.testBit_succ]
      have a1 : (2 * m + 1) / 2 = m := by omega
      have a2 : 2 * m / 2 = m := by omega
      rw [a1, a2]
      simp [e]

theorem low_and (p m : Nat) (h : 2 ^ p * (2 * m + 1) < 2 ^ 64) : 2 ^ p * (2 * m + 1) &&& (2 ^ 64 - 2 ^ p * (2 * m + 1)) = 2 ^ p := by
  have hp := Nat.two_pow_pos p
  have h0 : 0 < 2 ^ p * (2 * m + 1) := Nat.mul_pos hp (by omega)
  apply Nat.eq_of_testBit_eq
  intro i
  have e : 2 ^ 64 - 2 ^ p * (2 * m + 1) = 2 ^ 64 - ((2 ^ p * (2 * m + 1) - 1) + 1) := by omega
  rw [Nat.testBit_and, e, Nat.testBit_two_pow_sub_succ (by omega), Nat.testBit_two_pow]
  have := low_bits p m i
  by_cases h64 : i < 64
  · rw [decide_eq_true h64, Bool.true_and, this]
    rw [decide_eq_decide]; omega
  · have hf : (2 ^ p * (2 * m + 1)).testBit i = false := Nat.testBit_lt_two_pow (Nat.lt_of_lt_of_le h ((pow_le 64 i).2 (by omega)))
    have hpi : ¬ p = i := by
      intro e2; subst e2
      rw [hf] at this
      simp at this
    rw [hf]; simp [hpi]

/-- The least bit of x that is 1. -/
theorem low_spec (x : Nat) (h : x ≠ 0) (hx : x < 2 ^ 64) : ∃ p, p < 64 ∧ x / 2 ^ p % 2 = 1 ∧ (∀ j, j < p → x / 2 ^ j % 2 = 0) ∧ x &&& (2 ^ 64 - x) = 2 ^ p := by
  obtain ⟨p, m, rfl⟩ := low_form x h
  have hp := Nat.two_pow_pos p
  have hlt : 2 ^ p < 2 ^ 64 := Nat.lt_of_le_of_lt (Nat.le_mul_of_pos_right _ (by omega)) hx
  refine ⟨p, (pow_lt p 64).1 hlt, ?_, ?_, low_and p m hx⟩
  · rw [Nat.mul_div_cancel_left _ hp]; omega
  · intro j hj
    have : 2 ^ p = 2 ^ j * (2 * 2 ^ (p - j - 1)) := by
      rw [← Nat.mul_assoc, ← Nat.pow_succ, ← Nat.pow_add]; congr 1; omega
    rw [this, Nat.mul_assoc, Nat.mul_div_cancel_left _ (Nat.two_pow_pos j), Nat.mul_assoc]
    omega

/-- The bits from r on. -/
theorem high_bits (x r p : Nat) (hp : p < 64) : x / 2 ^ r * 2 ^ r % 2 ^ 64 / 2 ^ p % 2 = if r ≤ p then x / 2 ^ p % 2 else 0 := by
  have e : ∀ y q : Nat, y / 2 ^ q % 2 = if y.testBit q then 1 else 0 := by
    intro y q
    rw [Nat.testBit_eq_decide_div_mod_eq]
    by_cases h : y / 2 ^ q % 2 = 1
    · simp [h]
    · simp [h]; omega
  rw [e, e, Nat.testBit_mod_two_pow, ← Nat.shiftRight_eq_div_pow, ← Nat.shiftLeft_eq, Nat.testBit_shiftLeft, Nat.testBit_shiftRight]
  by_cases h : r ≤ p
  · have : r + (p - r) = p := by omega
    simp [h, hp, this]
  · simp [h]

/-- The least number of the set from k on. -/
def nxtN (n : Nat) (ws : List Nat) (k : Nat) : Int := match (List.range n).find? (fun j => decide (k ≤ j) && bit ws j) with | some j => (j : Int) | none => -1
def nxt (n : Nat) (ws : List Nat) (i : Int) : Int := nxtN n ws i.toNat

theorem nxtN_none (n : Nat) (ws : List Nat) (k : Nat) (h : ∀ j, k ≤ j → j < n → bit ws j = false) : nxtN n ws k = -1 := by
  unfold nxtN
  have : (List.range n).find? (fun j => decide (k ≤ j) && bit ws j) = none := by
    rw [List.find?_eq_none]
    intro j hj
    rw [List.mem_range] at hj
    by_cases hk : k ≤ j
    · simp [h j hk hj]
    · simp [hk]
  rw [this]

theorem nxtN_some (n : Nat) (ws : List Nat) (k j : Nat) (hj : j < n) (hk : k ≤ j) (hb : bit ws j = true) (h : ∀ i, k ≤ i → i < j → bit ws i = false) : nxtN n ws k = (j : Int) := by
  unfold nxtN
  have : (List.range n).find? (fun j => decide (k ≤ j) && bit ws j) = some j := by
    rw [List.find?_range_eq_some]
    refine ⟨by simp [hk, hb], by simpa using hj, ?_⟩
    intro i hi
    by_cases hki : k ≤ i
    · simp [h i hki hi]
    · simp [hki]
  rw [this]

theorem bit_form (ws : List Nat) (a p : Nat) (hp : p < 64) : bit ws (64 * a + p) = (ws.getD a 0 / 2 ^ p % 2 == 1) := by
  unfold bit
  have h1 : (64 * a + p) / 64 = a := by omega
  have h2 : (64 * a + p) % 64 = p := by omega
  rw [h1, h2]
theorem SetAt.bit_past {w b c n ws} (h : SetAt w b c n ws) (j : Nat) (hj : n ≤ j) : bit ws j = false := by
  unfold bit
  by_cases hl : j / 64 < ws.length
  · have h1 := h.ok (j / 64) hl
    have h2 : ws.getD (j / 64) 0 / 2 ^ (j % 64) = 0 := by
      rw [Nat.div_eq_of_lt]
      refine Nat.lt_of_lt_of_le h1 ((pow_le _ _).2 ?_)
      omega
    rw [h2]; rfl
  · have : ws.getD (j / 64) 0 = 0 := by simp [List.getD, Nat.not_lt.1 hl]
    rw [this]; simp
end Go.Proofs.Ytcgbefmjnhkdgaa
