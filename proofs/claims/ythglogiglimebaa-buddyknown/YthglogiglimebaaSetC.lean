/- bits.cut, Of, Words, Count, Resize. -/
import Derived.Test.YthglogiglimebaaSetB
namespace Go.Proofs.Ythglogiglimebaa
open Go.RowKit
set_option linter.unusedVariables false

def maskW (n : Nat) (ws : List Nat) : List Nat := if n % 64 = 0 then ws else ws.set (ws.length - 1) (ws.getD (ws.length - 1) 0 % 2 ^ (n % 64))

theorem pow_cast (r : Nat) : ((2 : Int) ^ r) = ((2 ^ r : Nat) : Int) := by simp
theorem pow_b (r : Nat) (h : r < 64) : 1 ≤ (2 : Int) ^ r ∧ (2 : Int) ^ r < 18446744073709551616 := by
  have h1 := (pow_lt r 64).2 h
  have h2 := Nat.two_pow_pos r
  rw [pow_cast]
  obtain ⟨p, hp⟩ : ∃ p, p = 2 ^ r := ⟨_, rfl⟩
  rw [← hp] at h1 h2 ⊢
  omega
theorem wrap_pow (r : Nat) (h : r < 64) : IntKind.u64.wrap (2 ^ r) = 2 ^ r := by
  have := pow_b r h
  rw [wrap_u64]
  omega

theorem cut_any (b c n : Nat) (ws : List Nat) (w : World) (h : RawAt w b c n ws) :
    Calls Try.prog 103 #[.pointer (some ⟨b, 0, none⟩)] w fun e w' => e = .returned (.tuple #[]) ∧ RawAt w' b c n (maskW n ws) ∧ Kept (fun x => x = c) w w' ∧ w'.heap.size = w.heap.size := by
  have h0 := h.cb0
  have hn := h.nle
  obtain ⟨r, hr⟩ : ∃ r, r = n % 64 := ⟨_, rfl⟩
  have hr1 : (n : Int) % 64 = (r : Int) := by omega
  have hr64 : r < 64 := by omega
  by_cases hz : n % 64 = 0
  · have e1 : maskW n ws = ws := by simp [maskW, hz]
    rw [e1]
    have : r = 0 := by omega
    subst this
    clear hr e1 hz
    go_enter Try.func103, Try.ntmps103
    go_wp2
    go_end0
    exact ⟨rfl, h, Kept.refl _ _, rfl⟩
  · have hl := h.len
    obtain ⟨q, hq⟩ : ∃ q, q = ws.length - 1 := ⟨_, rfl⟩
    have hql : q < ws.length := by omega
    have hcc := h.cc q hql
    have hlt := h.lt q
    have h1 := h.cb1
    have hf := h.fc q
    obtain ⟨x, hx⟩ : ∃ x, x = ws.getD q 0 := ⟨_, rfl⟩
    have e1 : maskW n ws = ws.set q (x % 2 ^ r) := by simp only [maskW, hz, if_false, hx, hq, hr]
    rw [e1]
    rw [← hx] at hcc hlt
    have hy : x % 2 ^ r < 2 ^ 64 := Nat.lt_of_le_of_lt (Nat.mod_le _ _) hlt
    have E : bits BinOp.and IntKind.u64 (x : Int) (2 ^ r - 1) = ((x % 2 ^ r : Nat) : Int) := by
      have hp := Nat.two_pow_pos r
      have hp2 := (pow_lt r 64).2 hr64
      have := u64_and_nat x (2 ^ r - 1) hlt (by omega)
      rw [Nat.and_two_pow_sub_one_eq_mod] at this
      rw [← this]
      congr 1
      rw [pow_cast]
      omega
    obtain ⟨y, hyd⟩ : ∃ y, y = x % 2 ^ r := ⟨_, rfl⟩
    rw [← hyd] at hy E ⊢
    have hq1 : (ws.length : Int) - 1 = (q : Int) := by omega
    have hpb := pow_b r hr64
    have hpb1 := hpb.1
    have hpb2 := hpb.2
    have hw := wrap_pow r hr64
    have hrn : ((r : Int) != 0) = true := by rw [bne_iff_ne]; omega
    have hlm : ws.length ≤ 1048576 := by omega
    have fin : RawAt (w.setCell ⟨c, q, none⟩ (.int .u64 (y : Int))).drew b c n (ws.set q y) ∧ Kept (fun x => x = c) w (w.setCell ⟨c, q, none⟩ (.int .u64 (y : Int))).drew ∧ (w.setCell ⟨c, q, none⟩ (.int .u64 (y : Int))).drew.heap.size = w.heap.size :=
      ⟨(h.write q y hql hy).drew, ((Kept.refl (fun x => x = c) w).setCell (p := ⟨c, q, none⟩) rfl _).drew, by simp⟩
    have FIN := hid fin
    clear hx h hl hq hr fin hyd hpb e1 hz
    go_enter Try.func103, Try.ntmps103
    go_wp2
    go_region
    all_goals (go_wp2; go_end0; exact ⟨rfl, FIN.out⟩)

/-- A slice of words that can be read. -/
def Src (w : World) (v : Value) (zs : List Nat) : Prop :=
  (∀ i, zs.getD i 0 < 2 ^ 64) ∧ ∃ ao cap, v = .slice ao zs.length cap ∧ (zs = [] ∨ ∃ a : Addr, ao = some a ∧ a.block < w.heap.size ∧ ∀ j, j < zs.length → w.cell? (a.add j) = some (.int .u64 ((zs.getD j 0 : Nat) : Int)))

theorem addr_add_block (a : Addr) (j : Nat) : (a.add j).block = a.block := by unfold Addr.add; split <;> rfl

theorem Src.kept {w w' : World} {S : Nat → Prop} {v : Value} {zs : List Nat} (h : Src w v zs) (k : Kept S w w') (hS : ∀ b, v.ownBlock = some b → ¬ S b) : Src w' v zs := by
  obtain ⟨h1, ao, cap, rfl, h2⟩ := h
  refine ⟨h1, ao, cap, rfl, ?_⟩
  rcases h2 with h2 | ⟨a, rfl, hb, hc⟩
  · exact Or.inl h2
  · refine Or.inr ⟨a, rfl, Nat.lt_of_lt_of_le hb k.size, fun j hj => ?_⟩
    rw [← hc j hj]
    exact World.cell?_of_block (by rw [addr_add_block]; exact k.block _ hb (hS a.block rfl))

/-- zs laid over ws. -/
def over (zs ws : List Nat) : List Nat := zs.take ws.length ++ ws.drop zs.length
theorem over_len (zs ws : List Nat) : (over zs ws).length = ws.length := by simp [over]; omega
theorem over_get (zs ws : List Nat) (i : Nat) (hi : i < ws.length) : (over zs ws).getD i 0 = if i < zs.length then zs.getD i 0 else ws.getD i 0 := by
  simp only [over, List.getD, List.getElem?_append, List.length_take, List.getElem?_take, List.getElem?_drop]
  by_cases h : i < zs.length
  · have h0 : i < min ws.length zs.length := by omega
    simp [h, hi, h0]
  · have h2 : ¬ i < min ws.length zs.length := by omega
    simp only [h2, h, if_false]
    by_cases h3 : zs.length ≤ ws.length
    · congr 2; omega
    · have : ¬ i < ws.length := by omega
      exact absurd hi this

theorem wcells_over (zs ws : List Nat) (cs : List Value) (hcs : cs = (zs.take ws.length).map fun (x : Nat) => Value.int .u64 (x : Int)) : ((wcells ws).toList.take 0 ++ cs ++ (wcells ws).toList.drop (0 + cs.length)).toArray = wcells (over zs ws) := by
  subst hcs
  simp only [wcells, over, List.take_zero, List.nil_append, Nat.zero_add, List.map_append, List.length_map, List.length_take]
  congr 2
  rw [← List.map_drop]
  by_cases h : zs.length ≤ ws.length
  · rw [Nat.min_eq_right h]
  · rw [Nat.min_eq_left (by omega), List.drop_eq_nil_of_le (Nat.le_refl _), List.drop_eq_nil_of_le (by omega)]

theorem copy_words (w : World) (g : Nat) (ds : List Nat) (v : Value) (zs : List Nat) (hg : w.heap[g]? = some (.cells (wcells ds) 24 (0, 0))) (hs : Src w v zs) :
    ∃ (k : Nat) (w2 : World), (∀ ty, (Builtin.copy_ #[43, 43] ty #[.slice (some ⟨g, 0, none⟩) ds.length ds.length, v]).run Try.prog w = .ok (goInt k) w2) ∧ w2.heap[g]? = some (.cells (wcells (over zs ds)) 24 (0, 0)) ∧ Kept (fun x => x = g) w w2 ∧ w2.heap.size = w.heap.size := by
  obtain ⟨i, hi, hz0, hz1, hz2⟩ := info_parts info_u64
  obtain ⟨h1, ao, cap, rfl, h2⟩ := hs
  rcases h2 with rfl | ⟨a, rfl, hb, hc⟩
  · refine ⟨0, w, fun ty => ?_, ?_, Kept.refl _ _, rfl⟩
    · exact run_copy_none (P := Try.prog) w 43 43 ty 24 (some ⟨g, 0, none⟩) ao ds.length ds.length 0 cap Try.underlying43 (by rw [hi]; simp [hz1]) (Nat.zero_min _)
    · simpa [over] using hg
  · obtain ⟨cs, hcs⟩ : ∃ cs : List Value, cs = (zs.take ds.length).map fun (x : Nat) => Value.int .u64 (x : Int) := ⟨_, rfl⟩
    have hlen : cs.length = min zs.length ds.length := by rw [hcs]; simp; omega
    refine ⟨cs.length, w.setRow g ((wcells ds).toList.take 0 ++ cs ++ (wcells ds).toList.drop (0 + cs.length)).toArray, fun ty => ?_, ?_, ?_, by simp [World.setRow]⟩
    · refine run_copy_row (P := Try.prog) w 43 43 ty 24 g 0 ds.length ds.length a zs.length cap (wcells ds) 24 cs Try.underlying43 (by rw [hi]; simp [hz1]) hg hlen ?_ ?_ ?_
      · intro j u hj
        rw [hcs] at hj
        simp only [List.getElem?_map, List.getElem?_take] at hj
        have hjl : j < cs.length := by
          rcases Nat.lt_or_ge j cs.length with h | h
          · exact h
          · exfalso
            have : ¬ j < ds.length ∨ ¬ j < zs.length := by omega
            rcases this with h3 | h3
            · simp [h3] at hj
            · simp [Nat.not_lt.1 h3] at hj
        have h3 : j < ds.length := by omega
        have h4 : j < zs.length := by omega
        simp [h3, h4] at hj
        rw [hc j h4, ← hj]
        simp [List.getD, h4]
      · simp [wcells]; omega
      · intro u hu
        rw [hcs] at hu
        obtain ⟨_, _, rfl⟩ := List.mem_map.1 hu
        rfl
    · rw [setRow_heap w g (wcells ds) _ 24 (0, 0) hg, wcells_over zs ds cs hcs]
    · exact ⟨rfl, rfl, rfl, by simp [World.setRow], fun k hk hn => setRow_other w g k _ hn⟩

/-- The words of a set of N numbers that is made of zs. -/
def ofW (zs : List Nat) (N : Nat) : List Nat := maskW N (over zs (zeros ((N + 63) / 64)))

theorem maskW_len (n : Nat) (ws : List Nat) : (maskW n ws).length = ws.length := by unfold maskW; split <;> simp
theorem ofW_len (zs : List Nat) (N : Nat) : (ofW zs N).length = (N + 63) / 64 := by rw [ofW, maskW_len, over_len, zeros_len]
theorem over_zeros (zs : List Nat) (m i : Nat) (hi : i < m) : (over zs (zeros m)).getD i 0 = zs.getD i 0 := by
  rw [over_get _ _ _ (by rw [zeros_len]; exact hi), zeros_get]
  split
  · rfl
  · simp [List.getD, Nat.not_lt.1 (by assumption)]
theorem ofW_get (zs : List Nat) (N i : Nat) (hz : ∀ i, zs.getD i 0 < 2 ^ 64) (hi : i < (N + 63) / 64) : (ofW zs N).getD i 0 = zs.getD i 0 % 2 ^ (min 64 (N - 64 * i)) := by
  have hl : (over zs (zeros ((N + 63) / 64))).length = (N + 63) / 64 := by rw [over_len, zeros_len]
  unfold ofW maskW
  split
  · rename_i h0
    rw [over_zeros _ _ _ hi, Nat.min_eq_left (by omega), Nat.mod_eq_of_lt (hz i)]
  · rename_i h0
    rw [hl]
    by_cases e : i = (N + 63) / 64 - 1
    · rw [← e, getD_set_same _ _ _ (by omega), over_zeros _ _ _ hi]
      congr 2
      omega
    · rw [getD_set_ne _ _ _ _ e, over_zeros _ _ _ hi, Nat.min_eq_left (by omega), Nat.mod_eq_of_lt (hz i)]
theorem ofW_ok (zs : List Nat) (N : Nat) (hz : ∀ i, zs.getD i 0 < 2 ^ 64) (i : Nat) (hi : i < (ofW zs N).length) : (ofW zs N).getD i 0 < 2 ^ (min 64 (N - 64 * i)) := by
  rw [ofW_len] at hi
  rw [ofW_get zs N i hz hi]
  exact Nat.mod_lt _ (Nat.two_pow_pos _)

theorem RawAt.copied {w w2 b c n ws} (h : RawAt w b c n ws) (zs : List Nat) (hz : ∀ i, zs.getD i 0 < 2 ^ 64) (hg : w2.heap[c]? = some (.cells (wcells (over zs ws)) 24 (0, 0))) (k : Kept (fun x => x = c) w w2) : RawAt w2 b c n (over zs ws) := by
  refine ⟨h.ne, ?_, hg, by rw [over_len]; exact h.len, h.nle, ?_⟩
  · rw [k.block b h.bc.1 (fun e => h.ne e.symm), h.hb, over_len]
  · intro i
    by_cases hi : i < ws.length
    · rw [over_get _ _ _ hi]
      split
      · exact hz i
      · exact h.lt i
    · have : (over zs ws).getD i 0 = 0 := by simp [List.getD, over_len, Nat.not_lt.1 hi]
      rw [this]; decide

theorem of_any (v : Value) (zs : List Nat) (n : Int) (hlo : -9223372036854775808 ≤ n) (hhi : n ≤ 9223372036854775807) (w : World) (hs : Src w v zs) :
    Calls Try.prog 98 #[v, .int .i64 n] w fun e w' => e = .returned (.pointer (some ⟨w.heap.size + 1, 0, none⟩)) ∧ SetAt w' (w.heap.size + 1) w.heap.size (fit n) (ofW zs (fit n)) ∧ Kept (fun _ => False) w w' ∧ w'.heap.size = w.heap.size + 2 := by
  have HS := hid hs
  clear hs
  go_enter Try.func98, Try.ntmps98
  go_wp2_with (first | (go_at_call 54; refine (newSet_any n hlo hhi _).mono ?_; rintro e w1 ⟨rfl, hraw, hk, hsz⟩; have h1 := hraw.cb1; obtain ⟨kk, w2, hcp, hg2, hk2, hs2⟩ := copy_words w1 w.heap.size _ v zs hraw.hc (HS.out.kept hk (fun _ _ x => x)); have HR := hid (hraw.copied zs HS.out.1 hg2 hk2); have HK := hid hk; have HK2 := hid hk2; have HZ := hid hsz; have HZ2 := hid hs2; clear hraw hk hk2 hg2 hsz hs2) | (go_at_call 103; refine (cut_any _ _ _ _ _ HR.out).mono ?_; rintro e w3 ⟨rfl, hr3, hk3, hs3⟩))
  go_ret
  have e1 := HZ.out
  have e2 := HZ2.out
  exact ⟨rfl, hr3.set (ofW_ok zs _ HS.out.1), (HK.out.trans (U := fun _ => False) HK2.out (fun _ _ x => x) (fun x hx e => by omega)).trans hk3 (fun _ _ x => x) (fun x hx e => by omega), by omega⟩
end Go.Proofs.Ythglogiglimebaa
