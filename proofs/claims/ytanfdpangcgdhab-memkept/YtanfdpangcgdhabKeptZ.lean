/- MemKept, of no byte, and of any. -/
import Derived.Test.YtanfdpangcgdhabKeptL
namespace Go.Proofs.Ytanfdpangcgdhab
open Go.RowKit
set_option linter.unusedVariables false

theorem append_none (w : World) (h m : Nat) (g' : Nat → Nat) (vs : Value) (hs : Bytes w vs m g') (hm : 0 < m) (hb : m ≤ 1048576) :
    ∃ h' c' w', (∀ ty, (Builtin.append_ #[22, 22] ty #[.slice (some ⟨h, 0, none⟩) 0 0, vs]).run Try.prog w = .ok (.slice (some ⟨h', 0, none⟩) (0 + m) c') w') ∧ Kept none' w w' := by
  obtain ⟨i, hi, hz0, hz1, hz2⟩ := info_parts info_u8
  obtain ⟨h256, ao, c, rfl, hc⟩ := hs
  obtain ⟨a, rfl, -, hcell⟩ := hc.resolve_left (by omega)
  have hsrc : Go.Src Try.prog i.size 22 (.slice (some a) m c) m (byteVs m g') w := Go.Src.ofSlice w Try.underlying22 a m c (byteVs m g') (by rw [byteVs_len, hz1, Nat.mul_one]) (fun j u hj => by
    obtain ⟨h1, rfl⟩ := byteVs_get m g' j u hj
    exact hcell j h1) (fun u hu => by
    obtain ⟨_, _, rfl⟩ := List.mem_map.1 hu
    rfl)
  have hold := run_firstCells_some (P := Try.prog) w.drew i.size 0 ⟨h, 0, none⟩ 0 0 [] (by simp) (fun j u hj => by simp at hj)
  exact ⟨w.heap.size, grownCap w (0 + m) 0 5, _, fun ty => run_append_grow_src (P := Try.prog) w 22 22 ty 5 i (.int .u8 0) Try.underlying22 hi hz0 (some ⟨h, 0, none⟩) 0 0 [] hold (.slice (some a) m c) m (byteVs m g') hsrc (by omega) (by omega) (growslice_fits (by omega) (by rw [hz2]; omega)), ((Kept.refl none' w).drew).alloc _⟩

set_option maxRecDepth 100000 in
set_option maxHeartbeats 4000000 in
theorem kept_zero (ao : Option Addr) (cap : Nat) (w : World) :
    Calls Try.prog 3 #[.slice ao 0 cap] w fun e w' => e = .returned (.bool true) ∧ Below w.heap.size w w' := by
  go_enter Try.func3, Try.ntmps3
  go_wp2_with fail
  refine (grown_any 2 (by decide) (by decide) _).mono ?_
  rintro e w1 ⟨b1, g1, rfl, hS1, hK1, hb1, hg1⟩
  have HS1 := hid (show SpaceAt w1 b1 (some g1) 1048576 4096 3 8192 (fun _ => 0) from hS1)
  have HB1 := hid (And.intro hb1 hg1)
  have HK1 := hid hK1
  clear hS1 hK1 hb1 hg1
  go_wp2_with fail
  refine (grown_any 2 (by decide) (by decide) _).mono ?_
  rintro e w2 ⟨b2, g2, rfl, hS2, hK2, hb2, hg2⟩
  have HS := hid (show KS w w2.heap.size w2 b1 g1 b2 g2 (fun _ => 0) from by
    have h1 := HS1.out
    have hl1 := h1.own_lt
    have hk := HK1.out.size
    have hk2 := hK2.size
    have hS2' : SpaceAt w2 b2 (some g2) 1048576 4096 3 8192 (fun _ => 0) := hS2
    have hl2 := hS2'.own_lt
    refine ⟨h1.keep hK2, hS2', (HK1.out.trans (U := none') hK2 (fun _ _ x => x) (fun _ _ x => x)).fresh (fun x h => h.elim), fun x e => ⟨?_, by have := hl1 x e; omega⟩, fun x e => ⟨?_, hl2 x e⟩, fun x e e2 => ?_, by omega, Nat.le_refl _⟩
    · rcases e with rfl | e
      · exact HB1.out.1
      · injection e with e
        subst e
        exact HB1.out.2
    · rcases e with rfl | e
      · omega
      · injection e with e
        subst e
        omega
    · have := hl1 x e
      rcases e2 with rfl | e2
      · omega
      · injection e2 with e2
        subst e2
        omega)
  obtain ⟨X, hX⟩ : ∃ X, X = w2.heap.size := ⟨_, rfl⟩
  clear hS2 hK2 hb2 hg2 HS1 HB1 HK1
  obtain ⟨w3, hmk3, -, hM3, hK3, hs3⟩ := make_room 8 (by omega) w2
  rw [← hX] at hmk3 hM3 hs3
  rw [show ((8 : Nat) : Int) = (8 : Int) from rfl] at hmk3
  have hS3 := HS.out.keep hK3
  obtain ⟨w4, hap4, hM4, hK4, hs4⟩ := append_fits w3 X 0 8 0 _ (fun _ => 0) (.slice ao 0 cap) hM3 (Bytes.empty _ _ _ _) (by omega)
  rw [Nat.zero_add] at hap4 hM4
  rw [← hX] at HS
  have hS4 := (hX ▸ hS3 : KS w X w3 b1 g1 b2 g2 (fun _ => 0)).next hK4 (fun x e => by rw [e]; exact Nat.le_refl _)
  have hA4 := (Kept.refl none' w4).alloc (.cells #[.int .u8 201, .int .u8 201, .int .u8 201, .int .u8 201] 5)
  obtain ⟨w5, hap5, hM5, hK5, hs5⟩ := append_fits (w4.alloc (.cells #[.int .u8 201, .int .u8 201, .int .u8 201, .int .u8 201] 5)) X 0 8 4 _ (fun _ => 201) _ (hM4.keep hA4) (bytes_lit w4 _ 4 201 (by decide) four) (by omega)
  rw [Nat.zero_add] at hap5 hM5
  have HS5 := hid ((hS4.keep hA4).next hK5 (fun x e => by rw [e]; exact Nat.le_refl _))
  have HM5 := hid (hM5.congr (f' := fun _ => 201) (fun i hi => by simp only [glue]; split <;> first | rfl | omega))
  clear hS3 hS4 hM3 hM4 hM5 hK3 hK4 hK5 hA4 hs3 hs4 hs5 HS hX
  go_wp2_with (at_builtin; first | (refine Lib.wpList_append_run _ rfl _ _ _ _ rfl (.slice (some ⟨X, 0, none⟩) 0 8) (.slice ao 0 cap) rfl rfl _ _ (hap4 _) ?_; clear hap4) | (refine Lib.wpList_append_run _ rfl _ _ _ _ rfl (.slice (some ⟨X, 0, none⟩) 0 8) _ rfl rfl _ _ (hap5 _) ?_; clear hap5))
  refine (Write_zero b1 _ _ _ _).mono ?_
  rintro e w6 ⟨rfl, hK⟩
  have HS6 := hid (HS5.out.keep hK)
  have HM6 := hid (HM5.out.keep hK)
  clear hK HS5 HM5
  go_wp2_with fail
  refine (Same_true _ _ 0 (by omega) (fun _ => 0) _ (Bytes.empty _ _ _ _) (Bytes.empty _ _ _ _)).mono ?_
  rintro e w7 ⟨rfl, hK⟩
  have HS7 := hid (HS6.out.keep hK)
  have HM7 := hid (HM6.out.keep hK)
  clear hK HS6 HM6
  go_wp2_with fail
  have hA7 := (Kept.refl none' w7).alloc (.cells #[.int .u8 201, .int .u8 201, .int .u8 201, .int .u8 201] 5)
  refine (Same_true _ _ 4 (by decide) (fun _ => 201) _ ((HM7.out.keep hA7).tail 0 4 8 (Nat.le_refl _)) (bytes_lit w7 _ 4 201 (by decide) four)).mono ?_
  rintro e w8 ⟨rfl, hK⟩
  have hK' := hA7.trans (U := none') hK (fun _ _ x => x) (fun _ _ x => x)
  have HS8 := hid (HS7.out.keep hK')
  clear hK hK' hA7 HS7 HM7
  go_wp2
  go_loop [8] (fun i => i = .int .i64 0) (fun _ => 0)
  case atStart => rfl
  case round =>
    subst hrel
    go_wp2_with fail
    refine (Read_zero b1 _ _).mono ?_
    rintro e w10 ⟨rfl, hK, -⟩
    obtain ⟨A, hA⟩ : ∃ A, A = w8.heap.size + 1 := ⟨_, rfl⟩
    rw [← hA]
    have HS10 := hid (HS8.out.keep hK)
    clear hK hA HS8
    go_wp2_with fail
    refine (Read_zero b1 _ _).mono ?_
    rintro e w11 ⟨rfl, hK, -⟩
    obtain ⟨E, hE⟩ : ∃ E, E = w10.heap.size + 1 := ⟨_, rfl⟩
    rw [← hE]
    have HS11 := hid (HS10.out.keep hK)
    clear hK hE HS10
    go_wp2_with fail
    refine (Same_true _ _ 0 (by omega) (fun _ => 0) _ (Bytes.empty _ _ _ _) (Bytes.empty _ _ _ _)).mono ?_
    rintro e w12 ⟨rfl, hK⟩
    have HS12 := hid (HS11.out.keep hK)
    clear hK HS11
    go_wp2_with fail
    refine (Same_true _ _ 0 (by omega) (fun _ => 0) _ (Bytes.empty _ _ _ _) (Bytes.empty _ _ _ _)).mono ?_
    rintro e w13 ⟨rfl, hK⟩
    have HS13 := hid (HS12.out.keep hK)
    clear hK HS12
    go_wp2
    go_loop [13] (fun i => i = .int .i64 0) (fun _ => 0)
    case atStart => rfl
    case round =>
      subst hrel
      have hA14 := (Kept.refl none' w13).alloc (.cells #[.int .u8 7, .int .u8 7, .int .u8 7, .int .u8 7, .int .u8 7, .int .u8 7, .int .u8 7, .int .u8 7] 5)
      obtain ⟨hG, cG, w15, hapG, hK15⟩ := append_none (w13.alloc (.cells #[.int .u8 7, .int .u8 7, .int .u8 7, .int .u8 7, .int .u8 7, .int .u8 7, .int .u8 7, .int .u8 7] 5)) A 8 (fun _ => 7) _ (bytes_lit w13 _ 8 7 (by decide) eight) (by decide) (by decide)
      rw [Nat.zero_add] at hapG
      have HS15 := hid ((HS13.out.keep hA14).keep hK15)
      clear HS13 hA14 hK15
      go_wp2_with (at_builtin; refine Lib.wpList_append_run _ rfl _ _ _ _ rfl (.slice (some ⟨A, 0, none⟩) 0 0) _ rfl rfl _ _ (hapG _) ?_; clear hapG)
      refine (Read_in b1 g1 _ _ _ _ _ 1048576 8 _ HS15.out.s1 (by omega) ⟨by decide, by omega⟩).mono ?_
      rintro e w16 ⟨rfl, hB, hK⟩
      obtain ⟨C, hC⟩ : ∃ C, C = w15.heap.size + 1 := ⟨_, rfl⟩
      rw [← hC] at hB ⊢
      have HC := hid hB
      have HS16 := hid (HS15.out.keep hK)
      clear hB hK HS15 hC
      go_wp2_with fail
      refine (Same_true _ _ 0 (by omega) (fun _ => 0) _ (Bytes.empty _ _ _ _) (Bytes.empty _ _ _ _)).mono ?_
      rintro e w17 ⟨rfl, hK⟩
      have HC17 := hid (HC.out.kept hK (fun x => x))
      have HS17 := hid (HS16.out.keep hK)
      clear hK HC HS16
      go_wp2_with fail
      refine (Same_true _ _ 0 (by omega) (fun _ => 0) _ (Bytes.empty _ _ _ _) (Bytes.empty _ _ _ _)).mono ?_
      rintro e w18 ⟨rfl, hK⟩
      have HC18 := hid (HC17.out.kept hK (fun x => x))
      have HS18 := hid (HS17.out.keep hK)
      clear hK HC17 HS17
      go_wp2
      go_loop [16] (fun i => ∃ a : Nat, a ≤ 8 ∧ i = .int .i64 a) (fun i => 8 - (intOf i).toNat)
      case atStart => exact ⟨0, by omega, rfl⟩
      case round =>
        obtain ⟨a, ha2, rfl⟩ := hrel
        by_cases hlt : a < 8
        · have hc : w18.cell? ⟨C, a, none⟩ = some (.int .u8 0) := HC18.out.cell a hlt
          have hai : (a : Int) < 8 := by omega
          go_wp2
          refine ⟨⟨a + 1, by omega, by simp⟩, by simp [intOf]; omega⟩
        · obtain rfl : a = 8 := by omega
          clear HC18
          go_wp2_with fail
          refine (Read_zero b2 _ _).mono ?_
          rintro e w19 ⟨rfl, hK, -⟩
          obtain ⟨Z, hZ⟩ : ∃ Z, Z = w18.heap.size + 1 := ⟨_, rfl⟩
          rw [← hZ]
          have HS19 := hid (HS18.out.keep hK)
          clear hK HS18 hZ
          go_wp2
          go_loop [18] (fun i => i = .int .i64 0) (fun _ => 0)
          case atStart => rfl
          case round =>
            subst hrel
            go_wp2
            go_ret
            exact ⟨rfl, HS19.out.k.below (Nat.le_refl _) (fun x h => h)⟩

theorem kept_any (ao : Option Addr) (m cap : Nat) (gg : Nat → Nat) (hmx : m ≤ 9223372036854775807) (hcap : m ≤ cap) (w : World) (hv : Bytes w (.slice ao m cap) m gg) :
    Calls Try.prog 3 #[.slice ao m cap] w fun e w' => e = .returned (.bool true) ∧ Below w.heap.size w w' := by
  by_cases h0 : m = 0
  · subst h0
    exact kept_zero ao cap w
  · obtain ⟨h256, ao', c', he, hc⟩ := id hv
    injection he with e1 e2 e3
    subst e1 e3
    obtain ⟨a, rfl, -, hc⟩ := hc.resolve_left h0
    obtain ⟨ab, ad, rfl⟩ := addr_plain (hc 0 (by omega))
    by_cases h1 : m ≤ 4096
    · exact kept_small ab ad m cap gg hcap (by omega) h1 w hv
    · exact kept_large ab ad m cap gg hmx hcap (by omega) w hv

end Go.Proofs.Ytanfdpangcgdhab
