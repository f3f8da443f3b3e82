/- MemBegins. -/
import Derived.Test.YtanfdpangcgdhaaCopies
namespace Go.Proofs.Ytanfdpangcgdhaa
open Go.RowKit
set_option linter.unusedVariables false

theorem Blk.congr {w h m g g'} (H : Blk w h m g) (hg : ∀ i, i < m → g i = g' i) : Blk w h m g' := by
  refine ⟨fun i hi => by rw [← hg i hi]; exact H.1 i hi, ?_⟩
  rw [H.2]
  have : told m g = told m g' := by
    unfold told
    exact List.map_congr_left (fun i hi => hg i (List.mem_range.1 hi))
  rw [this]

theorem begins_zero (ao : Option Addr) (cap : Nat) (off : Nat) (ho : off < 18446744073709551616) (w : World) :
    Calls Try.prog 8 #[.slice ao 0 cap, .int .u64 (off : Int)] w fun e w' => e = .returned (.bool true) ∧ Below w.heap.size w w' := by
  go_enter Try.func8, Try.ntmps8
  go_wp2_with fail
  refine (grown_any 2 (by decide) (by decide) _).mono ?_
  rintro e w1 ⟨b, g, rfl, hS, hK, hb, hg⟩
  have HS := hid (show SpaceAt w1 b (some g) 1048576 4096 3 8192 (fun _ => 0) from hS)
  have HO := hid (show ∀ x, own b (some g) x → w.heap.size ≤ x from fun x hx => by rcases hx with rfl | e; exact hb; injection e with e; subst e; exact hg)
  have HK := hid (hK.fresh (B := w.heap.size) (fun x h => h.elim))
  clear hS hK hb hg
  go_wp2_with fail
  refine (Write_zero b _ _ _ _).mono ?_
  rintro e w2 ⟨rfl, hK⟩
  obtain ⟨f2, hf2⟩ : ∃ f2 : Nat → Nat, f2 = fun _ => 0 := ⟨_, rfl⟩
  have HS2 := hid (show SpaceAt w2 b (some g) 1048576 4096 3 8192 f2 from hf2 ▸ HS.out.keep hK)
  have HK2 := hid (HK.out.then' (hK.fresh (fun x h => h.elim)))
  clear hK HK HS hf2
  go_wp2_with fail
  refine (Decommit_ok b (some g) _ _ _ _ _ 1 _ HS2.out (by decide)).mono ?_
  rintro e w3 ⟨rfl, hS, hK⟩
  have HS3 := hid (show SpaceAt w3 b (some g) 1048576 4096 3 4096 f2 from hS)
  have HK3 := hid (HK2.out.then' (hK.fresh HO.out))
  clear hS hK HS2 HK2
  go_wp2_with fail
  refine (Fill_out b (some g) _ _ _ _ _ 1052672 1 1 none 0 _ HS3.out (by decide) (by decide) (by decide) (by unfold In; omega)).mono ?_
  rintro e w4 ⟨rfl, hK⟩
  have HS4 := hid (HS3.out.keep hK)
  have HK4 := hid (HK3.out.then' (hK.fresh (fun x h => h.elim)))
  clear hK HS3 HK3
  go_wp2_with fail
  refine (Commit_ok b (some g) _ _ _ _ _ _ HS4.out ⟨1, by decide, by decide⟩).mono ?_
  rintro e w5 ⟨rfl, g5, hS, hK, hg⟩
  have HS5 := hid (show SpaceAt w5 b (some g5) 1048576 4096 3 8192 (more f2 4096) from hS)
  have HK5 := hid (HK4.out.then' (hK.fresh HO.out))
  clear hS hK hg HS4 HK4
  go_wp2_with fail
  refine (Read_in b g5 _ _ _ _ _ 1052672 4096 _ HS5.out (by decide) ⟨by decide, by decide⟩).mono ?_
  rintro e w6 ⟨rfl, hB, hK⟩
  have HB := hid (hB.congr (g' := fun _ => 0) (fun i hi => by simp only [more]; rw [if_neg (by omega)]))
  have HK6 := hid (HK5.out.then' (hK.fresh (fun x h => h.elim)))
  clear hB hK HS5 HK5
  obtain ⟨h6, hh6⟩ : ∃ h6, h6 = w5.heap.size + 1 := ⟨_, rfl⟩
  rw [← hh6] at HB ⊢
  clear hh6
  go_wp2
  go_loop [11] (fun i => ∃ k : Nat, k ≤ 4096 ∧ i = .int .i64 k) (fun i => 4096 - (intOf i).toNat)
  case atStart => exact ⟨0, by omega, rfl⟩
  case round =>
    obtain ⟨k, hk, rfl⟩ := hrel
    by_cases hlt : k < 4096
    · have hc : w6.cell? ⟨h6, k, none⟩ = some (.int .u8 0) := HB.out.cell k hlt
      have hki : (k : Int) < 4096 := by omega
      go_wp2
      refine ⟨⟨k + 1, by omega, by simp⟩, by simp [intOf]; omega⟩
    · obtain rfl : k = 4096 := by omega
      go_wp2
      go_ret
      exact ⟨rfl, HK6.out.below (Nat.le_refl _) (fun x h => h)⟩

theorem begins_small (ab ad m cap : Nat) (gg : Nat → Nat) (hmx : m ≤ 9223372036854775807) (hcap : m ≤ cap) (h0 : 0 < m) (hm : m ≤ 4096) (off : Nat) (ho : off < 18446744073709551616) (w : World) (hv : Bytes w (.slice (some ⟨ab, ad, none⟩) m cap) m gg) :
    Calls Try.prog 8 #[.slice (some ⟨ab, ad, none⟩) m cap, .int .u64 (off : Int)] w fun e w' => e = .returned (.bool true) ∧ Below w.heap.size w w' := by
  obtain ⟨d, hD⟩ : ∃ d, d = 4097 - m := ⟨_, rfl⟩
  have hdi : (4097 : Int) - (m : Int) = (d : Int) := by omega
  obtain ⟨t, htt⟩ : ∃ t, t = off % d := ⟨_, rfl⟩
  have htd : t < d := by rw [htt]; exact Nat.mod_lt _ (by omega)
  have hti : (off : Int) % (d : Int) = (t : Int) := by rw [htt]; simp
  obtain ⟨p, hp⟩ : ∃ p, p = 1052672 + t := ⟨_, rfl⟩
  have hpi : (1052672 : Int) + (t : Int) = (p : Int) := by omega
  have hd0 : ¬ (d : Int) = 0 := by omega
  clear htt
  have habl := hv.lt (by omega) ab rfl
  have HAB := hid habl
  have HV := hid (hv.take m cap (by omega))
  have HPI := hid (show In 1048576 8192 p m from ⟨by omega, by omega⟩)
  have hpl : p ≤ 1056768 := by omega
  clear hp hv habl hD
  go_enter Try.func8, Try.ntmps8
  go_wp2_with fail
  refine (grown_any 2 (by decide) (by decide) _).mono ?_
  rintro e w1 ⟨b, g, rfl, hS, hK, hb, hg⟩
  have HS := hid (show SpaceAt w1 b (some g) 1048576 4096 3 8192 (fun _ => 0) from hS)
  have HO := hid (show ∀ x, own b (some g) x → w.heap.size ≤ x from fun x hx => by rcases hx with rfl | e; exact hb; injection e with e; subst e; exact hg)
  have HK := hid (hK.fresh (B := w.heap.size) (fun x h => h.elim))
  clear hS hK hb hg
  go_wp2_with fail
  refine (Write_in b g _ _ _ _ _ p m _ gg _ HS.out (by omega) HPI.out (HV.out.kept HK.out (notfrom HAB.out))).mono ?_
  rintro e w2 ⟨rfl, hS, hK⟩
  obtain ⟨f2, hf2⟩ : ∃ f2 : Nat → Nat, f2 = upd (fun _ => 0) (p - 1048576) m gg := ⟨_, rfl⟩
  have HS2 := hid (show SpaceAt w2 b (some g) 1048576 4096 3 8192 f2 from hf2 ▸ hS)
  have HK2 := hid (HK.out.then' (hK.fresh HO.out))
  clear hS hK HS HK hf2
  go_wp2_with fail
  refine (Decommit_ok b (some g) _ _ _ _ _ 1 _ HS2.out (by decide)).mono ?_
  rintro e w3 ⟨rfl, hS, hK⟩
  have HS3 := hid (show SpaceAt w3 b (some g) 1048576 4096 3 4096 f2 from hS)
  have HK3 := hid (HK2.out.then' (hK.fresh HO.out))
  clear hS hK HS2 HK2
  go_wp2_with fail
  refine (Fill_out b (some g) _ _ _ _ _ 1052672 1 1 none 0 _ HS3.out (by decide) (by decide) (by decide) (by unfold In; omega)).mono ?_
  rintro e w4 ⟨rfl, hK⟩
  have HS4 := hid (HS3.out.keep hK)
  have HK4 := hid (HK3.out.then' (hK.fresh (fun x h => h.elim)))
  clear hK HS3 HK3
  go_wp2_with fail
  refine (Commit_ok b (some g) _ _ _ _ _ _ HS4.out ⟨1, by decide, by decide⟩).mono ?_
  rintro e w5 ⟨rfl, g5, hS, hK, hg⟩
  have HS5 := hid (show SpaceAt w5 b (some g5) 1048576 4096 3 8192 (more f2 4096) from hS)
  have HK5 := hid (HK4.out.then' (hK.fresh HO.out))
  clear hS hK hg HS4 HK4
  go_wp2_with fail
  refine (Read_in b g5 _ _ _ _ _ 1052672 4096 _ HS5.out (by decide) ⟨by decide, by decide⟩).mono ?_
  rintro e w6 ⟨rfl, hB, hK⟩
  have HB := hid (hB.congr (g' := fun _ => 0) (fun i hi => by simp only [more]; rw [if_neg (by omega)]))
  have HK6 := hid (HK5.out.then' (hK.fresh (fun x h => h.elim)))
  clear hB hK HS5 HK5
  obtain ⟨h6, hh6⟩ : ∃ h6, h6 = w5.heap.size + 1 := ⟨_, rfl⟩
  rw [← hh6] at HB ⊢
  clear hh6
  go_wp2
  go_loop [11] (fun i => ∃ k : Nat, k ≤ 4096 ∧ i = .int .i64 k) (fun i => 4096 - (intOf i).toNat)
  case atStart => exact ⟨0, by omega, rfl⟩
  case round =>
    obtain ⟨k, hk, rfl⟩ := hrel
    by_cases hlt : k < 4096
    · have hc : w6.cell? ⟨h6, k, none⟩ = some (.int .u8 0) := HB.out.cell k hlt
      have hki : (k : Int) < 4096 := by omega
      go_wp2
      refine ⟨⟨k + 1, by omega, by simp⟩, by simp [intOf]; omega⟩
    · obtain rfl : k = 4096 := by omega
      go_wp2
      go_ret
      exact ⟨rfl, HK6.out.below (Nat.le_refl _) (fun x h => h)⟩

theorem begins_large (ab ad m cap : Nat) (gg : Nat → Nat) (hmx : m ≤ 9223372036854775807) (hcap : m ≤ cap) (hm : 4096 < m) (off : Nat) (ho : off < 18446744073709551616) (w : World) (hv : Bytes w (.slice (some ⟨ab, ad, none⟩) m cap) m gg) :
    Calls Try.prog 8 #[.slice (some ⟨ab, ad, none⟩) m cap, .int .u64 (off : Int)] w fun e w' => e = .returned (.bool true) ∧ Below w.heap.size w w' := by
  obtain ⟨p, hp⟩ : ∃ p, p = 1052672 := ⟨_, rfl⟩
  have habl := hv.lt (by omega) ab rfl
  have HAB := hid habl
  have HV := hid (hv.take 4096 cap (by omega))
  have HPI := hid (show In 1048576 8192 p 4096 from ⟨by omega, by omega⟩)
  subst hp
  clear hv habl
  go_enter Try.func8, Try.ntmps8
  go_wp2_with fail
  refine (grown_any 2 (by decide) (by decide) _).mono ?_
  rintro e w1 ⟨b, g, rfl, hS, hK, hb, hg⟩
  have HS := hid (show SpaceAt w1 b (some g) 1048576 4096 3 8192 (fun _ => 0) from hS)
  have HO := hid (show ∀ x, own b (some g) x → w.heap.size ≤ x from fun x hx => by rcases hx with rfl | e; exact hb; injection e with e; subst e; exact hg)
  have HK := hid (hK.fresh (B := w.heap.size) (fun x h => h.elim))
  clear hS hK hb hg
  go_wp2_with fail
  refine (Write_in b g _ _ _ _ _ 1052672 4096 _ gg _ HS.out (by omega) HPI.out (HV.out.kept HK.out (notfrom HAB.out))).mono ?_
  rintro e w2 ⟨rfl, hS, hK⟩
  obtain ⟨f2, hf2⟩ : ∃ f2 : Nat → Nat, f2 = upd (fun _ => 0) 4096 4096 gg := ⟨_, rfl⟩
  have HS2 := hid (show SpaceAt w2 b (some g) 1048576 4096 3 8192 f2 from hf2 ▸ hS)
  have HK2 := hid (HK.out.then' (hK.fresh HO.out))
  clear hS hK HS HK hf2
  go_wp2_with fail
  refine (Decommit_ok b (some g) _ _ _ _ _ 1 _ HS2.out (by decide)).mono ?_
  rintro e w3 ⟨rfl, hS, hK⟩
  have HS3 := hid (show SpaceAt w3 b (some g) 1048576 4096 3 4096 f2 from hS)
  have HK3 := hid (HK2.out.then' (hK.fresh HO.out))
  clear hS hK HS2 HK2
  go_wp2_with fail
  refine (Fill_out b (some g) _ _ _ _ _ 1052672 1 1 none 0 _ HS3.out (by decide) (by decide) (by decide) (by unfold In; omega)).mono ?_
  rintro e w4 ⟨rfl, hK⟩
  have HS4 := hid (HS3.out.keep hK)
  have HK4 := hid (HK3.out.then' (hK.fresh (fun x h => h.elim)))
  clear hK HS3 HK3
  go_wp2_with fail
  refine (Commit_ok b (some g) _ _ _ _ _ _ HS4.out ⟨1, by decide, by decide⟩).mono ?_
  rintro e w5 ⟨rfl, g5, hS, hK, hg⟩
  have HS5 := hid (show SpaceAt w5 b (some g5) 1048576 4096 3 8192 (more f2 4096) from hS)
  have HK5 := hid (HK4.out.then' (hK.fresh HO.out))
  clear hS hK hg HS4 HK4
  go_wp2_with fail
  refine (Read_in b g5 _ _ _ _ _ 1052672 4096 _ HS5.out (by decide) ⟨by decide, by decide⟩).mono ?_
  rintro e w6 ⟨rfl, hB, hK⟩
  have HB := hid (hB.congr (g' := fun _ => 0) (fun i hi => by simp only [more]; rw [if_neg (by omega)]))
  have HK6 := hid (HK5.out.then' (hK.fresh (fun x h => h.elim)))
  clear hB hK HS5 HK5
  obtain ⟨h6, hh6⟩ : ∃ h6, h6 = w5.heap.size + 1 := ⟨_, rfl⟩
  rw [← hh6] at HB ⊢
  clear hh6
  go_wp2
  go_loop [11] (fun i => ∃ k : Nat, k ≤ 4096 ∧ i = .int .i64 k) (fun i => 4096 - (intOf i).toNat)
  case atStart => exact ⟨0, by omega, rfl⟩
  case round =>
    obtain ⟨k, hk, rfl⟩ := hrel
    by_cases hlt : k < 4096
    · have hc : w6.cell? ⟨h6, k, none⟩ = some (.int .u8 0) := HB.out.cell k hlt
      have hki : (k : Int) < 4096 := by omega
      go_wp2
      refine ⟨⟨k + 1, by omega, by simp⟩, by simp [intOf]; omega⟩
    · obtain rfl : k = 4096 := by omega
      go_wp2
      go_ret
      exact ⟨rfl, HK6.out.below (Nat.le_refl _) (fun x h => h)⟩

theorem begins_any (ao : Option Addr) (m cap : Nat) (gg : Nat → Nat) (hmx : m ≤ 9223372036854775807) (hcap : m ≤ cap) (off : Nat) (ho : off < 18446744073709551616) (w : World) (hv : Bytes w (.slice ao m cap) m gg) :
    Calls Try.prog 8 #[.slice ao m cap, .int .u64 (off : Int)] w fun e w' => e = .returned (.bool true) ∧ Below w.heap.size w w' := by
  by_cases h0 : m = 0
  · subst h0
    exact begins_zero ao cap off ho w
  · obtain ⟨-, ao', cap', e, h2⟩ := id hv
    injection e with e1 e2 e3
    subst e1
    obtain ⟨a, rfl, -, hc⟩ := h2.resolve_left h0
    obtain ⟨ab, ad, rfl⟩ := addr_plain (hc 0 (by omega))
    by_cases h1 : m ≤ 4096
    · exact begins_small ab ad m cap gg hmx hcap (by omega) h1 off ho w hv
    · exact begins_large ab ad m cap gg hmx hcap (by omega) off ho w hv
end Go.Proofs.Ytanfdpangcgdhaa
