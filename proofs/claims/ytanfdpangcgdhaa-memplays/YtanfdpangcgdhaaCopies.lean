/- MemCopies. -/
import Derived.Test.YtanfdpangcgdhaaHolds
namespace Go.Proofs.Ytanfdpangcgdhaa
open Go.RowKit
set_option linter.unusedVariables false

theorem Blk.slice {w h m g} (H : Blk w h m g) : Bytes w (.slice (some ⟨h, 0, none⟩) m m) m g := H.bytes m
theorem Bytes.congr {w v m g g'} (h : Bytes w v m g) (hg : ∀ i, i < m → g i = g' i) : Bytes w v m g' := by
  obtain ⟨h1, ao, cap, rfl, h2⟩ := h
  refine ⟨fun i hi => by rw [← hg i hi]; exact h1 i hi, ao, cap, rfl, ?_⟩
  rcases h2 with h2 | ⟨a, e, hb, hc⟩
  · exact Or.inl h2
  · exact Or.inr ⟨a, e, hb, fun j hj => by rw [← hg j hj]; exact hc j hj⟩
theorem Bytes.take {w ao m cap g} (h : Bytes w (.slice ao m cap) m g) (k cap' : Nat) (hk : k ≤ m) : Bytes w (.slice ao k cap') k g := by
  obtain ⟨h1, ao', cap2, e, h2⟩ := h
  injection e with e1 e2 e3
  subst e1
  refine ⟨fun i hi => h1 i (by omega), ao, cap', rfl, ?_⟩
  rcases h2 with h2 | ⟨a, e, hb, hc⟩
  · exact Or.inl (by omega)
  · exact Or.inr ⟨a, e, hb, fun j hj => hc j (by omega)⟩
theorem Bytes.lt {w v m g} (h : Bytes w v m g) (hm : 0 < m) (b : Nat) (hb : v.ownBlock = some b) : b < w.heap.size := by
  obtain ⟨h1, ao, cap, rfl, h2⟩ := h
  obtain ⟨a, rfl, h3, _⟩ := h2.resolve_left (by omega)
  injection hb with hb
  subst hb
  exact h3
theorem copied_get (f gg : Nat → Nat) (o s k i : Nat) (hi : i < k) : upd (upd f s k gg) o k (fun j => upd f s k gg (s + j)) (o + i) = gg i := by
  rw [upd_in _ _ _ _ _ (by omega), Nat.add_sub_cancel_left, upd_in _ _ _ _ _ (by omega), Nat.add_sub_cancel_left]
theorem notfrom {w : World} {ab ad m cap : Nat} (h : ab < w.heap.size) : ∀ b, (Value.slice (some ⟨ab, ad, none⟩) m cap).ownBlock = some b → ¬ from' w.heap.size b := by
  intro b e hb
  injection e with e
  subst e
  exact Nat.lt_irrefl _ (Nat.lt_of_lt_of_le h hb)
theorem Bytes.empty (w : World) (ao : Option Addr) (cap : Nat) (g : Nat → Nat) : Bytes w (.slice ao 0 cap) 0 g := ⟨fun i hi => by omega, ao, cap, rfl, Or.inl rfl⟩

theorem copies_zero (ao : Option Addr) (cap : Nat) (to from_ : Nat) (ht : to < 18446744073709551616) (hf : from_ < 18446744073709551616) (w : World) :
    Calls Try.prog 7 #[.slice ao 0 cap, .int .u64 (to : Int), .int .u64 (from_ : Int)] w fun e w' => e = .returned (.bool true) ∧ Below w.heap.size w w' := by
  go_enter Try.func7, Try.ntmps7
  go_wp2_with fail
  refine (grown_any 2 (by decide) (by decide) _).mono ?_
  rintro e w1 ⟨b, g, rfl, hS, hK, hb, hg⟩
  have HS := hid (show SpaceAt w1 b (some g) 1048576 4096 3 8192 (fun _ => 0) from hS)
  have HO := hid (show ∀ x, own b (some g) x → w.heap.size ≤ x from fun x hx => by rcases hx with rfl | e; exact hb; injection e with e; subst e; exact hg)
  have HK := hid (hK.fresh (B := w.heap.size) (fun x h => h.elim))
  clear hS hK hb hg
  go_wp2_with fail
  refine (Write_zero b _ _ _ _).mono ?_
  rintro e w2 ⟨rfl, hK⟩
  have HK2 := hid (HK.out.then' (hK.fresh (fun x h => h.elim)))
  clear hK HK HS
  go_wp2_with fail
  refine (Copy_zero b _ _ _).mono ?_
  rintro e w3 ⟨rfl, hK⟩
  have HK3 := hid (HK2.out.then' (hK.fresh (fun x h => h.elim)))
  clear hK HK2
  go_wp2_with fail
  refine (Read_zero b _ _).mono ?_
  rintro e w4 ⟨rfl, hK, hz⟩
  have HK4 := hid (HK3.out.then' (hK.fresh (fun x h => h.elim)))
  clear hK HK3 hz
  go_wp2_with fail
  refine (Same_true _ _ 0 (by decide) (fun _ => 0) _ (Bytes.empty _ _ _ _) (Bytes.empty _ _ _ _)).mono ?_
  rintro e w5 ⟨rfl, hK⟩
  have HK5 := hid (HK4.out.then' (hK.fresh (fun x h => h.elim)))
  clear hK HK4
  go_wp2
  go_ret
  exact ⟨rfl, HK5.out.below (Nat.le_refl _) (fun x h => h)⟩

theorem copies_small (ab ad m cap : Nat) (gg : Nat → Nat) (hmx : m ≤ 9223372036854775807) (hcap : m ≤ cap) (h0 : 0 < m) (hm : m ≤ 4000) (to from_ : Nat) (ht : to < 18446744073709551616) (hf : from_ < 18446744073709551616) (w : World) (hv : Bytes w (.slice (some ⟨ab, ad, none⟩) m cap) m gg) :
    Calls Try.prog 7 #[.slice (some ⟨ab, ad, none⟩) m cap, .int .u64 (to : Int), .int .u64 (from_ : Int)] w fun e w' => e = .returned (.bool true) ∧ Below w.heap.size w w' := by
  obtain ⟨d, hD⟩ : ∃ d, d = 8193 - m := ⟨_, rfl⟩
  have hdi : (8192 : Int) - (m : Int) + 1 = (d : Int) := by omega
  have habl := hv.lt (by omega) ab rfl
  have HAB := hid habl
  have HV := hid (hv.take m cap (by omega))
  obtain ⟨t, htt⟩ : ∃ t, t = to % d := ⟨_, rfl⟩
  have htd : t < d := by rw [htt]; exact Nat.mod_lt _ (by omega)
  have hti : (to : Int) % (d : Int) = (t : Int) := by rw [htt]; simp
  obtain ⟨s, hss⟩ : ∃ s, s = from_ % d := ⟨_, rfl⟩
  have hsd : s < d := by rw [hss]; exact Nat.mod_lt _ (by omega)
  have hsi : (from_ : Int) % (d : Int) = (s : Int) := by rw [hss]; simp
  obtain ⟨p, hp⟩ : ∃ p, p = 1048576 + t := ⟨_, rfl⟩
  have hpi : (1048576 : Int) + (t : Int) = (p : Int) := by omega
  obtain ⟨q, hq⟩ : ∃ q, q = 1048576 + s := ⟨_, rfl⟩
  have hqi : (1048576 : Int) + (s : Int) = (q : Int) := by omega
  have HPI := hid (show In 1048576 8192 p m from ⟨by omega, by omega⟩)
  have HQI := hid (show In 1048576 8192 q m from ⟨by omega, by omega⟩)
  have hd0 : ¬ (d : Int) = 0 := by omega
  have hpl : p ≤ 1056768 := by omega
  have hql : q ≤ 1056768 := by omega
  clear htt hss hp hq hv habl hD
  go_enter Try.func7, Try.ntmps7
  go_wp2_with fail
  refine (grown_any 2 (by decide) (by decide) _).mono ?_
  rintro e w1 ⟨b, g, rfl, hS, hK, hb, hg⟩
  have HS := hid (show SpaceAt w1 b (some g) 1048576 4096 3 8192 (fun _ => 0) from hS)
  have HO := hid (show ∀ x, own b (some g) x → w.heap.size ≤ x from fun x hx => by rcases hx with rfl | e; exact hb; injection e with e; subst e; exact hg)
  have HK := hid (hK.fresh (B := w.heap.size) (fun x h => h.elim))
  clear hS hK hb hg
  go_wp2_with fail
  refine (Write_in b g _ _ _ _ _ q m _ gg _ HS.out (by omega) HQI.out (HV.out.kept HK.out (notfrom HAB.out))).mono ?_
  rintro e w2 ⟨rfl, hS, hK⟩
  have HS2 := hid hS
  have HK2 := hid (HK.out.then' (hK.fresh HO.out))
  clear hS hK HS HK
  go_wp2_with fail
  refine (Copy_in b g _ _ _ _ _ p q m _ HS2.out (by omega) HPI.out HQI.out).mono ?_
  rintro e w3 ⟨rfl, hS, hK⟩
  have HS3 := hid hS
  have HK3 := hid (HK2.out.then' (hK.fresh HO.out))
  clear hS hK HS2 HK2
  go_wp2_with fail
  refine (Read_in b g _ _ _ _ _ p m _ HS3.out (by omega) HPI.out).mono ?_
  rintro e w4 ⟨rfl, hB, hK⟩
  have HB := hid hB
  have HK4 := hid (HK3.out.then' (hK.fresh (fun x h => h.elim)))
  clear hB hK HS3 HK3
  go_wp2_with fail
  refine (Same_true _ _ m (by omega) gg _ (HB.out.slice.congr (fun i hi => by
    exact copied_get (fun _ => 0) gg (p - 1048576) (q - 1048576) m i hi)) (HV.out.kept HK4.out (notfrom HAB.out))).mono ?_
  rintro e w5 ⟨rfl, hK⟩
  have HK5 := hid (HK4.out.then' (hK.fresh (fun x h => h.elim)))
  clear hK HK4
  go_wp2
  go_ret
  exact ⟨rfl, HK5.out.below (Nat.le_refl _) (fun x h => h)⟩

theorem copies_large (ab ad m cap : Nat) (gg : Nat → Nat) (hmx : m ≤ 9223372036854775807) (hcap : m ≤ cap) (hm : 4000 < m) (to from_ : Nat) (ht : to < 18446744073709551616) (hf : from_ < 18446744073709551616) (w : World) (hv : Bytes w (.slice (some ⟨ab, ad, none⟩) m cap) m gg) :
    Calls Try.prog 7 #[.slice (some ⟨ab, ad, none⟩) m cap, .int .u64 (to : Int), .int .u64 (from_ : Int)] w fun e w' => e = .returned (.bool true) ∧ Below w.heap.size w w' := by
  have habl := hv.lt (by omega) ab rfl
  have HAB := hid habl
  have HV := hid (hv.take 4000 cap (by omega))
  obtain ⟨t, htt⟩ : ∃ t, t = to % 4193 := ⟨_, rfl⟩
  have htd : t < 4193 := by rw [htt]; exact Nat.mod_lt _ (by omega)
  have hti : (to : Int) % 4193 = (t : Int) := by rw [htt]; simp
  obtain ⟨s, hss⟩ : ∃ s, s = from_ % 4193 := ⟨_, rfl⟩
  have hsd : s < 4193 := by rw [hss]; exact Nat.mod_lt _ (by omega)
  have hsi : (from_ : Int) % 4193 = (s : Int) := by rw [hss]; simp
  obtain ⟨p, hp⟩ : ∃ p, p = 1048576 + t := ⟨_, rfl⟩
  have hpi : (1048576 : Int) + (t : Int) = (p : Int) := by omega
  obtain ⟨q, hq⟩ : ∃ q, q = 1048576 + s := ⟨_, rfl⟩
  have hqi : (1048576 : Int) + (s : Int) = (q : Int) := by omega
  have HPI := hid (show In 1048576 8192 p 4000 from ⟨by omega, by omega⟩)
  have HQI := hid (show In 1048576 8192 q 4000 from ⟨by omega, by omega⟩)
  have hpl : p ≤ 1056768 := by omega
  have hql : q ≤ 1056768 := by omega
  clear htt hss hp hq hv habl
  go_enter Try.func7, Try.ntmps7
  go_wp2_with fail
  refine (grown_any 2 (by decide) (by decide) _).mono ?_
  rintro e w1 ⟨b, g, rfl, hS, hK, hb, hg⟩
  have HS := hid (show SpaceAt w1 b (some g) 1048576 4096 3 8192 (fun _ => 0) from hS)
  have HO := hid (show ∀ x, own b (some g) x → w.heap.size ≤ x from fun x hx => by rcases hx with rfl | e; exact hb; injection e with e; subst e; exact hg)
  have HK := hid (hK.fresh (B := w.heap.size) (fun x h => h.elim))
  clear hS hK hb hg
  go_wp2_with fail
  refine (Write_in b g _ _ _ _ _ q 4000 _ gg _ HS.out (by omega) HQI.out (HV.out.kept HK.out (notfrom HAB.out))).mono ?_
  rintro e w2 ⟨rfl, hS, hK⟩
  have HS2 := hid hS
  have HK2 := hid (HK.out.then' (hK.fresh HO.out))
  clear hS hK HS HK
  go_wp2_with fail
  refine (Copy_in b g _ _ _ _ _ p q 4000 _ HS2.out (by omega) HPI.out HQI.out).mono ?_
  rintro e w3 ⟨rfl, hS, hK⟩
  have HS3 := hid hS
  have HK3 := hid (HK2.out.then' (hK.fresh HO.out))
  clear hS hK HS2 HK2
  go_wp2_with fail
  refine (Read_in b g _ _ _ _ _ p 4000 _ HS3.out (by omega) HPI.out).mono ?_
  rintro e w4 ⟨rfl, hB, hK⟩
  have HB := hid hB
  have HK4 := hid (HK3.out.then' (hK.fresh (fun x h => h.elim)))
  clear hB hK HS3 HK3
  go_wp2_with fail
  refine (Same_true _ _ 4000 (by omega) gg _ (HB.out.slice.congr (fun i hi => by
    exact copied_get (fun _ => 0) gg (p - 1048576) (q - 1048576) 4000 i hi)) (HV.out.kept HK4.out (notfrom HAB.out))).mono ?_
  rintro e w5 ⟨rfl, hK⟩
  have HK5 := hid (HK4.out.then' (hK.fresh (fun x h => h.elim)))
  clear hK HK4
  go_wp2
  go_ret
  exact ⟨rfl, HK5.out.below (Nat.le_refl _) (fun x h => h)⟩

theorem copies_any (ao : Option Addr) (m cap : Nat) (gg : Nat → Nat) (hmx : m ≤ 9223372036854775807) (hcap : m ≤ cap) (to from_ : Nat) (ht : to < 18446744073709551616) (hf : from_ < 18446744073709551616) (w : World) (hv : Bytes w (.slice ao m cap) m gg) :
    Calls Try.prog 7 #[.slice ao m cap, .int .u64 (to : Int), .int .u64 (from_ : Int)] w fun e w' => e = .returned (.bool true) ∧ Below w.heap.size w w' := by
  by_cases h0 : m = 0
  · subst h0
    exact copies_zero ao cap to from_ ht hf w
  · obtain ⟨-, ao', cap', e, h2⟩ := id hv
    injection e with e1 e2 e3
    subst e1
    obtain ⟨a, rfl, -, hc⟩ := h2.resolve_left h0
    obtain ⟨ab, ad, rfl⟩ := addr_plain (hc 0 (by omega))
    by_cases h1 : m ≤ 4000
    · exact copies_small ab ad m cap gg hmx hcap (by omega) h1 to from_ ht hf w hv
    · exact copies_large ab ad m cap gg hmx hcap (by omega) to from_ ht hf w hv
end Go.Proofs.Ytanfdpangcgdhaa
