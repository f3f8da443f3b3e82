/- croftref2.Write, Read. -/
import Derived.Test.YtanfdpangcgdhaaRefC
namespace Go.Proofs.Ytanfdpangcgdhaa
open Go.RowKit
set_option linter.unusedVariables false

theorem Kept.nothing {S : Nat → Prop} {a b : World} (h : Kept S a b) (hS : ∀ x, S x → a.heap.size ≤ x) : Kept none' a b := h.mono (fun x hx hs => absurd (hS x hs) (by omega))

theorem bytes_one (w : World) (x : Nat) (hx : x < 256) : Bytes (w.alloc (.cells #[.int .u8 (x : Int)] 5)) (.slice (some ⟨w.heap.size, 0, none⟩) 1 1) 1 (fun _ => x) :=
  ⟨fun _ _ => hx, _, _, rfl, Or.inr ⟨⟨w.heap.size, 0, none⟩, rfl, by simp, fun j hj => by
    obtain rfl : j = 0 := by omega
    rw [Addr.add_lit]
    simp only [World.cell?, heap_new]
    rfl⟩⟩

theorem RRead_in (base R lim n cap h : Nat) (f : Nat → Nat) (hn : n ≤ 4194304) (p kk : Nat) (hp : p < 18446744073709551616) (w : World) (H : MemAt w h n cap f) (hbn : base + n ≤ 9223372036854775808) (hin : In base n p kk) :
    Calls Try.prog 53 #[.agg #[.int .u64 (base : Int), .int .u64 (R : Int), .int .i64 (lim : Int), .slice (some ⟨h, 0, none⟩) n cap], .int .u64 (p : Int), .int .u64 (kk : Int)] w fun e w' => e = .returned (.slice (some ⟨w.heap.size + 1, 0, none⟩) kk kk) ∧ MemAt w' (w.heap.size + 1) kk kk (fun i => f (p - base + i)) ∧ Kept none' w w' := by
  obtain ⟨h1, h2⟩ := hin
  obtain ⟨o, ho⟩ : ∃ o, o = p - base := ⟨_, rfl⟩
  have hok : o + kk ≤ n := by omega
  have hpb : p = base + o := by omega
  rw [← ho]
  have hkb := (Kept.refl none' w).alloc (.cells #[.int .u64 (base : Int), .int .u64 (R : Int), .int .i64 (lim : Int), .slice (some ⟨h, 0, none⟩) n cap] 50)
  have hbx := heap_new w (.cells #[.int .u64 (base : Int), .int .u64 (R : Int), .int .i64 (lim : Int), .slice (some ⟨h, 0, none⟩) n cap] 50)
  have hsz : (w.alloc (.cells #[.int .u64 (base : Int), .int .u64 (R : Int), .int .i64 (lim : Int), .slice (some ⟨h, 0, none⟩) n cap] 50)).heap.size = w.heap.size + 1 := by simp
  have HHL := hid H.lt
  obtain ⟨w1, -, hmk, hM1, hK1, hs1⟩ := make_room kk (by omega) (w.alloc (.cells #[.int .u64 (base : Int), .int .u64 (R : Int), .int .i64 (lim : Int), .slice (some ⟨h, 0, none⟩) n cap] 50))
  rw [hsz] at hmk hM1 hs1
  have HBX := hid ((hK1.block w.heap.size (by rw [hsz]; omega) (fun x => x)).trans hbx)
  have HK1 := hid (hkb.trans (U := none') hK1 (fun _ _ x => x) (fun _ _ x => x))
  have HM := hid (H.keep HK1.out)
  have HM1 := hid hM1
  have HS1 := hid hs1
  have HPB := hid hpb
  clear H ho h1 h2 hpb hkb hbx hsz hM1 hK1 hs1
  go_enter Try.func53, Try.ntmps53
  go_wp2
  go_loopw [7, 8] (fun l i wr => ∃ j : Nat, j ≤ kk ∧ i = .int .u64 (j : Int) ∧ l = .slice (some ⟨w.heap.size + 1, 0, none⟩) j kk ∧ Hid (Kept (fun x => x = w.heap.size + 1) w1 wr) ∧ Hid (MemAt wr (w.heap.size + 1) j kk (fun i => f (o + i)))) (fun _ i _ => kk - (intOf i).toNat)
  case atStart => exact ⟨0, by omega, rfl, rfl, Kept.refl _ _, HM1.out.congr (fun i hi => by omega)⟩
  case round =>
    obtain ⟨j, hj, rfl, rfl, hK, hM⟩ := hrel
    clear HM1
    have hb0 := (hK.out.block w.heap.size (by have := HS1.out; omega) (by omega)).trans HBX.out
    have c0 : wr.cell? ⟨w.heap.size, 0, none⟩ = some (.int .u64 (base : Int)) := by simp [World.cell?, hb0]
    have c1 : wr.cell? ⟨w.heap.size, 1, none⟩ = some (.int .u64 (R : Int)) := by simp [World.cell?, hb0]
    have c2 : wr.cell? ⟨w.heap.size, 2, none⟩ = some (.int .i64 (lim : Int)) := by simp [World.cell?, hb0]
    have c3 : wr.cell? ⟨w.heap.size, 3, none⟩ = some (.slice (some ⟨h, 0, none⟩) n cap) := by simp [World.cell?, hb0]
    clear hb0
    by_cases hlt : j < kk
    · obtain ⟨q, hq⟩ : ∃ q, q = p + j := ⟨_, rfl⟩
      have hpb := HPB.out
      have hqi : (p : Int) + (j : Int) = (q : Int) := by omega
      have hql : q < 18446744073709551616 := by omega
      have HIN := hid (show In base n q 1 from ⟨by omega, by omega⟩)
      have hji : (j : Int) < (kk : Int) := by omega
      obtain ⟨x, hx⟩ : ∃ x, x = f (q - base) := ⟨_, rfl⟩
      have HX := hid hx
      have HXO := hid (show x = f (o + j) from by rw [hx]; congr 1; omega)
      have HMR := hid (HM.out.kept hK.out (by have := HHL.out; omega))
      have HXL := hid (show x < 256 by rw [hx]; exact HMR.out.f256 _ (by omega))
      clear hpb hq hx
      go_wp2_with fail
      refine (RByte_in base R lim n cap h f hn q hql _ HMR.out HIN.out).mono ?_
      rintro e w2 ⟨rfl, hK2⟩
      rw [← HX.out]
      have hkk3 := hK2.alloc (.cells #[.int .u8 (x : Int)] 5)
      obtain ⟨w4, hap, hM4, hK4, -⟩ := append_fits (w2.alloc (.cells #[.int .u8 (x : Int)] 5)) (w.heap.size + 1) j kk 1 _ (fun _ => x) _ (hM.out.keep hkk3) (bytes_one w2 x HXL.out) (by omega)
      have HM4 := hid (hM4.congr (f' := fun i => f (o + i)) (fun i hi => by
        unfold glue
        split
        · rfl
        · have e : i = j := by omega
          rw [e]
          exact HXO.out))
      have HK4 := hid ((hK.out.trans (U := fun x => x = w.heap.size + 1) hkk3 (fun _ _ x => x) (fun _ _ x => x.elim)).trans (U := fun x => x = w.heap.size + 1) hK4 (fun _ _ x => x) (fun _ _ x => x))
      clear hkk3 hK2 hM4 hK4 c0 c1 c2 c3
      go_wp2_with (at_builtin; refine Lib.wpList_append_run _ rfl _ _ _ _ rfl _ _ rfl rfl _ _ (hap _) ?_)
      refine ⟨⟨j + 1, by omega, by simp, rfl, HK4, HM4⟩, by simp [intOf]; omega⟩
    · obtain rfl : j = kk := by omega
      go_wp2
      go_ret
      exact ⟨rfl, hM.out, HK1.out.trans (U := none') hK.out (fun _ _ x => x) (fun x hx e => by omega)⟩

theorem RWrite_in (base R lim n cap h : Nat) (f : Nat → Nat) (hn : n ≤ 4194304) (p m vc ab ad : Nat) (g : Nat → Nat) (hp : p < 18446744073709551616) (w : World) (H : MemAt w h n cap f) (hbn : base + n ≤ 9223372036854775808) (hm0 : 0 < m) (hin : In base n p m) (hv : Bytes w (.slice (some ⟨ab, ad, none⟩) m vc) m g) (hne : ab ≠ h) :
    Calls Try.prog 52 #[.agg #[.int .u64 (base : Int), .int .u64 (R : Int), .int .i64 (lim : Int), .slice (some ⟨h, 0, none⟩) n cap], .int .u64 (p : Int), .slice (some ⟨ab, ad, none⟩) m vc] w fun e w' => e = .returned (.tuple #[]) ∧ MemAt w' h n cap (upd f (p - base) m g) ∧ Kept (fun x => x = h) w w' := by
  obtain ⟨h1, h2⟩ := hin
  obtain ⟨o, ho⟩ : ∃ o, o = p - base := ⟨_, rfl⟩
  have hok : o + m ≤ n := by omega
  have hpb : p = base + o := by omega
  rw [← ho]
  have HH := hid H.lt
  have hkb := (Kept.refl none' w).alloc (.cells #[.int .u64 (base : Int), .int .u64 (R : Int), .int .i64 (lim : Int), .slice (some ⟨h, 0, none⟩) n cap] 50)
  have HM := hid (H.keep hkb)
  have HV := hid (hv.keep hkb)
  have HPB := hid hpb
  have HNE := hid hne
  clear H ho h1 h2 hpb hkb hv hne
  go_enter Try.func52, Try.ntmps52
  go_wp2
  go_loopw [6] (fun i wr => ∃ k : Nat, k ≤ m ∧ i = .int .i64 k ∧ Hid (Kept (fun x => x = h) (w.alloc (.cells #[.int .u64 (base : Int), .int .u64 (R : Int), .int .i64 (lim : Int), .slice (some ⟨h, 0, none⟩) n cap] 50)) wr) ∧ Hid (MemAt wr h n cap (upd f o k g))) (fun i _ => m - (intOf i).toNat)
  case atStart => exact ⟨0, by omega, rfl, Kept.refl _ _, by rw [upd_zero]; exact HM⟩
  case round =>
    obtain ⟨k, hk, rfl, hK, hM⟩ := hrel
    obtain ⟨c0, c1, c2, c3, hKw⟩ := refbox w wr base R lim n cap _ hK.out HH.out
    have HKW := hid hKw
    clear HM hKw c1 c2
    by_cases hlt : k < m
    · obtain ⟨q, hq⟩ : ∃ q, q = o + k := ⟨_, rfl⟩
      have hpb := HPB.out
      have hix : (p : Int) + (k : Int) - (base : Int) = (q : Int) := by omega
      have hqn : (q : Int) < (n : Int) := by omega
      have hpk : (p : Int) + (k : Int) < 18446744073709551616 := by omega
      have hbp : (base : Int) ≤ (p : Int) + (k : Int) := by omega
      have hc := hM.out.cell q (by omega)
      have hf := hM.out.frozen q
      have hki : (k : Int) < (m : Int) := by omega
      have hkm : k ≤ 4194304 := by omega
      have hmm : m ≤ 4194304 := by omega
      have hsc : wr.cell? ⟨ab, ad + k, none⟩ = some (.int .u8 ((g k : Nat) : Int)) := by
        obtain ⟨-, ao', c', e, h2⟩ := HV.out.kept hK.out (fun b e hb => by injection e with e; exact HNE.out (e.trans hb))
        injection e with e1 e2 e3
        subst e1
        obtain ⟨a, e4, -, hcc⟩ := h2.resolve_left (by omega)
        injection e4 with e4
        have := hcc k hlt
        rwa [← e4, Addr.add_lit] at this
      have HG := hid (HV.out.1 k hlt)
      obtain ⟨y, hy⟩ : ∃ y, y = g k := ⟨_, rfl⟩
      rw [← hy] at hsc
      have HY := hid hy
      have HQ := hid hq
      have hwq : IntKind.i64.wrap (q : Int) = (q : Int) := by rw [IntKind.wrap_i64]; omega
      have hwk : IntKind.i64.wrap (k : Int) = (k : Int) := by rw [IntKind.wrap_i64]; omega
      clear hq hpb hy
      go_wp2
      go_region
      all_goals go_wp2
      all_goals refine ⟨⟨k + 1, by omega, by simp, (hK.out.setCell (fun _ => rfl) _).drew, ?_⟩, by simp [intOf]; omega⟩
      all_goals (rw [← upd_succ, ← HQ.out, ← HY.out]; exact (hM.out.write q y (by have := HQ.out; omega) (by rw [HY.out]; exact HG.out)).keep (Kept.refl none' _).drew)
    · obtain rfl : k = m := by omega
      go_wp2
      go_end0
      exact ⟨rfl, hM.out, HKW.out⟩
end Go.Proofs.Ytanfdpangcgdhaa
