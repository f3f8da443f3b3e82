/- BitsPlays: the other calls on both sets. -/
import Derived.Test.YtahdjaocfejjeaaPlayA
namespace Go.Proofs.Ytahdjaocfejjeaa
open Go.RowKit
set_option linter.unusedVariables false

theorem played_4 (B b c g n cap : Nat) (ws : List Nat) (i : Int) (v : Bool) (w : World) (hB : B ≤ w.heap.size) (h : Pair B w b c g n ws) :
    Calls Try.prog 42 #[.pointer (some ⟨b, 0, none⟩), .slice (some ⟨g, 0, none⟩) n cap, .agg #[.int .i64 4, .int .i64 i, .bool v]] w (Played B b w) := by
  have k0 := (Kept.refl (fun _ => False) w).alloc (.cells #[.int .i64 4, .int .i64 i, .bool v] 59)
  have p0 := h.kept k0
  have hsz := size_of ws n h.set.len h.set.lt64 h.set.bit_past
  have P0 := hid p0
  have FIN := hid (show Pair B (w.alloc (.cells #[.int .i64 4, .int .i64 i, .bool v] 59)) b c g n ws ∧ Below B w (w.alloc (.cells #[.int .i64 4, .int .i64 i, .bool v] 59)) from ⟨p0, k0.below hB (fun x h => h.elim)⟩)
  clear k0 p0 h hB
  go_enter Try.func42, Try.ntmps42
  go_wp2_with (first | (go_at_call 23; refine (countS_any _ _ _ _ _ P0.out.set).mono ?_; rintro e w' ⟨rfl, hw⟩; subst hw) | (go_at_call 43; refine (refSizeN g (tOf ws n) n cap (tOf_len _ _) _ P0.out.tru).mono ?_; rintro e w' ⟨rfl, hw⟩; subst hw))
  go_ret2
  unfold Played
  exact ⟨c, g, n, cap, ws, rfl, FIN.out⟩

theorem played_5 (B b c g n cap : Nat) (ws : List Nat) (i : Int) (v : Bool) (w : World) (hB : B ≤ w.heap.size) (h : Pair B w b c g n ws) :
    Calls Try.prog 42 #[.pointer (some ⟨b, 0, none⟩), .slice (some ⟨g, 0, none⟩) n cap, .agg #[.int .i64 5, .int .i64 i, .bool v]] w (Played B b w) := by
  have k0 := (Kept.refl (fun _ => False) w).alloc (.cells #[.int .i64 5, .int .i64 i, .bool v] 59)
  have p0 := h.kept k0
  have P0 := hid p0
  have FIN := hid (show Pair B (w.alloc (.cells #[.int .i64 5, .int .i64 i, .bool v] 59)) b c g n ws ∧ Below B w (w.alloc (.cells #[.int .i64 5, .int .i64 i, .bool v] 59)) from ⟨p0, k0.below hB (fun x h => h.elim)⟩)
  clear k0 p0 h hB
  go_enter Try.func42, Try.ntmps42
  go_wp2_with (go_at_call 19; refine (len_any _ _ _ _ _ P0.out.set).mono ?_; rintro e w' ⟨rfl, hw⟩; subst hw)
  go_ret2
  unfold Played
  exact ⟨c, g, n, cap, ws, rfl, FIN.out⟩

theorem played_6 (B b c g n cap : Nat) (ws : List Nat) (i : Int) (v : Bool) (w : World) (hB : B ≤ w.heap.size) (h : Pair B w b c g n ws) :
    Calls Try.prog 42 #[.pointer (some ⟨b, 0, none⟩), .slice (some ⟨g, 0, none⟩) n cap, .agg #[.int .i64 6, .int .i64 i, .bool v]] w (Played B b w) := by
  have k0 := (Kept.refl (fun _ => False) w).alloc (.cells #[.int .i64 6, .int .i64 i, .bool v] 59)
  have p0 := h.kept k0
  have P0 := hid p0
  have K0 := hid k0
  have HBB := hid hB
  have hlb : ws.length ≤ 1048576 := by have h1 := h.set.len; have h2 := h.set.nle; omega
  have hdec : decide (ws = ws) = true := decide_eq_true rfl
  clear k0 p0 h hB
  go_enter Try.func42, Try.ntmps42
  go_wp2_with fail
  refine (words_any _ _ _ _ _ P0.out.set).mono ?_
  rintro e w1 ⟨rfl, hg, hk, hsz⟩
  rw [World.size_alloc] at hg
  have HG1 := hid hg
  have P1 := hid (P0.out.kept hk)
  have K1 := hid (K0.out.trans (U := fun _ => False) hk (fun _ _ x => x) (fun _ _ x => x))
  clear hg hk hsz
  go_wp2_with fail
  refine (refWords g cap n ws _ P1.out.tru P1.out.set.len P1.out.set.ok P1.out.set.lt64).mono ?_
  rintro e w2 ⟨rfl, hg, hk, hsz⟩
  have HG2 := hid hg
  have HH2 := hid (block_kept HG1.out hk (fun x => x))
  have P2 := hid (P1.out.kept hk)
  have K2 := hid (K1.out.trans (U := fun _ => False) hk (fun _ _ x => x) (fun _ _ x => x))
  clear hg hk hsz HG1 P1 K1
  go_wp2_with fail
  refine (same_any _ _ _ _ _ ws ws HH2.out HG2.out hlb hlb P2.out.set.lt64 P2.out.set.lt64).mono ?_
  rintro e w3 ⟨rfl, m, rfl⟩
  have FIN := hid (show Pair B (w2.drewN m) b c g n ws ∧ Below B w (w2.drewN m) from ⟨P2.out.kept ((Kept.refl _ _).drewN m), below_drewN (K2.out.below HBB.out (fun x h => h.elim)) m⟩)
  go_wp2
  go_ret2
  unfold Played
  exact ⟨c, g, n, cap, ws, rfl, FIN.out⟩

theorem played_7 (B b c g n cap : Nat) (ws : List Nat) (i : Int) (hlo : -9223372036854775808 ≤ i) (hhi : i ≤ 9223372036854775807) (v : Bool) (w : World) (hB : B ≤ w.heap.size) (h : Pair B w b c g n ws) :
    Calls Try.prog 42 #[.pointer (some ⟨b, 0, none⟩), .slice (some ⟨g, 0, none⟩) n cap, .agg #[.int .i64 7, .int .i64 i, .bool v]] w (Played B b w) := by
  have k0 := (Kept.refl (fun _ => False) w).alloc (.cells #[.int .i64 7, .int .i64 i, .bool v] 59)
  have p0 := h.kept k0
  have P0 := hid p0
  have K0 := hid k0
  have HBB := hid hB
  have O0 := hid (OpAt.new w 7 i v)
  have HL := hid (show b < w.heap.size from h.set.ltn.1)
  have HRS := hid (tResize_of ws n (fit i) h.set.lt64 h.set.bit_past)
  clear k0 p0 h hB
  go_enter Try.func42, Try.ntmps42
  go_wp2_with fail
  refine (resize_any _ _ _ _ i hlo hhi _ P0.out.set).mono ?_
  rintro e w1 ⟨rfl, hA, hk, hsz⟩
  have c1 := (O0.out.kept hk (fun e => by have := HL.out; omega)).c1
  have HA1 := hid hA
  have HT1 := hid (P0.out.tru.kept hk P0.out.gb)
  have K1 := hid (K0.out.trans (U := fun x => x = b) hk (fun _ _ x => x.elim) (fun _ _ x => x))
  have HZ1 := hid hsz
  clear hA hk hsz
  go_wp2_with fail
  refine (refResizeN g (tOf ws n) n cap (tOf_len _ _) i _ HT1.out).mono ?_
  rintro e w2 ⟨rfl, hT, hk, hsz⟩
  rw [HRS.out] at hT
  have fin : Pair B w2 b (w.alloc (.cells #[.int .i64 7, .int .i64 i, .bool v] 59)).heap.size w1.heap.size (fit i) (ofW ws (fit i)) ∧ Below B w w2 := by
    have h1 := HZ1.out
    have h2 := HL.out
    have h3 := HBB.out
    have h4 := P0.out.lb
    simp only [World.size_alloc] at h1 ⊢
    refine ⟨⟨?_, hT, by omega, by omega, h4, by omega, by omega⟩, (K1.out.below HBB.out (fun x e => by rw [e]; exact h4)).trans (hk.below (by omega) (fun x h => h.elim))⟩
    have := HA1.out.kept hk (fun x => x) (fun x => x)
    simpa only [World.size_alloc] using this
  have FIN := hid fin
  clear fin hT hk hsz
  go_wp2
  go_ret2
  unfold Played
  exact ⟨_, _, _, _, _, rfl, FIN.out⟩

set_option maxHeartbeats 1000000 in
theorem played_3 (B b c g n cap : Nat) (ws : List Nat) (i : Int) (hhi : i ≤ 9223372036854775807) (v : Bool) (w : World) (hB : B ≤ w.heap.size) (h : Pair B w b c g n ws) :
    Calls Try.prog 42 #[.pointer (some ⟨b, 0, none⟩), .slice (some ⟨g, 0, none⟩) n cap, .agg #[.int .i64 3, .int .i64 i, .bool v]] w (Played B b w) := by
  have k0 := (Kept.refl (fun _ => False) w).alloc (.cells #[.int .i64 3, .int .i64 i, .bool v] 59)
  have p0 := h.kept k0
  have P0 := hid p0
  have K0 := hid k0
  have HBB := hid hB
  have htn := tNext_of ws n i
  clear k0 p0 h hB
  go_enter Try.func42, Try.ntmps42
  go_wp2
  go_quiet ((first | (go_at_call 22; exact Calls.quiet_of_same (next_any b c n ws i hhi _ (P0.out.kept ((Kept.refl _ _).drewN _)).set)) | (go_at_call 86; exact Calls.quiet_of_same (refNextN g (tOf ws n) n cap (tOf_len _ _) i hhi _ (P0.out.kept ((Kept.refl _ _).drewN _)).tru))))
  go_wp2
  go_ret2
  unfold Played
  exact ⟨c, g, n, cap, ws, rfl, P0.out.kept ((Kept.refl _ _).drewN _), below_drewN (K0.out.below HBB.out (fun x h => h.elim)) _⟩

set_option maxHeartbeats 1000000 in
theorem played_0 (B b c g n cap : Nat) (ws : List Nat) (kd i : Int) (h1 : (kd == 1) = false) (h2 : (kd == 2) = false) (h3 : (kd == 3) = false) (h4 : (kd == 4) = false) (h5 : (kd == 5) = false) (h6 : (kd == 6) = false) (h7 : (kd == 7) = false) (v : Bool) (w : World) (hB : B ≤ w.heap.size) (h : Pair B w b c g n ws) :
    Calls Try.prog 42 #[.pointer (some ⟨b, 0, none⟩), .slice (some ⟨g, 0, none⟩) n cap, .agg #[.int .i64 kd, .int .i64 i, .bool v]] w (Played B b w) := by
  have k0 := (Kept.refl (fun _ => False) w).alloc (.cells #[.int .i64 kd, .int .i64 i, .bool v] 59)
  have p0 := h.kept k0
  have P0 := hid p0
  have K0 := hid k0
  have HBB := hid hB
  have htn := tGet_of ws n i
  clear k0 p0 h hB
  go_enter Try.func42, Try.ntmps42
  go_wp2
  go_quiet ((first | (go_at_call 28; exact Calls.quiet_of_same (get_any b c n ws i _ (P0.out.kept ((Kept.refl _ _).drewN _)).set)) | (go_at_call 85; exact Calls.quiet_of_same (refGetN g (tOf ws n) n cap (tOf_len _ _) i _ (P0.out.kept ((Kept.refl _ _).drewN _)).tru))))
  go_wp2
  go_ret2
  unfold Played
  exact ⟨c, g, n, cap, ws, rfl, P0.out.kept ((Kept.refl _ _).drewN _), below_drewN (K0.out.below HBB.out (fun x h => h.elim)) _⟩
end Go.Proofs.Ytahdjaocfejjeaa
