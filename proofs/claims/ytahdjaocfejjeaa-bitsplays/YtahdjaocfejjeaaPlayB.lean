/- BitsPlays: Flip on both sets. -/
import Derived.Test.YtahdjaocfejjeaaPlayA
namespace Go.Proofs.Ytahdjaocfejjeaa
open Go.RowKit
set_option linter.unusedVariables false

set_option maxHeartbeats 4000000 in
theorem played_2 (B b c g n cap : Nat) (ws : List Nat) (i : Int) (v : Bool) (w : World) (hB : B ≤ w.heap.size) (h : Pair B w b c g n ws) :
    Calls Try.prog 42 #[.pointer (some ⟨b, 0, none⟩), .slice (some ⟨g, 0, none⟩) n cap, .agg #[.int .i64 2, .int .i64 i, .bool v]] w (Played B b w) := by
  have HP := hid h
  have HBB := hid hB
  clear h hB
  go_enter Try.func42, Try.ntmps42
  go_wp2_with fail
  have k0 := (Kept.refl (fun _ => False) w).alloc (.cells #[.int .i64 2, .int .i64 i, .bool v] 59)
  have p0 := HP.out.kept k0
  have o0 := OpAt.new w 2 i v
  refine (flip_any _ _ _ _ _ _ p0.set).mono ?_
  rintro e w1 ⟨rfl, hA, hk, hsz⟩
  have hcl := HP.out.set.ltn
  have o1 := o0.kept hk (by omega)
  have t1 := p0.tru.kept hk HP.out.gc
  have c1 := o1.c1
  have HT1 := hid t1
  have HA1 := hid hA
  have KK := hid (k0.trans (U := fun x => x = c) hk (fun _ _ x => x.elim) (fun _ _ x => x))
  clear t1 o0 o1 k0 p0 hA hk hcl hsz
  go_wp2_with fail
  have HTd := hid (show TrueAt w1.drew g (tOf ws n) from ⟨HT1.out.hg, HT1.out.le⟩)
  go_region_with (first | (go_at_call 85; refine (refGetB g (tOf ws n) n cap (tOf_len _ _) i w1.drew HTd.out).mono ?_; rintro e w2 ⟨rfl, rfl⟩) | (go_at_call 84; refine (refPutN g (tOf ws n) n cap (tOf_len _ _) i _ w1.drew HTd.out).mono ?_; rintro e w2 ⟨rfl, hT, hk2, hsz2⟩))
  all_goals
    have fin : Pair B w2 b c g n (flipI n ws i) ∧ Below B w w2 := by
      have h := HP.out
      rw [tFlip_of ws n i h.set.len] at hT
      have hd : Kept (fun _ => False) w1 w1.drew := (Kept.refl _ _).drew
      exact ⟨⟨(HA1.out.kept hd (fun x => x) (fun x => x)).kept hk2 (fun e => h.gb e.symm) (fun e => h.gc e.symm), hT, h.gb, h.gc, h.lb, h.lc, h.lg⟩,
        ((KK.out.below HBB.out (fun x e => by rw [e]; exact h.lc)).trans (hd.below (Nat.le_trans HBB.out KK.out.size) (fun x h => h.elim))).trans (hk2.below (Nat.le_trans HBB.out KK.out.size) (fun x e => by rw [e]; exact h.lg))⟩
    have FIN := hid fin
    clear fin hT hk2 hsz2
    go_wp2
    go_ret2
    unfold Played
    exact ⟨c, g, n, cap, flipI n ws i, rfl, FIN.out⟩
end Go.Proofs.Ytahdjaocfejjeaa
