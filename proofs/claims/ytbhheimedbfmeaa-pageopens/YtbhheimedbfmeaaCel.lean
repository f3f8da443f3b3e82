/- croftlaw4: awake. -/
import Derived.Test.YtbhheimedbfmeaaPgL
import Derived.Test.YtbhheimedbfmeaaPgN
import Derived.Test.YtbhheimedbfmeaaPgC
import Derived.Test.YtbhheimedbfmeaaPgE
namespace Go.Proofs.Ytbhheimedbfmeaa
open Go.RowKit
set_option linter.unusedVariables false

set_option maxRecDepth 4000 in
theorem open_nil (w : World) :
    Calls Try.prog 22 #[.int .i64 0, .slice none 0 0, .slice none 0 0] w fun e w' => ∃ b, e = .returned (.tuple #[.pointer (some ⟨b, 0, none⟩), .int .i64 0]) ∧ Kept none' w w' := by
  go_enter Try.func22, Try.ntmps22
  go_wp2_with fail
  refine (new_any 0 _).mono ?_
  rintro e w1 ⟨b, B, rfl, hM, hK, hN⟩
  have HM := hid hM
  have HK := hid hK
  have HN := hid hN
  clear hM hK hN
  go_wp2_with fail
  refine (mresize_any b B (newM (ordN 0)) 0 (by decide) ⟨0, by simp⟩ w1 HM.out).mono ?_
  rintro e w2 ⟨rfl, B2, hM, hK, hF⟩
  have K2 := hid (show Kept none' w w2 from HK.out.trans hK (fun _ _ x => x) (fun x hx e => absurd (HN.out x e) (by omega)))
  clear hM hK hF
  go_wp2_with fail
  go_loopw [46] (fun i W => i = .int .i64 0 ∧ Hid (Kept none' w W)) (fun _ _ => 0)
  case atStart => exact ⟨rfl, K2⟩
  case round =>
    clear K2
    obtain ⟨rfl, hK⟩ := hrel
    go_wp2_with fail
    go_loopw [66] (fun i W => i = .int .i64 0 ∧ Hid (Kept none' w W)) (fun _ _ => 0)
    case atStart => exact ⟨rfl, hK⟩
    case round =>
      clear hK
      obtain ⟨rfl, hK⟩ := hrel
      go_wp2_with fail
      exact ⟨rfl, .tuple #[.pointer (some ⟨b, 0, none⟩), .int .i64 0], by simp [results, Try.results22, go_sem], b, rfl, hK.out⟩
theorem g2_n : (growM (newM (ordN 2))).n = 4 := by decide
theorem g2_at : atP (growM (newM (ordN 2))) 0 = blankP 2 2 := by decide
theorem g2_in : inR (growM (newM (ordN 2))).n 0 = true := by decide
set_option maxRecDepth 4000 in
set_option maxHeartbeats 2000000 in
theorem awake_any (w : World) :
    Calls Try.prog 9 #[] w fun e w' => e = .returned (.bool true) ∧ Kept none' w w' := by
  go_enter Try.func9, Try.ntmps9
  go_wp2_with fail
  refine (new_any 2 _).mono ?_
  rintro e w1 ⟨b, B, rfl, hM, hK, hN⟩
  have HM := hid hM
  have HK := hid hK
  have HN := hid hN
  clear hM hK hN
  go_wp2_with fail
  refine (open_nil _).mono ?_
  rintro e w2 ⟨q, rfl, hK⟩
  have M2 := hid (HM.out.keep hK)
  have K2 := hid (none_trans HK.out hK)
  clear hK
  go_wp2_with fail
  refine (Grow_any b B (newM (ordN 2)) _ M2.out).mono ?_
  rintro e w3 ⟨rfl, B3, hM, hK, hF⟩
  have M3 := hid hM
  have K3 := hid (show Kept none' w w3 from K2.out.trans hK (fun _ _ x => x) (fun x hx e => absurd (HN.out x e) (by omega)))
  clear hM hK hF
  go_wp2_with fail
  refine (at_any b B3 (growM (newM (ordN 2))) 0 _ M3.out).mono ?_
  rw [g2_at, g2_in]
  rintro e w4 ⟨rfl, hK⟩
  have M4 := hid (M3.out.keep hK)
  have K4 := hid (none_trans K3.out hK)
  clear hK
  go_wp2_with fail
  refine (pages_any b B3 (growM (newM (ordN 2))) _ (M4.out.keep ((Kept.refl none' w4).alloc (pobj (blankP 2 2))))).mono ?_
  rw [g2_n]
  rintro e w5 ⟨rfl, hw5⟩
  have X5 := hid (show w5.heap[w4.heap.size]? = some (pobj (blankP 2 2)) by rw [hw5]; exact heap_new _ _)
  have K5 := hid (show Kept none' w w5 by rw [hw5]; exact K4.out.alloc _)
  clear hw5
  obtain ⟨x0, x1, x2, x3, x4, x5, x6, x7, x8, x9, x10⟩ := box11 X5.out
  rw [show (blankP 2 2).kd = 2 from rfl] at x0
  rw [show (blankP 2 2).od = 2 from rfl] at x1
  rw [show (blankP 2 2).nx = -1 from rfl] at x4
  clear x2 x3 x5 x6 x7 x8 x9 x10
  go_wp2_with fail
  go_ret
  exact ⟨rfl, K5.out⟩
end Go.Proofs.Ytbhheimedbfmeaa
