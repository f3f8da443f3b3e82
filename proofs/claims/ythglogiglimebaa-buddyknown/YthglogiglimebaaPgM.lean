/- pagemap: Flip. -/
import Derived.Test.YthglogiglimebaaPgH
namespace Go.Proofs.Ythglogiglimebaa
open Go.RowKit
set_option linter.unusedVariables false

def upw (wd : Nat → List Nat) (k : Nat) (ws : List Nat) : Nat → List Nat := fun j => if j = k then ws else wd j
theorem MapAt.words {w w' b B m} {ws : List Nat} (h : MapAt w b B m) (k : Nat) (hk : k < m.o) (kp : Kept (fun x => x = B.C k) w w') (hS : SetAt w' (B.S k) (B.C k) (m.n / 2 ^ (k + 1)) ws) : MapAt w' b B { m with wd := upw m.wd k ws } := by
  obtain ⟨cq, hb, hp⟩ := h.hb
  have s0 := h.set k hk
  refine ⟨h.o8, h.n1, h.dv, ⟨cq, (kp.block b (heap_lt hb) (ty_ne hb s0.hc (by decide))).trans hb, hp.kept kp (fun x e => ?_)⟩, Rows.kept h.row kp (fun x e => ?_), fun j hj => ?_, h.injS, h.injC, h.ok⟩
  · rw [e] at hp
    obtain ⟨ds, hq, _⟩ := hp
    exact ty_ne hq s0.hc (by decide)
  · have hr := h.row
    rw [e] at hr
    obtain ⟨cs, hgb, _⟩ := hr
    exact ty_ne hgb s0.hc (by decide)
  · show SetAt w' (B.S j) (B.C j) (m.n / 2 ^ (j + 1)) (upw m.wd k ws j)
    unfold upw
    by_cases e : j = k
    · rw [if_pos e, e]
      exact hS
    · rw [if_neg e]
      have s := h.set j hj
      exact s.kept kp (ty_ne s.hb s0.hc (by decide)) (fun e2 => e (h.injC j k hj hk e2))
theorem shr_run (i k : Nat) (hk : k < 8) (W : World) : Sem.run Try.prog (Op.shift BinOp.shr IntKind.i64 (i : Int) IntKind.i64 (IntKind.i64.wrap ((k : Int) + 1))) W = Result.ok (.int .i64 ((i / 2 ^ (k + 1) : Nat) : Int)) W := by
  have hw : IntKind.i64.wrap ((k : Int) + 1) = ((k + 1 : Nat) : Int) := by rw [IntKind.wrap_i64]; omega
  rw [hw]
  unfold Op.shift
  simp [go_sem]
  rw [if_neg (by omega), Nat.min_eq_left (by omega), Int.fdiv_eq_ediv_of_nonneg _ (Int.le_of_lt (Int.pow_pos (by decide)))]
theorem Flip_no (b : Nat) (B : Bs) (m : Mp) (k i : Int) (w : World) (h : MapAt w b B m) (hp : (inR m.o k && inR m.n i) = false) :
    Calls Try.prog 61 #[.pointer (some ⟨b, 0, none⟩), .int .i64 k, .int .i64 i] w fun e w' => e = .returned (.tuple #[.bool false, .int .i64 1]) ∧ Kept none' w w' := by
  have HM := hid h
  have HP := hid hp
  clear h hp
  go_enter Try.func61, Try.ntmps61
  go_wp2_with fail
  refine (hasPair_any b B m k i _ HM.out).mono ?_
  rintro e w1 ⟨rfl, rfl⟩
  rw [HP.out]
  go_wp2_with fail
  exact ⟨rfl, _, by simp [results, Try.results61, go_sem], rfl, Kept.refl none' _⟩
theorem flipI_in {n k : Nat} (ws : List Nat) (h : k < n) : flipI n ws (k : Int) = flipW ws k := by
  unfold flipI
  rw [if_pos (inR_yes h)]
  simp
theorem Flip_in (b : Nat) (B : Bs) (m : Mp) (k i : Nat) (w : World) (h : MapAt w b B m) (hk : k < m.o) (hi : i < m.n) :
    Calls Try.prog 61 #[.pointer (some ⟨b, 0, none⟩), .int .i64 (k : Int), .int .i64 (i : Int)] w fun e w' => e = .returned (.tuple #[.bool (inS (m.n / 2 ^ (k + 1)) (flipI (m.n / 2 ^ (k + 1)) (m.wd k) ((i / 2 ^ (k + 1) : Nat) : Int)) ((i / 2 ^ (k + 1) : Nat) : Int)), .int .i64 0]) ∧ MapAt w' b B { m with wd := upw m.wd k (flipI (m.n / 2 ^ (k + 1)) (m.wd k) ((i / 2 ^ (k + 1) : Nat) : Int)) } ∧ Kept (mown b B m.o) w w' := by
  have HM := hid h
  have HP := hid (show (inR m.o (k : Int) && inR m.n (i : Int)) = true by rw [inR_yes hk, inR_yes hi]; rfl)
  obtain ⟨q, hq, cp⟩ := h.cp k hk
  obtain ⟨cq, c2⟩ := h.c2 hq
  have FL := hid (fun w' (kk : Kept none' w w') => flip_any (B.S k) (B.C k) _ (m.wd k) ((i / 2 ^ (k + 1) : Nat) : Int) w' ((h.set k hk).kept kk (fun x => x) (fun x => x)))
  have hk8 : k < 8 := by have := h.o8; omega
  have hi10 : i < 1024 := by have := h.n1; omega
  have hki : (k : Int) < (m.o : Int) := by omega
  have hsh := shr_run i k hk8
  have HK := hid hk
  have HI := hid hi
  clear h hq hk hi
  go_enter Try.func61, Try.ntmps61
  go_wp2_with fail
  refine (hasPair_any b B m k i _ HM.out).mono ?_
  rintro e w1 ⟨rfl, rfl⟩
  rw [HP.out]
  go_wp2_with fail
  go_region_with ((go_at_call 87; refine (FL.out _ (Kept.refl none' w1).drew).mono ?_; rintro e w2 ⟨rfl, hS, hK, hsz⟩))
  all_goals
    have M2 := hid ((HM.out.keep (Kept.refl none' _).drew).words k HK.out hK hS)
    have K2 := hid (show Kept (mown b B m.o) w1 w2 from (Kept.refl none' w1).drew.trans hK (fun _ _ x => x.elim) (fun x _ e => .inr (.inr (.inr ⟨k, HK.out, .inr e⟩))))
    clear hS hK hsz
    have PI := hid (Pair_in b B _ k i w2 M2.out HK.out HI.out)
    go_wp2_with fail
    refine PI.out.mono ?_
    rintro e w3 ⟨rfl, hK3⟩
    have M3 := hid (M2.out.keep hK3)
    have K3 := hid (K2.out.trans (U := mown b B m.o) hK3 (fun _ _ x => x) (fun _ _ x => x.elim))
    clear hK3
    go_wp2_with fail
    exact ⟨rfl, _, by simp [results, Try.results61, go_sem, upw], rfl, M3.out, K3.out⟩
end Go.Proofs.Ythglogiglimebaa
