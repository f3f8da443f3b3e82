import Derived.Test.YtocpnddacdpnmaaGreatDoorSlR
/- Package slab: fresh. -/
namespace Go.Proofs.YtocpnddacdpnmaaGreatDoor
open Go.RowKit
set_option linter.unusedVariables false

theorem hdI_range {n : Nat} (h : 0 < n) : hdI (List.range' 0 n) = 0 := by
  obtain ⟨m, rfl⟩ : ∃ m, n = m + 1 := ⟨n - 1, by omega⟩
  rfl
/-- A page becomes a fresh slab page. -/
theorem SO.fresh {w W W' sb lw x t fr ls S h} (o : SO w W sb lw x t fr ls S h) {p k : Nat} (hk : k < 8) (hls : (p, 0) ∈ ls) (hc : S.c p = none)
    (sw : SW w W' sb lw x ⟨chA t.f (ad x p) (4096 * p) (szC k) (ncl k), freM t.m h p k, t.hd⟩ (uphI h k (p : Int))) :
    SO w W' sb lw { x with P := pOf (freS S p k) (freM t.m h p k) } ⟨chA t.f (ad x p) (4096 * p) (szC k) (ncl k), freM t.m h p k, t.hd⟩ fr ls (freS S p k) (uphI h k (p : Int)) := by
  have hnb := ncl_b hk
  have hz := szC_le hk
  have hpn : p < t.m.n := by
    have := (o.sf.sn.al hls).2.2
    omega
  have n4 := o.po.nums.2.2.2.1
  have hst := o.st
  have hpb : x.base + 4096 * p + 4096 ≤ 9223372036854775808 := by
    have h5 : (p + 1) * 4096 ≤ t.m.n * 4096 := Nat.mul_le_mul_right _ hpn
    omega
  have hpl : p ∉ S.pl k := fun e => by
    rw [((o.si.pm k hk p).1 e).1] at hc
    cases hc
  have hln := o.si.pn k hk
  have eM := freM_pg (m := t.m) (h := h) hpn hk (o.hd k hk) (fun r hr => by
    have hcr := ((o.si.pm k hk r).1 hr).1
    have sr := (o.si.pg r k hcr).2
    refine ⟨(o.mem hcr).2.1, sr.kd, ?_⟩
    rw [sr.nx]
    rcases nxI_cases (S.pl k) r hln with e | ⟨b, e, hb, _⟩
    · rw [e]; exact lnk_no _
    · rw [e]; exact lnk_yes (o.mem ((o.si.pm k hk b).1 hb).1).2.1) hpl
  rw [eM] at sw ⊢
  generalize hpgF : putP (upp t.m.pg p { slabP (k : Int) with fs := 0 }) (S.pl k) p = pgF at *
  have hne : ∀ a, a ≠ p → (freS S p k).c a = S.c a ∧ (freS S p k).fl a = S.fl a := fun a ha => ⟨updF_ne _ _ ha, updF_ne _ _ ha⟩
  have hcp : (freS S p k).c p = some k := updF_self _ _ _
  have hfp : (freS S p k).fl p = List.range' 0 (ncl k) := updF_self _ _ _
  have hup : ∀ a, a ≠ p → upp t.m.pg p { slabP (k : Int) with fs := 0 } a = t.m.pg a := fun a ha => if_neg ha
  have huq : upp t.m.pg p { slabP (k : Int) with fs := 0 } p = { slabP (k : Int) with fs := 0 } := if_pos rfl
  have F0 : ∀ a, S.c a = none → a ≠ p → pgF a = t.m.pg a := fun a ha hap => by
    have hal : a ∉ S.pl k := fun e => by
      rw [((o.si.pm k hk a).1 e).1] at ha
      cases ha
    rw [← hpgF, putP_out hap hal]
    exact hup a hap
  have Q0 : SlQ (freS S p k) p k { slabP (k : Int) with fs := 0 } := by
    refine ⟨rfl, rfl, rfl, ?_, ?_, fun i hi => ?_⟩
    · rw [hfp, List.length_range', Nat.sub_self]; rfl
    · rw [hfp, hdI_range (by omega)]
    · rw [lit_zero rfl rfl rfl rfl, hfp]
      symm
      refine decide_eq_false fun e => e.2 (List.mem_range'_1.2 ⟨Nat.zero_le _, by omega⟩)
  have NP0 : NP (upp t.m.pg p { slabP (k : Int) with fs := 0 }) (freS S p k) k (S.pl k) := fun a ha => by
    by_cases e : a = p
    · subst e
      rw [huq, nxI_out hpl, pvI_out hpl]
      exact ⟨rfl, rfl⟩
    · rw [(hne a e).1] at ha
      rw [hup a e]
      exact ⟨(o.si.pg a k ha).2.nx, (o.si.pg a k ha).2.pv⟩
  have NP1 := put_np NP0 hln hpl
  have F2 : ∀ a c, (freS S p k).c a = some c → c < 8 ∧ SlP (freS S p k) a c (pgF a) := fun a c ha => by
    have hq : SlQ (freS S p k) a c (upp t.m.pg p { slabP (k : Int) with fs := 0 } a) ∧ c < 8 := by
      by_cases e : a = p
      · subst e
        rw [hcp] at ha
        cases ha
        rw [huq]
        exact ⟨Q0, hk⟩
      · rw [(hne a e).1] at ha
        rw [hup a e]
        exact ⟨(o.si.pg a c ha).2.q.congr (hne a e).2, (o.si.pg a c ha).1⟩
    refine ⟨hq.2, (hq.1.rst (by rw [← hpgF]; exact putP_rst _ _ _ _)).p ?_ ?_⟩
    · show (pgF a).nx = nxI (updF S.pl k (p :: S.pl k) c) a
      by_cases e : c = k
      · subst e
        rw [updF_self, ← hpgF]
        exact (NP1 a ha).1
      · have hap : a ≠ p := fun e2 => by rw [e2, hcp] at ha; cases ha; exact e rfl
        rw [updF_ne _ _ e]
        rw [(hne a hap).1] at ha
        have hal : a ∉ S.pl k := fun e2 => by rw [((o.si.pm k hk a).1 e2).1] at ha; cases ha; exact e rfl
        rw [← hpgF, putP_out hap hal, hup a hap]
        exact (o.si.pg a c ha).2.nx
    · show (pgF a).pv = pvI (updF S.pl k (p :: S.pl k) c) a
      by_cases e : c = k
      · subst e
        rw [updF_self, ← hpgF]
        exact (NP1 a ha).2
      · have hap : a ≠ p := fun e2 => by rw [e2, hcp] at ha; cases ha; exact e rfl
        rw [updF_ne _ _ e]
        rw [(hne a hap).1] at ha
        have hal : a ∉ S.pl k := fun e2 => by rw [((o.si.pm k hk a).1 e2).1] at ha; cases ha; exact e rfl
        rw [← hpgF, putP_out hap hal, hup a hap]
        exact (o.si.pg a c ha).2.pv
  have sf1 := o.sf.fill (p := p) (k := 0) hls (f' := chA t.f (ad x p) (4096 * p) (szC k) (ncl k)) (fun j hj => chA_out t.f x p k hk j (by omega))
  refine ⟨sw.reP _, sf1.repaint S (freS S p k) o.si.eP { t.m with pg := pgF } rfl rfl rfl (fun a ha => ?_) (fun a c ha => ⟨(F2 a c ha).2.kd, ?_⟩), o.st, o.bm, ⟨rfl, F2, fun a c ha => ?_, fun a c ha => ?_, fun c hc8 => ?_, fun c hc8 a => ?_⟩, fun c hc8 => ?_⟩
  · have hap : a ≠ p := fun e => by rw [e, hcp] at ha; cases ha
    rw [(hne a hap).1] at ha
    rw [if_pos ha]
    exact F0 a ha hap
  · by_cases e : a = p
    · rw [e]; exact hls
    · rw [(hne a e).1] at ha
      exact (o.mem ha).1
  · by_cases e : a = p
    · subst e
      rw [hcp] at ha
      cases ha
      rw [hfp]
      refine ⟨List.nodup_range', fun i hi => ?_, Lnk_reP (range_lnk x t.f a k hk hpb (ncl k) 0 (by omega))⟩
      have := (List.mem_range'_1.1 hi).2
      omega
    · rw [(hne a e).1] at ha
      rw [(hne a e).2]
      obtain ⟨n1, n2, n3⟩ := o.si.fl a c ha
      have hc8 := (o.si.pg a c ha).1
      have hnb2 := ncl_b hc8
      have hz2 := szC_le hc8
      refine ⟨n1, n2, Lnk_reP (Lnk_move rfl (fun i hi => word_congr fun j hj => ?_) n3)⟩
      have hib := n2 i hi
      have h2 : (i + 1) * szC c ≤ ncl c * szC c := Nat.mul_le_mul_right _ hib
      rw [Nat.add_mul, Nat.one_mul, hnb2.1] at h2
      exact chA_out t.f x p k hk _ (by omega)
  · by_cases e : a = p
    · subst e
      rw [hcp] at ha
      cases ha
      rw [hfp, List.length_range']
      exact Nat.le_refl _
    · rw [(hne a e).1] at ha
      rw [(hne a e).2]
      exact o.si.lv a c ha
  · show (updF S.pl k (p :: S.pl k) c).Nodup
    by_cases e : c = k
    · subst e
      rw [updF_self]
      exact List.nodup_cons.2 ⟨hpl, hln⟩
    · rw [updF_ne _ _ e]
      exact o.si.pn c hc8
  · show a ∈ updF S.pl k (p :: S.pl k) c ↔ ((freS S p k).c a = some c ∧ (freS S p k).fl a ≠ [])
    have hpm := o.si.pm c hc8 a
    by_cases ea : a = p
    · subst ea
      rw [hcp, hfp]
      have hrn : List.range' 0 (ncl k) ≠ [] := by
        intro e
        have := congrArg List.length e
        rw [List.length_range', List.length_nil] at this
        omega
      by_cases e : c = k
      · subst e
        rw [updF_self]
        exact ⟨fun _ => ⟨rfl, hrn⟩, fun _ => List.mem_cons_self⟩
      · rw [updF_ne _ _ e, hpm, hc]
        constructor
        · rintro ⟨e2, _⟩; cases e2
        · rintro ⟨e2, _⟩; cases e2; exact absurd rfl e
    · rw [(hne a ea).1, (hne a ea).2]
      by_cases e : c = k
      · subst e
        rw [updF_self, List.mem_cons, hpm]
        exact ⟨fun h => h.resolve_left ea, fun h => .inr h⟩
      · rw [updF_ne _ _ e]
        exact hpm
  · show uphI h k (p : Int) c = hdI (updF S.pl k (p :: S.pl k) c)
    by_cases e : c = k
    · subst e
      rw [updF_self]
      exact if_pos rfl
    · rw [updF_ne _ _ e]
      exact (if_neg e).trans (o.hd c hc8)
end Go.Proofs.YtocpnddacdpnmaaGreatDoor
