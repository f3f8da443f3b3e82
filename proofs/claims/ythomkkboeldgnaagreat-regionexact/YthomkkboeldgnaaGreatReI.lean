import Derived.Test.YthomkkboeldgnaaGreatReH
import Derived.Test.YthomkkboeldgnaaGreatRgL
import Derived.Test.YthomkkboeldgnaaGreatRxR
/- RegionExact: the state of its loop, and what the pool's calls do to it. -/
namespace Go.Proofs.YthomkkboeldgnaaGreat
open Go.RowKit
set_option linter.unusedVariables false

/-- The loop's state: the pool has the live blocks l1, the book tells ls (the same, but behind Need and Give). -/
structure EX (w W : World) (lw l o rg : Nat) (v : Value) (x : Bx) (t : Bt) (fr : Nat → List Nat) (l1 ls : List (Nat × Nat)) (dl : List Value) : Prop where
  po : PO w W lw x t fr l1
  sb : SB w W 1048576 v ls dl
  da : Dat w t.f ls dl
  nd : Ndp l1
  nn : t.m.n = rg * 2 ^ o
  eb : x.base = 1048576
  el : x.lim = l
  eo : x.o = o
theorem EX.keep {w W W' lw l o rg v x t fr l1 ls dl} (h : EX w W lw l o rg v x t fr l1 ls dl) (k : Kept none' W W') : EX w W' lw l o rg v x t fr l1 ls dl := ⟨h.po.keep k, h.sb.keep k, h.da, h.nd, h.nn, h.eb, h.el, h.eo⟩
/-- The book is written: the pool stays. -/
theorem PO.book {w W W' lw x t fr l1 b v ls dl} (h : PO w W lw x t fr l1) (s : SB w W b v ls dl) (k : Kept (fun y => v.ownBlock = some y) W W') : PO w W' lw x t fr l1 := by
  have := (show PE (fun y => v.ownBlock = some y) w W lw x t fr l1 from ⟨h, fun y e => by
    obtain ⟨cs, hc⟩ := own_ty s.gs.own e
    exact ⟨heap_lt hc, h.pl.sty hc⟩⟩).set k (fun y e => e) (fun y e => s.nw y e)
  exact this.po
/-- The numbers. -/
theorem EX.nums {w W lw l o rg v x t fr l1 ls dl} (h : EX w W lw l o rg v x t fr l1 ls dl) : rg ≤ l ∧ x.n = rg * (4096 * 2 ^ o) ∧ l * 2 ^ o ≤ 1024 ∧ x.R = 4096 * 2 ^ o := by
  obtain ⟨n1, n2, n3, n4, ⟨r, e1, e2, e3⟩, n6, n7⟩ := h.po.nums
  have hR := h.po.pl.bd.hR
  rw [h.eo] at e1 n7 hR
  rw [h.el] at e2 n7
  have e : r = rg := by
    have := h.nn
    rw [e1] at this
    exact Nat.eq_of_mul_eq_mul_right (Nat.two_pow_pos o) this
  subst e
  exact ⟨e2, by rw [e3, hR], n7, hR⟩
theorem EX.al {w W lw l o rg v x t fr l1 ls dl} (h : EX w W lw l o rg v x t fr l1 ls dl) : ∀ p k, (p, k) ∈ l1 → k ≤ o ∧ p % 2 ^ k = 0 ∧ p + 2 ^ k ≤ rg * 2 ^ o := fun p k hm => by
  obtain ⟨a, b, c⟩ := h.po.sf.sn.al hm
  rw [h.eo] at a
  rw [h.nn] at c
  exact ⟨a, b, c⟩
theorem EX.short {w W lw l o rg v x t fr l1 ls dl} (h : EX w W lw l o rg v x t fr l1 ls dl) : l1.length ≤ 1024 := by
  have hn := h.po.nums.2.1
  have h1 : (l1.map (·.1)).Nodup := by
    rw [List.Nodup, List.pairwise_map, List.pairwise_iff_getElem]
    intro i j hi hj hij e
    have := h.nd i j hi hj e
    omega
  have h2 := M.nodup_len 1024 (l1.map (·.1)) h1 (fun p hp => by
    obtain ⟨⟨p', k⟩, hm, rfl⟩ := List.mem_map.1 hp
    have := (h.po.sf.sn.al hm).2.2
    have := Nat.two_pow_pos k
    show p' < 1024
    omega)
  rw [List.length_map] at h2
  exact h2
/-- What Need did. -/
inductive NE (w W : World) (lw l o rg : Nat) (v : Value) (x : Bx) (t : Bt) (fr : Nat → List Nat) (ls : List (Nat × Nat)) (dl : List Value) (i : Nat) (d : Bool) (e : Ending) (w' : World) : Prop where
  | stuck (hf : fullT ls i (rg * 2 ^ (o - i)) = true) (hd : d = true ∨ rg = l) (he : e = .returned (.tuple #[.int .u64 0, .bool false, .int .i64 2])) (kp : Kept none' W w')
  | here (p : Nat) (hf : fullT ls i (rg * 2 ^ (o - i)) = false) (he : e = .returned (.tuple #[.int .u64 ((1048576 + 4096 * p : Nat) : Int), .bool false, .int .i64 0])) (ha : p % 2 ^ i = 0) (hb : p + 2 ^ i ≤ rg * 2 ^ o) (hm : mtL ls p i = false) (hs : ∃ t' fr', EX w w' lw l o rg v x t' fr' (ls ++ [(p, i)]) ls dl) (kp : Kept (bown x) W w')
  | grew (hf : fullT ls i (rg * 2 ^ (o - i)) = true) (hd : d = false) (hl : rg < l) (he : e = .returned (.tuple #[.int .u64 ((1048576 + 4096 * (rg * 2 ^ o) : Nat) : Int), .bool true, .int .i64 0])) (hm : mtL ls (rg * 2 ^ o) i = false) (hs : ∃ x' t' fr', EX w w' lw l o (rg + 1) v x' t' fr' (ls ++ [(rg * 2 ^ o, i)]) ls dl ∧ Sm x x') (kp : Kept (bown x) W w')
theorem need_ex {w W lw l o rg v x t fr ls dl} (h : EX w W lw l o rg v x t fr ls ls dl) (i : Nat) (hi : i ≤ o) (d : Bool) :
    Calls Tryz.prog 7 #[.pointer (some ⟨lw, 0, none⟩), .int .i64 (i : Int), .bool d] W fun e w' => NE w W lw l o rg v x t fr ls dl i d e w' := by
  refine (K.Need_any h.po (i : Int) d).mono fun e w' hN => ?_
  obtain ⟨n1, n2, n3, n4⟩ := h.nums
  have hpw : rg * 2 ^ o = rg * 2 ^ (o - i) * 2 ^ i := by rw [Nat.mul_assoc, ← Nat.pow_add, show o - i + i = o by omega]
  have hF := h.po.sf.full_iff (j := i) (m := rg * 2 ^ (o - i)) (by rw [h.eo]; exact hi) (by rw [h.nn, hpw])
  cases hN with
  | bad hk he kp =>
    exfalso
    have := h.eo
    simp [inR] at hk
    omega
  | stuck i' hk hi' hz hd he kp =>
    have e1 : i' = i := by omega
    subst e1
    refine .stuck (hF.2 hz) ?_ he kp
    rcases hd with hd | hd
    · exact .inl hd
    · refine .inr ?_
      rw [n2, h.el, n4] at hd
      exact Nat.eq_of_mul_eq_mul_right (by have := Nat.two_pow_pos o; omega) hd
  | here i' j p l' hk hi' hij hj hz hp he hs kp =>
    have e1 : i' = i := by omega
    subst e1
    obtain ⟨t', hpo, hn', hbk⟩ := hs
    have al := hpo.sf.sn.al (p := p) (k := i') (List.mem_append_right _ (List.mem_singleton.2 rfl))
    have hb : p + 2 ^ i' ≤ rg * 2 ^ o := by rw [← h.nn, ← hn']; exact al.2.2
    have hm : mtL ls p i' = false := (h.po.sf.free_iff hi' al.2.1 (by rw [h.nn]; exact hb)).2 ⟨p, j, hj, by rw [hp]; exact List.mem_cons_self, Nat.le_refl _, Nat.add_le_add_left (Nat.pow_le_pow_right (by decide) hij) _⟩
    refine .here p ?_ (by rw [he]; unfold ad; rw [h.eb]) al.2.1 hb hm ⟨t', _, hpo, h.sb.pool h.po kp (h.po.k0 kp), h.da.kept hbk (fun r hr => List.mem_append_left _ hr), h.nd.add _ fun q hq e => ?_, by rw [hn', h.nn], h.eb, h.el, h.eo⟩ kp
    · rw [Bool.eq_false_iff]
      intro hf
      have := hF.1 hf j hij hj
      rw [hp] at this
      cases this
    · have : mtL ls p i' = true := mtL_iff.2 ⟨q.1, q.2, hq, by rw [e]; have := Nat.two_pow_pos q.2; show p < p + 2 ^ q.2; omega, by rw [e]; have := Nat.two_pow_pos i'; show p < p + 2 ^ i'; omega⟩
      rw [hm] at this
      cases this
  | grew i' hk hi' hz hd hl he hs kp =>
    have e1 : i' = i := by omega
    subst e1
    obtain ⟨x', t', hpo, hsm, hxn, hn', hnb, hbk⟩ := hs
    have hlt : rg < l := by
      rw [n2, h.el, n4] at hl
      have h0 : 0 < 4096 * 2 ^ o := by have := Nat.two_pow_pos o; omega
      have : (rg + 1) * (4096 * 2 ^ o) ≤ l * (4096 * 2 ^ o) := by rw [Nat.add_mul, Nat.one_mul]; exact hl
      exact Nat.le_of_mul_le_mul_right this h0
    have hm : mtL ls (rg * 2 ^ o) i' = false := by
      rw [Bool.eq_false_iff]
      intro hf
      obtain ⟨p, k, h1, h2, h3⟩ := mtL_iff.1 hf
      have := (h.al p k h1).2.2
      omega
    rw [h.nn] at hpo
    rw [h.nn] at hbk
    refine .grew (hF.2 hz) hd hlt (by rw [he]; unfold ad; rw [h.eb, h.nn]) hm ⟨x', t', _, ⟨hpo, h.sb.pool h.po kp (h.po.k0 kp), h.da.kept hbk (fun r hr => List.mem_append_left _ hr), h.nd.add _ fun q hq e => ?_, ?_, by rw [hsm.base, h.eb], by rw [hsm.lim, h.el], by rw [hsm.o, h.eo]⟩, hsm⟩ kp
    · have := (h.al q.1 q.2 hq).2.2
      have h0 := Nat.two_pow_pos q.2
      have e : q.1 = rg * 2 ^ o := e
      omega
    · rw [hn', h.nn, h.eo, Nat.add_mul, Nat.one_mul]
/-- What Trim did. -/
theorem trim_ex {w W lw l o rg v x t fr ls dl} (h : EX w W lw l o rg v x t fr ls ls dl) :
    Calls Tryz.prog 12 #[.pointer (some ⟨lw, 0, none⟩)] W fun e w' => e = .returned (.int .i64 ((rg - leftL ls o rg : Nat) : Int)) ∧ (∃ x' t' fr', EX w w' lw l o (leftL ls o rg) v x' t' fr' ls ls dl ∧ Sm x x') ∧ Kept (bown x) W w' := by
  have hr : t.m.n = rg * 2 ^ x.o := by rw [h.nn, h.eo]
  refine (K.Trim_any h.po rg hr).mono fun e w' ⟨he, x', t', hpo, hsm, hn', kp, hnb, hbk⟩ => ?_
  have hT := trF_left ls x.o rg fr (h.po.sf.tops hr)
  rw [h.eo] at hT he hn'
  have hle := leftL_le ls o rg
  refine ⟨by rw [he]; congr 3; omega, ⟨x', t', _, ⟨hpo, h.sb.pool h.po kp (h.po.k0 kp), h.da.kept hbk (fun r hr => hr), h.nd, ?_, by rw [hsm.base, h.eb], by rw [hsm.lim, h.el], by rw [hsm.o, h.eo]⟩, hsm⟩, kp⟩
  rw [hn']
  congr 1
  omega
/-- A live block is given back. -/
theorem give_ex {w W lw l o rg v x t fr ls dl} (h : EX w W lw l o rg v x t fr ls ls dl) (i : Nat) (hi : i < ls.length) (a : Nat) (ha : a = 1048576 + 4096 * ls[i].1) :
    Calls Tryz.prog 16 #[.pointer (some ⟨lw, 0, none⟩), .int .u64 (a : Int), .int .i64 (ls[i].2 : Int)] W fun e w' => e = .returned (.int .i64 0) ∧ (∃ t' fr', PO w w' lw x t' fr' (ls.eraseIdx i) ∧ t'.m.n = t.m.n ∧ Dat w t'.f (ls.eraseIdx i) (dl.eraseIdx i)) ∧ SB w w' 1048576 v ls dl ∧ Kept (bown x) W w' := by
  refine (K.Give6_yes h.po ls[i].1 ls[i].2 (List.getElem_mem hi) a (by rw [ha]; unfold ad; rw [h.eb])).mono fun e w' ⟨he, t', hpo, hn', kp, hbk⟩ => ?_
  have hd := Ndp.drop ls h.nd i hi
  rw [hd] at hpo hbk
  exact ⟨he, ⟨t', _, hpo, hn', h.da.drop i hi hbk rfl⟩, h.sb.pool h.po kp (h.po.k0 kp), kp⟩
end Go.Proofs.YthomkkboeldgnaaGreat
