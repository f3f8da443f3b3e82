import Derived.Test.YtocpnddacdpnmaaGreatDoorNa
import Derived.Test.YtocpnddacdpnmaaGreatDoorNl
import Derived.Deep.RegionHeld3
/- A request, held against the book. -/
namespace Go.Proofs.YtocpnddacdpnmaaGreatDoor
open Go.RowKit
set_option linter.unusedVariables false

section
variable {w W : World} {wb sb lw : Nat} {x : Bx} {t : Bt} {fr : Nat → List Nat} {ls : List (Nat × Nat)} {S : Sb} {h : Nat → Int} {R : Nat → Bk} {n : Nat}
theorem LW7.nofit_pages (L : LW7 w W wb lw sb x t fr ls S R n) {j m : Nat} (hj : j ≤ x.o) (hm : t.m.n = m * 2 ^ j) : alB R n x.base (4096 * 2 ^ j) m = true ↔ ∀ a, j ≤ a → a ≤ x.o → fr a = [] := by
  obtain ⟨h, o⟩ := L.so
  rw [L.bi.al o L.lv]
  exact o.sf.full_iff hj hm
theorem LW7.nofit_cell (L : LW7 w W wb lw sb x t fr ls S R n) {k : Nat} (hk : k < 8) : (alB R n x.base 4096 t.m.n && pgB R n x.base (szC k) t.m.n) = true ↔ (∀ a, a ≤ x.o → fr a = []) ∧ S.pl k = [] := by
  obtain ⟨h, o⟩ := L.so
  rw [Bool.and_eq_true, L.bi.pg o L.lv hk]
  have := L.nofit_pages (j := 0) (m := t.m.n) (Nat.zero_le _) (by rw [Nat.pow_zero, Nat.mul_one])
  rw [Nat.pow_zero, Nat.mul_one] at this
  rw [this]
  constructor
  · rintro ⟨h1, h2⟩
    exact ⟨fun a ha => h1 a (Nat.zero_le _) ha, h2⟩
  · rintro ⟨h1, h2⟩
    exact ⟨fun a _ ha => h1 a ha, h2⟩
theorem LW7.rg (L : LW7 w W wb lw sb x t fr ls S R n) : ∃ rg, t.m.n = rg * 2 ^ x.o ∧ rg ≤ x.lim ∧ x.n = rg * x.R ∧ 0 < x.R := by
  obtain ⟨r, h1, h2, h3⟩ := L.po.nums.2.2.2.2.1
  have h4 := L.po.pl.bd.sp.cfg.r1
  exact ⟨r, h1, h2, h3, by omega⟩
/-- The answer's parts. -/
abbrev rqE (p : Nat) (g : Bool) (er : Int) : Ending := .returned (.tuple #[.int .u64 (p : Int), .bool g, .int .i64 er])
/-- What a request of r bytes answers, and leaves. -/
inductive Rq (w W : World) (wb lw sb : Nat) (x : Bx) (t : Bt) (ls : List (Nat × Nat)) (S : Sb) (R : Nat → Bk) (n r : Nat) (nn d : Bool) (rg p : Nat) (g : Bool) (er : Int) (w' : World) : Prop where
  | no (hp0 : p = 0) (hg0 : g = false) (he : er = 2) (hn : nn = true) (hd : d = true ∨ rg = x.lim) (kp : Kept none' W w')
  | yes (x' : Bx) (t' : Bt) (fr' : Nat → List Nat) (ls' : List (Nat × Nat)) (S' : Sb) (hg : g = nn) (he : er = 0) (hst : nn = true → d = false ∧ rg ≠ x.lim) (so : ∃ h', SO w w' sb lw x' t' fr' ls' S' h') (lv : Lve S') (ch : Ch x t ls S x' t' ls' S') (kp : Kept (sown x sb) W w') (ns : ∀ y, sown x' sb y → sown x sb y ∨ W.heap.size ≤ y) (hL : ∀ a s, Lth x' ls' S' a s ↔ Lth x ls S a s ∨ (a = p ∧ s = r)) (hN : ∀ s, ¬ Lth x ls S p s) (hrg : t'.m.n = (if nn = true then rg + 1 else rg) * 2 ^ x'.o) (hp : p % r = 0) (hsm : r < 4096 → mtB R (p - p % 4096) 4096 n = true → cnB R (p - p % 4096) r n * r ≠ 0)
theorem pow_cell {k : Nat} (hk : k < 8) : ∃ c, 4096 = c * szC k := by
  have := (ncl_b hk).1
  exact ⟨_, this.symm⟩
theorem mod_cell {b k i p : Nat} (hk : k < 8) (hb : b % 4096 = 0) : (b + 4096 * p + i * szC k) % szC k = 0 := by
  obtain ⟨c, hc⟩ := pow_cell hk
  have h1 : b = b / 4096 * (c * szC k) := by rw [← hc]; omega
  rw [h1, show 4096 * p = p * (c * szC k) by rw [← hc]; omega, ← Nat.mul_assoc, ← Nat.mul_assoc, ← Nat.add_mul, ← Nat.add_mul]
  exact Nat.mul_mod_left _ _
theorem down_cell (o : SO w W sb lw x t fr ls S h) {p k i : Nat} (hk : k < 8) (hi : i < ncl k) (hb : x.base + 4096 * p + 4096 ≤ 9223372036854775808) : caN x p k i - caN x p k i % 4096 = ad x p := by
  have hc := off_cell (x := x) (p := p) hk hi hb
  have hm := o.bm
  have hz := szC_le hk
  unfold caN ad
  omega
theorem bown_P (x : Bx) (P : Nat → Option Pg) (sb y : Nat) (e : sown { x with P := P } sb y) : sown x sb y := e
theorem LW7.take (L : LW7 w W wb lw sb x t fr ls S R n) {k : Nat} (hk : k < 8) (d : Bool) {rg : Nat} (hrg : t.m.n = rg * 2 ^ x.o) (hxn : x.n = rg * x.R) (hR0 : 0 < x.R) :
    Calls Tryz.prog 9 #[.pointer (some ⟨sb, 0, none⟩), .int .i64 (k : Int), .bool d] W fun e w' => ∃ p g er, e = rqE p g er ∧ Rq w W wb lw sb x t ls S R n (szC k) (alB R n x.base 4096 t.m.n && pgB R n x.base (szC k) t.m.n) d rg p g er w' := by
  obtain ⟨h, o⟩ := L.so
  have nf := L.nofit_cell hk
  generalize (alB R n x.base 4096 t.m.n && pgB R n x.base (szC k) t.m.n) = nn at *
  have hz := szC_le hk
  have hnb := ncl_b hk
  refine (Take_any o (k : Int) d).mono fun e w' hT => ?_
  cases hT with
  | bad hc => exact absurd ⟨by omega, by omega⟩ hc
  | stuck k2 hk2 hc hl hz2 hd he kp =>
    obtain rfl : k = k2 := by omega
    refine ⟨0, false, 2, he, .no rfl rfl rfl (nf.2 ⟨hz2, hl⟩) (hd.imp id fun e => ?_) kp⟩
    rw [hxn] at e
    exact Nat.eq_of_mul_eq_mul_right hR0 e
  | old k2 p i l r hk2 hc hl hf he so kp =>
    obtain rfl : k = k2 := by omega
    obtain ⟨P, m', h', so', hn⟩ := so
    have hcp := ((o.si.pm k hk p).1 (by rw [hl]; exact List.mem_cons_self)).1
    have hib := (o.si.fl p k hcp).2.1 i (by rw [hf]; exact List.mem_cons_self)
    have hnn : nn = false := by
      cases nn with
      | false => rfl
      | true =>
        have := (nf.1 rfl).2
        rw [hl] at this
        cases this
    subst hnn
    have hm := o.mem hcp
    have n4 := o.po.nums.2.2.2.1
    have hL : ∀ a s, Lth { x with P := P } ls (takS S p k r) a s ↔ Lth x ls S a s ∨ (a = caN x p k i ∧ s = szC k) := fun a s => by
      rw [Lth_base (x := x) (x' := { x with P := P }) rfl]
      exact Lth_old o hcp hf a s
    refine ⟨caN x p k i, false, 0, he, .yes _ _ _ _ _ rfl rfl (fun e => by cases e) ⟨h', so'⟩ (Lve.old o L.lv hk hl hf) ⟨rfl, rfl, rfl, rfl, fun j _ _ => rfl⟩ kp (fun y e => .inl e) hL (o.free_no hcp (by rw [hf]; exact List.mem_cons_self)) ?_ (mod_cell hk o.bm) (fun _ _ => ?_)⟩
    · show m'.n = _
      rw [if_neg (by decide), hn]
      exact hrg
    · rw [down_cell o hk hib (by omega), L.bi.count o hk, if_pos hcp]
      have := L.lv p k hcp
      have h2 : 0 < (ncl k - (S.fl p).length) * szC k := Nat.mul_pos (by omega) (by omega)
      omega
  | new k2 p b hk2 hc hl he so hcp nl kp =>
    obtain rfl : k = k2 := by omega
    obtain ⟨x', t', fr', h', hN, so', sm, hfb, nb, htn, hxn'⟩ := so
    have hL : ∀ a s, Lth x' (ls ++ [(p, 0)]) (takS (freS S p k) p k (List.range' 1 (ncl k - 1))) a s ↔ Lth x ls S a s ∨ (a = caN x p k 0 ∧ s = szC k) := fun a s => by
      rw [Lth_base (x := x) (x' := x') sm.base]
      exact Lth_new hk hcp nl a s
    have hno : ∀ s, ¬ Lth x ls S (caN x p k 0) s := fun s e => by
      have e2 := (hL _ _).2 (.inl e)
      have h0 : 0 < s := (o.span e).1
      obtain ⟨_, q, j, q1, q2, q3⟩ := o.span e
      have hz2 : 0 < 2 ^ j := Nat.pow_pos (by decide)
      unfold caN at q2 q3
      unfold ad at q2 q3
      rcases so'.apart (List.mem_append_left _ q1) (List.mem_append_right ls (List.mem_singleton.2 rfl)) with ⟨e3, e4⟩ | e3 | e3
      · subst e3
        exact nl _ q1
      · omega
      · rw [Nat.pow_zero] at e3
        omega
    have hfar : mtB R (ad x p) 4096 n = false := L.bi.mt_no fun a s hl2 => by
      obtain ⟨_, q, j, q1, q2, q3⟩ := o.span hl2
      unfold ad at q2 q3 ⊢
      rcases so'.apart (List.mem_append_left _ q1) (List.mem_append_right ls (List.mem_singleton.2 rfl)) with ⟨e3, e4⟩ | e3 | e3
      · subst e3
        exact absurd q1 (nl _)
      · omega
      · rw [Nat.pow_zero] at e3
        omega
    have hpe : caN x p k 0 - caN x p k 0 % 4096 = ad x p := by
      have := o.bm
      unfold caN ad
      omega
    have hch : Ch x t ls S x' t' (ls ++ [(p, 0)]) (takS (freS S p k) p k (List.range' 1 (ncl k - 1))) := ⟨sm.base, sm.R, sm.lim, sm.o, fun j h1 _ => hfb j (o.byte h1)⟩
    have hsn : ∀ y, sown x' sb y → sown x sb y ∨ W.heap.size ≤ y := fun y e => e.elim (fun e => (nb y e).imp (fun e => .inl e) id) (fun e => .inl (.inr e))
    have hso : x'.o = x.o := sm.o
    have hnb2 : b = nn ∧ (nn = true → d = false ∧ rg ≠ x.lim) := by
      cases hN with
      | here j l2 hj hz2 hp hb =>
        have hnn : nn = false := by
          cases nn with
          | false => rfl
          | true =>
            have := (nf.1 rfl).1 j hj
            rw [hp] at this
            cases this
        exact ⟨hb.trans hnn.symm, fun e => by rw [hnn] at e; cases e⟩
      | grew hz2 hd hle hb hp =>
        have hnn : nn = true := nf.2 ⟨hz2, hl⟩
        refine ⟨hb.trans hnn.symm, fun _ => ⟨hd, fun e => ?_⟩⟩
        rw [hxn, e] at hle
        omega
    obtain ⟨rfl, hst⟩ := hnb2
    refine ⟨caN x p k 0, b, 0, he, .yes _ _ _ _ _ rfl rfl hst ⟨h', so'⟩ (L.lv.new hk) hch kp hsn hL hno ?_ (mod_cell hk o.bm) (fun _ e => ?_)⟩
    · rw [htn, hso, hrg]
      cases b with
      | false => rw [if_neg (by decide), if_neg (by decide)]
      | true => rw [if_pos rfl, if_pos rfl, Nat.add_mul, Nat.one_mul]
    · rw [hpe, hfar] at e
      cases e
theorem LW7.need (L : LW7 w W wb lw sb x t fr ls S R n) {k m : Nat} (hk : k ≤ x.o) (hm : t.m.n = m * 2 ^ k) (d : Bool) {rg : Nat} (hrg : t.m.n = rg * 2 ^ x.o) (hxn : x.n = rg * x.R) (hR0 : 0 < x.R) :
    Calls Tryz.prog 19 #[.pointer (some ⟨lw, 0, none⟩), .int .i64 (k : Int), .bool d] W fun e w' => ∃ p g er, e = rqE p g er ∧ Rq w W wb lw sb x t ls S R n (4096 * 2 ^ k) (alB R n x.base (4096 * 2 ^ k) m) d rg p g er w' := by
  obtain ⟨h, o⟩ := L.so
  have nf := L.nofit_pages hk hm
  generalize alB R n x.base (4096 * 2 ^ k) m = nn at *
  have hz : 0 < 2 ^ k := Nat.pow_pos (by decide)
  have key : ∀ (p : Nat) (b : Bool) (x' : Bx) (t' : Bt) (fr' : Nat → List Nat) (e : Ending) (w' : World), e = .returned (.tuple #[.int .u64 ((ad x p : Nat) : Int), .bool b, .int .i64 0]) → PO w w' lw x' t' fr' (ls ++ [(p, k)]) → Sm x x' → BK t t' ls (ls ++ [(p, k)]) → Nb W x x' → Kept (bown x) W w' → S.c p = none → (∀ i, (p, i) ∉ ls) → t'.m.n = (if b = true then t.m.n + 2 ^ x.o else t.m.n) → b = nn → (nn = true → d = false ∧ rg ≠ x.lim) → ∃ p g er, e = rqE p g er ∧ Rq w W wb lw sb x t ls S R n (4096 * 2 ^ k) nn d rg p g er w' := by
    rintro p b x' t' fr' e w' he po' sm bk nb kp hcp nl htn rfl hst
    have o' := o.pool po' sm bk (fun a c ha => List.mem_append_left _ (o.mem ha).1) kp
    have hL : ∀ a s, Lth x' (ls ++ [(p, k)]) S a s ↔ Lth x ls S a s ∨ (a = ad x p ∧ s = 4096 * 2 ^ k) := fun a s => by
      rw [Lth_base (x := x) (x' := x') sm.base]
      exact Lth_need hcp a s
    have hal : p % 2 ^ k = 0 := (o'.al (List.mem_append_right ls (List.mem_singleton.2 rfl))).2.1
    have hno : ∀ s, ¬ Lth x ls S (ad x p) s := fun s e => by
      have h0 : 0 < s := (o.span e).1
      obtain ⟨_, q, j, q1, q2, q3⟩ := o.span e
      have hz2 : 0 < 2 ^ j := Nat.pow_pos (by decide)
      unfold ad at q2 q3
      rcases o'.apart (List.mem_append_left _ q1) (List.mem_append_right ls (List.mem_singleton.2 rfl)) with ⟨e3, e4⟩ | e3 | e3
      · subst e3
        exact nl _ q1
      · omega
      · omega
    refine ⟨ad x p, b, 0, he, .yes x' t' fr' _ S rfl rfl hst ⟨h, o'⟩ L.lv ⟨sm.base, sm.R, sm.lim, sm.o, fun j h1 h2 => bk j (o.byte h1) (o'.byte h2)⟩ (kp.mono (fun _ _ e => .inl e)) (fun y e => e.elim (fun e => (nb y e).imp (fun e => .inl e) id) (fun e => .inl (.inr e))) hL hno ?_ ?_ (fun e => by omega)⟩
    · rw [htn, sm.o, hrg]
      cases b with
      | false => rw [if_neg (by decide), if_neg (by decide)]
      | true => rw [if_pos rfl, if_pos rfl, Nat.add_mul, Nat.one_mul]
    · have hR := o.sw.pl.bd.hR
      have h1 : 4096 * 2 ^ k ∣ x.base := Nat.dvd_trans (by rw [hR]; exact Nat.mul_dvd_mul_left _ (Nat.pow_dvd_pow 2 hk)) (Nat.dvd_of_mod_eq_zero L.br)
      have h2 : 4096 * 2 ^ k ∣ 4096 * p := Nat.mul_dvd_mul_left _ (Nat.dvd_of_mod_eq_zero hal)
      exact Nat.mod_eq_zero_of_dvd (Nat.dvd_add h1 h2)
  refine (K.Need_any o.po (k : Int) d).mono fun e w' hN => ?_
  cases hN with
  | bad hb he kp =>
    exfalso
    rw [inR_in hk] at hb
    cases hb
  | stuck i hi hi2 hz2 hd he kp =>
    obtain rfl : k = i := by omega
    refine ⟨0, false, 2, he, .no rfl rfl rfl (nf.2 hz2) (hd.imp id fun e => ?_) kp⟩
    rw [hxn] at e
    exact Nat.eq_of_mul_eq_mul_right hR0 e
  | here i j p l hi hi2 hij hj hz2 hp he hs kp =>
    obtain rfl : k = i := by omega
    obtain ⟨t', po', hn, bk⟩ := hs
    have hnn : nn = false := by
      cases nn with
      | false => rfl
      | true =>
        have := nf.1 rfl j hij hj
        rw [hp] at this
        cases this
    have hcp : S.c p = none := by
      have h1 := o.sf.pfree hj (show p ∈ fr j by rw [hp]; exact List.mem_cons_self)
      cases e : S.c p with
      | none => rfl
      | some c =>
        rw [o.si.eP, pOf_some e] at h1
        cases h1
    refine key p false x t' _ e w' he po' (Sm.refl x) bk (fun y e => .inl e) kp hcp (fun i hm2 => ?_) (by rw [if_neg (by decide)]; exact hn) hnn.symm (fun e => by rw [hnn] at e; cases e)
    have h0 := o.sf.apart0 hj (show p ∈ fr j by rw [hp]; exact List.mem_cons_self) hm2
    have hz1 : 0 < 2 ^ i := Nat.pow_pos (by decide)
    have hz2 : 0 < 2 ^ j := Nat.pow_pos (by decide)
    omega
  | grew i hi hi2 hz2 hd hle he hs kp =>
    obtain rfl : k = i := by omega
    obtain ⟨x', t', po', sm, hn, htn, nb, bk⟩ := hs
    have hnn : nn = true := nf.2 hz2
    have hcp : S.c t.m.n = none := by
      have h1 := o.sf.pout (Nat.le_refl t.m.n)
      cases e : S.c t.m.n with
      | none => rfl
      | some c =>
        rw [o.si.eP, pOf_some e] at h1
        cases h1
    refine key t.m.n true x' t' _ e w' he po' sm bk nb kp hcp (fun i hm2 => ?_) (by rw [if_pos rfl]; exact htn) hnn.symm (fun _ => ⟨hd, fun e => ?_⟩)
    · have := (o.al hm2).2.2
      have hz1 : 0 < 2 ^ i := Nat.pow_pos (by decide)
      omega
    · rw [hxn, e] at hle
      omega
end
end Go.Proofs.YtocpnddacdpnmaaGreatDoor
/- croftlaw7.do: a request. -/
namespace Go.Proofs.YtocpnddacdpnmaaGreatDoor
open Go.RowKit
set_option linter.unusedVariables false

/-- What a deed leaves. -/
def DoP (w : World) (wb lw sb : Nat) (x : Bx) (t : Bt) (ls : List (Nat × Nat)) (S : Sb) (R : Nat → Bk) (n : Nat) (e : Ending) (w' : World) : Prop := ∃ va' vc' n' R' x' t' fr' ls' S', e = .returned (.tuple #[.slice va' n' vc', .bool true]) ∧ LW7 w w' wb lw sb x' t' fr' ls' S' R' n' ∧ Bks w' (.slice va' n' vc') n' R' ∧ Ch x t ls S x' t' ls' S' ∧ ((n' ≤ n ∧ ∀ i, i < n' → ∃ j, j < n ∧ R' i = R j) ∨ (n' = n + 1 ∧ ∀ i, i < n → R' i = R i))
theorem Ch.refl (x : Bx) (t : Bt) (ls : List (Nat × Nat)) (S : Sb) : Ch x t ls S x t ls S := ⟨rfl, rfl, rfl, rfl, fun _ _ _ => rfl⟩
section
variable {w W : World} {wb sb lw : Nat} {x : Bx} {t : Bt} {fr : Nat → List Nat} {ls : List (Nat × Nat)} {S : Sb} {R : Nat → Bk} {n : Nat}
/-- Nothing has changed. -/
theorem DoP.same {w' : World} (L : LW7 w W wb lw sb x t fr ls S R n) {va : Option Addr} {vc : Nat} (B : Bks W (.slice va n vc) n R) (k : Kept none' W w') {e : Ending} (he : e = .returned (.tuple #[.slice va n vc, .bool true])) : DoP w wb lw sb x t ls S R n e w' :=
  ⟨va, vc, n, R, x, t, fr, ls, S, he, L.keep k, B.kept k (fun _ _ e => e), Ch.refl _ _ _ _, .inl ⟨Nat.le_refl _, fun i hi => ⟨i, hi, rfl⟩⟩⟩
/-- got of what a request answered. -/
theorem got7 (L : LW7 w W wb lw sb x t fr ls S R n) {va : Option Addr} {vc : Nat} (hn : n ≤ 1000) (B : Bks W (.slice va n vc) n R) {r rg p : Nat} {nn d g : Bool} {er : Int} {w' : World} (hr : 0 < r) (hr2 : r ≤ 1048576) (hrg : t.m.n = rg * 2 ^ x.o) (Q : Rq w W wb lw sb x t ls S R n r nn d rg p g er w') :
    Calls Tryz.prog 72 #[.pointer (some ⟨wb, 0, none⟩), .slice va n vc, .int .u64 (r : Int), .bool d, .int .u64 (p : Int), .bool g, .int .i64 er, .int .i64 (rg : Int), .bool nn] w' fun e w2 => DoP w wb lw sb x t ls S R n e w2 := by
  cases Q with
  | no hp0 hg0 he hnn hd kp =>
    subst hp0 hg0 he hnn
    refine (got_no (L.keep kp) va vc r d rg hrg hd).mono ?_
    rintro e w2 ⟨rfl, k2⟩
    exact DoP.same L B (none_trans kp k2) rfl
  | yes x' t' fr' ls' S' hg he hst so lv ch kp ns hL hN hrg2 hp hsm =>
    subst hg he
    obtain ⟨h, o⟩ := L.so
    obtain ⟨h', o'⟩ := so
    obtain ⟨fv, lv2, pv, qv, po, pp, hx⟩ := L.bx
    have hx2 : w'.heap[wb]? = some (w7O x'.base x'.lim x'.o lw sb fv lv2 pv qv po pp) := by
      rw [ch.base, ch.lim, ch.o]
      exact (kp.block _ (heap_lt hx) L.ns).trans hx
    have hin := o'.inside ((hL p r).2 (.inr ⟨rfl, rfl⟩))
    have ham := new_apart o' hL hN
    refine (got_yes (w := w) (sb := sb) o'.po ⟨fv, lv2, pv, qv, po, pp, hx2⟩ va n vc R hn L.bnd (B.call o kp) r p rg _ d g hr hr2 hrg2 rfl (fun e => ⟨(hst e).1, by rw [ch.lim]; exact (hst e).2⟩) hin.1 hp hin.2 (L.bi.mt_no (fun a s ha => ham a s ha)) _ rfl hsm).mono ?_
    rintro e w2 ⟨g2, cap, mk, hmk, rfl, k2, b2⟩
    refine ⟨_, _, n + 1, mor R n ⟨p, r, mk⟩, x', t', fr', ls', S', rfl, ⟨⟨h', o'.keep k2⟩, lv, L.bi.add hL hN, ⟨fv, lv2, pv, qv, po, pp, (k2.block _ (heap_lt hx2) (fun e => e)).trans hx2⟩, L.nw, fun e => ?_, fun i hi => ?_, by rw [ch.base, ch.R]; exact L.br⟩, b2, ch, .inr ⟨rfl, fun i hi => by unfold mor; rw [if_neg (by omega)]⟩⟩
    · rcases ns _ e with e | e
      · exact L.ns e
      · exact absurd (heap_lt hx) (Nat.not_lt.2 e)
    · unfold mor
      split
      · exact hmk
      · exact L.mr i (by omega)
end
abbrev deO (op N wh : Int) (d : Bool) : Obj := .cells #[.int .i64 op, .int .i64 N, .int .i64 wh, .bool d] 76
abbrev deV (op N wh : Int) (d : Bool) : Value := .agg #[.int .i64 op, .int .i64 N, .int .i64 wh, .bool d]
theorem dec4 {W : World} {y : Nat} {op N wh : Int} {d : Bool} (h : W.heap[y]? = some (deO op N wh d)) : W.cell? ⟨y, 0, none⟩ = some (.int .i64 op) ∧ W.cell? ⟨y, 1, none⟩ = some (.int .i64 N) ∧ W.cell? ⟨y, 2, none⟩ = some (.int .i64 wh) ∧ W.cell? ⟨y, 3, none⟩ = some (.bool d) := by
  refine ⟨?_, ?_, ?_, ?_⟩ <;> simp [World.cell?, h]
/-- A deed's box lies beside a slab and its pool. -/
theorem SO.dty {w W sb lw x t fr ls S h} (s : SO w W sb lw x t fr ls S h) {y : Nat} {cs : Array Value} {z : Nat × Nat} (hy : W.heap[y]? = some (.cells cs 76 z)) : ¬ sown x sb y := by
  rintro ((hx | hx | ⟨k, hk, e2⟩) | rfl)
  · obtain ⟨cs', t', z', h1, h2⟩ := space_ty s.sw.pl.bd.sp hx
    have e3 := ty_ne' hy h1
    rcases h2 with rfl | rfl <;> exact absurd e3 (by decide)
  · rw [← s.sw.pl.bd.mo] at hx
    obtain ⟨cs', t', z', h1, h2⟩ := map_ty s.sw.pl.bd.mp hx
    have e3 := ty_ne' hy h1
    rcases h2 with rfl | rfl | rfl | rfl | rfl <;> exact absurd e3 (by decide)
  · rw [e2] at hy
    exact absurd (ty_ne' hy (s.sw.pl.bd.ls k hk).hc) (by decide)
  · exact absurd (ty_ne' hy s.sw.bx) (by decide)
theorem Rq.kp {w W wb lw sb x t ls S R n r nn d rg p g er w'} (Q : Rq w W wb lw sb x t ls S R n r nn d rg p g er w') : Kept (sown x sb) W w' := by
  cases Q with
  | no hp0 hg0 he hnn hd kp => exact kp.mono (fun _ _ e => e.elim)
  | yes x' t' fr' ls' S' hg he hst so lv ch kp => exact kp
end Go.Proofs.YtocpnddacdpnmaaGreatDoor
