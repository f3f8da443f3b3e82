import Derived.Test.YtggieolknccabaaRgE
/- RegionKnown: a pool of {65536, 2, 1}, state by state. -/
namespace Go.Proofs.Ytggieolknccabaa
open Go.RowKit
set_option linter.unusedVariables false

def lst2 (A B : List Nat) : Nat → List Nat := fun k => if k = 0 then A else if k = 1 then B else []
/-- The pool's state: its free blocks of order 0 and 1, its live blocks, its regions. -/
structure KS (w W : World) (lw : Nat) (x : Bx) (A B : List Nat) (ls : List (Nat × Nat)) (r : Nat) : Prop where
  po : ∃ t, PO w W lw x t (lst2 A B) ls ∧ t.m.n = r * 2
  o : x.o = 1
  base : x.base = 65536
  lim : x.lim = 2
theorem KS.keep {w W W' lw x A B ls r} (h : KS w W lw x A B ls r) (k : Kept none' W W') : KS w W' lw x A B ls r := by
  obtain ⟨t, hp, hn⟩ := h.po
  exact ⟨⟨t, hp.keep k, hn⟩, h.o, h.base, h.lim⟩
theorem KS.kp {w W lw x A B ls r} (h : KS w W lw x A B ls r) : Kept none' w W := by
  obtain ⟨t, hp, hn⟩ := h.po
  exact hp.pl.kp
theorem KS.sm {w W W' lw x x' t' fr A B A' B' ls ls' r r'} (h : KS w W lw x A B ls r) (hp : PO w W' lw x' t' fr ls') (hs : Sm x x') (hn : t'.m.n = r' * 2) (h0 : fr 0 = A') (h1 : fr 1 = B') : KS w W' lw x' A' B' ls' r' := by
  have ho : x'.o = 1 := hs.o.trans h.o
  refine ⟨⟨t', ⟨hp.pl, hp.sf.congr (fun k hk => ?_), hp.st, hp.bm⟩, hn⟩, ho, hs.base.trans h.base, hs.lim.trans h.lim⟩
  rw [ho] at hk
  rcases k with _ | _ | k
  · exact h0.symm
  · exact h1.symm
  · omega
theorem KS.nums {w W lw x t A B ls r} (h : KS w W lw x A B ls r) (hp : PO w W lw x t (lst2 A B) ls) (hn : t.m.n = r * 2) : x.R = 8192 ∧ x.n = r * 8192 ∧ x.n ≤ x.lim * x.R := by
  have h1 := hp.pl.bd.hR
  rw [h.o] at h1
  have h2 := hp.st
  rw [hn] at h2
  obtain ⟨k, h3, h4⟩ := hp.pl.bd.sp.kn
  refine ⟨h1, by omega, ?_⟩
  rw [h3]
  exact Nat.mul_le_mul_right _ h4
theorem kbad {w W lw x A B ls r} (h : KS w W lw x A B ls r) (k : Int) (hk : inR 2 k = false) (d : Bool) :
    Calls Try.prog 8 #[.pointer (some ⟨lw, 0, none⟩), .int .i64 k, .bool d] W fun e w' => e = .returned (.tuple #[.int .u64 0, .bool false, .int .i64 1]) ∧ KS w w' lw x A B ls r := by
  obtain ⟨t, hp, hn⟩ := h.po
  refine (Need_bad hp k (by rw [h.o]; exact hk) d).mono ?_
  rintro e w' ⟨rfl, hk⟩
  exact ⟨rfl, h.keep hk⟩
theorem kstuck {w W lw x A B ls r} (h : KS w W lw x A B ls r) (i : Nat) (hi : i ≤ 1) (hz : (i = 0 → A = []) ∧ B = []) (d : Bool) (hd : d = true ∨ r = 2) :
    Calls Try.prog 8 #[.pointer (some ⟨lw, 0, none⟩), .int .i64 (i : Int), .bool d] W fun e w' => e = .returned (.tuple #[.int .u64 0, .bool false, .int .i64 2]) ∧ KS w w' lw x A B ls r := by
  obtain ⟨t, hp, hn⟩ := h.po
  obtain ⟨n1, n2, n3⟩ := h.nums hp hn
  refine (Need_stuck hp i (by rw [h.o]; exact hi) (fun a h1 h2 => ?_) d (hd.imp (fun e => e) (fun e => by rw [n2, h.lim, n1, e]))).mono ?_
  · rw [h.o] at h2
    rcases a with _ | _ | a
    · exact hz.1 (by omega)
    · exact hz.2
    · omega
  · rintro e w' ⟨rfl, hk⟩
    exact ⟨rfl, h.keep hk⟩
theorem khere {w W lw x A B ls r} (h : KS w W lw x A B ls r) (i j p : Nat) (l : List Nat) (hi : i ≤ j) (hj : j ≤ 1) (hz : i < j → A = []) (hp' : lst2 A B j = p :: l) (d : Bool) (v : Nat) (hv : v = 65536 + 4096 * p) (A' B' : List Nat) (h0 : cutF (frU (lst2 A B) j (M.dropL (lst2 A B j) p)) p j i 0 = A') (h1 : cutF (frU (lst2 A B) j (M.dropL (lst2 A B j) p)) p j i 1 = B') :
    Calls Try.prog 8 #[.pointer (some ⟨lw, 0, none⟩), .int .i64 (i : Int), .bool d] W fun e w' => e = .returned (.tuple #[.int .u64 (v : Int), .bool false, .int .i64 0]) ∧ KS w w' lw x A' B' (ls ++ [(p, i)]) r := by
  obtain ⟨t, hp, hn⟩ := h.po
  refine (Need_here hp i j p l (by rw [h.o]; omega) hi (by rw [h.o]; exact hj) (fun a h1 h2 => ?_) hp' d).mono ?_
  · obtain rfl : a = 0 := by omega
    exact hz (by omega)
  · rintro e w' ⟨rfl, ⟨t', hp2, hn2⟩, _⟩
    exact ⟨by rw [hv, ← h.base]; rfl, h.sm hp2 (Sm.refl x) (hn2.trans hn) h0 h1⟩
theorem kgrew {w W lw x A B ls r} (h : KS w W lw x A B ls r) (i : Nat) (hi : i ≤ 1) (hz : (i = 0 → A = []) ∧ B = []) (hr : r < 2) (v : Nat) (hv : v = 65536 + 4096 * (r * 2)) (A' B' : List Nat) (h0 : cutF (lst2 A B) (r * 2) 1 i 0 = A') (h1 : cutF (lst2 A B) (r * 2) 1 i 1 = B') :
    Calls Try.prog 8 #[.pointer (some ⟨lw, 0, none⟩), .int .i64 (i : Int), .bool false] W fun e w' => e = .returned (.tuple #[.int .u64 (v : Int), .bool true, .int .i64 0]) ∧ ∃ x', KS w w' lw x' A' B' (ls ++ [(r * 2, i)]) (r + 1) := by
  obtain ⟨t, hp, hn⟩ := h.po
  obtain ⟨n1, n2, n3⟩ := h.nums hp hn
  refine (Need_grew hp i (by rw [h.o]; exact hi) (fun a h1 h2 => ?_) (by rw [n2, h.lim, n1]; omega)).mono ?_
  · rw [h.o] at h2
    rcases a with _ | _ | a
    · exact hz.1 (by omega)
    · exact hz.2
    · omega
  · rintro e w' ⟨rfl, ⟨x', t', hp2, hs, _, hn2, _⟩, _⟩
    rw [hn, h.o] at hp2
    rw [hn, h.o] at hn2
    exact ⟨by rw [hn, hv, ← h.base]; rfl, x', h.sm hp2 hs (by rw [hn2]; omega) h0 h1⟩
theorem kgive {w W lw x A B ls r} (h : KS w W lw x A B ls r) (p k : Nat) (hm : (p, k) ∈ ls) (v : Nat) (hv : v = 65536 + 4096 * p) (A' B' : List Nat) (h0 : giveF 1 (lst2 A B) p k 0 = A') (h1 : giveF 1 (lst2 A B) p k 1 = B') (ls' : List (Nat × Nat)) (hl : dropR ls p = ls') :
    Calls Try.prog 10 #[.pointer (some ⟨lw, 0, none⟩), .int .u64 (v : Int), .int .i64 (k : Int)] W fun e w' => e = .returned (.int .i64 0) ∧ KS w w' lw x A' B' ls' r := by
  obtain ⟨t, hp, hn⟩ := h.po
  refine (Give6_yes hp p k hm v (by rw [hv, ← h.base]; rfl)).mono ?_
  rintro e w' ⟨rfl, t', hp2, hn2, _⟩
  rw [h.o, hl] at hp2
  exact ⟨rfl, h.sm hp2 (Sm.refl x) (hn2.trans hn) h0 h1⟩
theorem kgive_no {w W lw x A B ls r} (h : KS w W lw x A B ls r) (v : Nat) (hv : v < 18446744073709551616) (k : Int) (hm : liveL ls (pgV 65536 (r * 2) v) k = false) :
    Calls Try.prog 10 #[.pointer (some ⟨lw, 0, none⟩), .int .u64 (v : Int), .int .i64 k] W fun e w' => e = .returned (.int .i64 1) ∧ KS w w' lw x A B ls r := by
  obtain ⟨t, hp, hn⟩ := h.po
  refine (Give6_no hp v hv k (by rw [h.base, hn]; exact hm)).mono ?_
  rintro e w' ⟨rfl, hk⟩
  exact ⟨rfl, h.keep hk⟩
theorem ktrim {w W lw x A B ls r} (h : KS w W lw x A B ls r) (c : Nat) (hc : (trF 1 r (lst2 A B)).1 = c) (A' B' : List Nat) (h0 : (trF 1 r (lst2 A B)).2 0 = A') (h1 : (trF 1 r (lst2 A B)).2 1 = B') :
    Calls Try.prog 9 #[.pointer (some ⟨lw, 0, none⟩)] W fun e w' => e = .returned (.int .i64 (c : Int)) ∧ ∃ x', KS w w' lw x' A' B' ls (r - c) := by
  obtain ⟨t, hp, hn⟩ := h.po
  refine (Trim_any hp r (by rw [hn, h.o])).mono ?_
  rw [h.o, hc]
  rintro e w' ⟨rfl, x', t', hp2, hs, hn2, _, _⟩
  exact ⟨rfl, x', h.sm hp2 hs hn2 h0 h1⟩
theorem kspace {w W lw x A B ls r} (h : KS w W lw x A B ls r) : Calls Try.prog 11 #[.pointer (some ⟨lw, 0, none⟩)] W fun e w' => e = .returned (.pointer (some ⟨x.s, 0, none⟩)) ∧ w' = W := by
  obtain ⟨t, hp, hn⟩ := h.po
  exact Space6 hp.pl
theorem kmap {w W lw x A B ls r} (h : KS w W lw x A B ls r) : Calls Try.prog 13 #[.pointer (some ⟨lw, 0, none⟩)] W fun e w' => e = .returned (.pointer (some ⟨x.m, 0, none⟩)) ∧ w' = W := by
  obtain ⟨t, hp, hn⟩ := h.po
  exact Map6 hp.pl
theorem kbuddy {w W lw x A B ls r} (h : KS w W lw x A B ls r) : Calls Try.prog 15 #[.pointer (some ⟨lw, 0, none⟩)] W fun e w' => e = .returned (.pointer (some ⟨x.b, 0, none⟩)) ∧ w' = W := by
  obtain ⟨t, hp, hn⟩ := h.po
  exact Buddy6 hp.pl
theorem kregions {w W lw x A B ls r} (h : KS w W lw x A B ls r) : Calls Try.prog 12 #[.pointer (some ⟨x.s, 0, none⟩)] W fun e w' => e = .returned (.int .i64 (r : Int)) ∧ KS w w' lw x A B ls r := by
  obtain ⟨t, hp, hn⟩ := h.po
  refine (regions6 hp r (by rw [hn, h.o])).mono ?_
  rintro e w' ⟨rfl, hk⟩
  exact ⟨rfl, h.keep hk⟩
theorem kpages {w W lw x A B ls r} (h : KS w W lw x A B ls r) : Calls Try.prog 14 #[.pointer (some ⟨x.m, 0, none⟩)] W fun e w' => e = .returned (.int .i64 ((r * 2 : Nat) : Int)) ∧ w' = W := by
  obtain ⟨t, hp, hn⟩ := h.po
  have := pages6 hp
  rw [hn] at this
  exact this
theorem kend {w W lw x A B ls r} (h : KS w W lw x A B ls r) (v : Nat) (hv : v = 65536 + r * 8192) : Calls Try.prog 17 #[.pointer (some ⟨x.s, 0, none⟩)] W fun e w' => e = .returned (.int .u64 (v : Int)) ∧ KS w w' lw x A B ls r := by
  obtain ⟨t, hp, hn⟩ := h.po
  obtain ⟨n1, n2, n3⟩ := h.nums hp hn
  refine (end6 hp).mono ?_
  rintro e w' ⟨rfl, hk⟩
  exact ⟨by rw [n2, h.base, hv], h.keep hk⟩
theorem kheads {w W lw x A B ls r} (h : KS w W lw x A B ls r) (hA : A = []) (hB : B = []) : Calls Try.prog 16 #[.pointer (some ⟨x.b, 0, none⟩)] W fun e w' => ∃ g, e = .returned (.slice (some ⟨g, 0, none⟩) 2 2) ∧ w'.heap[g]? = some (.cells #[.int .u64 0, .int .u64 0] 23 (0, 0)) ∧ KS w w' lw x A B ls r := by
  obtain ⟨t, hp, hn⟩ := h.po
  have e0 := hp.sf.hd (k := 0) (by rw [h.o]; omega)
  have e1 := hp.sf.hd (k := 1) (by rw [h.o]; omega)
  rw [show lst2 A B 0 = [] from hA] at e0
  rw [show lst2 A B 1 = [] from hB] at e1
  have hL : headsL x t = [0, 0] := by
    unfold headsL
    rw [h.o]
    show [t.hd 0, t.hd 1] = [0, 0]
    rw [e0, e1]
    rfl
  have := heads6 hp
  rw [hL, h.o] at this
  refine this.mono ?_
  rintro e w' ⟨g, rfl, hg, hk⟩
  exact ⟨g, rfl, hg, h.keep hk⟩
set_option maxRecDepth 4000 in
theorem Open6_form (w : World) (ba : Option Addr) (bc : Nat) :
    Calls Try.prog 18 #[cfgV 65536 2 1, .int .i64 1, .slice ba 8191 bc, .slice none 0 0, .slice none 0 0, .slice none 0 0] w fun e w' => e = .returned (.tuple #[.pointer none, .int .i64 7]) ∧ Kept none' w w' := by
  have K3 := hid ((Kept.refl none' w).alloc (cfgO 65536 2 1))
  have X3 := hid (heap_new w (cfgO 65536 2 1))
  have NW := hid (fun W => M.New_ok 65536 (by decide) ((2 : Nat) : Int) ((1 : Nat) : Int) (by omega) (by omega) (by omega) (by omega) may1 (fun _ => 0) W)
  go_enter Try.func18, Try.ntmps18
  obtain ⟨x0, x1, x2⟩ := cfg3 X3.out
  go_wp2_with fail
  generalize w.alloc (cfgO 65536 2 1) = W3 at *
  refine (NW.out _).mono ?_
  rintro e w4 ⟨s, rfl, hS, hk', hs⟩
  have hk : Kept none' W3 w4 := toK hk'
  have X4 := hid ((hk.block _ (heap_lt X3.out) (fun x => x)).trans X3.out)
  have K4 := hid (none_trans K3.out hk)
  clear x0 x1 x2 hk hk' hS hs X3 K3 NW
  obtain ⟨x0, x1, x2⟩ := cfg3 X4.out
  go_wp2_with fail
  exact ⟨rfl, .tuple #[.pointer none, .int .i64 7], by simp [results, Try.results18, go_sem], rfl, K4.out⟩
set_option maxRecDepth 4000 in
theorem Open6_bad (w : World) (ba : Option Addr) (bc : Nat) :
    Calls Try.prog 18 #[cfgV 1 2 1, .int .i64 1, .slice ba 8191 bc, .slice none 0 0, .slice none 0 0, .slice none 0 0] w fun e w' => e = .returned (.tuple #[.pointer none, .int .i64 1]) ∧ Kept none' w w' := by
  have K3 := hid ((Kept.refl none' w).alloc (cfgO 1 2 1))
  have X3 := hid (heap_new w (cfgO 1 2 1))
  have NB := hid (fun W => M.New_bad 1 (by decide) 2 1 (by omega) (by omega) (by omega) (by omega) (by decide) W)
  go_enter Try.func18, Try.ntmps18
  obtain ⟨x0, x1, x2⟩ := cfg3 X3.out
  go_wp2_with fail
  refine (NB.out _).mono ?_
  rintro e w1 ⟨rfl, hk⟩
  have K1 := hid (none_trans K3.out (toK hk))
  clear hk x0 x1 x2
  go_wp2_with fail
  exact ⟨rfl, .tuple #[.pointer none, .int .i64 1], by simp [results, Try.results18, go_sem], rfl, K1.out⟩
end Go.Proofs.Ytggieolknccabaa
