/- Lists of blocks in memory (BL); oracle.pagesOf, Sound. -/
import Derived.Test.YtibljocjdlgfbaaOrF
namespace Go.Proofs.Ytibljocjdlgfbaa
open Go.RowKit
set_option linter.unusedVariables false

/-- A list of blocks. -/
abbrev Bls := List (Nat × Nat)
/-- A slice that holds a list of blocks. -/
def BL (w : World) (v : Value) (l : Bls) : Prop :=
  l.length ≤ 9223372036854775807 ∧ (∀ b ∈ l, b.1 < 2 ^ 64 ∧ b.2 < 2 ^ 64) ∧ ∃ oa oc, v = .slice oa l.length oc ∧ (l.length = 0 ∨ ∃ bl o, oa = some ⟨bl, o, none⟩ ∧ bl < w.heap.size ∧
    ∀ k b, l[k]? = some b → w.cell? ⟨bl, o + k * 2, none⟩ = some (.int .u64 (b.1 : Int)) ∧ w.cell? ⟨bl, o + k * 2 + 1, none⟩ = some (.int .u64 (b.2 : Int)))
theorem BL.keep {w W : World} {v : Value} {l : Bls} (h : BL w v l) (kp : Kept none' w W) : BL W v l := by
  obtain ⟨h1, h2, oa, oc, h3, h4⟩ := h
  refine ⟨h1, h2, oa, oc, h3, ?_⟩
  rcases h4 with h4 | ⟨bl, o, e, hlt, hc⟩
  · exact .inl h4
  · exact .inr ⟨bl, o, e, Nat.lt_of_lt_of_le hlt kp.size, fun k b hb => ⟨kp.cell (fun e => e) (hc k b hb).1, kp.cell (fun e => e) (hc k b hb).2⟩⟩
theorem BL.at {w : World} {oa : Option Addr} {n oc : Nat} {l : Bls} (h : BL w (.slice oa n oc) l) (k : Nat) (hk : k < l.length) :
    ∃ bl o p s, oa = some ⟨bl, o, none⟩ ∧ l[k]? = some (p, s) ∧ p < 2 ^ 64 ∧ s < 2 ^ 64 ∧ w.cell? ⟨bl, o + k * 2, none⟩ = some (.int .u64 (p : Int)) ∧ w.cell? ⟨bl, o + k * 2 + 1, none⟩ = some (.int .u64 (s : Int)) := by
  obtain ⟨h1, h2, oa', oc', h3, h4⟩ := h
  injection h3 with e1 e2 e3
  subst e1
  rcases h4 with h4 | ⟨bl, o, e, hlt, hc⟩
  · omega
  · have hb := List.getElem?_eq_getElem hk
    have hm := h2 _ (List.getElem_mem hk)
    exact ⟨bl, o, l[k].1, l[k].2, e, hb, hm.1, hm.2, (hc k _ hb).1, (hc k _ hb).2⟩
theorem BL.len {w : World} {oa : Option Addr} {n oc : Nat} {l : Bls} (h : BL w (.slice oa n oc) l) : n = l.length ∧ l.length ≤ 9223372036854775807 := by
  obtain ⟨h1, h2, oa', oc', h3, h4⟩ := h
  injection h3 with e1 e2 e3
  exact ⟨e2, h1⟩

/-- All cells that blocks take. -/
def allU (base : Nat) (l : Bls) : List Un := l.flatMap fun b => units (b.1 - base) b.2
/-- Can the block lie with those ahead of it? -/
def goodB (base k n : Nat) (l : Bls) (i : Nat) : Bool := match l[i]? with
  | some b => okB base k n b.1 b.2 && layOk (allU base (l.take i)) (b.1 - base) b.2
  | none => true
/-- The first that can't. -/
def sndI (base k n : Nat) (l : Bls) : Int := match (List.range l.length).find? (fun i => !goodB base k n l i) with
  | some i => (i : Int)
  | none => -1
theorem sndI_bad {base k n : Nat} {l : Bls} {i : Nat} (hi : i < l.length) (h : ∀ a, a < i → goodB base k n l a = true) (hb : goodB base k n l i = false) : sndI base k n l = (i : Int) := by
  unfold sndI
  have : (List.range l.length).find? (fun i => !goodB base k n l i) = some i := by
    rw [List.find?_range_eq_some]
    refine ⟨by simp [hb], List.mem_range.2 hi, fun a ha => by simp [h a ha]⟩
  rw [this]
theorem sndI_ok {base k n : Nat} {l : Bls} (h : ∀ a, a < l.length → goodB base k n l a = true) : sndI base k n l = -1 := by
  unfold sndI
  rw [List.find?_eq_none.2 (fun a ha => by simp [h a (List.mem_range.1 ha)])]

theorem pow_dvd {s R : Nat} (hs : isP s = true) (hR : isP R = true) (h : s ≤ R) : s ∣ R := by
  obtain ⟨a, rfl⟩ := (isP_iff s).1 hs
  obtain ⟨b, rfl⟩ := (isP_iff R).1 hR
  exact Nat.pow_dvd_pow 2 ((Nat.pow_le_pow_iff_right (by decide)).1 h)
theorem isP_RS (k : Nat) : isP (RS k) = true := (isP_iff _).2 ⟨12 + k, by unfold RS; rw [Nat.pow_add]⟩
theorem isP_4096 : isP 4096 = true := (isP_iff _).2 ⟨12, rfl⟩

/-- What is known of a block that may be. -/
theorem okB_facts {base k n p s : Nat} (hb : base % RS k = 0) (hn : n * RS k ≤ 4194304) (h : okB base k n p s = true) :
    isP s = true ∧ 16 ≤ s ∧ s ≤ RS k ∧ p % s = 0 ∧ base ≤ p ∧ (p - base) % s = 0 ∧ (p - base) + s ≤ n * RS k ∧ (p - base) % 4096 / s < celN s := by
  simp only [okB, szB, Bool.and_eq_true, decide_eq_true_eq] at h
  obtain ⟨⟨⟨⟨⟨h1, h2⟩, h3⟩, h4⟩, h5⟩, h6⟩ := h
  have d1 : s ∣ RS k := pow_dvd h1 (isP_RS k) h3
  have d2 : s ∣ base := Nat.dvd_trans d1 (Nat.dvd_of_mod_eq_zero hb)
  have d3 : s ∣ p - base := (Nat.dvd_sub (Nat.dvd_of_mod_eq_zero h4) d2)
  obtain ⟨a, ha⟩ := d3
  obtain ⟨c, hc⟩ : s ∣ n * RS k := Nat.dvd_trans d1 (Nat.dvd_mul_left _ _)
  have hac : a < c := by
    rw [ha, hc] at h6
    exact Nat.lt_of_mul_lt_mul_left h6
  refine ⟨h1, h2, h3, h4, h5, by rw [ha]; exact Nat.mul_mod_right _ _, ?_, ?_⟩
  · rw [ha, hc]
    have : s * (a + 1) ≤ s * c := Nat.mul_le_mul_left s hac
    rw [Nat.mul_add, Nat.mul_one] at this
    exact this
  · unfold celN
    by_cases h7 : s ≤ 4096
    · obtain ⟨q, hq⟩ := pow_dvd h1 isP_4096 h7
      have hq1 : 4096 / s = q := by rw [hq, Nat.mul_div_cancel_left _ (by omega)]
      have hq0 : ¬ q < 1 := by
        intro hq0
        have : q = 0 := by omega
        rw [this] at hq
        omega
      rw [hq1, if_neg hq0]
      rw [Nat.div_lt_iff_lt_mul (by omega), Nat.mul_comm, ← hq]
      exact Nat.mod_lt _ (by decide)
    · have : (p - base) % 4096 / s = 0 := Nat.div_eq_of_lt (by have := Nat.mod_lt (p - base) (show 0 < 4096 by decide); omega)
      rw [this]
      split <;> omega

theorem PG.keep {N w W m U} (h : PG N w m U) (k : Kept none' w W) : PG N W m U := by
  obtain ⟨ks, S, B, C, X, h⟩ := h
  exact ⟨ks, S, B, C, X, h.mu.kept k (fun x => x), fun x hx => (h.st x hx).kept k (fun x => x) (fun x => x), h.inj, h.nm, h.nw, h.us, h.kin, h.bt, h.cn, h.sz⟩
theorem PG.new (w : World) : PG w.heap.size (w.alloc (.map #[] 0)) w.heap.size [] :=
  ⟨[], fun _ => 0, fun _ => 0, fun _ => 0, fun _ => [], MU.made w, (fun _ h => by cases h), (fun _ h => by cases h), Nat.le_refl _, (fun _ h => by cases h), (fun _ h => by cases h), (fun _ h => by cases h), (fun _ h => by cases h), (fun _ h => by cases h), (fun _ h => by cases h)⟩
end Go.Proofs.Ytibljocjdlgfbaa
