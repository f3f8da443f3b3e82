import Derived.RegionTactic
import Derived.BigQuiet
import Derived.Below
namespace Go.Proofs.YtfmgnljlkdmndaaGreatDoor
set_option linter.unusedVariables false
theorem aa:∀ (n : Nat), (↑n : Int).toNat = n:=@Int.toNat_natCast
theorem ac.{u_1}:∀ {c : Prop} {h : Decidable c}, ¬c → ∀ {α : Sort u_1} {t e : α}, (if c then t else e) = e:=@if_neg
theorem ae.{u_1}:∀ {c : Prop} {h : Decidable c}, c → ∀ {α : Sort u_1} {t e : α}, (if c then t else e) = t:=@if_pos
theorem af:∀ {p : Prop} [inst : Decidable p], p → Decidable.decide p = Bool.true:=@decide_eq_true
theorem ag.{u_1}:∀ {α : Type u_1} [inst : BEq α] [LawfulBEq α] {a b : α}, (a == b) = Bool.false ↔ a ≠ b:=@beq_eq_false_iff_ne
theorem ah:∀ {p : Prop} [inst : Decidable p], ¬p → Decidable.decide p = Bool.false:=@decide_eq_false
theorem ai.{u_1}:∀ {α : Type u_1} {l : List α} {i : Nat} {a : α}, l.getD i a = l[i]?.getD a:=@List.getD_eq_getElem?_getD
theorem aj:∀ (n : Nat), n ≤ n:=@Nat.le_refl
theorem ak:∀ {n m : Nat} (k : Nat), n ≤ m → n * k ≤ m * k:=@Nat.mul_le_mul_right
theorem an:∀ {n m k : Nat}, n ≤ m → m ≤ k → n ≤ k:=@Nat.le_trans
theorem ap:∀ {a n : Nat}, 0 < a → 0 < a ^ n:=@Nat.pow_pos
theorem aq:∀ (n m : Nat), n * m = m * n:=@Nat.mul_comm
theorem au:∀ {a : Int}, 0 ≤ a → ∃ (n : Nat), a = (↑n : Int):=@Int.eq_ofNat_of_zero_le
theorem av:∀ (n m k : Nat), (n + m) * k = n * k + m * k:=@Nat.add_mul
theorem aw.{u_1}:∀ {α : Type u_1} {a : α} {l : List α}, a ∈ a :: l:=@List.mem_cons_self
theorem ax:∀ (w : Nat), 0 < 2 ^ w:=@Nat.two_pow_pos
theorem ay.{u_1}:∀ {α : Type u_1} [inst : BEq α] [LawfulBEq α] {a b : α}, (a != b) = Bool.false ↔ a = b:=@bne_eq_false_iff_eq
theorem az:∀ (n : Nat), 0 ≤ n:=@Nat.zero_le
theorem aL:∀ (n : Nat), 1 * n = n:=@Nat.one_mul
theorem bf:∀ (b : Bool), (Bool.true && b) = b:=@Bool.true_and
theorem bg:∀ {n m k : Nat}, n < m → m ≤ k → n < k:=@Nat.lt_of_lt_of_le
theorem bi:∀ {p : Prop}, p → ¬¬p:=@not_not_intro
theorem bj:∀ {n : Nat}, n > 0 → ∀ {i j : Nat}, i ≤ j → n ^ i ≤ n ^ j:=@Nat.pow_le_pow_right
theorem bo.{u_1}:∀ {α : Type u_1} {l : List α} {i : Nat} (h : i < l.length), l[i]? = Option.some l[i]:=@List.getElem?_eq_getElem
theorem bq.{u_1}:∀ {α : Type u_1} {l : List α}, l.length = 0 → l = []:=@List.eq_nil_of_length_eq_zero
theorem bu:∀ (a b : Bool), ((a && b) = Bool.true) = (a = Bool.true ∧ b = Bool.true):=@Bool.and_eq_true
theorem bw:∀ {p : Prop} [inst : Decidable p], Decidable.decide p = Bool.true → p:=@of_decide_eq_true
theorem bW:∀ {p : Prop} [inst : Decidable p], (Decidable.decide p = Bool.true) = p:=@decide_eq_true_eq
theorem ci:∀ (n m : Nat), n ^ m.succ = n ^ m * n:=@Nat.pow_succ
theorem co.{u_1}:∀ {α : Type u_1} [inst : BEq α] [LawfulBEq α] {a b : α}, (a == b) = Bool.true ↔ a = b:=@beq_iff_eq
theorem cu.{u_1}:∀ {α : Type u_1} [inst : BEq α] [LawfulBEq α] {a b : α}, (a != b) = Bool.true ↔ a ≠ b:=@bne_iff_ne
theorem cx:∀ (n m k : Nat), n * m * k = n * (m * k):=@Nat.mul_assoc
theorem cz:∀ {m n : Nat}, n % m = 0 → m ∣ n:=@Nat.dvd_of_mod_eq_zero
theorem da.{u_1}:∀ {α : Type u_1} (a : α) (l : List α), a :: l ≠ []:=@List.cons_ne_nil
theorem dc:∀ (n : Nat), ¬n < n:=@Nat.lt_irrefl
theorem df:∀ (n k : Nat), n / k ≤ n:=@Nat.div_le_self
theorem dg:∀ (m : Nat) {n : Nat}, 0 < n → m * n / n = m:=@Nat.mul_div_cancel
theorem dh.{u_1}:∀ {α : Type u_1} {l : List α} {i : Nat}, l.length ≤ i → l[i]? = Option.none:=@List.getElem?_eq_none
theorem xe{α:Sort _}(a:α):∃ x,x=a:=⟨a,rfl⟩
def Hd(p:Prop):Prop:=p
theorem Hd.o{p:Prop}(h:Hd p):p:=h
end Go.Proofs.YtfmgnljlkdmndaaGreatDoor
