import Derived.RegionTactic
import Derived.BigQuiet
import Derived.Below
namespace Go.Proofs.YtfmgnljlkdmndaaGreatDoor
set_option linter.unusedVariables false
theorem aa:∀ (n : Nat), (↑n : Int).toNat = n:=@Int.toNat_natCast
theorem ac.{u_1}:∀ {c : Prop} {h : Decidable c}, ¬c → ∀ {α : Sort u_1} {t e : α}, (if c then t else e) = e:=@if_neg
theorem ae.{u_1}:∀ {c : Prop} {h : Decidable c}, c → ∀ {α : Sort u_1} {t e : α}, (if c then t else e) = t:=@if_pos
theorem af:∀ {p : Prop} [inst : Decidable p], p → Decidable.decide p = Bool.true:=@decide_eq_true
theorem ag.{u_1}:∀ {α : Type u_1} [inst : BEq α] [LawfulBEq α] {a b : α}, (a == b) = Bool.false ↔ a ≠ b:=@beq_eq_false_iff_ne
theorem ah:∀ {p : Prop} [inst : Decidable p], ¬p → Decidable.decide p = Bool.false:=@decide_eq_false
theorem ai.{u_1}:∀ {α : Type u_1} {l : List α} {i : Nat} {a : α}, l.getD i a = l[i]?.getD a:=@List.getD_eq_getElem?_getD
theorem aj:∀ (n : Nat), n ≤ n:=@Nat.le_refl
theorem ak:∀ {n m : Nat} (k : Nat), n ≤ m → n * k ≤ m * k:=@Nat.mul_le_mul_right
theorem am.{u_1}:∀ {α : Type u_1} {i : Nat} {b : α} {xs : Array α}, xs[i]? = Option.some b ↔ ∃ (h : i < xs.size), xs[i] = b:=@Array.getElem?_eq_some_iff
theorem an:∀ {n m k : Nat}, n ≤ m → m ≤ k → n ≤ k:=@Nat.le_trans
theorem ap:∀ {a n : Nat}, 0 < a → 0 < a ^ n:=@Nat.pow_pos
theorem aq:∀ (n m : Nat), n * m = m * n:=@Nat.mul_comm
theorem au:∀ {a : Int}, 0 ≤ a → ∃ (n : Nat), a = (↑n : Int):=@Int.eq_ofNat_of_zero_le
theorem av:∀ (n m k : Nat), (n + m) * k = n * k + m * k:=@Nat.add_mul
theorem aw.{u_1}:∀ {α : Type u_1} {a : α} {l : List α}, a ∈ a :: l:=@List.mem_cons_self
theorem ax:∀ (w : Nat), 0 < 2 ^ w:=@Nat.two_pow_pos
theorem ay.{u_1}:∀ {α : Type u_1} [inst : BEq α] [LawfulBEq α] {a b : α}, (a != b) = Bool.false ↔ a = b:=@bne_eq_false_iff_eq
theorem az:∀ (n : Nat), 0 ≤ n:=@Nat.zero_le
theorem aL:∀ (n : Nat), 1 * n = n:=@Nat.one_mul
theorem bf:∀ (b : Bool), (Bool.true && b) = b:=@Bool.true_and
theorem bg:∀ {n m k : Nat}, n < m → m ≤ k → n < k:=@Nat.lt_of_lt_of_le
theorem bi:∀ {p : Prop}, p → ¬¬p:=@not_not_intro
theorem bj:∀ {n : Nat}, n > 0 → ∀ {i j : Nat}, i ≤ j → n ^ i ≤ n ^ j:=@Nat.pow_le_pow_right
theorem bo.{u_1}:∀ {α : Type u_1} {l : List α} {i : Nat} (h : i < l.length), l[i]? = Option.some l[i]:=@List.getElem?_eq_getElem
theorem bq.{u_1}:∀ {α : Type u_1} {l : List α}, l.length = 0 → l = []:=@List.eq_nil_of_length_eq_zero
theorem bu:∀ (a b : Bool), ((a && b) = Bool.true) = (a = Bool.true ∧ b = Bool.true):=@Bool.and_eq_true
theorem bw:∀ {p : Prop} [inst : Decidable p], Decidable.decide p = Bool.true → p:=@of_decide_eq_true
theorem ci:∀ {p : Prop} [inst : Decidable p], (Decidable.decide p = Bool.true) = p:=@decide_eq_true_eq
theorem co:∀ (n m : Nat), n ^ m.succ = n ^ m * n:=@Nat.pow_succ
theorem cu.{u_1}:∀ {α : Type u_1} [inst : BEq α] [LawfulBEq α] {a b : α}, (a == b) = Bool.true ↔ a = b:=@beq_iff_eq
theorem cx.{u_1}:∀ {α : Type u_1} [inst : BEq α] [LawfulBEq α] {a b : α}, (a != b) = Bool.true ↔ a ≠ b:=@bne_iff_ne
theorem cy:∀ (n m k : Nat), n * m * k = n * (m * k):=@Nat.mul_assoc
theorem cz:∀ (n : Int), Go.IntKind.i64.wrap n = (n + 9223372036854775808) % 18446744073709551616 - 9223372036854775808:=@Go.IntKind.wrap_i64
theorem da:∀ {m n : Nat}, n % m = 0 → m ∣ n:=@Nat.dvd_of_mod_eq_zero
theorem db.{u_1}:∀ {α : Type u_1} (a : α) (l : List α), a :: l ≠ []:=@List.cons_ne_nil
theorem dc.{u_1}:∀ {α : Type u_1} {l : List α} {i j : Nat}, (List.take i l)[j]? = if j < i then l[j]? else Option.none:=@List.getElem?_take
theorem de:∀ (n : Nat), ¬n < n:=@Nat.lt_irrefl
theorem df.{u_1}:∀ {α : Type u_1} {i : Nat} {xs : Array α} {x : α}, (xs.push x)[i]? = if i = xs.size then Option.some x else xs[i]?:=@Array.getElem?_push
theorem dg:∀ (n k : Nat), n / k ≤ n:=@Nat.div_le_self
theorem dh:∀ (m : Nat) {n : Nat}, 0 < n → m * n / n = m:=@Nat.mul_div_cancel
theorem dj.{u_1}:∀ {α : Type u_1} {l : List α} {i : Nat}, l.length ≤ i → l[i]? = Option.none:=@List.getElem?_eq_none
theorem dm:∀ {P : Go.Program} {fn : Go.Func} {tmps : Array Go.Value} {R : Go.Ending → Go.World → Prop} {fv : Go.Fn} {cap dargs : Array Go.Value} {ds : List Go.Deferred} {u : Go.FrameMode} {w : Go.World} {f : Go.FuncId} {args : Array Go.Value}, u ≠ Go.FrameMode.run → Go.Sem.run P (Go.invoke (Go.Target.fn fv cap) dargs) w = Go.Result.ok (Go.Next.enter f args) w → (Go.CallsD P f args u w fun (x : Go.Ending) (x_1 : Go.FrameMode) (x_2 : Go.World) => match x, x_1, x_2 with | Go.Ending.returned v, u', w' => Go.Leaves P fn tmps R ds (Go.settle u') w' | Go.Ending.panicked chain, u', w' => Go.Leaves P fn tmps R ds (Go.raised u' chain) w' | Go.Ending.outgrown, x, w' => R Go.Ending.outgrown w') → Go.Leaves P fn tmps R ({ target := Go.Target.fn fv cap, args := dargs } :: ds) u w:=@Go.leaves_cons
theorem dn:∀ {i x : Nat}, x.testBit i = Decidable.decide (x / 2 ^ i % 2 = 1):=@Nat.testBit_eq_decide_div_mod_eq
theorem dp.{u_1}:∀ {α : Type u_1} [inst : BEq α] [LawfulBEq α] {a : α} {l : List α}, a ∈ l → (l.erase a).length = l.length - 1:=@List.length_erase_of_mem
theorem dq.{u_1}:∀ {α : Type u_1} (y : α) {a : α} {l : List α}, a ∈ l → a ∈ y :: l:=@List.mem_cons_of_mem
theorem dr.{u_1}:∀ {α : Type u_1} {a : α} {l : List α}, (a :: l).Nodup ↔ ¬a ∈ l ∧ l.Nodup:=@List.nodup_cons
theorem du:∀ (n m : Nat), n < m ∨ n ≥ m:=@Nat.lt_or_ge
theorem dx:∀ (n : Nat), n = 0 ∨ n > 0:=@Nat.eq_zero_or_pos
theorem dy:∀ (m n : Nat), n * (m / n) + m % n = m:=@Nat.div_add_mod
theorem dz:∀ (n : Nat), 0 + n = n:=@Nat.zero_add
theorem eb:∀ (b : Bool), (Bool.false && b) = Bool.false:=@Bool.false_and
theorem ec:∀ {listed : Array Bool} {i j : Nat} (d : Bool), i ≠ j → (listed.setIfInBounds i Bool.true).getD j d = listed.getD j d:=@Go.getD_set_ne
theorem ed:∀ {p : Prop} [Decidable p], ¬¬p ↔ p:=@Decidable.not_not
theorem ee.{u_1}:∀ {α : Type u_1} {a : α} {as : List α}, (a :: as).length = as.length + 1:=@List.length_cons
theorem ef.{u_1}:∀ {α : Type u_1} {xs : Array α} {i : Nat}, xs.toList[i]? = xs[i]?:=@Array.getElem?_toList
theorem eg.{u_1}:∀ {α : Type u_1} {b : α} {l : List α} {a : α}, a ∈ b :: l ↔ a = b ∨ a ∈ l:=@List.mem_cons
theorem eh:∀ (n m : Nat), n + m - m = n:=@Nat.add_sub_cancel
theorem ei.{u_1}:∀ {α : Type u_1} {as bs : List α}, (as ++ bs).length = as.length + bs.length:=@List.length_append
theorem ej.{u_1}:∀ {α : Type u_1} {a : α}, Option.none.getD a = a:=@Option.getD_none
theorem xe{α:Sort _}(a:α):∃ x,x=a:=⟨a,rfl⟩
abbrev Wd:=Go.World
abbrev Vl:=Go.Value
def Hd(p:Prop):Prop:=p
theorem Hd.o{p:Prop}(h:Hd p):p:=h
end Go.Proofs.YtfmgnljlkdmndaaGreatDoor
