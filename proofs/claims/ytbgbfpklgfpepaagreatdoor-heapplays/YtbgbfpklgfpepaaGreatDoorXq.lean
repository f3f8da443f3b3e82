import Derived.Test.YtbgbfpklgfpepaaGreatDoorXp
import Derived.Test.YtbgbfpklgfpepaaGreatDoorXf
set_option maxRecDepth 1000000
set_option maxHeartbeats 80000000
namespace Go.Proofs.YtbgbfpklgfpepaaGreatDoor
open Tryz
open Go.RowKit
open Go.MuLone
set_option linter.unusedVariables false
def jL(x:Bx)(t:Bt)(S:Sb)(i:Nat):List (Nat×Nat):=match S.c i with
 | some k=>fZ x S i k (aH k)
 | none=>if (t.m.pg i).kd=2 then [(x.bS+4096*i,4096*2 ^ (t.m.pg i).od.toNat)] else []
def hZ(x:Bx)(t:Bt)(S:Sb):Nat->List (Nat×Nat)
 | 0=>[]
 | i + 1=>hZ x t S i ++ jL x t S i
inductive Lv8(x:Bx)(S:Sb)(q:Pg)(i:Nat)(l:List (Nat×Nat)):Prop where
 | none (hq:q.kd=0\/q.kd=1\/q.kd=3) (h1:l=[])
 | head (k:Nat) (hk:k<=8) (hq:q.kd=2) (ho:q.od=(k:Int)) (h1:l=[(x.bS+4096*i,4096*2 ^ k)])
 | slab (k:Nat) (hq:q.kd=4) (hc:S.c i=some k) (hl:q.cl=(k:Int)) (h1:l=fZ x S i k (aH k))
theorem zis{w0 w1 W W':World}{v:Value}{l:List (Nat×Nat)}(h:GB w0 W v l)(hs:w0.heap.size=w1.heap.size)(k:Kt nO w1 W')(hE:∀ y,v.ownBlock=some y->W'.heap[y]?=W.heap[y]?):GB w1 W' v l:=by
 refine⟨⟨h.own.1,?_⟩,fun g cap e=>by rw[<-hs];exact h.new g cap e,k⟩;rcases h.own.2 with h0|⟨g,cap,cur,rfl,hb,hg,h3⟩
 ·exact .inl h0
 ·exact .inr ⟨g,cap,cur,rfl,hb,(hE g (by simp[Value.ownBlock])).trans hg,h3⟩
theorem zhk{ops:Array Oper}{o:Oper}{a:Act}{K:Act->World->Prop}{Q:Exit->Act->World->Prop}{E:Prop}{W w':World}{v u v':Value}
  (hgd:o.guard=none) (s x:Operand) (hop:o.op=.call { callee:=.builtin .append,args:=#[s,x],argTypes:=#[71,71] })
  (hs:a.eval s=v) (hx:a.eval x=u) (hrun:∀ t,(Builtin.append_ #[71,71] t #[v,u]).run prog W=.ok v' w') (h:K (a.put o.dst v') w'):
  if Region.wanted o (yielded ops a.tmps)=true then Oper.wp prog o a W K Q else E:=by
 have hw:Region.wanted o (yielded ops a.tmps)=true:=by simp[Region.wanted,hgd]
 rw[if_pos hw];exact Lib.wp_append_run W s x _ _ hop _ _ hs hx _ _ (hrun _) h
section
variable {w W W':World} {hb sb lw:Nat} {x:Bx} {t:Bt} {fr:Nat->List Nat} {ls:List (Nat×Nat)} {S:Sb} {s:Int}
theorem HW.lk(H:HW w W hb sb lw x t fr ls S s){i:Nat}(hi:i<t.m.n):Lv8 x S (t.m.pg i) i (jL x t S i):=by
 obtain⟨h,o⟩:=H.so;have n1:=o.po.nums.1
 cases o.kind hi with
 | slab k hc=>
  obtain⟨hk,sp⟩:=o.si.pg i k hc;exact .slab k sp.kd hc sp.cl (by unfold jL;rw[hc])
 | big q k hm hc hg h1 h2 hp=>
  have hk:k<=8:=Nat.le_trans (o.al hm).1 n1;by_cases e:i=q
  ·rw[if_pos e] at hp;refine .head k hk (by rw[hp];rfl) (by rw[hp];rfl) ?_;unfold jL;rw[hg,hp];rfl
  ·rw[if_neg e] at hp;refine .none (.inr (.inr (by rw[hp];rfl))) ?_;unfold jL;rw[hg,hp];rfl
 | free q j hm hj hg h1 h2 hp=>
  by_cases e:i=q
  ·rw[if_pos e] at hp;refine .none (.inl (by rw[hp];rfl)) ?_;unfold jL;rw[hg,hp];rfl
  ·rw[if_neg e] at hp;refine .none (.inr (.inl (by rw[hp];rfl))) ?_;unfold jL;rw[hg,hp];rfl
theorem HW.lvb(H:HW w W hb sb lw x t fr ls S s):∀ i,i<=t.m.n->(hZ x t S i).length<=i*256
 | 0,_=>Nat.le_refl _
 | i+1,hi=>by
  have h1:=H.lvb i (by omega);have h2:(jL x t S i).length<=256:=by
   cases H.lk (i:=i) (by omega)with
   | none hq h1=>rw[h1];decide
   | head k hk hq ho h1=>rw[h1];exact(by decide : 1<=256)
   | slab k hq hc hl h1=>
    obtain⟨h,o⟩:=H.so;rw[h1];exact Nat.le_trans (uA x S i k _) (dV (o.si.pg i k hc).1).2.2
  unfold hZ;rw[List.length_append];omega
end
end Go.Proofs.YtbgbfpklgfpepaaGreatDoor
