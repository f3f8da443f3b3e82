import Derived.Test.YtkfmheelhinjdaaGreatDoorZc
set_option maxRecDepth 1000000
set_option maxHeartbeats 80000000
namespace Go.Proofs.YtkfmheelhinjdaaGreatDoor
open Tryz
open Go.RowKit
set_option linter.unusedVariables false
abbrev cC(p:Pg):Value:=.agg #[.int .i64 p.kd,.int .i64 p.od,.int .i64 p.cl,.int .i64 p.lv,.int .i64 p.nx,.int .i64 p.pv,.int .i64 p.fs,.int .u64 p.b0,.int .u64 p.b1,.int .u64 p.b2,.int .u64 p.b3]
abbrev aM(p:Pg):Obj:=.cells #[.int .i64 p.kd,.int .i64 p.od,.int .i64 p.cl,.int .i64 p.lv,.int .i64 p.nx,.int .i64 p.pv,.int .i64 p.fs,.int .u64 p.b0,.int .u64 p.b1,.int .u64 p.b2,.int .u64 p.b3] 99
theorem eW(b:Nat)(B:Bs)(m:Mp)(i:Int)(w:World)(h:MpA w b B m):
  Calls prog 111 #[.pointer (some ⟨b,0,none⟩),.int .i64 i] w fun e w'=>e=.returned (.bool (aB m.n i))/\w'=w:=by
 obtain⟨cq,c0,c1,c2⟩:=h.cb;clear h;by_cases h0 : 0<=i
 ·have hd:aB m.n i=decide (i<(m.n:Int)):=by simp[aB,h0]
  rw[hd];go_enter func111,ntmps111;go_wp2
  go_ret;exact⟨rfl,rfl⟩
 ·have hd:aB m.n i=false:=by simp[aB];omega
  rw[hd];go_enter func111,ntmps111;go_wp2
  go_ret;exact⟨rfl,rfl⟩
theorem uR(b:Nat)(B:Bs)(m:Mp)(w:World)(h:MpA w b B m):
  Calls prog 71 #[.pointer (some ⟨b,0,none⟩)] w fun e w'=>e=.returned (.int .i64 m.n)/\w'=w:=by
 obtain⟨cq,c0,c1,c2⟩:=h.cb;clear h;go_enter func71,ntmps71;go_wp2
 go_ret;exact⟨rfl,rfl⟩
theorem kZ{w:World}{x:Nat}{p:Pg}(h:w.heap[x]?=some (aM p)):w.cell? ⟨x,0,none⟩=some (.int .i64 p.kd)/\w.cell? ⟨x,1,none⟩=some (.int .i64 p.od)/\w.cell? ⟨x,2,none⟩=some (.int .i64 p.cl)/\w.cell? ⟨x,3,none⟩=some (.int .i64 p.lv)/\w.cell? ⟨x,4,none⟩=some (.int .i64 p.nx)/\w.cell? ⟨x,5,none⟩=some (.int .i64 p.pv)/\w.cell? ⟨x,6,none⟩=some (.int .i64 p.fs)/\w.cell? ⟨x,7,none⟩=some (.int .u64 p.b0)/\w.cell? ⟨x,8,none⟩=some (.int .u64 p.b1)/\w.cell? ⟨x,9,none⟩=some (.int .u64 p.b2)/\w.cell? ⟨x,10,none⟩=some (.int .u64 p.b3):=by
 refine⟨?_,?_,?_,?_,?_,?_,?_,?_,?_,?_,?_⟩ <;> simp[World.cell?,h]
theorem qO{w:World}{x:Nat}{p:Pg}(h:w.heap[x]?=some (aM p))(i:Nat):w.frozen? ⟨x,i,none⟩=false:=by simp[World.frozen?,h]
abbrev vT(w:World)(x:Nat)(p:Pg):World:=(((((((((((w.setCell ⟨x,0,none⟩ (.int .i64 p.kd)).setCell ⟨x,1,none⟩ (.int .i64 p.od)).setCell ⟨x,2,none⟩ (.int .i64 p.cl)).setCell ⟨x,3,none⟩ (.int .i64 p.lv)).setCell ⟨x,4,none⟩ (.int .i64 p.nx)).setCell ⟨x,5,none⟩ (.int .i64 p.pv)).setCell ⟨x,6,none⟩ (.int .i64 p.fs)).setCell ⟨x,7,none⟩ (.int .u64 p.b0)).setCell ⟨x,8,none⟩ (.int .u64 p.b1)).setCell ⟨x,9,none⟩ (.int .u64 p.b2)).setCell ⟨x,10,none⟩ (.int .u64 p.b3))
theorem CI{S:Nat->Prop}{a w:World}(h:Kt S a w)(x:Nat)(hx:x<a.heap.size->S x)(p:Pg):Kt S a (vT w x p):=(((((((((((h.setNew (p:=⟨x,0,none⟩) hx _).setNew (p:=⟨x,1,none⟩) hx _).setNew (p:=⟨x,2,none⟩) hx _).setNew (p:=⟨x,3,none⟩) hx _).setNew (p:=⟨x,4,none⟩) hx _).setNew (p:=⟨x,5,none⟩) hx _).setNew (p:=⟨x,6,none⟩) hx _).setNew (p:=⟨x,7,none⟩) hx _).setNew (p:=⟨x,8,none⟩) hx _).setNew (p:=⟨x,9,none⟩) hx _).setNew (p:=⟨x,10,none⟩) hx _)
theorem pX(k o:Int)(w:World):
  Calls prog 246 #[.int .i64 k,.int .i64 o] w fun e w'=>e=.returned (cC (aN k o))/\w'=w.alloc (aM (aN k o)):=by
 go_enter func246,ntmps246;go_wp2
 exact⟨rfl,_,by simp[results,results246,go_sem,aN],rfl,rfl⟩
def cI(m:Mp)(i:Int):Pg:=if aB m.n i=true then m.pg i.toNat else aP
theorem gL{n:Nat}{i:Int}(h:aB n i=true):∃ k:Nat,i=k/\k<n:=by
 have hi0 : 0<=i/\i<(n:Int):=by simpa [aB] using h
 obtain⟨k,rfl⟩:=Int.eq_ofNat_of_zero_le hi0.1;exact⟨k,rfl,by omega⟩
theorem dK{n k:Nat}(h:k<n):aB n (k:Int)=true:=by simp[aB];omega
theorem qX(b:Nat)(B:Bs)(m:Mp)(i:Int)(w:World)(h:MpA w b B m)(hi:aB m.n i=false):
  Calls prog 72 #[.pointer (some ⟨b,0,none⟩),.int .i64 i] w fun e w'=>e=.returned (.tuple #[cC aP,.bool false])/\Kt nO w w':=by
 have K0:=aA ((Kt.refl nO w).alloc (aM aP));have HM:=aA (h.keep K0.out);have X0:=aA (nH w (aM aP));have HI:=aA hi;clear h hi;go_enter func72,ntmps72;go_wp2_with fail;refine(eW b B m i _ HM.out).mono ?_;rintro e w1 ⟨rfl,hw1⟩;rw[show(w.alloc (aM aP))=w1 from hw1.symm] at K0 HM X0;rw[HI.out];clear hw1;obtain⟨x0,x1,x2,x3,x4,x5,x6,x7,x8,x9,x10⟩:=kZ X0.out;have z:=qO X0.out;go_wp2_with fail;exact⟨rfl,_,by simp[results,results72,go_sem,aP,x0,x1,x2,x3,x4,x5,x6,x7,x8,x9,x10],rfl,CI (p:=aP) K0.out _ (fun h=>absurd h (Nat.lt_irrefl _))⟩
theorem mJ(b:Nat)(B:Bs)(m:Mp)(k:Nat)(w:World)(h:MpA w b B m)(hk:k<m.n):
  Calls prog 72 #[.pointer (some ⟨b,0,none⟩),.int .i64 k] w fun e w'=>e=.returned (.tuple #[cC (m.pg k),.bool true])/\Kt nO w w':=by
 have K0:=aA ((Kt.refl nO w).alloc (aM aP));have HM:=aA (h.keep K0.out);have X0:=aA (nH w (aM aP));have HI:=aA (dK hk);clear h;go_enter func72,ntmps72;go_wp2_with fail;refine(eW b B m k _ HM.out).mono ?_;rintro e w1 ⟨rfl,hw1⟩;rw[show(w.alloc (aM aP))=w1 from hw1.symm] at K0 HM X0;rw[HI.out];clear hw1;obtain⟨g,hg,hr⟩:=HM.out.has_row (by omega);obtain⟨d0,d1,d2,d3,d4,d5,d6,d7,d8,d9,d10⟩:=hr.cell k hk;have c1:=HM.out.c1 hg;have hki:(k:Int)<m.n:=by omega
 obtain⟨x0,x1,x2,x3,x4,x5,x6,x7,x8,x9,x10⟩:=kZ X0.out;have z:=qO X0.out;clear hr hg;go_wp2_with fail;exact⟨rfl,_,by simp[results,results72,go_sem,x0,x1,x2,x3,x4,x5,x6,x7,x8,x9,x10],rfl,CI (p:=m.pg k) K0.out _ (fun h=>absurd h (Nat.lt_irrefl _))⟩
theorem jD(b:Nat)(B:Bs)(m:Mp)(i:Int)(w:World)(h:MpA w b B m):
  Calls prog 72 #[.pointer (some ⟨b,0,none⟩),.int .i64 i] w fun e w'=>e=.returned (.tuple #[cC (cI m i),.bool (aB m.n i)])/\Kt nO w w':=by
 cases hi:aB m.n i with
 | false=>
  rw[show cI m i=aP by simp[cI,hi]];exact qX b B m i w h hi
 | true=>
  obtain⟨k,rfl,hk⟩:=gL hi;rw[show cI m (k:Int)=m.pg k by simp[cI,hi]];exact mJ b B m k w h hk
end Go.Proofs.YtkfmheelhinjdaaGreatDoor
namespace Go.Proofs.YtkfmheelhinjdaaGreatDoor.W
open Tryz
open Go.RowKit
set_option linter.unusedVariables false
section
variable {P:Program} {ops:Array Oper} {md:Region.Mode} {C:World->Prop} {Q:Exit->Act->World->Prop}
def fZ(P:Program)(Q:Exit->Act->World->Prop)(o:Oper)(a:Act)(w:World):Prop:=o.wp P a w (fun _ _=>False) (fun e _ w'=>∀ a',a'.defers=a.defers->Q e a' w')
theorem fZ.other{o:Oper}{a b:Act}{w:World}(h:fZ P Q o a w)(he:execOp b.eval o=execOp a.eval o)(hd:b.defers=a.defers):fZ P Q o b w:=by
 unfold fZ Oper.wp at *;rw[he,hd];generalize (execOp a.eval o).run P w=r at *
 cases r with
 | ok n w'=>cases n <;> exact h
 | halt x w'=>cases x <;> exact h
theorem fZ.wp{o:Oper}{a:Act}{w:World}{K:Act->World->Prop}(h:fZ P Q o a w):o.wp P a w K Q:=by
 unfold fZ Oper.wp at *;generalize (execOp a.eval o).run P w=r at *
 cases r with
 | ok n w'=>
  cases n <;> simp only[Oper.upon] at*<;> try exact h.elim
  case enter f args=>
   refine h.mono ?_;intro e w'' h2
   cases e with
   | returned v=>exact h2.elim
   | panicked c=>exact h2 a rfl
   | outgrown=>
    have h3:LetsOut (fun (e:Exit) (_:Act) (w':World)=>∀ a',a'.defers=a.defers->Q e a' w'):=h2;obtain⟨b,w1,h4⟩:=h3;exact⟨a,w1,h4 a rfl⟩
  case row r args=>exact h.mono fun v w'' h2=>h2.elim
 | halt x w'=>
  cases x <;> simp only[Oper.upon] at*<;> first|exact h.elim|exact h a rfl
def qK(P:Program)(ops:Array Oper)(C:World->Prop)(Q:Exit->Act->World->Prop)(i:Nat)(K:Act->Prop)(a:Act):Prop:=
 qOp P ops C i K a\/∃ o,ops[i]?=some o/\Region.wanted o (yielded ops a.tmps)=true/\∀ w,C w->fZ P Q o a w
def jZ(P:Program)(md:Region.Mode)(ops:Array Oper)(C:World->Prop)(Q:Exit->Act->World->Prop):Nat->Array Bool->Act->Prop
 | 0,ls,a=>Region.ready md ops ls=[]/\∀ w,C w->Q .normal a w
 | n+1,ls,a=>(Region.ready md ops ls=[]->∀ w,C w->Q .normal a w)/\∀ i∈Region.ready md ops ls,qK P ops C Q i (jZ P md ops C Q n (ls.setIfInBounds i true)) a
theorem ZV{i:Nat}{a:Act}{K K':Act->Prop}(h:∀ a,K a->K' a)(hh:qK P ops C Q i K a):qK P ops C Q i K' a:=hh.imp (qOp_mono h) id
theorem zN:∀ (n:Nat) (ls:Array Bool) (a:Act) (w:World),C w->jZ P md ops C Q n ls a->wpAny P md ops Q n ls a w
 | 0,_,_,_,hw,h=>⟨h.1,h.2 _ hw⟩
 | n+1,_,_,_,hw,h=>⟨fun h0=>h.1 h0 _ hw,fun i hi=>by
   rcases h.2 i hi with h1|⟨o,ho,hwt,hd⟩
   ·exact wpOp_of_qOp hw (fun a' w' hw'=>zN n _ a' w' hw') h1
   ·unfold wpOp;simp only[ho,hwt,if_true];exact .inl (hd _ hw).wp⟩
theorem SM{j:Nat}{oi oj:Oper}{v:Value}(hj:ops[j]?=some oj)(hap:oi.apart ops oj=true)(hsi:∀ cs b,oi.op≠.select cs b)(hsj:∀ cs b,oj.op≠.select cs b){K:Act->Prop}{a:Act}
  (hy:YieldsIn P ops C oi v a) (h:qK P ops C Q j K (a.put oi.dst v)):qK P ops C Q j (fun a'=>YieldsIn P ops C oi v a'/\K (a'.put oi.dst v)) a:=by
 rcases h with h|⟨o,ho,hwt,hd⟩
 ·exact .inl (qOp_put hj hap hsi hsj hy h)
 ·obtain rfl:oj=o:=Option.some.inj (hj.symm.trans ho);obtain⟨h1,h2,h3⟩:=Oper.apart_spec hap;refine .inr ⟨oj,ho,by rw[<-wanted_put oj a oi.dst v h1];exact hwt,fun w hw=>(hd w hw).other (execOp_put oj hsj a oi.dst v h1).symm (by cases oi.dst <;> rfl)⟩
theorem zhe{i:Nat}{oi:Oper}{v:Value}(hi:ops[i]?=some oi)(hsel:∀ (j:Nat) (o:Oper) cs b,ops[j]?=some o->o.op≠.select cs b):∀ (n:Nat) (ls:Array Bool) (a:Act),
  (∀ j oj,ops[j]?=some oj->j≠i->ls.getD j true=false->(∀ e∈oj.after,Region.binds md e=true->e.on≠i)->oi.apart ops oj=true)->i∈Region.ready md ops ls->YieldsIn P ops C oi v a->
  jZ P md ops C Q n (ls.setIfInBounds i true) (a.put oi.dst v)->jZ P md ops C Q (n+1) ls a:=by
 intro n;induction n with
 | zero=>
  intro ls a _ hr hy H;refine⟨fun h0=>(by rw[h0] at hr;cases hr),fun j hj=>?_⟩;by_cases e:j=i
  ·rw[e];exact .inl (hy.qOp hi H)
  ·have:=ready_mono hj e;rw[H.1] at this
   cases this
 | succ n ih=>
  intro ls a hf hr hy H;refine⟨fun h0=>(by rw[h0] at hr;cases hr),fun j hj=>?_⟩;by_cases e:j=i
  ·rw[e];exact .inl (hy.qOp hi H)
  ·obtain⟨hun,oj,hoj,hall⟩:=mem_ready.1 hj;have hno:∀ e∈oj.after,Region.binds md e=true->e.on≠i:=fun d hd hb hq=>by
    have g1:=hall d hd hb;have g0:=(mem_ready.1 hr).1;rw[hq] at g1;rcases Nat.lt_or_ge i ls.size with hl|hl
    ·simp[hl] at g0 g1;rw[g0] at g1;cases g1
    ·simp[Array.getElem?_eq_none hl] at g1
   have g2:=SM hoj (hf j oj hoj e hun hno) (fun cs b=>hsel i oi cs b hi) (fun cs b=>hsel j oj cs b hoj) hy (H.2 j (ready_mono hj e));refine ZV (fun a' g3=>ih (ls.setIfInBounds j true) a' (fun k ok hk hki hu hn=>?_) (ready_mono hr (Ne.symm e)) g3.1 ?_) g2
   ·refine hf k ok hk hki ?_ hn;by_cases e2:j=k
    ·rw[<-e2];exact hun
    ·rwa [Go.getD_set_ne true e2] at hu
   ·rw[Array.setIfInBounds_comm _ _ e];exact g3.2
theorem zM{o:Oper}(hs:Region.noSelect ops=true):∀ (l:List Oper) (k:Nat) (ls:Array Bool) (a:Act),(∀ j,(l ++ [o])[j]?=ops[k + j]?)->Region.lexFrom md ops (l ++ [o]).length k ls=true->
  wpQuiet P ops C (fun a'=>Region.wanted o (yielded ops a'.tmps)=true/\∀ w,C w->fZ P Q o a' w) l a->jZ P md ops C Q (l ++ [o]).length ls a
 | [],k,ls,a,hl,hB,h=>by
  have h0:ops[k]?=some o:=by simpa using (hl 0).symm
  simp only[List.nil_append,List.length_cons,List.length_nil,Region.lexFrom,Bool.and_eq_true] at hB;obtain⟨⟨hr,hf⟩,hB'⟩:=hB;have hr':k∈Region.ready md ops ls:=by simpa using hr
  refine⟨fun h0=>(by rw[h0] at hr';cases hr'),fun j hj=>?_⟩;by_cases e:j=k
  ·rw[e];exact .inr ⟨o,h0,h.1,h.2⟩
  ·have:=ready_mono hj e;rw[List.isEmpty_iff.1 hB'] at this
   cases this
 | x :: l,k,ls,a,hl,hB,h=>by
  have h0:ops[k]?=some x:=by simpa using (hl 0).symm
  simp only[List.cons_append,List.length_cons,Region.lexFrom,Bool.and_eq_true] at hB;obtain⟨⟨hr,hf⟩,hB'⟩:=hB;have hst:qOp P ops C k (wpQuiet P ops C (fun a'=>Region.wanted o (yielded ops a'.tmps)=true/\∀ w,C w->fZ P Q o a' w) l) a:=by unfold qOp;simp only[h0];exact h
  obtain⟨v,hy,hK⟩:=yieldsIn_of_qOp h0 hst;exact zhe h0 (Region.noSelect_spec hs) _ ls a (Region.free_spec h0 hf) (by simpa using hr) hy
   (zM hs l (k+1) _ _ (fun j=>by have:=hl (j+1);simpa [Nat.add_assoc,Nat.add_comm 1 j] using this) hB' hK)
end
theorem FK{P:Program}{id:Nat}{Q:Exit->Act->World->Prop}{a:Act}{w:World}{l:List Oper}{C:World->Prop}(hm:P.follows .mixedOrders=true)(hB:Region.lexB .any l.toArray=true)
  (hl:l≠[]) (hC:C w.drew) (h:wpQuiet P l.toArray C (fun a'=>Region.wanted (l.getLast hl) (yielded l.toArray a'.tmps)=true/\∀ w,C w->fZ P Q (l.getLast hl) a' w) l.dropLast a):(Code.region id l.toArray true).wp P Q a w:=by
 have e:=List.dropLast_concat_getLast hl;generalize l.dropLast=l' at *;generalize l.getLast hl=o at *;subst e;simp only[Region.lexB,Bool.and_eq_true] at hB;refine wp_region_any hm (zN _ _ _ _ hC ?_);have:=zM (P:=P) (Q:=Q) (C:=C) (md:=.any) hB.1 l' 0 (Array.replicate (l' ++ [o]).toArray.size false) a (by simp) (by simpa using hB.2) h;simpa using this
theorem DM{P:Program}{Q:Exit->Act->World->Prop}{o:Oper}{a:Act}{w:World}{f:FuncId}{args:Array Operand}{ts:Array TypeId}(hc:∀ xs w,Sem.run P (callFunc f xs) w=.ok (.enter f xs) w)(ho:o.op=.call { callee:=.value (.func f),args:=args,argTypes:=ts })
  (h:Calls P f (args.map a.eval) w fun e w'=>∃ ch,e=.panicked ch/\∀ a',a'.defers=a.defers->Q (.panic ch) a' w'):fZ P Q o a w:=by
 have hr:(execOp a.eval o).run P w=.ok (.enter f (args.map a.eval)) w:=by
  unfold execOp;rw[ho];simp[go_sem,hc]
 unfold fZ Oper.wp;rw[hr];refine h.mono ?_;rintro e w' ⟨ch,rfl,h2⟩;exact h2
theorem zch{P:Program}{id:Nat}{Q:Exit->Act->World->Prop}{a:Act}{w:World}{l:List Oper}(hm:P.follows .mixedOrders=true)(hB:Region.lexB .any l.toArray=true)
  (hl:l≠[]) (h:wpQuiet P l.toArray (fun w'=>∃ n,w'=w.drewN n) (fun a'=>Region.wanted (l.getLast hl) (yielded l.toArray a'.tmps)=true/\∀ w',(∃ n,w'=w.drewN n)->fZ P Q (l.getLast hl) a' w') l.dropLast a):(Code.region id l.toArray true).wp P Q a w:=
 FK (C:=fun w'=>∃ n,w'=w.drewN n) hm hB hl ⟨1,rfl⟩ h
end Go.Proofs.YtkfmheelhinjdaaGreatDoor.W
