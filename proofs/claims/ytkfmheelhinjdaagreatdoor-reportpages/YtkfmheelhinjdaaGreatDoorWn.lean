import Derived.Test.YtkfmheelhinjdaaGreatDoorXu
import Derived.WideKeyEntry
import Derived.DeepKeys4
set_option maxRecDepth 1000000
set_option maxHeartbeats 80000000
namespace Go.Proofs.YtkfmheelhinjdaaGreatDoor
open Tryz
open Go.RowKit Go.MapKept
open Go.ChangeMaps (setBlock heap_setBlock_same heap_setBlock_other)
open Go.Maps (Keyed)
set_option linter.unusedVariables false
section
variable {α : Type} {enc : α->Value} {ok : α->Prop} {k e t:TypeId} {w w':World} {b st:Nat} {D:List α} {c : α->Nat} {a : α}
def gX(enc : α->Value)(w:World)(b st:Nat)(a : α):Prop:=∃ (es:Array MapEntry) (clock j:Nat) (e0:MapEntry),w.heap[b]?=some (.map es clock)/\es.toList[j]?=some e0/\e0.key=enc a/\e0.born=st
theorem gX.kept{S:Nat->Prop}(h:gX enc w b st a)(k:Kt S w w')(hb:¬S b):gX enc w' b st a:=by
 obtain⟨es,clock,j,e0,h1,h2⟩:=h;exact⟨es,clock,j,e0,(k.block b (Array.getElem?_eq_some_iff.1 h1).1 hb).trans h1,h2⟩
theorem tR(h:a∈D):bA D a=D:=by unfold bA;rw[if_pos h]
theorem MC.entry(T:KT k enc ok)(h:MC enc ok w b D c)(ht:prog.underlying t=some (.map k e))(hz:∀ w,(zeroValue e).run prog w=.ok (.int .i64 0) w)(a : α)(ha:ok a):
  ∃ (w':World) (v0:Value) (st:Nat),(Instr.mapEntry t (.map (some b)) (enc a)).run prog w=.ok (.tuple #[v0,goInt st]) w'/\MC enc ok w' b (bA D a) c/\gX enc w' b st a/\(∀ s2,gX enc w b s2 a->gX enc w' b s2 a)/\Kt (fun x=>x=b) w w':=by
 have h0:=h;obtain⟨⟨es,clock,hb,hst,hL⟩,hlt,h9⟩:=h;obtain⟨l,hl⟩:=T.key a ha;have hbl:=h0.ltsz;have hlt':∀ x∈bA D a,ok x:=fun x hx=>((nU a x).1 hx).elim (hlt x) (fun e=>e▸ha)
 have hz':∀ x,x ∉ bA D a->c x=0:=fun x hx=>h9 x (fun hD=>hx ((nU a x).2 (.inl hD)))
 rcases h0.find T hL a ha with ⟨h1,h2,h3⟩|⟨j,e0,h1,h2,h3,h4,h5⟩
 ·have eD:bA D a=D ++ [a]:=by unfold bA;rw[if_neg h2]
  refine⟨setBlock w b (.map (es.push ⟨enc a,.int .i64 0,clock⟩) (clock+1)),.int .i64 0,clock,?_,⟨⟨_,_,heap_setBlock_same hb _,stamped_push hst h3,?_⟩,hlt',hz'⟩,⟨_,_,es.size,⟨enc a,.int .i64 0,clock⟩,heap_setBlock_same hb _,by simp,rfl,rfl⟩,?_,nX hbl⟩
  ·simp[Instr.mapEntry,run_underlying ht,MapKept.run_getObj_map hb,T.K.check w false hl,h1,hz,MapKept.run_setObj_map _ hb,Result.andThen,setBlock]
  ·have e2:fL ⟨enc a,.int .i64 0,clock⟩=eK enc c a:=by
    unfold fL eK;rw[h9 a h2];rfl
   rw[eD,Array.toList_push,List.map_append,List.map_append,hL,List.map_singleton,List.map_singleton,e2]
  ·rintro s2 ⟨es2,cl2,j,e0,q1,q2,q3,q4⟩;rw[hb] at q1
   cases q1
   exact absurd q3 (h3 e0 (List.mem_of_getElem? q2))
 ·have eD:bA D a=D:=tR (List.mem_of_getElem? h4);have hj:es[j]?=some e0:=by simpa using h2
  have hsame:es.modify j (fun e=>{ e with key:=enc a })=es:=by
   apply Array.ext'
   rw[Array.toList_modify,Go.ChangeMaps.modify_eq_set _ _ _ _ h2];have:({ e0 with key:=enc a } : MapEntry)=e0:=by rw[<-h3]
   rw[this];exact WideElems.set_self _ _ _ h2
  refine⟨setBlock w b (.map es clock),e0.val,e0.born,?_,⟨⟨es,clock,heap_setBlock_same hb _,hst,by rw[eD];exact hL⟩,hlt',hz'⟩,⟨es,clock,j,e0,heap_setBlock_same hb _,h2,h3,rfl⟩,?_,nX hbl⟩
  ·simp[Instr.mapEntry,run_underlying ht,MapKept.run_getObj_map hb,T.K.check w false hl,h1,hj,h3,T.K.stays w hl,hsame,MapKept.run_setObj_map _ hb,Result.andThen,setBlock]
  ·rintro s2 ⟨es2,cl2,j2,e2,q1,q2,q3,q4⟩;rw[hb] at q1
   cases q1
   exact⟨es,clock,j2,e2,heap_setBlock_same hb _,q2,q3,q4⟩
theorem MC.put(T:KT k enc ok)(h:MC enc ok w b D c)(E:gX enc w b st a)(ha:ok a)(t:TypeId)(v:Nat)(c' : α->Nat)(hc:c' a=v)(hc2:∀ x,x≠a->c' x=c x):
  ∃ w',(Instr.entryStore t (.map (some b)) (goInt st) (eB v)).run prog w=.ok () w'/\MC enc ok w' b D c'/\a∈D/\Kt (fun x=>x=b) w w':=by
 have h0:=h;have hnd:=h.nodup;obtain⟨⟨es,clock,hb,hst,hL⟩,hlt,h9⟩:=h;have hbl:=h0.ltsz;obtain⟨es2,cl2,j,e0,q1,h2,h3,h6⟩:=E;rw[hb] at q1
 cases q1
 have e1:=congrArg (fun l=>l[j]?) hL;simp only[List.getElem?_map,h2,Option.map_some] at e1
 cases hD:D[j]? with
 | none=>rw[hD] at e1;cases e1
 | some p=>
  rw[hD] at e1;have e2:fL e0=eK enc c p:=Option.some.inj e1;have e3:p=a:=T.inj p a (hlt p (List.mem_of_getElem? hD)) ha ((congrArg Prod.fst e2).symm.trans h3);subst e3;have hj:es[j]?=some e0:=by simpa using h2
  have hidx:es.findIdx? (fun e=>((e.born:Nat):Int) == ((st:Nat):Int))=some j:=by
   rw[WideElems.findIdx_arr,<-h6];exact WideElems.findIdx_born ((stamped_iff es clock).1 hst).2.1 h2
  refine⟨setBlock w b (.map (es.modify j (fun e'=>{ e' with val:=eB v })) clock),?_,⟨⟨_,_,heap_setBlock_same hb _,stamped_modify hst _ _ (fun _ _=>rfl) (fun _ _ _=>rfl),?_⟩,hlt,fun x hx=>?_⟩,List.mem_of_getElem? hD,nX hbl⟩
  ·simp[Instr.entryStore,MapKept.run_getObj_map hb,asInt,asIntOf,goInt,hidx,MapKept.run_setObj_map _ hb,Result.andThen,setBlock]
  ·apply List.ext_getElem?
   intro i;have hi:=congrArg (fun l=>l[i]?) hL;simp only[List.getElem?_map] at hi;simp only[List.getElem?_map,Array.getElem?_toList,Array.getElem?_modify];simp only[Array.getElem?_toList] at hi
   cases hDi:D[i]? with
   | none=>
    rw[hDi] at hi
    cases he:es[i]? with
    | none=>split <;> simp
    | some x=>rw[he] at hi;cases hi
   | some q=>
    rw[hDi] at hi
    cases he:es[i]? with
    | none=>rw[he] at hi;cases hi
    | some x=>
     rw[he] at hi;have hxe:fL x=eK enc c q:=Option.some.inj hi;by_cases hij:j=i
     ·subst hij;rw[hD] at hDi
      cases hDi
      rw[hj] at he
      cases he
      have:=congrArg Prod.fst hxe;simp[fL,eK,hc] at this ⊢;exact this
     ·have hpn:q≠p:=fun e1=>by
       obtain⟨q1,q1'⟩:=List.getElem?_eq_some_iff.1 hD;obtain⟨q2,q2'⟩:=List.getElem?_eq_some_iff.1 hDi;rcases Nat.lt_or_gt_of_ne hij with hlt'|hlt'
       ·exact List.pairwise_iff_getElem.1 hnd j i q1 q2 hlt' (q1'.trans (e1.symm.trans q2'.symm))
       ·exact List.pairwise_iff_getElem.1 hnd i j q2 q1 hlt' (q2'.trans (e1.trans q1'.symm))
      simp only[hij,if_false,Option.map_some,hxe];unfold eK;rw[hc2 q hpn]
  ·rw[hc2 x (fun e=>hx (e▸List.mem_of_getElem? hD))];exact h9 x hx
end
section
variable {α : Type} {enc : α->Value} {ok : α->Prop} (w:World) {ops:Array Oper} {rest:List Oper} {o:Oper} {ac:Act} {Q:Exit->Act->World->Prop} {D:List α} {c : α->Nat}
theorem ZK(hg:o.guard=none)(m x:Operand)(t:TypeId)(hop:o.op=Op.mapEntry t m x)(k e:TypeId)(T:KT k enc ok)(ht:prog.underlying t=some (.map k e))(hz:∀ w,(zeroValue e).run prog w=.ok (.int .i64 0) w)
  (b:Nat) (hm:ac.eval m=.map (some b)) (h:MC enc ok w b D c) (n : α) (hn:ok n) (hx:ac.eval x=enc n)
  (hK:∀ (w':World) (v0:Value) (st:Nat),MC enc ok w' b (bA D n) c->gX enc w' b st n->(∀ s2,gX enc w b s2 n->gX enc w' b s2 n)->Kt (fun x=>x=b) w w'->wpList prog ops Q rest (ac.put o.dst (.tuple #[v0,goInt st])) w'):wpList prog ops Q (o :: rest) ac w:=by
 refine wpList_plain hg fun K' hK'=>?_
 obtain⟨w',v0,st,hrun,r1,r2,r3,r4⟩:=h.entry T ht hz n hn;unfold Oper.wp;simp[execOp,hop,hm,hx,hrun,Result.andThen];exact hK' _ _ (hK w' v0 st r1 r2 r3 r4)
theorem OH(hg:o.guard=none)(m s x:Operand)(t:TypeId)(hop:o.op=Op.entryStore t m s x)(k:TypeId)(T:KT k enc ok)(b st:Nat)(hm:ac.eval m=.map (some b))(hs:ac.eval s=goInt st)(h:MC enc ok w b D c)(n : α)(hn:ok n)(E:gX enc w b st n)(val:Nat)(c' : α->Nat)(hc:c' n=val)(hc2:∀ x,x≠n->c' x=c x)(hv:ac.eval x=eB val)
  (hK:∀ w',MC enc ok w' b D c'->n∈D->Kt (fun x=>x=b) w w'->wpList prog ops Q rest (ac.put o.dst undef) w'):wpList prog ops Q (o :: rest) ac w:=by
 refine wpList_plain hg fun K' hK'=>?_
 obtain⟨w',hrun,r1,r2,r3⟩:=h.put T E hn t val c' hc hc2;unfold Oper.wp;simp[execOp,hop,hm,hs,hv,hrun,Result.andThen];exact hK' _ _ (hK w' r1 r2 r3)
end
end Go.Proofs.YtkfmheelhinjdaaGreatDoor
namespace Go.Proofs.YtkfmheelhinjdaaGreatDoor.W
open Tryz
open Go.RowKit
set_option linter.unusedVariables false
set_option maxHeartbeats 8000000
set_option maxRecDepth 6000
abbrev eU(n:Nat):Value:=.int .u64 n
abbrev jH(n:Nat):Prop:=n<18446744073709551616
theorem vH(n:Nat)(hn:n<18446744073709551616):(Lit.int .u64 n).wf=true:=by
 simp[Lit.wf,IntKind.min,IntKind.max,IntKind.signed,IntKind.bits];omega
theorem mV:KT 27 eU jH:=
 ⟨Maps.int_keyed Tryz.underlying27,fun a h=>⟨_,Maps.keyOf_int_mk Tryz.underlying27 (vH a h)⟩,fun a b _ _ e=>by injection e with _ e;omega⟩
theorem MH:laidOutB prog=true:=by kernel_rfl
theorem QI:∃ m,prog.types.size=m+1:=⟨prog.types.size-1,by have : 0<prog.types.size:=of_decide_eq_true (by kernel_rfl);omega⟩
theorem qL{m:Nat}(n:Int)(h:N64 n):prog.keyLits (m+1) 3 [.int .i64 n]=some [.int .i64 n]:=by
 unfold Program.keyLits;rw[Tryz.underlying3];refine if_pos ⟨rfl,?_⟩;simp[Lit.wf,IntKind.min,IntKind.max,IntKind.signed,IntKind.bits];exact h
abbrev gH:=Int×Int×Int×Int
abbrev eS(s:gH):Value:=.agg #[.int .i64 s.1,.int .i64 s.2.1,.int .i64 s.2.2.1,.int .i64 s.2.2.2]
abbrev kR(s:gH):Prop:=N64 s.1/\N64 s.2.1/\N64 s.2.2.1/\N64 s.2.2.2
theorem sS:KT 101 eS kR:=by
 refine⟨Maps.Keyed.of_law (deep_law_laid MH (m:=2) (by omega) (of_decide_eq_true (by kernel_rfl)) (by kernel_rfl) (by kernel_rfl)),fun a h=>?_,fun a b _ _ e=>?_⟩
 ·obtain⟨m,hm⟩:=QI;have f1:(eS a).formed prog 101=true:=by
   simp only[Value.formed,Tryz.underlying101];exact decide_eq_true (by kernel_rfl)
  have k1:prog.keyType 101=true:=by kernel_rfl
  unfold keyOf;rw[Tryz.underlying101];simp only[f1,k1,Bool.and_self,if_true];have c2:prog.cellsOf 101=4:=by kernel_rfl
  have c1:prog.cellsOf 3=1:=by kernel_rfl
  have key:prog.keyLits (prog.types.size+1) 101 (eS a).cells.toList=some [.int .i64 a.1,.int .i64 a.2.1,.int .i64 a.2.2.1,.int .i64 a.2.2.2]:=by
   rw[hm];unfold Program.keyLits;rw[Tryz.underlying101];simp[Value.cells,c2,c1,qL _ h.1,qL _ h.2.1,qL _ h.2.2.1,qL _ h.2.2.2]
  rw[key];exact⟨_,rfl⟩
 ·injection e with e
  simp only[Array.mk.injEq,List.cons.injEq,Value.int.injEq,true_and,and_true] at e;obtain⟨e1,e2,e3,e4⟩:=e;exact Prod.ext e1 (Prod.ext e2 (Prod.ext e3 e4))
abbrev dC(p:Pg):gH:=(p.kd,p.od,p.cl,p.lv)
theorem zY(p:Pg)(W:World):Calls prog 49 #[dU p] W fun e w'=>e=.returned (eS (dC p))/\Kt nO W w':=by
 obtain⟨kd,od,cl,lv,nx,pv,fs,b0,b1,b2,b3⟩:=p;go_enter func49,ntmps49;go_wp2
 exact⟨rfl,_,by simp[results,results49,go_sem],rfl,((Kt.refl _ W).alloc _).alloc _⟩
end Go.Proofs.YtkfmheelhinjdaaGreatDoor.W
namespace Go.Proofs.YtkfmheelhinjdaaGreatDoor
open Tryz
open Go.RowKit
set_option linter.unusedVariables false
section
variable {α : Type} {enc : α->Value} {ok : α->Prop} {g:Nat} {D:List α} {c : α->Nat} {x : α}
def lL(enc : α->Value)(ok : α->Prop)(g:Nat)(D:List α)(c : α->Nat)(x : α)(W:World):Prop:=∃ D',(D'=D\/D'=bA D x)/\MC enc ok W g D' c
structure GmP(enc : α->Value)(ok : α->Prop)(g:Nat)(D:List α)(c : α->Nat)(x : α)(W W':World):Prop where
 k:Kt (fun y=>y=g) W W'
 m:lL enc ok g D c x W->lL enc ok g D c x W'
 e:∀ st,gX enc W g st x->gX enc W' g st x
theorem GmP.trans{a b d:World}(h:GmP enc ok g D c x a b)(k:GmP enc ok g D c x b d):GmP enc ok g D c x a d:=
 ⟨h.k.trans k.k (fun _ _ e=>e) (fun _ _ e=>e),fun m=>k.m (h.m m),fun st e=>k.e st (h.e st e)⟩
theorem GmP.of_kept{W W':World}(k:Kt nO W W'):GmP enc ok g D c x W W':=
 ⟨k.mono (fun _ _ e=>e.elim),fun ⟨D',h1,h2⟩=>⟨D',h1,h2.kept k id⟩,fun _ h=>h.kept k id⟩
theorem GmP.drew{W:World} : GmP enc ok g D c x W W.drew:=GmP.of_kept (Kt.refl nO W).drew
theorem GmP.rfl'{W:World} : GmP enc ok g D c x W W:=GmP.of_kept (Kt.refl nO W)
theorem YW:bA (bA D x) x=bA D x:=tR ((nU x x).2 (.inr rfl))
theorem lL.add{W:World}(h:lL enc ok g D c x W):∃ D',MC enc ok W g D' c/\bA D' x=bA D x:=by
 obtain⟨D',rfl|rfl,h2⟩:=h
 ·exact⟨D',h2,rfl⟩
 ·exact⟨_,h2,YW⟩
def gG(v:Value):Value->World->Prop:=fun u _=>u=v
def lK(enc : α->Value)(g:Nat)(x : α):Value->World->Prop:=fun u W=>∃ v0 st,u=.tuple #[v0,goInt ((st:Nat):Int)]/\gX enc W g st x
def lJ(enc : α->Value)(g:Nat)(x : α):Value->World->Prop:=fun u W=>∃ st:Nat,u=goInt ((st:Nat):Int)/\gX enc W g st x
def iX(enc : α->Value)(g:Nat)(x : α)(f bx:Value)(n:Nat):List (Value->World->Prop):=[gG (.map (some g)),gG f,gG bx,gG (enc x),gG (eB n),gG (eB (n+1)),lK enc g x,lJ enc g x]
theorem PY{f bx:Value}{n:Nat}(i:Nat):∀ u W W',((iX enc g x f bx n).getD i cT) u W->GmP enc ok g D c x W W'->((iX enc g x f bx n).getD i cT) u W':=by
 have key:∀ r∈iX enc g x f bx n,∀ u W W',r u W->GmP enc ok g D c x W W'->r u W':=by
  have h1:∀ v,∀ u W W',gG v u W->GmP enc ok g D c x W W'->gG v u W':=fun v u W W' h _=>h
  have h2:∀ u W W',lK enc g x u W->GmP enc ok g D c x W W'->lK enc g x u W':=fun u W W' ⟨v0,st,h3,h4⟩ k=>⟨v0,st,h3,k.e _ h4⟩
  have h3:∀ u W W',lJ enc g x u W->GmP enc ok g D c x W W'->lJ enc g x u W':=fun u W W' ⟨st,h3,h4⟩ k=>⟨st,h3,k.e _ h4⟩
  unfold iX;repeat refine List.forall_mem_cons.2 ⟨by first|exact h1 _|exact h2|exact h3,?_⟩
  exact fun r hr=>by cases hr
 rw[List.getD_eq_getElem?_getD]
 cases e:(iX enc g x f bx n)[i]? with
 | none=>exact fun _ _ _ h _=>h
 | some r=>exact key r (List.mem_of_getElem? e)
end
end Go.Proofs.YtkfmheelhinjdaaGreatDoor
