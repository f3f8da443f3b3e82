import Derived.Test.YtkfmheelhinjdaaGreatDoorWf
import Derived.Maps.RangeWalk
import Derived.WideKeyEntry
import Derived.DeepKeys4
import Derived.Test.YtkfmheelhinjdaaGreatDoorWg
set_option maxRecDepth 1000000
set_option maxHeartbeats 80000000
namespace Go.Proofs.YtkfmheelhinjdaaGreatDoor.W
open Tryz
open Go.RowKit
set_option linter.unusedVariables false
def Gd9(I:Img)(g:Nat):Prop:=((I.pg g).kd=1\/(I.pg g).kd=3)\/(hdOk (I.pg g) g=true/\∀ i,i<2 ^ (I.pg g).od.toNat-1->rsOk (I.pg g) (I.pg (g+1+i))=true)
theorem wL{p q:Pg}(h:rsOk p q=true):q.kd=p.kd+1:=by
 have:q=aN (p.kd+1) p.od:=of_decide_eq_true h;rw[this];rfl
theorem wK{p:Pg}{a:Nat}(h:hdOk p a=true):(p.kd=4/\p.od=0)\/((p.kd=0\/p.kd=2)/\a%2 ^ p.od.toNat=0):=by
 unfold hdOk at h;split at h
 ·rename_i e;exact .inl ⟨e,by simpa using h⟩
 ·split at h
  ·rename_i e;simp only[Bool.and_eq_true,decide_eq_true_eq] at h;exact .inr ⟨e,h.1⟩
  ·cases h
theorem yW{I:Img} : ∀ n a,r4F I n a=none->I.np<=a+n->∀ g,a<=g->g<I.np->Gd9 I g
 | 0,a,_,hn,g,h1,h2=>absurd h2 (by omega)
 | n+1,a,h,hn,g,h1,h2=>by
  unfold r4F at h;rw[if_neg (by omega)] at h;by_cases hh:hdOk (I.pg a) a=false
  ·rw[if_pos hh] at h;cases h
  rw[if_neg hh] at h;have hh:hdOk (I.pg a) a=true:=by simpa using hh
  cases e:fst1 (2 ^ (I.pg a).od.toNat-1) (fun i=>rsOk (I.pg a) (I.pg (a+1+i)))with
  | some i=>rw[e] at h;cases h
  | none=>
   rw[e] at h;have hr:=mU e;have hp : 0<2 ^ (I.pg a).od.toNat:=Nat.two_pow_pos _;by_cases g1:g=a
   ·subst g1;exact .inr ⟨hh,hr⟩
   ·by_cases g2:g<a+2 ^ (I.pg a).od.toNat
    ·left
     obtain⟨i,rfl⟩:∃ i,g=a+1+i:=⟨g-(a+1),by omega⟩;have:=wL (hr i (by omega));rcases wK hh with ⟨_,e0⟩|⟨e1|e1,_⟩
     ·exfalso
      have e2:(I.pg a).od.toNat=0:=(by omega);rw[e2] at g2;omega
     ·left;omega
     ·right;omega
    ·exact yW n _ h (by omega) g (by omega) h2
end Go.Proofs.YtkfmheelhinjdaaGreatDoor.W
namespace Go.Proofs.YtkfmheelhinjdaaGreatDoor
open Tryz
open Go.RowKit Go.MapKept
open Go.ChangeMaps (setBlock heap_setBlock_same heap_setBlock_other)
open Go.Maps (Keyed)
set_option linter.unusedVariables false
structure KT(k:TypeId){α : Type}(enc : α->Value)(ok : α->Prop):Prop where
 K:Keyed prog k
 key:∀ a,ok a->∃ l,keyOf prog k (enc a)=some l
 inj:∀ a b,ok a->ok b->enc a=enc b->a=b
abbrev dZ(n:Nat):Value:=.int .i64 n
def fN(e:MapEntry):Value×Value:=(e.key,e.val)
section
variable {α : Type} {enc : α->Value} {ok : α->Prop} {k e t:TypeId} {w w':World} {b r:Nat} {D rest:List α} {c : α->Nat}
def eG(enc : α->Value)(c : α->Nat)(a : α):Value×Value:=(enc a,dZ (c a))
structure MC(enc : α->Value)(ok : α->Prop)(w:World)(b:Nat)(D:List α)(c : α->Nat):Prop where
 ex:∃ es clock,w.heap[b]?=some (.map es clock)/\Stamped es clock/\es.toList.map fN=D.map (eG enc c)
 lt:∀ a∈D,ok a
 z:∀ a,a ∉ D->c a=0
theorem MC.nodup(h:MC enc ok w b D c):D.Nodup:=by
 obtain⟨⟨es,clock,hb,hst,hL⟩,hlt,_⟩:=h;have h3:=((stamped_iff es clock).1 hst).2.2;have h4:(es.toList.map fN).Pairwise (fun x y=>x.1≠y.1):=List.pairwise_map.2 h3;rw[hL] at h4;exact(List.pairwise_map.1 h4).imp fun {p q} hne e=>hne (by rw[e])
theorem MC.ltsz(h:MC enc ok w b D c):b<w.heap.size:=by
 obtain⟨⟨es,clock,hb,_⟩,_⟩:=h;exact(Array.getElem?_eq_some_iff.1 hb).1
theorem MC.kept{S:Nat->Prop}(h:MC enc ok w b D c)(k:Kt S w w')(hb:¬S b):MC enc ok w' b D c:=by
 have hl:=h.ltsz;obtain⟨⟨es,clock,h1,h2⟩,h3,h4⟩:=h;exact⟨⟨es,clock,(k.block b hl hb).trans h1,h2⟩,h3,h4⟩
theorem MC.made(w:World):MC enc ok (w.alloc (.map #[] 0)) w.heap.size [] (fun _=>0):=
 ⟨⟨#[],0,nH w _,stamped_empty 0,rfl⟩,(fun p hp=>by cases hp),fun _ _=>rfl⟩
theorem MC.find(T:KT k enc ok)(h:MC enc ok w b D c){es:Array MapEntry}(hL:es.toList.map fN=D.map (eG enc c))(a : α)(ha:ok a):
  ((Instr.findKey k (enc a) es.toList).run prog w=.ok none w/\a ∉ D/\∀ x∈es.toList,x.key≠enc a)\/
  ∃ j e0,(Instr.findKey k (enc a) es.toList).run prog w=.ok (some (j,e0.val)) w/\es.toList[j]?=some e0/\e0.key=enc a/\D[j]?=some a/\e0.val=dZ (c a):=by
 obtain⟨l,hl⟩:=T.key a ha;rcases T.K.find w hl es.toList (fun x hx=>by
   have:fN x∈D.map (eG enc c):=by rw[<-hL];exact List.mem_map.2 ⟨x,hx,rfl⟩
   obtain⟨p,hp,e1⟩:=List.mem_map.1 this;obtain⟨m,hm⟩:=T.key p (h.lt p hp);exact⟨m,by rw[<-hm];exact congrArg _ (congrArg Prod.fst e1).symm⟩)with ⟨h1,h2⟩|⟨j,e0,h1,h2,h3⟩
 ·refine .inl ⟨h1,fun hD=>?_,h2⟩;have:eG enc c a∈es.toList.map fN:=by rw[hL];exact List.mem_map.2 ⟨a,hD,rfl⟩
  obtain⟨x,hx,e2⟩:=List.mem_map.1 this;exact h2 x hx (congrArg Prod.fst e2)
 ·refine .inr ⟨j,e0,h1,h2,h3,?_⟩;have e1:=congrArg (fun l=>l[j]?) hL;simp only[List.getElem?_map,h2,Option.map_some] at e1
  cases hD:D[j]? with
  | none=>rw[hD] at e1;cases e1
  | some p=>
   rw[hD] at e1;have e2:fN e0=eG enc c p:=Option.some.inj e1;have e3:p=a:=T.inj p a (h.lt p (List.mem_of_getElem? hD)) ha ((congrArg Prod.fst e2).symm.trans h3);subst e3;exact⟨rfl,congrArg Prod.snd e2⟩
theorem MC.look(T:KT k enc ok)(h:MC enc ok w b D c)(ht:prog.underlying t=some (.map k e))(hz:(zeroValue e).run prog w=.ok (.int .i64 0) w)(a : α)(ha:ok a):
  (Instr.lookup t (.map (some b)) (enc a) false).run prog w=.ok (dZ (c a)) w:=by
 have h0:=h;obtain⟨⟨es,clock,hb,hst,hL⟩,hlt,h9⟩:=h;obtain⟨l,hl⟩:=T.key a ha;rcases h0.find T hL a ha with ⟨h1,h2,h3⟩|⟨j,e0,h1,h2,h3,h4,h5⟩
 ·simp[Instr.lookup,run_underlying ht,MapKept.run_getObj_map hb,T.K.check w _ hl,h1,hz,h9 a h2,Result.andThen]
 ·simp[Instr.lookup,run_underlying ht,MapKept.run_getObj_map hb,T.K.check w _ hl,h1,h5,Result.andThen]
theorem oH{w:World}{b:Nat}{o:Obj}(hb:b<w.heap.size):Kt (fun x=>x=b) w (setBlock w b o):=
 ⟨rfl,rfl,rfl,by simp[setBlock],fun i hi hne=>by simp[setBlock,Ne.symm hne]⟩
open Classical in
noncomputable def bA(D:List α)(a : α):List α:=if a∈D then D else D ++ [a]
theorem oE(a x : α):x∈bA D a↔x∈D\/x=a:=by
 unfold bA;split
 ·rename_i h;exact⟨.inl,fun h2=>h2.elim id (fun e=>e▸h)⟩
 ·simp
theorem XH(a : α):(bA D a).length<=D.length+1:=by
 unfold bA;split <;> simp
theorem MC.store(T:KT k enc ok)(h:MC enc ok w b D c)(ht:prog.underlying t=some (.map k e))(hm:D.length<maxLen)(a : α)(ha:ok a)(v:Nat)(c' : α->Nat)(hc:c' a=v)(hc2:∀ x,x≠a->c' x=c x):
  ∃ w',(Instr.mapUpdate t (.map (some b)) (enc a) (dZ v)).run prog w=.ok () w'/\MC enc ok w' b (bA D a) c'/\Kt (fun x=>x=b) w w'/\w'.heap.size=w.heap.size:=by
 have h0:=h;have hnd:=h.nodup;obtain⟨⟨es,clock,hb,hst,hL⟩,hlt,h9⟩:=h;obtain⟨l,hl⟩:=T.key a ha;have hbl:=h0.ltsz;have hlen:es.size<maxLen:=by
  have:=congrArg List.length hL;simp at this;omega
 have hlt':∀ x∈bA D a,ok x:=fun x hx=>((oE a x).1 hx).elim (hlt x) (fun e=>e▸ha)
 have hz':∀ x,x ∉ bA D a->c' x=0:=fun x hx=>by
  have h1:¬(x∈D\/x=a):=fun h2=>hx ((oE a x).2 h2)
  rw[hc2 x (fun e=>h1 (.inr e))];exact h9 x (fun e=>h1 (.inl e))
 rcases h0.find T hL a ha with ⟨h1,h2,h3⟩|⟨j,e0,h1,h2,h3,h4,h5⟩
 ·have eD:bA D a=D ++ [a]:=by unfold bA;rw[if_neg h2]
  refine⟨setBlock w b (.map (es.push ⟨enc a,dZ v,clock⟩) (clock+1)),?_,⟨⟨_,_,heap_setBlock_same hb _,stamped_push hst h3,?_⟩,hlt',hz'⟩,oH hbl,by simp[setBlock]⟩
  ·simp[Instr.mapUpdate,run_underlying ht,MapKept.run_getObj_map hb,T.K.check w false hl,h1,MapKept.run_setObj_map _ hb,Result.andThen,setBlock]
  ·have e1:D.map (eG enc c)=D.map (eG enc c'):=List.map_congr_left fun x hx=>by
    unfold eG;rw[hc2 x (fun e=>h2 (e▸hx))]
   have e2:fN ⟨enc a,dZ v,clock⟩=eG enc c' a:=by
    unfold fN eG;rw[hc]
   rw[eD,Array.toList_push,List.map_append,List.map_append,hL,e1,List.map_singleton,List.map_singleton,e2]
 ·have eD:bA D a=D:=by unfold bA;rw[if_pos (List.mem_of_getElem? h4)]
  have hj:es[j]?=some e0:=by simpa using h2
  have hkeyf:∀ e'∈es.toList,es[j]?=some e'->({ e' with key:=enc a,val:=dZ v } : MapEntry).key=e'.key:=fun e' _ he'=>by rw[hj] at he';cases he';exact h3.symm
  refine⟨setBlock w b (.map (es.modify j (fun e'=>{ e' with key:=enc a,val:=dZ v })) clock),?_,⟨⟨_,_,heap_setBlock_same hb _,stamped_modify hst _ _ (fun _ _=>rfl) hkeyf,?_⟩,hlt',hz'⟩,oH hbl,by simp[setBlock]⟩
  ·simp[Instr.mapUpdate,run_underlying ht,MapKept.run_getObj_map hb,T.K.check w false hl,h1,hj,h3,T.K.stays w hl,MapKept.run_setObj_map _ hb,Result.andThen,setBlock]
  ·rw[eD];apply List.ext_getElem?
   intro i;have hi:=congrArg (fun l=>l[i]?) hL;simp only[List.getElem?_map] at hi;simp only[List.getElem?_map,Array.getElem?_toList,Array.getElem?_modify];simp only[Array.getElem?_toList] at hi
   cases hD:D[i]? with
   | none=>
    rw[hD] at hi
    cases he:es[i]? with
    | none=>split <;> simp
    | some x=>rw[he] at hi;cases hi
   | some p=>
    rw[hD] at hi
    cases he:es[i]? with
    | none=>rw[he] at hi;cases hi
    | some x=>
     rw[he] at hi;have hxe:fN x=eG enc c p:=Option.some.inj hi;by_cases hij:j=i
     ·subst hij;rw[h4] at hD
      cases hD
      simp[fN,eG,hc]
     ·have hpn:p≠a:=fun e1=>by
       obtain⟨q1,q1'⟩:=List.getElem?_eq_some_iff.1 h4;obtain⟨q2,q2'⟩:=List.getElem?_eq_some_iff.1 hD;rcases Nat.lt_or_gt_of_ne hij with hlt'|hlt'
       ·exact List.pairwise_iff_getElem.1 hnd j i q1 q2 hlt' (q1'.trans (e1.symm.trans q2'.symm))
       ·exact List.pairwise_iff_getElem.1 hnd i j q2 q1 hlt' (q2'.trans (e1.trans q1'.symm))
      simp only[hij,if_false,Option.map_some,hxe];unfold eG;rw[hc2 p hpn]
theorem MC.len(h:MC enc ok w b D c)(ht:prog.underlying t=some (.map k e))(ty:TypeId):(Builtin.len_ #[t] ty #[.map (some b)]).run prog w=.ok (.int .i64 D.length) w:=by
 obtain⟨⟨es,clock,hb,hst,hL⟩,hlt⟩:=h;have:=congrArg List.length hL;simp at this;simp[Builtin.len_,run_underlying ht,MapKept.run_getObj_map hb,goInt,Result.andThen,this]
def RC(enc : α->Value)(w:World)(b r:Nat)(D:List α)(c : α->Nat)(rest:List α):Prop:=
 ∃ es clock since seen c0,w.heap[b]?=some (.map es clock)/\Stamped es clock/\es.toList.map fN=D.map (eG enc c)/\w.heap[r]?=some (.mapIter (some b) since seen c0)/\(∀ x∈es.toList,x.born<since)/\since<=c0/\since<=clock/\((leftOf es seen).toList.map fN).Perm (rest.map (eG enc c))
theorem RC.left_eq(h:RC enc w b r D c rest):w.rangeLeft b r=rest.length:=by
 obtain⟨es,clock,since,seen,c0,hb,hst,hL,hr,h1,h2,h3,hp⟩:=h;simp only[World.rangeLeft,hb,hr];simpa using hp.length_eq
theorem RC.ne(h:RC enc w b r D c rest):r≠b:=by
 obtain⟨es,clock,since,seen,c0,hb,hst,hL,hr,h1,h2,h3,hp⟩:=h;intro e;rw[e,hb] at hr
 cases hr
theorem RC.lts(h:RC enc w b r D c rest):b<w.heap.size/\r<w.heap.size:=by
 obtain⟨es,clock,since,seen,c0,hb,hst,hL,hr,h1,h2,h3,hp⟩:=h;exact⟨(Array.getElem?_eq_some_iff.1 hb).1,(Array.getElem?_eq_some_iff.1 hr).1⟩
theorem RC.kept{S:Nat->Prop}(h:RC enc w b r D c rest)(k:Kt S w w')(hb:¬S b)(hr:¬S r):RC enc w' b r D c rest:=by
 have hl:=h.lts;obtain⟨es,clock,since,seen,c0,h1,h2,h3,h4,h5⟩:=h;exact⟨es,clock,since,seen,c0,(k.block b hl.1 hb).trans h1,h2,h3,(k.block r hl.2 hr).trans h4,h5⟩
theorem MC.range(h:MC enc ok w b D c)(ht:prog.underlying t=some (.map k e)):
  ∃ w',(Instr.range t (.map (some b))).run prog w=.ok (.pointer (some ⟨w.heap.size,0,none⟩)) w'/\RC enc w' b w.heap.size D c D/\Kt (fun _=>False) w w'/\w'.heap.size=w.heap.size+1:=by
 have hl:=h.ltsz;obtain⟨⟨es,clock,hb,hst,hL⟩,hlt⟩:=h;refine⟨_,run_range_map w t k e b es clock ht hb,⟨es,clock,clock,#[],clock,?_,hst,hL,nH w _,((stamped_iff es clock).1 hst).1,Nat.le_refl _,Nat.le_refl _,?_⟩,(Kt.refl _ w).alloc _,by simp⟩
 ·rw[Below.heap_alloc _ _ _ hl];exact hb
 ·have:leftOf es #[]=es:=by simp[leftOf]
  rw[this,hL]
theorem CX(e:MapEntry)(seen:Array Nat):∀ (l:List MapEntry),(l.map (·.born)).Nodup->e∈l->seen.contains e.born=false->
  (l.filter (fun x=>!seen.contains x.born)).Perm (e :: l.filter (fun x=>!(seen.push e.born).contains x.born))
 | [],_,h,_=>by cases h
 | a :: l,hn,h,hs=>by
  obtain⟨h1,h2⟩:=List.nodup_cons.1 (by simpa using hn:(a.born :: l.map (·.born)).Nodup);have hcp:∀ x:MapEntry,(seen.push e.born).contains x.born=(seen.contains x.born || x.born == e.born):=fun x=>contains_push _ _ _
  rcases List.mem_cons.1 h with rfl|h'
  ·have e1:l.filter (fun x=>!(seen.push e.born).contains x.born)=l.filter (fun x=>!seen.contains x.born):=by
    refine List.filter_congr fun x hx=>?_
    have hxe:(x.born == e.born)=false:=by
     rw[beq_eq_false_iff_ne];exact fun e2=>h1 (List.mem_map.2 ⟨x,hx,e2⟩)
    rw[hcp,hxe,Bool.or_false]
   simp only[List.filter_cons,hs,hcp,beq_self_eq_true,Bool.or_true,Bool.not_false,Bool.not_true,if_true,Bool.false_eq_true,if_false];simp only[hcp] at e1;rw[e1]
  ·have ih:=CX e seen l h2 h' hs;have hae:(a.born == e.born)=false:=by
    rw[beq_eq_false_iff_ne];exact fun e2=>h1 (List.mem_map.2 ⟨e,h',e2.symm⟩)
   simp only[List.filter_cons,hcp,hae,Bool.or_false];simp only[hcp] at ih
   cases hc:seen.contains a.born
   ·simp only[Bool.not_false,if_true];exact(ih.cons a).trans (List.Perm.swap e a _)
   ·simp only[Bool.not_true,Bool.false_eq_true,if_false];exact ih
theorem RC.next(h:RC enc w b r D c rest)(ty:TypeId):
  (rest=[]/\(Instr.next (.pointer (some ⟨r,0,none⟩)) false ty).run prog w=.ok (.tuple #[.bool false]) w)\/
  ∃ a rest' w',rest.Perm (a :: rest')/\(Instr.next (.pointer (some ⟨r,0,none⟩)) false ty).run prog w=.ok (.tuple #[.bool true,enc a,dZ (c a)]) w'/\RC enc w' b r D c rest'/\Kt (fun x=>x=r) w w'/\w'.heap.size=w.heap.size/\
   (Instr.entry (.pointer (some ⟨r,0,none⟩))).run prog w'=.ok (.tuple #[enc a,dZ (c a)]) w':=by
 have hne:=h.ne;have hlts:=h.lts;obtain⟨es,clock,since,seen,c0,hb,hst,hL,hr,h1,h2,h3,hp⟩:=h;have hborn:=((stamped_iff es clock).1 hst).2.1;rcases run_next_at (P:=prog) w ty r b since c0 seen es clock hr hb h1 h2 with ⟨h0,hrun⟩|⟨e,he,w1,hal,hrun⟩
 ·refine Or.inl ⟨?_,hrun⟩;have:=hp.length_eq;simp at this;have h0':rest.length=0:=by omega
  exact List.length_eq_zero_iff.1 h0'
 ·obtain⟨hem,hes⟩:=mem_left he;have hin:fN e∈rest.map (eG enc c):=hp.mem_iff.1 (List.mem_map.2 ⟨e,he,rfl⟩);obtain⟨p,hpr,hpe⟩:=List.mem_map.1 hin;obtain⟨s,t',hst'⟩:=List.append_of_mem hpr;have hk1:e.key=enc p:=(congrArg Prod.fst hpe).symm;have hk2:e.val=dZ (c p):=(congrArg Prod.snd hpe).symm;rw[hk1,hk2] at hrun;have hr1:w1.heap[r]?=some (.mapIter (some b) since seen c0):=by rcases hal with rfl|rfl <;> exact hr
  have hb1:w1.heap[b]?=some (.map es clock):=by rcases hal with rfl|rfl <;> exact hb
  have hset:=Go.MapKept.heap_set (o':=.mapIter (some b) since (seen.push e.born) clock) hr1;have hb':(setBlock w1 r (.mapIter (some b) since (seen.push e.born) clock)).heap[b]?=some (.map es clock):=(hset.2 b (fun e1=>hne e1.symm)).trans hb1;have hperm:rest.Perm (p :: (s ++ t')):=by rw[hst'];exact List.perm_middle
  refine Or.inr ⟨p,s ++ t',_,hperm,hrun,⟨es,clock,since,seen.push e.born,clock,hb',hst,hL,hset.1,h1,h3,h3,?_⟩,?_,?_,?_⟩
  ·have hlp:(leftOf es seen).toList.Perm (e :: (leftOf es (seen.push e.born)).toList):=by
    simp only[leftOf,Array.toList_filter];exact CX e seen es.toList hborn hem hes
   have h7:=(hlp.map fN).symm.trans (hp.trans (hperm.map (eG enc c)));simp only[List.map_cons,hpe] at h7;exact h7.cons_inv
  ·have hl1:r<w1.heap.size:=by rcases hal with rfl|rfl <;> exact hlts.2
   have k1:Kt (fun x=>x=r) w w1:=by
    rcases hal with rfl|rfl
    ·exact Kt.refl _ _
    ·exact(Kt.refl _ _).drew
   exact k1.trans (oH hl1) (fun _ _ h=>h) (fun _ _ h=>h)
  ·rcases hal with rfl|rfl <;> simp[setBlock]
  ·have:=run_entry_at (P:=prog) _ r b since seen es clock e hset.1 hb' hem hborn;rw[hk1,hk2] at this;exact this
end
section
variable {α : Type} {enc : α->Value} {ok : α->Prop} (w:World) {ops:Array Oper} {rest:List Oper} {o:Oper} {a:Act} {Q:Exit->Act->World->Prop} {D:List α} {c : α->Nat}
theorem sC(hg:o.guard=none)(m x:Operand)(t:TypeId)(hop:o.op=Op.lookup t m x false)(k e:TypeId)(T:KT k enc ok)(ht:prog.underlying t=some (.map k e))(hz:(zeroValue e).run prog w=.ok (.int .i64 0) w)
  (b:Nat) (hm:a.eval m=.map (some b)) (h:MC enc ok w b D c) (n : α) (hn:ok n) (hx:a.eval x=enc n) (v:Nat) (hv:c n=v)
  (hK:wpList prog ops Q rest (a.put o.dst (dZ v)) w):wpList prog ops Q (o :: rest) a w:=by
 refine wpList_plain hg fun K' hK'=>?_
 have hrun:=h.look T ht hz n hn;rw[hv] at hrun;unfold Oper.wp;simp[execOp,hop,hm,hx,hrun,Result.andThen];exact hK' _ _ hK
theorem YM(hg:o.guard=none)(m x v:Operand)(t:TypeId)(hop:o.op=Op.mapUpdate t m x v)(k e:TypeId)(T:KT k enc ok)(ht:prog.underlying t=some (.map k e))
  (b:Nat) (hm:a.eval m=.map (some b)) (h:MC enc ok w b D c) (hl:D.length<maxLen) (n : α) (hn:ok n) (hx:a.eval x=enc n) (val:Nat) (c' : α->Nat) (hc:c' n=val) (hc2:∀ x,x≠n->c' x=c x) (hv:a.eval v=dZ val)
  (hK:∀ w',MC enc ok w' b (bA D n) c'->Kt (fun x=>x=b) w w'->w'.heap.size=w.heap.size->wpList prog ops Q rest (a.put o.dst undef) w'):wpList prog ops Q (o :: rest) a w:=by
 refine wpList_plain hg fun K' hK'=>?_
 obtain⟨w',hrun,r1,r2,r3⟩:=h.store T ht hl n hn val c' hc hc2;unfold Oper.wp;simp[execOp,hop,hm,hx,hv,hrun,Result.andThen];exact hK' _ _ (hK w' r1 r2 r3)
theorem CW(hg:o.guard=none)(m:Operand)(t:TypeId)(hop:o.op=Op.range t m)(k e:TypeId)(ht:prog.underlying t=some (.map k e))(b:Nat)(hm:a.eval m=.map (some b))(h:MC enc ok w b D c)
  (hK:∀ w',RC enc w' b w.heap.size D c D->Kt (fun _=>False) w w'->w'.heap.size=w.heap.size+1->wpList prog ops Q rest (a.put o.dst (.pointer (some ⟨w.heap.size,0,none⟩))) w'):wpList prog ops Q (o :: rest) a w:=by
 refine wpList_plain hg fun K' hK'=>?_
 obtain⟨w',hrun,r1,r2,r3⟩:=h.range ht;unfold Oper.wp;simp[execOp,hop,hm,hrun,Result.andThen];exact hK' _ _ (hK w' r1 r2 r3)
theorem AF(hg:o.guard=none)(it:Operand)(hop:o.op=Op.next it false)(b r:Nat)(left:List α)(hit:a.eval it=.pointer (some ⟨r,0,none⟩))(h:RC enc w b r D c left)
  (hDone:left=[]->wpList prog ops Q rest (a.put o.dst (.tuple #[.bool false])) w)
  (hMore:∀ (n : α) (left':List α) (w':World),left.Perm (n :: left')->RC enc w' b r D c left'->Kt (fun x=>x=r) w w'->w'.heap.size=w.heap.size->
   (Instr.entry (.pointer (some ⟨r,0,none⟩))).run prog w'=.ok (.tuple #[enc n,dZ (c n)]) w'->wpList prog ops Q rest (a.put o.dst (.tuple #[.bool true,enc n,dZ (c n)])) w'):
  wpList prog ops Q (o :: rest) a w:=by
 refine wpList_plain hg fun K' hK'=>?_
 unfold Oper.wp;rcases h.next o.type with ⟨h0,hrun⟩|⟨p,left',w',hp,hrun,h1,h2,h3,h4⟩
 ·simp[execOp,hop,hit,hrun,Result.andThen];exact hK' _ _ (hDone h0)
 ·simp[execOp,hop,hit,hrun,Result.andThen];exact hK' _ _ (hMore p left' w' hp h1 h2 h3 h4)
end
section
variable {α : Type} {enc : α->Value} {ok : α->Prop} {k e t:TypeId} {w w':World} {b st:Nat} {D:List α} {c : α->Nat} {a : α}
def gZ(enc : α->Value)(w:World)(b st:Nat)(a : α):Prop:=∃ (es:Array MapEntry) (clock j:Nat) (e0:MapEntry),w.heap[b]?=some (.map es clock)/\es.toList[j]?=some e0/\e0.key=enc a/\e0.born=st
theorem gZ.kept{S:Nat->Prop}(h:gZ enc w b st a)(k:Kt S w w')(hb:¬S b):gZ enc w' b st a:=by
 obtain⟨es,clock,j,e0,h1,h2⟩:=h;exact⟨es,clock,j,e0,(k.block b (Array.getElem?_eq_some_iff.1 h1).1 hb).trans h1,h2⟩
theorem tW(h:a∈D):bA D a=D:=by unfold bA;rw[if_pos h]
theorem MC.entry(T:KT k enc ok)(h:MC enc ok w b D c)(ht:prog.underlying t=some (.map k e))(hz:∀ w,(zeroValue e).run prog w=.ok (.int .i64 0) w)(a : α)(ha:ok a):
  ∃ (w':World) (v0:Value) (st:Nat),(Instr.mapEntry t (.map (some b)) (enc a)).run prog w=.ok (.tuple #[v0,goInt st]) w'/\MC enc ok w' b (bA D a) c/\gZ enc w' b st a/\(∀ s2,gZ enc w b s2 a->gZ enc w' b s2 a)/\Kt (fun x=>x=b) w w':=by
 have h0:=h;obtain⟨⟨es,clock,hb,hst,hL⟩,hlt,h9⟩:=h;obtain⟨l,hl⟩:=T.key a ha;have hbl:=h0.ltsz;have hlt':∀ x∈bA D a,ok x:=fun x hx=>((oE a x).1 hx).elim (hlt x) (fun e=>e▸ha)
 have hz':∀ x,x ∉ bA D a->c x=0:=fun x hx=>h9 x (fun hD=>hx ((oE a x).2 (.inl hD)))
 rcases h0.find T hL a ha with ⟨h1,h2,h3⟩|⟨j,e0,h1,h2,h3,h4,h5⟩
 ·have eD:bA D a=D ++ [a]:=by unfold bA;rw[if_neg h2]
  refine⟨setBlock w b (.map (es.push ⟨enc a,.int .i64 0,clock⟩) (clock+1)),.int .i64 0,clock,?_,⟨⟨_,_,heap_setBlock_same hb _,stamped_push hst h3,?_⟩,hlt',hz'⟩,⟨_,_,es.size,⟨enc a,.int .i64 0,clock⟩,heap_setBlock_same hb _,by simp,rfl,rfl⟩,?_,oH hbl⟩
  ·simp[Instr.mapEntry,run_underlying ht,MapKept.run_getObj_map hb,T.K.check w false hl,h1,hz,MapKept.run_setObj_map _ hb,Result.andThen,setBlock]
  ·have e2:fN ⟨enc a,.int .i64 0,clock⟩=eG enc c a:=by
    unfold fN eG;rw[h9 a h2];rfl
   rw[eD,Array.toList_push,List.map_append,List.map_append,hL,List.map_singleton,List.map_singleton,e2]
  ·rintro s2 ⟨es2,cl2,j,e0,q1,q2,q3,q4⟩;rw[hb] at q1
   cases q1
   exact absurd q3 (h3 e0 (List.mem_of_getElem? q2))
 ·have eD:bA D a=D:=tW (List.mem_of_getElem? h4);have hj:es[j]?=some e0:=by simpa using h2
  have hsame:es.modify j (fun e=>{ e with key:=enc a })=es:=by
   apply Array.ext'
   rw[Array.toList_modify,Go.ChangeMaps.modify_eq_set _ _ _ _ h2];have:({ e0 with key:=enc a } : MapEntry)=e0:=by rw[<-h3]
   rw[this];exact WideElems.set_self _ _ _ h2
  refine⟨setBlock w b (.map es clock),e0.val,e0.born,?_,⟨⟨es,clock,heap_setBlock_same hb _,hst,by rw[eD];exact hL⟩,hlt',hz'⟩,⟨es,clock,j,e0,heap_setBlock_same hb _,h2,h3,rfl⟩,?_,oH hbl⟩
  ·simp[Instr.mapEntry,run_underlying ht,MapKept.run_getObj_map hb,T.K.check w false hl,h1,hj,h3,T.K.stays w hl,hsame,MapKept.run_setObj_map _ hb,Result.andThen,setBlock]
  ·rintro s2 ⟨es2,cl2,j2,e2,q1,q2,q3,q4⟩;rw[hb] at q1
   cases q1
   exact⟨es,clock,j2,e2,heap_setBlock_same hb _,q2,q3,q4⟩
theorem MC.put(T:KT k enc ok)(h:MC enc ok w b D c)(E:gZ enc w b st a)(ha:ok a)(t:TypeId)(v:Nat)(c' : α->Nat)(hc:c' a=v)(hc2:∀ x,x≠a->c' x=c x):
  ∃ w',(Instr.entryStore t (.map (some b)) (goInt st) (dZ v)).run prog w=.ok () w'/\MC enc ok w' b D c'/\a∈D/\Kt (fun x=>x=b) w w':=by
 have h0:=h;have hnd:=h.nodup;obtain⟨⟨es,clock,hb,hst,hL⟩,hlt,h9⟩:=h;have hbl:=h0.ltsz;obtain⟨es2,cl2,j,e0,q1,h2,h3,h6⟩:=E;rw[hb] at q1
 cases q1
 have e1:=congrArg (fun l=>l[j]?) hL;simp only[List.getElem?_map,h2,Option.map_some] at e1
 cases hD:D[j]? with
 | none=>rw[hD] at e1;cases e1
 | some p=>
  rw[hD] at e1;have e2:fN e0=eG enc c p:=Option.some.inj e1;have e3:p=a:=T.inj p a (hlt p (List.mem_of_getElem? hD)) ha ((congrArg Prod.fst e2).symm.trans h3);subst e3;have hj:es[j]?=some e0:=by simpa using h2
  have hidx:es.findIdx? (fun e=>((e.born:Nat):Int) == ((st:Nat):Int))=some j:=by
   rw[WideElems.findIdx_arr,<-h6];exact WideElems.findIdx_born ((stamped_iff es clock).1 hst).2.1 h2
  refine⟨setBlock w b (.map (es.modify j (fun e'=>{ e' with val:=dZ v })) clock),?_,⟨⟨_,_,heap_setBlock_same hb _,stamped_modify hst _ _ (fun _ _=>rfl) (fun _ _ _=>rfl),?_⟩,hlt,fun x hx=>?_⟩,List.mem_of_getElem? hD,oH hbl⟩
  ·simp[Instr.entryStore,MapKept.run_getObj_map hb,asInt,asIntOf,goInt,hidx,MapKept.run_setObj_map _ hb,Result.andThen,setBlock]
  ·apply List.ext_getElem?
   intro i;have hi:=congrArg (fun l=>l[i]?) hL;simp only[List.getElem?_map] at hi;simp only[List.getElem?_map,Array.getElem?_toList,Array.getElem?_modify];simp only[Array.getElem?_toList] at hi
   cases hDi:D[i]? with
   | none=>
    rw[hDi] at hi
    cases he:es[i]? with
    | none=>split <;> simp
    | some x=>rw[he] at hi;cases hi
   | some q=>
    rw[hDi] at hi
    cases he:es[i]? with
    | none=>rw[he] at hi;cases hi
    | some x=>
     rw[he] at hi;have hxe:fN x=eG enc c q:=Option.some.inj hi;by_cases hij:j=i
     ·subst hij;rw[hD] at hDi
      cases hDi
      rw[hj] at he
      cases he
      have:=congrArg Prod.fst hxe;simp[fN,eG,hc] at this ⊢;exact this
     ·have hpn:q≠p:=fun e1=>by
       obtain⟨q1,q1'⟩:=List.getElem?_eq_some_iff.1 hD;obtain⟨q2,q2'⟩:=List.getElem?_eq_some_iff.1 hDi;rcases Nat.lt_or_gt_of_ne hij with hlt'|hlt'
       ·exact List.pairwise_iff_getElem.1 hnd j i q1 q2 hlt' (q1'.trans (e1.symm.trans q2'.symm))
       ·exact List.pairwise_iff_getElem.1 hnd i j q2 q1 hlt' (q2'.trans (e1.trans q1'.symm))
      simp only[hij,if_false,Option.map_some,hxe];unfold eG;rw[hc2 q hpn]
  ·rw[hc2 x (fun e=>hx (e▸List.mem_of_getElem? hD))];exact h9 x hx
end
section
variable {α : Type} {enc : α->Value} {ok : α->Prop} (w:World) {ops:Array Oper} {rest:List Oper} {o:Oper} {ac:Act} {Q:Exit->Act->World->Prop} {D:List α} {c : α->Nat}
theorem zi0(hg:o.guard=none)(m x:Operand)(t:TypeId)(hop:o.op=Op.mapEntry t m x)(k e:TypeId)(T:KT k enc ok)(ht:prog.underlying t=some (.map k e))(hz:∀ w,(zeroValue e).run prog w=.ok (.int .i64 0) w)
  (b:Nat) (hm:ac.eval m=.map (some b)) (h:MC enc ok w b D c) (n : α) (hn:ok n) (hx:ac.eval x=enc n)
  (hK:∀ (w':World) (v0:Value) (st:Nat),MC enc ok w' b (bA D n) c->gZ enc w' b st n->(∀ s2,gZ enc w b s2 n->gZ enc w' b s2 n)->Kt (fun x=>x=b) w w'->wpList prog ops Q rest (ac.put o.dst (.tuple #[v0,goInt st])) w'):wpList prog ops Q (o :: rest) ac w:=by
 refine wpList_plain hg fun K' hK'=>?_
 obtain⟨w',v0,st,hrun,r1,r2,r3,r4⟩:=h.entry T ht hz n hn;unfold Oper.wp;simp[execOp,hop,hm,hx,hrun,Result.andThen];exact hK' _ _ (hK w' v0 st r1 r2 r3 r4)
theorem MX(hg:o.guard=none)(m s x:Operand)(t:TypeId)(hop:o.op=Op.entryStore t m s x)(k:TypeId)(T:KT k enc ok)(b st:Nat)(hm:ac.eval m=.map (some b))(hs:ac.eval s=goInt st)(h:MC enc ok w b D c)(n : α)(hn:ok n)(E:gZ enc w b st n)(val:Nat)(c' : α->Nat)(hc:c' n=val)(hc2:∀ x,x≠n->c' x=c x)(hv:ac.eval x=dZ val)
  (hK:∀ w',MC enc ok w' b D c'->n∈D->Kt (fun x=>x=b) w w'->wpList prog ops Q rest (ac.put o.dst undef) w'):wpList prog ops Q (o :: rest) ac w:=by
 refine wpList_plain hg fun K' hK'=>?_
 obtain⟨w',hrun,r1,r2,r3⟩:=h.put T E hn t val c' hc hc2;unfold Oper.wp;simp[execOp,hop,hm,hs,hv,hrun,Result.andThen];exact hK' _ _ (hK w' r1 r2 r3)
end
end Go.Proofs.YtkfmheelhinjdaaGreatDoor
namespace Go.Proofs.YtkfmheelhinjdaaGreatDoor.W
open Tryz
open Go.RowKit
set_option linter.unusedVariables false
set_option maxHeartbeats 8000000
set_option maxRecDepth 6000
abbrev eU(n:Nat):Value:=.int .u64 n
abbrev jI(n:Nat):Prop:=n<18446744073709551616
theorem vO(n:Nat)(hn:n<18446744073709551616):(Lit.int .u64 n).wf=true:=by
 simp[Lit.wf,IntKind.min,IntKind.max,IntKind.signed,IntKind.bits];omega
theorem nD:KT 27 eU jI:=
 ⟨Maps.int_keyed Tryz.underlying27,fun a h=>⟨_,Maps.keyOf_int_mk Tryz.underlying27 (vO a h)⟩,fun a b _ _ e=>by injection e with _ e;omega⟩
theorem IS:laidOutB prog=true:=by kernel_rfl
theorem MT:∃ m,prog.types.size=m+1:=⟨prog.types.size-1,by have : 0<prog.types.size:=of_decide_eq_true (by kernel_rfl);omega⟩
theorem qU{m:Nat}(n:Int)(h:N64 n):prog.keyLits (m+1) 3 [.int .i64 n]=some [.int .i64 n]:=by
 unfold Program.keyLits;rw[Tryz.underlying3];refine if_pos ⟨rfl,?_⟩;simp[Lit.wf,IntKind.min,IntKind.max,IntKind.signed,IntKind.bits];exact h
abbrev eJ:=Int×Int×Int×Int
abbrev eS(s:eJ):Value:=.agg #[.int .i64 s.1,.int .i64 s.2.1,.int .i64 s.2.2.1,.int .i64 s.2.2.2]
abbrev iG(s:eJ):Prop:=N64 s.1/\N64 s.2.1/\N64 s.2.2.1/\N64 s.2.2.2
theorem qT:KT 101 eS iG:=by
 refine⟨Maps.Keyed.of_law (deep_law_laid IS (m:=2) (by omega) (of_decide_eq_true (by kernel_rfl)) (by kernel_rfl) (by kernel_rfl)),fun a h=>?_,fun a b _ _ e=>?_⟩
 ·obtain⟨m,hm⟩:=MT;have f1:(eS a).formed prog 101=true:=by
   simp only[Value.formed,Tryz.underlying101];exact decide_eq_true (by kernel_rfl)
  have k1:prog.keyType 101=true:=by kernel_rfl
  unfold keyOf;rw[Tryz.underlying101];simp only[f1,k1,Bool.and_self,if_true];have c2:prog.cellsOf 101=4:=by kernel_rfl
  have c1:prog.cellsOf 3=1:=by kernel_rfl
  have key:prog.keyLits (prog.types.size+1) 101 (eS a).cells.toList=some [.int .i64 a.1,.int .i64 a.2.1,.int .i64 a.2.2.1,.int .i64 a.2.2.2]:=by
   rw[hm];unfold Program.keyLits;rw[Tryz.underlying101];simp[Value.cells,c2,c1,qU _ h.1,qU _ h.2.1,qU _ h.2.2.1,qU _ h.2.2.2]
  rw[key];exact⟨_,rfl⟩
 ·injection e with e
  simp only[Array.mk.injEq,List.cons.injEq,Value.int.injEq,true_and,and_true] at e;obtain⟨e1,e2,e3,e4⟩:=e;exact Prod.ext e1 (Prod.ext e2 (Prod.ext e3 e4))
abbrev bP(p:Pg):eJ:=(p.kd,p.od,p.cl,p.lv)
theorem BO(p:Pg)(W:World):Calls prog 49 #[dS p] W fun e w'=>e=.returned (eS (bP p))/\Kt nO W w':=by
 obtain⟨kd,od,cl,lv,nx,pv,fs,b0,b1,b2,b3⟩:=p;go_enter func49,ntmps49;go_wp2
 exact⟨rfl,_,by simp[results,results49,go_sem],rfl,((Kt.refl _ W).alloc _).alloc _⟩
end Go.Proofs.YtkfmheelhinjdaaGreatDoor.W
namespace Go.Proofs.YtkfmheelhinjdaaGreatDoor
open Tryz
open Go.RowKit
set_option linter.unusedVariables false
section
variable {α : Type} {enc : α->Value} {ok : α->Prop} {g:Nat} {D:List α} {c : α->Nat} {x : α}
def lP(enc : α->Value)(ok : α->Prop)(g:Nat)(D:List α)(c : α->Nat)(x : α)(W:World):Prop:=∃ D',(D'=D\/D'=bA D x)/\MC enc ok W g D' c
structure GmP(enc : α->Value)(ok : α->Prop)(g:Nat)(D:List α)(c : α->Nat)(x : α)(W W':World):Prop where
 k:Kt (fun y=>y=g) W W'
 m:lP enc ok g D c x W->lP enc ok g D c x W'
 e:∀ st,gZ enc W g st x->gZ enc W' g st x
theorem GmP.trans{a b d:World}(h:GmP enc ok g D c x a b)(k:GmP enc ok g D c x b d):GmP enc ok g D c x a d:=
 ⟨h.k.trans k.k (fun _ _ e=>e) (fun _ _ e=>e),fun m=>k.m (h.m m),fun st e=>k.e st (h.e st e)⟩
theorem GmP.of_kept{W W':World}(k:Kt nO W W'):GmP enc ok g D c x W W':=
 ⟨k.mono (fun _ _ e=>e.elim),fun ⟨D',h1,h2⟩=>⟨D',h1,h2.kept k id⟩,fun _ h=>h.kept k id⟩
theorem GmP.drew{W:World} : GmP enc ok g D c x W W.drew:=GmP.of_kept (Kt.refl nO W).drew
theorem GmP.rfl'{W:World} : GmP enc ok g D c x W W:=GmP.of_kept (Kt.refl nO W)
theorem ziv:bA (bA D x) x=bA D x:=tW ((oE x x).2 (.inr rfl))
theorem lP.add{W:World}(h:lP enc ok g D c x W):∃ D',MC enc ok W g D' c/\bA D' x=bA D x:=by
 obtain⟨D',rfl|rfl,h2⟩:=h
 ·exact⟨D',h2,rfl⟩
 ·exact⟨_,h2,ziv⟩
def gH(v:Value):Value->World->Prop:=fun u _=>u=v
def lO(enc : α->Value)(g:Nat)(x : α):Value->World->Prop:=fun u W=>∃ v0 st,u=.tuple #[v0,goInt ((st:Nat):Int)]/\gZ enc W g st x
def lN(enc : α->Value)(g:Nat)(x : α):Value->World->Prop:=fun u W=>∃ st:Nat,u=goInt ((st:Nat):Int)/\gZ enc W g st x
def iZ(enc : α->Value)(g:Nat)(x : α)(f bx:Value)(n:Nat):List (Value->World->Prop):=[gH (.map (some g)),gH f,gH bx,gH (enc x),gH (dZ n),gH (dZ (n+1)),lO enc g x,lN enc g x]
theorem RD{f bx:Value}{n:Nat}(i:Nat):∀ u W W',((iZ enc g x f bx n).getD i cS) u W->GmP enc ok g D c x W W'->((iZ enc g x f bx n).getD i cS) u W':=by
 have key:∀ r∈iZ enc g x f bx n,∀ u W W',r u W->GmP enc ok g D c x W W'->r u W':=by
  have h1:∀ v,∀ u W W',gH v u W->GmP enc ok g D c x W W'->gH v u W':=fun v u W W' h _=>h
  have h2:∀ u W W',lO enc g x u W->GmP enc ok g D c x W W'->lO enc g x u W':=fun u W W' ⟨v0,st,h3,h4⟩ k=>⟨v0,st,h3,k.e _ h4⟩
  have h3:∀ u W W',lN enc g x u W->GmP enc ok g D c x W W'->lN enc g x u W':=fun u W W' ⟨st,h3,h4⟩ k=>⟨st,h3,k.e _ h4⟩
  unfold iZ;repeat refine List.forall_mem_cons.2 ⟨by first|exact h1 _|exact h2|exact h3,?_⟩
  exact fun r hr=>by cases hr
 rw[List.getD_eq_getElem?_getD]
 cases e:(iZ enc g x f bx n)[i]? with
 | none=>exact fun _ _ _ h _=>h
 | some r=>exact key r (List.mem_of_getElem? e)
end
end Go.Proofs.YtkfmheelhinjdaaGreatDoor
namespace Go.Proofs.YtkfmheelhinjdaaGreatDoor.W
open Tryz
open Go.RowKit
set_option linter.unusedVariables false
set_option maxHeartbeats 8000000
set_option maxRecDepth 6000
theorem UF(I:Img)(V:ImV)(k r:Nat)(hS:Sn9 I k r)(p:Nat)(w:World)(hI:ImD w I V):
  Calls prog 148 #[imA I V,.int .u64 p] w fun e w'=>e=.returned (.int .i64 (gE (decP I p)))/\Kt nO w w':=by
 obtain⟨⟨ma,mc,hm⟩,⟨pa,pc,hp⟩,⟨ra,rc,hr⟩,⟨ha,hc,hh⟩,⟨ta,tc,ht⟩,-⟩:=hI.sl;obtain⟨vm,vp,vr,vh,vt⟩:=V;dsimp only at hm hp hr hh ht;subst hm hp hr hh ht;have IM0:=aA (show ImAt (w.alloc (aE I _)) w.heap.size I _ from⟨nH _ _,hI.keep ((Kt.refl _ w).alloc _)⟩);have K0:=aA (show Kt nO w (w.alloc (aE I _))from(Kt.refl _ w).alloc (aE I ⟨.slice ma I.nm mc,.slice pa I.np pc,.slice ra I.no rc,.slice ha I.hd.length hc,.slice ta I.pt.length tc⟩));obtain⟨c0,c1,c2,c3,c4,c5,c6,c7,c8⟩:=IM0.out.cells;have HNP:=aA hS.np1;have HBE:=aA hS.be;have HNM:=aA hS.nm;obtain⟨rr,hrr⟩:=xe (gE (decP I p));rw[<-hrr];have HIT:=aA (show ∀ a,a<I.np->p=I.bS+4096*a->rr=(a:Int)from fun a h1 h2=>by
  have:=hS.nm;rw[hrr];unfold decP;rw[if_pos ⟨by omega,by omega,by omega⟩];show(((p-I.bS)/4096:Nat):Int)=_
  omega)
 have MISS:=aA (show(∀ a,a<I.np->¬p=I.bS+4096*a)->rr = -1 from fun h=>by
  have:=hS.nm;rw[hrr];unfold decP;rw[if_neg (fun hc=>h ((p-I.bS)/4096) (by omega) (by omega))];rfl)
 clear hI hrr hS;go_enter func148,ntmps148;go_wp2_with fail;clear c0 c1 c2 c3 c4 c5 c6 c7 c8;generalize w.heap.size=ib at *;generalize w.alloc (aE I ⟨.slice ma I.nm mc,.slice pa I.np pc,.slice ra I.no rc,.slice ha I.hd.length hc,.slice ta I.pt.length tc⟩)=W0 at *;go_loopw [5] (fun iv W=>∃ a:Nat,a<=I.np/\iv=.int .i64 a/\Hid (Kt nO W0 W/\∀ j,j<a->¬p=I.bS+4096*j)) (fun iv _=>I.np-(intOf iv).toNat)
 case atStart=>exact⟨0,Nat.zero_le _,rfl,aA ⟨Kt.refl _ _,fun j hj=>by omega⟩⟩
 case round=>
  obtain⟨a,ha',rfl,hG⟩:=hrel;have IMa:=aA (IM0.out.keep hG.out.1);obtain⟨c0,c1,c2,c3,c4,c5,c6,c7,c8⟩:=IMa.out.cells;dsimp only at c5;by_cases hlt:a<I.np
  ·have hai:(a:Int)<I.np:=(by omega);obtain⟨bS,hbase⟩:∃ b,b=I.bS:=⟨_,rfl⟩;rw[<-hbase] at c0;obtain⟨q,hq⟩:=xe (bS+4096*a);have g1:IntKind.u64.wrap (a:Int)=a:=(by have:=HNP.out;rw[wrap_u64];omega);have g2:IntKind.u64.wrap (4096*(a:Int))=4096*(a:Int):=(by have:=HNP.out;rw[wrap_u64];omega);have g3:IntKind.u64.wrap ((bS:Int)+4096*(a:Int))=(q:Int):=(by have:=HBE.out;have:=HNM.out;rw[wrap_u64];omega);have g4:(bS:Int)+4096*(a:Int)=q:=(by omega);have g5:IntKind.u64.wrap (q:Int)=q:=(by have:=HBE.out;have:=HNM.out;rw[wrap_u64];omega);have HITA:=aA (show p=q->rr=(a:Int)from fun h=>HIT.out a hlt (by rw[h,hq,hbase]));have MISA:=aA (show ¬p=q->∀ j,j<a+1->¬p=I.bS+4096*j from fun h j hj=>by
    by_cases e:j=a
    ·rw[e,<-hbase,<-hq];exact h
    ·exact hG.out.2 j (by omega))
   have KG:=aA hG.out.1;have HLT:=aA hlt;clear hbase hq hlt ha' hG;by_cases h:p=q
   ·have er:=HITA.out h;subst er;have q1:((p:Int) == (q:Int))=true:=(by rw[beq_iff_eq];omega);have q2:(p == q)=true:=(by rw[beq_iff_eq];exact h);clear h;go_wp2_with fail;go_ret;exact⟨rfl,nT K0.out (nT KG.out (Kt.refl nO wr))⟩
   ·have q1:((p:Int) == (q:Int))=false:=(by rw[beq_eq_false_iff_ne];omega);have q2:(p == q)=false:=(by rw[beq_eq_false_iff_ne];exact h);have N1:=aA (MISA.out h);clear h;go_wp2_with fail;have hw:wrap64 ((a:Int)+1)=((a+1:Nat):Int):=(by have:=HNP.out;have:=HLT.out;rw[wrap64];omega);rw[hw];exact⟨⟨a+1,by have:=HLT.out;omega,rfl,aA ⟨nT KG.out (Kt.refl nO wr),N1.out⟩⟩,by have:=HLT.out;simp only[intOf,Int.toNat_natCast];omega⟩
  ·have hai:¬(a:Int)<I.np:=(by omega);have er:=MISS.out (fun j hj=>hG.out.2 j (by omega));subst er;go_wp2_with fail;go_ret;exact⟨rfl,nT K0.out hG.out.1⟩
end Go.Proofs.YtkfmheelhinjdaaGreatDoor.W
