import Derived.Test.YtkfmheelhinjdaaGreatDoorXx
set_option maxRecDepth 1000000
set_option maxHeartbeats 80000000
namespace Go.Proofs.YtkfmheelhinjdaaGreatDoor.W
open Go.RowKit
set_option linter.unusedVariables false
set_option maxHeartbeats 16000000
set_option maxRecDepth 6000
section
variable {P:Program} {ops:Array Oper} {md:Region.Mode} {Q:Exit->Act->World->Prop}
theorem wpOp_of_list{i:Nat}{o:Oper}{K:Act->World->Prop}{a:Act}{w:World}(ho:ops[i]?=some o)(h:wpList P ops (Exit.then K Q) [o] a w):wpOp P ops Q i K a w:=by
 unfold wpOp;simp only[ho];unfold wpList at h;split
 ·rename_i hw;simp only[hw,if_true] at h;rcases h with h|⟨h1,b,w1,h2⟩
  ·refine .inl ?_;unfold Oper.wp at *;generalize (execOp a.eval o).run P w=r at *
   cases r with
   | ok n w'=>cases n <;> simp only[Oper.upon] at h ⊢ <;> exact h
   | halt x w'=>cases x <;> simp only[Oper.upon] at h ⊢ <;> exact h
  ·exact .inr ⟨h1,b,w1,h2⟩
 ·rename_i hw;simp only[hw] at h;exact h
def mZ(ls:Array Bool):Nat:=ls.toList.countP (fun b=>!b)
theorem zA{ls:Array Bool}{i:Nat}(h:ls.getD i true=false):mZ (ls.setIfInBounds i true)+1=mZ ls:=by
 unfold mZ;rcases Nat.lt_or_ge i ls.size with hl|hl
 ·have h1:ls[i]=false:=by simpa [hl] using h
  obtain⟨l⟩:=ls;simp only[List.setIfInBounds_toArray,List.getElem_toArray] at *;clear h;induction l generalizing i with
  | nil=>simp at hl
  | cons x l ih=>
   cases i with
   | zero=>
    simp only[List.getElem_cons_zero] at h1;subst h1;simp
   | succ i=>
    simp only[List.set_cons_succ,List.countP_cons];have:=ih (i:=i) (by simpa using hl) (by simpa using h1);omega
 ·simp[Array.getElem?_eq_none hl] at h
theorem AV{ls:Array Bool}(h:mZ ls=0):Region.ready md ops ls=[]:=by
 rw[List.eq_nil_iff_forall_not_mem];intro i hi;have h1:=zA (mem_ready.1 hi).1;omega
theorem yZ{I:Array Bool->Act->World->Prop}(hs:∀ ls a w i,I ls a w->i∈Region.ready md ops ls->wpOp P ops Q i (I (ls.setIfInBounds i true)) a w)
  (he:∀ ls a w,I ls a w->Region.ready md ops ls=[]->Q .normal a w):∀ (n:Nat) (ls:Array Bool) (a:Act) (w:World),mZ ls<=n->I ls a w->wpAny P md ops Q n ls a w
 | 0,ls,a,w,hn,h=>⟨AV (by omega),he _ _ _ h (AV (by omega))⟩
 | n+1,ls,a,w,hn,h=>⟨he _ _ _ h,fun i hi=>wpOp_mono (fun a' w' h'=>yZ hs he n _ a' w' (by have:=zA (mem_ready.1 hi).1;omega) h') (hs _ _ _ _ h hi)⟩
end
theorem wp_region_inv{P:Program}{id:Nat}{Q:Exit->Act->World->Prop}{a:Act}{w:World}{ops:Array Oper}(hm:P.follows .mixedOrders=true)(I:Array Bool->Act->World->Prop)
  (h0:I (Array.replicate ops.size false) a w.drew)
  (hs:∀ ls a w i,I ls a w->i∈Region.ready .any ops ls->wpOp P ops Q i (I (ls.setIfInBounds i true)) a w)
  (he:∀ ls a w,I ls a w->Region.ready .any ops ls=[]->Q .normal a w):(Code.region id ops true).wp P Q a w:=
 wp_region_any hm (yZ hs he _ _ _ _ (by unfold mZ;refine Nat.le_trans List.countP_le_length ?_;simp) h0)
end Go.Proofs.YtkfmheelhinjdaaGreatDoor.W
namespace Go.Proofs.YtkfmheelhinjdaaGreatDoor
open Go.RowKit
set_option linter.unusedVariables false
theorem aO{P:Program}{ops:Array Oper}{Q:Exit->Act->World->Prop}{i:Nat}{o:Oper}{K:Act->World->Prop}{a:Act}{w:World}(ho:ops[i]?=some o)(h:wpList P ops (Exit.then K Q) [o] a w):wpOp P ops Q i K a w:=W.wpOp_of_list ho h
def aB(v:Nat->Value)(i:Nat)(u:Value):Nat->Value:=fun j=>if j=i then u else v j
theorem xJ{v:Nat->Value}{i:Nat}{u:Value} : aB v i u i=u:=if_pos rfl
theorem xI{v:Nat->Value}{i j:Nat}{u:Value}(h:j≠i):aB v i u j=v j:=if_neg h
def gF(ops:Array Oper)(i j:Nat):Bool:=match ops[i]? with
 | none=>false
 | some o=>o.after.any fun e=>Region.binds .any e && e.on == j
def lL(ops:Array Oper):Nat->Nat->Nat->Bool
 | 0,_,_=>false
 | n+1,i,j=>gF ops i j || match ops[i]? with
  | none=>false
  | some o=>o.after.any fun e=>Region.binds .any e && lL ops n e.on j
def iQ(ops:Array Oper):Bool:=(List.range ops.size).all fun i=>match ops[i]? with
 | none=>true
 | some o=>o.after.all fun e=>!Region.binds .any e || decide (e.on<i)
def DE(ops:Array Oper)(last:Nat):Bool:=(List.range last).all fun j=>lL ops 40 last j
section
variable {P:Program} {ops:Array Oper} {Q:Exit->Act->World->Prop} {ls:Array Bool}
theorem yA{i j:Nat} : gF ops i j=true↔∃ o,ops[i]?=some o/\∃ e∈o.after,Region.binds .any e=true/\e.on=j:=by
 unfold gF
 cases h:ops[i]? with
 | none=>simp
 | some o=>
  simp[Array.any_eq_true,Array.mem_iff_getElem];grind
theorem uI(hc:∀ i j,gF ops i j=true->ls.getD i false=true->ls.getD j false=true){i j:Nat}(hr:∀ j,gF ops i j=true->ls.getD j false=true):∀ n,lL ops n i j=true->ls.getD j false=true:=by
 intro n;induction n generalizing i with
 | zero=>intro h;cases h
 | succ n ih=>
  intro h;unfold lL at h;rw[Bool.or_eq_true] at h;rcases h with h|h
  ·exact hr _ h
  ·cases ho:ops[i]? with
   | none=>rw[ho] at h;cases h
   | some o=>
    rw[ho] at h;simp only[Array.any_eq_true',Bool.and_eq_true] at h;obtain⟨e,he,hb,h⟩:=h;have hd:=hr _ (yA.2 ⟨o,ho,e,he,hb,rfl⟩);exact ih (fun k hk=>hc _ _ hk hd) h
theorem rC{i:Nat}(hi:i∈Region.ready .any ops ls):∀ j,gF ops i j=true->ls.getD j false=true:=by
 intro j hj;obtain⟨hn,o,ho,hd⟩:=mem_ready.1 hi;obtain⟨o',ho',e,he,hb,rfl⟩:=yA.1 hj;rw[ho] at ho'
 cases ho'
 exact hd e he hb
theorem sS{i:Nat}(hn:ls.getD i true=false):i<ls.size/\ls.getD i false=false:=by
 rcases Nat.lt_or_ge i ls.size with hl|hl
 ·exact⟨hl,by simpa [hl] using hn⟩
 ·simp[Array.getElem?_eq_none hl] at hn
theorem pM{i j:Nat}(hi:i<ls.size):(ls.setIfInBounds i true).getD j false=true↔j=i\/ls.getD j false=true:=by
 by_cases h:i=j
 ·subst h;simp[hi]
 ·rw[Go.getD_set_ne _ h];exact⟨.inr,fun h'=>h'.resolve_left (fun e=>h e.symm)⟩
theorem xZ(hs:ls.size=ops.size)(hB:iQ ops=true)(hr:Region.ready .any ops ls=[]):∀ n i,i<=n->i<ops.size->ls.getD i false=true:=by
 intro n;induction n with
 | zero=>
  intro i hi hl;obtain rfl:i=0:=by omega
  cases h:ls.getD 0 false with
  | true=>rfl
  | false=>
   have : 0∈Region.ready .any ops ls:=mem_ready.2 ⟨(by have : 0<ls.size:=(by omega);simpa [this] using h),ops[0],by simp,fun e he hb=>by
    unfold iQ at hB;have:=List.all_eq_true.1 hB 0 (by simpa using hl);simp only[Array.getElem?_eq_getElem hl] at this;have:=Array.all_eq_true'.1 this e he;simp[hb] at this⟩
   rw[hr] at this
   cases this
 | succ n ih=>
  intro i hi hl;rcases Nat.lt_or_ge i (n+1)with h1|h1
  ·exact ih i (by omega) hl
  cases h:ls.getD i false with
  | true=>rfl
  | false=>
   have:i∈Region.ready .any ops ls:=mem_ready.2 ⟨(by have:i<ls.size:=(by omega);simpa [this] using h),ops[i],by simp,fun e he hb=>by
    unfold iQ at hB;have:=List.all_eq_true.1 hB i (by simpa using hl);simp only[Array.getElem?_eq_getElem hl] at this;have:=Array.all_eq_true'.1 this e he;simp[hb] at this;exact ih _ (by omega) (by omega)⟩
   rw[hr] at this
   cases this
theorem oI{n i:Nat} : (Array.replicate n false).getD i false=false:=by
 rcases Nat.lt_or_ge i n with h|h
 ·simp[h]
 ·simp[Nat.not_lt.2 h]
structure Flw(ops:Array Oper)(G:World->World->Prop)(w1:World)(R:Nat->Value->World->Prop)(ls:Array Bool)(v:Nat->Value)(w:World):Prop where
 sz:ls.size=ops.size
 cl:∀ i j,gF ops i j=true->ls.getD i false=true->ls.getD j false=true
 k:G w1 w
 d:∀ i,ls.getD i false=true->R i (v i) w
theorem Flw.put{G:World->World->Prop}{w1 W W':World}{R:Nat->Value->World->Prop}{v:Nat->Value}{i:Nat}{u:Value}(hG:∀ a b c,G a b->G b c->G a c)(hR:∀ i u W W',R i u W->G W W'->R i u W')
  (h:Flw ops G w1 R ls v W) (hi:i∈Region.ready .any ops ls) (hu:R i u W') (k:G W W'):Flw ops G w1 R (ls.setIfInBounds i true) (aB v i u) W':=by
 have hd:=rC hi;have hn:=sS (mem_ready.1 hi).1;refine⟨by simpa using h.sz,fun a b hab ha=>?_,hG _ _ _ h.k k,fun j hj=>?_⟩
 ·rw[pM hn.1] at ha ⊢;rcases ha with rfl|ha
  ·exact .inr (hd _ hab)
  ·exact .inr (h.cl _ _ hab ha)
 ·rw[pM hn.1] at hj;by_cases e:j=i
  ·subst e;rw[xJ];exact hu
  ·rw[xI e];exact hR _ _ _ _ (h.d j (hj.resolve_left e)) k
theorem zdD{id:Nat}{w:World}(hm:P.follows .mixedOrders=true)(F:(Nat->Value)->Act)(v0:Nat->Value)(B:World->Prop)(G:Nat->World->World->Prop)(R:Nat->Value->World->Prop)
  (hG:∀ i W W',B W->G i W W'->B W') (hR:∀ i j u W W',j≠i->B W->R j u W->G i W W'->R j u W') (hB:iQ ops=true) (hw:B w.drew)
  (hs:∀ i o,ops[i]?=some o->∀ v W,B W->(∀ j,lL ops 40 i j=true->R j (v j) W)->wpOp P ops Q i (fun a' W'=>∃ u,a'=F (aB v i u)/\R i u W'/\G i W W') (F v) W)
  (hl:∀ v W,B W->(∀ i,i<ops.size->R i (v i) W)->Q .normal (F v) W):(Code.region id ops true).wp P Q (F v0) w:=by
 refine W.wp_region_inv hm (fun ls a W=>∃ v,a=F v/\(ls.size=ops.size/\(∀ i j,gF ops i j=true->ls.getD i false=true->ls.getD j false=true)/\B W/\∀ i,ls.getD i false=true->R i (v i) W)) ⟨v0,rfl,by simp,fun i j _ h=>(by rw[oI] at h;cases h),hw,fun i h=>(by rw[oI] at h;cases h)⟩ ?_ ?_
 ·rintro ls a W i ⟨v,rfl,hz,hc,hb,hd0⟩ hi;obtain⟨hn,o,ho,hd⟩:=mem_ready.1 hi;have hn2:=sS hn;have hrd:=rC hi;refine wpOp_mono ?_ (hs i o ho v W hb fun j hj=>hd0 j (uI hc hrd _ hj));rintro a' W' ⟨u,rfl,hu,k⟩;refine⟨_,rfl,by simpa using hz,fun a b hab ha=>?_,hG _ _ _ hb k,fun j hj=>?_⟩
  ·rw[pM hn2.1] at ha ⊢;rcases ha with rfl|ha
   ·exact .inr (hrd _ hab)
   ·exact .inr (hc _ _ hab ha)
  ·rw[pM hn2.1] at hj;by_cases e:j=i
   ·subst e;rw[xJ];exact hu
   ·rw[xI e];exact hR _ _ _ _ _ e hb (hd0 j (hj.resolve_left e)) k
 ·rintro ls a W ⟨v,rfl,hz,hc,hb,hd0⟩ hr;exact hl v W hb fun i hi=>hd0 i (xZ hz hB hr i i (Nat.le_refl _) hi)
theorem rX{id:Nat}{w w1:World}(hm:P.follows .mixedOrders=true)(F:(Nat->Value)->Act)(v0:Nat->Value)(G:World->World->Prop)(hG:∀ a b c,G a b->G b c->G a c)(R:Nat->Value->World->Prop)
  (hR:∀ i u W W',R i u W->G W W'->R i u W') (last:Nat) (hz:ops.size=last+1) (hB:iQ ops=true) (hL:DE ops last=true) (hw:G w1 w.drew)
  (hs:∀ i o,ops[i]?=some o->i<last->∀ v W,G w1 W->(∀ j,lL ops 40 i j=true->R j (v j) W)->wpOp P ops Q i (fun a' W'=>∃ u,a'=F (aB v i u)/\R i u W'/\G W W') (F v) W)
  (hl:∀ o,ops[last]?=some o->∀ v W,G w1 W->(∀ i,i<last->R i (v i) W)->wpOp P ops Q last (fun a' W'=>Q .normal a' W') (F v) W):(Code.region id ops true).wp P Q (F v0) w:=by
 refine W.wp_region_inv hm (fun ls a W=>ls.size=ops.size/\((ls.getD last false=false/\∃ v,a=F v/\Flw ops G w1 R ls v W)\/(∀ i,i<=last->ls.getD i false=true)/\Q .normal a W)) ⟨by simp,.inl ⟨oI,v0,rfl,by simp,fun i j _ h=>(by rw[oI] at h;cases h),hw,fun i h=>(by rw[oI] at h;cases h)⟩⟩ ?_ ?_
 ·rintro ls a W i ⟨hsz,h⟩ hi;obtain⟨hn,o,ho,hd⟩:=mem_ready.1 hi;have hn2:=sS hn;rcases h with ⟨hl0,v,rfl,h⟩|⟨h,_⟩
  ·rcases Nat.lt_trichotomy i last with h1|rfl|h1
   ·refine wpOp_mono ?_ (hs i o ho h1 v W h.k fun j hj=>h.d j (uI h.cl (rC hi) _ hj));rintro a' W' ⟨u,rfl,hu,k⟩;exact⟨by simpa using hsz,.inl ⟨by rw[Go.getD_set_ne _ (by omega)];exact hl0,_,rfl,h.put hG hR hi hu k⟩⟩
   ·have ha:∀ j,j<i->ls.getD j false=true:=fun j hj=>uI h.cl (rC hi) _ (List.all_eq_true.1 hL j (by simpa using hj))
    refine wpOp_mono ?_ (hl o ho v W h.k fun j hj=>h.d j (ha j hj));intro a' W' hq;refine⟨by simpa using hsz,.inr ⟨fun j hj=>(pM hn2.1).2 ?_,hq⟩⟩;by_cases e:j=i
    ·exact .inl e
    ·exact .inr (ha j (by omega))
   ·omega
  ·rw[h i (by omega)] at hn2
   cases hn2.2
 ·rintro ls a W ⟨hsz,h⟩ hr;rcases h with ⟨hl0,v,rfl,h⟩|⟨_,h⟩
  ·rw[xZ hsz hB hr last last (Nat.le_refl _) (by omega)] at hl0
   cases hl0
  ·exact h
def bY:Value->World->Prop:=fun _ _=>True
theorem zcJ{id:Nat}{w:World}(hm:P.follows .mixedOrders=true)(F:(Nat->Value)->Act)(v0:Nat->Value)(B:World->Prop)(N Wr:World->World->Prop)(La:List (Value->World->Prop))(RS:Value->World->Prop)(k:Nat)(hk:La.length=k)(hz:ops.size=k+1)
  (hN:∀ W W',B W->N W W'->B W') (hW:∀ W W',B W->Wr W W'->B W') (stN:∀ r∈La,∀ u W W',B W->r u W->N W W'->r u W') (stS:∀ u W W',B W->RS u W->N W W'->RS u W') (stW:∀ r∈La,∀ u W W',B W->r u W->Wr W W'->r u W') (hB:iQ ops=true) (hw:B w.drew)
  (hs:∀ i o,ops[i]?=some o->i<k->∀ v W,B W->(∀ j,lL ops 40 i j=true->((La ++ [RS]).getD j bY) (v j) W)->wpOp P ops Q i (fun a' W'=>∃ u,a'=F (aB v i u)/\(La.getD i bY) u W'/\N W W') (F v) W)
  (hx:∀ o,ops[k]?=some o->∀ v W,B W->(∀ j,lL ops 40 k j=true->((La ++ [RS]).getD j bY) (v j) W)->wpOp P ops Q k (fun a' W'=>∃ u,a'=F (aB v k u)/\RS u W'/\Wr W W') (F v) W)
  (hl:∀ v W,B W->(∀ i,i<k->(La.getD i bY) (v i) W)->RS (v k) W->Q .normal (F v) W):(Code.region id ops true).wp P Q (F v0) w:=by
 subst hk;have lt:∀ j,j<La.length->(La ++ [RS]).getD j bY=La.getD j bY:=fun j hj=>by
  rw[List.getD_eq_getElem?_getD,List.getD_eq_getElem?_getD,List.getElem?_append_left hj]
 have eq:(La ++ [RS]).getD La.length bY=RS:=by
  rw[List.getD_eq_getElem?_getD,List.getElem?_append_right (Nat.le_refl _),Nat.sub_self];rfl
 have gt:∀ j,La.length<j->(La ++ [RS]).getD j bY=bY:=fun j hj=>by
  rw[List.getD_eq_getElem?_getD,List.getElem?_eq_none (by simp;omega)];rfl
 have mem:∀ j,j<La.length->La.getD j bY∈La:=fun j hj=>by
  rw[List.getD_eq_getElem?_getD,List.getElem?_eq_getElem hj];exact List.getElem_mem _
 refine zdD hm F v0 B (fun i=>if i=La.length then Wr else N) (fun j=>(La ++ [RS]).getD j bY) (fun i W W' hb hg=>?_) (fun i j u W W' hne hb hr hg=>?_) hB hw (fun i o ho v W hb hd=>?_) (fun v W hb hd=>?_)
 ·by_cases e:i=La.length
  ·rw[if_pos e] at hg;exact hW _ _ hb hg
  ·rw[if_neg e] at hg;exact hN _ _ hb hg
 ·rcases Nat.lt_trichotomy j La.length with h1|rfl|h1
  ·rw[lt j h1] at hr ⊢;by_cases e:i=La.length
   ·rw[if_pos e] at hg;exact stW _ (mem j h1) _ _ _ hb hr hg
   ·rw[if_neg e] at hg;exact stN _ (mem j h1) _ _ _ hb hr hg
  ·rw[if_neg (Ne.symm hne)] at hg;rw[eq] at hr ⊢;exact stS _ _ _ hb hr hg
  ·rw[gt j h1];exact True.intro
 ·have hi:i<ops.size:=(Array.getElem?_eq_some_iff.1 ho).1;by_cases e:i=La.length
  ·subst e;refine wpOp_mono ?_ (hx o ho v W hb hd);rintro a' W' ⟨u,h1,h2,h3⟩;exact⟨u,h1,by rw[eq];exact h2,by rw[if_pos rfl];exact h3⟩
  ·refine wpOp_mono ?_ (hs i o ho (by omega) v W hb hd);rintro a' W' ⟨u,h1,h2,h3⟩;exact⟨u,h1,by rw[lt i (by omega)];exact h2,by rw[if_neg e];exact h3⟩
 ·refine hl v W hb (fun i hi=>?_) ?_
  ·have:=hd i (by omega);rwa [lt i hi] at this
  ·have:=hd La.length (by omega);rwa [eq] at this
end
end Go.Proofs.YtkfmheelhinjdaaGreatDoor
namespace Go.Proofs.YtkfmheelhinjdaaGreatDoor.W
open Go.RowKit
set_option linter.unusedVariables false
set_option maxHeartbeats 8000000
set_option maxRecDepth 6000
end Go.Proofs.YtkfmheelhinjdaaGreatDoor.W
namespace Go.Proofs.YtkfmheelhinjdaaGreatDoor
open Go.RowKit
set_option linter.unusedVariables false
section
variable {α : Type} {enc : α->Value} {ok : α->Prop} {g:Nat} {D:List α} {c : α->Nat} {x : α}
def lI(enc : α->Value)(ok : α->Prop)(g:Nat)(D:List α)(c : α->Nat)(x : α)(W:World):Prop:=∃ D',(D'=D\/D'=aY D x)/\MC enc ok W g D' c
structure GmP(enc : α->Value)(ok : α->Prop)(g:Nat)(D:List α)(c : α->Nat)(x : α)(W W':World):Prop where
 k:Kt (fun y=>y=g) W W'
 m:lI enc ok g D c x W->lI enc ok g D c x W'
 e:∀ st,hY enc W g st x->hY enc W' g st x
theorem GmP.trans{a b d:World}(h:GmP enc ok g D c x a b)(k:GmP enc ok g D c x b d):GmP enc ok g D c x a d:=
 ⟨h.k.trans k.k (fun _ _ e=>e) (fun _ _ e=>e),fun m=>k.m (h.m m),fun st e=>k.e st (h.e st e)⟩
theorem GmP.of_kept{W W':World}(k:Kt nO W W'):GmP enc ok g D c x W W':=
 ⟨k.mono (fun _ _ e=>e.elim),fun ⟨D',h1,h2⟩=>⟨D',h1,h2.kept k id⟩,fun _ h=>h.kept k id⟩
theorem GmP.drew{W:World} : GmP enc ok g D c x W W.drew:=GmP.of_kept (Kt.refl nO W).drew
theorem GmP.rfl'{W:World} : GmP enc ok g D c x W W:=GmP.of_kept (Kt.refl nO W)
theorem VF:aY (aY D x) x=aY D x:=qR ((nN x x).2 (.inr rfl))
theorem lI.add{W:World}(h:lI enc ok g D c x W):∃ D',MC enc ok W g D' c/\aY D' x=aY D x:=by
 obtain⟨D',rfl|rfl,h2⟩:=h
 ·exact⟨D',h2,rfl⟩
 ·exact⟨_,h2,VF⟩
def bR(v:Value):Value->World->Prop:=fun u _=>u=v
def jY(enc : α->Value)(g:Nat)(x : α):Value->World->Prop:=fun u W=>∃ v0 st,u=.tuple #[v0,goInt ((st:Nat):Int)]/\hY enc W g st x
def jX(enc : α->Value)(g:Nat)(x : α):Value->World->Prop:=fun u W=>∃ st:Nat,u=goInt ((st:Nat):Int)/\hY enc W g st x
def gZ(enc : α->Value)(g:Nat)(x : α)(f bx:Value)(n:Nat):List (Value->World->Prop):=[bR (.map (some g)),bR f,bR bx,bR (enc x),bR (dG n),bR (dG (n+1)),jY enc g x,jX enc g x]
theorem xD{f bx:Value}{n:Nat}(i:Nat):∀ u W W',((gZ enc g x f bx n).getD i bY) u W->GmP enc ok g D c x W W'->((gZ enc g x f bx n).getD i bY) u W':=by
 have key:∀ r∈gZ enc g x f bx n,∀ u W W',r u W->GmP enc ok g D c x W W'->r u W':=by
  have h1:∀ v,∀ u W W',bR v u W->GmP enc ok g D c x W W'->bR v u W':=fun v u W W' h _=>h
  have h2:∀ u W W',jY enc g x u W->GmP enc ok g D c x W W'->jY enc g x u W':=fun u W W' ⟨v0,st,h3,h4⟩ k=>⟨v0,st,h3,k.e _ h4⟩
  have h3:∀ u W W',jX enc g x u W->GmP enc ok g D c x W W'->jX enc g x u W':=fun u W W' ⟨st,h3,h4⟩ k=>⟨st,h3,k.e _ h4⟩
  unfold gZ;repeat refine List.forall_mem_cons.2 ⟨by first|exact h1 _|exact h2|exact h3,?_⟩
  exact fun r hr=>by cases hr
 rw[List.getD_eq_getElem?_getD]
 cases e:(gZ enc g x f bx n)[i]? with
 | none=>exact fun _ _ _ h _=>h
 | some r=>exact key r (List.mem_of_getElem? e)
end
end Go.Proofs.YtkfmheelhinjdaaGreatDoor
namespace Go.Proofs.YtkfmheelhinjdaaGreatDoor.W
open Go.RowKit
set_option linter.unusedVariables false
set_option maxHeartbeats 8000000
set_option maxRecDepth 6000
end Go.Proofs.YtkfmheelhinjdaaGreatDoor.W
