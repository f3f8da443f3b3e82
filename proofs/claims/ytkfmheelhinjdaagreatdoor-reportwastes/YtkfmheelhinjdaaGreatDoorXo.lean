import Derived.Test.YtkfmheelhinjdaaGreatDoorXl
import Derived.Test.YtkfmheelhinjdaaGreatDoorXy
set_option maxRecDepth 1000000
set_option maxHeartbeats 80000000
namespace Go.Proofs.YtkfmheelhinjdaaGreatDoor
open _root_.Go.Proofs.Tryz
open Go.RowKit
set_option linter.unusedVariables false
theorem nI{W:World}{b:Nat}{e:TypeId}{size:Nat}{v:Value}{n:Nat}{xs:List Value}(h:W.ownsRow b e size v n xs):∃ va vc,v=.slice va n vc:=by
 rcases h.2 with ⟨h0,h1⟩|⟨g,cap,cur,h0,_⟩
 ·exact⟨none,0,by rw[h0,h1]⟩
 ·exact⟨_,_,h0⟩
theorem tY{W:World}{b:Nat}{e:TypeId}{size:Nat}{v:Value}{n:Nat}{xs:List Value}(h:W.ownsRow b e size v n xs){y:Nat}(hy:v.ownBlock=some y):∃ cs,W.heap[y]?=some (.cells cs e (0,0)):=by
 rcases h.2 with ⟨h0,_⟩|⟨g,cap,cur,h0,hb,hg,h3⟩
 ·rw[h0] at hy;simp[Value.ownBlock] at hy
 ·rw[h0] at hy;simp[Value.ownBlock] at hy;subst hy;exact⟨_,hg⟩
end Go.Proofs.YtkfmheelhinjdaaGreatDoor
namespace Go.Proofs.YtkfmheelhinjdaaGreatDoor.W
open _root_.Go.Proofs.Tryz
open Go.RowKit
set_option linter.unusedVariables false
set_option maxHeartbeats 16000000
set_option maxRecDepth 6000
theorem nJ:(prog.info? 5).map (fun i=>(i.zero,i.size,i.bytes))=some (some (.int .u8 0),1,1):=by kernel_rfl
section
variable {P:Program} {ops:Array Oper} {md:Region.Mode} {Q:Exit->Act->World->Prop}
theorem wpOp_of_list{i:Nat}{o:Oper}{K:Act->World->Prop}{a:Act}{w:World}(ho:ops[i]?=some o)(h:wpList P ops (Exit.then K Q) [o] a w):wpOp P ops Q i K a w:=by
 unfold wpOp;simp only[ho];unfold wpList at h;split
 ·rename_i hw;simp only[hw,if_true] at h;rcases h with h|⟨h1,b,w1,h2⟩
  ·refine .inl ?_;unfold Oper.wp at *;generalize (execOp a.eval o).run P w=r at *
   cases r with
   | ok n w'=>cases n <;> simp only[Oper.upon] at h ⊢ <;> exact h
   | halt x w'=>cases x <;> simp only[Oper.upon] at h ⊢ <;> exact h
  ·exact .inr ⟨h1,b,w1,h2⟩
 ·rename_i hw;simp only[hw] at h;exact h
def oE(ls:Array Bool):Nat:=ls.toList.countP (fun b=>!b)
theorem EF{ls:Array Bool}{i:Nat}(h:ls.getD i true=false):oE (ls.setIfInBounds i true)+1=oE ls:=by
 unfold oE;rcases Nat.lt_or_ge i ls.size with hl|hl
 ·have h1:ls[i]=false:=by simpa [hl] using h
  obtain⟨l⟩:=ls;simp only[List.setIfInBounds_toArray,List.getElem_toArray] at *;clear h;induction l generalizing i with
  | nil=>simp at hl
  | cons x l ih=>
   cases i with
   | zero=>
    simp only[List.getElem_cons_zero] at h1;subst h1;simp
   | succ i=>
    simp only[List.set_cons_succ,List.countP_cons];have:=ih (i:=i) (by simpa using hl) (by simpa using h1);omega
 ·simp[Array.getElem?_eq_none hl] at h
theorem EY{ls:Array Bool}(h:oE ls=0):Region.ready md ops ls=[]:=by
 rw[List.eq_nil_iff_forall_not_mem];intro i hi;have h1:=EF (mem_ready.1 hi).1;omega
theorem ED{I:Array Bool->Act->World->Prop}(hs:∀ ls a w i,I ls a w->i∈Region.ready md ops ls->wpOp P ops Q i (I (ls.setIfInBounds i true)) a w)
  (he:∀ ls a w,I ls a w->Region.ready md ops ls=[]->Q .normal a w):∀ (n:Nat) (ls:Array Bool) (a:Act) (w:World),oE ls<=n->I ls a w->wpAny P md ops Q n ls a w
 | 0,ls,a,w,hn,h=>⟨EY (by omega),he _ _ _ h (EY (by omega))⟩
 | n+1,ls,a,w,hn,h=>⟨he _ _ _ h,fun i hi=>wpOp_mono (fun a' w' h'=>ED hs he n _ a' w' (by have:=EF (mem_ready.1 hi).1;omega) h') (hs _ _ _ _ h hi)⟩
end
theorem wp_region_inv{P:Program}{id:Nat}{Q:Exit->Act->World->Prop}{a:Act}{w:World}{ops:Array Oper}(hm:P.follows .mixedOrders=true)(I:Array Bool->Act->World->Prop)
  (h0:I (Array.replicate ops.size false) a w.drew)
  (hs:∀ ls a w i,I ls a w->i∈Region.ready .any ops ls->wpOp P ops Q i (I (ls.setIfInBounds i true)) a w)
  (he:∀ ls a w,I ls a w->Region.ready .any ops ls=[]->Q .normal a w):(Code.region id ops true).wp P Q a w:=
 wp_region_any hm (ED hs he _ _ _ _ (by unfold oE;refine Nat.le_trans List.countP_le_length ?_;simp) h0)
end Go.Proofs.YtkfmheelhinjdaaGreatDoor.W
namespace Go.Proofs.YtkfmheelhinjdaaGreatDoor
open _root_.Go.Proofs.Tryz
open Go.RowKit
set_option linter.unusedVariables false
theorem bE{P:Program}{ops:Array Oper}{Q:Exit->Act->World->Prop}{i:Nat}{o:Oper}{K:Act->World->Prop}{a:Act}{w:World}(ho:ops[i]?=some o)(h:wpList P ops (Exit.then K Q) [o] a w):wpOp P ops Q i K a w:=W.wpOp_of_list ho h
def aG(v:Nat->Value)(i:Nat)(u:Value):Nat->Value:=fun j=>if j=i then u else v j
theorem zO{v:Nat->Value}{i:Nat}{u:Value} : aG v i u i=u:=if_pos rfl
theorem zN{v:Nat->Value}{i j:Nat}{u:Value}(h:j≠i):aG v i u j=v j:=if_neg h
def gJ(ops:Array Oper)(i j:Nat):Bool:=match ops[i]? with
 | none=>false
 | some o=>o.after.any fun e=>Region.binds .any e && e.on == j
def mJ(ops:Array Oper):Nat->Nat->Nat->Bool
 | 0,_,_=>false
 | n+1,i,j=>gJ ops i j || match ops[i]? with
  | none=>false
  | some o=>o.after.any fun e=>Region.binds .any e && mJ ops n e.on j
def jD(ops:Array Oper):Bool:=(List.range ops.size).all fun i=>match ops[i]? with
 | none=>true
 | some o=>o.after.all fun e=>!Region.binds .any e || decide (e.on<i)
def JY(ops:Array Oper)(last:Nat):Bool:=(List.range last).all fun j=>mJ ops 40 last j
section
variable {P:Program} {ops:Array Oper} {Q:Exit->Act->World->Prop} {ls:Array Bool}
theorem DA{i j:Nat} : gJ ops i j=true↔∃ o,ops[i]?=some o/\∃ e∈o.after,Region.binds .any e=true/\e.on=j:=by
 unfold gJ
 cases h:ops[i]? with
 | none=>simp
 | some o=>
  simp[Array.any_eq_true,Array.mem_iff_getElem];grind
theorem wL(hc:∀ i j,gJ ops i j=true->ls.getD i false=true->ls.getD j false=true){i j:Nat}(hr:∀ j,gJ ops i j=true->ls.getD j false=true):∀ n,mJ ops n i j=true->ls.getD j false=true:=by
 intro n;induction n generalizing i with
 | zero=>intro h;cases h
 | succ n ih=>
  intro h;unfold mJ at h;rw[Bool.or_eq_true] at h;rcases h with h|h
  ·exact hr _ h
  ·cases ho:ops[i]? with
   | none=>rw[ho] at h;cases h
   | some o=>
    rw[ho] at h;simp only[Array.any_eq_true',Bool.and_eq_true] at h;obtain⟨e,he,hb,h⟩:=h;have hd:=hr _ (DA.2 ⟨o,ho,e,he,hb,rfl⟩);exact ih (fun k hk=>hc _ _ hk hd) h
theorem sH{i:Nat}(hi:i∈Region.ready .any ops ls):∀ j,gJ ops i j=true->ls.getD j false=true:=by
 intro j hj;obtain⟨hn,o,ho,hd⟩:=mem_ready.1 hi;obtain⟨o',ho',e,he,hb,rfl⟩:=DA.1 hj;rw[ho] at ho'
 cases ho'
 exact hd e he hb
theorem uJ{i:Nat}(hn:ls.getD i true=false):i<ls.size/\ls.getD i false=false:=by
 rcases Nat.lt_or_ge i ls.size with hl|hl
 ·exact⟨hl,by simpa [hl] using hn⟩
 ·simp[Array.getElem?_eq_none hl] at hn
theorem qW{i j:Nat}(hi:i<ls.size):(ls.setIfInBounds i true).getD j false=true↔j=i\/ls.getD j false=true:=by
 by_cases h:i=j
 ·subst h;simp[hi]
 ·rw[Go.getD_set_ne _ h];exact⟨.inr,fun h'=>h'.resolve_left (fun e=>h e.symm)⟩
theorem CZ(hs:ls.size=ops.size)(hB:jD ops=true)(hr:Region.ready .any ops ls=[]):∀ n i,i<=n->i<ops.size->ls.getD i false=true:=by
 intro n;induction n with
 | zero=>
  intro i hi hl;obtain rfl:i=0:=by omega
  cases h:ls.getD 0 false with
  | true=>rfl
  | false=>
   have : 0∈Region.ready .any ops ls:=mem_ready.2 ⟨(by have : 0<ls.size:=(by omega);simpa [this] using h),ops[0],by simp,fun e he hb=>by
    unfold jD at hB;have:=List.all_eq_true.1 hB 0 (by simpa using hl);simp only[Array.getElem?_eq_getElem hl] at this;have:=Array.all_eq_true'.1 this e he;simp[hb] at this⟩
   rw[hr] at this
   cases this
 | succ n ih=>
  intro i hi hl;rcases Nat.lt_or_ge i (n+1)with h1|h1
  ·exact ih i (by omega) hl
  cases h:ls.getD i false with
  | true=>rfl
  | false=>
   have:i∈Region.ready .any ops ls:=mem_ready.2 ⟨(by have:i<ls.size:=(by omega);simpa [this] using h),ops[i],by simp,fun e he hb=>by
    unfold jD at hB;have:=List.all_eq_true.1 hB i (by simpa using hl);simp only[Array.getElem?_eq_getElem hl] at this;have:=Array.all_eq_true'.1 this e he;simp[hb] at this;exact ih _ (by omega) (by omega)⟩
   rw[hr] at this
   cases this
theorem pO{n i:Nat} : (Array.replicate n false).getD i false=false:=by
 rcases Nat.lt_or_ge i n with h|h
 ·simp[h]
 ·simp[Nat.not_lt.2 h]
structure Flw(ops:Array Oper)(G:World->World->Prop)(w1:World)(R:Nat->Value->World->Prop)(ls:Array Bool)(v:Nat->Value)(w:World):Prop where
 sz:ls.size=ops.size
 cl:∀ i j,gJ ops i j=true->ls.getD i false=true->ls.getD j false=true
 k:G w1 w
 d:∀ i,ls.getD i false=true->R i (v i) w
theorem Flw.put{G:World->World->Prop}{w1 W W':World}{R:Nat->Value->World->Prop}{v:Nat->Value}{i:Nat}{u:Value}(hG:∀ a b c,G a b->G b c->G a c)(hR:∀ i u W W',R i u W->G W W'->R i u W')
  (h:Flw ops G w1 R ls v W) (hi:i∈Region.ready .any ops ls) (hu:R i u W') (k:G W W'):Flw ops G w1 R (ls.setIfInBounds i true) (aG v i u) W':=by
 have hd:=sH hi;have hn:=uJ (mem_ready.1 hi).1;refine⟨by simpa using h.sz,fun a b hab ha=>?_,hG _ _ _ h.k k,fun j hj=>?_⟩
 ·rw[qW hn.1] at ha ⊢;rcases ha with rfl|ha
  ·exact .inr (hd _ hab)
  ·exact .inr (h.cl _ _ hab ha)
 ·rw[qW hn.1] at hj;by_cases e:j=i
  ·subst e;rw[zO];exact hu
  ·rw[zN e];exact hR _ _ _ _ (h.d j (hj.resolve_left e)) k
theorem zdU{id:Nat}{w:World}(hm:P.follows .mixedOrders=true)(F:(Nat->Value)->Act)(v0:Nat->Value)(B:World->Prop)(G:Nat->World->World->Prop)(R:Nat->Value->World->Prop)
  (hG:∀ i W W',B W->G i W W'->B W') (hR:∀ i j u W W',j≠i->B W->R j u W->G i W W'->R j u W') (hB:jD ops=true) (hw:B w.drew)
  (hs:∀ i o,ops[i]?=some o->∀ v W,B W->(∀ j,mJ ops 40 i j=true->R j (v j) W)->wpOp P ops Q i (fun a' W'=>∃ u,a'=F (aG v i u)/\R i u W'/\G i W W') (F v) W)
  (hl:∀ v W,B W->(∀ i,i<ops.size->R i (v i) W)->Q .normal (F v) W):(Code.region id ops true).wp P Q (F v0) w:=by
 refine W.wp_region_inv hm (fun ls a W=>∃ v,a=F v/\(ls.size=ops.size/\(∀ i j,gJ ops i j=true->ls.getD i false=true->ls.getD j false=true)/\B W/\∀ i,ls.getD i false=true->R i (v i) W)) ⟨v0,rfl,by simp,fun i j _ h=>(by rw[pO] at h;cases h),hw,fun i h=>(by rw[pO] at h;cases h)⟩ ?_ ?_
 ·rintro ls a W i ⟨v,rfl,hz,hc,hb,hd0⟩ hi;obtain⟨hn,o,ho,hd⟩:=mem_ready.1 hi;have hn2:=uJ hn;have hrd:=sH hi;refine wpOp_mono ?_ (hs i o ho v W hb fun j hj=>hd0 j (wL hc hrd _ hj));rintro a' W' ⟨u,rfl,hu,k⟩;refine⟨_,rfl,by simpa using hz,fun a b hab ha=>?_,hG _ _ _ hb k,fun j hj=>?_⟩
  ·rw[qW hn2.1] at ha ⊢;rcases ha with rfl|ha
   ·exact .inr (hrd _ hab)
   ·exact .inr (hc _ _ hab ha)
  ·rw[qW hn2.1] at hj;by_cases e:j=i
   ·subst e;rw[zO];exact hu
   ·rw[zN e];exact hR _ _ _ _ _ e hb (hd0 j (hj.resolve_left e)) k
 ·rintro ls a W ⟨v,rfl,hz,hc,hb,hd0⟩ hr;exact hl v W hb fun i hi=>hd0 i (CZ hz hB hr i i (Nat.le_refl _) hi)
theorem IC{id:Nat}{w w1:World}(hm:P.follows .mixedOrders=true)(F:(Nat->Value)->Act)(v0:Nat->Value)(G:World->World->Prop)(hG:∀ a b c,G a b->G b c->G a c)(R:Nat->Value->World->Prop)
  (hR:∀ i u W W',R i u W->G W W'->R i u W') (last:Nat) (hz:ops.size=last+1) (hB:jD ops=true) (hL:JY ops last=true) (hw:G w1 w.drew)
  (hs:∀ i o,ops[i]?=some o->i<last->∀ v W,G w1 W->(∀ j,mJ ops 40 i j=true->R j (v j) W)->wpOp P ops Q i (fun a' W'=>∃ u,a'=F (aG v i u)/\R i u W'/\G W W') (F v) W)
  (hl:∀ o,ops[last]?=some o->∀ v W,G w1 W->(∀ i,i<last->R i (v i) W)->wpOp P ops Q last (fun a' W'=>Q .normal a' W') (F v) W):(Code.region id ops true).wp P Q (F v0) w:=by
 refine W.wp_region_inv hm (fun ls a W=>ls.size=ops.size/\((ls.getD last false=false/\∃ v,a=F v/\Flw ops G w1 R ls v W)\/(∀ i,i<=last->ls.getD i false=true)/\Q .normal a W)) ⟨by simp,.inl ⟨pO,v0,rfl,by simp,fun i j _ h=>(by rw[pO] at h;cases h),hw,fun i h=>(by rw[pO] at h;cases h)⟩⟩ ?_ ?_
 ·rintro ls a W i ⟨hsz,h⟩ hi;obtain⟨hn,o,ho,hd⟩:=mem_ready.1 hi;have hn2:=uJ hn;rcases h with ⟨hl0,v,rfl,h⟩|⟨h,_⟩
  ·rcases Nat.lt_trichotomy i last with h1|rfl|h1
   ·refine wpOp_mono ?_ (hs i o ho h1 v W h.k fun j hj=>h.d j (wL h.cl (sH hi) _ hj));rintro a' W' ⟨u,rfl,hu,k⟩;exact⟨by simpa using hsz,.inl ⟨by rw[Go.getD_set_ne _ (by omega)];exact hl0,_,rfl,h.put hG hR hi hu k⟩⟩
   ·have ha:∀ j,j<i->ls.getD j false=true:=fun j hj=>wL h.cl (sH hi) _ (List.all_eq_true.1 hL j (by simpa using hj))
    refine wpOp_mono ?_ (hl o ho v W h.k fun j hj=>h.d j (ha j hj));intro a' W' hq;refine⟨by simpa using hsz,.inr ⟨fun j hj=>(qW hn2.1).2 ?_,hq⟩⟩;by_cases e:j=i
    ·exact .inl e
    ·exact .inr (ha j (by omega))
   ·omega
  ·rw[h i (by omega)] at hn2
   cases hn2.2
 ·rintro ls a W ⟨hsz,h⟩ hr;rcases h with ⟨hl0,v,rfl,h⟩|⟨_,h⟩
  ·rw[CZ hsz hB hr last last (Nat.le_refl _) (by omega)] at hl0
   cases hl0
  ·exact h
def cU:Value->World->Prop:=fun _ _=>True
theorem zc1{id:Nat}{w:World}(hm:P.follows .mixedOrders=true)(F:(Nat->Value)->Act)(v0:Nat->Value)(B:World->Prop)(N Wr:World->World->Prop)(La:List (Value->World->Prop))(RS:Value->World->Prop)(k:Nat)(hk:La.length=k)(hz:ops.size=k+1)
  (hN:∀ W W',B W->N W W'->B W') (hW:∀ W W',B W->Wr W W'->B W') (stN:∀ r∈La,∀ u W W',B W->r u W->N W W'->r u W') (stS:∀ u W W',B W->RS u W->N W W'->RS u W') (stW:∀ r∈La,∀ u W W',B W->r u W->Wr W W'->r u W') (hB:jD ops=true) (hw:B w.drew)
  (hs:∀ i o,ops[i]?=some o->i<k->∀ v W,B W->(∀ j,mJ ops 40 i j=true->((La ++ [RS]).getD j cU) (v j) W)->wpOp P ops Q i (fun a' W'=>∃ u,a'=F (aG v i u)/\(La.getD i cU) u W'/\N W W') (F v) W)
  (hx:∀ o,ops[k]?=some o->∀ v W,B W->(∀ j,mJ ops 40 k j=true->((La ++ [RS]).getD j cU) (v j) W)->wpOp P ops Q k (fun a' W'=>∃ u,a'=F (aG v k u)/\RS u W'/\Wr W W') (F v) W)
  (hl:∀ v W,B W->(∀ i,i<k->(La.getD i cU) (v i) W)->RS (v k) W->Q .normal (F v) W):(Code.region id ops true).wp P Q (F v0) w:=by
 subst hk;have lt:∀ j,j<La.length->(La ++ [RS]).getD j cU=La.getD j cU:=fun j hj=>by
  rw[List.getD_eq_getElem?_getD,List.getD_eq_getElem?_getD,List.getElem?_append_left hj]
 have eq:(La ++ [RS]).getD La.length cU=RS:=by
  rw[List.getD_eq_getElem?_getD,List.getElem?_append_right (Nat.le_refl _),Nat.sub_self];rfl
 have gt:∀ j,La.length<j->(La ++ [RS]).getD j cU=cU:=fun j hj=>by
  rw[List.getD_eq_getElem?_getD,List.getElem?_eq_none (by simp;omega)];rfl
 have mem:∀ j,j<La.length->La.getD j cU∈La:=fun j hj=>by
  rw[List.getD_eq_getElem?_getD,List.getElem?_eq_getElem hj];exact List.getElem_mem _
 refine zdU hm F v0 B (fun i=>if i=La.length then Wr else N) (fun j=>(La ++ [RS]).getD j cU) (fun i W W' hb hg=>?_) (fun i j u W W' hne hb hr hg=>?_) hB hw (fun i o ho v W hb hd=>?_) (fun v W hb hd=>?_)
 ·by_cases e:i=La.length
  ·rw[if_pos e] at hg;exact hW _ _ hb hg
  ·rw[if_neg e] at hg;exact hN _ _ hb hg
 ·rcases Nat.lt_trichotomy j La.length with h1|rfl|h1
  ·rw[lt j h1] at hr ⊢;by_cases e:i=La.length
   ·rw[if_pos e] at hg;exact stW _ (mem j h1) _ _ _ hb hr hg
   ·rw[if_neg e] at hg;exact stN _ (mem j h1) _ _ _ hb hr hg
  ·rw[if_neg (Ne.symm hne)] at hg;rw[eq] at hr ⊢;exact stS _ _ _ hb hr hg
  ·rw[gt j h1];exact True.intro
 ·have hi:i<ops.size:=(Array.getElem?_eq_some_iff.1 ho).1;by_cases e:i=La.length
  ·subst e;refine wpOp_mono ?_ (hx o ho v W hb hd);rintro a' W' ⟨u,h1,h2,h3⟩;exact⟨u,h1,by rw[eq];exact h2,by rw[if_pos rfl];exact h3⟩
  ·refine wpOp_mono ?_ (hs i o ho (by omega) v W hb hd);rintro a' W' ⟨u,h1,h2,h3⟩;exact⟨u,h1,by rw[lt i (by omega)];exact h2,by rw[if_neg e];exact h3⟩
 ·refine hl v W hb (fun i hi=>?_) ?_
  ·have:=hd i (by omega);rwa [lt i hi] at this
  ·have:=hd La.length (by omega);rwa [eq] at this
end
end Go.Proofs.YtkfmheelhinjdaaGreatDoor
namespace Go.Proofs.YtkfmheelhinjdaaGreatDoor.W
open _root_.Go.Proofs.Tryz
open Go.RowKit
set_option linter.unusedVariables false
set_option maxHeartbeats 8000000
set_option maxRecDepth 6000
theorem jQ{P:World->Prop}(w:World)(h:∀ W,W=w->P W):P w:=h w rfl
theorem tT(I:Img)(V:ImV)(g:Nat)(o:Int)(hg:g<I.np)(w:World)(hI:ImD w I V):
  Calls prog 147 #[imA I V,.int .i64 g,.int .i64 o] w fun e w'=>e=.returned (.bool (isF (I.pg g) o))/\Kt nO w w':=by
 obtain⟨⟨ma,mc,hm⟩,⟨pa,pc,hp⟩,⟨ra,rc,hr⟩,⟨ha,hc,hh⟩,⟨ta,tc,ht⟩,-⟩:=hI.sl;obtain⟨vm,vp,vr,vh,vt⟩:=V;dsimp only at hm hp hr hh ht;subst hm hp hr hh ht;have IM0:=aA (show ImAt (w.alloc (aE I _)) w.heap.size I _ from⟨nH _ _,hI.keep ((Kt.refl _ w).alloc _)⟩);have K0:=aA (show Kt nO w (w.alloc (aE I _))from(Kt.refl _ w).alloc (aE I ⟨.slice ma I.nm mc,.slice pa I.np pc,.slice ra I.no rc,.slice ha I.hd.length hc,.slice ta I.pt.length tc⟩));obtain⟨c0,c1,c2,c3,c4,c5,c6,c7,c8⟩:=IM0.out.cells;obtain⟨bl,oo,oc,hv,-,hpc⟩:=IM0.out.page g hg
 cases hv
 obtain⟨d0,d1,d2,d3,d4,d5,d6,d7,d8,d9,d10⟩:=hpc.c;have hgi:(g:Int)<I.np:=by omega
 obtain⟨bb,hbb⟩:=xe (isF (I.pg g) o);rw[<-hbb];have HB:=aA hbb;generalize I.pg g=p at *;clear hI hpc hg hbb;by_cases h1:p.kd=0
 ·have q1:(p.kd == 0)=true:=by rw[beq_iff_eq];exact h1
  by_cases h2:p.od=o
  ·have q2:(p.od == o)=true:=(by rw[beq_iff_eq];exact h2);have e:bb=true:=(by rw[HB.out];unfold isF;rw[decide_eq_true h1,decide_eq_true h2];rfl);subst e;clear h1 h2;go_enter func147,ntmps147;go_wp2_with fail;go_ret;exact⟨rfl,K0.out⟩
  ·have q2:(p.od == o)=false:=(by rw[beq_eq_false_iff_ne];exact h2);have e:bb=false:=(by rw[HB.out];unfold isF;rw[decide_eq_false h2];simp);subst e;clear h1 h2;go_enter func147,ntmps147;go_wp2_with fail;go_ret;exact⟨rfl,K0.out⟩
 ·have q1:(p.kd == 0)=false:=by rw[beq_eq_false_iff_ne];exact h1
  have e:bb=false:=by rw[HB.out];unfold isF;rw[decide_eq_false h1];rfl
  subst e;clear h1;go_enter func147,ntmps147;go_wp2_with fail;go_ret;exact⟨rfl,K0.out⟩
theorem PR(I:Img)(V:ImV)(hnp:I.np<=1024)(w:World)(hI:ImD w I V):
  Calls prog 102 #[imA I V] w fun e w'=>e=.returned (.int .i64 (eB (fst1 I.np fun i=>rngB I.ord I.np (I.pg i))))/\Kt nO w w':=by
 obtain⟨⟨ma,mc,hm⟩,⟨pa,pc,hp⟩,⟨ra,rc,hr⟩,⟨ha,hc,hh⟩,⟨ta,tc,ht⟩,-⟩:=hI.sl;obtain⟨vm,vp,vr,vh,vt⟩:=V;dsimp only at hm hp hr hh ht;subst hm hp hr hh ht;have IM0:=aA (show ImAt (w.alloc (aE I _)) w.heap.size I _ from⟨nH _ _,hI.keep ((Kt.refl _ w).alloc _)⟩);have K0:=aA (show Kt nO w (w.alloc (aE I _))from(Kt.refl _ w).alloc (aE I ⟨.slice ma I.nm mc,.slice pa I.np pc,.slice ra I.no rc,.slice ha I.hd.length hc,.slice ta I.pt.length tc⟩));obtain⟨c0,c1,c2,c3,c4,c5,c6,c7,c8⟩:=IM0.out.cells;obtain⟨ok,hok⟩:=xe (fun i=>rngB I.ord I.np (I.pg i));rw[<-hok];have OKE:=aA (show ∀ i,ok i=rngB I.ord I.np (I.pg i)from fun i=>by rw[hok]);have IN:=aA (fun x a b W=>II x a b W);obtain⟨n,hn⟩:=xe (I.np);have NP:=aA hn;obtain⟨rr,hrr⟩:=xe (eB (fst1 I.np ok));rw[<-hrr];have BAD:=aA (show ∀ a,a<n->(∀ j,j<a->ok j=true)->ok a=false->rr=(a:Int)from fun a h1 h2 h3=>by rw[hrr,fK (by omega) h2 h3];rfl);have GOOD:=aA (show(∀ j,j<n->ok j=true)->rr = -1 from fun h=>by rw[hrr,fst1_ok (by rw[<-hn];exact h)];rfl);obtain⟨z,hz⟩:∃ z:Int,z=(I.np:Int)-1:=⟨_,rfl⟩;have hzw:wrap64 ((n:Int)-1)=z:=by rw[wrap64];omega
 have ZE:=aA hz;rw[<-hn] at c5 hnp IM0 K0;rw[<-hn];have HNP:=aA hnp;clear hI hok hn hrr hz hnp;go_enter func102,ntmps102;go_wp2_with fail;clear c0 c1 c2 c3 c4 c5 c6 c7 c8;generalize w.heap.size=ib at *;generalize w.alloc (aE I ⟨.slice ma I.nm mc,.slice pa n pc,.slice ra I.no rc,.slice ha I.hd.length hc,.slice ta I.pt.length tc⟩)=W0 at *;go_loopw [4] (fun iv W=>∃ a:Nat,a<=n/\iv=.int .i64 a/\Hid (Kt nO W0 W/\∀ j,j<a->ok j=true)) (fun iv _=>n-(intOf iv).toNat)
 case atStart=>exact⟨0,Nat.zero_le _,rfl,aA ⟨Kt.refl _ _,fun j hj=>by omega⟩⟩
 case round=>
  obtain⟨a,ha',rfl,hG⟩:=hrel;have IMa:=aA (IM0.out.keep hG.out.1);by_cases hlt:a<n
  ·have hai:(a:Int)<n:=(by omega);obtain⟨c0,c1,c2,c3,c4,c5,c6,c7,c8⟩:=IMa.out.cells;dsimp only at c5;obtain⟨bl,oo,oc,hv,-,hpc⟩:=IMa.out.page a (by rw[<-NP.out];exact hlt);injection hv with e1 e2 e3
   subst e1;clear e2 e3;obtain⟨d0,d1,d2,d3,d4,d5,d6,d7,d8,d9,d10⟩:=hpc.c;have OKA:=aA (OKE.out a);have BADA:=aA (BAD.out a hlt hG.out.2);have HLT:=aA hlt;generalize I.pg a=p at *;clear hpc hlt ha';go_upto_region 6 with fail;refine jQ (P:=fun W=>Code.wp prog _ _ _ W) _ ?_;intro W1 hW;have k1:Kt nO wr W1:=(by subst hW;exact(Kt.refl _ wr).alloc _);have X1:W1.heap[wr.heap.size]?=some (aO p):=(by subst hW;exact nH _ _);have o1:W1.cell? ⟨ib,2,none⟩=some (.int .i64 I.ord):=(IMa.out.keep k1).cells.2.2.1;have KE:=aA (nT hG.out.1 k1);obtain⟨e0,e1,e2,e3,e4,e5,e6⟩:=EG X1;have PREV:=aA hG.out.2;clear hW k1 X1 hG c0 c1 c2 c3 c4 c5 c6 c7 c8 d0 d1 d2 d3 d4 d5 d6 d7 d8 d9 d10 IMa;generalize wr.heap.size=pb at *;obtain⟨b1,hb1⟩:∃ b,b=wiB p.kd 0 4:=⟨_,rfl⟩;obtain⟨b2,hb2⟩:∃ b,b=wiB p.od 0 I.ord:=⟨_,rfl⟩;obtain⟨b3,hb3⟩:∃ b,b=wiB p.cl 0 7:=⟨_,rfl⟩;obtain⟨b4,hb4⟩:∃ b,b=wiB p.lv 0 256:=⟨_,rfl⟩;obtain⟨b5,hb5⟩:∃ b,b=wiB p.nx (-1) z:=⟨_,rfl⟩;obtain⟨b6,hb6⟩:∃ b,b=wiB p.pv (-1) z:=⟨_,rfl⟩;obtain⟨b7,hb7⟩:∃ b,b=wiB p.fs (-1) 255:=⟨_,rfl⟩;have OKB:=aA (show ok a=(b1 && (b2 && (b3 && (b4 && (b5 && (b6 && b7))))))by rw[OKA.out,hb1,hb2,hb3,hb4,hb5,hb6,hb7,ZE.out];rfl);have HB1:=aA hb1;have HB2:=aA hb2;have HB3:=aA hb3;have HB4:=aA hb4;have HB5:=aA hb5;have HB6:=aA hb6;have HB7:=aA hb7;clear hb1 hb2 hb3 hb4 hb5 hb6 hb7;go_wp2_with fail;refine(IN.out _ _ _ _).mono ?_;rintro e w1 ⟨rfl,rfl⟩;rw[<-HB1.out]
   cases b1 with
   | false=>
    have er:=BADA.out (by rw[OKB.out];simp);subst er;go_wp2_with fail;go_ret;exact⟨rfl,nT K0.out KE.out⟩
   | true=>
    go_wp2_with fail;refine(IN.out _ _ _ _).mono ?_;rintro e w2 ⟨rfl,rfl⟩;rw[<-HB2.out]
    cases b2 with
    | false=>
     have er:=BADA.out (by rw[OKB.out];simp);subst er;go_wp2_with fail;go_ret;exact⟨rfl,nT K0.out KE.out⟩
    | true=>
     go_wp2_with fail;refine(IN.out _ _ _ _).mono ?_;rintro e w3 ⟨rfl,rfl⟩;rw[<-HB3.out]
     cases b3 with
     | false=>
      have er:=BADA.out (by rw[OKB.out];simp);subst er;go_wp2_with fail;go_ret;exact⟨rfl,nT K0.out KE.out⟩
     | true=>
      go_wp2_with fail;refine(IN.out _ _ _ _).mono ?_;rintro e w4 ⟨rfl,rfl⟩;rw[<-HB4.out]
      cases b4 with
      | false=>
       have er:=BADA.out (by rw[OKB.out];simp);subst er;go_wp2_with fail;go_ret;exact⟨rfl,nT K0.out KE.out⟩
      | true=>
       go_wp2_with fail;refine(IN.out _ _ _ _).mono ?_;rintro e w5 ⟨rfl,rfl⟩;rw[<-HB5.out]
       cases b5 with
       | false=>
        have er:=BADA.out (by rw[OKB.out];simp);subst er;go_wp2_with fail;go_ret;exact⟨rfl,nT K0.out KE.out⟩
       | true=>
        go_wp2_with fail;refine(IN.out _ _ _ _).mono ?_;rintro e w6 ⟨rfl,rfl⟩;rw[<-HB6.out]
        cases b6 with
        | false=>
         have er:=BADA.out (by rw[OKB.out];simp);subst er;go_wp2_with fail;go_ret;exact⟨rfl,nT K0.out KE.out⟩
        | true=>
         go_wp2_with fail;refine(IN.out _ _ _ _).mono ?_;rintro e w7 ⟨rfl,rfl⟩;rw[<-HB7.out]
         cases b7 with
         | false=>
          have er:=BADA.out (by rw[OKB.out];simp);subst er;go_wp2_with fail;go_ret;exact⟨rfl,nT K0.out KE.out⟩
         | true=>
          have eo:ok a=true:=(by rw[OKB.out];rfl);go_wp2_with fail;have hw:wrap64 ((a:Int)+1)=((a+1:Nat):Int):=(by have:=HNP.out;have:=HLT.out;rw[wrap64];omega);rw[hw];exact⟨⟨a+1,by have:=HLT.out;omega,rfl,aA ⟨KE.out,fun j hj=>by
           by_cases e:j=a
           ·rw[e];exact eo
           ·exact PREV.out j (by omega)⟩⟩,by have:=HLT.out;simp only[intOf,Int.toNat_natCast];omega⟩
  ·have hai:¬(a:Int)<n:=(by omega);obtain⟨c0,c1,c2,c3,c4,c5,c6,c7,c8⟩:=IMa.out.cells;dsimp only at c5;have er:=GOOD.out (fun j hj=>hG.out.2 j (by omega));subst er;go_wp2_with fail;go_ret;exact⟨rfl,nT K0.out hG.out.1⟩
end Go.Proofs.YtkfmheelhinjdaaGreatDoor.W
namespace Go.Proofs.YtkfmheelhinjdaaGreatDoor
open _root_.Go.Proofs.Tryz
open Go.RowKit
set_option linter.unusedVariables false
section
variable {α : Type} {enc : α->Value} {ok : α->Prop} {g:Nat} {D:List α} {c : α->Nat} {x : α}
def mC(enc : α->Value)(ok : α->Prop)(g:Nat)(D:List α)(c : α->Nat)(x : α)(W:World):Prop:=∃ D',(D'=D\/D'=bA D x)/\MC enc ok W g D' c
structure GmP(enc : α->Value)(ok : α->Prop)(g:Nat)(D:List α)(c : α->Nat)(x : α)(W W':World):Prop where
 k:Kt (fun y=>y=g) W W'
 m:mC enc ok g D c x W->mC enc ok g D c x W'
 e:∀ st,iK enc W g st x->iK enc W' g st x
theorem GmP.trans{a b d:World}(h:GmP enc ok g D c x a b)(k:GmP enc ok g D c x b d):GmP enc ok g D c x a d:=
 ⟨h.k.trans k.k (fun _ _ e=>e) (fun _ _ e=>e),fun m=>k.m (h.m m),fun st e=>k.e st (h.e st e)⟩
theorem GmP.of_kept{W W':World}(k:Kt nO W W'):GmP enc ok g D c x W W':=
 ⟨k.mono (fun _ _ e=>e.elim),fun ⟨D',h1,h2⟩=>⟨D',h1,h2.kept k id⟩,fun _ h=>h.kept k id⟩
theorem GmP.drew{W:World} : GmP enc ok g D c x W W.drew:=GmP.of_kept (Kt.refl nO W).drew
theorem GmP.rfl'{W:World} : GmP enc ok g D c x W W:=GmP.of_kept (Kt.refl nO W)
theorem ziL:bA (bA D x) x=bA D x:=uL ((oR x x).2 (.inr rfl))
theorem mC.add{W:World}(h:mC enc ok g D c x W):∃ D',MC enc ok W g D' c/\bA D' x=bA D x:=by
 obtain⟨D',rfl|rfl,h2⟩:=h
 ·exact⟨D',h2,rfl⟩
 ·exact⟨_,h2,ziL⟩
def gN(v:Value):Value->World->Prop:=fun u _=>u=v
def mB(enc : α->Value)(g:Nat)(x : α):Value->World->Prop:=fun u W=>∃ v0 st,u=.tuple #[v0,goInt ((st:Nat):Int)]/\iK enc W g st x
def mA(enc : α->Value)(g:Nat)(x : α):Value->World->Prop:=fun u W=>∃ st:Nat,u=goInt ((st:Nat):Int)/\iK enc W g st x
def jL(enc : α->Value)(g:Nat)(x : α)(f bx:Value)(n:Nat):List (Value->World->Prop):=[gN (.map (some g)),gN f,gN bx,gN (enc x),gN (eG n),gN (eG (n+1)),mB enc g x,mA enc g x]
theorem QG{f bx:Value}{n:Nat}(i:Nat):∀ u W W',((jL enc g x f bx n).getD i cU) u W->GmP enc ok g D c x W W'->((jL enc g x f bx n).getD i cU) u W':=by
 have key:∀ r∈jL enc g x f bx n,∀ u W W',r u W->GmP enc ok g D c x W W'->r u W':=by
  have h1:∀ v,∀ u W W',gN v u W->GmP enc ok g D c x W W'->gN v u W':=fun v u W W' h _=>h
  have h2:∀ u W W',mB enc g x u W->GmP enc ok g D c x W W'->mB enc g x u W':=fun u W W' ⟨v0,st,h3,h4⟩ k=>⟨v0,st,h3,k.e _ h4⟩
  have h3:∀ u W W',mA enc g x u W->GmP enc ok g D c x W W'->mA enc g x u W':=fun u W W' ⟨st,h3,h4⟩ k=>⟨st,h3,k.e _ h4⟩
  unfold jL;repeat refine List.forall_mem_cons.2 ⟨by first|exact h1 _|exact h2|exact h3,?_⟩
  exact fun r hr=>by cases hr
 rw[List.getD_eq_getElem?_getD]
 cases e:(jL enc g x f bx n)[i]? with
 | none=>exact fun _ _ _ h _=>h
 | some r=>exact key r (List.mem_of_getElem? e)
end
end Go.Proofs.YtkfmheelhinjdaaGreatDoor
namespace Go.Proofs.YtkfmheelhinjdaaGreatDoor.W
open _root_.Go.Proofs.Tryz
open Go.RowKit
set_option linter.unusedVariables false
set_option maxHeartbeats 8000000
set_option maxRecDepth 6000
theorem WZ(I:Img)(V:ImV)(k r:Nat)(hS:Sn9 I k r)(p:Nat)(w:World)(hI:ImD w I V):
  Calls prog 148 #[imA I V,.int .u64 p] w fun e w'=>e=.returned (.int .i64 (gK (decP I p)))/\Kt nO w w':=by
 obtain⟨⟨ma,mc,hm⟩,⟨pa,pc,hp⟩,⟨ra,rc,hr⟩,⟨ha,hc,hh⟩,⟨ta,tc,ht⟩,-⟩:=hI.sl;obtain⟨vm,vp,vr,vh,vt⟩:=V;dsimp only at hm hp hr hh ht;subst hm hp hr hh ht;have IM0:=aA (show ImAt (w.alloc (aE I _)) w.heap.size I _ from⟨nH _ _,hI.keep ((Kt.refl _ w).alloc _)⟩);have K0:=aA (show Kt nO w (w.alloc (aE I _))from(Kt.refl _ w).alloc (aE I ⟨.slice ma I.nm mc,.slice pa I.np pc,.slice ra I.no rc,.slice ha I.hd.length hc,.slice ta I.pt.length tc⟩));obtain⟨c0,c1,c2,c3,c4,c5,c6,c7,c8⟩:=IM0.out.cells;have HNP:=aA hS.np1;have HBE:=aA hS.be;have HNM:=aA hS.nm;obtain⟨rr,hrr⟩:=xe (gK (decP I p));rw[<-hrr];have HIT:=aA (show ∀ a,a<I.np->p=I.bS+4096*a->rr=(a:Int)from fun a h1 h2=>by
  have:=hS.nm;rw[hrr];unfold decP;rw[if_pos ⟨by omega,by omega,by omega⟩];show(((p-I.bS)/4096:Nat):Int)=_
  omega)
 have MISS:=aA (show(∀ a,a<I.np->¬p=I.bS+4096*a)->rr = -1 from fun h=>by
  have:=hS.nm;rw[hrr];unfold decP;rw[if_neg (fun hc=>h ((p-I.bS)/4096) (by omega) (by omega))];rfl)
 clear hI hrr hS;go_enter func148,ntmps148;go_wp2_with fail;clear c0 c1 c2 c3 c4 c5 c6 c7 c8;generalize w.heap.size=ib at *;generalize w.alloc (aE I ⟨.slice ma I.nm mc,.slice pa I.np pc,.slice ra I.no rc,.slice ha I.hd.length hc,.slice ta I.pt.length tc⟩)=W0 at *;go_loopw [5] (fun iv W=>∃ a:Nat,a<=I.np/\iv=.int .i64 a/\Hid (Kt nO W0 W/\∀ j,j<a->¬p=I.bS+4096*j)) (fun iv _=>I.np-(intOf iv).toNat)
 case atStart=>exact⟨0,Nat.zero_le _,rfl,aA ⟨Kt.refl _ _,fun j hj=>by omega⟩⟩
 case round=>
  obtain⟨a,ha',rfl,hG⟩:=hrel;have IMa:=aA (IM0.out.keep hG.out.1);obtain⟨c0,c1,c2,c3,c4,c5,c6,c7,c8⟩:=IMa.out.cells;dsimp only at c5;by_cases hlt:a<I.np
  ·have hai:(a:Int)<I.np:=(by omega);obtain⟨bS,hbase⟩:∃ b,b=I.bS:=⟨_,rfl⟩;rw[<-hbase] at c0;obtain⟨q,hq⟩:=xe (bS+4096*a);have g1:IntKind.u64.wrap (a:Int)=a:=(by have:=HNP.out;rw[wrap_u64];omega);have g2:IntKind.u64.wrap (4096*(a:Int))=4096*(a:Int):=(by have:=HNP.out;rw[wrap_u64];omega);have g3:IntKind.u64.wrap ((bS:Int)+4096*(a:Int))=(q:Int):=(by have:=HBE.out;have:=HNM.out;rw[wrap_u64];omega);have g4:(bS:Int)+4096*(a:Int)=q:=(by omega);have g5:IntKind.u64.wrap (q:Int)=q:=(by have:=HBE.out;have:=HNM.out;rw[wrap_u64];omega);have HITA:=aA (show p=q->rr=(a:Int)from fun h=>HIT.out a hlt (by rw[h,hq,hbase]));have MISA:=aA (show ¬p=q->∀ j,j<a+1->¬p=I.bS+4096*j from fun h j hj=>by
    by_cases e:j=a
    ·rw[e,<-hbase,<-hq];exact h
    ·exact hG.out.2 j (by omega))
   have KG:=aA hG.out.1;have HLT:=aA hlt;clear hbase hq hlt ha' hG;by_cases h:p=q
   ·have er:=HITA.out h;subst er;have q1:((p:Int) == (q:Int))=true:=(by rw[beq_iff_eq];omega);have q2:(p == q)=true:=(by rw[beq_iff_eq];exact h);clear h;go_wp2_with fail;go_ret;exact⟨rfl,nT K0.out (nT KG.out (Kt.refl nO wr))⟩
   ·have q1:((p:Int) == (q:Int))=false:=(by rw[beq_eq_false_iff_ne];omega);have q2:(p == q)=false:=(by rw[beq_eq_false_iff_ne];exact h);have N1:=aA (MISA.out h);clear h;go_wp2_with fail;have hw:wrap64 ((a:Int)+1)=((a+1:Nat):Int):=(by have:=HNP.out;have:=HLT.out;rw[wrap64];omega);rw[hw];exact⟨⟨a+1,by have:=HLT.out;omega,rfl,aA ⟨nT KG.out (Kt.refl nO wr),N1.out⟩⟩,by have:=HLT.out;simp only[intOf,Int.toNat_natCast];omega⟩
  ·have hai:¬(a:Int)<I.np:=(by omega);have er:=MISS.out (fun j hj=>hG.out.2 j (by omega));subst er;go_wp2_with fail;go_ret;exact⟨rfl,nT K0.out hG.out.1⟩
end Go.Proofs.YtkfmheelhinjdaaGreatDoor.W
