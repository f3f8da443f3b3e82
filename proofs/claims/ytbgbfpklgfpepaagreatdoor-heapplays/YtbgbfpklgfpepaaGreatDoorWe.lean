import Derived.Test.YtbgbfpklgfpepaaGreatDoorWd
import Derived.Deep.AppendLies
set_option maxRecDepth 1000000
set_option maxHeartbeats 80000000
namespace Go.Proofs.YtbgbfpklgfpepaaGreatDoor.O
open Tryz
open Go.RowKit
open Go.Proofs.YtbgbfpklgfpepaaGreatDoor.M (RS gJ mayB bE)
set_option linter.unusedVariables false
def takB(q n:Nat)(l:cD):Bool:=l.any fun b=>meetB q n b.1 b.2
theorem refTaken(q n:Nat)(v:Value)(l:cD)(w:World)(hbl:BL w v l)(hq:q+n<2 ^ 64)(hb:∀ b∈l,b.1+b.2<2 ^ 64):
  Calls prog 207 #[.int .u64 q,.int .u64 n,v] w fun e w'=>e=.returned (.bool (takB q n l))/\Kt nO w w':=by
 obtain⟨oa,oc,rfl⟩:∃ oa oc,v=.slice oa l.length oc:=by
  obtain⟨_,_,oa,oc,hv,_⟩:=hbl;exact⟨oa,oc,hv⟩
 have BL0:=aA hbl;have hlen:=hbl.len.2;have HB:=aA hb;clear hbl hb;go_enter func207,ntmps207;go_wp2_with fail;go_loopw [7] (fun i W=>∃ a:Nat,a<=l.length/\i=.int .i64 a/\Hid (Kt nO w W/\∀ j b,j<a->l[j]?=some b->meetB q n b.1 b.2=false)) (fun i _=>l.length-(intOf i).toNat)
 case atStart=>exact⟨0,Nat.zero_le _,rfl,aA ⟨Kt.refl _ _,fun j b hj=>by omega⟩⟩
 case round=>
  obtain⟨a,ha,rfl,HI⟩:=hrel;by_cases hlt:a<l.length
  ·have hai:(a:Int)<l.length:=(by omega);obtain⟨bl,o,p,s,rfl,hla,hp,hs,q0,q1⟩:=(BL0.out.keep HI.out.1).at a hlt;have HM:=aA (fun W=>refMeet q n p s hq (HB.out (p,s) (List.mem_of_getElem? hla)) W);have HLA:=aA hla;clear hla;go_wp2_with fail;refine(HM.out _).mono ?_;rintro e w2 ⟨rfl,hk⟩;have K2:=aA (nT HI.out.1 hk);clear hk q0 q1
   cases hm:meetB q n p s with
   | true=>
    have E:=aA (show takB q n l=true from List.any_eq_true.2 ⟨(p,s),List.mem_of_getElem? HLA.out,hm⟩);clear hm;go_wp2_with fail;go_ret;exact⟨cE E.out.symm,K2.out⟩
   | false=>
    have NX:=aA (show Kt nO w w2/\∀ j b,j<a+1->l[j]?=some b->meetB q n b.1 b.2=false from⟨K2.out,fun j b hj hb=>by
     by_cases e:j=a
     ·rw[e,HLA.out] at hb;injection hb with hb
      rw[<-hb];exact hm
     ·exact HI.out.2 j b (by omega) hb⟩)
    clear hm;go_wp2_with fail;go_round
    case rel=>exact⟨a+1,by omega,by go_num,NX⟩
    case measure=>simp[intOf];omega
  ·have hai:¬(a:Int)<l.length:=(by omega);have E:=aA (show takB q n l=false from by
    rw[Bool.eq_false_iff];intro h;obtain⟨b,hb,hm⟩:=List.any_eq_true.1 h;obtain⟨j,hj⟩:=List.mem_iff_getElem?.1 hb;have:=HI.out.2 j b (by have:=(List.getElem?_eq_some_iff.1 hj).1;omega) hj;rw[hm] at this
    cases this)
   go_wp2_with fail;go_ret;exact⟨cE E.out.symm,HI.out.1⟩
structure Snl(bS k n:Nat)(l:cD):Prop where
 bm:bS%RS k=0
 nr:n*RS k<=4194304
 gd:∀ a,a<l.length->fJ bS k n l a=true
theorem Snl.ok{bS k n:Nat}{l:cD}(h:Snl bS k n l){b:Nat×Nat}(hb:b∈l):okB bS k n b.1 b.2=true:=by
 obtain⟨j,hj⟩:=List.mem_iff_getElem?.1 hb;exact uP (p:=b.1) (s:=b.2) hj (h.gd j (List.getElem?_eq_some_iff.1 hj).1)
theorem zhM{bS k n:Nat}{l:cD}{a i:Nat}(h:a<i):fJ bS k n (l.take i) a=fJ bS k n l a:=by
 unfold fJ;rw[List.getElem?_take,if_pos h,List.take_take,Nat.min_eq_left (by omega)]
theorem Snl.take{bS k n:Nat}{l:cD}(h:Snl bS k n l)(i:Nat):Snl bS k n (l.take i):=
 ⟨h.bm,h.nr,fun a ha=>by
  rw[List.length_take] at ha;rw[zhM (by omega)];exact h.gd a (by omega)⟩
theorem RS_pages(k n:Nat):n*RS k=4096*(n*2 ^ k):=by rw[RS,Nat.mul_left_comm]
structure SU(U:List Un)(np:Nat):Prop where
 b:∀ u∈U,16<=u.2.2/\u.2.2<=1048576/\u.1<np/\u.2.1<dU u.2.2/\cL u.2.2=true
 p:U.Pairwise fun u u'=>u.1=u'.1->u'.2.2=u.2.2/\u'.2.1≠u.2.1
theorem SU.nil(np:Nat):SU [] np:=⟨(fun u h=>by cases h),List.Pairwise.nil⟩
theorem rO{o s x:Nat} : (∃ u∈units o s,u.1=x)↔o/4096<=x/\x<o/4096+npg s:=by
 constructor
 ·rintro ⟨u,hu,e⟩;obtain⟨i,hi,rfl⟩:=List.mem_map.1 hu;rw[List.mem_range] at hi;simp only[mD] at e;omega
 ·rintro ⟨h1,h2⟩;exact⟨mD o s (x-o/4096),List.mem_map.2 ⟨_,List.mem_range.2 (by omega),rfl⟩,by simp only[mD];omega⟩
theorem SU.add{bS k n:Nat}{U:List Un}{p s:Nat}(h:SU U (n*2 ^ k))(hk:k<=8)(hb:bS%RS k=0)(hn:n*RS k<=4194304)(hok:okB bS k n p s=true)(hl:pE U (p-bS) s=true):SU (U ++ units (p-bS) s) (n*2 ^ k):=by
 obtain⟨f1,f2,f3,f4,f5,f6,f7,f8⟩:=GX hb hn hok;have hR:=RS_le k hk;refine⟨fun u hu=>?_,?_⟩
 ·rcases List.mem_append.1 hu with hu|hu
  ·exact h.b u hu
  ·obtain⟨i,hi,rfl⟩:=List.mem_map.1 hu;rw[List.mem_range] at hi;refine⟨f2,by simp only[mD];omega,?_,f8,f1⟩;rw[RS_pages] at f7;simp only[mD];unfold npg at hi;have h1:OkO (p-bS) s:=⟨f1,f2,f6⟩;by_cases c:s<4096
   ·have:=h1.small c;omega
   ·have:=h1.large (by omega);omega
 ·rw[List.pairwise_append];refine⟨h.p,?_,fun u hu u' hu' e=>?_⟩
  ·unfold units uns;rw[List.pairwise_map];refine List.Pairwise.imp ?_ List.pairwise_lt_range;intro i j hij e;simp only[mD] at e;omega
  ·obtain⟨i,hi,rfl⟩:=List.mem_map.1 hu';have:=(GK U (p-bS) s).1 hl i (List.mem_range.1 hi) u hu e;exact⟨this.1.symm,fun e2=>this.2 e2.symm⟩
theorem Snl.su{bS k n:Nat}{l:cD}(h:Snl bS k n l)(hk:k<=8):SU (allU bS l) (n*2 ^ k):=by
 have key:∀ i,i<=l.length->SU (allU bS (l.take i)) (n*2 ^ k):=by
  intro i;induction i with
  | zero=>intro _;rw[List.take_zero];exact SU.nil _
  | succ i ih=>
   intro hi;have hb:=List.getElem?_eq_getElem (show i<l.length by omega);rw[JQ hb,ZM];have hg:=h.gd i (by omega);unfold fJ at hg;rw[hb] at hg;simp only[Bool.and_eq_true] at hg;exact(ih (by omega)).add hk h.bm h.nr hg.1 hg.2
 have:=key l.length (Nat.le_refl _);rwa [List.take_length] at this
theorem zhN{M:Nat}{d:List Nat}(hd:d.Nodup)(hb:∀ x∈d,x<M):d.length=M↔∀ t,t<M->t∈d:=by
 constructor
 ·intro hl t ht;refine Classical.byContradiction fun h=>?_
  have:=oJ M (t :: d) (List.nodup_cons.2 ⟨h,hd⟩) (fun x hx=>by
   rcases List.mem_cons.1 hx with e|e
   ·rw[e];exact ht
   ·exact hb x e)
  simp at this;omega
 ·intro h;have:=(VB hd (List.nodup_range (n:=M)) (fun x=>⟨fun hx=>List.mem_range.2 (hb x hx),fun hx=>h x (List.mem_range.1 hx)⟩)).length_eq;simpa using this
theorem stN_iff{U:List Un}{np g M:Nat}(h:SU U np)(hg : 0<g)(hM:np=g*M):stN U g=M↔∀ t,t<M->∃ u∈U,u.1/g=t:=by
 unfold stN;rw[zhN (xS _) (fun x hx=>by
  rw[nQ,List.mem_map] at hx;obtain⟨u,hu,rfl⟩:=hx;have:=(h.b u hu).2.2.1;rw[Nat.div_lt_iff_lt_mul hg,Nat.mul_comm];omega)]
 constructor
 ·intro h1 t ht;have:=h1 t ht;rw[nQ,List.mem_map] at this;exact this
 ·intro h1 t ht;rw[nQ,List.mem_map];exact h1 t ht
theorem BO{x g t:Nat}(hg : 0<g):x/g=t↔g*t<=x/\x<g*t+g:=by
 constructor
 ·rintro rfl;have h1:=Nat.div_add_mod x g;have h2:=Nat.mod_lt x hg;omega
 ·rintro ⟨h1,h2⟩;exact Nat.div_eq_of_lt_le (by rw[Nat.mul_comm];exact h1) (by rw[Nat.add_mul,Nat.one_mul,Nat.mul_comm];exact h2)
theorem xI{bS p s g t:Nat}(hg : 0<g)(hb:bS<=p)(h:OkO (p-bS) s):meetB (bS+4096*(g*t)) (4096*g) p s=true↔∃ u∈units (p-bS) s,u.1/g=t:=by
 have e:(∃ u∈units (p-bS) s,u.1/g=t)↔∃ x,(p-bS)/4096<=x/\x<(p-bS)/4096+npg s/\g*t<=x/\x<g*t+g:=by
  constructor
  ·rintro ⟨u,hu,e⟩;have h1:=rO.1 ⟨u,hu,rfl⟩;have h2:=(BO hg).1 e;exact⟨u.1,h1.1,h1.2,h2.1,h2.2⟩
  ·rintro ⟨x,h1,h2,h3,h4⟩;obtain⟨u,hu,e⟩:=rO.2 ⟨h1,h2⟩;exact⟨u,hu,by rw[e];exact(BO hg).2 ⟨h3,h4⟩⟩
 rw[e];simp only[meetB,Bool.and_eq_true,decide_eq_true_eq];have hl:=h.l;generalize g*t=G;unfold npg;by_cases c:s<4096
 ·obtain⟨q1,q2⟩:=h.small c;constructor
  ·rintro ⟨h1,h2⟩;exact⟨(p-bS)/4096,by omega,by omega,by omega,by omega⟩
  ·rintro ⟨x,h1,h2,h3,h4⟩;omega
 ·obtain⟨q1,q2⟩:=h.large (by omega);constructor
  ·rintro ⟨h1,h2⟩;by_cases hc:G<=(p-bS)/4096
   ·exact⟨(p-bS)/4096,by omega,by omega,by omega,by omega⟩
   ·exact⟨G,by omega,by omega,by omega,by omega⟩
  ·rintro ⟨x,h1,h2,h3,h4⟩;omega
theorem takB_iff{bS k n:Nat}{l:cD}(h:Snl bS k n l){g t:Nat}(hg : 0<g):takB (bS+4096*(g*t)) (4096*g) l=true↔∃ u∈allU bS l,u.1/g=t:=by
 unfold takB allU;rw[List.any_eq_true];constructor
 ·rintro ⟨b,hb,hm⟩;obtain⟨h1,h2,_⟩:=okO_of h.bm h.nr (h.ok hb);obtain⟨u,hu,e⟩:=(xI hg h2 h1).1 hm;exact⟨u,List.mem_flatMap.2 ⟨b,hb,hu⟩,e⟩
 ·rintro ⟨u,hu,e⟩;obtain⟨b,hb,hub⟩:=List.mem_flatMap.1 hu;obtain⟨h1,h2,_⟩:=okO_of h.bm h.nr (h.ok hb);exact⟨b,hb,(xI hg h2 h1).2 ⟨u,hub,e⟩⟩
def onP(bS:Nat)(l:cD)(x:Nat):cD:=l.filter fun b=>meetB (bS+4096*x) 4096 b.1 b.2
theorem meet_page{bS p s x:Nat}(hb:bS<=p)(h:OkO (p-bS) s):meetB (bS+4096*x) 4096 p s=true↔(p-bS)/4096<=x/\x<(p-bS)/4096+npg s:=by
 have:=xI (g:=1) (t:=x) (by decide) hb h;rw[Nat.one_mul,Nat.mul_one] at this;rw[this];simp only[Nat.div_one];exact rO
theorem GL(c x:Nat):∀ m,((List.range m).filter fun i=>c+i == x).length=if c<=x/\x<c+m then 1 else 0
 | 0=>by simp
 | m+1=>by
  rw[List.range_succ,List.filter_append,List.length_append,GL c x m];by_cases e:c+m=x
  ·simp[e];omega
  ·simp[e];split <;> split <;> omega
theorem ZU(o s x:Nat):((units o s).filter fun u=>u.1 == x).length=if o/4096<=x/\x<o/4096+npg s then 1 else 0:=by
 unfold units uns;rw[List.filter_map,List.length_map];exact GL (o/4096) x (npg s)
theorem BN{bS k n:Nat}{l:cD}(h:Snl bS k n l)(x:Nat):(onP bS l x).length=((allU bS l).filter fun u=>u.1 == x).length:=by
 have key:∀ m:cD,(∀ b∈m,b∈l)->(onP bS m x).length=((allU bS m).filter fun u=>u.1 == x).length:=by
  intro m;induction m with
  | nil=>intro _;rfl
  | cons b r ih=>
   intro hm;have hr:=ih (fun c hc=>hm c (List.mem_cons_of_mem _ hc));obtain⟨h1,h2,_⟩:=okO_of h.bm h.nr (h.ok (hm b (by simp)));have hu:=ZU (b.1-bS) b.2 x;have hmp:=meet_page (x:=x) h2 h1;unfold onP at hr ⊢;have e:allU bS (b :: r)=units (b.1-bS) b.2 ++ allU bS r:=(by simp[allU]);rw[e,List.filter_append,List.length_append,hu,<-hr,List.filter_cons];by_cases c:(b.1-bS)/4096<=x/\x<(b.1-bS)/4096+npg b.2
   ·rw[if_pos (hmp.2 c),if_pos c,List.length_cons];omega
   ·rw[if_neg (fun e=>c (hmp.1 e)),if_neg c];omega
 exact key l (fun _ h=>h)
theorem onP_size{bS k n:Nat}{l:cD}(h:Snl bS k n l)(hk:k<=8){x:Nat}{b:Nat×Nat}(hb:b∈onP bS l x):∃ u∈allU bS l,u.1=x/\u.2.2=b.2:=by
 obtain⟨h1,h2⟩:=List.mem_filter.1 hb;obtain⟨q1,q2,_⟩:=okO_of h.bm h.nr (h.ok h1);obtain⟨u,hu,e⟩:=rO.2 ((meet_page q2 q1).1 h2);refine⟨u,List.mem_flatMap.2 ⟨b,h1,hu⟩,e,?_⟩;obtain⟨i,_,rfl⟩:=List.mem_map.1 hu;rfl
theorem SU.same{U:List Un}{np:Nat}(h:SU U np){u u':Un}(hu:u∈U)(hu':u'∈U)(e:u.1=u'.1):u.2.2=u'.2.2:=by
 by_cases he:u=u'
 ·rw[he]
 ·have hp:=h.p;rcases List.getElem_of_mem hu with ⟨i,hi,rfl⟩
  rcases List.getElem_of_mem hu' with ⟨j,hj,rfl⟩
  rcases Nat.lt_trichotomy i j with hij|hij|hij
  ·exact((List.pairwise_iff_getElem.1 hp i j hi hj hij e).1).symm
  ·subst hij;rfl
  ·exact(List.pairwise_iff_getElem.1 hp j i hj hi hij e.symm).1
theorem SU.cnt{U:List Un}{np:Nat}(h:SU U np){u:Un}(hu:u∈U):(U.filter fun v=>v.1 == u.1).length<=dU u.2.2:=by
 have hn:((U.filter fun v=>v.1 == u.1).map fun v=>v.2.1).Nodup:=by
  have hp:=h.p.filter (fun v=>v.1 == u.1);refine List.pairwise_map.2 (List.Pairwise.imp_of_mem ?_ hp);intro a b ha hb hab e;have ea:a.1=u.1:=by simpa using (List.mem_filter.1 ha).2
  have eb:b.1=u.1:=by simpa using (List.mem_filter.1 hb).2
  exact(hab (by rw[ea,eb])).2 e.symm
 have:=oJ (dU u.2.2) _ hn (fun x hx=>by
  obtain⟨v,hv,rfl⟩:=List.mem_map.1 hx;obtain⟨h1,h2⟩:=List.mem_filter.1 hv;have e:v.1=u.1:=by simpa using h2
  have:=(h.b v h1).2.2.2.1;rw[h.same h1 hu e] at this;exact this)
 simpa using this
theorem EU(f:Nat->Nat):∀ l:List Nat,(l.map f).sum=0↔∀ x∈l,f x=0
 | []=>by simp
 | a :: r=>by
  rw[List.map_cons,List.sum_cons];have:=EU f r;constructor
  ·intro h x hx;rcases List.mem_cons.1 hx with e|e
   ·rw[e];omega
   ·exact this.1 (by omega) x e
  ·intro h;have h1:=h a (by simp);have h2:=this.2 (fun x hx=>h x (List.mem_cons_of_mem _ hx));omega
theorem AZ(U:List Un)(r:Nat):rmN U r=0↔∀ u∈U,u.2.2=r->dU r<=(U.filter fun v=>v.1 == u.1).length:=by
 unfold rmN;rw[EU];constructor
 ·intro h u hu e;have:=h u.1 ((nQ _ _).2 (List.mem_map.2 ⟨u,List.mem_filter.2 ⟨hu,by simpa using e⟩,rfl⟩));omega
 ·intro h x hx;rw[nQ,List.mem_map] at hx;obtain⟨u,hu,rfl⟩:=hx;obtain⟨h1,h2⟩:=List.mem_filter.1 hu;have:=h u h1 (by simpa using h2);omega
theorem VS{r:Nat}(hr : 4096<=r):dU r=1:=by
 unfold dU;by_cases e:r=4096
 ·subst e;rfl
 ·rw[Nat.div_eq_of_lt (by omega)];rfl
theorem zhO{r:Nat}(hp:cL r=true)(h16 : 16<=r)(hr:r<=4096):r*dU r=4096:=by
 obtain⟨q,hq⟩:=oI hp rI hr;have h1 : 4096/r=q:=by rw[hq,Nat.mul_div_cancel_left _ (by omega)]
 unfold dU;rw[h1];have hq0:¬q<1:=by
  intro h;have:q=0:=by omega
  rw[this] at hq;omega
 rw[if_neg hq0];exact hq.symm
theorem rm_big{U:List Un}{r:Nat}(hr : 4096<=r):rmN U r=0:=by
 rw[AZ];intro u hu _;rw[VS hr];exact List.length_pos_of_mem (List.mem_filter.2 ⟨hu,by simp⟩)
def smP(bS:Nat)(l:cD)(x:Nat):Nat:=((onP bS l x).map (·.2)).sum
def soP(bS:Nat)(l:cD)(x r:Nat):Bool:=(onP bS l x).any fun b=>b.2 == r
theorem sum_same(c:Nat):∀ m:cD,(∀ b∈m,b.2=c)->(m.map (·.2)).sum=c*m.length
 | [],_=>by simp
 | b :: r,h=>by
  rw[List.map_cons,List.sum_cons,sum_same c r (fun x hx=>h x (List.mem_cons_of_mem _ hx)),h b (by simp),List.length_cons,Nat.mul_add,Nat.mul_one];omega
theorem Snl.onP_le{bS k n:Nat}{l:cD}(h:Snl bS k n l)(hk:k<=8)(x:Nat):smP bS l x<=268435456:=by
 unfold smP;have hsu:=h.su hk
 cases hc:onP bS l x with
 | nil=>simp
 | cons b r=>
  have hb:b∈onP bS l x:=by rw[hc];simp
  obtain⟨u,hu,e1,e2⟩:=onP_size h hk hb;have hsame:∀ c∈onP bS l x,c.2=b.2:=fun c hc'=>by
   obtain⟨u',hu',e1',e2'⟩:=onP_size h hk hc';rw[<-e2,<-e2'];exact hsu.same hu' hu (by rw[e1',e1])
  rw[<-hc,sum_same b.2 _ hsame,BN h x,<-e1];have h1:=hsu.cnt hu;have h2:=hsu.b u hu;have h3:=tH u.2.2 h2.1;rw[<-e2];exact Nat.le_trans (Nat.mul_le_mul h2.2.1 (show _<=256 by omega)) (by decide)
theorem Snl.room{bS k n:Nat}{l:cD}(h:Snl bS k n l)(hk:k<=8){r:Nat}(hp:cL r=true)(h16 : 16<=r)(hr:r<4096):
  rmN (allU bS l) r=0↔∀ x,x<n*2 ^ k->¬(soP bS l x r=true/\smP bS l x<4096):=by
 have hsu:=h.su hk;have hcel:=zhO hp h16 (by omega);have on:∀ x,soP bS l x r=true->smP bS l x=r*((allU bS l).filter fun v=>v.1 == x).length:=by
  intro x hx;obtain⟨b,hb,e⟩:=List.any_eq_true.1 hx;have e:b.2=r:=by simpa using e
  obtain⟨u,hu,e1,e2⟩:=onP_size h hk hb;unfold smP;rw[sum_same r _ (fun c hc=>by
   obtain⟨u',hu',e1',e2'⟩:=onP_size h hk hc;rw[<-e,<-e2,<-e2'];exact hsu.same hu' hu (by rw[e1',e1])),BN h x]
 rw[AZ];constructor
 ·rintro hall x hx ⟨h1,h2⟩;rw[on x h1] at h2;obtain⟨b,hb,e⟩:=List.any_eq_true.1 h1;have e:b.2=r:=by simpa using e
  obtain⟨u,hu,e1,e2⟩:=onP_size h hk hb;have:=hall u hu (by rw[e2,e]);rw[e1] at this;have h3:=Nat.mul_le_mul_left r this;rw[hcel] at h3;omega
 ·intro hall u hu e;have hx:=(hsu.b u hu).2.2.1;refine Classical.byContradiction fun hc=>hall u.1 hx ?_
  obtain⟨b,hb,hub⟩:=List.mem_flatMap.1 hu;obtain⟨q1,q2,_⟩:=okO_of h.bm h.nr (h.ok hb);have hs:soP bS l u.1 r=true:=by
   refine List.any_eq_true.2 ⟨b,List.mem_filter.2 ⟨hb,(meet_page q2 q1).2 (rO.1 ⟨u,hub,rfl⟩)⟩,?_⟩;obtain⟨i,_,rfl⟩:=List.mem_map.1 hub;simpa [mD] using e
  refine⟨hs,?_⟩;rw[on _ hs];have h3:r*(((allU bS l).filter fun v=>v.1 == u.1).length+1)<=r*dU r:=Nat.mul_le_mul_left r (by omega);rw[hcel,Nat.mul_add,Nat.mul_one] at h3;omega
theorem BM(bS:Nat)(m:cD)(b:Nat×Nat)(x:Nat):onP bS (m ++ [b]) x=if meetB (bS + 4096*x) 4096 b.1 b.2=true then onP bS m x ++ [b] else onP bS m x:=by
 unfold onP;rw[List.filter_append,List.filter_cons,List.filter_nil]
 cases meetB (bS+4096*x) 4096 b.1 b.2 <;> simp
theorem QA(bS:Nat)(m:cD)(b:Nat×Nat)(x:Nat):smP bS (m ++ [b]) x=if meetB (bS + 4096*x) 4096 b.1 b.2=true then smP bS m x + b.2 else smP bS m x:=by
 unfold smP;rw[BM];split <;> simp
theorem PZ(bS:Nat)(m:cD)(b:Nat×Nat)(x r:Nat):soP bS (m ++ [b]) x r=if meetB (bS + 4096*x) 4096 b.1 b.2=true then (soP bS m x r || b.2 == r) else soP bS m x r:=by
 unfold soP;rw[BM];split <;> simp
theorem ZT{k n r:Nat}(hk:k<=8)(hp:cL r=true)(h16 : 16<=r)(hr:r<=RS k) : 1<=lonN r/\(if r<4096 then 4096 else r)=4096*lonN r/\∃ M,n*2 ^ k=lonN r*M/\n*2 ^ k/lonN r=M:=by
 unfold lonN;by_cases c:r<4096
 ·rw[if_pos c,if_pos c];exact⟨by omega,by omega,n*2 ^ k,by omega,by omega⟩
 ·rw[if_neg c,if_neg c];obtain⟨q,hq⟩:=oI rI hp (by omega);have h1:r/4096=q:=by rw[hq,Nat.mul_div_cancel_left _ (by decide)]
  obtain⟨z,hz⟩:=oI hp (AB k) hr;have h2 : 2 ^ k=q*z:=by
   unfold RS at hz;rw[hq,Nat.mul_assoc] at hz;exact Nat.eq_of_mul_eq_mul_left (by decide) hz
  have hq0 : 1<=q:=by
   refine Nat.one_le_iff_ne_zero.2 fun e=>?_
   rw[e] at hq;omega
  rw[h1];refine⟨hq0,hq,n*z,by rw[h2,Nat.mul_left_comm],?_⟩;rw[h2,Nat.mul_left_comm,Nat.mul_div_cancel_left _ (by omega)]
theorem Snl.of{bS k n:Nat}{l:cD}(hb:bS%RS k=0)(hn:n*RS k<=4194304)(h:sndI bS k n l = -1):Snl bS k n l:=by
 refine⟨hb,hn,fun a ha=>?_⟩
 cases hg:fJ bS k n l a with
 | true=>rfl
 | false=>
  exfalso
  unfold sndI at h
  cases hf:(List.range l.length).find? (fun i=>!fJ bS k n l i)with
  | none=>
   have:=List.find?_eq_none.1 hf a (List.mem_range.2 ha);simp[hg] at this
  | some i=>
   rw[hf] at h;simp at h
structure NfI(w W:World)(cx bS:Nat)(lim:Int)(k:Nat):Prop where
 cb:CR W cx bS lim (k:Int)
 kp:Kt nO w W
theorem NfI.keep{w W W':World}{cx bS:Nat}{lim:Int}{k:Nat}(h:NfI w W cx bS lim k)(hk:Kt nO W W'):NfI w W' cx bS lim k:=⟨h.cb.keep hk id,nT h.kp hk⟩
theorem refNoFit(bS:Nat)(hb64:bS<18446744073709551616)(lim ord n:Int)(hl1 : -9223372036854775808<=lim)(hl2:lim<=9223372036854775807)(ho1 : -9223372036854775808<=ord)(ho2:ord<=9223372036854775807)(v:Value)(l:cD)(r:Nat)(hr:r<2 ^ 64)(w:World)(hbl:BL w v l):
  Calls prog 202 #[cA bS lim ord,.int .i64 n,v,.int .u64 r] w fun e w'=>e=.returned (.bool (nofV bS lim ord n l r))/\Kt nO w w':=by
 have HM:=aA (fun W=>sX bS hb64 lim ord hl1 hl2 ho1 ho2 W);have HP:=aA (fun W=>wU r hr W);have HS:=aA (fun W h=>refSound bS hb64 lim ord n hl1 hl2 ho1 ho2 v l W h);have C0:=aA (show CR (w.alloc (.cells #[.int .u64 bS,.int .i64 lim,.int .i64 ord] 43)) w.heap.size bS lim ord from nH w _);have K0:=aA (show Kt nO w (w.alloc (.cells #[.int .u64 bS,.int .i64 lim,.int .i64 ord] 43))from(Kt.refl _ w).alloc _);have BL0:=aA hbl;clear hbl
 cases hm:mayB bS lim ord with
 | false=>
  rw[hm] at HM;have E:=aA (show nofV bS lim ord n l r=false by simp[nofV,mayR,hm]);clear hm;go_enter func202,ntmps202;go_wp2_with fail;generalize w.alloc (.cells #[.int .u64 bS,.int .i64 lim,.int .i64 ord] 43)=W0 at *;refine(HM.out _).mono ?_;rintro e w1 ⟨rfl,hk⟩;have K1:=aA (nT K0.out hk);clear hk;go_wp2_with fail;go_ret;exact⟨cE E.out.symm,K1.out⟩
 | true=>
  rw[hm] at HM;by_cases hsv:sndV bS lim ord n l = -1
  ·have hmr:mayR bS lim ord n=true:=by
    refine Classical.byContradiction fun h=>?_
    unfold sndV at hsv;rw[if_neg h] at hsv;omega
   have hsi:sndI bS ord.toNat n.toNat l = -1:=by
    unfold sndV at hsv;rw[if_pos hmr] at hsv;exact hsv
   rw[hsv] at HS;obtain⟨k,rr,L,rfl,rfl,rfl,hk8,hL1,hL64,hrL,hLR,hb0,hbm,hbe⟩:=JR hmr;have hrR:rr*RS k<=4194304:=Nat.le_trans (Nat.mul_le_mul_right _ hrL) hLR;have hrB:rr*RS k<=L*RS k:=Nat.mul_le_mul_right _ hrL;rw[Int.toNat_natCast,Int.toNat_natCast] at hsi;have SN:=aA (Snl.of hbm hrR hsi);have EV:=aA (show nofV bS (L:Int) (k:Int) (rr:Int) l r=(szB k r && fitU (allU bS l) k rr r)by
    simp[nofV,hmr,hsi])
   obtain⟨R,hR⟩:=xe (RS k);have hRl:=RS_le k hk8;have HRR:=aA (fun W=>jJ (bS:Int) (L:Int) k hk8 W);rw[<-hR] at hRl HRR;clear hm hsv hmr hsi;go_enter func202,ntmps202;go_wp2_with fail;generalize w.alloc (.cells #[.int .u64 bS,.int .i64 L,.int .i64 k] 43)=W0 at *;refine(HM.out _).mono ?_;rintro e w1 ⟨rfl,hk⟩;have K1:=aA (nT K0.out hk);have C1:=aA (C0.out.keep hk (fun x=>x));clear hk;obtain⟨c0,c1,c2⟩:=C1.out.cells;go_wp2_with fail;refine(HS.out _ (BL0.out.keep K1.out)).mono ?_;rintro e w2 ⟨rfl,hk⟩;have K2:=aA (nT K1.out hk);have C2:=aA (C1.out.keep hk (fun x=>x));clear hk c0 c1 c2;obtain⟨c0,c1,c2⟩:=C2.out.cells
   cases hp:cL r with
   | false=>
    rw[hp] at HP;have E:=aA (show nofV bS (L:Int) (k:Int) (rr:Int) l r=false by rw[EV.out];simp[szB,hp]);clear hp;go_wp2_with (go_at_call 26;refine(HP.out _).mono ?_;rintro e w' ⟨rfl,rfl⟩)
    go_ret;exact⟨cE E.out.symm,K2.out⟩
   | true=>
    rw[hp] at HP;by_cases h16:(r:Int)<16
    ·have E:=aA (show nofV bS (L:Int) (k:Int) (rr:Int) l r=false by
      rw[EV.out];have:¬ 16<=r:=by omega
      simp[szB,this])
     go_wp2_with (go_at_call 26;refine(HP.out _).mono ?_;rintro e w' ⟨rfl,rfl⟩)
     go_ret;exact⟨cE E.out.symm,K2.out⟩
    ·have h16':decide ((r:Int)<16)=false:=decide_eq_false h16;go_wp2_with (go_at_call 26;refine(HP.out _).mono ?_;rintro e w' ⟨rfl,rfl⟩)
     refine(HRR.out _).mono ?_;rintro e w3 ⟨rfl,hk⟩;have K3:=aA (nT K2.out hk);have C3:=aA (C2.out.keep hk (fun x=>x));clear hk c0 c1 c2;obtain⟨c0,c1,c2⟩:=C3.out.cells;by_cases hle:(R:Int)<r
     ·have E:=aA (show nofV bS (L:Int) (k:Int) (rr:Int) l r=false by
       rw[EV.out];have:¬r<=RS k:=by rw[<-hR];omega
       simp[szB,this])
      go_wp2_with fail;go_ret;exact⟨cE E.out.symm,K3.out⟩
     ·have hle':decide (R<r)=false:=decide_eq_false (by omega);have hrs:szB k r=true:=(by simp[szB,hp,<-hR];omega);obtain⟨hg1,hnn,M,hM1,hM2⟩:=ZT (n:=rr) hk8 hp (by omega) (by rw[<-hR];omega);have SU0:=SN.out.su hk8;have hh1:rr*R=4096*(rr*2 ^ k):=(by rw[hR];exact RS_pages k rr);have hhb:rr*R<=4194304:=(by rw[hR];exact hrR);have hbe2:bS+rr*R<=9223372036854775808:=(by rw[hR];omega);have hPE:=aA (show ∀ b∈l,b.1+b.2<=bS+rr*R from fun b hb=>by rw[hR];exact(okO_of SN.out.bm SN.out.nr (SN.out.ok hb)).2.2);have EV2:=aA (show nofV bS (L:Int) (k:Int) (rr:Int) l r=((stN (allU bS l) (lonN r) == M) && (rmN (allU bS l) r == 0))by
       rw[EV.out,hrs,Bool.true_and];unfold fitU;rw[hM2])
      obtain⟨nn,hnnd⟩:=xe (4096*lonN r);have hnn4 : 4096<=nn:=(by omega);obtain⟨hh,hhd⟩:=xe (rr*R);have hhM:hh=nn*M:=(by rw[hhd,hh1,hM1,hnnd,Nat.mul_assoc]);have hhi:(rr:Int)*(R:Int)=hh:=(by rw[hhd];simp);have hhb2:hh<=4194304:=(by omega);have hMb:nn*M<=4194304:=(by omega);have TK:=aA (show ∀ t,takB (bS+nn*t) nn l=true↔∃ u∈allU bS l,u.1/lonN r=t from fun t=>by
       have:=takB_iff (t:=t) SN.out (show 0<lonN r by omega);rw[<-Nat.mul_assoc,<-hnnd] at this;exact this)
      have SF:=aA (stN_iff SU0 (show 0<lonN r by omega) hM1);have HTK:=aA (fun W q (hq:q+nn<2 ^ 64) h=>refTaken q nn v l W h hq (fun b hb=>by have:=hPE.out b hb;omega));have N3:=aA (show NfI w w3 w.heap.size bS (L:Int) k from⟨C3.out,K3.out⟩);have hbeh:bS+hh<=9223372036854775808:=(by omega);clear hR hrs hh1 hhd hhb hbe2 hbm hbe hrR hrB;generalize w.heap.size=cx at *;clear C0 K0 C1 K1 C2 K2 C3 K3 HM HS HP;by_cases hsm:(r:Int)<4096
      ·obtain rfl:nn=4096:=(by rw[hnnd];rw[if_pos (by omega)] at hnn;omega);have HHM:=aA hhM;have HNP:=aA (show 4096*lonN r=4096->rr*2 ^ k=M from fun e=>by rw[hM1,show lonN r=1 by omega,Nat.one_mul]);have HNP:=aA (HNP.out hnnd.symm);clear hnn hnnd hM1 hM2 hhM;go_wp2_with fail;refine(HRR.out _).mono ?_;rintro e w4 ⟨rfl,hk⟩;have N4:=aA (N3.out.keep hk);clear hk c0 c1 c2 N3;go_wp2_with fail;go_loopw [11] (fun oo W=>∃ t:Nat,t<=M/\oo=.int .u64 ((4096*t:Nat):Int)/\Hid (NfI w W cx bS (L:Int) k/\∀ t',t'<t->takB (bS+4096*t') 4096 l=true)) (fun oo _=>hh+4096-(intOf oo).toNat)
       case atStart=>exact⟨0,Nat.zero_le _,by simp,aA ⟨N4.out,fun t ht=>by omega⟩⟩
       case round=>
        clear N4;obtain⟨t,ht,rfl,HI⟩:=hrel;obtain⟨oo,hoo⟩:=xe (4096*t);rw[<-hoo];obtain⟨c0,c1,c2⟩:=HI.out.1.cb.cells;by_cases hlt:t<M
        ·have hon:oo+4096<=hh:=by
          rw[HHM.out,hoo,<-Nat.mul_succ];exact Nat.mul_le_mul_left 4096 hlt
         have hoi:(oo:Int)<hh:=(by omega);have HT:=aA (fun W h=>HTK.out W (bS+oo) (by omega) h);have hqi:(bS:Int)+(oo:Int)=((bS+oo:Nat):Int):=(by simp);have HOO:=aA hoo;clear hoo;obtain⟨qq,hqq⟩:=xe (bS+oo);rw[<-hqq] at HT hqi;have HQQ:=aA hqq;have hqb:qq<2 ^ 64:=(by omega);clear hqq;go_wp2_with fail;refine(HT.out _ (BL0.out.keep HI.out.1.kp)).mono ?_;rintro e w5 ⟨rfl,hk⟩;have N5:=aA (HI.out.1.keep hk);clear hk c0 c1 c2
         cases htk:takB qq 4096 l with
         | false=>
          have E:=aA (show nofV bS (L:Int) (k:Int) (rr:Int) l r=false by
           rw[EV2.out];have hne:¬stN (allU bS l) (lonN r)=M:=fun e=>by
            have:=(TK.out t).2 (SF.out.1 e t hlt);rw[<-HOO.out,<-HQQ.out,htk] at this
            cases this
           have:(stN (allU bS l) (lonN r) == M)=false:=by rw[beq_eq_false_iff_ne];exact hne
           rw[this];rfl)
          clear htk;go_wp2_with fail;go_ret;exact⟨cE E.out.symm,N5.out.kp⟩
         | true=>
          have NX:=aA (show NfI w w5 cx bS (L:Int) k/\∀ t',t'<t+1->takB (bS+4096*t') 4096 l=true from⟨N5.out,fun t' ht'=>by
           by_cases e:t'=t
           ·rw[e,<-HOO.out,<-HQQ.out];exact htk
           ·exact HI.out.2 t' (by omega)⟩)
          clear htk;go_wp2_with fail;go_round
          case rel=>exact⟨t+1,by omega,by rw[Nat.mul_succ,<-HOO.out];go_num,NX⟩
          case measure=>simp[intOf];omega
        ·obtain rfl:t=M:=(by omega);obtain rfl:oo=hh:=(by rw[hoo,HHM.out]);have hoi:¬(oo:Int)<oo:=(by omega);have ST:=aA (show stN (allU bS l) (lonN r)=t from SF.out.2 (fun t' ht'=>(TK.out t').1 (HI.out.2 t' ht')));have N5:=aA HI.out.1;clear hoo HI;have RM:=aA (Snl.room SN.out hk8 hp (by omega : 16<=r) (by omega:r<4096));have ENP:=aA (show rr*2 ^ k=t from HNP.out);have hth:oo=4096*t:=HHM.out;have HTH:=aA hth;clear hth;go_wp2_with fail;go_loopw [12] (fun q W=>∃ x:Nat,x<=t/\q=.int .u64 ((4096*x:Nat):Int)/\Hid (NfI w W cx bS (L:Int) k/\∀ x',x'<x->¬(soP bS l x' r=true/\smP bS l x'<4096))) (fun q _=>oo+4096-(intOf q).toNat)
         case atStart=>exact⟨0,Nat.zero_le _,rfl,aA ⟨N5.out,fun x hx=>by omega⟩⟩
         case round=>
          clear N5;obtain⟨x,hx,rfl,HX⟩:=hrel;obtain⟨q,hq⟩:=xe (4096*x);rw[<-hq];by_cases hlt:x<t
          ·have hqn:q+4096<=oo:=(by have:=HTH.out;omega);have hqi:(q:Int)<oo:=(by omega);obtain⟨zz,hzz⟩:=xe (bS+q);have hzi:(bS:Int)+(q:Int)=zz:=(by omega);have hzb:zz+4096<2 ^ 64:=(by omega);have HZX:=aA (show zz=bS+4096*x by rw[hzz,hq]);have HQX:=aA hq;have J0:=aA HX.out.1;obtain⟨oa,oc,rfl⟩:∃ oa oc,v=.slice oa l.length oc:=by
            obtain⟨_,_,oa,oc,hv,_⟩:=BL0.out;exact⟨oa,oc,hv⟩
           have hlen:=BL0.out.len.2;clear hzz hq;go_wp2_with fail;go_loopw [13,14,15] (fun sb sm i W=>∃ a m:Nat,∃ b:Bool,a<=l.length/\i=.int .i64 a/\sb=.bool b/\sm=.int .u64 ((m:Nat):Int)/\Hid (b=soP bS (l.take a) x r/\m=smP bS (l.take a) x/\NfI w W cx bS (L:Int) k)) (fun _ _ i _=>l.length-(intOf i).toNat)
           case atStart=>exact⟨0,0,false,Nat.zero_le _,rfl,rfl,rfl,aA ⟨by rw[List.take_zero];rfl,by rw[List.take_zero];rfl,J0.out⟩⟩
           case round=>
            clear J0;obtain⟨a,m,b,ha,rfl,rfl,rfl,HJ⟩:=hrel;have hmb:m<=268435456:=(by rw[HJ.out.2.1];exact(SN.out.take a).onP_le hk8 x);by_cases hal:a<l.length
            ·have hai:(a:Int)<l.length:=(by omega);obtain⟨bl,o,p,s,rfl,hla,hp',hs',q0,q1⟩:=BL0.out.all HJ.out.2.2.kp a hal;obtain⟨c0,c1,c2⟩:=HJ.out.2.2.cb.all;have hpe:=hPE.out (p,s) (List.mem_of_getElem? hla);have HME:=aA (fun W=>refMeet zz 4096 p s (by omega) (by simp only at hpe;omega) W);have hTK:=JQ hla;have hso:=PZ bS (l.take a) (p,s) x r;have hsu:=QA bS (l.take a) (p,s) x;rw[<-hTK,<-HJ.out.1,<-HZX.out] at hso;rw[<-hTK,<-HJ.out.2.1,<-HZX.out] at hsu;have hmb2:=(SN.out.take (a+1)).onP_le hk8 x;have HSO:=aA hso;have HSU:=aA hsu;have HMB:=aA hmb2;clear hla hTK hso hsu hmb2 hpe;go_wp2_with fail;refine fC (by kernel_rfl) (by kernel_rfl) ?_
             cases hme:meetB zz 4096 p s with
             | true=>
              rw[hme] at HME;have HSO2:=aA (show soP bS (l.take (a+1)) x r=(b || s == r)by rw[HSO.out,if_pos hme]);have HSU2:=aA (show smP bS (l.take (a+1)) x=m+s by rw[HSU.out,if_pos hme]);have hsb:m+s<=268435456:=(by rw[<-HSU2.out];exact HMB.out);clear hme;repeat (go_big_quiet_step (first|(go_at_call 206;exact Calls.kept_of (HME.out _))))
              refine wpQuiet_nil ?_;intro y;have N6:=aA (HJ.out.2.2.keep y.k);have r0:=q0 y;have r1:=q1 y;clear q0 q1 c0 c1 c2 HME
              cases b with
              | true=>
               have NX:=aA (show true=soP bS (l.take (a+1)) x r/\m+s=smP bS (l.take (a+1)) x/\NfI w y.v cx bS (L:Int) k from⟨by rw[HSO2.out];rfl,HSU2.out.symm,N6.out⟩);go_wp2_with fail;go_round
               case rel=>exact⟨a+1,m+s,true,by omega,by go_num,rfl,by go_num,NX⟩
               case measure=>simp[intOf];omega
              | false=>
               by_cases hsr:s=r
               ·have hsr':((s:Int) == (r:Int))=true:=(by rw[beq_iff_eq];omega);have NX:=aA (show true=soP bS (l.take (a+1)) x r/\m+s=smP bS (l.take (a+1)) x/\NfI w y.v cx bS (L:Int) k from⟨by rw[HSO2.out];simp[hsr],HSU2.out.symm,N6.out⟩);clear hsr;go_wp2_with fail;go_round
                case rel=>exact⟨a+1,m+s,true,by omega,by go_num,rfl,by go_num,NX⟩
                case measure=>simp[intOf];omega
               ·have hsr':((s:Int) == (r:Int))=false:=(by rw[beq_eq_false_iff_ne];omega);have NX:=aA (show false=soP bS (l.take (a+1)) x r/\m+s=smP bS (l.take (a+1)) x/\NfI w y.v cx bS (L:Int) k from⟨by rw[HSO2.out];simp[hsr],HSU2.out.symm,N6.out⟩);clear hsr;go_wp2_with fail;go_round
                case rel=>exact⟨a+1,m+s,false,by omega,by go_num,rfl,by go_num,NX⟩
                case measure=>simp[intOf];omega
             | false=>
              rw[hme] at HME;have NXF:=aA (show ∀ W,NfI w W cx bS (L:Int) k->b=soP bS (l.take (a+1)) x r/\m=smP bS (l.take (a+1)) x/\NfI w W cx bS (L:Int) k from fun W h=>⟨by rw[HSO.out,if_neg (by rw[hme];simp)],by rw[HSU.out,if_neg (by rw[hme];simp)],h⟩);clear hme;repeat (go_big_quiet_step (first|(go_at_call 206;exact Calls.kept_of (HME.out _))))
              refine wpQuiet_nil ?_;intro y;have NX:=aA (NXF.out y.v (HJ.out.2.2.keep y.k));clear q0 q1 c0 c1 c2 HME;go_wp2_with fail;go_round
              case rel=>exact⟨a+1,m,b,by omega,by go_num,rfl,rfl,NX⟩
              case measure=>simp[intOf];omega
            ·obtain rfl:a=l.length:=(by omega);have hai:¬(l.length:Int)<l.length:=(by omega);have hb1:=HJ.out.1;have hb2:=HJ.out.2.1;rw[List.take_length] at hb1 hb2;have HB1:=aA hb1;have HB2:=aA hb2;have N7:=aA HJ.out.2.2;clear hb1 hb2;have NXX:=aA (show ¬(b=true/\m<4096)->∀ x',x'<x+1->¬(soP bS l x' r=true/\smP bS l x'<4096)from fun h x' hx'=>by
              by_cases e:x'=x
              ·rw[e,<-HB1.out,<-HB2.out];exact h
              ·exact HX.out.2 x' (by omega))
             cases b with
             | false=>
              have NY:=aA (show NfI w wr cx bS (L:Int) k/\∀ x',x'<x+1->¬(soP bS l x' r=true/\smP bS l x'<4096)from⟨N7.out,NXX.out (by simp)⟩);go_wp2_with fail;go_round
              case rel=>exact⟨x+1,by omega,by rw[Nat.mul_succ,<-HQX.out];go_num,NY⟩
              case measure=>simp[intOf];omega
             | true=>
              by_cases hm4:(m:Int)<4096
              ·have E:=aA (show nofV bS (L:Int) (k:Int) (rr:Int) l r=false by
                rw[EV2.out];have hne:¬rmN (allU bS l) r=0:=fun e=>(RM.out.1 e) x (by rw[ENP.out];exact hlt) ⟨HB1.out.symm,by rw[<-HB2.out];omega⟩
                have:(rmN (allU bS l) r == 0)=false:=by rw[beq_eq_false_iff_ne];exact hne
                rw[this,Bool.and_false])
               go_wp2_with fail;go_ret;exact⟨cE E.out.symm,N7.out.kp⟩
              ·have NY:=aA (show NfI w wr cx bS (L:Int) k/\∀ x',x'<x+1->¬(soP bS l x' r=true/\smP bS l x'<4096)from⟨N7.out,NXX.out (fun h=>by omega)⟩);go_wp2_with fail;go_round
               case rel=>exact⟨x+1,by omega,by rw[Nat.mul_succ,<-HQX.out];go_num,NY⟩
               case measure=>simp[intOf];omega
          ·obtain rfl:x=t:=(by omega);obtain rfl:q=oo:=(by rw[hq,HTH.out]);have hqi:¬(q:Int)<q:=(by omega);have E:=aA (show nofV bS (L:Int) (k:Int) (rr:Int) l r=true by
            rw[EV2.out,ST.out,RM.out.2 (fun x' hx'=>HX.out.2 x' (by rw[ENP.out] at hx';exact hx'))];simp)
           clear hq;go_wp2_with fail;go_ret;exact⟨cE E.out.symm,HX.out.1.kp⟩
      ·obtain rfl:nn=r:=(by rw[hnnd];rw[if_neg (by omega)] at hnn;omega);have HHM:=aA hhM;clear hnn hnnd hM1 hM2 hhM;go_wp2_with fail;refine(HRR.out _).mono ?_;rintro e w4 ⟨rfl,hk⟩;have N4:=aA (N3.out.keep hk);clear hk c0 c1 c2 N3;go_wp2_with fail;go_loopw [11] (fun oo W=>∃ t:Nat,t<=M/\oo=.int .u64 ((nn*t:Nat):Int)/\Hid (NfI w W cx bS (L:Int) k/\∀ t',t'<t->takB (bS+nn*t') nn l=true)) (fun oo _=>hh+nn-(intOf oo).toNat)
       case atStart=>exact⟨0,Nat.zero_le _,by simp,aA ⟨N4.out,fun t ht=>by omega⟩⟩
       case round=>
        clear N4;obtain⟨t,ht,rfl,HI⟩:=hrel;obtain⟨oo,hoo⟩:=xe (nn*t);rw[<-hoo];obtain⟨c0,c1,c2⟩:=HI.out.1.cb.cells;by_cases hlt:t<M
        ·have hon:oo+nn<=hh:=by
          rw[HHM.out,hoo,<-Nat.mul_succ];exact Nat.mul_le_mul_left nn hlt
         have hoi:(oo:Int)<hh:=(by omega);have HT:=aA (fun W h=>HTK.out W (bS+oo) (by omega) h);have hqi:(bS:Int)+(oo:Int)=((bS+oo:Nat):Int):=(by simp);have HOO:=aA hoo;clear hoo;obtain⟨qq,hqq⟩:=xe (bS+oo);rw[<-hqq] at HT hqi;have HQQ:=aA hqq;have hqb:qq<2 ^ 64:=(by omega);clear hqq;go_wp2_with fail;refine(HT.out _ (BL0.out.keep HI.out.1.kp)).mono ?_;rintro e w5 ⟨rfl,hk⟩;have N5:=aA (HI.out.1.keep hk);clear hk c0 c1 c2
         cases htk:takB qq nn l with
         | false=>
          have E:=aA (show nofV bS (L:Int) (k:Int) (rr:Int) l nn=false by
           rw[EV2.out];have hne:¬stN (allU bS l) (lonN nn)=M:=fun e=>by
            have:=(TK.out t).2 (SF.out.1 e t hlt);rw[<-HOO.out,<-HQQ.out,htk] at this
            cases this
           have:(stN (allU bS l) (lonN nn) == M)=false:=by rw[beq_eq_false_iff_ne];exact hne
           rw[this];rfl)
          clear htk;go_wp2_with fail;go_ret;exact⟨cE E.out.symm,N5.out.kp⟩
         | true=>
          have NX:=aA (show NfI w w5 cx bS (L:Int) k/\∀ t',t'<t+1->takB (bS+nn*t') nn l=true from⟨N5.out,fun t' ht'=>by
           by_cases e:t'=t
           ·rw[e,<-HOO.out,<-HQQ.out];exact htk
           ·exact HI.out.2 t' (by omega)⟩)
          clear htk;go_wp2_with fail;go_round
          case rel=>exact⟨t+1,by omega,by rw[Nat.mul_succ,<-HOO.out];go_num,NX⟩
          case measure=>simp[intOf];omega
        ·obtain rfl:t=M:=(by omega);obtain rfl:oo=hh:=(by rw[hoo,HHM.out]);have hoi:¬(oo:Int)<oo:=(by omega);have ST:=aA (show stN (allU bS l) (lonN nn)=t from SF.out.2 (fun t' ht'=>(TK.out t').1 (HI.out.2 t' ht')));have N5:=aA HI.out.1;clear hoo HI;have E:=aA (show nofV bS (L:Int) (k:Int) (rr:Int) l nn=true by
          rw[EV2.out,ST.out,rm_big (by omega)];simp)
         go_wp2_with fail;go_ret;exact⟨cE E.out.symm,N5.out.kp⟩
  ·have E:=aA (show nofV bS lim ord n l r=false by
    unfold nofV
    cases hmr:mayR bS lim ord n with
    | false=>rfl
    | true=>
     unfold sndV at hsv;rw[if_pos hmr] at hsv;have:(sndI bS ord.toNat n.toNat l == -1)=false:=by rw[beq_eq_false_iff_ne];exact hsv
     rw[this];rfl)
   have hne:(sndV bS lim ord n l != -1)=true:=(by rw[bne_iff_ne];exact hsv);generalize sndV bS lim ord n l=sv at *;clear hm hsv;go_enter func202,ntmps202;go_wp2_with fail;generalize w.alloc (.cells #[.int .u64 bS,.int .i64 lim,.int .i64 ord] 43)=W0 at *;refine(HM.out _).mono ?_;rintro e w1 ⟨rfl,hk⟩;have K1:=aA (nT K0.out hk);have C1:=aA (C0.out.keep hk (fun x=>x));clear hk;obtain⟨c0,c1,c2⟩:=C1.out.cells;go_wp2_with fail;refine(HS.out _ (BL0.out.keep K1.out)).mono ?_;rintro e w2 ⟨rfl,hk⟩;have K2:=aA (nT K1.out hk);clear hk c0 c1 c2;go_wp2_with fail;go_ret;exact⟨cE E.out.symm,K2.out⟩
theorem refStuck(bS:Nat)(hb64:bS<18446744073709551616)(lim ord n:Int)(hl1 : -9223372036854775808<=lim)(hl2:lim<=9223372036854775807)(ho1 : -9223372036854775808<=ord)(ho2:ord<=9223372036854775807)(v:Value)(l:cD)(r:Nat)(hr:r<2 ^ 64)(dn:Bool)(w:World)(hbl:BL w v l):
  Calls prog 201 #[cA bS lim ord,.int .i64 n,v,.int .u64 r,.bool dn] w fun e w'=>e=.returned (.bool (stkV bS lim ord n l r dn))/\Kt nO w w':=by
 have NF:=aA (fun W h=>refNoFit bS hb64 lim ord n hl1 hl2 ho1 ho2 v l r hr W h);have C0:=aA (show CR (w.alloc (.cells #[.int .u64 bS,.int .i64 lim,.int .i64 ord] 43)) w.heap.size bS lim ord from nH w _);have K0:=aA (show Kt nO w (w.alloc (.cells #[.int .u64 bS,.int .i64 lim,.int .i64 ord] 43))from(Kt.refl _ w).alloc _);have BL0:=aA (hbl.keep K0.out);have hnl:nofV bS lim ord n l r=true->n<=lim:=fun h=>by
  simp only[nofV,mayR,Bool.and_eq_true,decide_eq_true_eq] at h;exact h.1.1.1.2
 obtain⟨nf,hnf⟩:=xe (nofV bS lim ord n l r);have E:=aA (show stkV bS lim ord n l r dn=((dn || n == lim) && nf)by rw[hnf];rfl);rw[<-hnf] at NF hnl;clear hbl hnf;go_enter func201,ntmps201;go_wp2_with fail;generalize w.alloc (.cells #[.int .u64 bS,.int .i64 lim,.int .i64 ord] 43)=W0 at *;refine(NF.out _ BL0.out).mono ?_;rintro e w1 ⟨rfl,hk⟩;have K1:=aA (nT K0.out hk);obtain⟨c0,c1,c2⟩:=(C0.out.keep hk (fun x=>x)).cells;clear hk
 cases nf with
 | false=>
  go_wp2_with fail;go_ret;exact⟨cE (by rw[E.out,Bool.and_false]),K1.out⟩
 | true=>
  have hle:=hnl rfl;by_cases h1:lim<=n
  ·have h1':(n == lim)=true:=(by rw[beq_iff_eq];omega);have E2:=aA (show stkV bS lim ord n l r dn=true by rw[E.out,h1'];simp);clear h1';go_wp2_with fail;go_ret;exact⟨cE E2.out.symm,K1.out⟩
  ·have h1':(n == lim)=false:=(by rw[beq_eq_false_iff_ne];omega);have E2:=aA (show stkV bS lim ord n l r dn=dn by rw[E.out,h1'];simp);have h1d:decide (lim<=n)=false:=decide_eq_false h1;clear h1';go_wp2_with fail;go_ret;exact⟨cE E2.out.symm,K1.out⟩
end Go.Proofs.YtbgbfpklgfpepaaGreatDoor.O
