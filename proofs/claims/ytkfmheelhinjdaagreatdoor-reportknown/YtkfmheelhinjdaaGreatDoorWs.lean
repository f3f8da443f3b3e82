import Derived.Test.YtkfmheelhinjdaaGreatDoorWk
import Derived.Shelf.GgSortFunc.RowK
import Derived.Shelf.SlSortCmp.QuietGrown
set_option maxRecDepth 1000000
set_option maxHeartbeats 80000000
namespace Go.Proofs.YtkfmheelhinjdaaGreatDoor.W
open _root_.Go.Proofs.Tryz
open Go.RowKit Go.Sort
set_option linter.unusedVariables false
set_option maxHeartbeats 8000000
set_option maxRecDepth 6000
def eZ(x y:Nat×Nat):Int:=if aX x.1 y.1=0 then aX x.2 y.2 else aX x.1 y.1
theorem AC(x y:Nat):aX x y=0↔x=y:=by unfold aX;split <;> (try split) <;> omega
theorem zF(x y:Nat):aX x y<0↔x<y:=by unfold aX;split <;> (try split) <;> omega
theorem gS(x y:Nat×Nat):ltOf eZ x y=decide (jD x y):=by
 unfold ltOf eZ jD;by_cases h:aX x.1 y.1=0
 ·have h1:=(AC _ _).1 h;rw[if_pos h];have h2:=zF x.2 y.2;by_cases h3:aX x.2 y.2<0
  ·have:=h2.1 h3;simp[h3,h1,this]
  ·have:¬x.2<y.2:=fun h4=>h3 (h2.2 h4)
   simp[h3,h1,this]
 ·have h1:¬x.1=y.1:=fun e=>h ((AC _ _).2 e)
  rw[if_neg h];have h2:=zF x.1 y.1;by_cases h3:aX x.1 y.1<0
  ·have:=h2.1 h3;simp[h3,this]
  ·have:¬x.1<y.1:=fun h4=>h3 (h2.2 h4)
   simp[h3,h1,this]
theorem uX:SWO (ltOf eZ) where
 irrefl x:=by rw[gS];unfold jD;simp
 trans x y z h1 h2:=by rw[gS] at *;simp only[decide_eq_true_eq] at *;unfold jD at *;omega
 ntrans x y z h1 h2:=by rw[gS] at *;simp only[decide_eq_false_iff_not] at *;unfold jD at *;omega
theorem uV(x y:Nat×Nat)(h1:ltOf eZ x y=false)(h2:ltOf eZ y x=false):x=y:=by
 rw[gS] at h1 h2;simp only[decide_eq_false_iff_not] at h1 h2;unfold jD at h1 h2;exact Prod.ext (by omega) (by omega)
theorem or2(g:Nat)(a b:Int)(w:World)(h0:w.cell? ⟨g,0,none⟩=some (.int .i64 a))(h1:w.cell? ⟨g,1,none⟩=some (.int .i64 b)):
  Calls prog 98 #[.slice (some ⟨g,0,none⟩) 2 2] w fun e w'=>e=.returned (.int .i64 (if a=0 then b else a))/\w'=w:=by
 by_cases ha:a=0
 ·have ha1:(a == 0)=true:=by simp[ha]
  by_cases hb:b=0
  ·have hb1:(b == 0)=true:=(by simp[hb]);have E:=aA (show(if a=0 then b else a)=0 by rw[if_pos ha,hb]);rw[E.out];subst ha hb;go_enter func98,ntmps98;go_wp2_with fail;refine wp_loop_rounds 3 ?_;rw[rounds_succ];go_wp2_with fail;rw[rounds_succ];go_wp2_with fail;rw[rounds_succ];go_wp2_with fail;go_ret;exact⟨rfl,rfl⟩
  ·have hb1:(b == 0)=false:=(by simp[hb]);have E:=aA (show(if a=0 then b else a)=b by rw[if_pos ha]);rw[E.out];subst ha;go_enter func98,ntmps98;go_wp2_with fail;refine wp_loop_rounds 2 ?_;rw[rounds_succ];go_wp2_with fail;rw[rounds_succ];go_wp2_with fail;go_ret;exact⟨rfl,rfl⟩
 ·have ha1:(a == 0)=false:=by simp[ha]
  have E:=aA (show(if a=0 then b else a)=a by rw[if_neg ha]);rw[E.out];go_enter func98,ntmps98;go_wp2_with fail;refine wp_loop_rounds 1 ?_;rw[rounds_succ];go_wp2_with fail;go_ret;exact⟨rfl,rfl⟩
def GG(a b:World):Prop:=∃ q os,b=grow (a.drewN q) os
theorem GG.refl(a:World):GG a a:=⟨0,#[],by rw[grow_empty];rfl⟩
theorem GG.trans{a b c:World}(h:GG a b)(k:GG b c):GG a c:=by
 obtain⟨q,os,rfl⟩:=h;obtain⟨q',os',rfl⟩:=k;exact⟨q + q',os ++ os',by show grow (grow ((a.drewN q).drewN q') os) os'=_;rw[grow_grow,World.drewN_drewN]⟩
theorem GG.alloc(a:World)(o:Obj):GG a (a.alloc o):=⟨0,#[o],by rw[alloc_eq_grow];rfl⟩
theorem GG.drew(a:World):GG a a.drew:=⟨1,#[],by rw[grow_empty];rfl⟩
theorem GG.size{a b:World}(h:GG a b):a.heap.size<=b.heap.size:=by
 obtain⟨q,os,rfl⟩:=h;rw[size_grow];exact Nat.le_add_right _ _
theorem GG.cell{a b:World}(h:GG a b){x:Addr}{v:Value}(hx:x.block<a.heap.size)(hc:a.cell? x=some v):b.cell? x=some v:=by
 obtain⟨q,os,rfl⟩:=h;exact cell_grown hx hc q os
def RO(A B:Int):Value->World->Prop:=fun u W=>∃ b,u=.slice (some ⟨b,0,none⟩) 2 2/\b<W.heap.size/\W.cell? ⟨b,0,none⟩=some (.int .i64 A)/\W.cell? ⟨b,1,none⟩=some (.int .i64 B)
def Lr(g h p s p' s':Nat)(A B cv:Int):List (Value->World->Prop):=[bQ (.pointer (some ⟨g,0,none⟩)),bQ (.int .u64 p),bQ (.pointer (some ⟨h,0,none⟩)),bQ (.int .u64 p'),bQ (.int .i64 A),bQ (.pointer (some ⟨g,1,none⟩)),bQ (.int .u64 s),bQ (.pointer (some ⟨h,1,none⟩)),bQ (.int .u64 s'),bQ (.int .i64 B),RO A B,bQ (.int .i64 cv)]
theorem EU{g h p s p' s':Nat}{A B cv:Int}(i:Nat):∀ u W W',((Lr g h p s p' s' A B cv).getD i bX) u W->GG W W'->((Lr g h p s p' s' A B cv).getD i bX) u W':=by
 have key:∀ r∈Lr g h p s p' s' A B cv,∀ u W W',r u W->GG W W'->r u W':=by
  have h1:∀ v,∀ u W W',bQ v u W->GG W W'->bQ v u W':=fun v u W W' h _=>h
  have h2:∀ u W W',RO A B u W->GG W W'->RO A B u W':=fun u W W' ⟨b,h3,h4,h5,h6⟩ k=>⟨b,h3,Nat.lt_of_lt_of_le h4 k.size,k.cell h4 h5,k.cell h4 h6⟩
  unfold Lr;repeat refine List.forall_mem_cons.2 ⟨by first|exact h1 _|exact h2,?_⟩
  exact fun r hr=>by cases hr
 rw[List.getD_eq_getElem?_getD]
 cases e:(Lr g h p s p' s' A B cv)[i]? with
 | none=>exact fun _ _ _ h _=>h
 | some r=>exact key r (List.mem_of_getElem? e)
theorem VL(x y:Nat×Nat)(W:World):Calls prog 61 #[eB x,eB y] W fun e w'=>e=.returned (.int .i64 (eZ x y))/\∃ q os',w'=grow (W.drewN q) os':=by
 obtain⟨p,s⟩:=x;obtain⟨p',s'⟩:=y;obtain⟨cv,hcv⟩:∃ cv,(if aX p p'=0 then aX s s' else aX p p')=cv:=⟨_,rfl⟩;have E:=aA (show eZ (p,s) (p',s')=cv from hcv);rw[E.out];obtain⟨A,hA⟩:∃ A,aX p p'=A:=⟨_,rfl⟩;obtain⟨B,hB⟩:∃ B,aX s s'=B:=⟨_,rfl⟩;have CA:=aA (fun W=>uI p p' W);have CB:=aA (fun W=>uI s s' W);rw[hA] at CA;rw[hB] at CB;have OR:=aA (fun g w h0 h1=>or2 g A B w h0 h1);rw[hA,hB] at hcv;rw[hcv] at OR;clear hcv hA hB E;have B1:=aA (oC (show((W.alloc (cG p s)).alloc (cG p' s')).heap[W.heap.size]?=some (cG p s)from by rw[Below.heap_alloc _ _ _ (by simp)];exact nH _ _));have B2:=aA (oC (show((W.alloc (cG p s)).alloc (cG p' s')).heap[W.heap.size+1]?=some (cG p' s')from by have:=nH (W.alloc (cG p s)) (cG p' s');simpa using this));have Z1:=aA (show W.heap.size<((W.alloc (cG p s)).alloc (cG p' s')).heap.size/\W.heap.size+1<((W.alloc (cG p s)).alloc (cG p' s')).heap.size by simp;omega);have G0:=aA ((GG.alloc W (cG p s)).trans (GG.alloc _ (cG p' s')));go_enter func61,ntmps61;go_upto_region 1 with fail;generalize (W.alloc (cG p s)).alloc (cG p' s')=W2 at *;generalize W.heap.size+1=h1 at *;generalize W.heap.size=g1 at *;refine rX (w1:=W2) (by kernel_rfl) (fun v=>⟨#[eB (p,s),eB (p',s'),.pointer (some ⟨g1,0,none⟩),.pointer (some ⟨h1,0,none⟩),.int .i64 0,v 0,v 1,v 2,v 3,v 4,v 5,v 6,v 7,v 8,v 9,v 10,v 11],[]⟩) (fun i=>undef) GG (fun _ _ _=>GG.trans) (fun i=>(Lr g1 h1 p s p' s' A B cv).getD i bX) (fun i=>EU i) 12 rfl (by kernel_rfl) (by kernel_rfl) (GG.drew _) ?_ ?_
 ·intro i o ho hi v W kW hd;have c0:=kW.cell Z1.out.1 B1.out.1;have c1:=kW.cell Z1.out.1 B1.out.2;have d0:=kW.cell Z1.out.2 B2.out.1;have d1:=kW.cell Z1.out.2 B2.out.2;match i,hi with
  | 0,_=>
   clear hd ho;refine aO rfl ?_;go_wp2_with fail;exact⟨.pointer (some ⟨g1,0,none⟩),(by simp[aB]),rfl,GG.refl _⟩
  | 1,_=>
   have e0:v 0=.pointer (some ⟨g1,0,none⟩):=hd 0 (by kernel_rfl);clear hd ho;refine aO rfl ?_;go_wp2_with fail;exact⟨.int .u64 p,(by simp[aB,e0]),rfl,GG.refl _⟩
  | 2,_=>
   clear hd ho;refine aO rfl ?_;go_wp2_with fail;exact⟨.pointer (some ⟨h1,0,none⟩),(by simp[aB]),rfl,GG.refl _⟩
  | 3,_=>
   have e2:v 2=.pointer (some ⟨h1,0,none⟩):=hd 2 (by kernel_rfl);clear hd ho;refine aO rfl ?_;go_wp2_with fail;exact⟨.int .u64 p',(by simp[aB,e2]),rfl,GG.refl _⟩
  | 4,_=>
   have e1:v 1=.int .u64 p:=hd 1 (by kernel_rfl);have e3:v 3=.int .u64 p':=hd 3 (by kernel_rfl);clear hd ho;refine aO rfl ?_;go_wp2_with (go_at_call 56;(refine(CA.out _).mono ?_);rintro e wX ⟨rfl,rfl⟩)
   exact⟨.int .i64 A,(by simp[aB,e1,e3]),rfl,GG.refl _⟩
  | 5,_=>
   clear hd ho;refine aO rfl ?_;go_wp2_with fail;exact⟨.pointer (some ⟨g1,1,none⟩),(by simp[aB]),rfl,GG.refl _⟩
  | 6,_=>
   have e5:v 5=.pointer (some ⟨g1,1,none⟩):=hd 5 (by kernel_rfl);clear hd ho;refine aO rfl ?_;go_wp2_with fail;exact⟨.int .u64 s,(by simp[aB,e5]),rfl,GG.refl _⟩
  | 7,_=>
   clear hd ho;refine aO rfl ?_;go_wp2_with fail;exact⟨.pointer (some ⟨h1,1,none⟩),(by simp[aB]),rfl,GG.refl _⟩
  | 8,_=>
   have e7:v 7=.pointer (some ⟨h1,1,none⟩):=hd 7 (by kernel_rfl);clear hd ho;refine aO rfl ?_;go_wp2_with fail;exact⟨.int .u64 s',(by simp[aB,e7]),rfl,GG.refl _⟩
  | 9,_=>
   have e6:v 6=.int .u64 s:=hd 6 (by kernel_rfl);have e8:v 8=.int .u64 s':=hd 8 (by kernel_rfl);clear hd ho;refine aO rfl ?_;go_wp2_with (go_at_call 56;(refine(CB.out _).mono ?_);rintro e wX ⟨rfl,rfl⟩)
   exact⟨.int .i64 B,(by simp[aB,e6,e8]),rfl,GG.refl _⟩
  | 10,_=>
   have e4:v 4=.int .i64 A:=hd 4 (by kernel_rfl);have e9:v 9=.int .i64 B:=hd 9 (by kernel_rfl);clear hd ho;refine aO rfl ?_;go_wp2_with fail;refine⟨.slice (some ⟨W.heap.size,0,none⟩) 2 2,(by simp[aB,e4,e9]),⟨_,rfl,?_,?_,?_⟩,GG.alloc _ _⟩
   ·simp
   ·have h0:=mK (w:=W) (t:=3) (cs:=#[.int .i64 A,.int .i64 B]) 0 _ rfl;rw[Addr.add_lit,Nat.zero_add] at h0;exact h0
   ·have h0:=mK (w:=W) (t:=3) (cs:=#[.int .i64 A,.int .i64 B]) 1 _ rfl;rw[Addr.add_lit,Nat.zero_add] at h0;exact h0
  | 11,_=>
   obtain⟨b,e10,hb,b0,b1⟩:=(show RO A B (v 10) W from hd 10 (by kernel_rfl));have OX:=aA (OR.out b W b0 b1);clear hd ho;refine aO rfl ?_;go_wp2_with (go_at_call 98;(refine OX.out.mono ?_);rintro e wX ⟨rfl,rfl⟩)
   exact⟨.int .i64 cv,(by simp[aB,e10]),rfl,GG.refl _⟩
 ·intro o ho v W kW hd;have e11:v 11=.int .i64 cv:=hd 11 (by decide);have KF:=aA (G0.out.trans kW);clear hd ho;refine aO rfl ?_;go_wp2_with fail;go_ret;exact⟨rfl,KF.out⟩
def gA(b:Nat×Nat):List Value:=[.int .u64 b.1,.int .u64 b.2]
theorem vV(l:List (Nat×Nat)):flatK gA 2 l.toArray=(blV l).toArray:=by
 refine ext_get! (by simp[mH]) fun t ht=>?_
 have ht':t<l.length*2:=by simpa using ht
 rw[get_flatK _ _ _ t (by simpa using ht')];obtain⟨e1,e2⟩:=blV_get l (t/2) (by omega);have hd:l.toArray[t/2]! =l.getD (t/2) (0,0):=by
  rw[List.getElem!_toArray,List.getD_eq_getElem?_getD,List.getElem!_eq_getElem?_getD];rfl
 rw[hd];generalize l.getD (t/2) (0,0)=b at *;rcases Nat.mod_two_eq_zero_or_one t with h|h
 ·rw[h];have:(blV l)[t]?=some (.int .u64 b.1):=by rw[<-e1];congr 1;omega
  have h9:(blV l).toArray[t]! =.int .u64 b.1:=by rw[List.getElem!_toArray,List.getElem!_eq_getElem?_getD,this];rfl
  rw[h9];rfl
 ·rw[h];have:(blV l)[t]?=some (.int .u64 b.2):=by rw[<-e2];congr 1;omega
  have h9:(blV l).toArray[t]! =.int .u64 b.2:=by rw[List.getElem!_toArray,List.getElem!_eq_getElem?_getD,this];rfl
  rw[h9];rfl
theorem GS.sortedK{w0 W:World}{e:TypeId}{sz gb cap n:Nat}{xs:List Value}(h:GS w0 W e sz (.slice (some ⟨gb,0,none⟩) n cap) n xs):
  Holds id W gb 0 xs.toArray/\gb<W.heap.size/\∀ m (ys:List Value) os,ys.length=xs.length->
   GS w0 (sortWorld id W gb 0 m ys.toArray os) e sz (.slice (some ⟨gb,0,none⟩) n cap) n ys/\Kt (fun x=>x=gb) W (sortWorld id W gb 0 m ys.toArray os):=by
 have hlen:xs.length=n*sz:=h.own.1;rcases h.own.2 with ⟨h0,_⟩|⟨g,cap',cur,hv,hb,hg,hnc,hcm,hcs,htake⟩
 ·cases h0
 simp only[Value.slice.injEq,Option.some.injEq,Addr.mk.injEq,true_and,and_true] at hv;obtain⟨rfl,rfl⟩:=hv;have hgl:=lH hg;refine⟨fun j hj=>?_,hgl,fun m ys os hl2=>?_⟩
 ·have hj':j<xs.length:=by simpa using hj
  obtain⟨u,hu⟩:∃ u,xs[j]?=some u:=⟨_,List.getElem?_eq_getElem hj'⟩;have e1:=hu;rw[<-htake,List.getElem?_take] at e1;split at e1
  ·constructor
   ·rw[Nat.zero_add];simp only[World.cell?,hg];rw[<-Array.getElem?_toList,e1];simp[hu]
   ·simp[World.frozen?,hg]
  ·cases e1
 ·have hk:Kt (fun x=>x=gb) W (sortWorld id W gb 0 m ys.toArray os):=by
   refine⟨rfl,rfl,rfl,?_,fun i hi hne=>?_⟩
   ·show W.heap.size<=(grow _ _).heap.size
    rw[size_grow,size_putRow];exact Nat.le_add_right _ _
   ·show(grow (putRow id (Sort.ahead W m) gb 0 ys.toArray) os).heap[i]?=_
    rw[heap_grow_old _ _ (by rw[size_putRow];exact hi)];show(W.heap.modify gb _)[i]?=_
    rw[Array.getElem?_modify,if_neg (fun e=>hne e.symm)]
  refine⟨⟨⟨by omega,.inr ⟨gb,cap,putCells id 0 ys.toArray cur,rfl,Nat.zero_le _,?_,hnc,hcm,by simp[putCells,hcs],?_⟩⟩,h.new,h.kp.trans hk (fun _ _ e=>e) (fun x hx e=>?_)⟩,hk⟩
  ·show(grow (putRow id (Sort.ahead W m) gb 0 ys.toArray) os).heap[gb]?=_
   rw[heap_grow_old _ _ (by rw[size_putRow];exact hgl)];show(W.heap.modify gb _)[gb]?=_
   rw[Array.getElem?_modify,if_pos rfl,hg];rfl
  ·have hcl:n*sz<=cur.size:=by
    have:=congrArg List.length htake;rw[List.length_take,hlen] at this;simp at this;omega
   apply List.ext_getElem?
   intro j;rw[List.getElem?_take];by_cases hj:j<ys.length
   ·rw[if_pos (by omega),List.getElem?_eq_getElem hj,Array.getElem?_toList];unfold putCells;rw[Array.getElem?_mapIdx,Array.getElem?_eq_getElem (by omega)];simp[hj]
   ·rw[if_neg (by omega),List.getElem?_eq_none (by omega)]
  ·have:=h.new gb cap rfl
   cases e
   omega
theorem GB.sorted{w0 W:World}{gb cap:Nat}{l:List (Nat×Nat)}(h:GB w0 W (.slice (some ⟨gb,0,none⟩) l.length cap) l):HoldsK gA 2 W gb 0 l.toArray/\gb<W.heap.size/\∀ n (l2:List (Nat×Nat)) os,l2.length=l.length->
   GB w0 (sortWorldK gA 2 W gb 0 n l2.toArray os) (.slice (some ⟨gb,0,none⟩) l2.length cap) l2/\Kt (fun x=>x=gb) W (sortWorldK gA 2 W gb 0 n l2.toArray os):=by
 obtain⟨a,b,c⟩:=GS.sortedK h;refine⟨?_,b,fun n l2 os hl=>?_⟩
 ·unfold HoldsK;rw[vV];exact a
 ·unfold sortWorldK putRowK;rw[vV];have:=c n (blV l2) os (by rw[mH,mH,hl]);rw[<-hl] at this;exact this
end Go.Proofs.YtkfmheelhinjdaaGreatDoor.W
