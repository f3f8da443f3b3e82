import Derived.Test.YtgjdmkfpmokkaaaGreatDoorZp
set_option maxRecDepth 1000000
set_option maxHeartbeats 80000000
namespace Go.Proofs.YtgjdmkfpmokkaaaGreatDoor
open Go.RowKit
set_option linter.unusedVariables false
theorem zgC:(Tryz.prog.info? 3).map (fun i=>(i.zero,i.size,i.bytes))=some (some (.int .i64 0),1,8):=by kernel_rfl
theorem zkv:(Tryz.prog.info? 189).map (fun i=>(i.zero,i.size,i.bytes))=some (some (.agg #[.int .i64 0,.int .i64 0]),2,16):=by kernel_rfl
abbrev r5Z:Obj:=.cells #[.int .i64 0,.int .i64 0,.slice none 0 0,.slice none 0 0] 35
def nums(l:List Nat):List Value:=l.map fun (q:Nat)=>.int .i64 (q:Int)
def NL(W:World)(v:Value)(l:List Nat):Prop:=W.ownsRow 0 3 1 v l.length (nums l)
theorem NL.get{W a l c}(h:NL W (.slice a l.length c) l){i:Nat}(hi:i<l.length):∃ g,a=some ⟨g,0,none⟩∧W.cell? ⟨g,i,none⟩=some (.int .i64 ((l.getD i 0:Nat):Int)):=
 zaF h (by simp[nums,List.getD,hi])
theorem NL.keep{W W' v l}(h:NL W v l)(k:Kt nO W W'):NL W' v l:=zaf h k (fun _ _ e=>e)
theorem NL.nil(W:World):NL W (.slice none 0 0) []:=World.ownsRow_nil _ _ _ _
def slv(A:Nat→Option Addr)(C:Nat→Nat)(fr:Nat→List Nat)(n:Nat):List Value:=(List.range n).map fun k=>.slice (A k) (fr k).length (C k)
def FL(W:World)(fa:Option Addr)(fc o:Nat)(fr:Nat→List Nat):Prop:=∃ A C,W.ownsRow 0 43 1 (.slice fa (o+1) fc) (o+1) (slv A C fr (o+1))∧∀ k,k≤o→NL W (.slice (A k) (fr k).length (C k)) (fr k)
theorem FL.get{W fa fc o fr}(h:FL W fa fc o fr)(k:Nat)(hk:k≤o):∃ g A C,fa=some ⟨g,0,none⟩∧W.cell? ⟨g,k,none⟩=some (.slice A (fr k).length C)∧NL W (.slice A (fr k).length C) (fr k):=by
 obtain⟨A,C,h1,h2⟩:=h;obtain⟨g,h3,h4⟩:=zaF h1 (i:=k) (u:=.slice (A k) (fr k).length (C k)) (by rw[slv,List.getElem?_map,List.getElem?_range (by omega)];rfl);exact⟨g,A k,C k,h3,h4,h2 k hk⟩
theorem FL.kept{W W' fa fc o fr}{S:Nat→Prop}(h:FL W fa fc o fr)(k:Kt S W W')(h1:∀ y cs,W.heap[y]?=some (.cells cs 3 (0,0))→¬S y)(h2:∀ y cs,W.heap[y]?=some (.cells cs 43 (0,0))→¬S y):FL W' fa fc o fr:=by
 obtain⟨A,C,h3,h4⟩:=h;refine⟨A,C,zaf h3 k (fun x e=>?_),fun j hj=>zaf (h4 j hj) k (fun x e=>?_)⟩
 ·obtain⟨cs,hc⟩:=zaT h3 e;exact h2 x cs hc
 ·obtain⟨cs,hc⟩:=zaT (h4 j hj) e;exact h1 x cs hc
theorem FL.keep{W W' fa fc o fr}(h:FL W fa fc o fr)(k:Kt nO W W'):FL W' fa fc o fr:=h.kept k (fun _ _ _ e=>e) (fun _ _ _ e=>e)
def runs:List (Nat×Nat)→List Value
 | []=>[]
 | r :: l=>.int .i64 (r.1:Int) :: .int .i64 (r.2:Int) :: runs l
theorem zgD:∀ (l:List (Nat×Nat)) (i:Nat),i<l.length→(runs l)[i*2]?=some (.int .i64 ((l.getD i (0,0)).1:Int))∧(runs l)[i*2+1]?=some (.int .i64 ((l.getD i (0,0)).2:Int))
 | [],i,h=>absurd h (Nat.not_lt_zero _)
 | r :: l,0,h=>⟨rfl,rfl⟩
 | r :: l,i+1,h=>by
  have:=zgD l i (by simpa using h);rw[runs,show(i+1)*2=i*2+1+1 by omega];exact this
theorem zeo:∀ (l m:List (Nat×Nat)),runs (l ++ m)=runs l ++ runs m
 | [],m=>rfl
 | r :: l,m=>by rw[List.cons_append,runs,runs,zeo l m];rfl
def RN(W:World)(v:Value)(l:List (Nat×Nat)):Prop:=W.ownsRow 0 189 2 v l.length (runs l)
theorem RN.get{W a l c}(h:RN W (.slice a l.length c) l){i:Nat}(hi:i<l.length):∃ g,a=some ⟨g,0,none⟩∧W.cell? ⟨g,i*2,none⟩=some (.int .i64 ((l.getD i (0,0)).1:Int))∧W.cell? ⟨g,i*2+1,none⟩=some (.int .i64 ((l.getD i (0,0)).2:Int)):=by
 obtain⟨h1,h2⟩:=zgD l i hi;obtain⟨g,hg,h3⟩:=zaF h h1;obtain⟨g',hg',h4⟩:=zaF h h2;rw[hg] at hg';injection hg' with hg'
 injection hg' with hg'
 subst hg';exact⟨g,hg,h3,h4⟩
theorem RN.keep{W W' v l}(h:RN W v l)(k:Kt nO W W'):RN W' v l:=zaf h k (fun _ _ e=>e)
theorem zaK{w0 W:World}{v:Value}{n:Nat}{xs:List Value}(h:GS w0 W 3 1 v n xs)(y:Int)(hn:n≤2000):
  ∃ g cap w',(∀ ty,(Builtin.append_ #[43,43] ty #[v,.slice (some ⟨W.heap.size,0,none⟩) 1 1]).run Tryz.prog (W.alloc (.cells #[.int .i64 y] 3))=.ok (.slice (some ⟨g,0,none⟩) (n + 1) cap) w')∧GS w0 w' 3 1 (.slice (some ⟨g,0,none⟩) (n + 1) cap) (n + 1) (xs ++ [.int .i64 y])∧w0.heap.size≤g∧(∀ x,v.ownBlock≠some x→∀ o,W.heap[x]?=some o→w'.heap[x]?=some o):=by
 obtain⟨i,hi,hzz⟩:=Option.map_eq_some_iff.1 zgC;simp only[Prod.mk.injEq] at hzz;have ka:=(Kt.refl nO W).alloc (.cells #[.int .i64 y] 3);obtain⟨g,cap,w',h1,h2,h5,h4⟩:=(h.keep ka).push 43 i (.int .i64 0) 8 Tryz.underlying43 hi hzz.1 hzz.2.1 hzz.2.2 rfl (by decide) ⟨W.heap.size,0,none⟩ 1 [.int .i64 y] rfl (fun j u hj=>zaD (cs:=#[.int .i64 y]) j u hj) (by simp[Value.oneCell']) (by simp only[maxLen];omega) (by omega);exact⟨g,cap,w',h1,h2,h5,fun x hx o ho=>h4 x hx o ((ka.block x (lH ho) (fun x=>x)).trans ho)⟩
theorem zfA{w0 W:World}{v:Value}{n:Nat}{xs:List Value}(h:GS w0 W 43 1 v n xs)(a:Option Addr)(l c:Nat)(hn:n≤2000):
  ∃ g cap w',(∀ ty,(Builtin.append_ #[32,32] ty #[v,.slice (some ⟨W.heap.size,0,none⟩) 1 1]).run Tryz.prog (W.alloc (.cells #[.slice a l c] 43))=.ok (.slice (some ⟨g,0,none⟩) (n + 1) cap) w')∧GS w0 w' 43 1 (.slice (some ⟨g,0,none⟩) (n + 1) cap) (n + 1) (xs ++ [.slice a l c])∧w0.heap.size≤g∧(∀ x,v.ownBlock≠some x→∀ o,W.heap[x]?=some o→w'.heap[x]?=some o):=by
 obtain⟨i,hi,hzz⟩:=Option.map_eq_some_iff.1 zer;simp only[Prod.mk.injEq] at hzz;have ka:=(Kt.refl nO W).alloc (.cells #[.slice a l c] 43);obtain⟨g,cap,w',h1,h2,h5,h4⟩:=(h.keep ka).push 32 i (.slice none 0 0) 24 Tryz.underlying32 hi hzz.1 hzz.2.1 hzz.2.2 rfl (by decide) ⟨W.heap.size,0,none⟩ 1 [.slice a l c] rfl (fun j u hj=>zaD (cs:=#[.slice a l c]) j u hj) (by simp[Value.oneCell']) (by simp only[maxLen];omega) (by omega);exact⟨g,cap,w',h1,h2,h5,fun x hx o ho=>h4 x hx o ((ka.block x (lH ho) (fun x=>x)).trans ho)⟩
structure D5(W:World)(o P:Nat)(fr:Nat→List Nat)(ls:List (Nat×Nat))(fa:Option Addr)(fc:Nat)(va:Option Addr)(vc:Nat):Prop where
 fl:FL W fa fc o fr
 rn:RN W (.slice va ls.length vc) ls
theorem zcr{a w:World}(h:Kt nO a w)(x:Nat)(hx:a.heap.size≤x)(u0 u1 u2 u3:Value):Kt nO a ((((w.setCell ⟨x,0,none⟩ u0).setCell ⟨x,1,none⟩ u1).setCell ⟨x,2,none⟩ u2).setCell ⟨x,3,none⟩ u3):=
 (((h.setNew (p:=⟨x,0,none⟩) (fun e=>absurd e (by show ¬x<_;omega)) u0).setNew (p:=⟨x,1,none⟩) (fun e=>absurd e (by show ¬x<_;omega)) u1).setNew (p:=⟨x,2,none⟩) (fun e=>absurd e (by show ¬x<_;omega)) u2).setNew (p:=⟨x,3,none⟩) (fun e=>absurd e (by show ¬x<_;omega)) u3
theorem zeq(A:Nat→Option Addr)(C:Nat→Nat)(fr:Nat→List Nat)(n:Nat):slv A C fr n ++ [.slice (A n) (fr n).length (C n)]=slv A C fr (n + 1):=by
 rw[slv,slv,List.range_succ,List.map_append];rfl
theorem box5{W0 W:World}{x:Nat}{o p:Int}{fv lv:Value}(h:W0.heap[x]?=some (r5O o p fv lv))(k:Kt nO W0 W):W.heap[x]?=some (r5O o p fv lv):=(k.block _ (lH h) (fun e=>e)).trans h
def F5P(w:World)(o P:Int)(on:Nat)(fr:Nat→List Nat)(lv:Value)(e:Ending)(w':World):Prop:=∃ fa fc,e=.returned (r5V o P (.slice fa (on+1) fc) lv)∧Kt nO w w'∧FL w' fa fc on fr
theorem zmX(o:Nat)(ho:o≤8)(oi P:Int)(fa:Option Addr)(fc:Nat)(va:Option Addr)(n vc:Nat)(fr:Nat→List Nat)(k:Nat)(hk:k≤o)(la:Option Addr)(lc:Nat)(l:List Nat)(w:World)(h:FL w fa fc o fr)(hl:NL w (.slice la l.length lc) l):
  Calls Tryz.prog 144 #[r5V oi P (.slice fa (o+1) fc) (.slice va n vc),.int .i64 (k:Int),.slice la l.length lc] w fun e w'=>F5P w oi P o (frU fr k l) (.slice va n vc) e w':=by
 have T2:=two5 w (r5O oi P (.slice fa (o+1) fc) (.slice va n vc)) r5Z;have K0:=hid T2.1;have S0:((w.alloc (r5O oi P (.slice fa (o+1) fc) (.slice va n vc))).alloc r5Z).heap.size=w.heap.size+2:=by simp
 have X0:=hid T2.2.1;have Y0:=hid T2.2.2;obtain⟨A,C,h1,h2⟩:=h;have H1:=hid (zaf h1 T2.1 (fun _ _ e=>e));have H2:=hid (fun j hj=>(h2 j hj).keep T2.1);have HL:=hid (hl.keep T2.1);have HE:=hid (show ∀ j,(if j=k then Value.slice la l.length lc else .slice (A j) (fr j).length (C j))=.slice (if j=k then la else A j) ((frU fr k l) j).length (if j=k then lc else C j)from fun j=>by
  unfold frU;by_cases e:j=k <;> simp[e])
 have LL:=hid (show(frU fr k l) k=l from by unfold frU;rw[if_pos rfl]);clear T2 h1 h2 hl;obtain⟨m,hm⟩:=xe (l.length);rw[←hm] at HE ⊢;have HM:=hid hm;clear hm;go_enter Tryz.func144,Tryz.ntmps144;go_wp2_with fail;generalize (w.alloc (r5O oi P (.slice fa (o+1) fc) (.slice va n vc))).alloc r5Z=W0 at *;have HS0:=hid S0;clear S0;go_loopw [7,8] (fun f i W=>∃ j:Nat,j≤o+1∧i=.int .i64 j∧(∃ ga gc,f=.slice ga j gc)∧Hid (GS W0 W 43 1 f j (slv (fun j=>if j=k then la else A j) (fun j=>if j=k then lc else C j) (frU fr k l) j)∧∀ g,f.ownBlock=some g→W0.heap.size≤g)) (fun _ i _=>o+1-(intOf i).toNat)
 case atStart=>exact⟨0,by omega,rfl,⟨none,0,rfl⟩,hid ⟨GS.nil _ _ _ _ (Kt.refl nO _),fun g e=>by simp[Value.ownBlock] at e⟩⟩
 case round=>
  obtain⟨j,hj,rfl,⟨ga,gc,rfl⟩,hR⟩:=hrel;obtain⟨x0,x1,x2,x3,fx⟩:=r5c (box5 X0.out hR.out.1.kp);by_cases hlt:j≤o
  ·have hji:(j:Int)<((o+1:Nat):Int):=(by omega);have hji2:(j:Int)<(o:Int)+1:=(by omega);by_cases hjk:j=k
   ·subst hjk;obtain⟨g,cap,w',hap,hg2,hge,hkeep⟩:=zfA hR.out.1 la m lc (by omega);have D:=hid (show GS W0 w' 43 1 (.slice (some ⟨g,0,none⟩) (j+1) cap) (j+1) (slv (fun i=>if i=j then la else A i) (fun i=>if i=j then lc else C i) (frU fr j l) (j+1))∧∀ g',(Value.slice (some ⟨g,0,none⟩) (j+1) cap).ownBlock=some g'→W0.heap.size≤g' from⟨by
     have:=HE.out j;rw[if_pos rfl] at this;rw[←zeq,←this];exact hg2,fun g' e=>by simp[Value.ownBlock] at e;omega⟩)
    have HAP:=hid hap;clear hap hg2 hge hkeep;go_wp2_with (at_builtin;refine Lib.wpList_append_run _ rfl _ _ _ _ rfl (.slice ga j gc) (.slice (some ⟨wr.heap.size,0,none⟩) 1 1) rfl rfl _ _ (HAP.out _) ?_)
    exact⟨⟨j+1,by omega,by simp,⟨_,_,rfl⟩,D⟩,by simp[intOf];omega⟩
   ·have hjki:¬(j:Int)=(k:Int):=(by omega);obtain⟨g0,hfa,r0⟩:=zaF (zaf H1.out hR.out.1.kp (fun _ _ e=>e)) (i:=j) (u:=.slice (A j) (fr j).length (C j)) (by rw[slv,List.getElem?_map,List.getElem?_range (by omega)];rfl);subst hfa;obtain⟨g,cap,w',hap,hg2,hge,hkeep⟩:=zfA hR.out.1 (A j) (fr j).length (C j) (by omega);have D:=hid (show GS W0 w' 43 1 (.slice (some ⟨g,0,none⟩) (j+1) cap) (j+1) (slv (fun i=>if i=k then la else A i) (fun i=>if i=k then lc else C i) (frU fr k l) (j+1))∧∀ g',(Value.slice (some ⟨g,0,none⟩) (j+1) cap).ownBlock=some g'→W0.heap.size≤g' from⟨by
     have:=HE.out j;rw[if_neg hjk] at this;rw[←zeq,←this];exact hg2,fun g' e=>by simp[Value.ownBlock] at e;omega⟩)
    have HAP:=hid hap;clear hap hg2 hge hkeep;go_wp2_with (at_builtin;refine Lib.wpList_append_run _ rfl _ _ _ _ rfl (.slice ga j gc) (.slice (some ⟨wr.heap.size,0,none⟩) 1 1) rfl rfl _ _ (HAP.out _) ?_)
    exact⟨⟨j+1,by omega,by simp,⟨_,_,rfl⟩,D⟩,by simp[intOf];omega⟩
  ·have hjo:j=o+1:=(by omega);subst hjo;have hji:¬((o+1:Nat):Int)<((o+1:Nat):Int):=(by omega);have hji2:¬(o:Int)+1<(o:Int)+1:=(by omega);have hsz:=HS0.out;have hx':=box5 X0.out hR.out.1.kp;have hy':wr.heap[w.heap.size+1]?=some r5Z:=(hR.out.1.kp.block _ (lH Y0.out) (fun e=>e)).trans Y0.out;have ks:Kt (fun y=>y=w.heap.size) wr (wr.setCell ⟨w.heap.size,2,none⟩ (.slice ga (o+1) gc)):=(Kt.refl (fun y=>y=w.heap.size) wr).setCell (p:=⟨w.heap.size,2,none⟩) rfl _;have X2:=hid (show(wr.setCell ⟨w.heap.size,2,none⟩ (.slice ga (o+1) gc)).heap[w.heap.size]?=some (r5O oi P (.slice ga (o+1) gc) (.slice va n vc))from zaa hx' 2 _);have Y2:=hid ((ks.block _ (lH hy') (by omega)).trans hy');have K2:=hid ((nT K0.out hR.out.1.kp).setNew (p:=⟨w.heap.size,2,none⟩) (fun e=>absurd e (Nat.lt_irrefl _)) (.slice ga (o+1) gc));have F1:FL wr ga gc o (frU fr k l):=⟨_,_,hR.out.1.own,fun i hi=>by
    have:=HE.out i;by_cases e:i=k
    ·rw[if_pos e] at this;rw[←this,HM.out,e,LL.out];exact HL.out.keep hR.out.1.kp
    ·rw[if_neg e] at this;rw[←this,show frU fr k l i=fr i by unfold frU;rw[if_neg e]];exact(H2.out i hi).keep hR.out.1.kp⟩
   have bx:∀ y cs (t:TypeId) z,t≠35→wr.heap[y]?=some (.cells cs t z)→y≠w.heap.size∧y≠w.heap.size+1:=fun y cs t z ht hy=>⟨fun e=>zag hy hx' ht e,fun e=>zag hy hy' ht e⟩
   have F3:=hid (show ∀ u0 u1 u2 u3,FL (((((wr.setCell ⟨w.heap.size,2,none⟩ (.slice ga (o+1) gc)).setCell ⟨w.heap.size+1,0,none⟩ u0).setCell ⟨w.heap.size+1,1,none⟩ u1).setCell ⟨w.heap.size+1,2,none⟩ u2).setCell ⟨w.heap.size+1,3,none⟩ u3) ga gc o (frU fr k l)from fun u0 u1 u2 u3=>by
    refine F1.kept (S:=fun y=>y=w.heap.size∨y=w.heap.size+1) ((((((Kt.refl _ wr).setCell (p:=⟨w.heap.size,2,none⟩) (.inl rfl) _).setCell (p:=⟨w.heap.size+1,0,none⟩) (.inr rfl) u0).setCell (p:=⟨w.heap.size+1,1,none⟩) (.inr rfl) u1).setCell (p:=⟨w.heap.size+1,2,none⟩) (.inr rfl) u2).setCell (p:=⟨w.heap.size+1,3,none⟩) (.inr rfl) u3) (fun y cs hy=>?_) (fun y cs hy=>?_)
    ·have:=bx y cs _ _ (by decide) hy;omega
    ·have:=bx y cs _ _ (by decide) hy;omega)
   obtain⟨a0,a1,a2,a3,fa4⟩:=r5c X2.out;obtain⟨b0,b1,b2,b3,fb⟩:=r5c Y2.out;have HF:=hid (fun u0 u1 u2 u3=>zcr K2.out (w.heap.size+1) (by omega) u0 u1 u2 u3);clear hx' hy' ks F1 bx hsz;go_wp2_with fail;exact⟨rfl,r5V oi P (.slice ga (o+1) gc) (.slice va n vc),by simp[results,Tryz.results144,go_sem,b0,b1,b2,b3],_,_,rfl,HF.out _ _ _ _,F3.out _ _ _ _⟩
theorem zca(l:List Nat){j:Nat}(hj:j<l.length):l.take (j + 1)=l.take j ++ [l.getD j 0]:=by
 rw[List.take_add_one,List.getElem?_eq_getElem hj,List.getD_eq_getElem?_getD,List.getElem?_eq_getElem hj];rfl
theorem zbw(l m:List Nat):nums (l ++ m)=nums l ++ nums m:=by unfold nums;rw[List.map_append]
theorem zfe(W:World)(y:Int):(W.alloc (.cells #[.int .i64 y] 3)).ownsRow 0 3 1 (.slice (some ⟨W.heap.size,0,none⟩) 1 1) 1 [.int .i64 y]:=
 ⟨rfl,.inr ⟨_,1,#[.int .i64 y],rfl,Nat.zero_le _,nH _ _,by omega,by decide,rfl,rfl⟩⟩
theorem F5P.fin{w W0 w2:World}{o:Nat}{fr:Nat→List Nat}{fa:Option Addr}{fc:Nat}(k0:Kt nO w W0)(hs:W0.heap.size=w.heap.size+2)(hy:W0.heap[w.heap.size+1]?=some r5Z)(k:Kt nO W0 w2)(f:FL w2 fa fc o fr):w2.heap[w.heap.size+1]?=some r5Z∧∀ u0 u1 u2 u3,Kt nO w ((((w2.setCell ⟨w.heap.size+1,0,none⟩ u0).setCell ⟨w.heap.size+1,1,none⟩ u1).setCell ⟨w.heap.size+1,2,none⟩ u2).setCell ⟨w.heap.size+1,3,none⟩ u3)∧FL ((((w2.setCell ⟨w.heap.size+1,0,none⟩ u0).setCell ⟨w.heap.size+1,1,none⟩ u1).setCell ⟨w.heap.size+1,2,none⟩ u2).setCell ⟨w.heap.size+1,3,none⟩ u3) fa fc o fr:=by
 have hy2:=(k.block _ (lH hy) (fun e=>e)).trans hy;refine⟨hy2,fun u0 u1 u2 u3=>⟨zcr (nT k0 k) _ (by omega) u0 u1 u2 u3,?_⟩⟩;refine f.kept (S:=fun y=>y=w.heap.size+1) (((((Kt.refl (fun y=>y=w.heap.size+1) w2).setCell (p:=⟨w.heap.size+1,0,none⟩) rfl u0).setCell (p:=⟨w.heap.size+1,1,none⟩) rfl u1).setCell (p:=⟨w.heap.size+1,2,none⟩) rfl u2).setCell (p:=⟨w.heap.size+1,3,none⟩) rfl u3) (fun y cs h e=>?_) (fun y cs h e=>?_)
 ·exact zag h hy2 (by decide) e
 ·exact zag h hy2 (by decide) e
theorem zhJ(o:Nat)(ho:o≤8)(oi P:Int)(fa:Option Addr)(fc:Nat)(va:Option Addr)(n vc:Nat)(fr:Nat→List Nat)(k:Nat)(hk:k≤o)(hf:(fr k).length≤1024)(pg:Nat)(w:World)(h:FL w fa fc o fr):
  Calls Tryz.prog 143 #[r5V oi P (.slice fa (o+1) fc) (.slice va n vc),.int .i64 (k:Int),.int .i64 (pg:Int)] w fun e w'=>F5P w oi P o (frU fr k (pg :: fr k)) (.slice va n vc) e w':=by
 have T2:=two5 w (r5O oi P (.slice fa (o+1) fc) (.slice va n vc)) r5Z;have K0:=hid T2.1;have S0:=hid (show((w.alloc (r5O oi P (.slice fa (o+1) fc) (.slice va n vc))).alloc r5Z).heap.size=w.heap.size+2 by simp);have X0:=hid T2.2.1;have Y0:=hid T2.2.2;have F0:=hid (h.keep T2.1);clear T2 h;go_enter Tryz.func143,Tryz.ntmps143;go_wp2_with fail;generalize (w.alloc (r5O oi P (.slice fa (o+1) fc) (.slice va n vc))).alloc r5Z=W0 at *;obtain⟨g0,A,C,hfa,_,_⟩:=F0.out.get k hk;subst hfa;have hki:(k:Int)<((o+1:Nat):Int):=by omega
 have hki2:(k:Int)<(o:Int)+1:=by omega
 obtain⟨L,hL⟩:=xe ((fr k).length);rw[←hL] at hf;have HL:=hid hL;clear hL;have K1:=(Kt.refl nO W0).alloc (.cells #[.int .i64 (pg:Int)] 3);have G1:=hid (show GS W0 (W0.alloc (.cells #[.int .i64 (pg:Int)] 3)) 3 1 (.slice (some ⟨W0.heap.size,0,none⟩) 1 1) 1 (nums (pg :: (fr k).take 0))from⟨zfe W0 _,fun g cap e=>by injection e with e;injection e with e;injection e with e;exact .inr (by omega),K1⟩);rw[S0.out] at G1;generalize W0.alloc (.cells #[.int .i64 (pg:Int)] 3)=W1 at *;clear K1;go_loopw [7,8] (fun f i W=>∃ j:Nat,j≤L∧i=.int .i64 j∧(∃ ga gc,f=.slice ga (j+1) gc)∧Hid (GS W0 W 3 1 f (j+1) (nums (pg :: (fr k).take j)))) (fun _ i _=>L-(intOf i).toNat)
 case atStart=>exact⟨0,by omega,rfl,⟨_,_,rfl⟩,G1⟩
 case round=>
  clear G1;obtain⟨j,hj,rfl,⟨ga,gc,rfl⟩,hR⟩:=hrel;obtain⟨x0,x1,x2,x3,fx⟩:=r5c (box5 X0.out hR.out.kp);obtain⟨g1,A1,C1,hfa,r1,hN⟩:=(F0.out.keep hR.out.kp).get k hk;injection hfa with hfa
  injection hfa with hfa
  subst hfa;rw[←HL.out] at r1;by_cases hlt:j<L
  ·have hji:(j:Int)<(L:Int):=(by omega);have hjl:j<(fr k).length:=(by rw[←HL.out];exact hlt);obtain⟨g2,hA,r2⟩:=hN.get hjl;subst hA;have TN:=hid (zca _ hjl);clear hjl hN;generalize (fr k).getD j 0=q at *;obtain⟨g,cap,w',hap,hg2,hge,hkeep⟩:=zaK hR.out (q:Int) (by omega);have D:=hid (show GS W0 w' 3 1 (.slice (some ⟨g,0,none⟩) (j+1+1) cap) (j+1+1) (nums (pg :: (fr k).take (j+1)))from by
    rw[TN.out,←List.cons_append,zbw];exact hg2)
   have HAP:=hid hap;clear hap hg2 hge hkeep;go_wp2_with (at_builtin;refine Lib.wpList_append_run _ rfl _ _ _ _ rfl (.slice ga (j+1) gc) (.slice (some ⟨wr.heap.size,0,none⟩) 1 1) rfl rfl _ _ (HAP.out _) ?_)
   exact⟨⟨j+1,by omega,by simp,⟨_,_,rfl⟩,D⟩,by simp[intOf];omega⟩
  ·obtain rfl:j=L:=(by omega);have hji:¬(j:Int)<(j:Int):=(by omega);have NLw:=hid (show NL wr (.slice ga (pg :: fr k).length gc) (pg :: fr k)from by
    have:=hR.out.own;rw[HL.out,List.take_length] at this;exact this)
   have WI:=hid (zmX o ho oi P (some ⟨g0,0,none⟩) fc va n vc fr k hk ga gc (pg :: fr k) wr (F0.out.keep hR.out.kp) NLw.out);rw[show(pg :: fr k).length=j+1 by rw[HL.out];rfl] at WI;have KR:=hid hR.out.kp;clear hN NLw;go_wp2_with fail;refine WI.out.mono ?_;rintro e w2 ⟨fa2,fc2,rfl,hk2,hf2⟩;obtain⟨hy2,hfin⟩:=F5P.fin K0.out S0.out Y0.out (nT KR.out hk2) hf2;obtain⟨b0,b1,b2,b3,fb⟩:=r5c hy2;have FIN:=hid hfin;clear hk2 hf2 hy2 hfin WI;go_wp2_with fail;exact⟨rfl,r5V oi P (.slice fa2 (o+1) fc2) (.slice va n vc),by simp[results,Tryz.results143,go_sem,b0,b1,b2,b3],_,_,rfl,(FIN.out _ _ _ _).1,(FIN.out _ _ _ _).2⟩
theorem zeA(l:List Nat)(p:Nat){j:Nat}(hj:j<l.length):M.dropL (l.take (j + 1)) p=if l.getD j 0=p then M.dropL (l.take j) p else M.dropL (l.take j) p ++ [l.getD j 0]:=by
 rw[zca l hj];generalize l.getD j 0=q;unfold M.dropL;rw[List.filter_append];by_cases e:q=p <;> simp[e]
theorem zhK(o:Nat)(ho:o≤8)(oi P:Int)(fa:Option Addr)(fc:Nat)(va:Option Addr)(n vc:Nat)(fr:Nat→List Nat)(k:Nat)(hk:k≤o)(hf:(fr k).length≤1024)(pg:Nat)(w:World)(h:FL w fa fc o fr):
  Calls Tryz.prog 103 #[r5V oi P (.slice fa (o+1) fc) (.slice va n vc),.int .i64 (k:Int),.int .i64 (pg:Int)] w fun e w'=>F5P w oi P o (frU fr k (M.dropL (fr k) pg)) (.slice va n vc) e w':=by
 have T2:=two5 w (r5O oi P (.slice fa (o+1) fc) (.slice va n vc)) r5Z;have K0:=hid T2.1;have S0:=hid (show((w.alloc (r5O oi P (.slice fa (o+1) fc) (.slice va n vc))).alloc r5Z).heap.size=w.heap.size+2 by simp);have X0:=hid T2.2.1;have Y0:=hid T2.2.2;have F0:=hid (h.keep T2.1);clear T2 h;go_enter Tryz.func103,Tryz.ntmps103;go_wp2_with fail;generalize (w.alloc (r5O oi P (.slice fa (o+1) fc) (.slice va n vc))).alloc r5Z=W0 at *;obtain⟨g0,A,C,hfa,_,_⟩:=F0.out.get k hk;subst hfa;have hki:(k:Int)<((o+1:Nat):Int):=by omega
 have hki2:(k:Int)<(o:Int)+1:=by omega
 obtain⟨L,hL⟩:=xe ((fr k).length);rw[←hL] at hf;have HL:=hid hL;clear hL;go_loopw [7,8] (fun f i W=>∃ j m:Nat,j≤L∧m≤j∧i=.int .i64 j∧(∃ ga gc,f=.slice ga m gc)∧Hid (m=(M.dropL ((fr k).take j) pg).length∧GS W0 W 3 1 f m (nums (M.dropL ((fr k).take j) pg)))) (fun _ i _=>L-(intOf i).toNat)
 case atStart=>exact⟨0,0,by omega,by omega,rfl,⟨_,_,rfl⟩,hid ⟨rfl,GS.nil _ _ _ _ (Kt.refl nO W0)⟩⟩
 case round=>
  obtain⟨j,m,hj,hm,rfl,⟨ga,gc,rfl⟩,hR⟩:=hrel;obtain⟨x0,x1,x2,x3,fx⟩:=r5c (box5 X0.out hR.out.2.kp);obtain⟨g1,A1,C1,hfa,r1,hN⟩:=(F0.out.keep hR.out.2.kp).get k hk;injection hfa with hfa
  injection hfa with hfa
  subst hfa;rw[←HL.out] at r1;by_cases hlt:j<L
  ·have hji:(j:Int)<(L:Int):=(by omega);have hjl:j<(fr k).length:=(by rw[←HL.out];exact hlt);obtain⟨g2,hA,r2⟩:=hN.get hjl;subst hA;have TN:=hid (zeA _ pg hjl);clear hjl hN;generalize (fr k).getD j 0=q at *;by_cases hq:q=pg
   ·subst hq;have D:=hid (show m=(M.dropL ((fr k).take (j+1)) q).length∧GS W0 wr 3 1 (.slice ga m gc) m (nums (M.dropL ((fr k).take (j+1)) q))from by
     rw[TN.out,if_pos rfl];exact hR.out)
    go_wp2_with fail;exact⟨⟨j+1,m,by omega,by omega,by simp,⟨_,_,rfl⟩,D⟩,by simp[intOf];omega⟩
   ·have hqi:¬(q:Int)=(pg:Int):=(by omega);obtain⟨g,cap,w',hap,hg2,hge,hkeep⟩:=zaK hR.out.2 (q:Int) (by omega);have D:=hid (show m+1=(M.dropL ((fr k).take (j+1)) pg).length∧GS W0 w' 3 1 (.slice (some ⟨g,0,none⟩) (m+1) cap) (m+1) (nums (M.dropL ((fr k).take (j+1)) pg))from by
     rw[TN.out,if_neg hq,zbw,List.length_append,←hR.out.1];exact⟨rfl,hg2⟩)
    have HAP:=hid hap;clear hap hg2 hge hkeep hq;go_wp2_with (at_builtin;refine Lib.wpList_append_run _ rfl _ _ _ _ rfl (.slice ga m gc) (.slice (some ⟨wr.heap.size,0,none⟩) 1 1) rfl rfl _ _ (HAP.out _) ?_)
    exact⟨⟨j+1,m+1,by omega,by omega,by simp,⟨_,_,rfl⟩,D⟩,by simp[intOf];omega⟩
  ·obtain rfl:j=L:=(by omega);have hji:¬(j:Int)<(j:Int):=(by omega);have hml:m=(M.dropL (fr k) pg).length:=by
    have:=hR.out.1;rw[HL.out,List.take_length] at this;exact this
   have NLw:=hid (show NL wr (.slice ga (M.dropL (fr k) pg).length gc) (M.dropL (fr k) pg)from by
    have:=hR.out.2.own;rw[HL.out,List.take_length,hml] at this;exact this)
   have WI:=hid (zmX o ho oi P (some ⟨g0,0,none⟩) fc va n vc fr k hk ga gc (M.dropL (fr k) pg) wr (F0.out.keep hR.out.2.kp) NLw.out);rw[←hml] at WI;have KR:=hid hR.out.2.kp;clear hN NLw hml;go_wp2_with fail;refine WI.out.mono ?_;rintro e w2 ⟨fa2,fc2,rfl,hk2,hf2⟩;obtain⟨hy2,hfin⟩:=F5P.fin K0.out S0.out Y0.out (nT KR.out hk2) hf2;obtain⟨b0,b1,b2,b3,fb⟩:=r5c hy2;have FIN:=hid hfin;clear hk2 hf2 hy2 hfin WI;go_wp2_with fail;exact⟨rfl,r5V oi P (.slice fa2 (o+1) fc2) (.slice va n vc),by simp[results,Tryz.results103,go_sem,b0,b1,b2,b3],_,_,rfl,(FIN.out _ _ _ _).1,(FIN.out _ _ _ _).2⟩
theorem Is5(o:Nat)(oi P:Int)(fa:Option Addr)(fc:Nat)(va:Option Addr)(n vc:Nat)(fr:Nat→List Nat)(k:Nat)(hk:k≤o)(hf:(fr k).length≤1024)(ho:o≤8)(pg:Nat)(w:World)(h:FL w fa fc o fr):
  Calls Tryz.prog 146 #[r5V oi P (.slice fa (o+1) fc) (.slice va n vc),.int .i64 (k:Int),.int .i64 (pg:Int)] w fun e w'=>e=.returned (.bool (decide (pg∈fr k)))∧Kt nO w w':=by
 have K0:=hid ((Kt.refl nO w).alloc (r5O oi P (.slice fa (o+1) fc) (.slice va n vc)));have X0:=hid (nH w (r5O oi P (.slice fa (o+1) fc) (.slice va n vc)));have F0:=hid (h.keep K0.out);clear h;go_enter Tryz.func146,Tryz.ntmps146;go_wp2_with fail;generalize w.alloc (r5O oi P (.slice fa (o+1) fc) (.slice va n vc))=W0 at *;obtain⟨g0,A,C,hfa,_,_⟩:=F0.out.get k hk;subst hfa;have hki:(k:Int)<((o+1:Nat):Int):=by omega
 have hki2:(k:Int)<(o:Int)+1:=by omega
 obtain⟨L,hL⟩:=xe ((fr k).length);rw[←hL] at hf;have HL:=hid hL;clear hL;go_loopw [7] (fun i W=>∃ j:Nat,j≤L∧i=.int .i64 j∧Hid (Kt nO W0 W∧∀ i,i<j→(fr k).getD i 0≠pg)) (fun i _=>L-(intOf i).toNat)
 case atStart=>exact⟨0,by omega,rfl,hid ⟨Kt.refl nO W0,fun i hi=>by omega⟩⟩
 case round=>
  obtain⟨j,hj,rfl,hR⟩:=hrel;obtain⟨x0,x1,x2,x3,fx⟩:=r5c (box5 X0.out hR.out.1);obtain⟨g1,A1,C1,hfa,r1,hN⟩:=(F0.out.keep hR.out.1).get k hk;injection hfa with hfa
  injection hfa with hfa
  subst hfa;rw[←HL.out] at r1;have KF:=hid (nT K0.out hR.out.1);by_cases hlt:j<L
  ·have hji:(j:Int)<(L:Int):=(by omega);have hjl:j<(fr k).length:=(by rw[←HL.out];exact hlt);obtain⟨g2,hA,r2⟩:=hN.get hjl;subst hA;have ME:=hid (M.getD_mem hjl);have NX:=hid (fun (hne:(fr k).getD j 0≠pg) i (hi:i<j+1)=>show(fr k).getD i 0≠pg from by
    by_cases e:i=j
    ·rw[e];exact hne
    ·exact hR.out.2 i (by omega))
   clear hjl hN;generalize (fr k).getD j 0=q at *;by_cases hq:q=pg
   ·subst hq;have DT:=hid (decide_eq_true ME.out);go_wp2_with fail;go_ret;exact⟨by rw[DT.out];rfl,KF.out⟩
   ·have hqi:¬(q:Int)=(pg:Int):=(by omega);have NX2:=hid (NX.out hq);clear NX hq;go_wp2_with fail;exact⟨⟨j+1,by omega,by simp,hid ⟨hR.out.1,NX2.out⟩⟩,by simp[intOf];omega⟩
  ·obtain rfl:j=L:=(by omega);have hji:¬(j:Int)<(j:Int):=(by omega);have DF:=hid (show decide (pg∈fr k)=false from decide_eq_false fun e=>by
    obtain⟨i,hi,he⟩:=M.mem_getD e;exact hR.out.2 i (by rw[HL.out];exact hi) he)
   clear hN;go_wp2_with fail;go_ret;exact⟨by rw[DF.out];rfl,KF.out⟩
theorem zff(oi P:Int)(fa:Option Addr)(fl fc:Nat)(va:Option Addr)(vc:Nat)(ls:List (Nat×Nat))(hn:ls.length≤1000)(pg od:Int)(w:World)(h:RN w (.slice va ls.length vc) ls):
  Calls Tryz.prog 105 #[r5V oi P (.slice fa fl fc) (.slice va ls.length vc),.int .i64 pg,.int .i64 od] w fun e w'=>e=.returned (.bool (zbh ls pg od))∧Kt nO w w':=by
 obtain⟨n,hn'⟩:=xe (ls.length);have K0:=hid ((Kt.refl nO w).alloc (r5O oi P (.slice fa fl fc) (.slice va n vc)));have X0:=hid (nH w (r5O oi P (.slice fa fl fc) (.slice va n vc)));have R0:=hid (h.keep K0.out);rw[←hn'] at hn ⊢;have HN:=hid hn';clear h hn';go_enter Tryz.func105,Tryz.ntmps105;go_wp2_with fail;generalize w.alloc (r5O oi P (.slice fa fl fc) (.slice va n vc))=W0 at *;go_loopw [7] (fun i W=>∃ j:Nat,j≤n∧i=.int .i64 j∧Hid (Kt nO W0 W∧∀ i,i<j→¬(((ls.getD i (0,0)).1:Int)=pg∧((ls.getD i (0,0)).2:Int)=od))) (fun i _=>n-(intOf i).toNat)
 case atStart=>exact⟨0,by omega,rfl,hid ⟨Kt.refl nO W0,fun i hi=>by omega⟩⟩
 case round=>
  obtain⟨j,hj,rfl,hR⟩:=hrel;obtain⟨x0,x1,x2,x3,fx⟩:=r5c (box5 X0.out hR.out.1);have KF:=hid (nT K0.out hR.out.1);by_cases hlt:j<n
  ·have hji:(j:Int)<(n:Int):=(by omega);have hjl:j<ls.length:=(by rw[←HN.out];exact hlt);obtain⟨g2,hA,r1,r2⟩:=(R0.out.keep hR.out.1).get hjl;subst hA;have ME:=hid (show ls.getD j (0,0)∈ls from by
    rw[List.getD_eq_getElem?_getD,List.getElem?_eq_getElem hjl];exact List.getElem_mem hjl)
   have NX:=hid (fun (hne:¬(((ls.getD j (0,0)).1:Int)=pg∧((ls.getD j (0,0)).2:Int)=od)) i (hi:i<j+1)=>show ¬(((ls.getD i (0,0)).1:Int)=pg∧((ls.getD i (0,0)).2:Int)=od)from by
    by_cases e:i=j
    ·rw[e];exact hne
    ·exact hR.out.2 i (by omega))
   clear hjl;generalize ls.getD j (0,0)=q at *;obtain⟨a,b⟩:=q;by_cases h1:(a:Int)=pg
   ·by_cases h2:(b:Int)=od
    ·have DT:=hid (show zbh ls pg od=true from List.any_eq_true.2 ⟨(a,b),ME.out,by rw[decide_eq_true h1,decide_eq_true h2];rfl⟩);subst h1 h2;clear NX ME;go_wp2_with fail;go_ret;exact⟨by rw[DT.out];rfl,KF.out⟩
    ·have NX2:=hid (NX.out fun e=>h2 e.2);have h2b:((b:Int) == od)=false:=beq_eq_false_iff_ne.2 h2;subst h1;clear NX ME;go_wp2_with fail;exact⟨⟨j+1,by omega,by simp,hid ⟨hR.out.1,NX2.out⟩⟩,by simp[intOf];omega⟩
   ·have NX2:=hid (NX.out fun e=>h1 e.1);have h1b:((a:Int) == pg)=false:=beq_eq_false_iff_ne.2 h1;clear NX ME;go_wp2_with fail;exact⟨⟨j+1,by omega,by simp,hid ⟨hR.out.1,NX2.out⟩⟩,by simp[intOf];omega⟩
  ·obtain rfl:j=n:=(by omega);have hji:¬(j:Int)<(j:Int):=(by omega);have DF:=hid (show zbh ls pg od=false from by
    cases e:zbh ls pg od with
    | false=>rfl
    | true=>
     obtain⟨r,h1,h2⟩:=List.any_eq_true.1 e;rw[Bool.and_eq_true,decide_eq_true_iff,decide_eq_true_iff] at h2;obtain⟨i,hi,he⟩:=List.mem_iff_getElem.1 h1;refine absurd h2 (fun h3=>hR.out.2 i (by rw[HN.out];exact hi) ?_);rw[List.getD_eq_getElem?_getD,List.getElem?_eq_getElem hi,Option.getD_some,he];exact h3)
   go_wp2_with fail;go_ret;exact⟨by rw[DF.out];rfl,KF.out⟩
theorem zdu{w0 W:World}{v:Value}{n:Nat}{xs:List Value}(h:GS w0 W 189 2 v n xs)(a b:Int)(hn:n≤2000):
  ∃ g cap w',(∀ ty,(Builtin.append_ #[33,33] ty #[v,.slice (some ⟨W.heap.size,0,none⟩) 1 1]).run Tryz.prog (W.alloc (.cells #[.int .i64 a,.int .i64 b] 189))=.ok (.slice (some ⟨g,0,none⟩) (n + 1) cap) w')∧GS w0 w' 189 2 (.slice (some ⟨g,0,none⟩) (n + 1) cap) (n + 1) (xs ++ [.int .i64 a,.int .i64 b])∧w0.heap.size≤g∧(∀ x,v.ownBlock≠some x→∀ o,W.heap[x]?=some o→w'.heap[x]?=some o):=by
 obtain⟨i,hi,hzz⟩:=Option.map_eq_some_iff.1 zkv;simp only[Prod.mk.injEq] at hzz;have ka:=(Kt.refl nO W).alloc (.cells #[.int .i64 a,.int .i64 b] 189);obtain⟨g,cap,w',h1,h2,h5,h4⟩:=(h.keep ka).push 33 i (.agg #[.int .i64 0,.int .i64 0]) 16 Tryz.underlying33 hi hzz.1 hzz.2.1 hzz.2.2 rfl (by decide) ⟨W.heap.size,0,none⟩ 1 [.int .i64 a,.int .i64 b] rfl (fun j u hj=>zaD (cs:=#[.int .i64 a,.int .i64 b]) j u hj) (by simp[Value.oneCell']) (by simp only[maxLen];omega) (by omega);exact⟨g,cap,w',h1,h2,h5,fun x hx o ho=>h4 x hx o ((ka.block x (lH ho) (fun x=>x)).trans ho)⟩
def zbK(R:Nat→Int×Int):Nat→List Value
 | 0=>[]
 | n + 1=>zbK R n ++ [.int .i64 (R n).1,.int .i64 (R n).2]
theorem ze3(R:Nat→Int×Int):∀ n,(zbK R n).length=n*2
 | 0=>rfl
 | n+1=>by rw[zbK,List.length_append,ze3 R n];simp;omega
theorem ze4(R:Nat→Int×Int):∀ n i,i<n→(zbK R n)[2*i]?=some (.int .i64 (R i).1)∧(zbK R n)[2*i+1]?=some (.int .i64 (R i).2)
 | 0,i,h=>by omega
 | n+1,i,h=>by
  have hl:=ze3 R n;rw[zbK];by_cases e:i=n
  ·subst e;rw[List.getElem?_append_right (by omega),List.getElem?_append_right (by omega),hl];rw[show 2*i-i*2=0 by omega,show 2*i+1-i*2=1 by omega];exact⟨rfl,rfl⟩
  ·rw[List.getElem?_append_left (by omega),List.getElem?_append_left (by omega)];exact ze4 R n i (by omega)
def Rns(W:World)(v:Value)(n:Nat)(R:Nat→Int×Int):Prop:=W.ownsRow 0 189 2 v n (zbK R n)
theorem Rns.kept{W W' v n R}{S:Nat→Prop}(h:Rns W v n R)(k:Kt S W W')(hS:∀ x,v.ownBlock=some x→¬S x):Rns W' v n R:=by
 refine⟨h.1,?_⟩;rcases h.2 with h0|⟨g,cap,cur,h0,hb,hg,h3⟩
 ·exact .inl h0
 ·refine .inr ⟨g,cap,cur,h0,hb,(k.block _ (lH hg) (hS g (by rw[h0];rfl))).trans hg,h3⟩
theorem Rns.get{W va n vc R}(h:Rns W (.slice va n vc) n R)(i:Nat)(hi:i<n):∃ g,va=some ⟨g,0,none⟩∧W.cell? ⟨g,i*2,none⟩=some (.int .i64 (R i).1)∧W.cell? ⟨g,i*2+1,none⟩=some (.int .i64 (R i).2):=by
 obtain⟨e1,e2⟩:=ze4 R n i hi;rcases h.2 with ⟨_,h1⟩|⟨g,cap,cur,h0,_⟩
 ·omega
 ·injection h0 with h0
  refine⟨g,h0,?_,?_⟩
  ·have:=World.ownsRow.cells h (g:=g) (by rw[h0];rfl) _ _ e1;rw[add0,Nat.mul_comm] at this;exact this
  ·have:=World.ownsRow.cells h (g:=g) (by rw[h0];rfl) _ _ e2;rw[add0,Nat.mul_comm] at this;exact this
structure Lvr(w0 W:World)(x:Nat)(o p:Int)(fv lv:Value)(n k:Nat)(R:Nat→Int×Int)(v:Value):Prop where
 gs:GS w0 W 189 2 v k (zbK R k)
 x0:W.heap[x]?=some (r5O o p fv lv)
 y0:W.heap[x+1]?=some r5Z
 rn:Rns W lv n R
 nw:∀ g,v.ownBlock=some g→w0.heap.size≤g
def zl6(w:World)(o p:Int)(fv:Value)(n:Nat)(R:Nat→Int×Int)(e:Ending)(w':World):Prop:=∃ g cap,e=.returned (r5V o p fv (.slice (some ⟨g,0,none⟩) (n+1) cap))∧Kt nO w w'∧Rns w' (.slice (some ⟨g,0,none⟩) (n+1) cap) (n+1) R∧w.heap.size≤g
theorem Lvr.step{w0 W x o p fv lv n k R v g cap w'}(h:Lvr w0 W x o p fv lv n k R v)(hx:x+2≤w0.heap.size)(hlv:∀ y,lv.ownBlock=some y→y<w0.heap.size)(h2:GS w0 w' 189 2 (.slice (some ⟨g,0,none⟩) (k+1) cap) (k+1) (zbK R (k+1)))(hg:w0.heap.size≤g)(hkeep:∀ y,v.ownBlock≠some y→∀ o,W.heap[y]?=some o→w'.heap[y]?=some o):
  Lvr w0 w' x o p fv lv n (k+1) R (.slice (some ⟨g,0,none⟩) (k+1) cap):=by
 refine⟨h2,hkeep x (fun e=>by have:=h.nw _ e;omega) _ h.x0,hkeep (x+1) (fun e=>by have:=h.nw _ e;omega) _ h.y0,?_,fun y e=>?_⟩
 ·refine⟨h.rn.1,?_⟩;rcases h.rn.2 with h0|⟨g,cap,cur,h0,hb,hg,h3⟩
  ·exact .inl h0
  ·exact .inr ⟨g,cap,cur,h0,hb,hkeep g (fun e=>by have:=h.nw _ e;have:=hlv g (by rw[h0];rfl);omega) _ hg,h3⟩
 ·simp[Value.ownBlock] at e;omega
theorem zhj(o p:Int)(fa:Option Addr)(fl fc:Nat)(va:Option Addr)(n vc:Nat)(R:Nat→Int×Int)(hn:n≤1000)(pg k:Int)(hpk:R n=(pg,k))(w:World)(h:Rns w (.slice va n vc) n R):
  Calls Tryz.prog 107 #[r5V o p (.slice fa fl fc) (.slice va n vc),.int .i64 pg,.int .i64 k] w fun e w'=>zl6 w o p (.slice fa fl fc) n R e w':=by
 have T2:=two5 w (r5O o p (.slice fa fl fc) (.slice va n vc)) r5Z;have K0:=hid T2.1;have hlv:∀ y,(Value.slice va n vc).ownBlock=some y→y<w.heap.size:=fun y e=>(World.ownsRow.lt h y e).2
 have S0:((w.alloc (r5O o p (.slice fa fl fc) (.slice va n vc))).alloc r5Z).heap.size=w.heap.size+2:=by simp
 have L0:=hid (show Lvr ((w.alloc (r5O o p (.slice fa fl fc) (.slice va n vc))).alloc r5Z) ((w.alloc (r5O o p (.slice fa fl fc) (.slice va n vc))).alloc r5Z) w.heap.size o p (.slice fa fl fc) (.slice va n vc) n 0 R (.slice none 0 0)from⟨GS.nil _ _ _ _ (Kt.refl nO _),T2.2.1,T2.2.2,h.kept T2.1 (fun _ _ e=>e),fun g e=>by simp[Value.ownBlock] at e⟩);clear T2 h;go_enter Tryz.func107,Tryz.ntmps107;go_wp2_with fail;generalize (w.alloc (r5O o p (.slice fa fl fc) (.slice va n vc))).alloc r5Z=W0 at *;have HLV:=hid hlv;have HS0:=hid S0;clear hlv S0;go_loopw [7,8] (fun l i W=>∃ j:Nat,j≤n∧i=.int .i64 j∧(∃ la lc,l=.slice la j lc)∧Hid (Lvr W0 W w.heap.size o p (.slice fa fl fc) (.slice va n vc) n j R l)) (fun _ i _=>n-(intOf i).toNat)
 case atStart=>exact⟨0,by omega,rfl,⟨none,0,rfl⟩,L0⟩
 case round=>
  clear L0;obtain⟨j,hj,rfl,⟨la,lc,rfl⟩,hR⟩:=hrel;obtain⟨x0,x1,x2,x3,fx⟩:=r5c hR.out.x0;by_cases hlt:j<n
  ·have hji:(j:Int)<(n:Int):=(by omega);obtain⟨g0,hva,r0,r1⟩:=hR.out.rn.get j hlt;subst hva;obtain⟨g,cap,w',hap,hg2,hge,hkeep⟩:=zdu hR.out.gs (R j).1 (R j).2 (by omega);have D:=hid (hR.out.step (by have:=HS0.out;omega) (fun y e=>by have:=HLV.out y e;have:=HS0.out;omega) hg2 hge hkeep);have HAP:=hid hap;clear hap hg2 hge hkeep;go_wp2_with (at_builtin;refine Lib.wpList_append_run _ rfl _ _ _ _ rfl (.slice la j lc) (.slice (some ⟨wr.heap.size,0,none⟩) 1 1) rfl rfl _ _ (HAP.out _) ?_)
   exact⟨⟨j+1,by omega,by simp,⟨_,_,rfl⟩,D⟩,by simp[intOf];omega⟩
  ·have hji:¬(j:Int)<(n:Int):=(by omega);have hjn:j=n:=(by omega);subst hjn;obtain⟨g,cap,w',hap,hg2,hge,hkeep⟩:=zdu hR.out.gs pg k (by omega);have hg3:GS W0 w' 189 2 (.slice (some ⟨g,0,none⟩) (j+1) cap) (j+1) (zbK R (j+1)):=by
    rw[zbK,hpk];exact hg2
   have D:=hR.out.step (by have:=HS0.out;omega) (fun y e=>by have:=HLV.out y e;have:=HS0.out;omega) hg3 hge hkeep;have hx':=D.x0;have hy':=D.y0;obtain⟨z0,z1,z2,z3,fz⟩:=r5c hx';have HAP:=hid hap;have hsz:=HS0.out;have ks:Kt (fun y=>y=w.heap.size) w' (w'.setCell ⟨w.heap.size,3,none⟩ (.slice (some ⟨g,0,none⟩) (j+1) cap)):=(Kt.refl (fun y=>y=w.heap.size) w').setCell (p:=⟨w.heap.size,3,none⟩) rfl _;have X2:=hid (show(w'.setCell ⟨w.heap.size,3,none⟩ (.slice (some ⟨g,0,none⟩) (j+1) cap)).heap[w.heap.size]?=some (r5O o p (.slice fa fl fc) (.slice (some ⟨g,0,none⟩) (j+1) cap))from zaa hx' 3 _);have Y2:=hid ((ks.block _ (lH hy') (by omega)).trans hy');have K2:=hid ((nT K0.out D.gs.kp).setNew (p:=⟨w.heap.size,3,none⟩) (fun e=>absurd e (Nat.lt_irrefl _)) (.slice (some ⟨g,0,none⟩) (j+1) cap));have R1:Rns w' (.slice (some ⟨g,0,none⟩) (j+1) cap) (j+1) R:=D.gs.own;have R2:=R1.kept ks (fun y e=>by simp[Value.ownBlock] at e;omega);have R3:=hid (show ∀ u0 u1 u2 u3,Rns (((((w'.setCell ⟨w.heap.size,3,none⟩ (.slice (some ⟨g,0,none⟩) (j+1) cap)).setCell ⟨w.heap.size+1,0,none⟩ u0).setCell ⟨w.heap.size+1,1,none⟩ u1).setCell ⟨w.heap.size+1,2,none⟩ u2).setCell ⟨w.heap.size+1,3,none⟩ u3) (.slice (some ⟨g,0,none⟩) (j+1) cap) (j+1) R from fun u0 u1 u2 u3=>by
    refine R2.kept (((((Kt.refl (fun y=>y=w.heap.size+1) _).setCell (p:=⟨w.heap.size+1,0,none⟩) rfl u0).setCell (p:=⟨w.heap.size+1,1,none⟩) rfl u1).setCell (p:=⟨w.heap.size+1,2,none⟩) rfl u2).setCell (p:=⟨w.heap.size+1,3,none⟩) rfl u3) (fun y e=>?_);simp[Value.ownBlock] at e;omega)
   have HGE:=hid (show w.heap.size≤g by omega);obtain⟨a0,a1,a2,a3,fa4⟩:=r5c X2.out;obtain⟨b0,b1,b2,b3,fb⟩:=r5c Y2.out;have HF:=hid (fun u0 u1 u2 u3=>zcr K2.out (w.heap.size+1) (by omega) u0 u1 u2 u3);clear hap hg2 hg3 hge hkeep hx' hy' ks D R1 R2 hsz;go_wp2_with (at_builtin;refine Lib.wpList_append_run _ rfl _ _ _ _ rfl (.slice la j lc) (.slice (some ⟨wr.heap.size,0,none⟩) 1 1) rfl rfl _ _ (HAP.out _) ?_)
   exact⟨rfl,r5V o p (.slice fa fl fc) (.slice (some ⟨g,0,none⟩) (j+1) cap),by simp[results,Tryz.results107,go_sem,b0,b1,b2,b3],_,_,rfl,HF.out _ _ _ _,R3.out _ _ _ _,HGE.out⟩
theorem zdv{R R':Nat→Int×Int} : ∀ n,(∀ i,i<n→R i=R' i)→zbK R n=zbK R' n
 | 0,_=>rfl
 | n+1,h=>by rw[zbK,zbK,zdv n (fun i hi=>h i (by omega)),h n (by omega)]
theorem zdT(l:List (Nat×Nat)){j:Nat}(hj:j<l.length):l.take (j + 1)=l.take j ++ [l.getD j (0,0)]:=by
 rw[List.take_add_one,List.getElem?_eq_getElem hj,List.getD_eq_getElem?_getD,List.getElem?_eq_getElem hj];rfl
theorem zdw(ls:List (Nat×Nat)):∀ n,n≤ls.length→zbK (fun i=>(((ls.getD i (0,0)).1:Int),((ls.getD i (0,0)).2:Int))) n=runs (ls.take n)
 | 0,_=>by rw[List.take_zero];rfl
 | n+1,h=>by
  rw[zbK,zdw ls n (by omega),zdT ls (by omega),zeo];rfl
def L5P(w:World)(o P:Int)(fv:Value)(ls:List (Nat×Nat))(e:Ending)(w':World):Prop:=∃ va vc,e=.returned (r5V o P fv (.slice va ls.length vc))∧Kt nO w w'∧RN w' (.slice va ls.length vc) ls
theorem zi3(o p:Int)(fa:Option Addr)(fl fc:Nat)(va:Option Addr)(vc:Nat)(ls:List (Nat×Nat))(hn:ls.length≤1000)(pg k:Nat)(w:World)(h:RN w (.slice va ls.length vc) ls):
  Calls Tryz.prog 107 #[r5V o p (.slice fa fl fc) (.slice va ls.length vc),.int .i64 (pg:Int),.int .i64 (k:Int)] w fun e w'=>L5P w o p (.slice fa fl fc) (ls ++ [(pg,k)]) e w':=by
 have hR:∀ i,i<ls.length→(fun i=>((((ls ++ [(pg,k)]).getD i (0,0)).1:Int),(((ls ++ [(pg,k)]).getD i (0,0)).2:Int))) i=(fun i=>(((ls.getD i (0,0)).1:Int),((ls.getD i (0,0)).2:Int))) i:=fun i hi=>by
  simp only[List.getD_eq_getElem?_getD,List.getElem?_append_left hi]
 refine(zhj o p fa fl fc va ls.length vc (fun i=>((((ls ++ [(pg,k)]).getD i (0,0)).1:Int),(((ls ++ [(pg,k)]).getD i (0,0)).2:Int))) hn pg k ?_ w ?_).mono ?_
 ·simp[List.getD_eq_getElem?_getD]
 ·unfold Rns;rw[zdv _ hR,zdw ls ls.length (Nat.le_refl _),List.take_length];exact h
 ·rintro e w' ⟨g,cap,rfl,h1,h2,h3⟩;have e1:(ls ++ [(pg,k)]).length=ls.length + 1:=by simp
  refine⟨_,cap,by rw[e1],h1,?_⟩;unfold Rns at h2;rw[←e1,zdw _ _ (Nat.le_refl _),List.take_length] at h2;exact h2
theorem zhk(l:List (Nat×Nat))(p:Nat){j:Nat}(hj:j<l.length):zam (l.take (j + 1)) p=if (l.getD j (0,0)).1=p then zam (l.take j) p else zam (l.take j) p ++ [l.getD j (0,0)]:=by
 rw[zdT l hj];generalize l.getD j (0,0)=q;unfold zam;rw[List.filter_append];by_cases e:q.1=p <;> simp[e]
abbrev set4(W:World)(b:Nat)(u0 u1 u2 u3:Value):World:=(((W.setCell ⟨b,0,none⟩ u0).setCell ⟨b,1,none⟩ u1).setCell ⟨b,2,none⟩ u2).setCell ⟨b,3,none⟩ u3
theorem zcH(W:World)(b:Nat)(u0 u1 u2 u3:Value):Kt (fun y=>y=b) W (set4 W b u0 u1 u2 u3):=((((Kt.refl (fun y=>y=b) W).setCell (p:=⟨b,0,none⟩) rfl u0).setCell (p:=⟨b,1,none⟩) rfl u1).setCell (p:=⟨b,2,none⟩) rfl u2).setCell (p:=⟨b,3,none⟩) rfl u3
theorem zgE{W:World}{b:Nat}{o p:Int}{fv lv:Value}(h:W.heap[b]?=some (r5O o p fv lv))(o' p':Int)(fv' lv':Value):(set4 W b (.int .i64 o') (.int .i64 p') fv' lv').heap[b]?=some (r5O o' p' fv' lv'):=by
 have h1:=zaa h 0 (.int .i64 o');have h2:=zaa h1 1 (.int .i64 p');have h3:=zaa h2 2 fv';have h4:=zaa h3 3 lv';exact h4
theorem FL.set4{W fa fc o fr b cs z}(f:FL W fa fc o fr)(hb:W.heap[b]?=some (.cells cs 35 z))(u0 u1 u2 u3:Value):FL (set4 W b u0 u1 u2 u3) fa fc o fr:=
 f.kept (zcH W b u0 u1 u2 u3) (fun y cs h e=>zag h hb (by decide) e) (fun y cs h e=>zag h hb (by decide) e)
theorem RN.set4{W v ls b cs z}(f:RN W v ls)(hb:W.heap[b]?=some (.cells cs 35 z))(u0 u1 u2 u3:Value):RN (Go.Proofs.YtgjdmkfpmokkaaaGreatDoor.set4 W b u0 u1 u2 u3) v ls:=
 zaf f (zcH W b u0 u1 u2 u3) (fun y e he=>by
  obtain⟨cs,hc⟩:=zaT f e;exact zag hc hb (by decide) he)
theorem zmV(oi P:Int)(fa:Option Addr)(fl fc:Nat)(va:Option Addr)(vc:Nat)(ls:List (Nat×Nat))(hn:ls.length≤1000)(pg:Nat)(w:World)(h:RN w (.slice va ls.length vc) ls):
  Calls Tryz.prog 145 #[r5V oi P (.slice fa fl fc) (.slice va ls.length vc),.int .i64 (pg:Int)] w fun e w'=>L5P w oi P (.slice fa fl fc) (zam ls pg) e w':=by
 obtain⟨n,hn'⟩:=xe (ls.length);have T2:=two5 w (r5O oi P (.slice fa fl fc) (.slice va n vc)) r5Z;have K0:=hid T2.1;have S0:=hid (show((w.alloc (r5O oi P (.slice fa fl fc) (.slice va n vc))).alloc r5Z).heap.size=w.heap.size+2 by simp);have X0:=hid T2.2.1;have Y0:=hid T2.2.2;have R0:=hid (h.keep T2.1);rw[←hn'] at hn ⊢;have HN:=hid hn';clear T2 h hn';go_enter Tryz.func145,Tryz.ntmps145;go_wp2_with fail;generalize (w.alloc (r5O oi P (.slice fa fl fc) (.slice va n vc))).alloc r5Z=W0 at *;go_loopw [5,6] (fun f i W=>∃ j m:Nat,j≤n∧m≤j∧i=.int .i64 j∧(∃ ga gc,f=.slice ga m gc)∧Hid (m=(zam (ls.take j) pg).length∧GS W0 W 189 2 f m (runs (zam (ls.take j) pg))∧∀ g,f.ownBlock=some g→W0.heap.size≤g)) (fun _ i _=>n-(intOf i).toNat)
 case atStart=>exact⟨0,0,by omega,by omega,rfl,⟨_,_,rfl⟩,hid ⟨rfl,GS.nil _ _ _ _ (Kt.refl nO W0),fun g e=>by simp[Value.ownBlock] at e⟩⟩
 case round=>
  obtain⟨j,m,hj,hm,rfl,⟨ga,gc,rfl⟩,hR⟩:=hrel;obtain⟨x0,x1,x2,x3,fx⟩:=r5c (box5 X0.out hR.out.2.1.kp);by_cases hlt:j<n
  ·have hji:(j:Int)<(n:Int):=(by omega);have hjl:j<ls.length:=(by rw[←HN.out];exact hlt);obtain⟨g2,hA,r1,r2⟩:=(R0.out.keep hR.out.2.1.kp).get hjl;subst hA;have TN:=hid (zhk _ pg hjl);clear hjl;generalize ls.getD j (0,0)=q at *;obtain⟨a,b⟩:=q;by_cases hq:a=pg
   ·subst hq;have D:=hid (show m=(zam (ls.take (j+1)) a).length∧GS W0 wr 189 2 (.slice ga m gc) m (runs (zam (ls.take (j+1)) a))∧∀ g,(Value.slice ga m gc).ownBlock=some g→W0.heap.size≤g from by
     rw[TN.out,if_pos rfl];exact hR.out)
    go_wp2_with fail;exact⟨⟨j+1,m,by omega,by omega,by simp,⟨_,_,rfl⟩,D⟩,by simp[intOf];omega⟩
   ·have hqi:¬(a:Int)=(pg:Int):=(by omega);obtain⟨g,cap,w',hap,hg2,hge,hkeep⟩:=zdu hR.out.2.1 (a:Int) (b:Int) (by omega);have D:=hid (show m+1=(zam (ls.take (j+1)) pg).length∧GS W0 w' 189 2 (.slice (some ⟨g,0,none⟩) (m+1) cap) (m+1) (runs (zam (ls.take (j+1)) pg))∧∀ g',(Value.slice (some ⟨g,0,none⟩) (m+1) cap).ownBlock=some g'→W0.heap.size≤g' from by
     rw[TN.out,if_neg hq,zeo,List.length_append,←hR.out.1];exact⟨rfl,hg2,fun g' e=>by simp[Value.ownBlock] at e;omega⟩)
    have HAP:=hid hap;clear hap hg2 hge hkeep hq;go_wp2_with (at_builtin;refine Lib.wpList_append_run _ rfl _ _ _ _ rfl (.slice ga m gc) (.slice (some ⟨wr.heap.size,0,none⟩) 1 1) rfl rfl _ _ (HAP.out _) ?_)
    exact⟨⟨j+1,m+1,by omega,by omega,by simp,⟨_,_,rfl⟩,D⟩,by simp[intOf];omega⟩
  ·obtain rfl:j=n:=(by omega);have hji:¬(j:Int)<(j:Int):=(by omega);have hml:m=(zam ls pg).length:=by
    have:=hR.out.1;rw[HN.out,List.take_length] at this;exact this
   have RNw:RN wr (.slice ga m gc) (zam ls pg):=by
    have:=hR.out.2.1.own;rw[HN.out,List.take_length] at this;unfold RN;rw[←hml];exact this
   have hx':=box5 X0.out hR.out.2.1.kp;have hy':wr.heap[w.heap.size+1]?=some r5Z:=(hR.out.2.1.kp.block _ (lH Y0.out) (fun e=>e)).trans Y0.out;have ks:Kt (fun y=>y=w.heap.size) wr (wr.setCell ⟨w.heap.size,3,none⟩ (.slice ga m gc)):=(Kt.refl (fun y=>y=w.heap.size) wr).setCell (p:=⟨w.heap.size,3,none⟩) rfl _;have X2:=hid (show(wr.setCell ⟨w.heap.size,3,none⟩ (.slice ga m gc)).heap[w.heap.size]?=some (r5O oi P (.slice fa fl fc) (.slice ga m gc))from zaa hx' 3 _);have Y2:=hid ((ks.block _ (lH hy') (by omega)).trans hy');have K2:=(nT K0.out hR.out.2.1.kp).setNew (p:=⟨w.heap.size,3,none⟩) (fun e=>absurd e (Nat.lt_irrefl _)) (.slice ga m gc);have R2:=zaf RNw ks (fun y e he=>by
    obtain⟨cs,hc⟩:=zaT RNw e;exact zag hc hx' (by decide) he)
   have HML:=hid hml;have FIN:=hid (fun u0 u1 u2 u3=>And.intro (zcr K2 (w.heap.size+1) (by omega) u0 u1 u2 u3) (RN.set4 R2 Y2.out u0 u1 u2 u3));obtain⟨a0,a1,a2,a3,fa4⟩:=r5c X2.out;obtain⟨b0,b1,b2,b3,fb⟩:=r5c Y2.out;clear hx' hy' ks RNw R2 K2 hml;go_wp2_with fail;exact⟨rfl,r5V oi P (.slice fa fl fc) (.slice ga m gc),by simp[results,Tryz.results145,go_sem,b0,b1,b2,b3],ga,gc,by rw[HML.out],(FIN.out _ _ _ _).1,by rw[←HML.out];exact(FIN.out _ _ _ _).2⟩
end Go.Proofs.YtgjdmkfpmokkaaaGreatDoor
