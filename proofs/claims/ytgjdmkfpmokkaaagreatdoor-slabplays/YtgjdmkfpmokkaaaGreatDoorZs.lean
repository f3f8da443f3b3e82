import Derived.Test.YtgjdmkfpmokkaaaGreatDoorZr
set_option maxRecDepth 1000000
set_option maxHeartbeats 80000000
namespace Go.Proofs.YtgjdmkfpmokkaaaGreatDoor
open Go.RowKit
set_option linter.unusedVariables false
theorem zlu{W:World}{b:Nat}{e:TypeId}{size:Nat}{va:Option Addr}{n m vc:Nat}{xs:List Value}(h:W.ownsRow b e size (.slice va m vc) n xs):m≤vc:=by
 rcases h.2 with ⟨h0,h1⟩|⟨g,cap,cur,h0,h1⟩
 ·injection h0 with _ h2 h3
  omega
 ·injection h0 with _ h2 h3
  have:=h1.2.2.1;omega
def NS(W:World)(v:Value)(l:List Nat):Prop:=∃ a c,v=.slice a l.length c∧l.length≤c∧(l=[]∨∃ g o,a=some ⟨g,o,none⟩∧(∃ cs z,W.heap[g]?=some (.cells cs 3 z))∧∀ i,i<l.length→W.cell? ⟨g,o+i,none⟩=some (.int .i64 ((l.getD i 0:Nat):Int)))
theorem NS.kept{W W' v l}{S:Nat→Prop}(h:NS W v l)(k:Kt S W W')(hS:∀ y cs z,W.heap[y]?=some (.cells cs 3 z)→¬S y):NS W' v l:=by
 obtain⟨a,c,h1,hcp,h2⟩:=h;refine⟨a,c,h1,hcp,h2.imp id ?_⟩;rintro ⟨g,o,h3,⟨cs,z,h4⟩,h5⟩;have hn:=hS g cs z h4;exact⟨g,o,h3,⟨cs,z,(k.block _ (lH h4) hn).trans h4⟩,fun i hi=>k.cell hn (h5 i hi)⟩
theorem NS.keep{W W' v l}(h:NS W v l)(k:Kt nO W W'):NS W' v l:=h.kept k (fun _ _ _ _ e=>e)
theorem NS.of{W v l}(h:NL W v l):NS W v l:=by
 obtain⟨va,vc,rfl⟩:=zhz h;refine⟨va,vc,rfl,zlu h,?_⟩
 cases l with
 | nil=>exact .inl rfl
 | cons a l=>
  obtain⟨g,hg,_⟩:=NL.get h (i:=0) (by simp);subst hg;obtain⟨cs,hc⟩:=zaT h (y:=g) rfl;refine .inr ⟨g,0,rfl,⟨cs,_,hc⟩,fun i hi=>?_⟩;obtain⟨g',hg',hi'⟩:=NL.get h hi;injection hg' with hg'
  injection hg' with hg'
  subst hg';rw[Nat.zero_add];exact hi'
theorem NS.tail{W a n c x l}(h:NS W (.slice a n c) (x :: l)):∃ a',NS W (.slice a' l.length (c-1)) l∧∀ g o,a=some ⟨g,o,none⟩→(l=[]∨a'=some ⟨g,o+1,none⟩):=by
 obtain⟨a2,c2,h1,hcp,h2⟩:=h;injection h1 with e1 e2 e3
 subst e1 e3;rw[List.length_cons] at hcp;rcases h2 with h2|⟨g,o,h3,h4,h5⟩
 ·cases h2
 ·refine⟨some ⟨g,o+1,none⟩,⟨_,_,rfl,by omega,.inr ⟨g,o+1,rfl,h4,fun i hi=>?_⟩⟩,fun g' o' e=>.inr ?_⟩
  ·have:=h5 (i+1) (by simp;omega);rw[show o+1+i=o+(i+1)by omega];exact this
  ·rw[h3] at e;injection e with e
   injection e with e1 e2
   rw[e1,e2]
structure Cl where
 pg:Nat
 cl:Nat
 fl:List Nat
def zbX(R:Nat→Cl)(V:Nat→Value):Nat→List Value
 | 0=>[]
 | n + 1=>zbX R V n ++ [.int .i64 ((R n).pg:Int),.int .i64 ((R n).cl:Int),V n]
theorem zeM(R:Nat→Cl)(V:Nat→Value):∀ n,(zbX R V n).length=n*3
 | 0=>rfl
 | n+1=>by rw[zbX,List.length_append,zeM R V n];simp;omega
theorem zeN(R:Nat→Cl)(V:Nat→Value):∀ n i,i<n→(zbX R V n)[i*3]?=some (.int .i64 ((R i).pg:Int))∧(zbX R V n)[i*3+1]?=some (.int .i64 ((R i).cl:Int))∧(zbX R V n)[i*3+2]?=some (V i)
 | 0,i,h=>by omega
 | n+1,i,h=>by
  have hl:=zeM R V n;rw[zbX];by_cases e:i=n
  ·subst e;rw[List.getElem?_append_right (by omega),List.getElem?_append_right (by omega),List.getElem?_append_right (by omega),hl];rw[show i*3-i*3=0 by omega,show i*3+1-i*3=1 by omega,show i*3+2-i*3=2 by omega];exact⟨rfl,rfl,rfl⟩
  ·rw[List.getElem?_append_left (by omega),List.getElem?_append_left (by omega),List.getElem?_append_left (by omega)];exact zeN R V n i (by omega)
def CR(W:World)(v:Value)(n:Nat)(R:Nat→Cl):Prop:=∃ V,W.ownsRow 0 121 3 v n (zbX R V n)∧∀ i,i<n→NS W (V i) (R i).fl
theorem CR.keep{W W' v n R}(h:CR W v n R)(k:Kt nO W W'):CR W' v n R:=by
 obtain⟨V,h1,h2⟩:=h;exact⟨V,zaf h1 k (fun _ _ e=>e),fun i hi=>(h2 i hi).keep k⟩
theorem CR.get{W va n vc R}(h:CR W (.slice va n vc) n R)(i:Nat)(hi:i<n):∃ g a c,va=some ⟨g,0,none⟩∧W.cell? ⟨g,i*3,none⟩=some (.int .i64 ((R i).pg:Int))∧W.cell? ⟨g,i*3+1,none⟩=some (.int .i64 ((R i).cl:Int))∧W.cell? ⟨g,i*3+2,none⟩=some (.slice a (R i).fl.length c)∧NS W (.slice a (R i).fl.length c) (R i).fl:=by
 obtain⟨V,h1,h2⟩:=h;obtain⟨e1,e2,e3⟩:=zeN R V n i hi;obtain⟨g,hg,c1⟩:=zaF h1 e1;obtain⟨g',hg',c2⟩:=zaF h1 e2;obtain⟨g3,hg3,c3⟩:=zaF h1 e3;rw[hg] at hg' hg3;injection hg' with e1
 injection hg3 with e2
 injection e1 with e1
 injection e2 with e2
 subst e1 e2;have hv:=h2 i hi;obtain⟨a,c,hv1,_⟩:=h2 i hi;rw[hv1] at c3 hv;exact⟨g,a,c,hg,c1,c2,c3,hv⟩
theorem zeO(k:Nat)(hk:k<8)(w:World):Calls Tryz.prog 47 #[.int .i64 (k:Int)] w fun e w'=>e=.returned (.int .i64 ((256/2 ^ k:Nat):Int))∧w'=w:=by
 obtain⟨c,hc⟩:=xe (256/2 ^ k);have h1:(256:Int)/2 ^ k=(c:Int):=by rw[hc];simp
 rw[←hc];clear hc;go_enter Tryz.func47,Tryz.ntmps47;go_wp2
 go_ret;exact⟨rfl,rfl⟩
theorem zcG(k:Nat)(hk:k<8)(w:World):Calls Tryz.prog 51 #[.int .i64 (k:Int)] w fun e w'=>e=.returned (.int .i64 ((16*2 ^ k:Nat):Int))∧w'=w:=by
 obtain⟨r,hr⟩:=xe (16*2 ^ k);have hz : 2 ^ k≤2 ^ 8:=Nat.pow_le_pow_right (by decide) (by omega);have hri:(16:Int)*2 ^ k=(r:Int):=by rw[hr];simp
 have hrb:r≤4096:=by omega
 rw[←hr];clear hr hz;go_enter Tryz.func51,Tryz.ntmps51;go_wp2
 go_ret;exact⟨rfl,rfl⟩
theorem At7(b:Nat)(l o po pp:Int)(fv lv pv qv:Value)(p:Nat)(hp:p≤1024)(hb:b≤9223372036854775808)(w:World):Calls Tryz.prog 20 #[s7V b l o po pp fv lv pv qv,.int .i64 (p:Int)] w fun e w'=>e=.returned (.int .u64 ((b+4096*p:Nat):Int))∧Kt nO w w':=by
 have K0:=hid ((Kt.refl nO w).alloc (s7O b l o po pp fv lv pv qv));go_enter Tryz.func20,Tryz.ntmps20;go_wp2
 go_ret;exact⟨by simp,K0.out⟩
def fnd(R:Nat→Cl)(p:Int):Nat→Option Nat
 | 0=>none
 | n+1=>(fnd R p n).or (if ((R n).pg:Int)=p then some n else none)
theorem zcO{R:Nat→Cl}{p:Int} : ∀ {n},fnd R p n=none↔∀ i,i<n→((R i).pg:Int)≠p
 | 0=>⟨fun _ i hi=>by omega,fun _=>rfl⟩
 | n+1=>by
  rw[fnd,Option.or_eq_none_iff,zcO];constructor
  ·rintro ⟨h1,h2⟩ i hi e;by_cases e2:i=n
   ·subst e2;rw[if_pos e] at h2
    cases h2
   ·exact h1 i (by omega) e
  ·intro h;exact⟨fun i hi=>h i (by omega),if_neg (h n (by omega))⟩
theorem zgc{R:Nat→Cl}{p:Int}{i:Nat} : ∀ {n m},n≤m→fnd R p n=some i→fnd R p m=some i
 | n,0,h,e=>by rw[show n=0 by omega] at e;exact e
 | n,m+1,h,e=>by
  by_cases e2:n=m+1
  ·rw[←e2];exact e
  ·rw[fnd,zgc (show n≤m by omega) e];rfl
def fndI:Option Nat→Int
 | none => -1
 | some i=>(i:Int)
theorem zh6(b:Nat)(l o po pp:Int)(fv lv:Value)(va:Option Addr)(n vc:Nat)(qv:Value)(R:Nat→Cl)(hn:n≤2000)(p:Int)(w:World)(h:CR w (.slice va n vc) n R):
  Calls Tryz.prog 50 #[s7V b l o po pp fv lv (.slice va n vc) qv,.int .i64 p] w fun e w'=>e=.returned (.int .i64 (fndI (fnd R p n)))∧Kt nO w w':=by
 have K0:=hid ((Kt.refl nO w).alloc (s7O b l o po pp fv lv (.slice va n vc) qv));have X0:=hid (nH w (s7O b l o po pp fv lv (.slice va n vc) qv));have HC:=hid (h.keep K0.out);have FS:=hid (fun i=>show fnd R p (i+1)=(fnd R p i).or (if ((R i).pg:Int)=p then some i else none)from rfl);have FM:=hid (fun (i m:Nat) (hm:i+1≤m) (e:fnd R p (i+1)=some i)=>zgc hm e);have F0:fnd R p 0=none:=rfl;obtain⟨F,hF⟩:=xe (fnd R p);rw[←hF] at F0 FS FM ⊢;clear h hF;go_enter Tryz.func50,Tryz.ntmps50;go_upto_region 1 with fail;generalize w.heap.size=y at *;generalize w.alloc (s7O b l o po pp fv lv (.slice va n vc) qv)=W0 at *;obtain⟨c0,c1,c2,c3,c4,c5,c6,c7,c8⟩:=s7c X0.out;go_wp2_with fail;go_loopw [5] (fun s W=>W=W0∧∃ i:Nat,i≤n∧s=.int .i64 (i:Int)∧Hid (F i=none)) (fun s _=>n-(intOf s).toNat)
 case atStart=>exact⟨rfl,0,Nat.zero_le _,rfl,hid F0⟩
 case round=>
  clear F0;obtain⟨rfl,i,hi,rfl,hN⟩:=hrel;by_cases hlt:i<n
  ·have hii:(i:Int)<(n:Int):=(by omega);obtain⟨g,a,c,hva,r0,_⟩:=HC.out.get i hlt;subst hva;have FI:=hid (FS.out i);rw[hN.out,Option.none_or] at FI;generalize (R i).pg=q at *;by_cases e:(q:Int)=p
   ·have eb:((q:Int) == p)=true:=(by rw[beq_iff_eq];exact e);have D:=hid (show F n=some i from FM.out i n hlt (by rw[FI.out,if_pos e]));subst e;go_wp2_with fail;go_ret;exact⟨by rw[D.out];rfl,K0.out⟩
   ·have eb:((q:Int) == p)=false:=(by rw[beq_eq_false_iff_ne];exact e);have D:=hid (show F (i+1)=none from by rw[FI.out,if_neg e]);clear FI;go_wp2_with fail;exact⟨⟨trivial,i+1,by omega,by simp,D⟩,by simp[intOf];omega⟩
  ·obtain rfl:i=n:=(by omega);have hii:¬(i:Int)<(i:Int):=(by omega);go_wp2_with fail;go_ret;exact⟨by rw[hN.out];rfl,K0.out⟩
theorem s7b{W0 W:World}{x:Nat}{ob:Obj}(h:W0.heap[x]?=some ob)(k:Kt nO W0 W):W.heap[x]?=some ob:=(k.block _ (lH h) (fun e=>e)).trans h
theorem hS9{w:World}{k:Nat}{cs:Array Value}{t:TypeId}{z:Nat×Nat}(h:w.heap[k]?=some (.cells cs t z))(i:Nat)(u:Value):(w.setCell ⟨k,i,none⟩ u).heap[k]?=some (.cells (cs.setIfInBounds i u) t z):=by
 obtain⟨hlt,hk⟩:=Array.getElem?_eq_some_iff.1 h;show(w.heap.modify k _)[k]?=_
 rw[Array.getElem?_eq_getElem (by rw[Array.size_modify];exact hlt),Array.getElem_modify_self,hk];rfl
abbrev fin9(W:World)(y:Nat)(b:Nat)(l o po pp:Int)(fv lv pv qv:Value):World:=((((((((W.setCell ⟨y,0,none⟩ (.int .u64 (b:Int))).setCell ⟨y,1,none⟩ (.int .i64 l)).setCell ⟨y,2,none⟩ (.int .i64 o)).setCell ⟨y,3,none⟩ (.int .i64 po)).setCell ⟨y,4,none⟩ (.int .i64 pp)).setCell ⟨y,5,none⟩ fv).setCell ⟨y,6,none⟩ lv).setCell ⟨y,7,none⟩ pv).setCell ⟨y,8,none⟩ qv
theorem zad(W:World)(y:Nat)(b:Nat)(l o po pp:Int)(fv lv pv qv:Value):Kt (fun z=>z=y) W (fin9 W y b l o po pp fv lv pv qv):=
 (((((((((Kt.refl (fun z=>z=y) W).setCell (p:=⟨y,0,none⟩) rfl _).setCell (p:=⟨y,1,none⟩) rfl _).setCell (p:=⟨y,2,none⟩) rfl _).setCell (p:=⟨y,3,none⟩) rfl _).setCell (p:=⟨y,4,none⟩) rfl _).setCell (p:=⟨y,5,none⟩) rfl _).setCell (p:=⟨y,6,none⟩) rfl _).setCell (p:=⟨y,7,none⟩) rfl _).setCell (p:=⟨y,8,none⟩) rfl _
theorem zjk{A A':Nat→Option Addr}{C C':Nat→Nat}{fr fr':Nat→List Nat}{n:Nat}(h:∀ i,i<n→A' i=A i∧C' i=C i∧fr' i=fr i):slv A' C' fr' n=slv A C fr n:=by
 unfold slv;refine List.map_congr_left fun i hi=>?_
 obtain⟨h1,h2,h3⟩:=h i (List.mem_range.1 hi);rw[h1,h2,h3]
structure PQ7(w0 W:World)(v:Value)(n:Nat)(fr:Nat→List Nat):Prop where
 gs:∃ A C,GS w0 W 43 1 v n (slv A C fr n)∧∀ i,i<n→NL W (.slice (A i) (fr i).length (C i)) (fr i)
 nw:∀ g,v.ownBlock=some g→w0.heap.size≤g
theorem PQ7.kp{w0 W v n fr}(h:PQ7 w0 W v n fr):Kt nO w0 W:=by
 obtain⟨A,C,h1,_⟩:=h.gs;exact h1.kp
theorem PQ7.nil(w0 W:World)(fr:Nat→List Nat)(k:Kt nO w0 W):PQ7 w0 W (.slice none 0 0) 0 fr:=⟨⟨fun _=>none,fun _=>0,GS.nil _ _ _ _ k,fun i hi=>by omega⟩,fun g e=>by simp[Value.ownBlock] at e⟩
theorem PQ7.keep{w0 W W' v n fr}(h:PQ7 w0 W v n fr)(k:Kt nO W W'):PQ7 w0 W' v n fr:=by
 obtain⟨A,C,h1,h2⟩:=h.gs;exact⟨⟨A,C,h1.keep k,fun i hi=>(h2 i hi).keep k⟩,h.nw⟩
theorem PQ7.push{w0 W v n fr}(h:PQ7 w0 W v n fr){a:Option Addr}{c:Nat}(hl:NL W (.slice a (fr n).length c) (fr n))(hn:n≤2000):
  ∃ g cap w',(∀ ty,(Builtin.append_ #[32,32] ty #[v,.slice (some ⟨W.heap.size,0,none⟩) 1 1]).run Tryz.prog (W.alloc (.cells #[.slice a (fr n).length c] 43))=.ok (.slice (some ⟨g,0,none⟩) (n+1) cap) w')∧PQ7 w0 w' (.slice (some ⟨g,0,none⟩) (n+1) cap) (n+1) fr:=by
 obtain⟨A,C,h1,h2⟩:=h.gs;obtain⟨g,cap,w',hap,hg2,hge,hkeep⟩:=zfA h1 a (fr n).length c hn;have hint:∀ v2 l2,NL W v2 l2→NL w' v2 l2:=fun v2 l2 hN=>by
  refine⟨hN.1,?_⟩;rcases hN.2 with h0|⟨g2,cap2,cur,h0,hb,hg,h3⟩
  ·exact .inl h0
  ·refine .inr ⟨g2,cap2,cur,h0,hb,hkeep g2 (fun e=>?_) _ hg,h3⟩;obtain⟨cs,hc⟩:=zaT h1.own e;rw[hg] at hc;injection hc with hc
   injection hc with _ hc
   exact absurd hc (by decide)
 refine⟨g,cap,w',hap,⟨⟨fun i=>if i=n then a else A i,fun i=>if i=n then c else C i,?_,fun i hi=>?_⟩,fun g' e=>by simp[Value.ownBlock] at e;omega⟩⟩
 ·rw[←zeq,if_pos rfl,if_pos rfl,zjk (A:=A) (C:=C) (fr:=fr) (fun i hi=>⟨if_neg (by omega),if_neg (by omega),rfl⟩)];exact hg2
 ·dsimp only;by_cases e:i=n
  ·rw[if_pos e,if_pos e,e];exact hint _ _ hl
  ·rw[if_neg e,if_neg e];exact hint _ _ (h2 i (by omega))
def parL(l:List Nat)(p:Nat)(ahead:Bool):List Nat:=(if ahead=true then [p] else []) ++ M.dropL l p
theorem ze5(l:List Nat)(p:Nat)(ahead:Bool){j:Nat}(hj:j<l.length):parL (l.take (j + 1)) p ahead=if l.getD j 0=p then parL (l.take j) p ahead else parL (l.take j) p ahead ++ [l.getD j 0]:=by
 unfold parL;rw[zeA l p hj];by_cases e:l.getD j 0=p
 ·rw[if_pos e,if_pos e]
 ·rw[if_neg e,if_neg e,List.append_assoc]
theorem zct(b:Nat)(lm oo po pp:Int)(fa:Option Addr)(fn fc:Nat)(va:Option Addr)(vn vc:Nat)(ca:Option Addr)(cn cc:Nat)(pa:Option Addr)(pc:Nat)(pl:Nat→List Nat)(k:Nat)(hk:k<8)(hL:(pl k).length≤1024)(p:Nat)(ah:Bool)(w:World)(h:FL w pa pc 7 pl):
  Calls Tryz.prog 48 #[s7V b lm oo po pp (.slice fa fn fc) (.slice va vn vc) (.slice ca cn cc) (.slice pa 8 pc),.int .i64 (k:Int),.int .i64 (p:Int),.bool ah] w fun e w'=>∃ pa' pc',e=.returned (s7V b lm oo po pp (.slice fa fn fc) (.slice va vn vc) (.slice ca cn cc) (.slice pa' 8 pc'))∧Kt nO w w'∧FL w' pa' pc' 7 (updF pl k (parL (pl k) p ah)):=by
 have T2:=two5 w (s7O b lm oo po pp (.slice fa fn fc) (.slice va vn vc) (.slice ca cn cc) (.slice pa 8 pc)) s7Z;have K0:=hid T2.1;have X0:=hid T2.2.1;have Z0:=hid T2.2.2;have S0:=hid (show((w.alloc (s7O b lm oo po pp (.slice fa fn fc) (.slice va vn vc) (.slice ca cn cc) (.slice pa 8 pc))).alloc s7Z).heap.size=w.heap.size+2 by simp);have F0:=hid (h.keep T2.1);obtain⟨Q,hQ⟩:=xe (updF pl k (parL (pl k) p ah));rw[←hQ];have QK:=hid (show Q k=parL (pl k) p ah from by rw[hQ];exact uFs _ _ _);have QN:=hid (show ∀ j,j≠k→Q j=pl j from fun j hj=>by rw[hQ];exact uFn _ _ hj);obtain⟨g0,A0,C0,hpa,_⟩:=h.get k (by omega);subst hpa;clear T2 h hQ;go_enter Tryz.func48,Tryz.ntmps48;go_upto_region 1 with fail;generalize (w.alloc (s7O b lm oo po pp (.slice fa fn fc) (.slice va vn vc) (.slice ca cn cc) (.slice (some ⟨g0,0,none⟩) 8 pc))).alloc s7Z=W0 at *;have P0:=hid (PQ7.nil W0 W0 Q (Kt.refl nO W0));go_wp2_with fail;go_loopw [9,10,11,12] (fun f i _ _ W=>∃ j:Nat,j≤8∧i=.int .i64 (j:Int)∧(∃ ga gc,f=.slice ga j gc)∧Hid (PQ7 W0 W f j Q)) (fun _ i _ _ _=>8-(intOf i).toNat)
 case atStart=>exact⟨0,by omega,rfl,⟨none,0,rfl⟩,P0⟩
 case round=>
  clear P0;obtain⟨j,hj,rfl,⟨ga,gc,rfl⟩,hP⟩:=hrel;have FJ:=hid (F0.out.keep hP.out.kp);obtain⟨c0,c1,c2,c3,c4,c5,c6,c7,c8,fz⟩:=s7c (s7b X0.out hP.out.kp);by_cases hlt:j<8
  ·have hji:(j:Int)<8:=(by omega);obtain⟨g1,A,C,hg1,r0,hN⟩:=FJ.out.get j (by omega);injection hg1 with hg1
   injection hg1 with hg1
   subst hg1;by_cases hjk:j=k
   ·subst hjk;obtain⟨L,hL2⟩:=xe ((pl j).length);have HL:=hid hL2;have hLb:L≤1024:=(by rw[hL2];exact hL);clear hL2 hN r0
    cases ah with
    | true=>
     obtain⟨g,cap,w',hap,hg2,hge,hkeep⟩:=zaK (GS.nil wr wr 3 1 (Kt.refl nO wr)) (p:Int) (by omega);have HAP:=hid hap;have G1:=hid hg2;clear hap hg2 hge hkeep;go_wp2_with (at_builtin;refine Lib.wpList_append_run _ rfl _ _ _ _ rfl (.slice none 0 0) (.slice (some ⟨wr.heap.size,0,none⟩) 1 1) rfl rfl _ _ (HAP.out _) ?_)
     clear c0 c1 c2 c3 c4 c5 c6 c7 c8 fz;go_loopw [11,12] (fun f i W=>∃ i' m:Nat,i'≤L∧m≤i'+1∧i=.int .i64 (i':Int)∧(∃ la lc,f=.slice la m lc)∧Hid (m=(parL ((pl j).take i') p true).length∧GS wr W 3 1 f m (nums (parL ((pl j).take i') p true)))) (fun _ i _=>L-(intOf i).toNat)
     case atStart=>exact⟨0,_,by omega,Nat.le_refl _,rfl,⟨_,_,rfl⟩,hid ⟨rfl,G1.out⟩⟩
     case round=>
      obtain⟨i',m,hi',hm,rfl,⟨la,lc,rfl⟩,hR⟩:=hrel;have KI:=hid (nT hP.out.kp hR.out.2.kp);obtain⟨c0,c1,c2,c3,c4,c5,c6,c7,c8,fz⟩:=s7c (s7b X0.out KI.out);obtain⟨g2,A,C,hg2,r0,hN⟩:=(F0.out.keep KI.out).get j (by omega);injection hg2 with hg2
      injection hg2 with hg2
      subst hg2;rw[←HL.out] at r0;by_cases hil:i'<L
      ·have hii:(i':Int)<(L:Int):=(by omega);have hil2:i'<(pl j).length:=(by rw[←HL.out];exact hil);obtain⟨g3,hA,r2⟩:=hN.get hil2;subst hA;have TN:=hid (ze5 _ p true hil2);clear hil2 hN;generalize (pl j).getD i' 0=q at *;by_cases hq:q=p
       ·subst hq;have D:=hid (show m=(parL ((pl j).take (i'+1)) q true).length∧GS _ wr 3 1 (.slice la m lc) m (nums (parL ((pl j).take (i'+1)) q true))from by
         rw[TN.out,if_pos rfl];exact hR.out)
        go_wp2_with fail;exact⟨⟨i'+1,m,by omega,by omega,by simp,⟨_,_,rfl⟩,D⟩,by simp[intOf];omega⟩
       ·have hqi:¬(q:Int)=(p:Int):=(by omega);obtain⟨g,cap,w',hap,hg2,hge,hkeep⟩:=zaK hR.out.2 (q:Int) (by omega);have D:=hid (show m+1=(parL ((pl j).take (i'+1)) p true).length∧GS _ w' 3 1 (.slice (some ⟨g,0,none⟩) (m+1) cap) (m+1) (nums (parL ((pl j).take (i'+1)) p true))from by
         rw[TN.out,if_neg hq,zbw,List.length_append,←hR.out.1];exact⟨rfl,hg2⟩)
        have HAP:=hid hap;clear hap hg2 hge hkeep hq;go_wp2_with (at_builtin;refine Lib.wpList_append_run _ rfl _ _ _ _ rfl (.slice la m lc) (.slice (some ⟨wr.heap.size,0,none⟩) 1 1) rfl rfl _ _ (HAP.out _) ?_)
        exact⟨⟨i'+1,m+1,by omega,by omega,by simp,⟨_,_,rfl⟩,D⟩,by simp[intOf];omega⟩
      ·obtain rfl:i'=L:=(by omega);have hii:¬(i':Int)<(i':Int):=(by omega);have hml:m=(Q j).length:=by
        have:=hR.out.1;rw[HL.out,List.take_length] at this;rw[QK.out];exact this
       have NLw:=hid (show NL wr (.slice la (Q j).length lc) (Q j)from by
        have:=hR.out.2.own;rw[HL.out,List.take_length,←QK.out,hml] at this;exact this)
       obtain⟨g,cap,w',hap,hp2⟩:=(hP.out.keep hR.out.2.kp).push NLw.out (by omega);rw[←hml] at hap;have HAP:=hid hap;have P2:=hid hp2;clear hap hp2 hml NLw hN;go_wp2_with (at_builtin;refine Lib.wpList_append_run _ rfl _ _ _ _ rfl (.slice ga j gc) (.slice (some ⟨wr.heap.size,0,none⟩) 1 1) rfl rfl _ _ (HAP.out _) ?_)
       exact⟨⟨j+1,by omega,by simp,⟨_,_,rfl⟩,P2⟩,by simp[intOf];omega⟩
    | false=>
     go_wp2_with fail;clear c0 c1 c2 c3 c4 c5 c6 c7 c8 fz;go_loopw [11,12] (fun f i W=>∃ i' m:Nat,i'≤L∧m≤i'+1∧i=.int .i64 (i':Int)∧(∃ la lc,f=.slice la m lc)∧Hid (m=(parL ((pl j).take i') p false).length∧GS wr W 3 1 f m (nums (parL ((pl j).take i') p false)))) (fun _ i _=>L-(intOf i).toNat)
     case atStart=>exact⟨0,_,by omega,Nat.zero_le _,rfl,⟨_,_,rfl⟩,hid ⟨rfl,GS.nil wr wr 3 1 (Kt.refl nO wr)⟩⟩
     case round=>
      obtain⟨i',m,hi',hm,rfl,⟨la,lc,rfl⟩,hR⟩:=hrel;have KI:=hid (nT hP.out.kp hR.out.2.kp);obtain⟨c0,c1,c2,c3,c4,c5,c6,c7,c8,fz⟩:=s7c (s7b X0.out KI.out);obtain⟨g2,A,C,hg2,r0,hN⟩:=(F0.out.keep KI.out).get j (by omega);injection hg2 with hg2
      injection hg2 with hg2
      subst hg2;rw[←HL.out] at r0;by_cases hil:i'<L
      ·have hii:(i':Int)<(L:Int):=(by omega);have hil2:i'<(pl j).length:=(by rw[←HL.out];exact hil);obtain⟨g3,hA,r2⟩:=hN.get hil2;subst hA;have TN:=hid (ze5 _ p false hil2);clear hil2 hN;generalize (pl j).getD i' 0=q at *;by_cases hq:q=p
       ·subst hq;have D:=hid (show m=(parL ((pl j).take (i'+1)) q false).length∧GS _ wr 3 1 (.slice la m lc) m (nums (parL ((pl j).take (i'+1)) q false))from by
         rw[TN.out,if_pos rfl];exact hR.out)
        go_wp2_with fail;exact⟨⟨i'+1,m,by omega,by omega,by simp,⟨_,_,rfl⟩,D⟩,by simp[intOf];omega⟩
       ·have hqi:¬(q:Int)=(p:Int):=(by omega);obtain⟨g,cap,w',hap,hg2,hge,hkeep⟩:=zaK hR.out.2 (q:Int) (by omega);have D:=hid (show m+1=(parL ((pl j).take (i'+1)) p false).length∧GS _ w' 3 1 (.slice (some ⟨g,0,none⟩) (m+1) cap) (m+1) (nums (parL ((pl j).take (i'+1)) p false))from by
         rw[TN.out,if_neg hq,zbw,List.length_append,←hR.out.1];exact⟨rfl,hg2⟩)
        have HAP:=hid hap;clear hap hg2 hge hkeep hq;go_wp2_with (at_builtin;refine Lib.wpList_append_run _ rfl _ _ _ _ rfl (.slice la m lc) (.slice (some ⟨wr.heap.size,0,none⟩) 1 1) rfl rfl _ _ (HAP.out _) ?_)
        exact⟨⟨i'+1,m+1,by omega,by omega,by simp,⟨_,_,rfl⟩,D⟩,by simp[intOf];omega⟩
      ·obtain rfl:i'=L:=(by omega);have hii:¬(i':Int)<(i':Int):=(by omega);have hml:m=(Q j).length:=by
        have:=hR.out.1;rw[HL.out,List.take_length] at this;rw[QK.out];exact this
       have NLw:=hid (show NL wr (.slice la (Q j).length lc) (Q j)from by
        have:=hR.out.2.own;rw[HL.out,List.take_length,←QK.out,hml] at this;exact this)
       obtain⟨g,cap,w',hap,hp2⟩:=(hP.out.keep hR.out.2.kp).push NLw.out (by omega);rw[←hml] at hap;have HAP:=hid hap;have P2:=hid hp2;clear hap hp2 hml NLw hN;go_wp2_with (at_builtin;refine Lib.wpList_append_run _ rfl _ _ _ _ rfl (.slice ga j gc) (.slice (some ⟨wr.heap.size,0,none⟩) 1 1) rfl rfl _ _ (HAP.out _) ?_)
       exact⟨⟨j+1,by omega,by simp,⟨_,_,rfl⟩,P2⟩,by simp[intOf];omega⟩
   ·have hjki:¬(j:Int)=(k:Int):=(by omega);rw[←QN.out j hjk] at r0 hN;obtain⟨g,cap,w',hap,hp2⟩:=hP.out.push hN (by omega);have HAP:=hid hap;have P2:=hid hp2;generalize (Q j).length=ql at *;clear hap hp2 hN;go_wp2_with (at_builtin;refine Lib.wpList_append_run _ rfl _ _ _ _ rfl (.slice ga j gc) (.slice (some ⟨wr.heap.size,0,none⟩) 1 1) rfl rfl _ _ (HAP.out _) ?_)
    exact⟨⟨j+1,by omega,by simp,⟨_,_,rfl⟩,P2⟩,by simp[intOf];omega⟩
  ·obtain rfl:j=8:=(by omega);have hsz:=S0.out;have hx':=s7b X0.out hP.out.kp;have hz':=s7b Z0.out hP.out.kp;have X3:=hid (show(wr.setCell ⟨w.heap.size,8,none⟩ (.slice ga 8 gc)).heap[w.heap.size]?=some (s7O b lm oo po pp (.slice fa fn fc) (.slice va vn vc) (.slice ca cn cc) (.slice ga 8 gc))from hS9 hx' 8 _);have ks:Kt (fun y=>y=w.heap.size) wr (wr.setCell ⟨w.heap.size,8,none⟩ (.slice ga 8 gc)):=(Kt.refl (fun y=>y=w.heap.size) wr).setCell (p:=⟨w.heap.size,8,none⟩) rfl _;have Z3:=hid ((ks.block _ (lH hz') (by omega)).trans hz');have K3:=hid ((nT K0.out hP.out.kp).setNew (p:=⟨w.heap.size,8,none⟩) (fun e=>absurd e (Nat.lt_irrefl _)) (.slice ga 8 gc));have F3:=hid (show FL (wr.setCell ⟨w.heap.size,8,none⟩ (.slice ga 8 gc)) ga gc 7 Q from by
    obtain⟨A,C,h1,h2⟩:=hP.out.gs;refine FL.kept ⟨A,C,h1.own,fun i hi=>h2 i (by omega)⟩ ks (fun y cs hy e=>?_) (fun y cs hy e=>?_)
    ·rw[e,hx'] at hy;injection hy with hy
     injection hy with _ hy
     exact absurd hy (by decide)
    ·rw[e,hx'] at hy;injection hy with hy
     injection hy with _ hy
     exact absurd hy (by decide))
   go_upto_region 17 with fail;generalize wr.setCell ⟨w.heap.size,8,none⟩ (.slice ga 8 gc)=w3 at *;clear c0 c1 c2 c3 c4 c5 c6 c7 c8 fz hx' ks hz';obtain⟨c0,c1,c2,c3,c4,c5,c6,c7,c8,fz⟩:=s7c X3.out;obtain⟨z0,z1,z2,z3,z4,z5,z6,z7,z8,fy⟩:=s7z Z3.out;have HF:=hid (show Kt nO w (fin9 w3 (w.heap.size+1) b lm oo po pp (.slice fa fn fc) (.slice va vn vc) (.slice ca cn cc) (.slice ga 8 gc))∧FL (fin9 w3 (w.heap.size+1) b lm oo po pp (.slice fa fn fc) (.slice va vn vc) (.slice ca cn cc) (.slice ga 8 gc)) ga gc 7 Q from by
    have kf:=zad w3 (w.heap.size+1) b lm oo po pp (.slice fa fn fc) (.slice va vn vc) (.slice ca cn cc) (.slice ga 8 gc);refine⟨K3.out.trans kf (fun _ _ e=>e) (fun y hy e=>by omega),F3.out.kept kf (fun y cs hy e=>?_) (fun y cs hy e=>?_)⟩
    ·rw[e,Z3.out] at hy;injection hy with hy
     injection hy with _ hy
     exact absurd hy (by decide)
    ·rw[e,Z3.out] at hy;injection hy with hy
     injection hy with _ hy
     exact absurd hy (by decide))
   go_wp2_with fail;exact⟨rfl,s7V b lm oo po pp (.slice fa fn fc) (.slice va vn vc) (.slice ca cn cc) (.slice ga 8 gc),by simp[results,Tryz.results48,go_sem,z0,z1,z2,z3,z4,z5,z6,z7,z8],_,_,rfl,HF.out⟩
def cl0:Cl:=⟨0,0,[]⟩
abbrev fnC(al:List Cl):Nat→Cl:=fun i=>al.getD i cl0
theorem zcV{R R':Nat→Cl}{V V':Nat→Value} : ∀ {n},(∀ i,i<n→R' i=R i∧V' i=V i)→zbX R' V' n=zbX R V n
 | 0,_=>rfl
 | n+1,h=>by rw[zbX,zbX,zcV (fun i hi=>h i (by omega)),(h n (by omega)).1,(h n (by omega)).2]
theorem zdW(al:List Cl)(c:Cl){i:Nat}(h:i<al.length):fnC (al ++ [c]) i=fnC al i:=by
 unfold fnC;rw[List.getD_eq_getElem?_getD,List.getD_eq_getElem?_getD,List.getElem?_append_left h]
theorem zdX(al:List Cl)(c:Cl):fnC (al ++ [c]) al.length=c:=by
 unfold fnC;rw[List.getD_eq_getElem?_getD,List.getElem?_append_right (Nat.le_refl _),Nat.sub_self];rfl
theorem zgO(al:List Cl)(c:Cl)(V:Nat→Value)(v:Value):zbX (fnC (al ++ [c])) (fun i=>if i=al.length then v else V i) (al.length + 1)=zbX (fnC al) V al.length ++ [.int .i64 (c.pg:Int),.int .i64 (c.cl:Int),v]:=by
 rw[zbX,zdX,if_pos rfl,zcV (R:=fnC al) (V:=V) (fun i hi=>⟨zdW al c hi,if_neg (by omega)⟩)]
theorem zgP:(Tryz.prog.info? 121).map (fun i=>(i.zero,i.size,i.bytes))=some (some (.agg #[.int .i64 0,.int .i64 0,.slice none 0 0]),3,40):=by kernel_rfl
structure PC7(w0 W:World)(v:Value)(al:List Cl):Prop where
 gs:∃ V,GS w0 W 121 3 v al.length (zbX (fnC al) V al.length)∧∀ i,i<al.length→NS W (V i) (fnC al i).fl
 nw:∀ g,v.ownBlock=some g→w0.heap.size≤g
theorem PC7.kp{w0 W v al}(h:PC7 w0 W v al):Kt nO w0 W:=by
 obtain⟨V,h1,_⟩:=h.gs;exact h1.kp
theorem PC7.cr{w0 W v al}(h:PC7 w0 W v al):CR W v al.length (fnC al):=by
 obtain⟨V,h1,h2⟩:=h.gs;exact⟨V,h1.own,h2⟩
theorem PC7.nil(w0 W:World)(k:Kt nO w0 W):PC7 w0 W (.slice none 0 0) []:=⟨⟨fun _=>.slice none 0 0,GS.nil _ _ _ _ k,fun i hi=>absurd hi (Nat.not_lt_zero _)⟩,fun g e=>by simp[Value.ownBlock] at e⟩
theorem PC7.push{w0 W v al}(h:PC7 w0 W v al)(c:Cl){a:Option Addr}{cp:Nat}(hl:NS W (.slice a c.fl.length cp) c.fl)(hn:al.length≤2000):
  ∃ g cap w',(∀ ty,(Builtin.append_ #[36,36] ty #[v,.slice (some ⟨W.heap.size,0,none⟩) 1 1]).run Tryz.prog (W.alloc (.cells #[.int .i64 (c.pg:Int),.int .i64 (c.cl:Int),.slice a c.fl.length cp] 121))=.ok (.slice (some ⟨g,0,none⟩) (al.length + 1) cap) w')∧PC7 w0 w' (.slice (some ⟨g,0,none⟩) (al.length + 1) cap) (al ++ [c]):=by
 obtain⟨V,h1,h2⟩:=h.gs;obtain⟨i,hi,hzz⟩:=Option.map_eq_some_iff.1 zgP;simp only[Prod.mk.injEq] at hzz;have ka:=(Kt.refl nO W).alloc (.cells #[.int .i64 (c.pg:Int),.int .i64 (c.cl:Int),.slice a c.fl.length cp] 121);obtain⟨g,cap,w',hap,hg2,hge,h4⟩:=(h1.keep ka).push 36 i _ 40 Tryz.underlying36 hi hzz.1 hzz.2.1 hzz.2.2 rfl (by decide) ⟨W.heap.size,0,none⟩ 1 [.int .i64 (c.pg:Int),.int .i64 (c.cl:Int),.slice a c.fl.length cp] rfl (fun j u hj=>zaD (cs:=#[.int .i64 (c.pg:Int),.int .i64 (c.cl:Int),.slice a c.fl.length cp]) j u hj) (by simp[Value.oneCell']) (by simp only[maxLen];omega) (by omega);have hkeep:∀ x,v.ownBlock≠some x→∀ o,W.heap[x]?=some o→w'.heap[x]?=some o:=fun x hx o ho=>h4 x hx o ((ka.block x (lH ho) (fun x=>x)).trans ho)
 have hns:∀ v2 l2,NS W v2 l2→NS w' v2 l2:=fun v2 l2 hN=>by
  obtain⟨a2,c2,e1,ec,e2⟩:=hN;refine⟨a2,c2,e1,ec,e2.imp id ?_⟩;rintro ⟨g2,o2,e3,⟨cs,z,e4⟩,e5⟩;have hne:v.ownBlock≠some g2:=fun e=>by
   obtain⟨cs',hc⟩:=zaT h1.own e;rw[e4] at hc;injection hc with hc
   injection hc with _ hc
   exact absurd hc (by decide)
  have e6:=hkeep g2 hne _ e4;refine⟨g2,o2,e3,⟨cs,z,e6⟩,fun i hi=>?_⟩;have:=e5 i hi;unfold World.cell? at this ⊢;rw[e4] at this;rw[e6];exact this
 refine⟨g,cap,w',hap,⟨⟨fun i=>if i=al.length then .slice a c.fl.length cp else V i,?_,fun i hi=>?_⟩,fun g' e=>by simp[Value.ownBlock] at e;omega⟩⟩
 ·rw[List.length_append,List.length_singleton,zgO];exact hg2
 ·rw[List.length_append,List.length_singleton] at hi;dsimp only;by_cases e:i=al.length
  ·rw[if_pos e,e,zdX];exact hns _ _ hl
  ·rw[if_neg e,zdW al c (by omega)];exact hns _ _ (h2 i (by omega))
def ptS(x:Cl)(gone:Bool)(c:Cl):List Cl:=if c.pg≠x.pg then [c] else if gone=true then [] else [x]
def putA(x:Cl)(gone:Bool)(cs:List Cl):List Cl:=cs.flatMap (ptS x gone)
def fdB(x:Cl)(gone:Bool)(cs:List Cl):Bool:=!gone && cs.any fun c=>decide (c.pg=x.pg)
def putL(x:Cl)(gone:Bool)(cs:List Cl):List Cl:=putA x gone cs ++ (if (!gone && !fdB x gone cs)=true then [x] else [])
theorem ze8(l:List Cl){j:Nat}(hj:j<l.length):l.take (j + 1)=l.take j ++ [fnC l j]:=by
 unfold fnC;rw[List.take_add_one,List.getElem?_eq_getElem hj,List.getD_eq_getElem?_getD,List.getElem?_eq_getElem hj];rfl
theorem zhy(x:Cl)(gone:Bool)(l:List Cl){j:Nat}(hj:j<l.length):putA x gone (l.take (j + 1))=putA x gone (l.take j) ++ ptS x gone (fnC l j):=by
 unfold putA;rw[ze8 l hj,List.flatMap_append];simp
theorem zju(x:Cl)(gone:Bool)(l:List Cl){j:Nat}(hj:j<l.length):fdB x gone (l.take (j+1))=(fdB x gone (l.take j) || (!gone && decide ((fnC l j).pg=x.pg))):=by
 unfold fdB;rw[ze8 l hj,List.any_append]
 cases gone <;> simp
theorem zfI(x:Cl)(gone:Bool):∀ l:List Cl,(putA x gone l).length≤l.length
 | []=>Nat.le_refl _
 | c :: l=>by
  unfold putA;rw[List.flatMap_cons,List.length_append,List.length_cons];have h1:=zfI x gone l;unfold putA at h1;have h2:(ptS x gone c).length≤1:=by
   unfold ptS;split
   ·exact Nat.le_refl _
   ·split
    ·exact Nat.zero_le _
    ·exact Nat.le_refl _
  omega
theorem zmk(w:World)(a b c:Obj):Kt nO w (((w.alloc a).alloc b).alloc c)∧(((w.alloc a).alloc b).alloc c).heap[w.heap.size]?=some a∧(((w.alloc a).alloc b).alloc c).heap[w.heap.size+1]?=some b∧(((w.alloc a).alloc b).alloc c).heap[w.heap.size+2]?=some c:=by
 have h2:=two5 w a b;have k:=(Kt.refl nO ((w.alloc a).alloc b)).alloc c;refine⟨h2.1.alloc c,(k.block _ (lH h2.2.1) (fun x=>x)).trans h2.2.1,(k.block _ (lH h2.2.2) (fun x=>x)).trans h2.2.2,?_⟩;have:=nH ((w.alloc a).alloc b) c;rw[show((w.alloc a).alloc b).heap.size=w.heap.size+2 by simp] at this;exact this
abbrev clO(p c:Nat)(v:Value):Obj:=.cells #[.int .i64 (p:Int),.int .i64 (c:Int),v] 121
theorem clc{W:World}{y p c:Nat}{v:Value}(h:W.heap[y]?=some (clO p c v)):W.cell? ⟨y,0,none⟩=some (.int .i64 (p:Int))∧W.cell? ⟨y,1,none⟩=some (.int .i64 (c:Int))∧W.cell? ⟨y,2,none⟩=some v:=by
 refine⟨?_,?_,?_⟩ <;> simp[World.cell?,h]
theorem PC7.keep{w0 W W' v al}(h:PC7 w0 W v al)(k:Kt nO W W'):PC7 w0 W' v al:=by
 obtain⟨V,h1,h2⟩:=h.gs;exact⟨⟨V,h1.keep k,fun i hi=>(h2 i hi).keep k⟩,h.nw⟩
theorem CR.kept{W W' v n R}{S:Nat→Prop}(h:CR W v n R)(k:Kt S W W')(h1:∀ y cs,W.heap[y]?=some (.cells cs 121)→¬S y)(h2:∀ y cs z,W.heap[y]?=some (.cells cs 3 z)→¬S y):CR W' v n R:=by
 obtain⟨V,e1,e2⟩:=h;refine⟨V,zaf e1 k (fun y hy e=>?_),fun i hi=>(e2 i hi).kept k h2⟩;obtain⟨cs,hc⟩:=zaT e1 hy;exact h1 y cs hc e
theorem put7(b:Nat)(lm oo po pp:Int)(fa:Option Addr)(fn fc:Nat)(va:Option Addr)(vn vc:Nat)(ca:Option Addr)(cc:Nat)(pa:Option Addr)(pn pc:Nat)(al:List Cl)(hn:al.length≤1024)(x:Cl)(xa:Option Addr)(xc:Nat)(gone:Bool)(w:World)(h:CR w (.slice ca al.length cc) al.length (fnC al))(hx:NS w (.slice xa x.fl.length xc) x.fl):
  Calls Tryz.prog 49 #[s7V b lm oo po pp (.slice fa fn fc) (.slice va vn vc) (.slice ca al.length cc) (.slice pa pn pc),.agg #[.int .i64 (x.pg:Int),.int .i64 (x.cl:Int),.slice xa x.fl.length xc],.bool gone] w fun e w'=>∃ ca' cc',e=.returned (s7V b lm oo po pp (.slice fa fn fc) (.slice va vn vc) (.slice ca' (putL x gone al).length cc') (.slice pa pn pc))∧Kt nO w w'∧CR w' (.slice ca' (putL x gone al).length cc') (putL x gone al).length (fnC (putL x gone al)):=by
 obtain⟨n,hnn⟩:=xe (al.length);obtain⟨xl,hxl⟩:=xe (x.fl.length);obtain⟨xp,hxp⟩:=xe (x.pg);obtain⟨xk,hxk⟩:=xe (x.cl);have T3:=zmk w (s7O b lm oo po pp (.slice fa fn fc) (.slice va vn vc) (.slice ca n cc) (.slice pa pn pc)) (clO xp xk (.slice xa xl xc)) s7Z;have K0:=hid T3.1;have X0:=hid T3.2.1;have Y0:=hid T3.2.2.1;have Z0:=hid T3.2.2.2;have S0:=hid (show(((w.alloc (s7O b lm oo po pp (.slice fa fn fc) (.slice va vn vc) (.slice ca n cc) (.slice pa pn pc))).alloc (clO xp xk (.slice xa xl xc))).alloc s7Z).heap.size=w.heap.size+3 by simp);have C0:=hid (h.keep T3.1);have N0:=hid (hx.keep T3.1);have PT:=hid (fun (j:Nat) (hj:j<al.length)=>zhy x gone al hj);have FT:=hid (fun (j:Nat) (hj:j<al.length)=>zju x gone al hj);have LP:=hid (fun j=>zfI x gone (al.take j));have HL:=hid (show putL x gone al=putA x gone (al.take n) ++ (if (!gone && !fdB x gone (al.take n))=true then [x] else [])from by rw[hnn,List.take_length];rfl);rw[←hxl,←hxp,←hxk,←hnn];rw[←hnn] at C0;have EN:=hid hnn;have EL:=hid hxl;have EP:=hid hxp;have EK:=hid hxk;have hnb:n≤1024:=by rw[hnn];exact hn
 clear T3 h hx hn hnn hxl hxp hxk;go_enter Tryz.func49,Tryz.ntmps49;go_upto_region 1 with fail;generalize ((w.alloc (s7O b lm oo po pp (.slice fa fn fc) (.slice va vn vc) (.slice ca n cc) (.slice pa pn pc))).alloc (clO xp xk (.slice xa xl xc))).alloc s7Z=W0 at *;have P0:=hid (PC7.nil W0 W0 (Kt.refl nO W0));go_wp2_with fail;go_loopw [7,8,9] (fun f g i W=>∃ j m:Nat,j≤n∧m≤j∧i=.int .i64 (j:Int)∧(∃ t:Bool,g=.bool t∧Hid (t=fdB x gone (al.take j)))∧(∃ ga gc,f=.slice ga m gc)∧Hid (m=(putA x gone (al.take j)).length∧PC7 W0 W f (putA x gone (al.take j)))) (fun _ _ i _=>n-(intOf i).toNat)
 case atStart=>exact⟨0,0,by omega,by omega,rfl,⟨false,rfl,hid (by cases gone <;> rfl)⟩,⟨none,0,rfl⟩,hid ⟨rfl,P0.out⟩⟩
 case round=>
  clear P0;obtain⟨j,m,hj,hm,rfl,⟨t,rfl,hT⟩,⟨ga,gc,rfl⟩,hP⟩:=hrel;have KD:=hid (fun m=>(Kt.refl nO wr).drewN m);obtain⟨c0,c1,c2,c3,c4,c5,c6,c7,c8,fz⟩:=s7c (s7b X0.out hP.out.2.kp);obtain⟨d0,d1,d2⟩:=clc (s7b Y0.out hP.out.2.kp);by_cases hlt:j<n
  ·have hji:(j:Int)<(n:Int):=(by omega);obtain⟨g0,a1,l1,hca,r0,r1,r2,hN⟩:=(C0.out.keep hP.out.2.kp).get j hlt;subst hca;have PJ:=hid (PT.out j (by rw[←EN.out];exact hlt));have FJ:=hid (FT.out j (by rw[←EN.out];exact hlt));obtain⟨q,hq⟩:=xe (fnC al j);rw[←hq] at r0 r1 r2 hN PJ FJ;obtain⟨qp,hqp⟩:=xe (q.pg);obtain⟨qk,hqk⟩:=xe (q.cl);obtain⟨ql,hql⟩:=xe (q.fl.length);rw[←hqp] at r0;rw[←hqk] at r1;rw[←hql] at r2;have QP:=hid hqp;have QK:=hid hqk;have QL:=hid hql;have HN:=hid hN;clear hqp hqk hql hN hq;by_cases e:qp=xp
   ·subst e;have PE:=hid (show q.pg=x.pg from QP.out.symm.trans EP.out)
    cases gone with
    | true=>
     have D:=hid (show t=fdB x true (al.take (j+1))from by rw[FJ.out,←hT.out];simp);have D2:=hid (show m=(putA x true (al.take (j+1))).length∧PC7 W0 wr (.slice ga m gc) (putA x true (al.take (j+1)))from by
      rw[PJ.out,ptS,if_neg (fun h=>h PE.out),if_pos rfl,List.append_nil];exact hP.out)
     go_wp2_with fail;go_quiet (fail)
     have D3:=hid (show m=(putA x true (al.take (j+1))).length∧PC7 W0 (wr.drewN nq) (.slice ga m gc) (putA x true (al.take (j+1)))from⟨D2.out.1,D2.out.2.keep (KD.out nq)⟩);clear D2;go_wp2_with fail;exact⟨⟨j+1,m,by omega,by omega,by simp,⟨t,rfl,D⟩,⟨_,_,rfl⟩,D3⟩,by simp[intOf];omega⟩
    | false=>
     have D:=hid (show true=fdB x false (al.take (j+1))from by rw[FJ.out,PE.out];simp);go_wp2_with fail;go_quiet (fail)
     have P1:=hid (hP.out.2.keep (KD.out nq));have c0:=(KD.out nq).cell (fun e=>e) d0;have c1:=(KD.out nq).cell (fun e=>e) d1;have c2:=(KD.out nq).cell (fun e=>e) d2;clear r0 r1 r2 HN KD d0 d1 d2 c3 c4 c5 c6 c7 c8 fz;generalize wr.drewN nq=w1 at *;obtain⟨g,cap,w',hap,hp2⟩:=P1.out.push x (N0.out.keep P1.out.kp) (by have:=LP.out j;rw[List.length_take] at this;omega);rw[←EL.out,←EP.out,←EK.out,←hP.out.1] at hap;have D3:=hid (show m+1=(putA x false (al.take (j+1))).length∧PC7 W0 w' (.slice (some ⟨g,0,none⟩) (m+1) cap) (putA x false (al.take (j+1)))from by
      rw[PJ.out,ptS,if_neg (fun h=>h PE.out),if_neg (by decide),List.length_append,←hP.out.1];rw[←hP.out.1] at hp2;exact⟨rfl,hp2⟩)
     have HAP:=hid hap;clear hap hp2 P1;go_wp2_with (at_builtin;refine Lib.wpList_append_run _ rfl _ _ _ _ rfl (.slice ga m gc) (.slice (some ⟨w1.heap.size,0,none⟩) 1 1) rfl rfl _ _ (HAP.out _) ?_)
     exact⟨⟨j+1,m+1,by omega,by omega,by simp,⟨true,rfl,D⟩,⟨_,_,rfl⟩,D3⟩,by simp[intOf];omega⟩
   ·have eb:((qp:Int) != (xp:Int))=true:=(by rw[bne_iff_ne];omega);have PE:=hid (show q.pg≠x.pg from fun e2=>e (QP.out.trans (e2.trans EP.out.symm)));have D:=hid (show t=fdB x gone (al.take (j+1))from by rw[FJ.out,←hT.out,decide_eq_false PE.out];simp);go_wp2_with fail;go_quiet (fail)
    have P1:=hid (hP.out.2.keep (KD.out nq));have N1:=hid (HN.out.keep (KD.out nq));have s0:=(KD.out nq).cell (fun e=>e) r0;have s1:=(KD.out nq).cell (fun e=>e) r1;have s2:=(KD.out nq).cell (fun e=>e) r2;have s7:=(KD.out nq).cell (fun e=>e) c7;clear r0 r1 r2 HN KD d0 d1 d2 c0 c1 c2 c3 c4 c5 c6 c7 c8 fz;generalize wr.drewN nq=w1 at *;obtain⟨g,cap,w',hap,hp2⟩:=P1.out.push q N1.out (by have:=LP.out j;rw[List.length_take] at this;omega);rw[←QL.out,←QP.out,←QK.out,←hP.out.1] at hap;have D3:=hid (show m+1=(putA x gone (al.take (j+1))).length∧PC7 W0 w' (.slice (some ⟨g,0,none⟩) (m+1) cap) (putA x gone (al.take (j+1)))from by
     rw[PJ.out,ptS,if_pos PE.out,List.length_append,←hP.out.1];rw[←hP.out.1] at hp2;exact⟨rfl,hp2⟩)
    have HAP:=hid hap;clear hap hp2 P1;go_wp2_with (at_builtin;refine Lib.wpList_append_run _ rfl _ _ _ _ rfl (.slice ga m gc) (.slice (some ⟨w1.heap.size,0,none⟩) 1 1) rfl rfl _ _ (HAP.out _) ?_)
    exact⟨⟨j+1,m+1,by omega,by omega,by simp,⟨t,rfl,D⟩,⟨_,_,rfl⟩,D3⟩,by simp[intOf];omega⟩
  ·obtain rfl:j=n:=(by omega);have hji:¬(j:Int)<(j:Int):=(by omega);clear PT FT KD;by_cases e:(!gone && !t)=true
   ·have PF:=hid (show putL x gone al=putA x gone (al.take j) ++ [x] from by rw[HL.out,←hT.out,if_pos e]);obtain⟨g,cap,w',hap,hp2⟩:=hP.out.2.push x (N0.out.keep hP.out.2.kp) (by have:=LP.out j;rw[List.length_take] at this;omega);rw[←EL.out,←EP.out,←EK.out,←hP.out.1] at hap;rw[←hP.out.1,←PF.out] at hp2;have hle:(putL x gone al).length=m+1:=(by rw[PF.out,List.length_append,←hP.out.1];rfl);clear PF HL;have PF:=hid (show m+1=(putL x gone al).length∧PC7 W0 w' (.slice (some ⟨g,0,none⟩) (m+1) cap) (putL x gone al)from⟨hle.symm,hp2⟩);have HAP:=hid hap;clear hap hp2 hle hT;obtain⟨e1,e2⟩:=(Bool.and_eq_true _ _).mp e;rw[Bool.not_eq_true'] at e1 e2;subst e1 e2;clear e;go_upto_region 13 with (at_builtin;refine Lib.wpList_append_run _ rfl _ _ _ _ rfl (.slice ga m gc) (.slice (some ⟨wr.heap.size,0,none⟩) 1 1) rfl rfl _ _ (HAP.out _) ?_);have hsz:=S0.out;have hx':=s7b X0.out PF.out.2.kp;have hz':=s7b Z0.out PF.out.2.kp;have X3:=hid (show(w'.setCell ⟨w.heap.size,7,none⟩ (.slice (some ⟨g,0,none⟩) (m+1) cap)).heap[w.heap.size]?=some (s7O b lm oo po pp (.slice fa fn fc) (.slice va vn vc) (.slice (some ⟨g,0,none⟩) (m+1) cap) (.slice pa pn pc))from hS9 hx' 7 _);have ks:Kt (fun y=>y=w.heap.size) w' (w'.setCell ⟨w.heap.size,7,none⟩ (.slice (some ⟨g,0,none⟩) (m+1) cap)):=(Kt.refl (fun y=>y=w.heap.size) w').setCell (p:=⟨w.heap.size,7,none⟩) rfl _;have Z3:=hid ((ks.block _ (lH hz') (by omega)).trans hz');have K3:=hid ((nT K0.out PF.out.2.kp).setNew (p:=⟨w.heap.size,7,none⟩) (fun e=>absurd e (Nat.lt_irrefl _)) (.slice (some ⟨g,0,none⟩) (m+1) cap));have F3:=hid (show CR (w'.setCell ⟨w.heap.size,7,none⟩ (.slice (some ⟨g,0,none⟩) (m+1) cap)) (.slice (some ⟨g,0,none⟩) (m+1) cap) (m+1) (fnC (putL x false al))from by
     have hcr:=PF.out.2.cr;rw[←PF.out.1] at hcr;refine hcr.kept ks (fun y cs hy e=>?_) (fun y cs z hy e=>?_)
     ·rw[e,hx'] at hy;injection hy with hy
      injection hy with _ hy
      exact absurd hy (by decide)
     ·rw[e,hx'] at hy;injection hy with hy
      injection hy with _ hy
      exact absurd hy (by decide))
    clear c0 c1 c2 c3 c4 c5 c6 c7 c8 fz;obtain⟨c0,c1,c2,c3,c4,c5,c6,c7,c8,fz⟩:=s7c hx';go_upto_region 14 with fail;generalize w'.setCell ⟨w.heap.size,7,none⟩ (.slice (some ⟨g,0,none⟩) (m+1) cap)=w3 at *;clear c0 c1 c2 c3 c4 c5 c6 c7 c8 fz hx' ks hz';obtain⟨c0,c1,c2,c3,c4,c5,c6,c7,c8,fz⟩:=s7c X3.out;obtain⟨z0,z1,z2,z3,z4,z5,z6,z7,z8,fy⟩:=s7z Z3.out;have HF:=hid (show Kt nO w (fin9 w3 (w.heap.size+2) b lm oo po pp (.slice fa fn fc) (.slice va vn vc) (.slice (some ⟨g,0,none⟩) (m+1) cap) (.slice pa pn pc))∧CR (fin9 w3 (w.heap.size+2) b lm oo po pp (.slice fa fn fc) (.slice va vn vc) (.slice (some ⟨g,0,none⟩) (m+1) cap) (.slice pa pn pc)) (.slice (some ⟨g,0,none⟩) (m+1) cap) (m+1) (fnC (putL x false al))from by
     have kf:=zad w3 (w.heap.size+2) b lm oo po pp (.slice fa fn fc) (.slice va vn vc) (.slice (some ⟨g,0,none⟩) (m+1) cap) (.slice pa pn pc);refine⟨K3.out.trans kf (fun _ _ e=>e) (fun y hy e=>by omega),F3.out.kept kf (fun y cs hy e=>?_) (fun y cs z hy e=>?_)⟩
     ·rw[e,Z3.out] at hy;injection hy with hy
      injection hy with _ hy
      exact absurd hy (by decide)
     ·rw[e,Z3.out] at hy;injection hy with hy
      injection hy with _ hy
      exact absurd hy (by decide))
    have EM:=hid PF.out.1;go_wp2_with fail;exact⟨rfl,s7V b lm oo po pp (.slice fa fn fc) (.slice va vn vc) (.slice (some ⟨g,0,none⟩) (m+1) cap) (.slice pa pn pc),by simp[results,Tryz.results49,go_sem,z0,z1,z2,z3,z4,z5,z6,z7,z8],(some ⟨g,0,none⟩),cap,by rw[←EM.out],HF.out.1,by rw[←EM.out];exact HF.out.2⟩
   ·have PF:=hid (show putL x gone al=putA x gone (al.take j)from by rw[HL.out,←hT.out,if_neg e,List.append_nil]);have hp2:=hP.out;rw[←PF.out] at hp2;clear PF HL;have PF:=hid hp2;clear hp2 hT
    cases gone with
    | true=>
     go_upto_region 13 with fail;have hsz:=S0.out;have hx':=s7b X0.out PF.out.2.kp;have hz':=s7b Z0.out PF.out.2.kp;have X3:=hid (show(wr.setCell ⟨w.heap.size,7,none⟩ (.slice ga m gc)).heap[w.heap.size]?=some (s7O b lm oo po pp (.slice fa fn fc) (.slice va vn vc) (.slice ga m gc) (.slice pa pn pc))from hS9 hx' 7 _);have ks:Kt (fun y=>y=w.heap.size) wr (wr.setCell ⟨w.heap.size,7,none⟩ (.slice ga m gc)):=(Kt.refl (fun y=>y=w.heap.size) wr).setCell (p:=⟨w.heap.size,7,none⟩) rfl _;have Z3:=hid ((ks.block _ (lH hz') (by omega)).trans hz');have K3:=hid ((nT K0.out PF.out.2.kp).setNew (p:=⟨w.heap.size,7,none⟩) (fun e=>absurd e (Nat.lt_irrefl _)) (.slice ga m gc));have F3:=hid (show CR (wr.setCell ⟨w.heap.size,7,none⟩ (.slice ga m gc)) (.slice ga m gc) m (fnC (putL x true al))from by
      have hcr:=PF.out.2.cr;rw[←PF.out.1] at hcr;refine hcr.kept ks (fun y cs hy e=>?_) (fun y cs z hy e=>?_)
      ·rw[e,hx'] at hy;injection hy with hy
       injection hy with _ hy
       exact absurd hy (by decide)
      ·rw[e,hx'] at hy;injection hy with hy
       injection hy with _ hy
       exact absurd hy (by decide))
     clear c0 c1 c2 c3 c4 c5 c6 c7 c8 fz;obtain⟨c0,c1,c2,c3,c4,c5,c6,c7,c8,fz⟩:=s7c hx';go_upto_region 14 with fail;generalize wr.setCell ⟨w.heap.size,7,none⟩ (.slice ga m gc)=w3 at *;clear c0 c1 c2 c3 c4 c5 c6 c7 c8 fz hx' ks hz';obtain⟨c0,c1,c2,c3,c4,c5,c6,c7,c8,fz⟩:=s7c X3.out;obtain⟨z0,z1,z2,z3,z4,z5,z6,z7,z8,fy⟩:=s7z Z3.out;have HF:=hid (show Kt nO w (fin9 w3 (w.heap.size+2) b lm oo po pp (.slice fa fn fc) (.slice va vn vc) (.slice ga m gc) (.slice pa pn pc))∧CR (fin9 w3 (w.heap.size+2) b lm oo po pp (.slice fa fn fc) (.slice va vn vc) (.slice ga m gc) (.slice pa pn pc)) (.slice ga m gc) m (fnC (putL x true al))from by
      have kf:=zad w3 (w.heap.size+2) b lm oo po pp (.slice fa fn fc) (.slice va vn vc) (.slice ga m gc) (.slice pa pn pc);refine⟨K3.out.trans kf (fun _ _ e=>e) (fun y hy e=>by omega),F3.out.kept kf (fun y cs hy e=>?_) (fun y cs z hy e=>?_)⟩
      ·rw[e,Z3.out] at hy;injection hy with hy
       injection hy with _ hy
       exact absurd hy (by decide)
      ·rw[e,Z3.out] at hy;injection hy with hy
       injection hy with _ hy
       exact absurd hy (by decide))
     have EM:=hid PF.out.1;go_wp2_with fail;exact⟨rfl,s7V b lm oo po pp (.slice fa fn fc) (.slice va vn vc) (.slice ga m gc) (.slice pa pn pc),by simp[results,Tryz.results49,go_sem,z0,z1,z2,z3,z4,z5,z6,z7,z8],ga,gc,by rw[←EM.out],HF.out.1,by rw[←EM.out];exact HF.out.2⟩
    | false=>
     obtain rfl:t=true:=(by cases t <;> simp at e ⊢);clear e;go_upto_region 13 with fail;have hsz:=S0.out;have hx':=s7b X0.out PF.out.2.kp;have hz':=s7b Z0.out PF.out.2.kp;have X3:=hid (show(wr.setCell ⟨w.heap.size,7,none⟩ (.slice ga m gc)).heap[w.heap.size]?=some (s7O b lm oo po pp (.slice fa fn fc) (.slice va vn vc) (.slice ga m gc) (.slice pa pn pc))from hS9 hx' 7 _);have ks:Kt (fun y=>y=w.heap.size) wr (wr.setCell ⟨w.heap.size,7,none⟩ (.slice ga m gc)):=(Kt.refl (fun y=>y=w.heap.size) wr).setCell (p:=⟨w.heap.size,7,none⟩) rfl _;have Z3:=hid ((ks.block _ (lH hz') (by omega)).trans hz');have K3:=hid ((nT K0.out PF.out.2.kp).setNew (p:=⟨w.heap.size,7,none⟩) (fun e=>absurd e (Nat.lt_irrefl _)) (.slice ga m gc));have F3:=hid (show CR (wr.setCell ⟨w.heap.size,7,none⟩ (.slice ga m gc)) (.slice ga m gc) m (fnC (putL x false al))from by
      have hcr:=PF.out.2.cr;rw[←PF.out.1] at hcr;refine hcr.kept ks (fun y cs hy e=>?_) (fun y cs z hy e=>?_)
      ·rw[e,hx'] at hy;injection hy with hy
       injection hy with _ hy
       exact absurd hy (by decide)
      ·rw[e,hx'] at hy;injection hy with hy
       injection hy with _ hy
       exact absurd hy (by decide))
     clear c0 c1 c2 c3 c4 c5 c6 c7 c8 fz;obtain⟨c0,c1,c2,c3,c4,c5,c6,c7,c8,fz⟩:=s7c hx';go_upto_region 14 with fail;generalize wr.setCell ⟨w.heap.size,7,none⟩ (.slice ga m gc)=w3 at *;clear c0 c1 c2 c3 c4 c5 c6 c7 c8 fz hx' ks hz';obtain⟨c0,c1,c2,c3,c4,c5,c6,c7,c8,fz⟩:=s7c X3.out;obtain⟨z0,z1,z2,z3,z4,z5,z6,z7,z8,fy⟩:=s7z Z3.out;have HF:=hid (show Kt nO w (fin9 w3 (w.heap.size+2) b lm oo po pp (.slice fa fn fc) (.slice va vn vc) (.slice ga m gc) (.slice pa pn pc))∧CR (fin9 w3 (w.heap.size+2) b lm oo po pp (.slice fa fn fc) (.slice va vn vc) (.slice ga m gc) (.slice pa pn pc)) (.slice ga m gc) m (fnC (putL x false al))from by
      have kf:=zad w3 (w.heap.size+2) b lm oo po pp (.slice fa fn fc) (.slice va vn vc) (.slice ga m gc) (.slice pa pn pc);refine⟨K3.out.trans kf (fun _ _ e=>e) (fun y hy e=>by omega),F3.out.kept kf (fun y cs hy e=>?_) (fun y cs z hy e=>?_)⟩
      ·rw[e,Z3.out] at hy;injection hy with hy
       injection hy with _ hy
       exact absurd hy (by decide)
      ·rw[e,Z3.out] at hy;injection hy with hy
       injection hy with _ hy
       exact absurd hy (by decide))
     have EM:=hid PF.out.1;go_wp2_with fail;exact⟨rfl,s7V b lm oo po pp (.slice fa fn fc) (.slice va vn vc) (.slice ga m gc) (.slice pa pn pc),by simp[results,Tryz.results49,go_sem,z0,z1,z2,z3,z4,z5,z6,z7,z8],ga,gc,by rw[←EM.out],HF.out.1,by rw[←EM.out];exact HF.out.2⟩
theorem NS.get{W a l c}(h:NS W (.slice a l.length c) l){i:Nat}(hi:i<l.length):∃ g o,a=some ⟨g,o,none⟩∧W.cell? ⟨g,o+i,none⟩=some (.int .i64 ((l.getD i 0:Nat):Int)):=by
 obtain⟨a2,c2,h1,_,h2⟩:=h;injection h1 with e1 e2 e3
 subst e1;rcases h2 with h2|⟨g,o,h3,_,h5⟩
 ·rw[h2] at hi;exact absurd hi (Nat.not_lt_zero _)
 ·exact⟨g,o,h3,h5 i hi⟩
theorem zgH(l:List Nat){j:Nat}(hj:j<l.length):l.take (j + 1)=l.take j ++ [l.getD j 0]:=by
 rw[List.take_add_one,List.getElem?_eq_getElem hj,List.getD_eq_getElem?_getD,List.getElem?_eq_getElem hj];rfl
theorem getD_mem(l:List Nat){j:Nat}(hj:j<l.length):l.getD j 0∈l:=by
 rw[List.getD_eq_getElem?_getD,List.getElem?_eq_getElem hj];exact List.getElem_mem hj
theorem zme(p k:Nat)(a:Option Addr)(c:Nat)(fl:List Nat)(hn:fl.length≤2000)(x:Nat)(w:World)(h:NS w (.slice a fl.length c) fl):
  Calls Tryz.prog 125 #[.agg #[.int .i64 (p:Int),.int .i64 (k:Int),.slice a fl.length c],.int .i64 (x:Int)] w fun e w'=>e=.returned (.bool (decide (x∈fl)))∧Kt nO w w':=by
 obtain⟨n,hnn⟩:=xe (fl.length);have K0:=hid ((Kt.refl nO w).alloc (clO p k (.slice a n c)));have X0:=hid (nH w (clO p k (.slice a n c)));have N0:=hid (h.keep K0.out);have EN:=hid hnn;have hnb:n≤2000:=by rw[hnn];exact hn
 rw[←hnn];have T0:x ∉ fl.take 0:=by simp
 have TS:=hid (fun j (hj:j<fl.length)=>zgH fl hj);have MM:=hid (fun j (hj:j<fl.length)=>getD_mem fl hj);obtain⟨B,hB⟩:=xe (decide (x∈fl));rw[←hB];have HB:=hid hB;clear h hn hnn hB;go_enter Tryz.func125,Tryz.ntmps125;go_upto_region 1 with fail;generalize w.heap.size=y at *;generalize w.alloc (clO p k (.slice a n c))=W0 at *;obtain⟨c0,c1,c2⟩:=clc X0.out;go_wp2_with fail;go_loopw [5] (fun s W=>W=W0∧∃ i:Nat,i≤n∧s=.int .i64 (i:Int)∧Hid (x ∉ fl.take i)) (fun s _=>n-(intOf s).toNat)
 case atStart=>exact⟨rfl,0,Nat.zero_le _,rfl,hid T0⟩
 case round=>
  clear T0;obtain⟨rfl,i,hi,rfl,hN⟩:=hrel;by_cases hlt:i<n
  ·have hii:(i:Int)<(n:Int):=(by omega);have hl2:i<fl.length:=(by rw[←EN.out];exact hlt);obtain⟨g,o,rfl,r0⟩:=N0.out.get hl2;have TI:=hid (TS.out i hl2);have MI:=hid (MM.out i hl2);clear hl2;generalize fl.getD i 0=q at *;by_cases e:q=x
   ·subst e;have D:=hid (show B=true from by rw[HB.out,decide_eq_true MI.out]);go_wp2_with fail;go_ret;exact⟨by rw[D.out];rfl,K0.out⟩
   ·have eb:((q:Int) == (x:Int))=false:=(by rw[beq_eq_false_iff_ne];omega);have D:=hid (show x ∉ fl.take (i+1)from by
     rw[TI.out,List.mem_append,List.mem_singleton];rintro (h|h)
     ·exact hN.out h
     ·exact e h.symm)
    go_wp2_with fail;exact⟨⟨trivial,i+1,by omega,by simp,D⟩,by simp[intOf];omega⟩
  ·obtain rfl:i=n:=(by omega);have hii:¬(i:Int)<(i:Int):=(by omega);have D:=hid (show B=false from by
    have:=hN.out;rw[EN.out,List.take_length] at this;rw[HB.out,decide_eq_false this])
   go_wp2_with fail;go_ret;exact⟨by rw[D.out];rfl,K0.out⟩
def hdL(pl:Nat→List Nat)(n:Nat):List Value:=(List.range n).map fun k=>.int .i64 (hdI (pl k))
theorem zkD(pl:Nat→List Nat)(n:Nat):hdL pl (n + 1)=hdL pl n ++ [.int .i64 (hdI (pl n))]:=by
 unfold hdL;rw[List.range_succ,List.map_append];rfl
theorem zmf{l:List Nat}(h : 0<l.length):hdI l=((l.getD 0 0:Nat):Int):=by
 cases l with
 | nil=>exact absurd h (Nat.lt_irrefl _)
 | cons a l=>rfl
theorem zjn(b:Nat)(lm oo po pp:Int)(fv lv cv:Value)(pa:Option Addr)(pc:Nat)(pl:Nat→List Nat)(w:World)(h:FL w pa pc 7 pl):
  Calls Tryz.prog 62 #[s7V b lm oo po pp fv lv cv (.slice pa 8 pc)] w fun e w'=>∃ va vc,e=.returned (.slice va 8 vc)∧Kt nO w w'∧w'.ownsRow 0 3 1 (.slice va 8 vc) 8 (hdL pl 8):=by
 have K0:=hid ((Kt.refl nO w).alloc (s7O b lm oo po pp fv lv cv (.slice pa 8 pc)));have X0:=hid (nH w (s7O b lm oo po pp fv lv cv (.slice pa 8 pc)));have F0:=hid (h.keep K0.out);have HS:=hid (zkD pl);have H0:hdL pl 0=[]:=rfl;obtain⟨H,hH⟩:=xe (hdL pl);rw[←hH] at HS H0 ⊢;obtain⟨g0,A0,C0,hpa,_⟩:=h.get 0 (by omega);subst hpa;clear h hH;go_enter Tryz.func62,Tryz.ntmps62;go_upto_region 1 with fail;generalize w.alloc (s7O b lm oo po pp fv lv cv (.slice (some ⟨g0,0,none⟩) 8 pc))=W0 at *;have G0:=hid (show GS W0 W0 3 1 (.slice none 0 0) 0 (H 0)from by rw[H0];exact GS.nil W0 W0 3 1 (Kt.refl nO W0));clear H0;go_wp2_with fail;go_loopw [3,4,5] (fun f i _ W=>∃ j:Nat,j≤8∧i=.int .i64 (j:Int)∧(∃ ga gc,f=.slice ga j gc)∧Hid (GS W0 W 3 1 f j (H j))) (fun _ i _ _=>8-(intOf i).toNat)
 case atStart=>exact⟨0,by omega,rfl,⟨none,0,rfl⟩,G0⟩
 case round=>
  clear G0;obtain⟨j,hj,rfl,⟨ga,gc,rfl⟩,hG⟩:=hrel;obtain⟨c0,c1,c2,c3,c4,c5,c6,c7,c8,fz⟩:=s7c (s7b X0.out hG.out.kp);by_cases hlt:j<8
  ·have hji:(j:Int)<8:=(by omega);obtain⟨g1,A,C,hg1,r0,hN⟩:=(F0.out.keep hG.out.kp).get j (by omega);injection hg1 with hg1
   injection hg1 with hg1
   subst hg1;by_cases hl : 0<(pl j).length
   ·obtain⟨g2,hA,r1⟩:=hN.get hl;subst hA;have HJ:=hid (show H (j + 1)=H j ++ [.int .i64 (((pl j).getD 0 0:Nat):Int)] from by rw[HS.out,zmf hl]);clear hN;generalize (pl j).getD 0 0=q at *;generalize (pl j).length=L at *;obtain⟨g,cap,w',hap,hg2,hge,hkeep⟩:=zaK hG.out (q:Int) (by omega);have HAP:=hid hap;have G2:=hid (show GS W0 w' 3 1 (.slice (some ⟨g,0,none⟩) (j+1) cap) (j+1) (H (j+1))from by rw[HJ.out];exact hg2);clear hap hg2 hge hkeep;have hli:(0:Int)<(L:Int):=(by omega);go_wp2_with (at_builtin;refine Lib.wpList_append_run _ rfl _ _ _ _ rfl (.slice ga j gc) (.slice (some ⟨wr.heap.size,0,none⟩) 1 1) rfl rfl _ _ (HAP.out _) ?_)
    exact⟨⟨j+1,by omega,by simp,⟨_,_,rfl⟩,G2⟩,by simp[intOf];omega⟩
   ·have hl0:(pl j).length=0:=(by omega);have HJ:=hid (show H (j + 1)=H j ++ [.int .i64 (-1)] from by rw[HS.out,zle.2 (List.eq_nil_of_length_eq_zero hl0)]);rw[hl0] at r0;clear hN hl hl0;obtain⟨g,cap,w',hap,hg2,hge,hkeep⟩:=zaK hG.out (-1:Int) (by omega);have HAP:=hid hap;have G2:=hid (show GS W0 w' 3 1 (.slice (some ⟨g,0,none⟩) (j+1) cap) (j+1) (H (j+1))from by rw[HJ.out];exact hg2);clear hap hg2 hge hkeep;go_wp2_with (at_builtin;refine Lib.wpList_append_run _ rfl _ _ _ _ rfl (.slice ga j gc) (.slice (some ⟨wr.heap.size,0,none⟩) 1 1) rfl rfl _ _ (HAP.out _) ?_)
    exact⟨⟨j+1,by omega,by simp,⟨_,_,rfl⟩,G2⟩,by simp[intOf];omega⟩
  ·obtain rfl:j=8:=(by omega);have D:=hid (show Kt nO w wr∧wr.ownsRow 0 3 1 (.slice ga 8 gc) 8 (H 8)from⟨nT K0.out hG.out.kp,hG.out.own⟩);go_wp2_with fail;go_ret;exact⟨ga,gc,rfl,D.out⟩
end Go.Proofs.YtgjdmkfpmokkaaaGreatDoor
