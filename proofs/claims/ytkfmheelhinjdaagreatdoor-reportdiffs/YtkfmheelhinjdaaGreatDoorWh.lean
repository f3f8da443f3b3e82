import Derived.Lib.ItoaNum
import Derived.Test.YtkfmheelhinjdaaGreatDoorWf
import Derived.Test.YtkfmheelhinjdaaGreatDoorXp
set_option maxRecDepth 1000000
set_option maxHeartbeats 80000000
namespace Go.Proofs.YtkfmheelhinjdaaGreatDoor
open _root_.Go.Proofs.Tryz
set_option linter.unusedVariables false
def lC(s n:Nat):List UInt8:=Lib.decDigits s ++ (32 :: (Lib.decDigits n ++ (32 :: (Lib.decDigits (s*n%18446744073709551616) ++ [10]))))
def dN(l:List (Nat×Nat)):List Nat:=l.map (·.2)
def iF(l:List (Nat×Nat))(ks:List Nat):List UInt8:=(ks.map fun s=>lC s ((dN l).count s)).flatten
def nZ(l:List (Nat×Nat))(ks:List Nat):Prop:=ks.Pairwise (·<·)/\∀ x,x∈ks↔x∈dN l
theorem nZ.uniq{l:List (Nat×Nat)}{a b:List Nat}(h:nZ l a)(k:nZ l b):a=b:=
 zX (lt:=(·<·)) Nat.lt_irrefl (fun _ _ _=>Nat.lt_trans) a b h.1 k.1 fun x=>(h.2 x).trans (k.2 x).symm
theorem nF(n:Nat)(h:n<18446744073709551616):(Lib.decDigits n).length<=20:=by
 have key:∀ k,∀ m,m<10 ^ (k+1)->(Lib.decDigits m).length<=k+1:=fun k=>by
  induction k with
  | zero=>intro m hm;rw[Lib.decDigits_one (by simpa using hm)];simp
  | succ k ih=>
   intro m hm;by_cases e:m<10
   ·rw[Lib.decDigits_one e];simp
   ·rw[Lib.decDigits,dif_neg e,List.length_append];have:=ih (m/10) (by rw[Nat.pow_succ] at hm;omega);simp;omega
 have:=key 19 n (by omega);omega
theorem GZ(s n:Nat)(hs:s<18446744073709551616)(hn:n<18446744073709551616) : 1<=(lC s n).length/\(lC s n).length<=63:=by
 have h1:=nF s hs;have h2:=nF n hn;have h3:=nF (s*n%18446744073709551616) (Nat.mod_lt _ (by decide));unfold lC;simp only[List.length_append,List.length_cons,List.length_nil];omega
theorem GY(l:List (Nat×Nat))(ks:List Nat)(s:Nat):iF l (ks ++ [s])=iF l ks ++ lC s ((dN l).count s):=by
 unfold iF;simp
theorem xL(l:List (Nat×Nat)):∀ ks:List Nat,(∀ x∈ks,x<18446744073709551616)->l.length<18446744073709551616->(iF l ks).length<=63*ks.length
 | [],_,_=>Nat.le_refl _
 | k :: ks,h,hl=>by
  have ih:=xL l ks (fun x hx=>h x (List.mem_cons_of_mem _ hx)) hl;have hc:(dN l).count k<=l.length:=by
   have:=List.count_le_length (a:=k) (l:=dN l);simpa [dN] using this
  have:=(GZ k ((dN l).count k) (h k List.mem_cons_self) (by omega)).2;have e:iF l (k :: ks)=lC k ((dN l).count k) ++ iF l ks:=by unfold iF;simp
  rw[e,List.length_append,List.length_cons];omega
theorem zD{α : Type}[BEq α][LawfulBEq α] : ∀ (a b:List α),a.Nodup->(∀ x∈a,x∈b)->a.length<=b.length
 | [],b,_,_=>Nat.zero_le _
 | x :: a,b,h,hs=>by
  obtain⟨h1,h2⟩:=List.nodup_cons.1 h;have hx:=hs x List.mem_cons_self;have:=zD a (b.erase x) h2 fun y hy=>(List.mem_erase_of_ne (fun (e:y=x)=>h1 (e▸hy))).2 (hs y (List.mem_cons_of_mem _ hy))
  rw[List.length_erase_of_mem hx] at this;have:=List.length_pos_of_mem hx;rw[List.length_cons];omega
end Go.Proofs.YtkfmheelhinjdaaGreatDoor
namespace Go.Proofs.YtkfmheelhinjdaaGreatDoor.W
open _root_.Go.Proofs.Tryz
open Go.RowKit
set_option linter.unusedVariables false
set_option maxHeartbeats 8000000
set_option maxRecDepth 6000
def lW{α : Type}[BEq α](enc : α->Value)(ok : α->Prop)(w:World)(xs:List α)(e:Ending)(w':World):Prop:=
 ∃ g D,e=.returned (.map (some g))/\w.heap.size<=g/\MC enc ok w' g D (fun a=>xs.count a)/\(∀ a,a∈D↔a∈xs)/\D.length<=xs.length/\Kt nO w w'
structure TaI{α : Type}[BEq α](enc : α->Value)(ok : α->Prop)(w W:World)(g:Nat)(xs:List α)(a:Nat)(D:List α):Prop where
 m:MC enc ok W g D (fun x=>(xs.take a).count x)
 me:∀ x,x∈D↔x∈xs.take a
 le:D.length<=a
 k:Kt nO w W
 nw:w.heap.size<=g
section
variable {α : Type} [BEq α] {enc : α->Value} {ok : α->Prop} {w W W':World} {g a:Nat} {xs D:List α} {x : α}
theorem TaI.start(w:World):TaI enc ok w (w.alloc (.map #[] 0)) w.heap.size xs 0 []:=by
 refine⟨?_,by simp,Nat.le_refl _,(Kt.refl _ w).alloc _,Nat.le_refl _⟩;have:=MC.made (enc:=enc) (ok:=ok) w;simpa using this
theorem TaI.at[LawfulBEq α](h:TaI enc ok w W g xs a D)(hx:xs[a]?=some x):(xs.take (a+1)).count x=(xs.take a).count x+1/\∀ y,y≠x->(xs.take (a+1)).count y=(xs.take a).count y:=by
 have e:xs.take (a + 1)=xs.take a ++ [x]:=by rw[List.take_add_one,hx];rfl
 constructor
 ·rw[e,List.count_append];simp
 ·intro y hy;rw[e,List.count_append,List.count_eq_zero.2 (show ¬y∈[x] by simpa using hy),Nat.add_zero]
theorem TaI.next(h:TaI enc ok w W g xs a D)(hx:xs[a]?=some x)(m:MC enc ok W' g (aY D x) (fun y=>(xs.take (a+1)).count y))(k:Kt nO w W'):TaI enc ok w W' g xs (a+1) (aY D x):=by
 have e:xs.take (a + 1)=xs.take a ++ [x]:=by rw[List.take_add_one,hx];rfl
 refine⟨m,fun y=>?_,Nat.le_trans (OH x) (Nat.succ_le_succ h.le),k,h.nw⟩;rw[nN,h.me,e];simp
theorem TaI.done(h:TaI enc ok w W g xs xs.length D):lW enc ok w xs (.returned (.map (some g))) W:=by
 have m:=h.m;have me:=h.me;rw[List.take_length] at me;simp only[List.take_length] at m;exact⟨g,D,rfl,h.nw,m,me,h.le,h.k⟩
end
theorem tB{w W W':World}{g:Nat}(h:Kt nO w W)(k:Kt (fun x=>x=g) W W')(hg:w.heap.size<=g):Kt nO w W':=
 h.trans k (fun _ _ x=>x) (fun x hx e=>by cases e;exact absurd hx (Nat.not_lt.2 hg))
theorem QU(p s:Int)(W:World):Calls prog 54 #[.agg #[.int .u64 p,.int .u64 s]] W fun e w'=>e=.returned (.int .u64 s)/\Kt nO W w':=by
 go_enter func54,ntmps54;go_wp2_with fail;go_ret;exact⟨rfl,(Kt.refl _ W).alloc _⟩
theorem lS(w:World):(zeroValue 3).run prog w=.ok (.int .i64 0) w:=by kernel_rfl
theorem NI(v:Value)(l:List (Nat×Nat))(w:World)(hl:l.length<=281474976710656)(hb:∀ b∈l,fC b.2)(hv:RBk w v l):
  Calls prog 53 #[v,.func (.func 54) #[] #[]] w (lW eU fC w (dN l)):=by
 have HV:=aA hv;obtain⟨va,vc,hv1,-⟩:=hv;obtain⟨n,hn⟩:=xe (l.length);obtain⟨xs,hxs⟩:=xe (dN l);rw[<-hn] at hl hv1;have HN:=aA (show xs.length=n by rw[hxs,hn];simp[dN]);have RW:=aA (show ∀ W,Kt nO w W->∀ j,j<n->∃ g,∃ p s:Nat,va=some ⟨g,0,none⟩/\xs[j]?=some s/\fC s/\W.cell? ⟨g,j*2,none⟩=some (.int .u64 p)/\W.cell? ⟨g,j*2+1,none⟩=some (.int .u64 s)from fun W hW j hj=>by
  obtain⟨oa,oc,q1,q2⟩:=HV.out;rw[hv1] at q1
  cases q1
  rcases q2 with q2|⟨g,rfl,hg,hc⟩
  ·rw[hn,q2] at hj;simp at hj
  have hd:l.getD j (0,0)=l[j]'(hn▸hj):=by rw[List.getD_eq_getElem?_getD,List.getElem?_eq_getElem (hn▸hj)];rfl
  refine⟨g,(l.getD j (0,0)).1,(l.getD j (0,0)).2,rfl,?_,?_,hW.cell (fun x=>x) (hc j (by omega)).1,hW.cell (fun x=>x) (hc j (by omega)).2⟩
  ·rw[hxs,hd];unfold dN;rw[List.getElem?_map,List.getElem?_eq_getElem (hn▸hj)];rfl
  ·rw[hd];exact hb _ (List.getElem_mem _))
 rw[<-hxs];clear hxs HV hn hb;subst hv1;have hmk:∀ w,(Instr.makeMap 106 none).run prog w=.ok (.map (some w.heap.size)) (w.alloc (.map #[] 0)):=fun w=>run_makeMap _ w
 have I0:=aA (show TaI eU fC w (w.alloc (.map #[] 0)) w.heap.size xs 0 [] from TaI.start w);go_enter func53,ntmps53;go_wp2_with fail;generalize w.alloc (.map #[] 0)=W1 at *;generalize hgx:w.heap.size=gx at *;clear hmk;go_loopw [11] (fun i W=>∃ a D,a<=n/\i=.int .i64 ((a:Nat):Int)/\Hid (TaI eU fC w W gx xs a D)) (fun i _=>n-(intOf i).toNat)
 case atStart=>exact⟨0,[],Nat.zero_le _,rfl,I0⟩
 case round=>
  clear I0;obtain⟨a,D,ha,rfl,HI⟩:=hrel;by_cases hlt:a<n
  ·have hai:(a:Int)<n:=(by omega);obtain⟨bl,p,s,rfl,hs,h64,r0,r1⟩:=RW.out wr HI.out.k a hlt;have HS:=aA hs;have H64:=aA h64;clear hs h64;go_wp2_with fail;refine(QU _ _ _).mono ?_;rintro e w2 ⟨rfl,hk⟩;have K1:=aA (nT ((Kt.refl nO wr).alloc _) hk);have M2:=aA (HI.out.m.kept K1.out (fun x=>x));have AT:=aA (TaI.at HI.out HS.out);obtain⟨c,hc⟩:∃ c,(xs.take a).count s=c:=⟨_,rfl⟩;have hcn:c<=n:=by
    rw[<-hc];exact Nat.le_trans List.count_le_length (by rw[List.length_take];omega)
   have HC:=aA hc;have A1:=aA (AT.out.1.trans (congrArg (·+1) hc));have DL:=aA (show D.length<maxLen from by have:=HI.out.le;unfold maxLen;omega);have NX:=aA (fun W' m k=>TaI.next HI.out HS.out (W':=W') m k);clear hk hc r0 r1;go_wp2_with (first|(at_lookup;refine rH _ rfl _ _ 106 rfl 27 3 mS Tryz.underlying106 (lS _) gx rfl M2.out s H64.out rfl c HC.out ?_)|(at_mapUpdate;refine VN _ rfl _ _ _ 106 rfl 27 3 mS Tryz.underlying106 gx rfl M2.out DL.out s H64.out rfl (c+1) (fun y=>(xs.take (a+1)).count y) A1.out AT.out.2 rfl ?_;intro w3 m3 k3 z3;have M3:=aA m3;have K3:=aA k3;clear m3 k3 z3))
   refine⟨⟨a+1,_,by omega,by simp,aA (NX.out w3 M3.out (tB (nT HI.out.k K1.out) K3.out HI.out.nw))⟩,by simp[intOf];omega⟩
  ·have hae:a=n:=(by omega);have hai:¬(a:Int)<n:=(by omega);have FIN:=aA (show lW eU fC w xs (.returned (.map (some gx))) wr from by
    have h:=HI.out;rw[hae,<-HN.out] at h;exact h.done)
   clear HI;go_wp2_with fail;go_ret;exact FIN.out
end Go.Proofs.YtkfmheelhinjdaaGreatDoor.W
namespace Go.Proofs.YtkfmheelhinjdaaGreatDoor.W
open _root_.Go.Proofs.Tryz
open Go.RowKit Go.Sort
set_option linter.unusedVariables false
set_option maxHeartbeats 8000000
set_option maxRecDepth 6000
def aX(x y:Nat):Int:=if x<y then -1 else if y<x then 1 else 0
theorem mR(x y:Nat):ltOf aX x y=decide (x<y):=by
 unfold ltOf aX;by_cases h1:x<y
 ·simp[h1]
 ·by_cases h2:y<x <;> simp[h1,h2]
theorem vA:SWO (ltOf aX) where
 irrefl x:=by rw[mR];simp
 trans x y z h1 h2:=by rw[mR] at *;simp at *;omega
 ntrans x y z h1 h2:=by rw[mR] at *;simp at *;omega
theorem uY(x y:Nat)(h1:ltOf aX x y=false)(h2:ltOf aX y x=false):x=y:=by
 rw[mR] at h1 h2;simp at h1 h2;omega
theorem xN(x:Nat)(w:World):Calls prog 95 #[eU x] w fun e w'=>e=.returned (.bool false)/\w'=w:=by
 go_enter func95,ntmps95;go_wp2
 go_ret;exact⟨by simp,rfl⟩
theorem uL(x y:Nat)(w:World):Calls prog 56 #[eU x,eU y] w fun e w'=>e=.returned (.int .i64 (aX x y))/\w'=w:=by
 have N1:=aA (fun W=>xN x W);have N2:=aA (fun W=>xN y W);rcases Nat.lt_trichotomy x y with h|h|h
 ·have hi:(x:Int)<y:=by omega
  have E:=aA (show aX x y = -1 by unfold aX;rw[if_pos h]);rw[E.out];clear h;go_enter func56,ntmps56;go_wp2_with fail;refine(N1.out _).mono ?_;rintro e w1 ⟨rfl,rfl⟩;go_wp2_with fail;refine(N2.out _).mono ?_;rintro e w1 ⟨rfl,rfl⟩;go_wp2_with fail;go_ret;exact⟨rfl,rfl⟩
 ·subst h;have hi:¬(x:Int)<x:=by omega
  have E:=aA (show aX x x=0 by unfold aX;simp);rw[E.out];go_enter func56,ntmps56;go_wp2_with fail;refine(N1.out _).mono ?_;rintro e w1 ⟨rfl,rfl⟩;go_wp2_with fail;refine(N2.out _).mono ?_;rintro e w1 ⟨rfl,rfl⟩;go_wp2_with fail;go_ret;exact⟨rfl,rfl⟩
 ·have hi:¬(x:Int)<y:=by omega
  have hi2:(y:Int)<x:=by omega
  have E:=aA (show aX x y=1 by unfold aX;rw[if_neg (by omega),if_pos h]);rw[E.out];clear h;go_enter func56,ntmps56;go_wp2_with fail;refine(N1.out _).mono ?_;rintro e w1 ⟨rfl,rfl⟩;go_wp2_with fail;refine(N2.out _).mono ?_;rintro e w1 ⟨rfl,rfl⟩;go_wp2_with fail;go_ret;exact⟨rfl,rfl⟩
theorem LR(blk off size:Nat)(w:World):CmpReads prog 56 #[] eU aX blk off size w:=
 fun _ _ _ _ x y=>(uL x y _).mono fun _ _ ⟨he,hw⟩=>⟨he,0,hw⟩
theorem GS.sorted{α : Type}[Inhabited α]{enc : α->Value}{w0 W:World}{e:TypeId}{gb cap:Nat}{l:List α}(h:GS w0 W e 1 (.slice (some ⟨gb,0,none⟩) l.length cap) l.length (l.map enc)):
  Holds enc W gb 0 l.toArray/\gb<W.heap.size/\∀ n (l2:List α) os,l2.length=l.length->
   GS w0 (sortWorld enc W gb 0 n l2.toArray os) e 1 (.slice (some ⟨gb,0,none⟩) l2.length cap) l2.length (l2.map enc)/\Kt (fun x=>x=gb) W (sortWorld enc W gb 0 n l2.toArray os):=by
 rcases h.own.2 with ⟨h0,_⟩|⟨g,cap',cur,hv,hb,hg,hnc,hcm,hcs,htake⟩
 ·cases h0
 simp only[Value.slice.injEq,Option.some.injEq,Addr.mk.injEq,true_and,and_true] at hv;obtain⟨rfl,rfl⟩:=hv;have hgl:=lH hg;refine⟨fun j hj=>?_,hgl,fun n l2 os hl2=>?_⟩
 ·have hj':j<l.length:=by simpa using hj
  have e1:(l.map enc)[j]?=some (enc l[j]):=by rw[List.getElem?_map,List.getElem?_eq_getElem hj'];rfl
  rw[<-htake,List.getElem?_take] at e1;split at e1
  ·constructor
   ·rw[Nat.zero_add];simp only[World.cell?,hg];rw[<-Array.getElem?_toList,e1];simp[hj']
   ·simp[World.frozen?,hg]
  ·cases e1
 ·have hk:Kt (fun x=>x=gb) W (sortWorld enc W gb 0 n l2.toArray os):=by
   refine⟨rfl,rfl,rfl,?_,fun i hi hne=>?_⟩
   ·show W.heap.size<=(grow _ _).heap.size
    rw[size_grow,size_putRow];exact Nat.le_add_right _ _
   ·show(grow (putRow enc (Sort.ahead W n) gb 0 l2.toArray) os).heap[i]?=_
    rw[heap_grow_old _ _ (by rw[size_putRow];exact hi)];show(W.heap.modify gb _)[i]?=_
    rw[Array.getElem?_modify,if_neg (fun e=>hne e.symm)]
  refine⟨⟨⟨by simp,.inr ⟨gb,cap,putCells enc 0 l2.toArray cur,rfl,Nat.zero_le _,?_,by omega,hcm,by simp[putCells,hcs],?_⟩⟩,fun g c e=>h.new g c (by rw[<-hl2];exact e),h.kp.trans hk (fun _ _ e=>e) (fun x hx e=>?_)⟩,hk⟩
  ·show(grow (putRow enc (Sort.ahead W n) gb 0 l2.toArray) os).heap[gb]?=_
   rw[heap_grow_old _ _ (by rw[size_putRow];exact hgl)];show(W.heap.modify gb _)[gb]?=_
   rw[Array.getElem?_modify,if_pos rfl,hg];rfl
  ·have hcl:l2.length<=cur.size:=(by omega);apply List.ext_getElem?
   intro j;rw[List.getElem?_take,List.getElem?_map];by_cases hj:j<l2.length
   ·rw[if_pos (by omega),List.getElem?_eq_getElem hj,Array.getElem?_toList];unfold putCells;rw[Array.getElem?_mapIdx,Array.getElem?_eq_getElem (by omega)];simp[hj]
   ·rw[if_neg (by omega),List.getElem?_eq_none (by omega)];rfl
  ·have:=h.new gb cap rfl
   cases e
   omega
set_option maxHeartbeats 8000000
set_option maxRecDepth 6000
theorem zL:(prog.info? 27).map (fun i=>(i.zero,i.size,i.bytes))=some (some (.int .u64 0),1,8):=by kernel_rfl
abbrev UX(w0 W:World)(v:Value)(l:List Nat):Prop:=GS w0 W 27 1 v l.length (l.map eU)
theorem UX.push{w0 W:World}{v:Value}{l:List Nat}(h:UX w0 W v l)(b:Nat)(hn:l.length<8796093022208):
  ∃ g cap w',(∀ t,(Builtin.append_ #[35,35] t #[v,.slice (some ⟨W.heap.size,0,none⟩) 1 1]).run prog (W.alloc (.cells #[.int .u64 b] 27))=.ok (.slice (some ⟨g,0,none⟩) (l.length + 1) cap) w')/\UX w0 w' (.slice (some ⟨g,0,none⟩) (l.length + 1) cap) (l ++ [b])/\Kt (fun b=>v.ownBlock=some b) W w':=by
 obtain⟨i,hi,hzz⟩:=Option.map_eq_some_iff.1 zL;simp only[Prod.mk.injEq] at hzz;have ka:=(Kt.refl nO W).alloc (.cells #[.int .u64 b] 27);obtain⟨g,cap,w',h1,h2,h5,h6,h7⟩:=(GS.keep h ka).pushM 35 i (.int .u64 0) 8 Tryz.underlying35 hi hzz.1 hzz.2.1 hzz.2.2 rfl (by decide) ⟨W.heap.size,0,none⟩ 1 1 (by decide) [.int .u64 b] rfl (fun j u hj=>kK (cs:=#[.int .u64 b]) j u hj) (by simp[Value.oneCell']) (by simp only[maxLen];omega) (by omega);refine⟨g,cap,w',h1,?_,ka.trans h6 (fun _ _ e=>e.elim) (fun _ _ e=>e)⟩;show GS _ _ _ _ _ (l ++ [b]).length ((l ++ [b]).map eU)
 rw[List.length_append,List.map_append];exact h2
structure SrI(w W:World)(g r:Nat)(D:List Nat)(c:Nat->Nat)(done rest:List Nat)(v:Value):Prop where
 rg:RC eU W g r D c rest
 pm:D.Perm (done ++ rest)
 gs:UX w W v done
 gl:g<w.heap.size
 rn:w.heap.size<=r
theorem UX.ty{w0 W:World}{v:Value}{l:List Nat}(h:UX w0 W v l){x:Nat}(hx:v.ownBlock=some x):(∃ cs,W.heap[x]?=some (.cells cs 27 (0,0)))/\w0.heap.size<=x:=by
 rcases h.own.2 with ⟨rfl,_⟩|⟨g,cap,cur,rfl,hb,hg,h3⟩
 ·simp[Value.ownBlock] at hx
 ·simp[Value.ownBlock] at hx;rw[<-hx];exact⟨⟨cur,hg⟩,h.new g cap rfl⟩
theorem RC.iter{α : Type}{enc : α->Value}{w:World}{b r:Nat}{D rest:List α}{c : α->Nat}(h:RC enc w b r D c rest):∃ m s n q,w.heap[r]?=some (.mapIter m s n q):=by
 obtain⟨es,clock,since,seen,c0,hb,hst,hL,hr,-⟩:=h;exact⟨_,_,_,_,hr⟩
theorem UX.iter{w W W':World}{v:Value}{l:List Nat}{r:Nat}(h:UX w W v l)(hk:Kt (fun x=>x=r) W W')(hr:w.heap.size<=r)(hi:∃ m s n q,W.heap[r]?=some (.mapIter m s n q)):UX w W' v l:=by
 refine⟨⟨h.own.1,?_⟩,h.new,h.kp.trans hk (fun _ _ e=>e) (fun x hx e=>by omega)⟩;rcases h.own.2 with h0|⟨g,cap,cur,rfl,hb,hg,h3⟩
 ·exact .inl h0
 ·refine .inr ⟨g,cap,cur,rfl,hb,(hk.block g (lH hg) (fun e=>?_)).trans hg,h3⟩;subst e;obtain⟨_,_,_,_,q2⟩:=hi;rw[hg] at q2
  cases q2
theorem SrI.next{w W w1 w2:World}{g r:Nat}{D:List Nat}{c:Nat->Nat}{done rest rest':List Nat}{v v':Value}{x:Nat}(h:SrI w W g r D c done rest v)(hp:rest.Perm (x :: rest'))(hr:RC eU w1 g r D c rest')(g1:UX w w1 v done)(k2:Kt (fun b=>v.ownBlock=some b) w1 w2)(g2:UX w w2 v' (done ++ [x])):SrI w w2 g r D c (done ++ [x]) rest' v':=by
 refine⟨hr.kept k2 (fun e=>?_) (fun e=>?_),h.pm.trans ?_,g2,h.gl,h.rn⟩
 ·have:=(g1.ty e).2;have:=h.gl;omega
 ·obtain⟨⟨cs,q⟩,-⟩:=g1.ty e;obtain⟨_,_,_,_,q2⟩:=RC.iter hr;rw[q] at q2
  cases q2
 ·rw[List.append_assoc];exact List.Perm.append_left _ hp
def SoP(w:World)(D:List Nat)(e:Ending)(w':World):Prop:=∃ oa oc,∃ ks:List Nat,e=.returned (.slice oa ks.length oc)/\UX w w' (.slice oa ks.length oc) ks/\ks.Perm D/\ks.Pairwise (·<=·)
theorem RY(g:Nat)(D:List Nat)(c:Nat->Nat)(w:World)(hm:MC eU fC w g D c)(hl:D.length<8796093022208):
  Calls prog 55 #[.map (some g),.func (.func 56) #[] #[]] w (SoP w D):=by
 have eg:∀ args w,(callFunc 56 args).run prog w=.ok (.enter 56 args) w:=enters_of func56 (by kernel_rfl) rfl;obtain⟨n,hn⟩:=xe (D.length);rw[<-hn] at hl;obtain⟨i,hi,hzz⟩:=Option.map_eq_some_iff.1 zL;simp only[Prod.mk.injEq] at hzz;obtain⟨w1,mk1,own1,gr1⟩:=run_make_own (P:=prog) w 0 35 27 i (.int .u64 0) 1 Tryz.underlying35 hi hzz.1 hzz.2.1 .i64 .i64 n (by rw[hzz.2.2];omega) (by unfold maxLen;omega) (Nat.zero_le _);have K1:=aA (show Kt nO w w1 from(kZ gr1).mono fun _ _ e=>by cases e);have G1:=aA (show UX w w1 (.slice (some ⟨w.heap.size,0,none⟩) 0 n) [] from⟨own1,fun g cap e=>by simp at e;omega,K1.out⟩);have M0:=aA hm;have M1:=aA (hm.kept K1.out (fun x=>x));have GL:=aA hm.ltsz;have HN:=aA hn;have len0:∀ ty,(Builtin.len_ #[106] ty #[.map (some g)]).run prog w=.ok (.int .i64 n) w:=fun ty=>by rw[hn];exact hm.len Tryz.underlying106 ty
 clear hi hzz own1 gr1 hm hn;go_enter func55,ntmps55;go_wp2_with (first|(at_range;refine tT _ rfl _ 106 rfl 27 3 Tryz.underlying106 g rfl M1.out ?_;intro w0 hrg0 hk0 hs0))
 have I0:=aA (show SrI w w0 g w1.heap.size D c [] D (.slice (some ⟨w.heap.size,0,none⟩) 0 n)from⟨hrg0,by simp,G1.out.keep (hk0.mono fun _ _ e=>e.elim),GL.out,K1.out.size⟩);generalize w1.heap.size=rx at *;clear hrg0 hk0 hs0 mk1 len0;simp only[Act.put,List.setIfInBounds_toArray,List.set_cons_succ,List.set_cons_zero];go_loopw [5] (fun tv W=>∃ (done rest:List Nat) (gb cap:Nat),tv=.slice (some ⟨gb,0,none⟩) done.length cap/\Hid (SrI w W g rx D c done rest (.slice (some ⟨gb,0,none⟩) done.length cap))) (fun _ W=>W.rangeLeft g rx)
 case atStart=>exact⟨[],D,_,n,rfl,I0⟩
 case round=>
  clear I0 K1 M1 G1 M0;obtain⟨done,rest,gb,cap,rfl,HI⟩:=hrel;have HRL:=aA HI.out.rg.left_eq;have DL:=aA (show done.length+rest.length=n by have:=HI.out.pm.length_eq;rw[List.length_append] at this;rw[HN.out];omega);go_wp2_with (first|(at_next;refine tP _ rfl _ rfl g rx rest rfl HI.out.rg ?_ ?_))
  ·intro hd;obtain⟨hH,hgl,hS⟩:=GS.sorted HI.out.gs;have hcon:=Any.slices_SortFunc_total EL eU (fun _=>rfl) aX vA 56 #[] gb 0 cap done.toArray wr eg (LR gb 0 _ wr).lays hH hgl (by have:=DL.out;simp;omega) uY;obtain⟨ks,hks⟩:=xe (done.mergeSort fun x y=>!(ltOf aX) y x);have SC:=aA (show Calls prog 94 #[.slice (some ⟨gb,0,none⟩) done.length cap,.func (.func 56) #[] #[]] wr fun e w'=>e=.returned (.tuple #[])/\∃ n os,w'=sortWorld eU wr gb 0 n ks.toArray os from by rw[hks];exact hcon);have KL:=aA (show ks.length=done.length by rw[hks,List.length_mergeSort]);have KP:=aA (show ks.Perm D by
    rw[hks];have:=HI.out.pm;rw[hd,List.append_nil] at this;exact(List.mergeSort_perm _ _).trans this.symm)
   have KW:=aA (show ks.Pairwise (·<=·)by
    rw[hks];have:=List.pairwise_mergeSort (le:=fun x y=>!(ltOf aX) y x) (fun a b c h1 h2=>by simp only[mR] at *;simp at *;omega) (fun a b=>by simp only[mR];simp;omega) done;refine this.imp fun {a b} h=>?_
    rw[mR] at h;simpa using h)
   have HS:=aA (fun n os=>hS n ks os KL.out);clear hcon hH hgl hS hks hd;go_wp2_with fail;refine SC.out.mono ?_;rintro e w9 ⟨rfl,q,os,rfl⟩;have FIN:=aA (HS.out q os).1;generalize sortWorld eU wr gb 0 q ks.toArray os=W9 at *;rw[<-KL.out];go_wp2_with fail;go_ret;exact⟨_,_,ks,rfl,FIN.out,KP.out,KW.out⟩
  ·intro x rest' w2 hp hrg hk hz hen;have G2:=aA (UX.iter HI.out.gs hk HI.out.rn (RC.iter HI.out.rg));have RL:=aA (show rest.length=rest'.length+1 by rw[hp.length_eq];rfl);obtain⟨g4,cap4,w4,ap4,t4,k4⟩:=UX.push G2.out x (by have:=DL.out;omega);have AP4:=aA ap4;have N4:=aA (HI.out.next hp hrg G2.out k4 t4);clear hp hrg hk ap4 t4 k4 hz;go_wp2_with (at_builtin;refine Lib.wpList_append_run _ rfl _ _ _ _ rfl (.slice (some ⟨gb,0,none⟩) done.length cap) _ rfl rfl _ _ (AP4.out _) ?_)
   refine⟨⟨done ++ [x],rest',g4,cap4,by simp,aA (by have:=N4.out;simpa using this)⟩,?_⟩;have h1:=N4.out.rg.left_eq;have h2:=RL.out;have h3:=HRL.out;omega
set_option maxHeartbeats 8000000
set_option maxRecDepth 6000
abbrev Tab10 (w : World) : Prop := Lib.TabIs prog w "internal/strconv.uint64pow10" .u64 Lib.pow10Tab
theorem Tab10.keep{w w':World}(h:Tab10 w)(k:Kt nO w w'):Tab10 w':=by
 unfold Tab10 Lib.TabIs World.var? at *
 cases hg : prog.globalNamed "internal/strconv.uint64pow10" with
 | none=>simp[hg] at h
 | some g=>
  simp only[hg,Option.bind_some] at h ⊢;have hlt:g<w.heap.size:=by
   rcases Nat.lt_or_ge g w.heap.size with h'|h'
   ·exact h'
   ·rw[Array.getElem?_eq_none h'] at h;simp at h
  rw[k.block g hlt (fun x=>x)];exact h
structure AuK(w0 W w':World):Prop where
 k:Kt (fun x=>w0.heap.size<=x) W w'
 o:Lib.OthersKept 5 none W w'
theorem AZ{w0 W:World}{v:Value}{l:List UInt8}(h:TX w0 W v l)(hl:l.length+20<=140737488355328)(u:Nat)(hu:u<18446744073709551616)(ht:Tab10 W):
  Calls prog 57 #[v,.int .u64 u,.int .i64 10] W fun e w'=>∃ oa oc,∃ l':List UInt8,l'=l ++ Lib.decDigits u/\e=.returned (.slice oa l'.length oc)/\TX w0 w' (.slice oa l'.length oc) l'/\AuK w0 W w':=by
 have hown:W.ownsRow w0.heap.size 5 1 v l.length (Lib.byteCells l):=by
  refine⟨h.own.1,?_⟩;rcases h.own.2 with h0|⟨g,cap,cur,rfl,hb,h3⟩
  ·exact .inl h0
  ·exact .inr ⟨g,cap,cur,rfl,h.new g cap rfl,h3⟩
 have hcon:=Any.internal_strconv_AppendUint_10 apU w0.heap.size l.length u hu v (Lib.byteCells l) W hown h.kp.size hl ht;have HC:=aA (show Calls prog 96 #[v,.int .u64 u,.int .i64 10] W fun e w'=>∃ oa oc,∃ l':List UInt8,l'=l ++ Lib.decDigits u/\e=.returned (.slice oa l'.length oc)/\TX w0 w' (.slice oa l'.length oc) l'/\AuK w0 W w' from by
  refine Calls.mono hcon ?_;rintro e w' ⟨v',rfl,ho,hb,hk⟩;have KK:Kt (fun x=>w0.heap.size<=x) W w':=⟨hb.os,hb.tape,hb.output,hb.size,fun i hi hn=>hb.block i (Nat.lt_of_not_le hn)⟩;have ho2:w'.ownsRow w0.heap.size 5 1 v' (l ++ Lib.decDigits u).length (Lib.byteCells (l ++ Lib.decDigits u)):=by
   rw[List.length_append,show Lib.byteCells (l ++ Lib.decDigits u)=Lib.byteCells l ++ Lib.byteCells (Lib.decDigits u)by simp[Lib.byteCells]];exact ho
  have key:∃ oa oc,v'=.slice oa (l ++ Lib.decDigits u).length oc/\∀ g cap,v'=.slice (some ⟨g,0,none⟩) (l ++ Lib.decDigits u).length cap->w0.heap.size<=g:=by
   rcases ho2.2 with ⟨e1,e2⟩|⟨g,cap,cur,e1,e2,-⟩
   ·exact⟨none,0,by rw[e1,e2],fun g cap e=>by rw[e1] at e;cases e⟩
   ·refine⟨_,_,e1,fun g' cap' e=>?_⟩;rw[e1] at e
    cases e
    exact e2
  obtain⟨oa,oc,rfl,hn⟩:=key;refine⟨oa,oc,_,rfl,rfl,⟨⟨ho2.1,?_⟩,hn,h.kp.trans KK (fun _ _ e=>e) (fun x hx e=>absurd hx (Nat.not_lt.2 e))⟩,KK,hk⟩;rcases ho2.2 with h0|⟨g,cap,cur,e1,e2,e3⟩
  ·exact .inl h0
  ·exact .inr ⟨g,cap,cur,e1,Nat.zero_le _,e3⟩)
 obtain⟨oa,oc,rfl⟩:=qX h.own;clear hcon hown h ht hl;go_enter func57,ntmps57;go_wp2_with fail;refine HC.out.mono ?_;rintro e w' ⟨oa',oc',l',hl',rfl,h1,h2⟩;have H1:=aA h1;have H2:=aA h2;have HL:=aA hl';clear h1 h2 hl';go_wp2_with fail;go_ret;exact⟨oa',oc',l',HL.out,rfl,H1.out,H2.out⟩
theorem GS.bS{w w1 W:World}{e:TypeId}{size:Nat}{v:Value}{n:Nat}{xs:List Value}(h:GS w1 W e size v n xs)(k:Kt nO w w1):GS w W e size v n xs:=
 ⟨h.own,fun g cap e=>Nat.le_trans k.size (h.new g cap e),nT k h.kp⟩
structure SzI(w W:World)(gm:Nat)(D:List Nat)(c:Nat->Nat)(va:Value)(ks:List Nat)(v:Value)(l:List UInt8):Prop where
 mc:MC eU fC W gm D c
 us:UX w W va ks
 tx:TX w W v l
 t0:Tab10 w
section
variable {w W w':World} {gm:Nat} {D ks:List Nat} {c:Nat->Nat} {va v v':Value} {l l':List UInt8}
theorem SzI.keep(h:SzI w W gm D c va ks v l)(k:Kt nO W w'):SzI w w' gm D c va ks v l:=⟨h.mc.kept k id,GS.keep h.us k,GS.keep h.tx k,h.t0⟩
theorem UX.others{w W w':World}{v:Value}{l:List Nat}(h:UX w W v l)(k:∀ (g:Nat) (cur:Array Value),W.heap[g]?=some (Obj.cells cur 27 (0,0))->w'.heap[g]?=some (Obj.cells cur 27 (0,0)))(kp:Kt nO w w'):UX w w' v l:=by
 refine⟨⟨h.own.1,?_⟩,h.new,kp⟩;rcases h.own.2 with h0|⟨g,cap,cur,rfl,hb,hg,h3⟩
 ·exact .inl h0
 ·exact .inr ⟨g,cap,cur,rfl,hb,k g cur hg,h3⟩
theorem vQ{w0 W:World}{v:Value}{l:List UInt8}(h:TX w0 W v l){x:Nat}(hx:v.ownBlock=some x):∃ cs,W.heap[x]?=some (.cells cs 5 (0,0)):=by
 rcases h.own.2 with ⟨rfl,_⟩|⟨g,cap,cur,rfl,hb,hg,h3⟩
 ·simp[Value.ownBlock] at hx
 ·simp[Value.ownBlock] at hx;rw[<-hx];exact⟨cur,hg⟩
theorem MC.at{α : Type}{enc : α->Value}{ok : α->Prop}{w:World}{b:Nat}{D:List α}{c : α->Nat}(h:MC enc ok w b D c):∃ es clock,w.heap[b]?=some (.map es clock):=by
 obtain⟨⟨es,clock,hb,_⟩,_⟩:=h;exact⟨es,clock,hb⟩
theorem MC.move{α : Type}{enc : α->Value}{ok : α->Prop}{w w':World}{b:Nat}{D:List α}{c : α->Nat}(h:MC enc ok w b D c)(e:∀ o,w.heap[b]?=some o->w'.heap[b]?=some o):MC enc ok w' b D c:=by
 obtain⟨⟨es,clock,h1,h2⟩,h3,h4⟩:=h;exact⟨⟨es,clock,e _ h1,h2⟩,h3,h4⟩
theorem SzI.push(h:SzI w W gm D c va ks v l)(k:Kt (fun b=>v.ownBlock=some b) W w')(t:TX w w' v' l'):SzI w w' gm D c va ks v' l':=by
 have nb:∀ (b:Nat) (o:Obj),W.heap[b]?=some o->(∀ cs,o≠Obj.cells cs 5 (0,0))->w'.heap[b]?=some o:=fun b o hb hn=>by
  refine(k.block b (Array.getElem?_eq_some_iff.1 hb).1 (fun e=>?_)).trans hb;obtain⟨cs,q⟩:=vQ h.tx e;rw[hb] at q
  cases q
  exact hn cs rfl
 obtain⟨es,clock,hb⟩:=MC.at h.mc;refine⟨MC.move h.mc fun o ho=>nb _ _ ho (fun cs e=>?_),UX.others h.us (fun g cur hg=>nb _ _ hg (fun cs e=>?_)) t.kp,t,h.t0⟩
 ·rw[hb] at ho;cases ho;cases e
 ·cases e
theorem SzI.app(h:SzI w W gm D c va ks v l)(k:AuK w W w')(t:TX w w' v' l'):SzI w w' gm D c va ks v' l':=by
 have nb:∀ (b:Nat) (o:Obj),W.heap[b]?=some o->(∀ cs fz,o≠Obj.cells cs 5 fz)->w'.heap[b]?=some o:=fun b o hb hn=>k.o b o hb (by simp) hn
 obtain⟨es,clock,hb⟩:=MC.at h.mc;refine⟨MC.move h.mc fun o ho=>nb _ _ ho (fun cs fz e=>?_),UX.others h.us (fun g cur hg=>nb _ _ hg (fun cs fz e=>?_)) t.kp,t,h.t0⟩
 ·rw[hb] at ho;cases ho;cases e
 ·cases e
end
def jF(s n:Nat):Nat->Nat
 | 0=>s
 | 1=>n
 | _=>s*n%18446744073709551616
def iG(s n:Nat):Nat->List UInt8
 | 0=>[]
 | j + 1=>(iG s n j ++ if j=0 then [] else [32]) ++ Lib.decDigits (jF s n j)
theorem GU(s n:Nat):iG s n 3 ++ [10]=lC s n:=by
 simp[iG,jF,lC]
theorem GT(s n:Nat)(hs:s<18446744073709551616)(hn:n<18446744073709551616)(j:Nat)(hj:j<=3):(iG s n j).length<=63:=by
 have h1:=nF s hs;have h2:=nF n hn;have h3:=nF (s*n%18446744073709551616) (Nat.mod_lt _ (by decide));rcases (show j=0\/j=1\/j=2\/j=3 by omega)with rfl|rfl|rfl|rfl <;> simp[iG,jF] <;> omega
set_option maxHeartbeats 8000000
set_option maxRecDepth 6000
theorem UX.get{w W:World}{oa:Option Addr}{oc n:Nat}{ks:List Nat}(hn:ks.length=n)(h:UX w W (.slice oa n oc) ks)(a:Nat)(ha:a<n):∃ g,oa=some ⟨g,0,none⟩/\W.cell? ⟨g,a,none⟩=some (.int .u64 ((ks.getD a 0:Nat):Int)):=by
 rcases h.own.2 with ⟨_,h0⟩|⟨g,cap,cur,hv,hb,hg,hnc,hcm,hcs,htake⟩
 ·omega
 cases hv
 refine⟨g,rfl,?_⟩;have e1:(ks.map eU)[a]?=some (eU (ks.getD a 0)):=by rw[List.getElem?_map,List.getElem?_eq_getElem (by omega),List.getD_eq_getElem?_getD,List.getElem?_eq_getElem (by omega)];rfl
 rw[<-htake,List.getElem?_take] at e1;split at e1
 ·simp only[World.cell?,hg];rw[<-Array.getElem?_toList,e1];rfl
 ·cases e1
theorem DS{l:List (Nat×Nat)}{D ks:List Nat}(hD:D.Nodup)(hm:∀ a,a∈D↔a∈dN l)(pm:ks.Perm D)(hp:ks.Pairwise (·<=·)):nZ l ks:=by
 refine⟨?_,fun x=>pm.mem_iff.trans (hm x)⟩;have hn:ks.Nodup:=pm.nodup_iff.2 hD;exact hp.imp₂ (fun a b h1 h2=>Nat.lt_of_le_of_ne h1 h2) hn
theorem JQ{w W w':World}{v:Value}{l:List UInt8}{nb:Nat}{cs:Array Value}(t:TX w W v l)(k:Kt (fun b=>v.ownBlock=some b) W w')(h:W.heap[nb]?=some (Obj.cells cs 27 (0,0))):w'.heap[nb]?=some (Obj.cells cs 27 (0,0)):=
 (k.block nb (lH h) (fun e=>by
  obtain⟨cs,q⟩:=vQ t e;rw[h] at q
  cases q)).trans h
theorem wD{w W w':World}{nb:Nat}{cs:Array Value}(k:AuK w W w')(h:W.heap[nb]?=some (Obj.cells cs 27 (0,0))):w'.heap[nb]?=some (Obj.cells cs 27 (0,0)):=
 k.o nb _ h (by simp) (fun c fz e=>by cases e)
theorem JP{W:World}{nb s c m:Nat}(hm:m=s*c%18446744073709551616)(h:W.heap[nb]?=some (Obj.cells #[.int .u64 s,.int .u64 c,.int .u64 m] 27 (0,0)))(j:Nat)(hj:j<3):W.cell? ⟨nb,j,none⟩=some (.int .u64 ((jF s c j:Nat):Int)):=by
 rcases (show j=0\/j=1\/j=2 by omega)with rfl|rfl|rfl
 ·simp[World.cell?,h,jF]
 ·simp[World.cell?,h,jF]
 ·simp[World.cell?,h,jF,hm]
theorem DQ{s c:Nat}(hs:s<18446744073709551616)(hc:c<18446744073709551616)(j:Nat):jF s c j<18446744073709551616:=by
 unfold jF;split
 ·exact hs
 ·exact hc
 ·exact Nat.mod_lt _ (by decide)
def SzP(w:World)(l:List (Nat×Nat))(e:Ending)(w':World):Prop:=∃ ks,nZ l ks/\e=.returned (.string ⟨(iF l ks).toArray⟩)/\Kt nO w w'
theorem VU(v:Value)(l:List (Nat×Nat))(w:World)(hl:l.length<=2199023255552)(hb:∀ b∈l,fC b.2)(hv:RBk w v l)(ht:Tab10 w):
  Calls prog 17 #[v] w (SzP w l):=by
 have TA:=aA (NI v l w (by omega) hb hv);have T0:=aA ht;have HSL:=aA (show(dN l).length=l.length by simp[dN]);have HB:=aA (show ∀ x∈dN l,x<18446744073709551616 from fun x hx=>by
  obtain⟨b,h1,rfl⟩:=List.mem_map.1 hx;exact hb b h1)
 obtain⟨oa0,oc0,rfl,-⟩:=hv;have HLL:=aA hl;clear hb ht hl;go_enter func17,ntmps17;go_wp2_with fail;refine TA.out.mono ?_;rintro e w1 ⟨gm,D,rfl,gn,hmc,hme,hle,hk1⟩;have DL:=aA (show D.length<8796093022208 from by have:=HSL.out;have:=HLL.out;omega);have SO:=aA (RY gm D _ w1 hmc DL.out);have ND:=aA hmc.nodup;have ME:=aA hme;have MC1:=aA hmc;have K1:=aA hk1;clear hmc hme hle hk1 gn TA;go_wp2_with fail;refine SO.out.mono ?_;rintro e w2 ⟨oa,oc,ks,rfl,us,pm,srt⟩;have KS:=aA (DS ND.out ME.out pm srt);have I2:=aA (show SzI w w2 gm D (fun a=>(dN l).count a) (.slice oa ks.length oc) ks (.slice none 0 0) [] from⟨MC1.out.kept us.kp id,GS.bS us K1.out,GS.nil _ _ _ _ (nT K1.out us.kp),T0.out⟩);have KL:=aA (show ks.length<=l.length from by rw[pm.length_eq];have:=HSL.out;have h2:=zD D (dN l) ND.out (fun x hx=>(ME.out x).1 hx);omega);obtain⟨n,hn⟩:∃ n,ks.length=n:=⟨_,rfl⟩;rw[hn] at I2 KL ⊢;have HN:=aA hn;clear us pm srt SO MC1 hn;go_wp2_with fail;have HL2:=HLL.out;have KL2:=KL.out;go_loopw [4,15] (fun tv iv W=>∃ (a:Nat) (t:List UInt8) (ta:Option Addr) (tc:Nat),a<=n/\iv=.int .i64 a/\tv=.slice ta t.length tc/\Hid (t=iF l (ks.take a)/\SzI w W gm D (fun a=>(dN l).count a) (.slice oa n oc) ks (.slice ta t.length tc) t)) (fun _ iv _=>n-(intOf iv).toNat)
 case atStart=>exact⟨0,[],none,0,Nat.zero_le _,rfl,rfl,aA ⟨rfl,I2.out⟩⟩
 case round=>
  clear I2;obtain⟨a,t,ta,tc,ha,rfl,rfl,HI⟩:=hrel;have TL:=aA (show t.length<=63*n from by
   rw[HI.out.1];have:=xL l (ks.take a) (fun x hx=>HB.out x ((KS.out.2 x).1 (List.mem_of_mem_take hx))) (by omega);rw[List.length_take] at this;omega)
  by_cases hlt:a<n
  ·have hai:(a:Int)<n:=(by omega);obtain⟨kg,rfl,hcell⟩:=UX.get HN.out HI.out.2.us a hlt;obtain⟨s,hs⟩:∃ s,ks.getD a 0=s:=⟨_,rfl⟩;have hsk:ks[a]?=some s:=(by rw[<-hs,List.getD_eq_getElem?_getD,List.getElem?_eq_getElem (by rw[HN.out];exact hlt)];rfl);rw[hs] at hcell;have HS64:=aA (show fC s from HB.out s ((KS.out.2 s).1 (List.mem_of_getElem? hsk)));obtain⟨c,hc⟩:∃ c,(dN l).count s=c:=⟨_,rfl⟩;have hcl:c<=l.length:=(by rw[<-hc,<-HSL.out];exact List.count_le_length);have XT:=aA (show iF l (ks.take (a + 1))=t ++ (iG s c 3 ++ [10])from by rw[List.take_add_one,hsk,GU,<-hc,HI.out.1];exact GY l _ s);have HC:=aA hc;have w1c:IntKind.u64.wrap (c:Int)=c:=(by rw[wrap_u64];omega);have MM:=aA HI.out.2.mc;have s64:=HS64.out;obtain⟨m,hm⟩:=xe (s*c%18446744073709551616);have mulw:IntKind.u64.wrap ((s:Int)*(c:Int))=(m:Int):=(by rw[wrap_u64,hm];simp);have HM:=aA hm;clear hs hsk hc hm;go_wp2_with (at_lookup;refine rH _ rfl _ _ 106 rfl 27 3 mS Tryz.underlying106 (lS _) gm rfl MM.out s HS64.out rfl c HC.out ?_)
   have NB:=aA (nH wr (Obj.cells #[.int .u64 s,.int .u64 c,.int .u64 m] 27 (0,0)));have I3:=aA (HI.out.2.keep ((Kt.refl nO wr).alloc (Obj.cells #[.int .u64 s,.int .u64 c,.int .u64 m] 27 (0,0))));have LPL:=aA (GT s c s64 (by omega));have c64:c<18446744073709551616:=(by omega);generalize wr.alloc (Obj.cells #[.int .u64 s,.int .u64 c,.int .u64 m] 27 (0,0))=W3 at *;generalize wr.heap.size=nb at *;clear mulw hcell w1c;go_loopw [4,30] (fun tv iv W=>∃ (j:Nat) (t':List UInt8) (ta':Option Addr) (tc':Nat),j<=3/\iv=.int .i64 j/\tv=.slice ta' t'.length tc'/\Hid (t'=t ++ iG s c j/\SzI w W gm D (fun a=>(dN l).count a) (.slice (some ⟨kg,0,none⟩) n oc) ks (.slice ta' t'.length tc') t'/\W.heap[nb]?=some (Obj.cells #[.int .u64 s,.int .u64 c,.int .u64 m] 27 (0,0)))) (fun _ iv _=>3-(intOf iv).toNat)
   case atStart=>exact⟨0,t,ta,tc,by omega,rfl,rfl,aA ⟨by simp[iG],I3.out,NB.out⟩⟩
   case round=>
    clear I3 NB HI MM;rename_i wq;obtain⟨j,t',ta',tc',hj,rfl,rfl,HJ⟩:=hrel;have TL':=aA (show t'.length<=63*n+63 from by rw[HJ.out.1,List.length_append];have:=TL.out;have:=LPL.out j hj;omega);have hnl:n<=2199023255552:=(by omega);by_cases hj3:j<3
    ·have hji:(j:Int)<3:=(by omega);have hcell:=JP HM.out HJ.out.2.2 j hj3;obtain⟨x,hx⟩:∃ x,jF s c j=x:=⟨_,rfl⟩;have X64:=aA (show x<18446744073709551616 by rw[<-hx];exact DQ s64 c64 j);rw[hx] at hcell;by_cases hj0:j=0
     ·have hj1:¬(0:Int)<(j:Int):=(by omega);have AU:=aA (fun h=>AZ HJ.out.2.1.tx h x X64.out (Tab10.keep T0.out HJ.out.2.1.tx.kp));have XJ:=aA (show iG s c (j + 1)=iG s c j ++ Lib.decDigits x by show(_ ++ if j=0 then [] else [32]) ++ Lib.decDigits (jF s c j)=_;rw[if_pos hj0,List.append_nil,hx]);clear hx hj0;go_wp2_with fail;refine(AU.out (by have:=TL'.out;omega)).mono ?_;rintro e w7 ⟨oa7,oc7,l7,hl7,rfl,t7,k7⟩;have F7:=aA (show l7=t ++ iG s c (j + 1)/\SzI w w7 gm D (fun a=>(dN l).count a) (.slice (some ⟨kg,0,none⟩) n oc) ks (.slice oa7 l7.length oc7) l7/\w7.heap[nb]?=some (Obj.cells #[.int .u64 s,.int .u64 c,.int .u64 m] 27 (0,0))from⟨by rw[hl7,XJ.out,HJ.out.1,List.append_assoc],HJ.out.2.1.app k7 t7,wD k7 HJ.out.2.2⟩);clear hl7 t7 k7 AU;go_wp2_with fail;exact⟨⟨j+1,l7,oa7,oc7,by omega,by simp,rfl,F7⟩,by simp[intOf];omega⟩
     ·have hj1:(0:Int)<(j:Int):=(by omega);obtain⟨g4,cap4,w4,ap4,t4,k4⟩:=TX.push HJ.out.2.1.tx 32 (by have:=TL'.out;omega);have AP4:=aA ap4;have I4:=aA (HJ.out.2.1.push k4 t4);have N4:=aA (JQ HJ.out.2.1.tx k4 HJ.out.2.2);have XJ:=aA (show iG s c (j + 1)=(iG s c j ++ [32]) ++ Lib.decDigits x by show(_ ++ if j=0 then [] else [32]) ++ Lib.decDigits (jF s c j)=_;rw[if_neg hj0,hx]);have L4:=aA (show(t' ++ [(32:UInt8)]).length=t'.length + 1 by simp);have AU:=aA (fun h=>AZ I4.out.tx h x X64.out (Tab10.keep T0.out I4.out.tx.kp));clear hx hj0 ap4 t4 k4;go_wp2_with (at_builtin;refine Lib.wpList_append_run _ rfl _ _ _ _ rfl (.slice ta' t'.length tc') _ rfl rfl _ _ (AP4.out _) ?_)
      refine(AU.out (by have:=TL'.out;have:=L4.out;omega)).mono ?_;rintro e w7 ⟨oa7,oc7,l7,hl7,rfl,t7,k7⟩;have F7:=aA (show l7=t ++ iG s c (j + 1)/\SzI w w7 gm D (fun a=>(dN l).count a) (.slice (some ⟨kg,0,none⟩) n oc) ks (.slice oa7 l7.length oc7) l7/\w7.heap[nb]?=some (Obj.cells #[.int .u64 s,.int .u64 c,.int .u64 m] 27 (0,0))from⟨by rw[hl7,XJ.out,HJ.out.1];simp,I4.out.app k7 t7,wD k7 N4.out⟩);clear hl7 t7 k7 AU;go_wp2_with fail;exact⟨⟨j+1,l7,oa7,oc7,by omega,by simp,rfl,F7⟩,by simp[intOf];omega⟩
    ·have hji:¬(j:Int)<3:=(by omega);have hj3e:j=3:=(by omega);obtain⟨g4,cap4,w4,ap4,t4,k4⟩:=TX.push HJ.out.2.1.tx 10 (by have:=TL'.out;omega);have AP4:=aA ap4;have F4:=aA (show t' ++ [(10:UInt8)]=iF l (ks.take (a + 1))/\SzI w w4 gm D (fun a=>(dN l).count a) (.slice (some ⟨kg,0,none⟩) n oc) ks (.slice (some ⟨g4,0,none⟩) (t'.length + 1) cap4) (t' ++ [10])from⟨by rw[XT.out,HJ.out.1,hj3e];simp,HJ.out.2.1.push k4 t4⟩);clear ap4 t4 k4 hj3e hj3 HJ;go_wp2_with (at_builtin;refine Lib.wpList_append_run _ rfl _ _ _ _ rfl (.slice ta' t'.length tc') _ rfl rfl _ _ (AP4.out _) ?_)
     refine⟨⟨a + 1,t' ++ [10],some ⟨g4,0,none⟩,cap4,by omega,by simp,by simp,aA ⟨F4.out.1,?_⟩⟩,by simp[intOf];omega⟩;have:=F4.out.2;simpa using this
  ·have hai:¬(a:Int)<n:=(by omega);have ea:a=n:=(by omega);have ST:=aA (TX.str HI.out.2.tx);have FIN:=aA (show t=iF l ks from by rw[HI.out.1,ea,<-HN.out,List.take_length]);have KF:=aA HI.out.2.tx.kp;have st:=ST.out;clear HI TL;go_wp2_with fail;go_ret;exact⟨ks,KS.out,by rw[<-FIN.out];rfl,KF.out⟩
end Go.Proofs.YtkfmheelhinjdaaGreatDoor.W
namespace Go.Proofs.YtkfmheelhinjdaaGreatDoor.W
open _root_.Go.Proofs.Tryz
open Go.RowKit
set_option linter.unusedVariables false
set_option maxHeartbeats 8000000
set_option maxRecDepth 6000
theorem JR(I:Img)(V:ImV)(w:World)(hI:ImD w I V)(hnp:I.np<=1024):
  Calls prog 48 #[V.p,.func (.func 49) #[] #[]] w (lW eS kO w ((List.range I.np).map fun i=>cX (I.pg i))):=by
 have HI:=aA hI;obtain⟨-,va,vc,hv1,-⟩:=hI.pgs;obtain⟨n,hn⟩:=xe (I.np);obtain⟨xs,hxs⟩:=xe ((List.range I.np).map fun i=>cX (I.pg i));rw[<-hn] at hv1 hnp;have HN:=aA (show xs.length=n by rw[hxs,hn];simp);have RW:=aA (show ∀ W,Kt nO w W->∀ j,j<n->∃ bl o,∃ p:Pg,va=some ⟨bl,o,none⟩/\xs[j]?=some (cX p)/\kO (cX p)/\kQ W bl o j p from fun W hW j hj=>by
  obtain⟨-,oa,oc,q1,q2⟩:=(HI.out.keep hW).pgs;rw[hv1] at q1
  cases q1
  rcases q2 with q2|⟨bl,o,rfl,hg,hc⟩
  ·rw[<-hn] at q2;omega
  obtain⟨c1,c2⟩:=hc j (by omega);refine⟨bl,o,I.pg j,rfl,?_,⟨c1.kd,c1.od,c1.cl,c1.lv⟩,c2⟩;rw[hxs,List.getElem?_map,List.getElem?_range (by omega)];rfl)
 rw[<-hxs];rw[hv1];clear hxs hI hn HI hv1;have hmk:∀ w,(Instr.makeMap 95 none).run prog w=.ok (.map (some w.heap.size)) (w.alloc (.map #[] 0)):=fun w=>run_makeMap _ w
 have I0:=aA (show TaI eS kO w (w.alloc (.map #[] 0)) w.heap.size xs 0 [] from TaI.start w);go_enter func48,ntmps48;go_wp2_with fail;generalize w.alloc (.map #[] 0)=W1 at *;generalize hgx:w.heap.size=gx at *;clear hmk;go_loopw [11] (fun i W=>∃ a D,a<=n/\i=.int .i64 ((a:Nat):Int)/\Hid (TaI eS kO w W gx xs a D)) (fun i _=>n-(intOf i).toNat)
 case atStart=>exact⟨0,[],Nat.zero_le _,rfl,I0⟩
 case round=>
  clear I0;obtain⟨a,D,ha,rfl,HI⟩:=hrel;by_cases hlt:a<n
  ·have hai:(a:Int)<n:=(by omega);obtain⟨bl,o,p,rfl,hs,h64,hpc⟩:=RW.out wr HI.out.k a hlt;obtain⟨d0,d1,d2,d3,d4,d5,d6,d7,d8,d9,d10⟩:=hpc.c;have KS:=aA (fun W=>zC p W);have HS:=aA hs;have H64:=aA h64;have GXL:=aA (HI.out.m.ltsz);clear hs h64;go_upto_region 5 with fail;have KB:=aA ((Kt.refl nO wr).alloc (aV p));have PB:=aA (nH wr (aV p));have M2:=aA (HI.out.m.kept KB.out (fun x=>x));generalize wr.alloc (aV p)=W2 at *;have AT:=aA (TaI.at HI.out HS.out);obtain⟨c,hc⟩:∃ c,(xs.take a).count (cX p)=c:=⟨_,rfl⟩;have hcn:c<=n:=by
    rw[<-hc];exact Nat.le_trans List.count_le_length (by rw[List.length_take];omega)
   have HC:=aA hc;have hc1:wrap64 ((c:Int)+1)=((c+1:Nat):Int):=(by rw[wrap64];omega);have hc2:IntKind.i64.wrap ((c:Int)+1)=((c+1:Nat):Int):=(by rw[IntKind.wrap_i64];omega);have A1:=aA (AT.out.1.trans (congrArg (·+1) hc));have DL:=aA (show D.length<maxLen from by have:=HI.out.le;unfold maxLen;omega);have NX:=aA (fun W' m k=>TaI.next HI.out HS.out (W':=W') m k);have NG:=aA (show wr.heap.size≠gx from fun e=>by have:=GXL.out;omega);generalize wr.heap.size=gb at *;clear hc hpc d0 d1 d2 d3 d4 d5 d6 d7 d8 d9 d10;refine rX (by kernel_rfl) (fun v=>⟨#[.slice (some ⟨bl,o,none⟩) n vc,.func (.func 49) #[] #[],undef,undef,.map none,.map (some gx),undef,.pointer (some ⟨gb,0,none⟩),.map (some gx),.slice (some ⟨bl,o,none⟩) n vc,.int .i64 n,.int .i64 a,.bool true,.pointer (some ⟨bl,o+a*11,none⟩),fH p,v 0,v 1,v 2,v 3,v 4,v 5,v 6,v 7,u23,undef],[]⟩) (fun i=>[u15,u16,u17,u18,u19,u20,u21,u22].getD i undef) (GmP eS kO gx D (fun x=>(xs.take a).count x) (cX p)) (fun _ _ _=>GmP.trans) (fun i=>(gZ eS gx (cX p) (.func (.func 49) #[] #[]) (fH p) c).getD i bY) (fun i=>xD i) 8 rfl (by kernel_rfl) (by kernel_rfl) GmP.drew ?_ ?_
   ·intro i o ho hi v W kW hd;obtain⟨D',M',eD⟩:=(kW.m ⟨D,.inl rfl,M2.out⟩).add;have PW:=aA ((kW.k.block _ (lH PB.out) NG.out).trans PB.out);match i,hi with
    | 0,_=>
     clear hd ho;refine aO rfl ?_;go_wp2_with fail;exact⟨.map (some gx),(by simp[aB]),rfl,GmP.rfl'⟩
    | 1,_=>
     clear hd ho;refine aO rfl ?_;go_wp2_with fail;exact⟨.func (.func 49) #[] #[],(by simp[aB]),rfl,GmP.rfl'⟩
    | 2,_=>
     clear hd ho;obtain⟨c0,c1,c2,c3,c4,c5,c6,c7,c8,c9,c10⟩:=eL PW.out;refine aO rfl ?_;go_wp2_with fail;exact⟨fH p,(by simp[aB]),rfl,GmP.rfl'⟩
    | 3,_=>
     have e1:v 1=.func (.func 49) #[] #[]:=hd 1 (by kernel_rfl);have e2:v 2=fH p:=hd 2 (by kernel_rfl);clear hd ho;refine aO rfl ?_;go_wp2_with (go_at_call 49;(refine(KS.out _).mono ?_);rintro e wX ⟨rfl,h1⟩;have KX:=aA h1;clear h1)
     exact⟨eS (cX p),(by simp[aB,e1,e2]),rfl,GmP.of_kept KX.out⟩
    | 4,_=>
     have e0:v 0=.map (some gx):=hd 0 (by kernel_rfl);have e3:v 3=eS (cX p):=hd 3 (by kernel_rfl);clear hd ho;refine aO rfl ?_;refine rH W rfl (.tmp 15) (.tmp 18) 95 rfl 101 3 sC Tryz.underlying95 (lS W) gx e0 M' (cX p) H64.out e3 c HC.out ?_;go_wp2_with fail;exact⟨dG c,(by simp[aB,Act.put,e0,e3]),rfl,GmP.rfl'⟩
    | 5,_=>
     have e4:v 4=dG c:=hd 4 (by kernel_rfl);clear hd ho;refine aO rfl ?_;go_wp2_with fail;exact⟨dG (c+1),(by simp[aB,e4]),rfl,GmP.rfl'⟩
    | 6,_=>
     have e0:v 0=.map (some gx):=hd 0 (by kernel_rfl);have e3:v 3=eS (cX p):=hd 3 (by kernel_rfl);clear hd ho;refine aO rfl ?_;refine zE W rfl (.tmp 15) (.tmp 18) 95 rfl 101 3 sC Tryz.underlying95 lS gx e0 M' (cX p) H64.out e3 ?_;intro wX v0 st m1 en1 ol1 k1;have GG:=aA (show GmP eS kO gx D (fun x=>(xs.take a).count x) (cX p) W wX from⟨k1,fun _=>⟨_,.inr rfl,eD▸m1⟩,ol1⟩);have EN:=aA en1;clear m1 en1 ol1 k1 M' eD;go_wp2_with fail;exact⟨.tuple #[v0,goInt ((st:Nat):Int)],(by simp[aB,Act.put,e0,e3]),⟨v0,st,rfl,EN.out⟩,GG.out⟩
    | 7,_=>
     obtain⟨v0,st,e6,en⟩:=(show jY eS gx (cX p) (v 6) W from hd 6 (by kernel_rfl));have EN:=aA en;clear hd ho en;refine aO rfl ?_;go_wp2_with fail;exact⟨goInt ((st:Nat):Int),(by simp[aB,e6,goInt]),⟨st,rfl,EN.out⟩,GmP.rfl'⟩
   ·intro o ho v W kW hd;obtain⟨D',M',eD⟩:=(kW.m ⟨D,.inl rfl,M2.out⟩).add;have e0:v 0=.map (some gx):=hd 0 (by decide);have e5:v 5=dG (c+1):=hd 5 (by decide);obtain⟨st,e7,en⟩:=(show jX eS gx (cX p) (v 7) W from hd 7 (by decide));have K9:=aA (nT HI.out.k KB.out);have K8:=aA kW.k;clear hd ho kW;refine aO rfl ?_;refine xM W rfl (.tmp 15) (.tmp 22) (.tmp 20) 95 rfl 101 sC gx st e0 e7 M' (cX p) H64.out en (c+1) (fun y=>(xs.take (a+1)).count y) A1.out AT.out.2 e5 ?_;intro w3 m3 hin k3;have M3:=aA (show MC eS kO w3 gx (aY D (cX p)) (fun y=>(xs.take (a+1)).count y)from by rw[<-eD,qR hin];exact m3);have K3:=aA (tB K9.out (K8.out.trans k3 (fun _ _ e=>e) (fun _ _ e=>e)) HI.out.nw);clear m3 k3 M' eD en hin e7;go_wp2_with fail;refine⟨⟨a+1,_,by omega,by simp,aA (NX.out w3 M3.out K3.out)⟩,by simp[intOf];omega⟩
  ·have hae:a=n:=(by omega);have hai:¬(a:Int)<n:=(by omega);have FIN:=aA (show lW eS kO w xs (.returned (.map (some gx))) wr from by
    have h:=HI.out;rw[hae,<-HN.out] at h;exact h.done)
   clear HI;go_wp2_with fail;go_ret;exact FIN.out
set_option maxHeartbeats 8000000
set_option maxRecDepth 6000
def gB(kd:Int)(o c l r:Nat):Nat:=if kd=0 then (if r<=4096*2 ^ o then 4096*2 ^ o else 0) else if kd=4 then (if 16*2 ^ c=r then (celN9 c-l)*r else 0) else 0
theorem EH(kd:Int)(o c l r:Nat)(h8:o<=8)(h7:c<=7)(hl:l<=256)(hlc:kd=4->l<=celN9 c)(hr:r<18446744073709551616)(w:World):
  Calls prog 92 #[eS (kd,(o:Int),(c:Int),(l:Int)),.int .u64 r] w fun e w'=>e=.returned (.int .u64 ((gB kd o c l r:Nat):Int))/\Kt nO w w':=by
 have KA:=aA (show Kt nO w (w.alloc (Obj.cells #[.int .i64 kd,.int .i64 o,.int .i64 c,.int .i64 l] 101 (0,0)))from(Kt.refl nO w).alloc _);have BX:=aA (nH w (Obj.cells #[.int .i64 kd,.int .i64 o,.int .i64 c,.int .i64 l] 101 (0,0)));by_cases k0:kd=0
 ·subst k0;obtain⟨q,hq⟩:=xe (4096*2 ^ o);have E:IntKind.u64.wrap ((4096:Int)*2 ^ o)=(q:Int):=by rw[hq];exact yL h8
  by_cases hle:r<=q
  ·have hli:(r:Int)<=q:=(by omega);have R:=aA (show gB 0 o c l r=q by unfold gB;rw[if_pos rfl,<-hq,if_pos hle]);rw[R.out];clear hq hle;go_enter func92,ntmps92;go_wp2_with fail;go_ret;exact⟨rfl,KA.out⟩
  ·have hli:¬(r:Int)<=q:=(by omega);have R:=aA (show gB 0 o c l r=0 by unfold gB;rw[if_pos rfl,<-hq,if_neg hle]);rw[R.out];clear hq hle;go_enter func92,ntmps92;go_wp2_with fail;go_ret;exact⟨rfl,KA.out⟩
 by_cases k4:kd=4
 ·subst k4;have HCS:=aA (fun W=>BH 4 (o:Int) (l:Int) c h7 W);have HFC:=aA (fun W=>BS 4 (o:Int) c l h7 hl W);obtain⟨z,hz⟩:=xe (16*2 ^ c);obtain⟨cn,hcn⟩:=xe (celN9 c);have hlc':l<=cn:=by rw[hcn];exact hlc rfl
  have cl:=(xO c h7).1;rw[<-hz,<-hcn] at cl;rw[<-hz] at HCS;rw[<-hcn] at HFC;have cb:=mK c h7;rw[<-hcn] at cb;by_cases hzr:z=r
  ·have R:=aA (show gB 4 o c l r=(cn-l)*r by unfold gB;rw[if_neg (by decide),if_pos rfl,<-hz,if_pos hzr,<-hcn]);rw[R.out];subst hzr;have hli:((z:Int) == (z:Int))=true:=(by simp);have e1:IntKind.u64.wrap ((cn:Int)-(l:Int))=((cn-l:Nat):Int):=(by rw[wrap_u64];omega);have hb:(cn-l)*z<=4096:=(by rw[<-cl];exact Nat.mul_le_mul_right _ (Nat.sub_le _ _));obtain⟨d,hd⟩:=xe (cn-l);rw[<-hd] at e1 hb ⊢;have e2:IntKind.u64.wrap ((d:Int)*(z:Int))=((d*z:Nat):Int):=by
    rw[wrap_u64,<-Int.natCast_mul];generalize d*z=y at *;omega
   generalize d*z=y at *;clear hz hcn hlc hlc' cl hd;go_enter func92,ntmps92;go_wp2_with fail;refine(HCS.out _).mono ?_;rintro e w1 ⟨rfl,hk1⟩;have K1:=aA (nT KA.out hk1);have B1:=aA ((hk1.block _ (lH BX.out) (fun x=>x)).trans BX.out);clear hk1;generalize w.heap.size=gb at *;have c0:w1.cell? ⟨gb,0,none⟩=some (.int .i64 4):=(by simp[World.cell?,B1.out]);have c1:w1.cell? ⟨gb,1,none⟩=some (.int .i64 o):=(by simp[World.cell?,B1.out]);have c2:w1.cell? ⟨gb,2,none⟩=some (.int .i64 c):=(by simp[World.cell?,B1.out]);have c3:w1.cell? ⟨gb,3,none⟩=some (.int .i64 l):=(by simp[World.cell?,B1.out]);go_wp2_with fail;refine(HFC.out _).mono ?_;rintro e w2 ⟨rfl,hk2⟩;have K2:=aA (nT K1.out hk2);clear hk2;go_wp2_with fail;go_ret;exact⟨rfl,K2.out⟩
  ·have R:=aA (show gB 4 o c l r=0 by unfold gB;rw[if_neg (by decide),if_pos rfl,<-hz,if_neg hzr]);rw[R.out];have hli:((z:Int) == (r:Int))=false:=(by rw[beq_eq_false_iff_ne];omega);clear hz hcn hlc hlc' cl hzr;go_enter func92,ntmps92;go_wp2_with fail;refine(HCS.out _).mono ?_;rintro e w1 ⟨rfl,hk1⟩;have K1:=aA (nT KA.out hk1);clear hk1;go_wp2_with fail;go_ret;exact⟨rfl,K1.out⟩
 ·have R:=aA (show gB kd o c l r=0 by unfold gB;rw[if_neg k0,if_neg k4]);rw[R.out];have f0:(kd == 0)=false:=by rw[beq_eq_false_iff_ne];exact k0
  have f4:(kd == 4)=false:=by rw[beq_eq_false_iff_ne];exact k4
  clear k0 k4;go_enter func92,ntmps92;go_wp2_with fail;go_ret;exact⟨rfl,KA.out⟩
structure ShOk(s:gI)(o c l:Nat):Prop where
 od:s.2.1=(o:Int)
 cl:s.2.2.1=(c:Int)
 lv:s.2.2.2=(l:Int)
 o8:o<=8
 c7:c<=7
 l256:l<=256
 lc:s.1=4->l<=celN9 c
theorem EM{w:World}{I:Img}{V:ImV}(hI:ImD w I V)(hz:(chk I).1=0)(i:Nat)(hi:i<I.np):∃ o c l,ShOk (cX (I.pg i)) o c l:=by
 obtain⟨r,hS⟩:=qT hz;obtain⟨kd,od,cl,lv,y1,y2,y3,y4,y5,y6,y7,y8,-⟩:=hS.pg i hi;refine⟨od,cl,lv,y3,y5,y7,by have:=hS.k8;omega,y6,y8,fun h4=>?_⟩;obtain⟨-,oa,oc,-,h0|⟨bl,o,-,-,hc⟩⟩:=hI.pgs
 ·omega
 obtain⟨l,g1,g2,g3,-⟩:=EA (hc i hi).1 y5 y6 h4 (tS (rK hz 4 (by decide)) i hi);have:lv=l:=by have:=y7.symm.trans g1;omega
 omega
def gA(r:Nat)(s:gI):Nat:=gB s.1 s.2.1.toNat s.2.2.1.toNat s.2.2.2.toNat r
def jD(I:Img)(r:Nat):Nat:=(((List.range I.np).map fun i=>cX (I.pg i)).map (gA r)).sum
theorem NU(s:gI)(r:Nat){o c l:Nat}(h:ShOk s o c l)(hr:r<18446744073709551616)(w:World):
  Calls prog 92 #[eS s,.int .u64 r] w fun e w'=>e=.returned (.int .u64 ((gA r s:Nat):Int))/\Kt nO w w':=by
 obtain⟨kd,od,cl,lv⟩:=s;obtain⟨e1,e2,e3,o8,c7,l256,lc⟩:=h;dsimp only at e1 e2 e3 lc;subst e1 e2 e3;show Calls _ _ _ _ fun e w'=>e=.returned (.int .u64 ((gB kd (o:Int).toNat (c:Int).toNat (l:Int).toNat r:Nat):Int))/\Kt nO w w'
 rw[Int.toNat_natCast,Int.toNat_natCast,Int.toNat_natCast];exact EH kd o c l r o8 c7 l256 lc hr w
set_option maxHeartbeats 8000000
set_option maxRecDepth 6000
structure UsI(w W:World)(g rx:Nat)(D:List gI)(c:gI->Nat)(done rest:List gI)(S:Nat)(f:gI->Nat):Prop where
 rg:RC eS W g rx D c rest
 pm:D.Perm (done ++ rest)
 s:S=(done.map fun k=>c k*f k).sum
 k:Kt nO w W
theorem UsI.next{w W w1 w2:World}{g rx:Nat}{D:List gI}{c:gI->Nat}{done rest rest':List gI}{S:Nat}{f:gI->Nat}{x:gI}(h:UsI w W g rx D c done rest S f)(hp:rest.Perm (x :: rest'))(hr:RC eS w1 g rx D c rest')(k:Kt nO w w2)(k2:Kt nO w1 w2):UsI w w2 g rx D c (done ++ [x]) rest' (S + c x*f x) f:=
 ⟨hr.kept k2 id id,h.pm.trans (by rw[List.append_assoc];exact List.Perm.append_left _ hp),by rw[h.s,List.map_append,List.sum_append];simp,k⟩
theorem YO(I:Img)(V:ImV)(r:Nat)(hr:r<18446744073709551616)(w:World)(hI:ImD w I V)(hz:(chk I).1=0):
  Calls prog 51 #[imA I V,.int .u64 r] w fun e w'=>e=.returned (.int .u64 ((jD I r%18446744073709551616:Nat):Int))/\Kt nO w w':=by
 obtain⟨⟨ma,mc,hm⟩,⟨pa,pc,hp⟩,⟨ra,rc,hr'⟩,⟨ha,hc,hh⟩,⟨ta,tc,ht⟩,-⟩:=hI.sl;have IM0:=aA (show ImAt (w.alloc (cR I V)) w.heap.size I V from⟨nH _ _,hI.keep ((Kt.refl _ w).alloc _)⟩);have K0:=aA (show Kt nO w (w.alloc (cR I V))from(Kt.refl _ w).alloc _);obtain⟨_,hS⟩:=qT hz;have hnp:=hS.np1;obtain⟨xs,hxs⟩:=xe ((List.range I.np).map fun i=>cX (I.pg i));have HT:=aA (show Calls prog 48 #[.slice pa I.np pc,.func (.func 49) #[] #[]] (w.alloc (cR I V)) (lW eS kO (w.alloc (cR I V)) xs)from by rw[hxs,<-hp];exact JR I V _ IM0.out.d hnp);have HX:=aA (show ∀ a∈xs,∃ o c l,ShOk a o c l from fun a h=>by
  rw[hxs] at h;obtain⟨i,hi,rfl⟩:=List.mem_map.1 h;exact EM hI hz i (List.mem_range.1 hi))
 have XL:=aA (show xs.length<=1024 by rw[hxs];simpa using hnp);have HE:=aA (show jD I r=(xs.map (gA r)).sum by rw[hxs];rfl);show Calls prog 51 #[.agg #[.int .u64 I.bS,.int .i64 I.lim,.int .i64 I.ord,.int .i64 I.reg,V.m,V.p,V.r,V.h,V.t],.int .u64 r] w _
 rw[hm,hp,hr',hh,ht];have EW:=aA (show(w.alloc (.cells #[.int .u64 I.bS,.int .i64 I.lim,.int .i64 I.ord,.int .i64 I.reg,.slice ma I.nm mc,.slice pa I.np pc,.slice ra I.no rc,.slice ha I.hd.length hc,.slice ta I.pt.length tc] 38 (0,0)))=w.alloc (cR I V)by rw[<-hm,<-hp,<-hr',<-hh,<-ht]);clear hm hp hr' hh ht hI hS hxs;go_enter func51,ntmps51;go_wp2_with fail;rw[EW.out];refine HT.out.mono ?_;rintro e w1 ⟨gm,D,rfl,gn,hmc,hme,hle,hk1⟩;have K1:=aA (nT K0.out hk1);have M1:=aA hmc;have ND:=aA hmc.nodup;have ME:=aA hme;clear hk1 EW hmc hme hle HT;go_wp2_with (at_range;refine tT _ rfl _ 95 rfl 101 3 Tryz.underlying95 gm rfl M1.out ?_;intro w0 hrg0 hk0 hs0)
 have I0:=aA (show UsI w w0 gm w1.heap.size D (fun a=>xs.count a) [] D 0 (gA r)from⟨hrg0,by simp,rfl,nT K1.out (hk0.mono fun _ _ e=>e.elim)⟩);have RN:=aA (show w.heap.size<=w1.heap.size from K1.out.size);generalize w1.heap.size=rx at *;clear hrg0 hk0 hs0 gn;simp only[Act.put,List.setIfInBounds_toArray,List.set_cons_succ,List.set_cons_zero];go_loopw [5] (fun sv W=>∃ (done rest:List gI) (S:Nat),sv=.int .u64 ((S%18446744073709551616:Nat):Int)/\Hid (UsI w W gm rx D (fun a=>xs.count a) done rest S (gA r))) (fun _ W=>W.rangeLeft gm rx)
 case atStart=>exact⟨[],D,0,rfl,I0⟩
 case round=>
  clear I0 M1;obtain⟨done,rest,S,rfl,HI⟩:=hrel;have HRL:=aA HI.out.rg.left_eq;obtain⟨q,hq⟩:=xe (S%18446744073709551616);have HQ:=aA hq;rw[<-hq];clear hq;go_wp2_with (first|(at_next;refine tP _ rfl _ rfl gm rx rest rfl HI.out.rg ?_ ?_))
  ·intro hd;have FIN:=aA (show jD I r%18446744073709551616=q from by
    rw[HQ.out,HI.out.s,HE.out];have pm:=HI.out.pm;rw[hd,List.append_nil] at pm;rw[<-TY (fun k=>xs.count k*gA r k) pm,BI (gA r) D ND.out xs (fun x hx=>(ME.out x).2 hx)])
   have KF:=aA HI.out.k;clear hd HI HRL;go_wp2_with fail;go_ret;exact⟨by rw[FIN.out];rfl,KF.out⟩
  ·intro kd od cl lv rest' w2 hp hrg hk hzz hen;obtain⟨x,hx⟩:∃ x:gI,x=(kd,od,cl,lv):=⟨_,rfl⟩;rw[<-hx] at hp;obtain⟨o,c,l,hsh⟩:=HX.out x ((ME.out x).1 (HI.out.pm.mem_iff.2 (List.mem_append_right _ (hp.mem_iff.2 List.mem_cons_self))));have RM:=aA (fun W=>NU x r hsh hr W);subst hx;obtain⟨m,hm⟩:∃ m,gA r (kd,od,cl,lv)=m:=⟨_,rfl⟩;obtain⟨n,hn⟩:∃ n,xs.count (kd,od,cl,lv)=n:=⟨_,rfl⟩;rw[hm] at RM;rw[hn] at hen ⊢;have K2:=aA (show Kt nO w w2 from HI.out.k.trans hk (fun _ _ e=>e) (fun y hy e=>by have:=RN.out;omega));have KA:=aA (show Kt nO w2 (w2.alloc (Obj.cells #[.int .i64 kd,.int .i64 od,.int .i64 cl,.int .i64 lv] 101 (0,0)))from(Kt.refl nO w2).alloc _);have NX:=aA (fun W k k2=>show UsI w W gm rx D (fun a=>xs.count a) (done ++ [(kd,od,cl,lv)]) rest' (S + n*m) (gA r)from by rw[<-hn,<-hm];exact HI.out.next hp hrg k k2);have RL:=aA (show rest.length=rest'.length+1 by rw[hp.length_eq];rfl);have n64:n<=1024:=(by rw[<-hn];exact Nat.le_trans List.count_le_length XL.out);have w1c:IntKind.u64.wrap (n:Int)=n:=(by rw[wrap_u64];omega);obtain⟨p,hpp⟩:=xe (n*m%18446744073709551616);have w2c:IntKind.u64.wrap ((n:Int)*(m:Int))=(p:Int):=(by rw[wrap_u64,hpp];simp);obtain⟨q2,hq2⟩:=xe ((S+n*m)%18446744073709551616);have w3c:IntKind.u64.wrap ((q:Int)+(p:Int))=(q2:Int):=by
    rw[wrap_u64,hq2,hpp,HQ.out];generalize n*m=y;omega
   have HQ2:=aA hq2;clear hpp hq2;clear hm hn hp hrg hk hzz hsh;dsimp only[eS] at hen ⊢;go_wp2_with fail;refine(RM.out _).mono ?_;rintro e w5 ⟨rfl,hk5⟩;have K5:=aA (nT KA.out hk5);clear hk5;go_wp2_with fail;refine⟨⟨done ++ [(kd,od,cl,lv)],rest',S + n*m,by rw[HQ2.out],aA (NX.out _ (nT K2.out K5.out) K5.out)⟩,?_⟩;have h1:=(NX.out _ (nT K2.out K5.out) K5.out).rg.left_eq;have h2:=RL.out;have h3:=HRL.out;omega
set_option maxHeartbeats 8000000
set_option maxRecDepth 6000
def lT(k r:Nat):Bool:=mT r && (decide (16<=r) && decide (r<=4096*2 ^ k))
theorem SV(bS lim:Int)(k r:Nat)(h8:k<=8)(hr:r<18446744073709551616)(w:World):
  Calls prog 50 #[.agg #[.int .u64 bS,.int .i64 lim,.int .i64 k],.int .u64 r] w fun e w'=>e=.returned (.bool (lT k r))/\Kt nO w w':=by
 have KA:=aA (show Kt nO w (w.alloc (Obj.cells #[.int .u64 bS,.int .i64 lim,.int .i64 k] 29 (0,0)))from(Kt.refl nO w).alloc _);have IP:=aA (fun W=>YS r hr W);obtain⟨q,hq⟩:=xe (4096*2 ^ k);have E:IntKind.u64.wrap ((4096:Int)*2 ^ k)=(q:Int):=by rw[hq];exact yL h8
 have HS:=aA (show lT k r=(mT r && (decide (16<=r) && decide (r<=q)))by rw[hq];rfl);rw[HS.out];obtain⟨b,hb⟩:=xe (mT r);rw[<-hb] at IP ⊢;clear hq hb
 cases b with
 | false=>
  go_enter func50,ntmps50;go_wp2_with fail;refine(IP.out _).mono ?_;rintro e w1 ⟨rfl,rfl⟩;go_wp2_with fail;go_ret;exact⟨rfl,KA.out⟩
 | true=>
  by_cases h16 : 16<=r
  ·have hi:(16:Int)<=(r:Int):=(by omega);rw[decide_eq_true h16];clear h16;go_enter func50,ntmps50;go_wp2_with fail;refine(IP.out _).mono ?_;rintro e w1 ⟨rfl,rfl⟩;go_wp2_with fail;go_ret;exact⟨rfl,KA.out⟩
  ·have hi:¬(16:Int)<=(r:Int):=(by omega);rw[decide_eq_false h16];clear h16;go_enter func50,ntmps50;go_wp2_with fail;refine(IP.out _).mono ?_;rintro e w1 ⟨rfl,rfl⟩;go_wp2_with fail;go_ret;exact⟨rfl,KA.out⟩
def nV(I:Img)(r:Nat):Int:=if (chk I).1=0/\lT I.ord.toNat r=true then (if I.nm=0 then 0 else ((1000*(I.nm-jD I r)/I.nm:Nat):Int)) else -1
theorem VC(I:Img)(V:ImV)(r:Nat)(hr:r<18446744073709551616)(w:World)(hI:ImD w I V)(hU:(chk I).1=0->lT I.ord.toNat r=true->jD I r<=I.nm):
  Calls prog 15 #[imA I V,.int .u64 r] w fun e w'=>e=.returned (.int .i64 (nV I r))/\Kt nO w w':=by
 obtain⟨⟨ma,mc,hm⟩,⟨pa,pc,hp⟩,⟨ra,rc,hr'⟩,⟨ha,hc,hh⟩,⟨ta,tc,ht⟩,-⟩:=hI.sl;have IM0:=aA (show ImAt (w.alloc (cR I V)) w.heap.size I V from⟨nH _ _,hI.keep ((Kt.refl _ w).alloc _)⟩);have K0:=aA (show Kt nO w (w.alloc (cR I V))from(Kt.refl _ w).alloc _);have HCK:=aA (show Calls prog 47 #[.agg #[.int .u64 I.bS,.int .i64 I.lim,.int .i64 I.ord,.int .i64 I.reg,V.m,V.p,V.r,V.h,V.t]] (w.alloc (cR I V)) fun e w'=>e=.returned (.bool ((chk I).1 == 0))/\Kt nO (w.alloc (cR I V)) w' from AO I V (w.alloc (cR I V)) IM0.out.d);have HUS:=aA (show ∀ W,ImD W I V->(chk I).1=0->Calls prog 51 #[.agg #[.int .u64 I.bS,.int .i64 I.lim,.int .i64 I.ord,.int .i64 I.reg,V.m,V.p,V.r,V.h,V.t],.int .u64 r] W fun e w'=>e=.returned (.int .u64 ((jD I r%18446744073709551616:Nat):Int))/\Kt nO W w' from fun W h1 h2=>YO I V r hr W h1 h2);have VM:=aA hm;show Calls prog 15 #[.agg #[.int .u64 I.bS,.int .i64 I.lim,.int .i64 I.ord,.int .i64 I.reg,V.m,V.p,V.r,V.h,V.t],.int .u64 r] w _
 rw[hm,hp,hr',hh,ht] at HCK HUS ⊢;have EW:=aA (show(w.alloc (.cells #[.int .u64 I.bS,.int .i64 I.lim,.int .i64 I.ord,.int .i64 I.reg,.slice ma I.nm mc,.slice pa I.np pc,.slice ra I.no rc,.slice ha I.hd.length hc,.slice ta I.pt.length tc] 38 (0,0)))=w.alloc (cR I V)by rw[<-hm,<-hp,<-hr',<-hh,<-ht]);have VS:=aA (show V.p=_/\V.r=_/\V.h=_/\V.t=_ from⟨hp,hr',hh,ht⟩);clear hm hp hr' hh ht hI;by_cases hz:(chk I).1=0
 case neg=>
  have f0:((chk I).1 == 0)=false:=by rw[beq_eq_false_iff_ne];exact hz
  have E:=aA (show nV I r = -1 by unfold nV;rw[if_neg (fun h=>hz h.1)]);rw[E.out];rw[f0] at HCK;clear hz f0 hU;go_enter func15,ntmps15;go_wp2_with fail;rw[EW.out];refine HCK.out.mono ?_;rintro e w1 ⟨rfl,hk1⟩;have K1:=aA (nT K0.out hk1);clear hk1 EW;go_wp2_with fail;go_ret;exact⟨rfl,K1.out⟩
 have f0:((chk I).1 == 0)=true:=by rw[beq_iff_eq];exact hz
 rw[f0] at HCK;obtain⟨_,hS⟩:=qT hz;have hk8:=hS.k8;have hord:=hS.ord;obtain⟨k,hk⟩:=xe (I.ord.toNat);rw[<-hk] at hord hk8 hU;have HIS:=aA (fun W=>SV (I.bS:Int) I.lim k r hk8 hr W);have EQ:=aA (show nV I r=if lT k r=true then (if I.nm=0 then 0 else ((1000*(I.nm-jD I r)/I.nm:Nat):Int)) else -1 by
  unfold nV;rw[<-hk];by_cases h:lT k r=true
  ·rw[if_pos ⟨hz,h⟩,if_pos h]
  ·rw[if_neg (fun x=>h x.2),if_neg h])
 have HO:=aA hord;have HZ:=aA hz;have HU:=aA (hU hz);have nm22:I.nm<=4194304:=by have:=hS.nm;have:=hS.np1;omega
 clear hU hz f0 hS hk hord;rw[EQ.out];obtain⟨b,hb⟩:=xe (lT k r);rw[<-hb] at HIS HU ⊢;obtain⟨A,hA⟩:∃ A:Int,A=if b=true then (if I.nm=0 then 0 else ((1000*(I.nm-jD I r)/I.nm:Nat):Int)) else -1:=⟨_,rfl⟩;rw[<-hA];have HA:=aA hA;clear hb EQ hA;go_enter func15,ntmps15;go_wp2_with fail;rw[EW.out];refine HCK.out.mono ?_;rintro e w1 ⟨rfl,hk1⟩;have K1:=aA (nT K0.out hk1);have IM1:=aA (IM0.out.keep hk1);clear hk1 EW;generalize w.alloc (cR I V)=W0 at *;generalize w.heap.size=ib at *;obtain⟨c0,c1,c2,c3,c4,c5,c6,c7,c8⟩:=IM1.out.cells;rw[HO.out] at c2;go_wp2_with fail;refine(HIS.out _).mono ?_;rintro e w2 ⟨rfl,hk2⟩;have K2:=aA (nT K1.out hk2);have IM2:=aA (IM1.out.keep hk2);clear hk2 c0 c1 c2 c3 c4 c5 c6 c7 c8
 cases b with
 | false=>
  have A0:=aA (show A = -1 by rw[HA.out];rfl);go_wp2_with fail;go_ret;exact⟨by rw[A0.out];rfl,K2.out⟩
 | true=>
  obtain⟨c0,c1,c2,c3,c4,c5,c6,c7,c8⟩:=IM2.out.cells;rw[VM.out] at c4;rw[VS.out.1] at c5;rw[VS.out.2.1] at c6;rw[VS.out.2.2.1] at c7;rw[VS.out.2.2.2] at c8;have US:=aA (HUS.out w2 IM2.out.d HZ.out);have hu:=HU.out rfl;obtain⟨nm,hnm⟩:=xe (I.nm);have HA2:=aA (show A=if nm=0 then 0 else ((1000*(nm-jD I r)/nm:Nat):Int)by rw[HA.out,if_pos rfl,hnm]);rw[<-hnm] at nm22 hu c4 US VM;have w1c:IntKind.u64.wrap (nm:Int)=nm:=by rw[wrap_u64];omega
  clear hnm;by_cases h0:nm=0
  ·have f0:((nm:Int) == 0)=true:=(by rw[beq_iff_eq];omega);have A0:=aA (show A=0 by rw[HA2.out,if_pos h0]);clear h0;go_wp2_with fail;go_ret;exact⟨by rw[A0.out];rfl,K2.out⟩
  ·have f0:((nm:Int) == 0)=false:=(by rw[beq_eq_false_iff_ne];omega);obtain⟨u,hu2⟩:=xe (jD I r);rw[<-hu2] at US hu;have A1:=aA (show A=((1000*(nm-u)/nm:Nat):Int)by rw[HA2.out,if_neg h0,hu2]);obtain⟨u',hu'⟩:=xe (u%18446744073709551616);rw[<-hu'] at US;obtain⟨d,hd⟩:=xe (nm-u);have w2c:IntKind.u64.wrap ((nm:Int)-(u':Int))=(d:Int):=(by rw[wrap_u64];omega);have w3c:IntKind.u64.wrap ((1000:Int)*(d:Int))=((1000*d:Nat):Int):=(by rw[wrap_u64];omega);obtain⟨y,hy⟩:=xe (1000*d);rw[<-hy] at w3c;obtain⟨z,hzz⟩:=xe (y/nm);have w4c:(y:Int)/(nm:Int)=z:=(by rw[hzz];simp);have w5c:(y:Int).tdiv (nm:Int)=z:=(by rw[Int.tdiv_eq_ediv_of_nonneg (by omega)];exact w4c);have hz2:z<=y:=(by rw[hzz];exact Nat.div_le_self _ _);have hyb:y<=4194304000:=(by omega);have W6:=aA (show wrap64 (z:Int)=z by rw[wrap64];omega);have w7c:IntKind.u64.wrap (z:Int)=z:=(by rw[wrap_u64];omega);have n0:¬(nm:Int)=0:=(by omega);have A2:=aA (show A=(z:Int)by rw[A1.out,<-hd,<-hy,hzz]);clear h0 hu2 hu' hd hy hzz hu;go_wp2_with fail;refine US.out.mono ?_;rintro e w3 ⟨rfl,hk3⟩;have K3:=aA (nT K2.out hk3);clear hk3 hk8 hr nm22 hz2 hyb w1c;clear w5c;go_wp2_with fail;go_ret;refine⟨?_,K3.out⟩;show Ending.returned (.int .i64 (wrap64 (z:Int)))=_
   rw[W6.out,A2.out]
end Go.Proofs.YtkfmheelhinjdaaGreatDoor.W
namespace Go.Proofs.YtkfmheelhinjdaaGreatDoor
open _root_.Go.Proofs.Tryz
set_option linter.unusedVariables false
end Go.Proofs.YtkfmheelhinjdaaGreatDoor
namespace Go.Proofs.YtkfmheelhinjdaaGreatDoor.W
open _root_.Go.Proofs.Tryz
open Go.RowKit
set_option linter.unusedVariables false
set_option maxHeartbeats 8000000
set_option maxRecDepth 6000
theorem mB{W:World}{g p s:Nat}(h:W.heap[g]?=some (bP p s)):W.cell? ⟨g,0,none⟩=some (.int .u64 p)/\W.cell? ⟨g,1,none⟩=some (.int .u64 s):=by
 constructor <;> simp[World.cell?,h,bP]
theorem xB(v:Value)(l:List (Nat×Nat))(w:World)(hl:l.length<=281474976710656)(hb:∀ b∈l,gC b)(hv:RBk w v l):
  Calls prog 58 #[v,.func (.func 59) #[] #[]] w (lW eB gC w l):=by
 have HV:=aA hv;obtain⟨va,vc,hv1,-⟩:=hv;obtain⟨n,hn⟩:=xe (l.length);obtain⟨xs,hxs⟩:=xe (l);rw[<-hn] at hl hv1;have HN:=aA (show xs.length=n by rw[hxs,hn]);have RW:=aA (show ∀ W,Kt nO w W->∀ j,j<n->∃ bl,∃ p s:Nat,va=some ⟨bl,0,none⟩/\xs[j]?=some (p,s)/\gC (p,s)/\W.cell? ⟨bl,j*2,none⟩=some (.int .u64 p)/\W.cell? ⟨bl,j*2+1,none⟩=some (.int .u64 s)from fun W hW j hj=>by
  obtain⟨oa,oc,q1,q2⟩:=HV.out;rw[hv1] at q1
  cases q1
  rcases q2 with q2|⟨g,rfl,hg,hc⟩
  ·rw[hn,q2] at hj;simp at hj
  have hd:l.getD j (0,0)=l[j]'(hn▸hj):=by rw[List.getD_eq_getElem?_getD,List.getElem?_eq_getElem (hn▸hj)];rfl
  refine⟨g,(l.getD j (0,0)).1,(l.getD j (0,0)).2,rfl,?_,?_,hW.cell (fun x=>x) (hc j (by omega)).1,hW.cell (fun x=>x) (hc j (by omega)).2⟩
  ·rw[hxs,hd,List.getElem?_eq_getElem (hn▸hj)]
  ·rw[hd];exact hb _ (List.getElem_mem _))
 rw[<-hxs];clear hxs HV hn hb;subst hv1;have hmk:∀ w,(Instr.makeMap 112 none).run prog w=.ok (.map (some w.heap.size)) (w.alloc (.map #[] 0)):=fun w=>run_makeMap _ w
 have I0:=aA (show TaI eB gC w (w.alloc (.map #[] 0)) w.heap.size xs 0 [] from TaI.start w);go_enter func58,ntmps58;go_wp2_with fail;generalize w.alloc (.map #[] 0)=W1 at *;generalize hgx:w.heap.size=gx at *;clear hmk;go_loopw [11] (fun i W=>∃ a D,a<=n/\i=.int .i64 ((a:Nat):Int)/\Hid (TaI eB gC w W gx xs a D)) (fun i _=>n-(intOf i).toNat)
 case atStart=>exact⟨0,[],Nat.zero_le _,rfl,I0⟩
 case round=>
  clear I0;obtain⟨a,D,ha,rfl,HI⟩:=hrel;by_cases hlt:a<n
  ·have hai:(a:Int)<n:=(by omega);obtain⟨bl,p,s,rfl,hs,h64,r0,r1⟩:=RW.out wr HI.out.k a hlt;have KS:=aA (fun W=>VY (p,s) W);have HS:=aA hs;have H64:=aA h64;have GXL:=aA (HI.out.m.ltsz);clear hs h64;go_upto_region 5 with fail;have KB:=aA ((Kt.refl nO wr).alloc (bP p s));have PB:=aA (nH wr (bP p s));have M2:=aA (HI.out.m.kept KB.out (fun x=>x));generalize wr.alloc (bP p s)=W2 at *;have AT:=aA (TaI.at HI.out HS.out);obtain⟨c,hc⟩:∃ c,(xs.take a).count (p,s)=c:=⟨_,rfl⟩;have hcn:c<=n:=by
    rw[<-hc];exact Nat.le_trans List.count_le_length (by rw[List.length_take];omega)
   have HC:=aA hc;have hc1:wrap64 ((c:Int)+1)=((c+1:Nat):Int):=(by rw[wrap64];omega);have hc2:IntKind.i64.wrap ((c:Int)+1)=((c+1:Nat):Int):=(by rw[IntKind.wrap_i64];omega);have A1:=aA (AT.out.1.trans (congrArg (·+1) hc));have DL:=aA (show D.length<maxLen from by have:=HI.out.le;unfold maxLen;omega);have NX:=aA (fun W' m k=>TaI.next HI.out HS.out (W':=W') m k);have NG:=aA (show wr.heap.size≠gx from fun e=>by have:=GXL.out;omega);generalize wr.heap.size=gb at *;clear hc r0 r1;refine rX (by kernel_rfl) (fun v=>⟨#[.slice (some ⟨bl,0,none⟩) n vc,.func (.func 59) #[] #[],undef,undef,.map none,.map (some gx),undef,.pointer (some ⟨gb,0,none⟩),.map (some gx),.slice (some ⟨bl,0,none⟩) n vc,.int .i64 n,.int .i64 a,.bool true,.pointer (some ⟨bl,a*2,none⟩),.agg #[.int .u64 p,.int .u64 s],v 0,v 1,v 2,v 3,v 4,v 5,v 6,v 7,u23,undef],[]⟩) (fun i=>[u15,u16,u17,u18,u19,u20,u21,u22].getD i undef) (GmP eB gC gx D (fun x=>(xs.take a).count x) (p,s)) (fun _ _ _=>GmP.trans) (fun i=>(gZ eB gx (p,s) (.func (.func 59) #[] #[]) (.agg #[.int .u64 p,.int .u64 s]) c).getD i bY) (fun i=>xD i) 8 rfl (by kernel_rfl) (by kernel_rfl) GmP.drew ?_ ?_
   ·intro i o ho hi v W kW hd;obtain⟨D',M',eD⟩:=(kW.m ⟨D,.inl rfl,M2.out⟩).add;have PW:=aA ((kW.k.block _ (lH PB.out) NG.out).trans PB.out);match i,hi with
    | 0,_=>
     clear hd ho;refine aO rfl ?_;go_wp2_with fail;exact⟨.map (some gx),(by simp[aB]),rfl,GmP.rfl'⟩
    | 1,_=>
     clear hd ho;refine aO rfl ?_;go_wp2_with fail;exact⟨.func (.func 59) #[] #[],(by simp[aB]),rfl,GmP.rfl'⟩
    | 2,_=>
     clear hd ho;obtain⟨c0,c1⟩:=mB PW.out;refine aO rfl ?_;go_wp2_with fail;exact⟨.agg #[.int .u64 p,.int .u64 s],(by simp[aB]),rfl,GmP.rfl'⟩
    | 3,_=>
     have e1:v 1=.func (.func 59) #[] #[]:=hd 1 (by kernel_rfl);have e2:v 2=.agg #[.int .u64 p,.int .u64 s]:=hd 2 (by kernel_rfl);clear hd ho;refine aO rfl ?_;go_wp2_with (go_at_call 59;(refine(KS.out _).mono ?_);rintro e wX ⟨rfl,h1⟩;have KX:=aA h1;clear h1)
     exact⟨eB (p,s),(by simp[aB,e1,e2]),rfl,GmP.of_kept KX.out⟩
    | 4,_=>
     have e0:v 0=.map (some gx):=hd 0 (by kernel_rfl);have e3:v 3=eB (p,s):=hd 3 (by kernel_rfl);clear hd ho;refine aO rfl ?_;refine rH W rfl (.tmp 15) (.tmp 18) 112 rfl 45 3 jS Tryz.underlying112 (lS W) gx e0 M' (p,s) H64.out e3 c HC.out ?_;go_wp2_with fail;exact⟨dG c,(by simp[aB,Act.put,e0,e3]),rfl,GmP.rfl'⟩
    | 5,_=>
     have e4:v 4=dG c:=hd 4 (by kernel_rfl);clear hd ho;refine aO rfl ?_;go_wp2_with fail;exact⟨dG (c+1),(by simp[aB,e4]),rfl,GmP.rfl'⟩
    | 6,_=>
     have e0:v 0=.map (some gx):=hd 0 (by kernel_rfl);have e3:v 3=eB (p,s):=hd 3 (by kernel_rfl);clear hd ho;refine aO rfl ?_;refine zE W rfl (.tmp 15) (.tmp 18) 112 rfl 45 3 jS Tryz.underlying112 lS gx e0 M' (p,s) H64.out e3 ?_;intro wX v0 st m1 en1 ol1 k1;have GG:=aA (show GmP eB gC gx D (fun x=>(xs.take a).count x) (p,s) W wX from⟨k1,fun _=>⟨_,.inr rfl,eD▸m1⟩,ol1⟩);have EN:=aA en1;clear m1 en1 ol1 k1 M' eD;go_wp2_with fail;exact⟨.tuple #[v0,goInt ((st:Nat):Int)],(by simp[aB,Act.put,e0,e3]),⟨v0,st,rfl,EN.out⟩,GG.out⟩
    | 7,_=>
     obtain⟨v0,st,e6,en⟩:=(show jY eB gx (p,s) (v 6) W from hd 6 (by kernel_rfl));have EN:=aA en;clear hd ho en;refine aO rfl ?_;go_wp2_with fail;exact⟨goInt ((st:Nat):Int),(by simp[aB,e6,goInt]),⟨st,rfl,EN.out⟩,GmP.rfl'⟩
   ·intro o ho v W kW hd;obtain⟨D',M',eD⟩:=(kW.m ⟨D,.inl rfl,M2.out⟩).add;have e0:v 0=.map (some gx):=hd 0 (by decide);have e5:v 5=dG (c+1):=hd 5 (by decide);obtain⟨st,e7,en⟩:=(show jX eB gx (p,s) (v 7) W from hd 7 (by decide));have K9:=aA (nT HI.out.k KB.out);have K8:=aA kW.k;clear hd ho kW;refine aO rfl ?_;refine xM W rfl (.tmp 15) (.tmp 22) (.tmp 20) 112 rfl 45 jS gx st e0 e7 M' (p,s) H64.out en (c+1) (fun y=>(xs.take (a+1)).count y) A1.out AT.out.2 e5 ?_;intro w3 m3 hin k3;have M3:=aA (show MC eB gC w3 gx (aY D (p,s)) (fun y=>(xs.take (a+1)).count y)from by rw[<-eD,qR hin];exact m3);have K3:=aA (tB K9.out (K8.out.trans k3 (fun _ _ e=>e) (fun _ _ e=>e)) HI.out.nw);clear m3 k3 M' eD en hin e7;go_wp2_with fail;refine⟨⟨a+1,_,by omega,by simp,aA (NX.out w3 M3.out K3.out)⟩,by simp[intOf];omega⟩
  ·have hae:a=n:=(by omega);have hai:¬(a:Int)<n:=(by omega);have FIN:=aA (show lW eB gC w xs (.returned (.map (some gx))) wr from by
    have h:=HI.out;rw[hae,<-HN.out] at h;exact h.done)
   clear HI;go_wp2_with fail;go_ret;exact FIN.out
end Go.Proofs.YtkfmheelhinjdaaGreatDoor.W
