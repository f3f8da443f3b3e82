import Derived.Test.YtkfmheelhinjdaaGreatDoorWl
import Derived.Test.YtkfmheelhinjdaaGreatDoorWn
import Derived.ProofKit
import Derived.OpenShut
import Derived.Deep.Slices
import Derived.Deep.Strs
import Derived.SizedLaws
set_option maxRecDepth 1000000
set_option maxHeartbeats 80000000
namespace Go.Proofs.YtkfmheelhinjdaaGreatDoor.W
open Tryz
open Go.RowKit
set_option linter.unusedVariables false
set_option maxHeartbeats 16000000
set_option maxRecDepth 6000
set_option maxHeartbeats 8000000
set_option maxRecDepth 6000
def XR(s:Nat)(w:World)(v:Value)(n:Nat)(T:TypeId)(N:Nat)(F:Nat->Value):Prop:=∃ b cs,s<b/\v=.slice (some ⟨b,0,none⟩) n n/\w.heap[b]?=some (.cells cs T)/\cs.size=N/\∀ j,j<N->cs[j]?=some (F j)
theorem XR.keepS{s n N:Nat}{w W:World}{v:Value}{T:TypeId}{F:Nat->Value}{S:Nat->Prop}(h:XR s w v n T N F)(hk:Kt S w W)(hS:∀ b,v.ownBlock=some b->¬S b):XR s W v n T N F:=by
 obtain⟨b,cs,h1,rfl,h3,h4⟩:=h;exact⟨b,cs,h1,rfl,(hk.block _ (lH h3) (hS b rfl)).trans h3,h4⟩
theorem XR.keep{s n N:Nat}{w W:World}{v:Value}{T:TypeId}{F:Nat->Value}(h:XR s w v n T N F)(hk:Kt nO w W):XR s W v n T N F:=h.keepS hk fun _ _ x=>x
theorem XR.ty{s n N:Nat}{w:World}{v:Value}{T:TypeId}{F:Nat->Value}(h:XR s w v n T N F){b:Nat}(hb:v.ownBlock=some b):∃ cs,w.heap[b]?=some (.cells cs T):=by
 obtain⟨b,cs,h1,rfl,h3,h4⟩:=h;simp[Value.ownBlock] at hb;subst hb;exact⟨cs,h3⟩
theorem XR.own{s n N:Nat}{w:World}{v:Value}{T:TypeId}{F:Nat->Value}(h:XR s w v n T N F){b:Nat}(hb:v.ownBlock=some b):s<b:=by
 obtain⟨b,cs,h1,rfl,h3,h4⟩:=h;simp[Value.ownBlock] at hb;subst hb;exact h1
theorem XR.cell{s n N:Nat}{w:World}{b:Nat}{T:TypeId}{F:Nat->Value}{m c:Nat}(h:XR s w (.slice (some ⟨b,0,none⟩) m c) n T N F){j:Nat}(hj:j<N):w.cell? ⟨b,j,none⟩=some (F j):=by
 obtain⟨b',cs,h1,e,h3,h4,h5⟩:=h
 cases e
 simp[World.cell?,h3,h5 j hj]
theorem XR.frz{s n N:Nat}{w:World}{b:Nat}{T:TypeId}{F:Nat->Value}{m c:Nat}(h:XR s w (.slice (some ⟨b,0,none⟩) m c) n T N F)(j:Nat):w.frozen? ⟨b,j,none⟩=false:=by
 obtain⟨b',cs,h1,e,h3,h4,h5⟩:=h
 cases e
 simp[World.frozen?,h3]
theorem XR.put{s n N:Nat}{w:World}{b:Nat}{T:TypeId}{F:Nat->Value}{m c:Nat}(h:XR s w (.slice (some ⟨b,0,none⟩) m c) n T N F){k:Nat}(hk:k<N)(x:Value):XR s (w.setCell ⟨b,k,none⟩ x) (.slice (some ⟨b,0,none⟩) m c) n T N fun j=>if j=k then x else F j:=by
 obtain⟨b',cs,h1,e,h3,h4,h5⟩:=h
 cases e
 refine⟨_,cs.setIfInBounds k x,h1,rfl,kC h3 x,by simpa using h4,fun j hj=>?_⟩;by_cases e:j=k
 ·subst e;simp[h4,hj]
 ·show _=some (if j=k then x else F j)
  rw[if_neg e,Array.getElem?_setIfInBounds_ne (Ne.symm e)];exact h5 j hj
theorem XR.congr{s n N:Nat}{w:World}{v:Value}{T:TypeId}{F G:Nat->Value}(h:XR s w v n T N F)(e:∀ j,j<N->F j=G j):XR s w v n T N G:=by
 obtain⟨b,cs,h1,h2,h3,h4,h5⟩:=h;exact⟨b,cs,h1,h2,h3,h4,fun j hj=>(h5 j hj).trans (by rw[e j hj])⟩
structure ImOk(I:Img):Prop where
 b64:I.bS<18446744073709551616
 lim:N64 I.lim
 ord:N64 I.ord
 reg:N64 I.reg
 nm:I.nm<=9223372036854775807
 np:I.np<=9223372036854775807
 no:I.no<=9223372036854775807
 nh:I.hd.length<=9223372036854775807
 nt:I.pt.length<=9223372036854775807
 mem:∀ i,i<I.nm->I.mem i<256
 pg:∀ i,i<I.np->PgIn (I.pg i)
 pr:∀ i,i<I.no->∀ j,(I.pr i).getD j 0<2 ^ 64
 hd:∀ i,i<I.hd.length->I.hd.getD i 0<18446744073709551616
 pt:∀ i,i<I.pt.length->N64 (I.pt.getD i 0)
theorem XR.le{s s' n N:Nat}{w:World}{v:Value}{T:TypeId}{F:Nat->Value}(h:XR s w v n T N F)(e:s'<=s):XR s' w v n T N F:=by
 obtain⟨b,cs,h1,h2,h3⟩:=h;exact⟨b,cs,by omega,h2,h3⟩
set_option maxHeartbeats 8000000
set_option maxRecDepth 6000
theorem AM{P:World->Prop}(w:World)(h:∀ W,W=w->P W):P w:=h w rfl
set_option maxHeartbeats 8000000
set_option maxRecDepth 6000
set_option maxHeartbeats 8000000
set_option maxRecDepth 6000
def RBk(w:World)(v:Value)(l:List (Nat×Nat)):Prop:=∃ oa oc,v=.slice oa l.length oc/\(l=[]\/∃ g,oa=some ⟨g,0,none⟩/\g<w.heap.size/\∀ j,j<l.length->w.cell? ⟨g,j*2,none⟩=some (.int .u64 ((l.getD j (0,0)).1:Int))/\w.cell? ⟨g,j*2+1,none⟩=some (.int .u64 ((l.getD j (0,0)).2:Int)))
theorem blV_get:∀ (l:List (Nat×Nat)) (j:Nat),j<l.length->(blV l)[j*2]?=some (.int .u64 ((l.getD j (0,0)).1:Int))/\(blV l)[j*2+1]?=some (.int .u64 ((l.getD j (0,0)).2:Int))
 | [],j,h=>by simp at h
 | b :: l,0,_=>by simp[blV]
 | b :: l,j+1,h=>by
  have:=blV_get l j (by simpa using h);rw[show(j+1)*2=j*2+1+1 by omega];simpa [blV] using this
set_option maxHeartbeats 8000000
set_option maxRecDepth 6000
def oD{α : Type}[BEq α](enc : α->Value)(ok : α->Prop)(w:World)(xs:List α)(e:Ending)(w':World):Prop:=
 ∃ g D,e=.returned (.map (some g))/\w.heap.size<=g/\MC enc ok w' g D (fun a=>xs.count a)/\(∀ a,a∈D↔a∈xs)/\D.length<=xs.length/\Kt nO w w'
structure TaI{α : Type}[BEq α](enc : α->Value)(ok : α->Prop)(w W:World)(g:Nat)(xs:List α)(a:Nat)(D:List α):Prop where
 m:MC enc ok W g D (fun x=>(xs.take a).count x)
 me:∀ x,x∈D↔x∈xs.take a
 le:D.length<=a
 k:Kt nO w W
 nw:w.heap.size<=g
section
variable {α : Type} [BEq α] {enc : α->Value} {ok : α->Prop} {w W W':World} {g a:Nat} {xs D:List α} {x : α}
theorem TaI.start(w:World):TaI enc ok w (w.alloc (.map #[] 0)) w.heap.size xs 0 []:=by
 refine⟨?_,by simp,Nat.le_refl _,(Kt.refl _ w).alloc _,Nat.le_refl _⟩;have:=MC.made (enc:=enc) (ok:=ok) w;simpa using this
theorem TaI.at[LawfulBEq α](h:TaI enc ok w W g xs a D)(hx:xs[a]?=some x):(xs.take (a+1)).count x=(xs.take a).count x+1/\∀ y,y≠x->(xs.take (a+1)).count y=(xs.take a).count y:=by
 have e:xs.take (a + 1)=xs.take a ++ [x]:=by rw[List.take_add_one,hx];rfl
 constructor
 ·rw[e,List.count_append];simp
 ·intro y hy;rw[e,List.count_append,List.count_eq_zero.2 (show ¬y∈[x] by simpa using hy),Nat.add_zero]
theorem TaI.next(h:TaI enc ok w W g xs a D)(hx:xs[a]?=some x)(m:MC enc ok W' g (bA D x) (fun y=>(xs.take (a+1)).count y))(k:Kt nO w W'):TaI enc ok w W' g xs (a+1) (bA D x):=by
 have e:xs.take (a + 1)=xs.take a ++ [x]:=by rw[List.take_add_one,hx];rfl
 refine⟨m,fun y=>?_,Nat.le_trans (UV x) (Nat.succ_le_succ h.le),k,h.nw⟩;rw[nU,h.me,e];simp
theorem TaI.done(h:TaI enc ok w W g xs xs.length D):oD enc ok w xs (.returned (.map (some g))) W:=by
 have m:=h.m;have me:=h.me;rw[List.take_length] at me;simp only[List.take_length] at m;exact⟨g,D,rfl,h.nw,m,me,h.le,h.k⟩
end
theorem yI{w W W':World}{g:Nat}(h:Kt nO w W)(k:Kt (fun x=>x=g) W W')(hg:w.heap.size<=g):Kt nO w W':=
 h.trans k (fun _ _ x=>x) (fun x hx e=>by cases e;exact absurd hx (Nat.not_lt.2 hg))
theorem XX(p s:Int)(W:World):Calls prog 54 #[.agg #[.int .u64 p,.int .u64 s]] W fun e w'=>e=.returned (.int .u64 s)/\Kt nO W w':=by
 go_enter func54,ntmps54;go_wp2_with fail;go_ret;exact⟨rfl,(Kt.refl _ W).alloc _⟩
theorem sI(w:World):(zeroValue 3).run prog w=.ok (.int .i64 0) w:=by kernel_rfl
theorem TM(v:Value)(l:List (Nat×Nat))(w:World)(hl:l.length<=281474976710656)(hb:∀ b∈l,jH b.2)(hv:RBk w v l):
  Calls prog 53 #[v,.func (.func 54) #[] #[]] w (oD eU jH w (dR l)):=by
 have HV:=aA hv;obtain⟨va,vc,hv1,-⟩:=hv;obtain⟨n,hn⟩:=xe (l.length);obtain⟨xs,hxs⟩:=xe (dR l);rw[<-hn] at hl hv1;have HN:=aA (show xs.length=n by rw[hxs,hn];simp[dR]);have RW:=aA (show ∀ W,Kt nO w W->∀ j,j<n->∃ g,∃ p s:Nat,va=some ⟨g,0,none⟩/\xs[j]?=some s/\jH s/\W.cell? ⟨g,j*2,none⟩=some (.int .u64 p)/\W.cell? ⟨g,j*2+1,none⟩=some (.int .u64 s)from fun W hW j hj=>by
  obtain⟨oa,oc,q1,q2⟩:=HV.out;rw[hv1] at q1
  cases q1
  rcases q2 with q2|⟨g,rfl,hg,hc⟩
  ·rw[hn,q2] at hj;simp at hj
  have hd:l.getD j (0,0)=l[j]'(hn▸hj):=by rw[List.getD_eq_getElem?_getD,List.getElem?_eq_getElem (hn▸hj)];rfl
  refine⟨g,(l.getD j (0,0)).1,(l.getD j (0,0)).2,rfl,?_,?_,hW.cell (fun x=>x) (hc j (by omega)).1,hW.cell (fun x=>x) (hc j (by omega)).2⟩
  ·rw[hxs,hd];unfold dR;rw[List.getElem?_map,List.getElem?_eq_getElem (hn▸hj)];rfl
  ·rw[hd];exact hb _ (List.getElem_mem _))
 rw[<-hxs];clear hxs HV hn hb;subst hv1;have hmk:∀ w,(Instr.makeMap 106 none).run prog w=.ok (.map (some w.heap.size)) (w.alloc (.map #[] 0)):=fun w=>run_makeMap _ w
 have I0:=aA (show TaI eU jH w (w.alloc (.map #[] 0)) w.heap.size xs 0 [] from TaI.start w);go_enter func53,ntmps53;go_wp2_with fail;generalize w.alloc (.map #[] 0)=W1 at *;generalize hgx:w.heap.size=gx at *;clear hmk;go_loopw [11] (fun i W=>∃ a D,a<=n/\i=.int .i64 ((a:Nat):Int)/\Hid (TaI eU jH w W gx xs a D)) (fun i _=>n-(intOf i).toNat)
 case atStart=>exact⟨0,[],Nat.zero_le _,rfl,I0⟩
 case round=>
  clear I0;obtain⟨a,D,ha,rfl,HI⟩:=hrel;by_cases hlt:a<n
  ·have hai:(a:Int)<n:=(by omega);obtain⟨bl,p,s,rfl,hs,h64,r0,r1⟩:=RW.out wr HI.out.k a hlt;have HS:=aA hs;have H64:=aA h64;clear hs h64;go_wp2_with fail;refine(XX _ _ _).mono ?_;rintro e w2 ⟨rfl,hk⟩;have K1:=aA (nT ((Kt.refl nO wr).alloc _) hk);have M2:=aA (HI.out.m.kept K1.out (fun x=>x));have AT:=aA (TaI.at HI.out HS.out);obtain⟨c,hc⟩:∃ c,(xs.take a).count s=c:=⟨_,rfl⟩;have hcn:c<=n:=by
    rw[<-hc];exact Nat.le_trans List.count_le_length (by rw[List.length_take];omega)
   have HC:=aA hc;have A1:=aA (AT.out.1.trans (congrArg (·+1) hc));have DL:=aA (show D.length<maxLen from by have:=HI.out.le;unfold maxLen;omega);have NX:=aA (fun W' m k=>TaI.next HI.out HS.out (W':=W') m k);clear hk hc r0 r1;go_wp2_with (first|(at_lookup;refine uI _ rfl _ _ 106 rfl 27 3 mV Tryz.underlying106 (sI _) gx rfl M2.out s H64.out rfl c HC.out ?_)|(at_mapUpdate;refine WT _ rfl _ _ _ 106 rfl 27 3 mV Tryz.underlying106 gx rfl M2.out DL.out s H64.out rfl (c+1) (fun y=>(xs.take (a+1)).count y) A1.out AT.out.2 rfl ?_;intro w3 m3 k3 z3;have M3:=aA m3;have K3:=aA k3;clear m3 k3 z3))
   refine⟨⟨a+1,_,by omega,by simp,aA (NX.out w3 M3.out (yI (nT HI.out.k K1.out) K3.out HI.out.nw))⟩,by simp[intOf];omega⟩
  ·have hae:a=n:=(by omega);have hai:¬(a:Int)<n:=(by omega);have FIN:=aA (show oD eU jH w xs (.returned (.map (some gx))) wr from by
    have h:=HI.out;rw[hae,<-HN.out] at h;exact h.done)
   clear HI;go_wp2_with fail;go_ret;exact FIN.out
structure ImZ(I:Img):Prop where
 m:I.nm<=140737488355328
 p:I.np*88<=140737488355328
 r:I.no*24<=140737488355328
 u:∀ i,i<I.no->(I.pr i).length*8<=140737488355328
 h:I.hd.length*8<=140737488355328
 t:I.pt.length*8<=140737488355328
theorem UO:(prog.info? 99).map (fun i=>(i.zero,i.size,i.bytes))=some (some (dU aP),11,88):=by kernel_rfl
theorem xT:(prog.info? 27).map (fun i=>(i.zero,i.size,i.bytes))=some (some (.int .u64 0),1,8):=by kernel_rfl
theorem PH:(prog.info? 3).map (fun i=>(i.zero,i.size,i.bytes))=some (some (.int .i64 0),1,8):=by kernel_rfl
theorem PF:(prog.info? 35).map (fun i=>(i.zero,i.size,i.bytes))=some (some (.slice none 0 0),1,24):=by kernel_rfl
theorem oT(t e:TypeId)(z:Value)(size bytes:Nat)(hu:prog.underlying t=some (.slice e))(hi:(prog.info? e).map (fun i=>(i.zero,i.size,i.bytes))=some (some z,size,bytes))(hz:z.cells.size=size)(n:Nat)(hb:n*bytes<=140737488355328)(hn:n<=9223372036854775807)(s:Nat)(w:World)(hs:s<w.heap.size):
  ∃ w1,(Instr.makeSlice t (.int .i64 n) (.int .i64 n)).run prog w=.ok (.slice (some ⟨w.heap.size,0,none⟩) n n) w1/\XR s w1 (.slice (some ⟨w.heap.size,0,none⟩) n n) n e (n*size) (fun j=>z.cells[j%size]!)/\Kt nO w w1/\w1.heap.size=w.heap.size+1:=by
 obtain⟨i,hi',hzz⟩:=Option.map_eq_some_iff.1 hi;simp only[Prod.mk.injEq] at hzz;have hbi:(i.bytes:Int)*(n:Int)<=281474976710656:=by
  rw[hzz.2.2,show((bytes:Int)*(n:Int))=((n*bytes:Nat):Int)by rw[Int.natCast_mul,Int.mul_comm]];omega
 have hr:=run_make (P:=prog) w t e i z hu hi' hzz.1 .i64 .i64 (n:Int) (n:Int) (by omega) (Int.le_refl _) hbi (by omega);simp only[Int.toNat_natCast] at hr;refine⟨_,hr,⟨_,_,hs,rfl,nH w _,by rw[size_madeCells,hzz.2.1],fun j hj=>?_⟩,(Kt.refl nO w).alloc _,by simp⟩;rw[hzz.2.1];simp only[madeCells];rw[Array.getElem?_map,Array.getElem?_range,if_pos hj,Option.map_some,hz]
theorem XR.row{s w g n pg F}(h:XR s w (.slice (some ⟨g,0,none⟩) n n) n 99 (n*11) F)(e:∀ i,i<n->∀ j,j<11->F (i*11+j)=((pg i:Pg)).fld j):bH w g n pg:=by
 obtain⟨b,cs,h1,h2,h3,h4,h5⟩:=h
 cases h2
 exact⟨cs,h3,h4,fun i hi j hj=>(h5 _ (by omega)).trans (by rw[e i hi j hj])⟩
theorem KO{s w g n pg}(h:bH w g n pg)(hs:s<g):XR s w (.slice (some ⟨g,0,none⟩) n n) n 99 (n*11) fun j=>(pg (j/11)).fld (j%11):=by
 obtain⟨cs,h3,h4,h5⟩:=h;refine⟨g,cs,hs,rfl,h3,h4,fun j hj=>?_⟩;have:=h5 (j/11) (by omega) (j%11) (by omega);rwa [show j/11*11+j%11=j by omega] at this
theorem wJ{w0 W:World}{e:TypeId}{size:Nat}{v:Value}{n:Nat}{xs:List Value}(h:GS w0 W e size v n xs){x:Nat}(hx:v.ownBlock=some x):∃ cs,W.heap[x]?=some (.cells cs e (0,0)):=by
 rcases h.own.2 with ⟨rfl,_⟩|⟨g,cap,cur,rfl,hb,hg,h3⟩
 ·simp[Value.ownBlock] at hx
 ·simp[Value.ownBlock] at hx;rw[<-hx];exact⟨cur,hg⟩
theorem GS.pushW{w0 W:World}{v:Value}{n:Nat}{xs:List Value}(h:GS w0 W 35 1 v n xs)(oa:Option Addr)(l c:Nat)(hn:(n+1)*24<=140737488355328):
  ∃ g cap w',(∀ t,(Builtin.append_ #[34,34] t #[v,.slice (some ⟨W.heap.size,0,none⟩) 1 1]).run prog (W.alloc (.cells #[.slice oa l c] 35))=.ok (.slice (some ⟨g,0,none⟩) (n + 1) cap) w')/\GS w0 w' 35 1 (.slice (some ⟨g,0,none⟩) (n + 1) cap) (n + 1) (xs ++ [.slice oa l c])/\Kt (fun b=>v.ownBlock=some b) W w':=by
 obtain⟨i,hi,hzz⟩:=Option.map_eq_some_iff.1 PF;simp only[Prod.mk.injEq] at hzz;have ka:=(Kt.refl nO W).alloc (.cells #[.slice oa l c] 35);obtain⟨g,cap,w',h1,h2,h5,h6,h7⟩:=(GS.keep h ka).pushM 34 i (.slice none 0 0) 24 Tryz.underlying34 hi hzz.1 hzz.2.1 hzz.2.2 rfl (by decide) ⟨W.heap.size,0,none⟩ 1 1 (by decide) [.slice oa l c] rfl (fun j u hj=>pS (cs:=#[.slice oa l c]) j u hj) (by simp[Value.oneCell']) (by simp only[maxLen];omega) (by omega);exact⟨g,cap,w',h1,h2,ka.trans h6 (fun _ _ e=>e.elim) (fun _ _ e=>e)⟩
structure CpD(s:Nat)(w0 w:World)(I:Img)(V:ImV)(xs:List Value):Prop where
 ok:ImOk I
 m:XR s w V.m I.nm 5 I.nm fun j=>.int .u8 (I.mem j:Int)
 p:XR s w V.p I.np 99 (I.np*11) fun j=>(I.pg (j/11)).fld (j%11)
 r:GS w0 w 35 1 V.r I.no xs
 u:∀ i,i<I.no->XR s w (xs.getD i (.slice none 0 0)) (I.pr i).length 27 (I.pr i).length fun j=>.int .u64 (((I.pr i).getD j 0:Nat):Int)
 h:XR s w V.h I.hd.length 27 I.hd.length fun j=>.int .u64 ((I.hd.getD j 0:Nat):Int)
 t:XR s w V.t I.pt.length 3 I.pt.length fun j=>.int .i64 (I.pt.getD j 0)
theorem CpD.d{s:Nat}{w0 w:World}{I:Img}{V:ImV}{xs:List Value}(h:CpD s w0 w I V xs):ImD w I V:=by
 obtain⟨ok,hm,hp,hr,hu,hh,ht⟩:=h;obtain⟨m,p,r,q,t⟩:=V;obtain⟨bm,cm,a1,rfl,a2,a3,a4⟩:=hm;obtain⟨bp,cp,b1,rfl,b2,b3,b4⟩:=hp;obtain⟨bh,ch,d1,rfl,d2,d3,d4⟩:=hh;obtain⟨bt,ct,e1,rfl,e2,e3,e4⟩:=ht;refine⟨ok.b64,ok.lim,ok.ord,ok.reg,⟨ok.nm,_,_,rfl,.inr ⟨_,_,rfl,lH a2,fun i hi=>⟨ok.mem i hi,?_⟩⟩⟩,?_,⟨ok.np,_,_,rfl,.inr ⟨_,_,rfl,lH b2,fun i hi=>⟨ok.pg i hi,fun j hj=>?_⟩⟩⟩,⟨fun i=>xs.getD i (.slice none 0 0),ok.no,?_⟩,⟨ok.nh,_,_,rfl,.inr ⟨_,_,rfl,lH d2,fun i hi=>⟨ok.hd i hi,?_⟩⟩⟩,⟨ok.nt,_,_,rfl,.inr ⟨_,_,rfl,lH e2,fun i hi=>⟨ok.pt i hi,?_⟩⟩⟩⟩
 ·simp[World.cell?,a2,a4 i hi]
 ·intro a n c e
  cases e
  exact Nat.le_refl _
 ·have:=b4 (i*11+j) (by omega);dsimp only at this;rw[show(i*11+j)/11=i by omega,show(i*11+j)%11=j by omega] at this;simp[World.cell?,b2,this]
 ·rcases hr.own.2 with ⟨h1,h0⟩|⟨g,cap,cur,h1,_,hg,_,_,hs,ht'⟩
  ·have h1':r=.slice none 0 0:=h1;subst h1';exact⟨none,0,by rw[h0],.inl h0⟩
  ·have h1':r=.slice (some ⟨g,0,none⟩) I.no cap:=h1;subst h1';refine⟨_,_,rfl,.inr ⟨g,0,rfl,lH hg,fun i hi=>⟨?_,?_⟩⟩⟩
   ·have hl:=hr.own.1;have e1:xs[i]?=cur.toList[i]?:=(by rw[<-ht',List.getElem?_take_of_lt (by omega)]);have e2:xs[i]?=some (xs.getD i (.slice none 0 0)):=by
     rw[List.getD,List.getElem?_eq_getElem (by omega)];rfl
    rw[e2,Array.getElem?_toList] at e1;simp only[World.cell?,hg,Nat.zero_add,<-e1];rfl
   ·have hx:=hu i hi;obtain⟨b,cs,g1,g2,g3,g4,g5⟩:=hu i hi;rw[g2] at hx;refine⟨ok.pr i hi,_,_,g2,.inr ⟨_,rfl,lH g3,fun j hj=>?_⟩⟩;rw[show(⟨b,0,none⟩:Addr).add j=⟨b,j,none⟩by(unfold Addr.add;simp;intro e;exact e.symm)];exact hx.cell hj
 ·simp[World.cell?,d2,d4 i hi]
 ·simp[World.cell?,e2,e4 i hi]
theorem ImD.ok{w:World}{I:Img}{V:ImV}(h:ImD w I V):ImOk I:=by
 obtain⟨m1,ma,mc,m2,m3⟩:=h.mem;obtain⟨p1,pa,pc,p2,p3⟩:=h.pgs;obtain⟨ws,r1,ra,rc,r2,r3⟩:=h.prs;obtain⟨h1,ha,hc,h2,h3⟩:=h.hds;obtain⟨t1,ta,tc,t2,t3⟩:=h.pts;refine⟨h.b64,h.lim,h.ord,h.reg,m1,p1,r1,h1,t1,fun i hi=>?_,fun i hi=>?_,fun i hi=>?_,fun i hi=>?_,fun i hi=>?_⟩
 ·rcases m3 with e|⟨_,_,_,_,k⟩
  ·omega
  ·exact(k i hi).1
 ·rcases p3 with e|⟨_,_,_,_,k⟩
  ·omega
  ·exact(k i hi).1
 ·rcases r3 with e|⟨_,_,_,_,k⟩
  ·omega
  ·exact(k i hi).2.1
 ·rcases h3 with e|⟨_,_,_,_,k⟩
  ·omega
  ·exact(k i hi).1
 ·rcases t3 with e|⟨_,_,_,_,k⟩
  ·omega
  ·exact(k i hi).1
set_option maxHeartbeats 8000000
set_option maxRecDepth 6000
abbrev cH(F Z:Nat->Value)(a:Nat):Nat->Value:=fun j=>if j<a then F j else Z j
theorem PD{F Z:Nat->Value}{a:Nat} : (fun j=>if j=a then F a else cH F Z a j)=cH F Z (a+1):=by
 funext j
 unfold cH;by_cases e:j=a
 ·subst e;simp
 ·by_cases l:j<a
  ·rw[if_neg e,if_pos l,if_pos (by omega)]
  ·rw[if_neg e,if_neg l,if_neg (by omega)]
theorem rQ{w0 w:World}{b k:Nat}{x:Value}(h:Kt nO w0 w)(hb:w0.heap.size<=b):Kt nO w0 (w.setCell ⟨b,k,none⟩ x):=
 h.trans ((Kt.refl (fun y=>y=b) w).setCell (p:=⟨b,k,none⟩) rfl x) (fun _ _ y=>y) (fun y hy e=>by omega)
theorem XR.up{s n N:Nat}{w:World}{b:Nat}{T:TypeId}{F Z:Nat->Value}{m c a:Nat}(h:XR s w (.slice (some ⟨b,0,none⟩) m c) n T N (cH F Z a))(ha:a<N):XR s (w.setCell ⟨b,a,none⟩ (F a)) (.slice (some ⟨b,0,none⟩) m c) n T N (cH F Z (a+1)):=by
 have:=h.put ha (F a);rwa [PD] at this
theorem XR.done{s n N:Nat}{w:World}{v:Value}{T:TypeId}{F Z:Nat->Value}{a:Nat}(h:XR s w v n T N (cH F Z a))(ha:N<=a):XR s w v n T N F:=h.congr fun j hj=>if_pos (by omega)
structure PrC(s:Nat)(w0 w:World)(I:Img)(v:Value)(a:Nat)(xs:List Value):Prop where
 r:GS w0 w 35 1 v a xs
 u:∀ i,i<a->XR s w (xs.getD i (.slice none 0 0)) (I.pr i).length 27 (I.pr i).length fun j=>.int .u64 (((I.pr i).getD j 0:Nat):Int)
theorem PrC.keep{s:Nat}{w0 w W:World}{I:Img}{v:Value}{a:Nat}{xs:List Value}(h:PrC s w0 w I v a xs)(hk:Kt nO w W):PrC s w0 W I v a xs:=
 ⟨GS.keep h.r hk,fun i hi=>(h.u i hi).keep hk⟩
theorem PrC.push{s:Nat}{w0 w W:World}{I:Img}{v v':Value}{a b l c:Nat}{xs:List Value}(h:PrC s w0 w I v a xs)(hx:XR s w (.slice (some ⟨b,0,none⟩) l c) (I.pr a).length 27 (I.pr a).length fun j=>.int .u64 (((I.pr a).getD j 0:Nat):Int))(hg:GS w0 W 35 1 v' (a + 1) (xs ++ [.slice (some ⟨b,0,none⟩) l c]))(hk:Kt (fun b=>v.ownBlock=some b) w W):PrC s w0 W I v' (a + 1) (xs ++ [.slice (some ⟨b,0,none⟩) l c]):=by
 have hl:=h.r.own.1;have ap:∀ {n N:Nat} {u:Value} {F:Nat->Value},XR s w u n 27 N F->XR s W u n 27 N F:=fun hu=>hu.keepS hk fun y hy e=>by
  obtain⟨c1,e1⟩:=hu.ty hy;obtain⟨c2,e2⟩:=wJ h.r e;rw[e1] at e2
  cases e2
 refine⟨hg,fun i hi=>?_⟩;by_cases e:i=a
 ·subst e;have:(xs ++ [Value.slice (some ⟨b,0,none⟩) l c]).getD i (.slice none 0 0)=.slice (some ⟨b,0,none⟩) l c:=by
   rw[List.getD,List.getElem?_append_right (by omega),show i-xs.length=0 by omega];rfl
  rw[this];exact ap hx
 ·have:(xs ++ [Value.slice (some ⟨b,0,none⟩) l c]).getD i (.slice none 0 0)=xs.getD i (.slice none 0 0):=by
   rw[List.getD,List.getD,List.getElem?_append_left (by omega)]
  rw[this];exact ap (h.u i (by omega))
theorem GS.moved{w w0 W W':World}{e:TypeId}{size:Nat}{v:Value}{n:Nat}{xs:List Value}{S:Nat->Prop}(h:GS w0 W e size v n xs)(kS:Kt S W W')(hS:∀ b,v.ownBlock=some b->¬S b)(hle:w.heap.size<=w0.heap.size)(kF:Kt nO w W'):GS w W' e size v n xs:=by
 refine⟨⟨h.own.1,?_⟩,fun g cap e=>Nat.le_trans hle (h.new g cap e),kF⟩;rcases h.own.2 with h0|⟨g,cap,cur,e,hb,hg,h3⟩
 ·exact .inl h0
 ·exact .inr ⟨g,cap,cur,e,hb,(kS.block g (lH hg) (hS g (by rw[e];rfl))).trans hg,h3⟩
theorem zhe(I:Img)(V:ImV)(w:World)(hI:ImD w I V)(hZ:ImZ I):
  Calls prog 23 #[imA I V] w fun e w'=>∃ V' xs,e=.returned (imA I V')/\CpD w.heap.size w w' I V' xs/\Kt nO w w':=by
 have OK:=aA hI.ok;obtain⟨⟨ma,mc,hm⟩,⟨pa,pc,hp⟩,⟨ra,rc,hr⟩,⟨ha,hc,hh⟩,⟨ta,tc,ht⟩,-⟩:=hI.sl;obtain⟨vm,vp,vr,vh,vt⟩:=V;dsimp only at hm hp hr hh ht;subst hm hp hr hh ht;obtain⟨nm,hnm⟩:∃ n,n=I.nm:=⟨_,rfl⟩;obtain⟨np,hnp⟩:∃ n,n=I.np:=⟨_,rfl⟩;obtain⟨no,hno⟩:∃ n,n=I.no:=⟨_,rfl⟩;obtain⟨nh,hnh⟩:∃ n,n=I.hd.length:=⟨_,rfl⟩;obtain⟨nt,hnt⟩:∃ n,n=I.pt.length:=⟨_,rfl⟩;have NM:=aA hnm;have NP:=aA hnp;have NO:=aA hno;have NH:=aA hnh;have NT:=aA hnt;have HZ:=aA hZ;have B1:=aA (show nm<=9223372036854775807 by rw[hnm];exact hI.ok.nm);have B2:=aA (show np<=9223372036854775807 by rw[hnp];exact hI.ok.np);have B3:=aA (show no<=9223372036854775807 by rw[hno];exact hI.ok.no);have B4:=aA (show nh<=9223372036854775807 by rw[hnh];exact hI.ok.nh);have B5:=aA (show nt<=9223372036854775807 by rw[hnt];exact hI.ok.nt);have ID:=aA hI;rw[<-hnm,<-hnp,<-hno,<-hnh,<-hnt] at ID;rw[<-hnm,<-hnp,<-hno,<-hnh,<-hnt];clear hI hZ hnm hnp hno hnh hnt;go_enter func23,ntmps23;go_upto_region 1 with fail;refine AM (P:=fun W=>Code.wp prog _ _ _ W) _ ?_;intro W0 hW0;have IM0:=aA (show ImAt W0 w.heap.size I ⟨.slice ma nm mc,.slice pa np pc,.slice ra no rc,.slice ha nh hc,.slice ta nt tc⟩by
  subst hW0;refine⟨?_,ID.out.keep (((Kt.refl _ w).alloc _).alloc _)⟩;show((w.heap.push _).push _)[w.heap.size]?=_
  rw[Array.getElem?_push,if_neg (by simp),Array.getElem?_push,if_pos rfl])
 have RB0:=aA (show W0.heap[w.heap.size+1]?=some gV by subst hW0;exact rI w _ _);have K0:=aA (show Kt nO w W0 by subst hW0;exact((Kt.refl _ w).alloc _).alloc _);obtain⟨ib,hib⟩:=xe (w.heap.size);obtain⟨rb,hrb⟩:=xe (ib+1);have IB:=aA hib;have RBE:=aA hrb;rw[<-hib] at IM0 RB0 ⊢;rw[<-hrb] at RB0 ⊢;clear hW0 hib hrb ID;obtain⟨c0,c1,c2,c3,c4,c5,c6,c7,c8⟩:=IM0.out.cells;obtain⟨g1,hg1⟩:∃ g,g=W0.heap.size:=⟨_,rfl⟩;obtain⟨W1,mk1,x1,k1,-⟩:=oT 32 5 (.int .u8 0) 1 1 Tryz.underlying32 mO rfl nm (by have:=HZ.out.m;rw[<-NM.out] at this;omega) B1.out rb W0 (lH RB0.out);rw[<-hg1] at mk1 x1;have G1:=aA (show rb<g1/\g1=W0.heap.size from⟨by rw[hg1];exact lH RB0.out,hg1⟩);have X1:=aA (show XR rb W1 (.slice (some ⟨g1,0,none⟩) nm nm) nm 5 nm (cH (fun j=>.int .u8 (I.mem j:Int)) (fun j=>(Value.cells (.int .u8 0))[j%1]!) 0)by
  have:=x1.congr (G:=cH (fun j=>.int .u8 (I.mem j:Int)) (fun j=>(Value.cells (.int .u8 0))[j%1]!) 0) fun j hj=>(if_neg (by omega)).symm
  rwa [Nat.mul_one] at this)
 have Q1:=aA k1;clear x1 k1 hg1;go_wp2_with fail;clear c0 c1 c2 c3 c4 c5 c6 c7 c8 mk1;go_loopw [4] (fun iv W=>∃ a:Nat,a<=nm/\iv=.int .i64 a/\Hid (Kt nO W0 W/\XR rb W (.slice (some ⟨g1,0,none⟩) nm nm) nm 5 nm (cH (fun j=>.int .u8 (I.mem j:Int)) (fun j=>(Value.cells (.int .u8 0))[j%1]!) a))) (fun iv _=>nm-(intOf iv).toNat)
 case atStart=>exact⟨0,Nat.zero_le _,rfl,aA ⟨Q1.out,X1.out⟩⟩
 case round=>
  clear Q1 X1;obtain⟨a,ha',rfl,hG⟩:=hrel;have IMa:=aA (IM0.out.keep hG.out.1);obtain⟨c0,c1,c2,c3,c4,c5,c6,c7,c8⟩:=IMa.out.cells;by_cases hlt:a<nm
  ·have hai:(a:Int)<nm:=(by omega);obtain⟨bl,o,rfl,hs⟩:∃ bl o,ma=some ⟨bl,o,none⟩/\wr.cell? ⟨bl,o+a,none⟩=some (.int .u8 (I.mem a:Int)):=by
    obtain⟨-,oa,oc,e1,e2⟩:=IMa.out.d.mem
    cases e1
    rcases e2 with e2|⟨bl,o,rfl,-,hc'⟩
    ·rw[NM.out] at hlt;omega
    ·exact⟨bl,o,rfl,(hc' a (by rw[<-NM.out];exact hlt)).2⟩
   have t0:=hG.out.2.cell (j:=a) hlt;have z0:=hG.out.2.frz a;have R2:=aA (rQ (k:=a) (x:=(fun j=>.int .u8 (I.mem j:Int)) a) hG.out.1 (Nat.le_of_eq G1.out.2.symm));have R3:=aA (hG.out.2.up hlt);have HLT:=aA hlt;clear hG hlt;go_wp2_with fail;have hw:wrap64 ((a:Int)+1)=((a+1:Nat):Int):=(by have:=B1.out;have:=HLT.out;rw[wrap64];omega);rw[hw];exact⟨⟨a+1,by have:=HLT.out;omega,rfl,aA ⟨R2.out,R3.out⟩⟩,by have:=HLT.out;simp only[intOf,Int.toNat_natCast];omega⟩
  ·have hai:¬(a:Int)<nm:=(by omega);have K1:=aA hG.out.1;have D1:=aA (hG.out.2.done (by omega));have RB1:=aA ((hG.out.1.block _ (lH RB0.out) (fun x=>x)).trans RB0.out);clear hG;have ea:nm=a:=(by omega);subst ea;go_upto_region 6 with fail;clear c0 c1 c2 c3 c4 c5 c6 c7 c8;have IM1:=IMa;clear IMa;obtain⟨V1,hV1⟩:∃ W,W=wr:=⟨_,rfl⟩;rw[<-hV1] at K1 D1 RB1 IM1 ⊢;clear hV1 hai ha';obtain⟨c0,c1,c2,c3,c4,c5,c6,c7,c8⟩:=IM1.out.cells;obtain⟨g2,hg2⟩:∃ g,g=V1.heap.size:=⟨_,rfl⟩;obtain⟨W2,mk2,x2,k2,-⟩:=oT 33 99 (dU aP) 11 88 Tryz.underlying33 UO rfl np (by have:=HZ.out.p;rw[<-NP.out] at this;omega) B2.out rb V1 (lH RB1.out);rw[<-hg2] at mk2 x2;have G2:=aA (show rb<g2/\g2=V1.heap.size from⟨by rw[hg2];exact lH RB1.out,hg2⟩);have X2:=aA (show bH W2 g2 np (fun i=>if i<0 then I.pg i else aP)from x2.row fun i hi j hj=>by
    rw[if_neg (by omega)];rw[show(i*11+j)%11=j by omega];revert j
    exact gU rfl rfl rfl rfl rfl rfl rfl rfl rfl rfl rfl)
   have Q2:=aA k2;clear x2 k2 hg2;go_wp2_with fail;clear c0 c1 c2 c3 c4 c5 c6 c7 c8 mk2;go_loopw [6] (fun iv W=>∃ a:Nat,a<=np/\iv=.int .i64 a/\Hid (Kt nO V1 W/\bH W g2 np (fun i=>if i<a then I.pg i else aP))) (fun iv _=>np-(intOf iv).toNat)
   case atStart=>exact⟨0,Nat.zero_le _,rfl,aA ⟨Q2.out,X2.out⟩⟩
   case round=>
    clear Q2 X2;obtain⟨a,ha',rfl,hG⟩:=hrel;have IMa:=aA (IM1.out.keep hG.out.1);obtain⟨c0,c1,c2,c3,c4,c5,c6,c7,c8⟩:=IMa.out.cells;by_cases hlt:a<np
    ·have hai:(a:Int)<np:=(by omega);obtain⟨bl,o,oc,hv,hpi,hpc⟩:=IMa.out.page a (by rw[<-NP.out];exact hlt)
     cases hv
     obtain⟨d0,d1,d2,d3,d4,d5,d6,d7,d8,d9,d10⟩:=hpc.c;obtain⟨e0,e1,e2,e3,e4,e5,e6,e7,e8,e9,e10⟩:=hG.out.2.cell a hlt;have zz:=aV.froz hG.out.2;obtain⟨p,hp⟩:=xe (I.pg a);rw[<-hp] at d0 d1 d2 d3 d4 d5 d6 d7 d8 d9 d10;have HP:=aA hp;have R3:=aA (hG.out.2.put a hlt p);have R2:=aA (show Kt nO V1 (cU wr g2 a p)from hG.out.1.trans (nR wr g2 a _) (fun _ _ x=>x) (fun x hx e=>by have:=G2.out;omega));have HLT:=aA hlt;clear hG hpi hpc hp;go_wp2_with fail;have hw:wrap64 ((a:Int)+1)=((a+1:Nat):Int):=(by have:=B2.out;have:=HLT.out;rw[wrap64];omega);rw[hw];refine⟨⟨a+1,by have:=HLT.out;omega,rfl,aA ⟨R2.out,R3.out.congr fun i hi=>?_⟩⟩,by have:=HLT.out;simp only[intOf,Int.toNat_natCast];omega⟩;unfold aK;by_cases e:i=a
     ·rw[if_pos e,if_pos (by omega),e];exact HP.out
     ·rw[if_neg e];show(if i<a then I.pg i else aP)=_
      by_cases l:i<a
      ·rw[if_pos l,if_pos (by omega)]
      ·rw[if_neg l,if_neg (by omega)]
    ·have hai:¬(a:Int)<np:=(by omega);have K2:=aA hG.out.1;have D2:=aA (KO (hG.out.2.congr (pg':=I.pg) fun i hi=>if_pos (by omega)) G2.out.1);have RB2:=aA ((hG.out.1.block _ (lH RB1.out) (fun x=>x)).trans RB1.out);clear hG;have ea:np=a:=(by omega);subst ea;go_upto_region 12 with fail;clear c0 c1 c2 c3 c4 c5 c6 c7 c8;have IM2:=IMa;clear IMa;obtain⟨V2,hV2⟩:∃ W,W=wr:=⟨_,rfl⟩;rw[<-hV2] at K2 D2 RB2 IM2 ⊢;clear hV2 hai ha';go_wp2_with fail;go_loopw [7,8] (fun pv iv W=>∃ (a:Nat) (xs:List Value),a<=no/\iv=.int .i64 a/\Hid (PrC rb V2 W I pv a xs)) (fun _ iv _=>no-(intOf iv).toNat)
     case atStart=>exact⟨0,[],Nat.zero_le _,rfl,aA ⟨GS.nil _ _ _ _ (Kt.refl _ _),fun i hi=>by omega⟩⟩
     case round=>
      obtain⟨a,xs,ha',rfl,hG⟩:=hrel;have IMa:=aA (IM2.out.keep hG.out.r.kp);obtain⟨c0,c1,c2,c3,c4,c5,c6,c7,c8⟩:=IMa.out.cells;obtain⟨va,vc,hva⟩:=oX hG.out.r.own;subst hva;by_cases hlt:a<no
      ·have hai:(a:Int)<no:=(by omega);have hlt':a<I.no:=(by rw[<-NO.out];exact hlt);obtain⟨ws,hSL⟩:=IMa.out.d.prs;obtain⟨-,oa,oc,e1,e2⟩:=hSL
       cases e1
       obtain⟨bl,o,rfl,hcc,hsr⟩:∃ bl o,ra=some ⟨bl,o,none⟩/\wr.cell? ⟨bl,o+a,none⟩=some (ws a)/\Src wr (ws a) (I.pr a):=by
        rcases e2 with e2|⟨bl,o,rfl,-,hc'⟩
        ·omega
        ·exact⟨bl,o,rfl,(hc' a hlt').1,(hc' a hlt').2⟩
       clear e2;obtain⟨h64,so,sc,hws,hsc⟩:=hsr;rw[hws] at hcc;obtain⟨n,hn⟩:=xe ((I.pr a).length);rw[<-hn] at hcc;have HN:=aA hn;have BN:=aA (show n<=9223372036854775807 by have:=HZ.out.u a hlt';omega);have SRC:=aA (show ∀ W,Kt nO wr W->∀ j,j<n->∃ bb oo,so=some ⟨bb,oo,none⟩/\W.cell? ⟨bb,oo+j,none⟩=some (.int .u64 (((I.pr a).getD j 0:Nat):Int))from fun W hW j hj=>by
        rcases hsc with e|⟨ad,rfl,-,hc'⟩
        ·rw[hn,e] at hj;simp at hj
        ·have g0:=hc' 0 (by omega);have e0:ad.add 0=ad:=(by simp[Addr.add]);rw[e0] at g0;obtain⟨bb,oo,s⟩:=ad
         cases s with
         | some s=>simp[World.cell?] at g0;split at g0 <;> simp at g0
         | none=>
          have:=hc' j (by omega);rw[Addr.add_lit] at this;exact⟨bb,oo,rfl,hW.cell (fun x=>x) this⟩)
       have OUT:=aA (show ∀ W,Kt nO wr W->W.cell? ⟨bl,o+a,none⟩=some (.slice so n sc)from fun W hW=>hW.cell (fun x=>x) hcc);have HLT:=aA hlt;have rbl:=(hG.out.r.kp.block _ (lH RB2.out) (fun x=>x)).trans RB2.out;obtain⟨g3,hg3⟩:∃ g,g=wr.heap.size:=⟨_,rfl⟩;obtain⟨W3,mk3,x3,k3,-⟩:=oT 35 27 (.int .u64 0) 1 8 Tryz.underlying35 xT rfl n (by have:=HZ.out.u a hlt';omega) BN.out rb wr (lH rbl);rw[<-hg3] at mk3 x3;have G3:=aA (show rb<g3/\g3=wr.heap.size from⟨by rw[hg3];exact lH rbl,hg3⟩);have X3:=aA (show XR rb W3 (.slice (some ⟨g3,0,none⟩) n n) n 27 n (cH (fun j=>.int .u64 (((I.pr a).getD j 0:Nat):Int)) (fun j=>(Value.cells (.int .u64 0))[j%1]!) 0)by
        have:=x3.congr (G:=cH (fun j=>.int .u64 (((I.pr a).getD j 0:Nat):Int)) (fun j=>(Value.cells (.int .u64 0))[j%1]!) 0) fun j hj=>(if_neg (by omega)).symm
        rwa [Nat.mul_one] at this)
       have Q3:=aA k3;clear x3 k3 hg3 hws hsc h64 hn hlt hlt' rbl;go_wp2_with fail;clear c0 c1 c2 c3 c4 c5 c6 c7 c8 mk3 hcc;obtain⟨wq,hwq⟩:∃ W,W=wr:=⟨_,rfl⟩;rw[<-hwq] at hG IMa SRC OUT G3 Q3;clear hwq;go_loopw [10] (fun iv W=>∃ b:Nat,b<=n/\iv=.int .i64 b/\Hid (Kt nO wq W/\XR rb W (.slice (some ⟨g3,0,none⟩) n n) n 27 n (cH (fun j=>.int .u64 (((I.pr a).getD j 0:Nat):Int)) (fun j=>(Value.cells (.int .u64 0))[j%1]!) b))) (fun iv _=>n-(intOf iv).toNat)
       case atStart=>exact⟨0,Nat.zero_le _,rfl,aA ⟨Q3.out,X3.out⟩⟩
       case round=>
        clear Q3 X3;obtain⟨b,hb',rfl,hJ⟩:=hrel;have IMb:=aA (IMa.out.keep hJ.out.1);obtain⟨c0,c1,c2,c3,c4,c5,c6,c7,c8⟩:=IMb.out.cells;by_cases hlt:b<n
        ·have hbi:(b:Int)<n:=(by omega);have hcc:=OUT.out _ hJ.out.1;obtain⟨bb,oo,rfl,hs⟩:=SRC.out _ hJ.out.1 b hlt;have t0:=hJ.out.2.cell (j:=b) hlt;have z0:=hJ.out.2.frz b;have R2:=aA (rQ (k:=b) (x:=.int .u64 (((I.pr a).getD b 0:Nat):Int)) hJ.out.1 (Nat.le_of_eq G3.out.2.symm));have R3:=aA (hJ.out.2.up hlt);have HLB:=aA hlt;clear hJ hlt;go_wp2_with fail;have hw:wrap64 ((b:Int)+1)=((b+1:Nat):Int):=(by have:=BN.out;have:=HLB.out;rw[wrap64];omega);rw[hw];exact⟨⟨b+1,by have:=HLB.out;omega,rfl,aA ⟨R2.out,R3.out⟩⟩,by have:=HLB.out;simp only[intOf,Int.toNat_natCast];omega⟩
        ·have hbi:¬(b:Int)<n:=(by omega);have KJ:=aA hJ.out.1;have PX:=aA (hG.out.keep hJ.out.1);have XD:=aA (hJ.out.2.done (by omega));rw[HN.out] at XD;clear hJ;have eb:n=b:=(by omega);subst eb;obtain⟨gg,cap,W5,HAP,G5,K5⟩:=GS.pushW PX.out.r (some ⟨g3,0,none⟩) n n (by have h1:=HZ.out.r;have h2:=HLT.out;omega);have P5:=aA (show PrC rb V2 W5 I (.slice (some ⟨gg,0,none⟩) (a + 1) cap) (a + 1) (xs ++ [.slice (some ⟨g3,0,none⟩) n n])from PX.out.push (by rw[<-HN.out] at XD ⊢;exact XD.out) G5 K5);have HAP:=aA HAP;clear G5 K5 c0 c1 c2 c3 c4 c5 c6 c7 c8;go_wp2_with (at_builtin;refine Lib.wpList_append_run _ rfl _ _ _ _ rfl _ _ rfl rfl _ _ (HAP.out _) ?_)
         go_round
         case rel=>exact⟨a+1,_,by have:=HLT.out;omega,by have:wrap64 ((a:Int)+1)=((a+1:Nat):Int):=(by have:=B3.out;have:=HLT.out;rw[wrap64];omega);rw[this],P5⟩
         case measure=>have hw:wrap64 ((a:Int)+1)=((a+1:Nat):Int):=(by have:=B3.out;have:=HLT.out;rw[wrap64];omega);rw[hw];have:=HLT.out;simp only[intOf,Int.toNat_natCast];omega
      ·have hai:¬(a:Int)<no:=(by omega);have K3:=aA hG.out.r.kp;have ea:no=a:=(by omega);subst ea;have D3:=aA hG.out;have RB3:=aA ((hG.out.r.kp.block _ (lH RB2.out) (fun x=>x)).trans RB2.out);clear hG;go_upto_region 21 with fail;clear c0 c1 c2 c3 c4 c5 c6 c7 c8;have IM3:=IMa;clear IMa;obtain⟨V3,hV3⟩:∃ W,W=wr:=⟨_,rfl⟩;rw[<-hV3] at K3 D3 RB3 IM3 ⊢;clear hV3 hai ha';obtain⟨c0,c1,c2,c3,c4,c5,c6,c7,c8⟩:=IM3.out.cells;obtain⟨g4,hg4⟩:∃ g,g=V3.heap.size:=⟨_,rfl⟩;obtain⟨W4,mk4,x4,k4,-⟩:=oT 35 27 (.int .u64 0) 1 8 Tryz.underlying35 xT rfl nh (by have:=HZ.out.h;rw[<-NH.out] at this;omega) B4.out rb V3 (lH RB3.out);rw[<-hg4] at mk4 x4;have G4:=aA (show rb<g4/\g4=V3.heap.size from⟨by rw[hg4];exact lH RB3.out,hg4⟩);have X4:=aA (show XR rb W4 (.slice (some ⟨g4,0,none⟩) nh nh) nh 27 nh (cH (fun j=>.int .u64 ((I.hd.getD j 0:Nat):Int)) (fun j=>(Value.cells (.int .u64 0))[j%1]!) 0)by
        have:=x4.congr (G:=cH (fun j=>.int .u64 ((I.hd.getD j 0:Nat):Int)) (fun j=>(Value.cells (.int .u64 0))[j%1]!) 0) fun j hj=>(if_neg (by omega)).symm
        rwa [Nat.mul_one] at this)
       have Q4:=aA k4;clear x4 k4 hg4;go_wp2_with fail;clear c0 c1 c2 c3 c4 c5 c6 c7 c8 mk4;go_loopw [12] (fun iv W=>∃ a:Nat,a<=nh/\iv=.int .i64 a/\Hid (Kt nO V3 W/\XR rb W (.slice (some ⟨g4,0,none⟩) nh nh) nh 27 nh (cH (fun j=>.int .u64 ((I.hd.getD j 0:Nat):Int)) (fun j=>(Value.cells (.int .u64 0))[j%1]!) a))) (fun iv _=>nh-(intOf iv).toNat)
       case atStart=>exact⟨0,Nat.zero_le _,rfl,aA ⟨Q4.out,X4.out⟩⟩
       case round=>
        clear Q4 X4;obtain⟨a,ha',rfl,hG⟩:=hrel;have IMa:=aA (IM3.out.keep hG.out.1);obtain⟨c0,c1,c2,c3,c4,c5,c6,c7,c8⟩:=IMa.out.cells;by_cases hlt:a<nh
        ·have hai:(a:Int)<nh:=(by omega);obtain⟨bl,o,rfl,hs⟩:∃ bl o,ha=some ⟨bl,o,none⟩/\wr.cell? ⟨bl,o+a,none⟩=some (.int .u64 ((I.hd.getD a 0:Nat):Int)):=by
          obtain⟨-,oa,oc,e1,e2⟩:=IMa.out.d.hds
          cases e1
          rcases e2 with e2|⟨bl,o,rfl,-,hc'⟩
          ·rw[NH.out] at hlt;omega
          ·exact⟨bl,o,rfl,(hc' a (by rw[<-NH.out];exact hlt)).2⟩
         have t0:=hG.out.2.cell (j:=a) hlt;have z0:=hG.out.2.frz a;have R2:=aA (rQ (k:=a) (x:=(fun j=>.int .u64 ((I.hd.getD j 0:Nat):Int)) a) hG.out.1 (Nat.le_of_eq G4.out.2.symm));have R3:=aA (hG.out.2.up hlt);have HLT:=aA hlt;clear hG hlt;go_wp2_with fail;have hw:wrap64 ((a:Int)+1)=((a+1:Nat):Int):=(by have:=B4.out;have:=HLT.out;rw[wrap64];omega);rw[hw];exact⟨⟨a+1,by have:=HLT.out;omega,rfl,aA ⟨R2.out,R3.out⟩⟩,by have:=HLT.out;simp only[intOf,Int.toNat_natCast];omega⟩
        ·have hai:¬(a:Int)<nh:=(by omega);have K4:=aA hG.out.1;have D4:=aA (hG.out.2.done (by omega));have RB4:=aA ((hG.out.1.block _ (lH RB3.out) (fun x=>x)).trans RB3.out);clear hG;have ea:nh=a:=(by omega);subst ea;go_upto_region 26 with fail;clear c0 c1 c2 c3 c4 c5 c6 c7 c8;have IM4:=IMa;clear IMa;obtain⟨V4,hV4⟩:∃ W,W=wr:=⟨_,rfl⟩;rw[<-hV4] at K4 D4 RB4 IM4 ⊢;clear hV4 hai ha';obtain⟨c0,c1,c2,c3,c4,c5,c6,c7,c8⟩:=IM4.out.cells;obtain⟨g5,hg5⟩:∃ g,g=V4.heap.size:=⟨_,rfl⟩;obtain⟨W5,mk5,x5,k5,-⟩:=oT 36 3 (.int .i64 0) 1 8 Tryz.underlying36 PH rfl nt (by have:=HZ.out.t;rw[<-NT.out] at this;omega) B5.out rb V4 (lH RB4.out);rw[<-hg5] at mk5 x5;have G5:=aA (show rb<g5/\g5=V4.heap.size from⟨by rw[hg5];exact lH RB4.out,hg5⟩);have X5:=aA (show XR rb W5 (.slice (some ⟨g5,0,none⟩) nt nt) nt 3 nt (cH (fun j=>.int .i64 (I.pt.getD j 0)) (fun j=>(Value.cells (.int .i64 0))[j%1]!) 0)by
          have:=x5.congr (G:=cH (fun j=>.int .i64 (I.pt.getD j 0)) (fun j=>(Value.cells (.int .i64 0))[j%1]!) 0) fun j hj=>(if_neg (by omega)).symm
          rwa [Nat.mul_one] at this)
         have Q5:=aA k5;clear x5 k5 hg5;go_wp2_with fail;clear c0 c1 c2 c3 c4 c5 c6 c7 c8 mk5;go_loopw [14] (fun iv W=>∃ a:Nat,a<=nt/\iv=.int .i64 a/\Hid (Kt nO V4 W/\XR rb W (.slice (some ⟨g5,0,none⟩) nt nt) nt 3 nt (cH (fun j=>.int .i64 (I.pt.getD j 0)) (fun j=>(Value.cells (.int .i64 0))[j%1]!) a))) (fun iv _=>nt-(intOf iv).toNat)
         case atStart=>exact⟨0,Nat.zero_le _,rfl,aA ⟨Q5.out,X5.out⟩⟩
         case round=>
          clear Q5 X5;obtain⟨a,ha',rfl,hG⟩:=hrel;have IMa:=aA (IM4.out.keep hG.out.1);obtain⟨c0,c1,c2,c3,c4,c5,c6,c7,c8⟩:=IMa.out.cells;by_cases hlt:a<nt
          ·have hai:(a:Int)<nt:=(by omega);obtain⟨bl,o,rfl,hs⟩:∃ bl o,ta=some ⟨bl,o,none⟩/\wr.cell? ⟨bl,o+a,none⟩=some (.int .i64 (I.pt.getD a 0)):=by
            obtain⟨-,oa,oc,e1,e2⟩:=IMa.out.d.pts
            cases e1
            rcases e2 with e2|⟨bl,o,rfl,-,hc'⟩
            ·rw[NT.out] at hlt;omega
            ·exact⟨bl,o,rfl,(hc' a (by rw[<-NT.out];exact hlt)).2⟩
           have t0:=hG.out.2.cell (j:=a) hlt;have z0:=hG.out.2.frz a;have R2:=aA (rQ (k:=a) (x:=(fun j=>.int .i64 (I.pt.getD j 0)) a) hG.out.1 (Nat.le_of_eq G5.out.2.symm));have R3:=aA (hG.out.2.up hlt);have HLT:=aA hlt;clear hG hlt;go_wp2_with fail;have hw:wrap64 ((a:Int)+1)=((a+1:Nat):Int):=(by have:=B5.out;have:=HLT.out;rw[wrap64];omega);rw[hw];exact⟨⟨a+1,by have:=HLT.out;omega,rfl,aA ⟨R2.out,R3.out⟩⟩,by have:=HLT.out;simp only[intOf,Int.toNat_natCast];omega⟩
          ·have hai:¬(a:Int)<nt:=(by omega);have K5:=aA hG.out.1;have D5:=aA (hG.out.2.done (by omega));have RB5:=aA ((hG.out.1.block _ (lH RB4.out) (fun x=>x)).trans RB4.out);clear hG;have ea:nt=a:=(by omega);subst ea;go_upto_region 31 with fail;clear c0 c1 c2 c3 c4 c5 c6 c7 c8;have IM5:=IMa;clear IMa;obtain⟨V5,hV5⟩:∃ W,W=wr:=⟨_,rfl⟩;rw[<-hV5] at K5 D5 RB5 IM5 ⊢;clear hV5 hai ha';obtain⟨c0,c1,c2,c3,c4,c5,c6,c7,c8⟩:=IM5.out.cells;have B:=RB5.out;have f0:V5.cell? ⟨rb,0,none⟩=some (.int .u64 0):=(by simp[World.cell?,B]);have y0:V5.frozen? ⟨rb,0,none⟩=false:=(by simp[World.frozen?,B]);have f1:V5.cell? ⟨rb,1,none⟩=some (.int .i64 0):=(by simp[World.cell?,B]);have y1:V5.frozen? ⟨rb,1,none⟩=false:=(by simp[World.frozen?,B]);have f2:V5.cell? ⟨rb,2,none⟩=some (.int .i64 0):=(by simp[World.cell?,B]);have y2:V5.frozen? ⟨rb,2,none⟩=false:=(by simp[World.frozen?,B]);have f3:V5.cell? ⟨rb,3,none⟩=some (.int .i64 0):=(by simp[World.cell?,B]);have y3:V5.frozen? ⟨rb,3,none⟩=false:=(by simp[World.frozen?,B]);have f4:V5.cell? ⟨rb,4,none⟩=some (.slice none 0 0):=(by simp[World.cell?,B]);have y4:V5.frozen? ⟨rb,4,none⟩=false:=(by simp[World.frozen?,B]);have f5:V5.cell? ⟨rb,5,none⟩=some (.slice none 0 0):=(by simp[World.cell?,B]);have y5:V5.frozen? ⟨rb,5,none⟩=false:=(by simp[World.frozen?,B]);have f6:V5.cell? ⟨rb,6,none⟩=some (.slice none 0 0):=(by simp[World.cell?,B]);have y6:V5.frozen? ⟨rb,6,none⟩=false:=(by simp[World.frozen?,B]);have f7:V5.cell? ⟨rb,7,none⟩=some (.slice none 0 0):=(by simp[World.cell?,B]);have y7:V5.frozen? ⟨rb,7,none⟩=false:=(by simp[World.frozen?,B]);have f8:V5.cell? ⟨rb,8,none⟩=some (.slice none 0 0):=(by simp[World.cell?,B]);have y8:V5.frozen? ⟨rb,8,none⟩=false:=(by simp[World.frozen?,B]);clear B;go_wp2_with fail;have ez1:=NM.out;have ez2:=NP.out;have ez3:=NO.out;have ez4:=NH.out;have ez5:=NT.out;subst ez1 ez2 ez3 ez4 ez5;have kS:=((((((((((Kt.refl (fun b=>b=rb) V5).setCell (p:=⟨rb,0,none⟩) rfl (.int .u64 I.bS)).setCell (p:=⟨rb,1,none⟩) rfl (.int .i64 I.lim)).setCell (p:=⟨rb,2,none⟩) rfl (.int .i64 I.ord)).setCell (p:=⟨rb,3,none⟩) rfl (.int .i64 I.reg)).setCell (p:=⟨rb,4,none⟩) rfl (.slice (some ⟨g1,0,none⟩) I.nm I.nm)).setCell (p:=⟨rb,5,none⟩) rfl (.slice (some ⟨g2,0,none⟩) I.np I.np)).setCell (p:=⟨rb,6,none⟩) rfl (.slice va I.no vc)).setCell (p:=⟨rb,7,none⟩) rfl (.slice (some ⟨g4,0,none⟩) I.hd.length I.hd.length)).setCell (p:=⟨rb,8,none⟩) rfl (.slice (some ⟨g5,0,none⟩) I.pt.length I.pt.length));refine bodyPost_ret (results_cell_row rfl _ _ _ _ _ _ _ rfl (st9 RB5.out _ _ _ _ _ _ _ _ _) Tryz.underlying38 rfl (by kernel_rfl)) rfl ?_;have nf:∀ {n N:Nat} {V:World} {v:Value} {T:TypeId} {F:Nat->Value},XR rb V v n T N F->∀ b,v.ownBlock=some b->¬b=rb:=fun h b hb e=>by have:=h.own hb;omega
           have kE:Kt nO W0 V5:=nT K1.out (nT K2.out (nT K3.out (nT K4.out K5.out)));have k15:Kt nO V1 V5:=nT K2.out (nT K3.out (nT K4.out K5.out));have k25:Kt nO V2 V5:=nT K3.out (nT K4.out K5.out);have k35:Kt nO V3 V5:=nT K4.out K5.out;have d1:=D1.out.keep k15;have d2:=D2.out.keep k25;have d3:=D3.out.keep k35;have d4:=D4.out.keep K5.out;have d5:=D5.out;have hle:w.heap.size<=rb:=(by have:=IB.out;have:=RBE.out;omega);have kw:Kt nO w V2:=nT K0.out (nT K1.out K2.out);have hnr:∀ b,(Value.slice va I.no vc).ownBlock=some b->¬b=rb:=fun b hb e=>by
            obtain⟨c,hc⟩:=wJ d3.r hb;rw[e,RB5.out] at hc
            cases hc
           have kF:=(nT K0.out kE).trans kS (fun _ _ x=>x) (fun x hx e=>absurd hx (by have:=IB.out;have:=RBE.out;omega));have hr:=GS.moved d3.r kS hnr kw.size kF;refine⟨⟨.slice (some ⟨g1,0,none⟩) I.nm I.nm,.slice (some ⟨g2,0,none⟩) I.np I.np,.slice va I.no vc,.slice (some ⟨g4,0,none⟩) I.hd.length I.hd.length,.slice (some ⟨g5,0,none⟩) I.pt.length I.pt.length⟩,rfl,⟨xs,?_⟩,kF⟩;exact⟨OK.out,(d1.keepS kS (nf d1)).le hle,(d2.keepS kS (nf d2)).le hle,hr,fun i hi=>((d3.u i hi).keepS kS (nf (d3.u i hi))).le hle,(d4.keepS kS (nf d4)).le hle,(d5.keepS kS (nf d5)).le hle⟩
set_option maxHeartbeats 8000000
set_option maxRecDepth 6000
theorem nZ(w:World)(q:Nat):Kt nO w (w.drewN q):=(Kt.refl nO w).drewN q
end Go.Proofs.YtkfmheelhinjdaaGreatDoor.W
namespace Go.Proofs.YtkfmheelhinjdaaGreatDoor.W
open Tryz
open Go.ChangeShapes Go.WideShapes Go.ChangeAt Go.RowKit Go.Deep
set_option linter.unusedVariables false
theorem zhk:prog.cellsOf 99=11:=by kernel_rfl
theorem rO:prog.cellsOf 27=1:=by kernel_rfl
theorem TZ:prog.cellsOf 5=1:=by kernel_rfl
theorem rN:prog.cellsOf 3=1:=by kernel_rfl
theorem ZP:prog.cellsOf 97=4:=by kernel_rfl
theorem rM:prog.cellsOf 35=1:=by kernel_rfl
theorem AF:prog.cellsOf 32=1:=by kernel_rfl
theorem AC:prog.cellsOf 36=1:=by kernel_rfl
theorem AB:prog.cellsOf 33=1:=by kernel_rfl
theorem AA:prog.cellsOf 34=1:=by kernel_rfl
theorem ZO:prog.cellsOf 29=3:=by kernel_rfl
theorem ZN:prog.cellsOf 38=9:=by kernel_rfl
theorem oS{w:World}{a:Addr}{v:Value}(h:w.cell? a=some v):∃ b o,a=⟨b,o,none⟩/\b<w.heap.size:=by
 obtain⟨b,o,s⟩:=a;unfold World.cell? at h;split at h
 ·rename_i hh;have hb:=(Array.getElem?_eq_some_iff.1 hh).1
  cases s with
  | none=>exact⟨b,o,rfl,hb⟩
  | some s=>simp at h
 ·cases h
theorem TY{H:Type}{enc:TypeId×Value->H}{W:World}{fuel:Nat}{v:Value}{x:DataW H×List MemPlace}
  (hf:DataW.trod enc prog W 0 (fun _=>true) true fuel 33 [v]=some x):∃ (n:Nat) (pg:Nat->Pg),cA W v n fun bl o i=>PgIn (pg i)/\iV W bl o i (pg i):=by
 rcases open_slice Tryz.underlying33 hf with ⟨hcs,_⟩|⟨x,len,cap,m,n,D,Pl,hcs,_,hl,hm,hmm,_,hx⟩
 ·simp at hcs;subst hcs;exact⟨0,fun _=>aP,by omega,none,0,rfl,Or.inl rfl⟩
 ·simp at hcs;subst hcs;simp only[if_true] at hmm;subst hmm;have hml:m<=9223372036854775807:=by unfold maxLen at hm;omega
  rw[zhk] at hx;have key:∀ k,k<len->∃ q:Pg,PgIn q/\∀ j,j<11->W.cell? ((x.add (k*11)).add j)=some (q.fld j):=by
   intro k hk;obtain⟨cs,h1,h2⟩:=hx k (by omega);obtain⟨_,hlen,hcell⟩:=World.cells?_some h1;obtain⟨xs,nn,_,_,_,hxl,hfld⟩:=DataW.trod_struct Tryz.underlying99 h2;match cs,hlen,xs,hxl with
   | [c0,c1,c2,c3,c4,c5,c6,c7,c8,c9,c10],_,[y0,y1,y2,y3,y4,y5,y6,y7],_=>
    have g0:=hfld 0 _ rfl;have g1:=hfld 1 _ rfl;have g2:=hfld 2 _ rfl;have g3:=hfld 3 _ rfl;have g4:=hfld 4 _ rfl;have g5:=hfld 5 _ rfl;have g6:=hfld 6 _ rfl;have g7:=hfld 7 _ rfl;obtain⟨x0,e0,_,w0⟩:=DataW.trod_int Tryz.underlying3 g0;obtain⟨x1,e1,_,w1⟩:=DataW.trod_int Tryz.underlying3 g1;obtain⟨x2,e2,_,w2⟩:=DataW.trod_int Tryz.underlying3 g2;obtain⟨x3,e3,_,w3⟩:=DataW.trod_int Tryz.underlying3 g3;obtain⟨x4,e4,_,w4⟩:=DataW.trod_int Tryz.underlying3 g4;obtain⟨x5,e5,_,w5⟩:=DataW.trod_int Tryz.underlying3 g5;obtain⟨x6,e6,_,w6⟩:=DataW.trod_int Tryz.underlying3 g6;obtain⟨ys,n2,_,_,_,hyl,harr⟩:=DataW.trod_array Tryz.underlying97 g7;match ys,hyl with
    | [z0,z1,z2,z3],_=>
     have a0:=harr 0 (by decide);have a1:=harr 1 (by decide);have a2:=harr 2 (by decide);have a3:=harr 3 (by decide);simp[ZP,rO] at a0 a1 a2 a3;obtain⟨v7,e7,_,w7⟩:=DataW.trod_int Tryz.underlying27 a0;obtain⟨v8,e8,_,w8⟩:=DataW.trod_int Tryz.underlying27 a1;obtain⟨v9,e9,_,w9⟩:=DataW.trod_int Tryz.underlying27 a2;obtain⟨v10,e10,_,w10⟩:=DataW.trod_int Tryz.underlying27 a3;simp[rN] at e0 e1 e2 e3 e4 e5 e6;simp at e7 e8 e9 e10;subst e0 e1 e2 e3 e4 e5 e6 e7 e8 e9 e10;have b7:=bounds_u64 w7;have b8:=bounds_u64 w8;have b9:=bounds_u64 w9;have b10:=bounds_u64 w10;obtain⟨n7,rfl⟩:=Int.eq_ofNat_of_zero_le b7.1;obtain⟨n8,rfl⟩:=Int.eq_ofNat_of_zero_le b8.1;obtain⟨n9,rfl⟩:=Int.eq_ofNat_of_zero_le b9.1;obtain⟨n10,rfl⟩:=Int.eq_ofNat_of_zero_le b10.1;refine⟨⟨x0,x1,x2,x3,x4,x5,x6,n7,n8,n9,n10⟩,⟨bounds_i64 w0,bounds_i64 w1,bounds_i64 w2,bounds_i64 w3,bounds_i64 w4,bounds_i64 w5,bounds_i64 w6,by show n7<_;omega,by show n8<_;omega,by show n9<_;omega,by show n10<_;omega⟩,fun j hj=>?_⟩;have:=hcell j (by simpa using hj);rw[this];revert j
     apply gU <;> (intros;rfl)
  have hpg:∃ pg:Nat->Pg,∀ k,k<len->PgIn (pg k)/\∀ j,j<11->W.cell? ((x.add (k*11)).add j)=some ((pg k).fld j):=
   ⟨fun k=>if h:k<len then (key k h).choose else aP,fun k hk=>by simp only[hk,dite_true];exact(key k hk).choose_spec⟩
  obtain⟨pg,hpg⟩:=hpg;refine⟨len,pg,by omega,some x,m,rfl,?_⟩;by_cases h0:len=0
  ·exact Or.inl h0
  ·right
   have g0:=(hpg 0 (by omega)).2 0 (by decide);have e0:(x.add (0*11)).add 0=x:=(by simp[Addr.add]);rw[e0] at g0;obtain⟨bb,o,rfl,hb⟩:=oS g0;refine⟨bb,o,rfl,hb,fun k hk=>⟨(hpg k hk).1,?_⟩⟩;have g:=(hpg k hk).2;have e:∀ j,(Addr.add (Addr.add ⟨bb,o,none⟩ (k*11)) j)=⟨bb,o+k*11+j,none⟩:=fun j=>by rw[Addr.add_lit,Addr.add_lit]
   exact fun j hj=>by rw[<-e j];exact g j hj
theorem TW{H:Type}{enc:TypeId×Value->H}{W:World}{fuel:Nat}{v:Value}{x:DataW H×List MemPlace}
  (h:DataW.trod enc prog W 0 (fun _=>true) true fuel 35 [v]=some x):∃ zs,Src W v zs:=by
 rcases open_slice1 Tryz.underlying35 rO h with ⟨hcs,_⟩|⟨a,len,cap,m,n,V,D,Pl,hcs,_,hl,hm,hmm,_,hx⟩
 ·simp at hcs;exact⟨[],fun i=>by simp,none,0,hcs,Or.inl rfl⟩
 ·simp at hcs;subst hcs;simp only[if_true] at hmm;subst hmm;have key:∀ k,k<len->∃ z:Nat,z<2 ^ 64/\W.cell? (a.add k)=some (.int .u64 z):=fun k hk=>by
   obtain⟨h1,h2⟩:=hx k (by omega);obtain⟨v7,e7,_,w7⟩:=DataW.trod_int Tryz.underlying27 h2;simp at e7;have b7:=bounds_u64 w7;obtain⟨n7,rfl⟩:=Int.eq_ofNat_of_zero_le b7.1;exact⟨n7,by omega,by rw[h1,e7]⟩
  have hz:∃ zs:List Nat,zs.length=len/\∀ k,k<len->zs.getD k 0<2 ^ 64/\W.cell? (a.add k)=some (.int .u64 ((zs.getD k 0:Nat):Int)):=
   ⟨(List.range len).map (fun k=>if h:k<len then (key k h).choose else 0),by simp,fun k hk=>by
    have:((List.range len).map (fun k=>if h:k<len then (key k h).choose else 0)).getD k 0=(key k hk).choose:=by simp[List.getD,hk]
    rw[this];exact(key k hk).choose_spec⟩
  obtain⟨zs,hzl,hz⟩:=hz;refine⟨zs,fun i=>?_,some a,m,by rw[hzl],?_⟩
  ·by_cases e:i<len
   ·exact(hz i e).1
   ·have:zs.getD i 0=0:=by simp only[List.getD];rw[List.getElem?_eq_none (by omega)];rfl
    rw[this];decide
  ·by_cases h0:len=0
   ·exact Or.inl (List.eq_nil_of_length_eq_zero (by omega))
   ·right
    refine⟨a,rfl,?_,fun j hj=>(hz j (by omega)).2⟩;have:=sJ (hz 0 (by omega)).2;rwa [DV] at this
theorem TV{H:Type}{enc:TypeId×Value->H}{W:World}{fuel:Nat}{v:Value}{x:DataW H×List MemPlace}
  (h:DataW.trod enc prog W 0 (fun _=>true) true fuel 32 [v]=some x):∃ (n:Nat) (f:Nat->Nat),cA W v n (sP W f)/\∀ a n c,v=.slice a n c->n<=c:=by
 rcases open_slice1 Tryz.underlying32 TZ h with ⟨hcs,_⟩|⟨a,len,cap,m,n,V,D,Pl,hcs,_,hl,hm,hmm,_,hx⟩
 ·simp at hcs;subst hcs;exact⟨0,fun _=>0,⟨by omega,none,0,rfl,Or.inl rfl⟩,fun a n c e=>by cases e;exact Nat.le_refl _⟩
 ·simp at hcs;subst hcs;simp only[if_true] at hmm;subst hmm;have hml:m<=9223372036854775807:=by unfold maxLen at hm;omega
  have key:∀ k,k<len->∃ z:Nat,z<256/\W.cell? (a.add k)=some (.int .u8 z):=fun k hk=>by
   obtain⟨h1,h2⟩:=hx k (by omega);obtain⟨v7,e7,_,w7⟩:=DataW.trod_int Tryz.underlying5 h2;simp at e7;have b7:=bounds_u8 w7;obtain⟨n7,rfl⟩:=Int.eq_ofNat_of_zero_le b7.1;exact⟨n7,by omega,by rw[h1,e7]⟩
  have hz:∃ g:Nat->Nat,∀ k,k<len->g k<256/\W.cell? (a.add k)=some (.int .u8 (g k:Int)):=
   ⟨fun k=>if h:k<len then (key k h).choose else 0,fun k hk=>by simp only[hk,dite_true];exact(key k hk).choose_spec⟩
  obtain⟨g,hz⟩:=hz;have hs:len=0\/∃ bl o,a=⟨bl,o,none⟩/\bl<W.heap.size/\∀ i,i<len->g i<256/\W.cell? ⟨bl,o+i,none⟩=some (.int .u8 (g i:Int)):=by
   by_cases h0:len=0
   ·exact Or.inl h0
   ·right
    have g0:=(hz 0 (by omega)).2;have e0:a.add 0=a:=(by simp[Addr.add]);rw[e0] at g0;obtain⟨bb,o,rfl,hb⟩:=oS g0;refine⟨bb,o,rfl,hb,fun k hk=>⟨(hz k hk).1,?_⟩⟩;have:=(hz k hk).2;rw[Addr.add_lit] at this;exact this
  refine⟨len,g,⟨by omega,_,_,rfl,?_⟩,fun a n c e=>by cases e;exact hl⟩;rcases hs with h0|⟨bl,o,rfl,hb,hc⟩
  ·exact Or.inl h0
  ·exact Or.inr ⟨bl,o,rfl,hb,hc⟩
theorem TU{H:Type}{enc:TypeId×Value->H}{W:World}{fuel:Nat}{v:Value}{x:DataW H×List MemPlace}
  (h:DataW.trod enc prog W 0 (fun _=>true) true fuel 35 [v]=some x):∃ l,cA W v l.length (vY W l):=by
 rcases open_slice1 Tryz.underlying35 rO h with ⟨hcs,_⟩|⟨a,len,cap,m,n,V,D,Pl,hcs,_,hl,hm,hmm,_,hx⟩
 ·simp at hcs;subst hcs;exact⟨[],by simp,none,0,rfl,Or.inl rfl⟩
 ·simp at hcs;subst hcs;simp only[if_true] at hmm;subst hmm;have hml:m<=9223372036854775807:=by unfold maxLen at hm;omega
  have key:∀ k,k<len->∃ z:Nat,z<18446744073709551616/\W.cell? (a.add k)=some (.int .u64 z):=fun k hk=>by
   obtain⟨h1,h2⟩:=hx k (by omega);obtain⟨v7,e7,_,w7⟩:=DataW.trod_int Tryz.underlying27 h2;simp at e7;have b7:=bounds_u64 w7;obtain⟨n7,rfl⟩:=Int.eq_ofNat_of_zero_le b7.1;exact⟨n7,by omega,by rw[h1,e7]⟩
  have hz:∃ g:Nat->Nat,∀ k,k<len->g k<18446744073709551616/\W.cell? (a.add k)=some (.int .u64 (g k:Int)):=
   ⟨fun k=>if h:k<len then (key k h).choose else 0,fun k hk=>by simp only[hk,dite_true];exact(key k hk).choose_spec⟩
  obtain⟨g,hz⟩:=hz;have hs:len=0\/∃ bl o,a=⟨bl,o,none⟩/\bl<W.heap.size/\∀ i,i<len->g i<18446744073709551616/\W.cell? ⟨bl,o+i,none⟩=some (.int .u64 (g i:Int)):=by
   by_cases h0:len=0
   ·exact Or.inl h0
   ·right
    have g0:=(hz 0 (by omega)).2;have e0:a.add 0=a:=(by simp[Addr.add]);rw[e0] at g0;obtain⟨bb,o,rfl,hb⟩:=oS g0;refine⟨bb,o,rfl,hb,fun k hk=>⟨(hz k hk).1,?_⟩⟩;have:=(hz k hk).2;rw[Addr.add_lit] at this;exact this
  have hg:∀ i,i<len->((List.range len).map g).getD i 0=g i:=fun i hi=>by simp[List.getD,hi]
  have hn:((List.range len).map g).length=len:=by simp
  refine⟨(List.range len).map g,by rw[hn];omega,some a,m,by rw[hn],?_⟩;rw[hn];rcases hs with h0|⟨bl,o,rfl,hb,hc⟩
  ·exact Or.inl h0
  ·exact Or.inr ⟨bl,o,rfl,hb,fun i hi=>by unfold vY;rw[hg i hi];exact hc i hi⟩
theorem TT{H:Type}{enc:TypeId×Value->H}{W:World}{fuel:Nat}{v:Value}{x:DataW H×List MemPlace}
  (h:DataW.trod enc prog W 0 (fun _=>true) true fuel 36 [v]=some x):∃ l,cA W v l.length (InC W l):=by
 rcases open_slice1 Tryz.underlying36 rN h with ⟨hcs,_⟩|⟨a,len,cap,m,n,V,D,Pl,hcs,_,hl,hm,hmm,_,hx⟩
 ·simp at hcs;subst hcs;exact⟨[],by simp,none,0,rfl,Or.inl rfl⟩
 ·simp at hcs;subst hcs;simp only[if_true] at hmm;subst hmm;have hml:m<=9223372036854775807:=by unfold maxLen at hm;omega
  have key:∀ k,k<len->∃ z:Int,N64 z/\W.cell? (a.add k)=some (.int .i64 z):=fun k hk=>by
   obtain⟨h1,h2⟩:=hx k (by omega);obtain⟨v7,e7,_,w7⟩:=DataW.trod_int Tryz.underlying3 h2;simp at e7;exact⟨v7,bounds_i64 w7,by rw[h1,e7]⟩
  have hz:∃ g:Nat->Int,∀ k,k<len->N64 (g k)/\W.cell? (a.add k)=some (.int .i64 (g k)):=
   ⟨fun k=>if h:k<len then (key k h).choose else 0,fun k hk=>by simp only[hk,dite_true];exact(key k hk).choose_spec⟩
  obtain⟨g,hz⟩:=hz;have hs:len=0\/∃ bl o,a=⟨bl,o,none⟩/\bl<W.heap.size/\∀ i,i<len->N64 (g i)/\W.cell? ⟨bl,o+i,none⟩=some (.int .i64 (g i)):=by
   by_cases h0:len=0
   ·exact Or.inl h0
   ·right
    have g0:=(hz 0 (by omega)).2;have e0:a.add 0=a:=(by simp[Addr.add]);rw[e0] at g0;obtain⟨bb,o,rfl,hb⟩:=oS g0;refine⟨bb,o,rfl,hb,fun k hk=>⟨(hz k hk).1,?_⟩⟩;have:=(hz k hk).2;rw[Addr.add_lit] at this;exact this
  have hg:∀ i,i<len->((List.range len).map g).getD i 0=g i:=fun i hi=>by simp[List.getD,hi]
  have hn:((List.range len).map g).length=len:=by simp
  refine⟨(List.range len).map g,by rw[hn];omega,some a,m,by rw[hn],?_⟩;rw[hn];rcases hs with h0|⟨bl,o,rfl,hb,hc⟩
  ·exact Or.inl h0
  ·exact Or.inr ⟨bl,o,rfl,hb,fun i hi=>by unfold InC;rw[hg i hi];exact hc i hi⟩
theorem TS{H:Type}{enc:TypeId×Value->H}{W:World}{fuel:Nat}{v:Value}{x:DataW H×List MemPlace}
  (hf:DataW.trod enc prog W 0 (fun _=>true) true fuel 34 [v]=some x):∃ (n:Nat) (zs:Nat->List Nat) (ws:Nat->Value),cA W v n fun bl o i=>W.cell? ⟨bl,o+i,none⟩=some (ws i)/\Src W (ws i) (zs i):=by
 rcases open_slice1 Tryz.underlying34 rM hf with ⟨hcs,_⟩|⟨x,len,cap,m,n,V,D,Pl,hcs,_,hl,hm,hmm,_,hx⟩
 ·simp at hcs;subst hcs;exact⟨0,fun _=>[],fun _=>.slice none 0 0,by omega,none,0,rfl,Or.inl rfl⟩
 ·simp at hcs;subst hcs;simp only[if_true] at hmm;subst hmm;have hml:m<=9223372036854775807:=by unfold maxLen at hm;omega
  have key:∀ k,k<len->∃ zs,Src W (V k) zs:=fun k hk=>TW (hx k (by omega)).2
  refine⟨len,fun k=>if h:k<len then (key k h).choose else [],V,by omega,some x,m,rfl,?_⟩;by_cases h0:len=0
  ·exact Or.inl h0
  ·right
   have g0:=(hx 0 (by omega)).1;have e0:x.add 0=x:=(by simp[Addr.add]);rw[e0] at g0;obtain⟨bb,o,rfl,hb⟩:=oS g0;refine⟨bb,o,rfl,hb,fun k hk=>⟨?_,?_⟩⟩
   ·have:=(hx k (by omega)).1;rw[Addr.add_lit] at this;exact this
   ·simp only[hk,dite_true];exact(key k hk).choose_spec
theorem image_of{H:Type}{enc:TypeId×Value->H}{W:World}{bS:Nat}{v:Value}{d:DataW H}{p:List MemPlace}(hok:Value.okWide prog W .any bS 38 v)
  (h:DataW.Trod enc prog W 0 (fun _=>true) true 38 v d p):∃ I V,v=imA I V/\ImD W I V:=by
 obtain⟨cs,rfl,_⟩:=okWide_struct Tryz.underlying38 hok;obtain⟨fuel,hf⟩:=h;obtain⟨xs,nn,_,_,hlen,hxl,hfld⟩:=DataW.trod_struct Tryz.underlying38 hf;obtain⟨l⟩:=cs;simp only[Value.cells] at hlen hfld;rw[ZN] at hlen;match l,hlen,xs,hxl with
 | [c0,c1,c2,c3,c4,c5,c6,c7,c8],_,[y0,y1,y2,y3,y4,y5,y6],_=>
  have g0:=hfld 0 _ rfl;have g1:=hfld 1 _ rfl;have g2:=hfld 2 _ rfl;have g3:=hfld 3 _ rfl;have g4:=hfld 4 _ rfl;have g5:=hfld 5 _ rfl;have g6:=hfld 6 _ rfl;simp[ZO] at g0;simp[rN] at g1;simp[AF] at g2;simp[AB] at g3;simp[AA] at g4;simp[rM] at g5;simp[AC] at g6;obtain⟨xs0,n0,_,_,_,hxl0,hf0⟩:=DataW.trod_struct Tryz.underlying29 g0;match xs0,hxl0 with
  | [z0,z1,z2],_=>
   have k0:=hf0 0 _ rfl;have k1:=hf0 1 _ rfl;have k2:=hf0 2 _ rfl;simp[rO] at k0;simp[rN] at k1 k2;obtain⟨x0,e0,_,w0⟩:=DataW.trod_int Tryz.underlying27 k0;obtain⟨x1,e1,_,w1⟩:=DataW.trod_int Tryz.underlying3 k1;obtain⟨x2,e2,_,w2⟩:=DataW.trod_int Tryz.underlying3 k2;obtain⟨x3,e3,_,w3⟩:=DataW.trod_int Tryz.underlying3 g1;simp at e0 e1 e2 e3;subst e0 e1 e2 e3;have b0:=bounds_u64 w0;obtain⟨b,rfl⟩:=Int.eq_ofNat_of_zero_le b0.1;obtain⟨nm,mem,hm,hmc⟩:=TV g2;obtain⟨np,pg,hp⟩:=TY g3;obtain⟨no,pr,hr⟩:=TS g4;obtain⟨hd,hh⟩:=TU g5;obtain⟨pt,ht⟩:=TT g6;exact⟨⟨b,x1,x2,x3,nm,mem,np,pg,no,pr,hd,pt⟩,⟨c4,c5,c6,c7,c8⟩,rfl,⟨by show b<_;omega,bounds_i64 w1,bounds_i64 w2,bounds_i64 w3,hm,hmc,hp,hr,hh,ht⟩⟩
theorem nJ{H:Type}{enc:TypeId×Value->H}{W:World}{t e:TypeId}(hu:prog.underlying t=some (.slice e)){fuel:Nat}{v:Value}{x:DataW H×List MemPlace}
  (hf:DataW.trod enc prog W 0 (fun _=>true) true fuel t [v]=some x) (hw:∀ k∈x.1.weights prog t,k<=reachBytes) {a:Option Addr} {n c:Nat} (hv:v=.slice a n c):n*prog.bytesOf e<=reachBytes:=by
 rcases open_slice hu hf with ⟨hcs,_⟩|⟨x',len,cap,m,nn,D,Pl,hcs,_,hl,hm,hmm,hx,_⟩
 ·simp at hcs;rw[hcs] at hv
  cases hv
  omega
 ·simp at hcs;rw[hcs] at hv
  cases hv
  subst hx;have:=hw ((n+(m-n))*prog.bytesOf e) (by simp[DataW.weights,hu]);exact Nat.le_trans (Nat.mul_le_mul_right _ (Nat.le_add_right n (m-n))) this
theorem CO{H:Type}{P:Program}{e:TypeId} : ∀ {l:List (DataW H)} {d:DataW H},d∈l->∀ k∈d.weights P e,k∈DataW.weightsAll P e l
 | x :: l,d,h,k,hk=>by
  simp only[DataW.weightsAll,List.mem_append];rcases List.mem_cons.1 h with rfl|h
  ·exact .inl hk
  ·exact .inr (CO h k hk)
theorem IK:prog.bytesOf 5=1:=by kernel_rfl
theorem IJ:prog.bytesOf 99=88:=by kernel_rfl
theorem II:prog.bytesOf 35=24:=by kernel_rfl
theorem xN:prog.bytesOf 27=8:=by kernel_rfl
theorem JF:prog.bytesOf 3=8:=by kernel_rfl
theorem IH{H:Type}{enc:TypeId×Value->H}{W:World}{fuel:Nat}{v:Value}{x:DataW H×List MemPlace}
  (hf:DataW.trod enc prog W 0 (fun _=>true) true fuel 34 [v]=some x) (hw:∀ k∈x.1.weights prog 34,k<=reachBytes) {n:Nat} {ws:Nat->Value} {zs:Nat->List Nat}
  (hs:cA W v n fun bl o i=>W.cell? ⟨bl,o+i,none⟩=some (ws i)/\Src W (ws i) (zs i)):∀ i,i<n->(zs i).length*8<=reachBytes:=by
 intro i hi;obtain⟨-,oa,oc,hv,hc⟩:=hs;rcases hc with hc|⟨bl,o,rfl,-,hc⟩
 ·omega
 obtain⟨h1,h2⟩:=hc i hi;rcases open_slice1 Tryz.underlying34 rM hf with ⟨hcs,_⟩|⟨x',len,cap,m,nn,V,D,Pl,hcs,_,hl,hm,hmm,hx,hcell⟩
 ·simp at hcs;rw[hcs] at hv
  cases hv
 ·simp at hcs;rw[hcs] at hv
  cases hv
  simp only[if_true] at hmm;subst hmm;obtain⟨g1,g2⟩:=hcell i (by omega);rw[Addr.add_lit,h1] at g1;have ev:V i=ws i:=(Option.some.inj g1).symm;rw[ev] at g2;obtain⟨-,so,sc,hws,-⟩:=h2;have hwd:∀ k∈(D i).weights prog 35,k<=reachBytes:=fun k hk=>hw k (by
   rw[hx];simp only[DataW.weights,Tryz.underlying34,List.mem_cons,List.mem_append];exact .inr (.inl (CO (List.mem_map.2 ⟨i,List.mem_range.2 hi,rfl⟩) k hk)))
  have:=nJ Tryz.underlying35 g2 hwd hws;rwa [xN] at this
theorem image_sized{H:Type}{enc:TypeId×Value->H}{W:World}{d:DataW H}{p:List MemPlace}{I:Img}{V:ImV}
  (h:DataW.Trod enc prog W 0 (fun _=>true) true 38 (imA I V) d p) (hw:∀ k∈d.weights prog 38,k<=reachBytes) (hI:ImD W I V):ImZ I:=by
 obtain⟨fuel,hf⟩:=h;obtain⟨xs,nn,-,hd,hlen,hxl,hfld⟩:=DataW.trod_struct Tryz.underlying38 hf;simp only[Value.cells] at hfld;match xs,hxl with
 | [y0,y1,y2,y3,y4,y5,y6],_=>
  have g2:=hfld 2 _ rfl;have g3:=hfld 3 _ rfl;have g4:=hfld 4 _ rfl;have g5:=hfld 5 _ rfl;have g6:=hfld 6 _ rfl;simp[AF] at g2;simp[AB] at g3;simp[AA] at g4;simp[rM] at g5;simp[AC] at g6;have e:d=.agg [y0.1,y1.1,y2.1,y3.1,y4.1,y5.1,y6.1]:=by
   have:=congrArg Prod.fst hd;simpa using this
  subst e;have hw':∀ k∈DataW.weightsEach prog [29,3,32,33,34,35,36] [y0.1,y1.1,y2.1,y3.1,y4.1,y5.1,y6.1],k<=reachBytes:=fun k hk=>hw k (by
   simp only[DataW.weights,Tryz.underlying38];exact hk)
  have w2:∀ k∈y2.1.weights prog 32,k<=reachBytes:=fun k hk=>hw' k (DataW.weights_mem_each (j:=2) rfl rfl k hk)
  have w3:∀ k∈y3.1.weights prog 33,k<=reachBytes:=fun k hk=>hw' k (DataW.weights_mem_each (j:=3) rfl rfl k hk)
  have w4:∀ k∈y4.1.weights prog 34,k<=reachBytes:=fun k hk=>hw' k (DataW.weights_mem_each (j:=4) rfl rfl k hk)
  have w5:∀ k∈y5.1.weights prog 35,k<=reachBytes:=fun k hk=>hw' k (DataW.weights_mem_each (j:=5) rfl rfl k hk)
  have w6:∀ k∈y6.1.weights prog 36,k<=reachBytes:=fun k hk=>hw' k (DataW.weights_mem_each (j:=6) rfl rfl k hk)
  obtain⟨⟨ma,mc,hm⟩,⟨pa,pc,hp⟩,⟨ra,rc,hr⟩,⟨ha,hc,hh⟩,⟨ta,tc,ht⟩,-⟩:=hI.sl;obtain⟨ws,hps⟩:=hI.prs;have s2:=nJ Tryz.underlying32 g2 w2 hm;have s3:=nJ Tryz.underlying33 g3 w3 hp;have s4:=nJ Tryz.underlying34 g4 w4 hr;have s5:=nJ Tryz.underlying35 g5 w5 hh;have s6:=nJ Tryz.underlying36 g6 w6 ht;have s7:=IH g4 w4 hps;rw[IK] at s2;rw[IJ] at s3;rw[II] at s4;rw[xN] at s5;rw[JF] at s6;have hr47:=reachBytes_lt;exact⟨by omega,by omega,by omega,fun i hi=>by have:=s7 i hi;omega,by omega,by omega⟩
end Go.Proofs.YtkfmheelhinjdaaGreatDoor.W
