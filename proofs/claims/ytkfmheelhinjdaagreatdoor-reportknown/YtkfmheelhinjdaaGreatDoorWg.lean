import Derived.Test.YtkfmheelhinjdaaGreatDoorWf
import Derived.Test.YtkfmheelhinjdaaGreatDoorWh
import Derived.Shelf.SlSortCmp.NoneTotal
import Derived.Shelf.Strconv.AppendInt10
set_option maxRecDepth 1000000
set_option maxHeartbeats 80000000
namespace Go.Proofs.YtkfmheelhinjdaaGreatDoor.W
open _root_.Go.Proofs.Tryz
open Go.RowKit
set_option linter.unusedVariables false
set_option maxHeartbeats 16000000
set_option maxRecDepth 6000
set_option maxHeartbeats 8000000
set_option maxRecDepth 6000
def XR(s:Nat)(w:World)(v:Value)(n:Nat)(T:TypeId)(N:Nat)(F:Nat->Value):Prop:=∃ b cs,s<b/\v=.slice (some ⟨b,0,none⟩) n n/\w.heap[b]?=some (.cells cs T)/\cs.size=N/\∀ j,j<N->cs[j]?=some (F j)
theorem XR.cell{s n N:Nat}{w:World}{b:Nat}{T:TypeId}{F:Nat->Value}{m c:Nat}(h:XR s w (.slice (some ⟨b,0,none⟩) m c) n T N F){j:Nat}(hj:j<N):w.cell? ⟨b,j,none⟩=some (F j):=by
 obtain⟨b',cs,h1,e,h3,h4,h5⟩:=h
 cases e
 simp[World.cell?,h3,h5 j hj]
theorem XR.frz{s n N:Nat}{w:World}{b:Nat}{T:TypeId}{F:Nat->Value}{m c:Nat}(h:XR s w (.slice (some ⟨b,0,none⟩) m c) n T N F)(j:Nat):w.frozen? ⟨b,j,none⟩=false:=by
 obtain⟨b',cs,h1,e,h3,h4,h5⟩:=h
 cases e
 simp[World.frozen?,h3]
theorem XR.put{s n N:Nat}{w:World}{b:Nat}{T:TypeId}{F:Nat->Value}{m c:Nat}(h:XR s w (.slice (some ⟨b,0,none⟩) m c) n T N F){k:Nat}(hk:k<N)(x:Value):XR s (w.setCell ⟨b,k,none⟩ x) (.slice (some ⟨b,0,none⟩) m c) n T N fun j=>if j=k then x else F j:=by
 obtain⟨b',cs,h1,e,h3,h4,h5⟩:=h
 cases e
 refine⟨_,cs.setIfInBounds k x,h1,rfl,JA h3 x,by simpa using h4,fun j hj=>?_⟩;by_cases e:j=k
 ·subst e;simp[h4,hj]
 ·show _=some (if j=k then x else F j)
  rw[if_neg e,Array.getElem?_setIfInBounds_ne (Ne.symm e)];exact h5 j hj
theorem XR.congr{s n N:Nat}{w:World}{v:Value}{T:TypeId}{F G:Nat->Value}(h:XR s w v n T N F)(e:∀ j,j<N->F j=G j):XR s w v n T N G:=by
 obtain⟨b,cs,h1,h2,h3,h4,h5⟩:=h;exact⟨b,cs,h1,h2,h3,h4,fun j hj=>(h5 j hj).trans (by rw[e j hj])⟩
set_option maxHeartbeats 8000000
set_option maxRecDepth 6000
set_option maxHeartbeats 8000000
set_option maxRecDepth 6000
set_option maxHeartbeats 8000000
set_option maxRecDepth 6000
def RBk(w:World)(v:Value)(l:List (Nat×Nat)):Prop:=∃ oa oc,v=.slice oa l.length oc/\(l=[]\/∃ g,oa=some ⟨g,0,none⟩/\g<w.heap.size/\∀ j,j<l.length->w.cell? ⟨g,j*2,none⟩=some (.int .u64 ((l.getD j (0,0)).1:Int))/\w.cell? ⟨g,j*2+1,none⟩=some (.int .u64 ((l.getD j (0,0)).2:Int)))
theorem blV_get:∀ (l:List (Nat×Nat)) (j:Nat),j<l.length->(blV l)[j*2]?=some (.int .u64 ((l.getD j (0,0)).1:Int))/\(blV l)[j*2+1]?=some (.int .u64 ((l.getD j (0,0)).2:Int))
 | [],j,h=>by simp at h
 | b :: l,0,_=>by simp[blV]
 | b :: l,j+1,h=>by
  have:=blV_get l j (by simpa using h);rw[show(j+1)*2=j*2+1+1 by omega];simpa [blV] using this
theorem GB.rb{w0 W:World}{v:Value}{l:List (Nat×Nat)}(h:GB w0 W v l):RBk W v l:=by
 obtain⟨h1,h2⟩:=h.own;rcases h2 with ⟨rfl,h0⟩|⟨g,cap,cur,rfl,_,hg,_,_,hs,ht⟩
 ·exact⟨none,0,by rw[h0],.inl (List.eq_nil_of_length_eq_zero h0)⟩
 ·refine⟨_,_,rfl,.inr ⟨g,rfl,lH hg,fun j hj=>?_⟩⟩;obtain⟨e1,e2⟩:=blV_get l j hj;rw[<-ht,List.getElem?_take_of_lt (by omega)] at e1 e2;rw[Array.getElem?_toList] at e1 e2;exact⟨by simp[World.cell?,hg,e1],by simp[World.cell?,hg,e2]⟩
theorem RBk.keep{w W:World}{v:Value}{l:List (Nat×Nat)}(h:RBk w v l)(hk:Kt nO w W):RBk W v l:=by
 obtain⟨oa,oc,h1,h2⟩:=h;refine⟨oa,oc,h1,?_⟩;rcases h2 with h2|⟨g,e,hg,hc⟩
 ·exact .inl h2
 ·exact .inr ⟨g,e,Nat.lt_of_lt_of_le hg hk.size,fun j hj=>⟨hk.cell (fun x=>x) (hc j hj).1,hk.cell (fun x=>x) (hc j hj).2⟩⟩
set_option maxHeartbeats 8000000
set_option maxRecDepth 6000
def lG{α : Type}[BEq α](enc : α->Value)(ok : α->Prop)(w:World)(xs:List α)(e:Ending)(w':World):Prop:=
 ∃ g D,e=.returned (.map (some g))/\w.heap.size<=g/\MC enc ok w' g D (fun a=>xs.count a)/\(∀ a,a∈D↔a∈xs)/\D.length<=xs.length/\Kt nO w w'
structure TaI{α : Type}[BEq α](enc : α->Value)(ok : α->Prop)(w W:World)(g:Nat)(xs:List α)(a:Nat)(D:List α):Prop where
 m:MC enc ok W g D (fun x=>(xs.take a).count x)
 me:∀ x,x∈D↔x∈xs.take a
 le:D.length<=a
 k:Kt nO w W
 nw:w.heap.size<=g
section
variable {α : Type} [BEq α] {enc : α->Value} {ok : α->Prop} {w W W':World} {g a:Nat} {xs D:List α} {x : α}
theorem TaI.start(w:World):TaI enc ok w (w.alloc (.map #[] 0)) w.heap.size xs 0 []:=by
 refine⟨?_,by simp,Nat.le_refl _,(Kt.refl _ w).alloc _,Nat.le_refl _⟩;have:=MC.made (enc:=enc) (ok:=ok) w;simpa using this
theorem TaI.at[LawfulBEq α](h:TaI enc ok w W g xs a D)(hx:xs[a]?=some x):(xs.take (a+1)).count x=(xs.take a).count x+1/\∀ y,y≠x->(xs.take (a+1)).count y=(xs.take a).count y:=by
 have e:xs.take (a + 1)=xs.take a ++ [x]:=by rw[List.take_add_one,hx];rfl
 constructor
 ·rw[e,List.count_append];simp
 ·intro y hy;rw[e,List.count_append,List.count_eq_zero.2 (show ¬y∈[x] by simpa using hy),Nat.add_zero]
theorem TaI.next(h:TaI enc ok w W g xs a D)(hx:xs[a]?=some x)(m:MC enc ok W' g (aY D x) (fun y=>(xs.take (a+1)).count y))(k:Kt nO w W'):TaI enc ok w W' g xs (a+1) (aY D x):=by
 have e:xs.take (a + 1)=xs.take a ++ [x]:=by rw[List.take_add_one,hx];rfl
 refine⟨m,fun y=>?_,Nat.le_trans (OA x) (Nat.succ_le_succ h.le),k,h.nw⟩;rw[nQ,h.me,e];simp
theorem TaI.done(h:TaI enc ok w W g xs xs.length D):lG enc ok w xs (.returned (.map (some g))) W:=by
 have m:=h.m;have me:=h.me;rw[List.take_length] at me;simp only[List.take_length] at m;exact⟨g,D,rfl,h.nw,m,me,h.le,h.k⟩
end
theorem sO{w W W':World}{g:Nat}(h:Kt nO w W)(k:Kt (fun x=>x=g) W W')(hg:w.heap.size<=g):Kt nO w W':=
 h.trans k (fun _ _ x=>x) (fun x hx e=>by cases e;exact absurd hx (Nat.not_lt.2 hg))
theorem QM(p s:Int)(W:World):Calls prog 54 #[.agg #[.int .u64 p,.int .u64 s]] W fun e w'=>e=.returned (.int .u64 s)/\Kt nO W w':=by
 go_enter func54,ntmps54;go_wp2_with fail;go_ret;exact⟨rfl,(Kt.refl _ W).alloc _⟩
theorem kV(w:World):(zeroValue 3).run prog w=.ok (.int .i64 0) w:=by kernel_rfl
theorem MT(v:Value)(l:List (Nat×Nat))(w:World)(hl:l.length<=281474976710656)(hb:∀ b∈l,gI b.2)(hv:RBk w v l):
  Calls prog 53 #[v,.func (.func 54) #[] #[]] w (lG eU gI w (dI l)):=by
 have HV:=aA hv;obtain⟨va,vc,hv1,-⟩:=hv;obtain⟨n,hn⟩:=xe (l.length);obtain⟨xs,hxs⟩:=xe (dI l);rw[<-hn] at hl hv1;have HN:=aA (show xs.length=n by rw[hxs,hn];simp[dI]);have RW:=aA (show ∀ W,Kt nO w W->∀ j,j<n->∃ g,∃ p s:Nat,va=some ⟨g,0,none⟩/\xs[j]?=some s/\gI s/\W.cell? ⟨g,j*2,none⟩=some (.int .u64 p)/\W.cell? ⟨g,j*2+1,none⟩=some (.int .u64 s)from fun W hW j hj=>by
  obtain⟨oa,oc,q1,q2⟩:=HV.out;rw[hv1] at q1
  cases q1
  rcases q2 with q2|⟨g,rfl,hg,hc⟩
  ·rw[hn,q2] at hj;simp at hj
  have hd:l.getD j (0,0)=l[j]'(hn▸hj):=by rw[List.getD_eq_getElem?_getD,List.getElem?_eq_getElem (hn▸hj)];rfl
  refine⟨g,(l.getD j (0,0)).1,(l.getD j (0,0)).2,rfl,?_,?_,hW.cell (fun x=>x) (hc j (by omega)).1,hW.cell (fun x=>x) (hc j (by omega)).2⟩
  ·rw[hxs,hd];unfold dI;rw[List.getElem?_map,List.getElem?_eq_getElem (hn▸hj)];rfl
  ·rw[hd];exact hb _ (List.getElem_mem _))
 rw[<-hxs];clear hxs HV hn hb;subst hv1;have hmk:∀ w,(Instr.makeMap 106 none).run prog w=.ok (.map (some w.heap.size)) (w.alloc (.map #[] 0)):=fun w=>run_makeMap _ w
 have I0:=aA (show TaI eU gI w (w.alloc (.map #[] 0)) w.heap.size xs 0 [] from TaI.start w);go_enter func53,ntmps53;go_wp2_with fail;generalize w.alloc (.map #[] 0)=W1 at *;generalize hgx:w.heap.size=gx at *;clear hmk;go_loopw [11] (fun i W=>∃ a D,a<=n/\i=.int .i64 ((a:Nat):Int)/\Hid (TaI eU gI w W gx xs a D)) (fun i _=>n-(intOf i).toNat)
 case atStart=>exact⟨0,[],Nat.zero_le _,rfl,I0⟩
 case round=>
  clear I0;obtain⟨a,D,ha,rfl,HI⟩:=hrel;by_cases hlt:a<n
  ·have hai:(a:Int)<n:=(by omega);obtain⟨bl,p,s,rfl,hs,h64,r0,r1⟩:=RW.out wr HI.out.k a hlt;have HS:=aA hs;have H64:=aA h64;clear hs h64;go_wp2_with fail;refine(QM _ _ _).mono ?_;rintro e w2 ⟨rfl,hk⟩;have K1:=aA (nT ((Kt.refl nO wr).alloc _) hk);have M2:=aA (HI.out.m.kept K1.out (fun x=>x));have AT:=aA (TaI.at HI.out HS.out);obtain⟨c,hc⟩:∃ c,(xs.take a).count s=c:=⟨_,rfl⟩;have hcn:c<=n:=by
    rw[<-hc];exact Nat.le_trans List.count_le_length (by rw[List.length_take];omega)
   have HC:=aA hc;have A1:=aA (AT.out.1.trans (congrArg (·+1) hc));have DL:=aA (show D.length<maxLen from by have:=HI.out.le;unfold maxLen;omega);have NX:=aA (fun W' m k=>TaI.next HI.out HS.out (W':=W') m k);clear hk hc r0 r1;go_wp2_with (first|(at_lookup;refine oP _ rfl _ _ 106 rfl 27 3 mS Tryz.underlying106 (kV _) gx rfl M2.out s H64.out rfl c HC.out ?_)|(at_mapUpdate;refine VC _ rfl _ _ _ 106 rfl 27 3 mS Tryz.underlying106 gx rfl M2.out DL.out s H64.out rfl (c+1) (fun y=>(xs.take (a+1)).count y) A1.out AT.out.2 rfl ?_;intro w3 m3 k3 z3;have M3:=aA m3;have K3:=aA k3;clear m3 k3 z3))
   refine⟨⟨a+1,_,by omega,by simp,aA (NX.out w3 M3.out (sO (nT HI.out.k K1.out) K3.out HI.out.nw))⟩,by simp[intOf];omega⟩
  ·have hae:a=n:=(by omega);have hai:¬(a:Int)<n:=(by omega);have FIN:=aA (show lG eU gI w xs (.returned (.map (some gx))) wr from by
    have h:=HI.out;rw[hae,<-HN.out] at h;exact h.done)
   clear HI;go_wp2_with fail;go_ret;exact FIN.out
end Go.Proofs.YtkfmheelhinjdaaGreatDoor.W
namespace Go.Proofs.YtkfmheelhinjdaaGreatDoor
open _root_.Go.Proofs.Tryz
open Go.Shelf
def XO:Go.Shelf.Ren:=⟨fun|6=>94|15=>137|14=>136|28=>184|29=>185|20=>176|21=>177|22=>178|23=>179|24=>180|25=>181|26=>182|27=>183|46=>231|47=>232|48=>233|49=>234|50=>235|57=>272|n=>n,fun|22=>35|24=>27|25=>110|3=>3|39=>59|0=>0|53=>69|55=>27|4=>4|46=>222|45=>221|50=>226|5=>5|9=>9|66=>253|70=>256|76=>280|77=>57|n=>n,fun|n=>n⟩
theorem EA:SlLaysF.n6 prog XO:={
 mixed:=by kernel_rfl
 f6:=⟨Tryz.f94.name,by decide,func94.trans (congrArg some (by kernel_rfl))⟩
 f14:=⟨Tryz.f136.name,by decide,func136.trans (congrArg some (by kernel_rfl))⟩
 f15:=func137.trans (congrArg some (by kernel_rfl))
 f20:=⟨Tryz.f176.name,by decide,func176.trans (congrArg some (by kernel_rfl))⟩
 f21:=⟨Tryz.f177.name,by decide,func177.trans (congrArg some (by kernel_rfl))⟩
 f22:=⟨Tryz.f178.name,by decide,func178.trans (congrArg some (by kernel_rfl))⟩
 f23:=⟨Tryz.f179.name,by decide,func179.trans (congrArg some (by kernel_rfl))⟩
 f24:=⟨Tryz.f180.name,by decide,func180.trans (congrArg some (by kernel_rfl))⟩
 f25:=⟨Tryz.f181.name,by decide,func181.trans (congrArg some (by kernel_rfl))⟩
 f26:=⟨Tryz.f182.name,by decide,func182.trans (congrArg some (by kernel_rfl))⟩
 f27:=⟨Tryz.f183.name,by decide,func183.trans (congrArg some (by kernel_rfl))⟩
 f28:=func184.trans (congrArg some (by kernel_rfl))
 f29:=func185.trans (congrArg some (by kernel_rfl))
 f46:=⟨Tryz.f231.name,by decide,func231.trans (congrArg some (by kernel_rfl))⟩
 f47:=func232.trans (congrArg some (by kernel_rfl))
 f48:=func233.trans (congrArg some (by kernel_rfl))
 f49:=⟨Tryz.f234.name,by decide,func234.trans (congrArg some (by kernel_rfl))⟩
 f50:=⟨Tryz.f235.name,by decide,func235.trans (congrArg some (by kernel_rfl))⟩
 f57:=⟨Tryz.f272.name,by decide,func272.trans (congrArg some (by kernel_rfl))⟩
 t0:=Tryz.underlying0
 a0:=Tryz.isAgg0
 z0:=Tryz.sizeOf0
 v0:=Tryz.zeroValue0
 t3:=Tryz.underlying3
 a3:=Tryz.isAgg3
 z3:=Tryz.sizeOf3
 v3:=Tryz.zeroValue3
 t4:=Tryz.underlying4
 a4:=Tryz.isAgg4
 z4:=Tryz.sizeOf4
 v4:=Tryz.zeroValue4
 t5:=Tryz.underlying5
 a5:=Tryz.isAgg5
 z5:=Tryz.sizeOf5
 v5:=Tryz.zeroValue5
 t9:=Tryz.underlying9
 a9:=Tryz.isAgg9
 z9:=Tryz.sizeOf9
 v9:=Tryz.zeroValue9
 t22:=Tryz.underlying35
 a22:=Tryz.isAgg35
 z22:=Tryz.sizeOf35
 v22:=Tryz.zeroValue35
 a24:=Tryz.isAgg27
 z24:=Tryz.sizeOf27
 t25:=Tryz.underlying110
 a25:=Tryz.isAgg110
 z25:=Tryz.sizeOf110
 v25:=Tryz.zeroValue110
 t39:=Tryz.underlying59
 a39:=Tryz.isAgg59
 z39:=Tryz.sizeOf59
 v39:=Tryz.zeroValue59
 t45:=Tryz.underlying221
 a45:=Tryz.isAgg221
 z45:=Tryz.sizeOf221
 v45:=Tryz.zeroValue221
 t46:=Tryz.underlying222
 a46:=Tryz.isAgg222
 z46:=Tryz.sizeOf222
 v46:=Tryz.zeroValue222
 t50:=Tryz.underlying226
 a50:=Tryz.isAgg226
 z50:=Tryz.sizeOf226
 v50:=Tryz.zeroValue226
 t53:=Tryz.underlying69
 a53:=Tryz.isAgg69
 z53:=Tryz.sizeOf69
 v53:=Tryz.zeroValue69
 t55:=Tryz.underlying27
 a55:=Tryz.isAgg27
 z55:=Tryz.sizeOf27
 v55:=Tryz.zeroValue27
 t66:=Tryz.underlying253
 a66:=Tryz.isAgg253
 z66:=Tryz.sizeOf253
 v66:=Tryz.zeroValue253
 t70:=Tryz.underlying256
 a70:=Tryz.isAgg256
 z70:=Tryz.sizeOf256
 v70:=Tryz.zeroValue256
 t76:=Tryz.underlying280
 a76:=Tryz.isAgg280
 z76:=Tryz.sizeOf280
 v76:=Tryz.zeroValue280
 t77:=Tryz.underlying57
 a77:=Tryz.isAgg57
 z77:=Tryz.sizeOf57
 v77:=Tryz.zeroValue57 }
def XM:Go.Shelf.Ren:=⟨fun|6=>142|15=>137|14=>190|28=>184|29=>185|20=>238|21=>239|22=>240|23=>241|24=>242|25=>243|26=>244|27=>245|46=>273|47=>232|48=>233|49=>274|50=>275|57=>296|n=>n,fun|22=>46|24=>45|25=>116|3=>3|39=>59|0=>0|53=>69|55=>27|4=>4|46=>222|45=>221|50=>226|5=>5|9=>9|66=>253|70=>256|76=>280|77=>57|n=>n,fun|n=>n⟩
theorem DZ:SlLaysF0.n6 prog XM:={
 mixed:=by kernel_rfl
 f6:=⟨Tryz.f142.name,by decide,func142.trans (congrArg some (by kernel_rfl))⟩
 f14:=⟨Tryz.f190.name,by decide,func190.trans (congrArg some (by kernel_rfl))⟩
 f15:=func137.trans (congrArg some (by kernel_rfl))
 f20:=⟨Tryz.f238.name,by decide,func238.trans (congrArg some (by kernel_rfl))⟩
 f21:=⟨Tryz.f239.name,by decide,func239.trans (congrArg some (by kernel_rfl))⟩
 f22:=⟨Tryz.f240.name,by decide,func240.trans (congrArg some (by kernel_rfl))⟩
 f23:=⟨Tryz.f241.name,by decide,func241.trans (congrArg some (by kernel_rfl))⟩
 f24:=⟨Tryz.f242.name,by decide,func242.trans (congrArg some (by kernel_rfl))⟩
 f25:=⟨Tryz.f243.name,by decide,func243.trans (congrArg some (by kernel_rfl))⟩
 f26:=⟨Tryz.f244.name,by decide,func244.trans (congrArg some (by kernel_rfl))⟩
 f27:=⟨Tryz.f245.name,by decide,func245.trans (congrArg some (by kernel_rfl))⟩
 f28:=func184.trans (congrArg some (by kernel_rfl))
 f29:=func185.trans (congrArg some (by kernel_rfl))
 f46:=⟨Tryz.f273.name,by decide,func273.trans (congrArg some (by kernel_rfl))⟩
 f47:=func232.trans (congrArg some (by kernel_rfl))
 f48:=func233.trans (congrArg some (by kernel_rfl))
 f49:=⟨Tryz.f274.name,by decide,func274.trans (congrArg some (by kernel_rfl))⟩
 f50:=⟨Tryz.f275.name,by decide,func275.trans (congrArg some (by kernel_rfl))⟩
 f57:=⟨Tryz.f296.name,by decide,func296.trans (congrArg some (by kernel_rfl))⟩
 t0:=Tryz.underlying0
 a0:=Tryz.isAgg0
 z0:=Tryz.sizeOf0
 v0:=Tryz.zeroValue0
 t3:=Tryz.underlying3
 a3:=Tryz.isAgg3
 z3:=Tryz.sizeOf3
 v3:=Tryz.zeroValue3
 t4:=Tryz.underlying4
 a4:=Tryz.isAgg4
 z4:=Tryz.sizeOf4
 v4:=Tryz.zeroValue4
 t5:=Tryz.underlying5
 a5:=Tryz.isAgg5
 z5:=Tryz.sizeOf5
 v5:=Tryz.zeroValue5
 t9:=Tryz.underlying9
 a9:=Tryz.isAgg9
 z9:=Tryz.sizeOf9
 v9:=Tryz.zeroValue9
 t22:=Tryz.underlying46
 a22:=Tryz.isAgg46
 z22:=Tryz.sizeOf46
 v22:=Tryz.zeroValue46
 t25:=Tryz.underlying116
 a25:=Tryz.isAgg116
 z25:=Tryz.sizeOf116
 v25:=Tryz.zeroValue116
 t39:=Tryz.underlying59
 a39:=Tryz.isAgg59
 z39:=Tryz.sizeOf59
 v39:=Tryz.zeroValue59
 t45:=Tryz.underlying221
 a45:=Tryz.isAgg221
 z45:=Tryz.sizeOf221
 v45:=Tryz.zeroValue221
 t46:=Tryz.underlying222
 a46:=Tryz.isAgg222
 z46:=Tryz.sizeOf222
 v46:=Tryz.zeroValue222
 t50:=Tryz.underlying226
 a50:=Tryz.isAgg226
 z50:=Tryz.sizeOf226
 v50:=Tryz.zeroValue226
 t53:=Tryz.underlying69
 a53:=Tryz.isAgg69
 z53:=Tryz.sizeOf69
 v53:=Tryz.zeroValue69
 t55:=Tryz.underlying27
 a55:=Tryz.isAgg27
 z55:=Tryz.sizeOf27
 v55:=Tryz.zeroValue27
 t66:=Tryz.underlying253
 a66:=Tryz.isAgg253
 z66:=Tryz.sizeOf253
 v66:=Tryz.zeroValue253
 t70:=Tryz.underlying256
 a70:=Tryz.isAgg256
 z70:=Tryz.sizeOf256
 v70:=Tryz.zeroValue256
 t76:=Tryz.underlying280
 a76:=Tryz.isAgg280
 z76:=Tryz.sizeOf280
 v76:=Tryz.zeroValue280
 t77:=Tryz.underlying57
 a77:=Tryz.isAgg57
 z77:=Tryz.sizeOf57
 v77:=Tryz.zeroValue57 }
def NH:Go.Shelf.Ren:=⟨fun|288=>96|283=>138|284=>139|285=>140|286=>141|129=>185|317=>186|318=>187|319=>188|320=>189|337=>236|338=>237|n=>n,fun|37=>32|53=>27|3=>3|4=>4|9=>9|171=>193|0=>0|173=>195|212=>230|51=>69|5=>5|20=>20|213=>231|46=>59|232=>282|233=>283|n=>n,fun|17=>1|18=>2|19=>3|n=>n⟩
theorem apU:LaysM.n288 prog NH:={
 mixed:=by kernel_rfl
 f129:=func185.trans (congrArg some (by kernel_rfl))
 f283:=func138.trans (congrArg some (by kernel_rfl))
 f284:=func139.trans (congrArg some (by kernel_rfl))
 f285:=func140.trans (congrArg some (by kernel_rfl))
 f286:=func141.trans (congrArg some (by kernel_rfl))
 f288:=func96.trans (congrArg some (by kernel_rfl))
 f317:=func186.trans (congrArg some (by kernel_rfl))
 f318:=func187.trans (congrArg some (by kernel_rfl))
 f319:=func188.trans (congrArg some (by kernel_rfl))
 f320:=func189.trans (congrArg some (by kernel_rfl))
 f337:=func236.trans (congrArg some (by kernel_rfl))
 f338:=func237.trans (congrArg some (by kernel_rfl))
 t0:=Tryz.underlying0
 a0:=Tryz.isAgg0
 z0:=Tryz.sizeOf0
 v0:=Tryz.zeroValue0
 t3:=Tryz.underlying3
 a3:=Tryz.isAgg3
 z3:=Tryz.sizeOf3
 v3:=Tryz.zeroValue3
 t4:=Tryz.underlying4
 a4:=Tryz.isAgg4
 z4:=Tryz.sizeOf4
 v4:=Tryz.zeroValue4
 t5:=Tryz.underlying5
 a5:=Tryz.isAgg5
 z5:=Tryz.sizeOf5
 v5:=Tryz.zeroValue5
 t9:=Tryz.underlying9
 a9:=Tryz.isAgg9
 z9:=Tryz.sizeOf9
 v9:=Tryz.zeroValue9
 t20:=Tryz.underlying20
 a20:=Tryz.isAgg20
 z20:=Tryz.sizeOf20
 v20:=Tryz.zeroValue20
 t37:=Tryz.underlying32
 a37:=Tryz.isAgg32
 z37:=Tryz.sizeOf32
 v37:=Tryz.zeroValue32
 t46:=Tryz.underlying59
 a46:=Tryz.isAgg59
 z46:=Tryz.sizeOf59
 v46:=Tryz.zeroValue59
 t51:=Tryz.underlying69
 a51:=Tryz.isAgg69
 z51:=Tryz.sizeOf69
 v51:=Tryz.zeroValue69
 t53:=Tryz.underlying27
 a53:=Tryz.isAgg27
 z53:=Tryz.sizeOf27
 v53:=Tryz.zeroValue27
 t171:=Tryz.underlying193
 a171:=Tryz.isAgg193
 z171:=Tryz.sizeOf193
 v171:=Tryz.zeroValue193
 t173:=Tryz.underlying195
 a173:=Tryz.isAgg195
 z173:=Tryz.sizeOf195
 v173:=Tryz.zeroValue195
 t212:=Tryz.underlying230
 a212:=Tryz.isAgg230
 z212:=Tryz.sizeOf230
 v212:=Tryz.zeroValue230
 t213:=Tryz.underlying231
 a213:=Tryz.isAgg231
 z213:=Tryz.sizeOf231
 t232:=Tryz.underlying282
 a232:=Tryz.isAgg282
 z232:=Tryz.sizeOf282
 v232:=Tryz.zeroValue282
 t233:=Tryz.underlying283
 a233:=Tryz.isAgg283
 z233:=Tryz.sizeOf283
 v233:=Tryz.zeroValue283
 g17:=by kernel_rfl
 g18:=by kernel_rfl
 g19:=by kernel_rfl
 i0:=by kernel_rfl
 i3:=by kernel_rfl
 i4:=by kernel_rfl
 i5:=by kernel_rfl
 i9:=by kernel_rfl
 i20:=by kernel_rfl
 i37:=by kernel_rfl
 i46:=by kernel_rfl
 i51:=by kernel_rfl
 i53:=by kernel_rfl
 i171:=by kernel_rfl
 i173:=by kernel_rfl
 i212:=by kernel_rfl
 i232:=by kernel_rfl
 i233:=by kernel_rfl
 m17:=by kernel_rfl
 m18:=by kernel_rfl
 m19:=by kernel_rfl }
end Go.Proofs.YtkfmheelhinjdaaGreatDoor
namespace Go.Proofs.YtkfmheelhinjdaaGreatDoor.W
open _root_.Go.Proofs.Tryz
open Go.RowKit Go.Sort
set_option linter.unusedVariables false
set_option maxHeartbeats 8000000
set_option maxRecDepth 6000
def aX(x y:Nat):Int:=if x<y then -1 else if y<x then 1 else 0
theorem mR(x y:Nat):ltOf aX x y=decide (x<y):=by
 unfold ltOf aX;by_cases h1:x<y
 ·simp[h1]
 ·by_cases h2:y<x <;> simp[h1,h2]
theorem uW:SWO (ltOf aX) where
 irrefl x:=by rw[mR];simp
 trans x y z h1 h2:=by rw[mR] at *;simp at *;omega
 ntrans x y z h1 h2:=by rw[mR] at *;simp at *;omega
theorem uU(x y:Nat)(h1:ltOf aX x y=false)(h2:ltOf aX y x=false):x=y:=by
 rw[mR] at h1 h2;simp at h1 h2;omega
theorem xN(x:Nat)(w:World):Calls prog 95 #[eU x] w fun e w'=>e=.returned (.bool false)/\w'=w:=by
 go_enter func95,ntmps95;go_wp2
 go_ret;exact⟨by simp,rfl⟩
theorem uI(x y:Nat)(w:World):Calls prog 56 #[eU x,eU y] w fun e w'=>e=.returned (.int .i64 (aX x y))/\w'=w:=by
 have N1:=aA (fun W=>xN x W);have N2:=aA (fun W=>xN y W);rcases Nat.lt_trichotomy x y with h|h|h
 ·have hi:(x:Int)<y:=by omega
  have E:=aA (show aX x y = -1 by unfold aX;rw[if_pos h]);rw[E.out];clear h;go_enter func56,ntmps56;go_wp2_with fail;refine(N1.out _).mono ?_;rintro e w1 ⟨rfl,rfl⟩;go_wp2_with fail;refine(N2.out _).mono ?_;rintro e w1 ⟨rfl,rfl⟩;go_wp2_with fail;go_ret;exact⟨rfl,rfl⟩
 ·subst h;have hi:¬(x:Int)<x:=by omega
  have E:=aA (show aX x x=0 by unfold aX;simp);rw[E.out];go_enter func56,ntmps56;go_wp2_with fail;refine(N1.out _).mono ?_;rintro e w1 ⟨rfl,rfl⟩;go_wp2_with fail;refine(N2.out _).mono ?_;rintro e w1 ⟨rfl,rfl⟩;go_wp2_with fail;go_ret;exact⟨rfl,rfl⟩
 ·have hi:¬(x:Int)<y:=by omega
  have hi2:(y:Int)<x:=by omega
  have E:=aA (show aX x y=1 by unfold aX;rw[if_neg (by omega),if_pos h]);rw[E.out];clear h;go_enter func56,ntmps56;go_wp2_with fail;refine(N1.out _).mono ?_;rintro e w1 ⟨rfl,rfl⟩;go_wp2_with fail;refine(N2.out _).mono ?_;rintro e w1 ⟨rfl,rfl⟩;go_wp2_with fail;go_ret;exact⟨rfl,rfl⟩
theorem LC(blk off size:Nat)(w:World):CmpReads prog 56 #[] eU aX blk off size w:=
 fun _ _ _ _ x y=>(uI x y _).mono fun _ _ ⟨he,hw⟩=>⟨he,0,hw⟩
theorem GS.sorted{α : Type}[Inhabited α]{enc : α->Value}{w0 W:World}{e:TypeId}{gb cap:Nat}{l:List α}(h:GS w0 W e 1 (.slice (some ⟨gb,0,none⟩) l.length cap) l.length (l.map enc)):
  Holds enc W gb 0 l.toArray/\gb<W.heap.size/\∀ n (l2:List α) os,l2.length=l.length->
   GS w0 (sortWorld enc W gb 0 n l2.toArray os) e 1 (.slice (some ⟨gb,0,none⟩) l2.length cap) l2.length (l2.map enc)/\Kt (fun x=>x=gb) W (sortWorld enc W gb 0 n l2.toArray os):=by
 rcases h.own.2 with ⟨h0,_⟩|⟨g,cap',cur,hv,hb,hg,hnc,hcm,hcs,htake⟩
 ·cases h0
 simp only[Value.slice.injEq,Option.some.injEq,Addr.mk.injEq,true_and,and_true] at hv;obtain⟨rfl,rfl⟩:=hv;have hgl:=lH hg;refine⟨fun j hj=>?_,hgl,fun n l2 os hl2=>?_⟩
 ·have hj':j<l.length:=by simpa using hj
  have e1:(l.map enc)[j]?=some (enc l[j]):=by rw[List.getElem?_map,List.getElem?_eq_getElem hj'];rfl
  rw[<-htake,List.getElem?_take] at e1;split at e1
  ·constructor
   ·rw[Nat.zero_add];simp only[World.cell?,hg];rw[<-Array.getElem?_toList,e1];simp[hj']
   ·simp[World.frozen?,hg]
  ·cases e1
 ·have hk:Kt (fun x=>x=gb) W (sortWorld enc W gb 0 n l2.toArray os):=by
   refine⟨rfl,rfl,rfl,?_,fun i hi hne=>?_⟩
   ·show W.heap.size<=(grow _ _).heap.size
    rw[size_grow,size_putRow];exact Nat.le_add_right _ _
   ·show(grow (putRow enc (Sort.ahead W n) gb 0 l2.toArray) os).heap[i]?=_
    rw[heap_grow_old _ _ (by rw[size_putRow];exact hi)];show(W.heap.modify gb _)[i]?=_
    rw[Array.getElem?_modify,if_neg (fun e=>hne e.symm)]
  refine⟨⟨⟨by simp,.inr ⟨gb,cap,putCells enc 0 l2.toArray cur,rfl,Nat.zero_le _,?_,by omega,hcm,by simp[putCells,hcs],?_⟩⟩,fun g c e=>h.new g c (by rw[<-hl2];exact e),h.kp.trans hk (fun _ _ e=>e) (fun x hx e=>?_)⟩,hk⟩
  ·show(grow (putRow enc (Sort.ahead W n) gb 0 l2.toArray) os).heap[gb]?=_
   rw[heap_grow_old _ _ (by rw[size_putRow];exact hgl)];show(W.heap.modify gb _)[gb]?=_
   rw[Array.getElem?_modify,if_pos rfl,hg];rfl
  ·have hcl:l2.length<=cur.size:=(by omega);apply List.ext_getElem?
   intro j;rw[List.getElem?_take,List.getElem?_map];by_cases hj:j<l2.length
   ·rw[if_pos (by omega),List.getElem?_eq_getElem hj,Array.getElem?_toList];unfold putCells;rw[Array.getElem?_mapIdx,Array.getElem?_eq_getElem (by omega)];simp[hj]
   ·rw[if_neg (by omega),List.getElem?_eq_none (by omega)];rfl
  ·have:=h.new gb cap rfl
   cases e
   omega
set_option maxHeartbeats 8000000
set_option maxRecDepth 6000
theorem zH:(prog.info? 27).map (fun i=>(i.zero,i.size,i.bytes))=some (some (.int .u64 0),1,8):=by kernel_rfl
abbrev UX(w0 W:World)(v:Value)(l:List Nat):Prop:=GS w0 W 27 1 v l.length (l.map eU)
theorem UX.push{w0 W:World}{v:Value}{l:List Nat}(h:UX w0 W v l)(b:Nat)(hn:l.length<8796093022208):
  ∃ g cap w',(∀ t,(Builtin.append_ #[35,35] t #[v,.slice (some ⟨W.heap.size,0,none⟩) 1 1]).run prog (W.alloc (.cells #[.int .u64 b] 27))=.ok (.slice (some ⟨g,0,none⟩) (l.length + 1) cap) w')/\UX w0 w' (.slice (some ⟨g,0,none⟩) (l.length + 1) cap) (l ++ [b])/\Kt (fun b=>v.ownBlock=some b) W w':=by
 obtain⟨i,hi,hzz⟩:=Option.map_eq_some_iff.1 zH;simp only[Prod.mk.injEq] at hzz;have ka:=(Kt.refl nO W).alloc (.cells #[.int .u64 b] 27);obtain⟨g,cap,w',h1,h2,h5,h6,h7⟩:=(GS.keep h ka).pushM 35 i (.int .u64 0) 8 Tryz.underlying35 hi hzz.1 hzz.2.1 hzz.2.2 rfl (by decide) ⟨W.heap.size,0,none⟩ 1 1 (by decide) [.int .u64 b] rfl (fun j u hj=>mK (cs:=#[.int .u64 b]) j u hj) (by simp[Value.oneCell']) (by simp only[maxLen];omega) (by omega);refine⟨g,cap,w',h1,?_,ka.trans h6 (fun _ _ e=>e.elim) (fun _ _ e=>e)⟩;show GS _ _ _ _ _ (l ++ [b]).length ((l ++ [b]).map eU)
 rw[List.length_append,List.map_append];exact h2
structure SrI(w W:World)(g r:Nat)(D:List Nat)(c:Nat->Nat)(done rest:List Nat)(v:Value):Prop where
 rg:RC eU W g r D c rest
 pm:D.Perm (done ++ rest)
 gs:UX w W v done
 gl:g<w.heap.size
 rn:w.heap.size<=r
theorem UX.ty{w0 W:World}{v:Value}{l:List Nat}(h:UX w0 W v l){x:Nat}(hx:v.ownBlock=some x):(∃ cs,W.heap[x]?=some (.cells cs 27 (0,0)))/\w0.heap.size<=x:=by
 rcases h.own.2 with ⟨rfl,_⟩|⟨g,cap,cur,rfl,hb,hg,h3⟩
 ·simp[Value.ownBlock] at hx
 ·simp[Value.ownBlock] at hx;rw[<-hx];exact⟨⟨cur,hg⟩,h.new g cap rfl⟩
theorem RC.iter{α : Type}{enc : α->Value}{w:World}{b r:Nat}{D rest:List α}{c : α->Nat}(h:RC enc w b r D c rest):∃ m s n q,w.heap[r]?=some (.mapIter m s n q):=by
 obtain⟨es,clock,since,seen,c0,hb,hst,hL,hr,-⟩:=h;exact⟨_,_,_,_,hr⟩
theorem UX.iter{w W W':World}{v:Value}{l:List Nat}{r:Nat}(h:UX w W v l)(hk:Kt (fun x=>x=r) W W')(hr:w.heap.size<=r)(hi:∃ m s n q,W.heap[r]?=some (.mapIter m s n q)):UX w W' v l:=by
 refine⟨⟨h.own.1,?_⟩,h.new,h.kp.trans hk (fun _ _ e=>e) (fun x hx e=>by omega)⟩;rcases h.own.2 with h0|⟨g,cap,cur,rfl,hb,hg,h3⟩
 ·exact .inl h0
 ·refine .inr ⟨g,cap,cur,rfl,hb,(hk.block g (lH hg) (fun e=>?_)).trans hg,h3⟩;subst e;obtain⟨_,_,_,_,q2⟩:=hi;rw[hg] at q2
  cases q2
theorem SrI.next{w W w1 w2:World}{g r:Nat}{D:List Nat}{c:Nat->Nat}{done rest rest':List Nat}{v v':Value}{x:Nat}(h:SrI w W g r D c done rest v)(hp:rest.Perm (x :: rest'))(hr:RC eU w1 g r D c rest')(g1:UX w w1 v done)(k2:Kt (fun b=>v.ownBlock=some b) w1 w2)(g2:UX w w2 v' (done ++ [x])):SrI w w2 g r D c (done ++ [x]) rest' v':=by
 refine⟨hr.kept k2 (fun e=>?_) (fun e=>?_),h.pm.trans ?_,g2,h.gl,h.rn⟩
 ·have:=(g1.ty e).2;have:=h.gl;omega
 ·obtain⟨⟨cs,q⟩,-⟩:=g1.ty e;obtain⟨_,_,_,_,q2⟩:=RC.iter hr;rw[q] at q2
  cases q2
 ·rw[List.append_assoc];exact List.Perm.append_left _ hp
def SoP(w:World)(D:List Nat)(e:Ending)(w':World):Prop:=∃ oa oc,∃ ks:List Nat,e=.returned (.slice oa ks.length oc)/\UX w w' (.slice oa ks.length oc) ks/\ks.Perm D/\ks.Pairwise (·<=·)
theorem VN(g:Nat)(D:List Nat)(c:Nat->Nat)(w:World)(hm:MC eU gI w g D c)(hl:D.length<8796093022208):
  Calls prog 55 #[.map (some g),.func (.func 56) #[] #[]] w (SoP w D):=by
 have eg:∀ args w,(callFunc 56 args).run prog w=.ok (.enter 56 args) w:=enters_of func56 (by kernel_rfl) rfl;obtain⟨n,hn⟩:=xe (D.length);rw[<-hn] at hl;obtain⟨i,hi,hzz⟩:=Option.map_eq_some_iff.1 zH;simp only[Prod.mk.injEq] at hzz;obtain⟨w1,mk1,own1,gr1⟩:=run_make_own (P:=prog) w 0 35 27 i (.int .u64 0) 1 Tryz.underlying35 hi hzz.1 hzz.2.1 .i64 .i64 n (by rw[hzz.2.2];omega) (by unfold maxLen;omega) (Nat.zero_le _);have K1:=aA (show Kt nO w w1 from(kX gr1).mono fun _ _ e=>by cases e);have G1:=aA (show UX w w1 (.slice (some ⟨w.heap.size,0,none⟩) 0 n) [] from⟨own1,fun g cap e=>by simp at e;omega,K1.out⟩);have M0:=aA hm;have M1:=aA (hm.kept K1.out (fun x=>x));have GL:=aA hm.ltsz;have HN:=aA hn;have len0:∀ ty,(Builtin.len_ #[106] ty #[.map (some g)]).run prog w=.ok (.int .i64 n) w:=fun ty=>by rw[hn];exact hm.len Tryz.underlying106 ty
 clear hi hzz own1 gr1 hm hn;go_enter func55,ntmps55;go_wp2_with (first|(at_range;refine tP _ rfl _ 106 rfl 27 3 Tryz.underlying106 g rfl M1.out ?_;intro w0 hrg0 hk0 hs0))
 have I0:=aA (show SrI w w0 g w1.heap.size D c [] D (.slice (some ⟨w.heap.size,0,none⟩) 0 n)from⟨hrg0,by simp,G1.out.keep (hk0.mono fun _ _ e=>e.elim),GL.out,K1.out.size⟩);generalize w1.heap.size=rx at *;clear hrg0 hk0 hs0 mk1 len0;simp only[Act.put,List.setIfInBounds_toArray,List.set_cons_succ,List.set_cons_zero];go_loopw [5] (fun tv W=>∃ (done rest:List Nat) (gb cap:Nat),tv=.slice (some ⟨gb,0,none⟩) done.length cap/\Hid (SrI w W g rx D c done rest (.slice (some ⟨gb,0,none⟩) done.length cap))) (fun _ W=>W.rangeLeft g rx)
 case atStart=>exact⟨[],D,_,n,rfl,I0⟩
 case round=>
  clear I0 K1 M1 G1 M0;obtain⟨done,rest,gb,cap,rfl,HI⟩:=hrel;have HRL:=aA HI.out.rg.left_eq;have DL:=aA (show done.length+rest.length=n by have:=HI.out.pm.length_eq;rw[List.length_append] at this;rw[HN.out];omega);go_wp2_with (first|(at_next;refine tN _ rfl _ rfl g rx rest rfl HI.out.rg ?_ ?_))
  ·intro hd;obtain⟨hH,hgl,hS⟩:=GS.sorted HI.out.gs;have hcon:=Any.slices_SortFunc_total EA eU (fun _=>rfl) aX uW 56 #[] gb 0 cap done.toArray wr eg (LC gb 0 _ wr).lays hH hgl (by have:=DL.out;simp;omega) uU;obtain⟨ks,hks⟩:=xe (done.mergeSort fun x y=>!(ltOf aX) y x);have SC:=aA (show Calls prog 94 #[.slice (some ⟨gb,0,none⟩) done.length cap,.func (.func 56) #[] #[]] wr fun e w'=>e=.returned (.tuple #[])/\∃ n os,w'=sortWorld eU wr gb 0 n ks.toArray os from by rw[hks];exact hcon);have KL:=aA (show ks.length=done.length by rw[hks,List.length_mergeSort]);have KP:=aA (show ks.Perm D by
    rw[hks];have:=HI.out.pm;rw[hd,List.append_nil] at this;exact(List.mergeSort_perm _ _).trans this.symm)
   have KW:=aA (show ks.Pairwise (·<=·)by
    rw[hks];have:=List.pairwise_mergeSort (le:=fun x y=>!(ltOf aX) y x) (fun a b c h1 h2=>by simp only[mR] at *;simp at *;omega) (fun a b=>by simp only[mR];simp;omega) done;refine this.imp fun {a b} h=>?_
    rw[mR] at h;simpa using h)
   have HS:=aA (fun n os=>hS n ks os KL.out);clear hcon hH hgl hS hks hd;go_wp2_with fail;refine SC.out.mono ?_;rintro e w9 ⟨rfl,q,os,rfl⟩;have FIN:=aA (HS.out q os).1;generalize sortWorld eU wr gb 0 q ks.toArray os=W9 at *;rw[<-KL.out];go_wp2_with fail;go_ret;exact⟨_,_,ks,rfl,FIN.out,KP.out,KW.out⟩
  ·intro x rest' w2 hp hrg hk hz hen;have G2:=aA (UX.iter HI.out.gs hk HI.out.rn (RC.iter HI.out.rg));have RL:=aA (show rest.length=rest'.length+1 by rw[hp.length_eq];rfl);obtain⟨g4,cap4,w4,ap4,t4,k4⟩:=UX.push G2.out x (by have:=DL.out;omega);have AP4:=aA ap4;have N4:=aA (HI.out.next hp hrg G2.out k4 t4);clear hp hrg hk ap4 t4 k4 hz;go_wp2_with (at_builtin;refine Lib.wpList_append_run _ rfl _ _ _ _ rfl (.slice (some ⟨gb,0,none⟩) done.length cap) _ rfl rfl _ _ (AP4.out _) ?_)
   refine⟨⟨done ++ [x],rest',g4,cap4,by simp,aA (by have:=N4.out;simpa using this)⟩,?_⟩;have h1:=N4.out.rg.left_eq;have h2:=RL.out;have h3:=HRL.out;omega
end Go.Proofs.YtkfmheelhinjdaaGreatDoor.W
namespace Go.Proofs.YtkfmheelhinjdaaGreatDoor.W
open _root_.Go.Proofs.Tryz
open Go.RowKit
set_option linter.unusedVariables false
theorem IE(t e:TypeId)(z:Value)(size bytes:Nat)(hu:prog.underlying t=some (.slice e))(hi:(prog.info? e).map (fun i=>(i.zero,i.size,i.bytes))=some (some z,size,bytes))(hz:z.cells.size=size)(n:Nat)(hb:n*bytes<=140737488355328)(hn:n<=9223372036854775807)(s:Nat)(w:World)(hs:s<w.heap.size):
  ∃ w1,(Instr.makeSlice t (.int .i64 n) (.int .i64 n)).run prog w=.ok (.slice (some ⟨w.heap.size,0,none⟩) n n) w1/\XR s w1 (.slice (some ⟨w.heap.size,0,none⟩) n n) n e (n*size) (fun j=>z.cells[j%size]!)/\Kt nO w w1/\w1.heap.size=w.heap.size+1:=by
 obtain⟨i,hi',hzz⟩:=Option.map_eq_some_iff.1 hi;simp only[Prod.mk.injEq] at hzz;have hbi:(i.bytes:Int)*(n:Int)<=281474976710656:=by
  rw[hzz.2.2,show((bytes:Int)*(n:Int))=((n*bytes:Nat):Int)by rw[Int.natCast_mul,Int.mul_comm]];omega
 have hr:=run_make (P:=prog) w t e i z hu hi' hzz.1 .i64 .i64 (n:Int) (n:Int) (by omega) (Int.le_refl _) hbi (by omega);simp only[Int.toNat_natCast] at hr;refine⟨_,hr,⟨_,_,hs,rfl,nH w _,by rw[size_madeCells,hzz.2.1],fun j hj=>?_⟩,(Kt.refl nO w).alloc _,by simp⟩;rw[hzz.2.1];simp only[madeCells];rw[Array.getElem?_map,Array.getElem?_range,if_pos hj,Option.map_some,hz]
set_option maxHeartbeats 8000000
set_option maxRecDepth 6000
set_option maxHeartbeats 8000000
set_option maxRecDepth 6000
theorem oC{W:World}{g p s:Nat}(h:W.heap[g]?=some (cG p s)):W.cell? ⟨g,0,none⟩=some (.int .u64 p)/\W.cell? ⟨g,1,none⟩=some (.int .u64 s):=by
 constructor <;> simp[World.cell?,h,cG]
theorem xE(v:Value)(l:List (Nat×Nat))(w:World)(hl:l.length<=281474976710656)(hb:∀ b∈l,fY b)(hv:RBk w v l):
  Calls prog 58 #[v,.func (.func 59) #[] #[]] w (lG eB fY w l):=by
 have HV:=aA hv;obtain⟨va,vc,hv1,-⟩:=hv;obtain⟨n,hn⟩:=xe (l.length);obtain⟨xs,hxs⟩:=xe (l);rw[<-hn] at hl hv1;have HN:=aA (show xs.length=n by rw[hxs,hn]);have RW:=aA (show ∀ W,Kt nO w W->∀ j,j<n->∃ bl,∃ p s:Nat,va=some ⟨bl,0,none⟩/\xs[j]?=some (p,s)/\fY (p,s)/\W.cell? ⟨bl,j*2,none⟩=some (.int .u64 p)/\W.cell? ⟨bl,j*2+1,none⟩=some (.int .u64 s)from fun W hW j hj=>by
  obtain⟨oa,oc,q1,q2⟩:=HV.out;rw[hv1] at q1
  cases q1
  rcases q2 with q2|⟨g,rfl,hg,hc⟩
  ·rw[hn,q2] at hj;simp at hj
  have hd:l.getD j (0,0)=l[j]'(hn▸hj):=by rw[List.getD_eq_getElem?_getD,List.getElem?_eq_getElem (hn▸hj)];rfl
  refine⟨g,(l.getD j (0,0)).1,(l.getD j (0,0)).2,rfl,?_,?_,hW.cell (fun x=>x) (hc j (by omega)).1,hW.cell (fun x=>x) (hc j (by omega)).2⟩
  ·rw[hxs,hd,List.getElem?_eq_getElem (hn▸hj)]
  ·rw[hd];exact hb _ (List.getElem_mem _))
 rw[<-hxs];clear hxs HV hn hb;subst hv1;have hmk:∀ w,(Instr.makeMap 112 none).run prog w=.ok (.map (some w.heap.size)) (w.alloc (.map #[] 0)):=fun w=>run_makeMap _ w
 have I0:=aA (show TaI eB fY w (w.alloc (.map #[] 0)) w.heap.size xs 0 [] from TaI.start w);go_enter func58,ntmps58;go_wp2_with fail;generalize w.alloc (.map #[] 0)=W1 at *;generalize hgx:w.heap.size=gx at *;clear hmk;go_loopw [11] (fun i W=>∃ a D,a<=n/\i=.int .i64 ((a:Nat):Int)/\Hid (TaI eB fY w W gx xs a D)) (fun i _=>n-(intOf i).toNat)
 case atStart=>exact⟨0,[],Nat.zero_le _,rfl,I0⟩
 case round=>
  clear I0;obtain⟨a,D,ha,rfl,HI⟩:=hrel;by_cases hlt:a<n
  ·have hai:(a:Int)<n:=(by omega);obtain⟨bl,p,s,rfl,hs,h64,r0,r1⟩:=RW.out wr HI.out.k a hlt;have KS:=aA (fun W=>TY (p,s) W);have HS:=aA hs;have H64:=aA h64;have GXL:=aA (HI.out.m.ltsz);clear hs h64;go_upto_region 5 with fail;have KB:=aA ((Kt.refl nO wr).alloc (cG p s));have PB:=aA (nH wr (cG p s));have M2:=aA (HI.out.m.kept KB.out (fun x=>x));generalize wr.alloc (cG p s)=W2 at *;have AT:=aA (TaI.at HI.out HS.out);obtain⟨c,hc⟩:∃ c,(xs.take a).count (p,s)=c:=⟨_,rfl⟩;have hcn:c<=n:=by
    rw[<-hc];exact Nat.le_trans List.count_le_length (by rw[List.length_take];omega)
   have HC:=aA hc;have hc1:wrap64 ((c:Int)+1)=((c+1:Nat):Int):=(by rw[wrap64];omega);have hc2:IntKind.i64.wrap ((c:Int)+1)=((c+1:Nat):Int):=(by rw[IntKind.wrap_i64];omega);have A1:=aA (AT.out.1.trans (congrArg (·+1) hc));have DL:=aA (show D.length<maxLen from by have:=HI.out.le;unfold maxLen;omega);have NX:=aA (fun W' m k=>TaI.next HI.out HS.out (W':=W') m k);have NG:=aA (show wr.heap.size≠gx from fun e=>by have:=GXL.out;omega);generalize wr.heap.size=gb at *;clear hc r0 r1;refine rX (by kernel_rfl) (fun v=>⟨#[.slice (some ⟨bl,0,none⟩) n vc,.func (.func 59) #[] #[],undef,undef,.map none,.map (some gx),undef,.pointer (some ⟨gb,0,none⟩),.map (some gx),.slice (some ⟨bl,0,none⟩) n vc,.int .i64 n,.int .i64 a,.bool true,.pointer (some ⟨bl,a*2,none⟩),.agg #[.int .u64 p,.int .u64 s],v 0,v 1,v 2,v 3,v 4,v 5,v 6,v 7,u23,undef],[]⟩) (fun i=>[u15,u16,u17,u18,u19,u20,u21,u22].getD i undef) (GmP eB fY gx D (fun x=>(xs.take a).count x) (p,s)) (fun _ _ _=>GmP.trans) (fun i=>(gV eB gx (p,s) (.func (.func 59) #[] #[]) (.agg #[.int .u64 p,.int .u64 s]) c).getD i bX) (fun i=>xY i) 8 rfl (by kernel_rfl) (by kernel_rfl) GmP.drew ?_ ?_
   ·intro i o ho hi v W kW hd;obtain⟨D',M',eD⟩:=(kW.m ⟨D,.inl rfl,M2.out⟩).add;have PW:=aA ((kW.k.block _ (lH PB.out) NG.out).trans PB.out);match i,hi with
    | 0,_=>
     clear hd ho;refine aO rfl ?_;go_wp2_with fail;exact⟨.map (some gx),(by simp[aB]),rfl,GmP.rfl'⟩
    | 1,_=>
     clear hd ho;refine aO rfl ?_;go_wp2_with fail;exact⟨.func (.func 59) #[] #[],(by simp[aB]),rfl,GmP.rfl'⟩
    | 2,_=>
     clear hd ho;obtain⟨c0,c1⟩:=oC PW.out;refine aO rfl ?_;go_wp2_with fail;exact⟨.agg #[.int .u64 p,.int .u64 s],(by simp[aB]),rfl,GmP.rfl'⟩
    | 3,_=>
     have e1:v 1=.func (.func 59) #[] #[]:=hd 1 (by kernel_rfl);have e2:v 2=.agg #[.int .u64 p,.int .u64 s]:=hd 2 (by kernel_rfl);clear hd ho;refine aO rfl ?_;go_wp2_with (go_at_call 59;(refine(KS.out _).mono ?_);rintro e wX ⟨rfl,h1⟩;have KX:=aA h1;clear h1)
     exact⟨eB (p,s),(by simp[aB,e1,e2]),rfl,GmP.of_kept KX.out⟩
    | 4,_=>
     have e0:v 0=.map (some gx):=hd 0 (by kernel_rfl);have e3:v 3=eB (p,s):=hd 3 (by kernel_rfl);clear hd ho;refine aO rfl ?_;refine oP W rfl (.tmp 15) (.tmp 18) 112 rfl 45 3 jR Tryz.underlying112 (kV W) gx e0 M' (p,s) H64.out e3 c HC.out ?_;go_wp2_with fail;exact⟨dF c,(by simp[aB,Act.put,e0,e3]),rfl,GmP.rfl'⟩
    | 5,_=>
     have e4:v 4=dF c:=hd 4 (by kernel_rfl);clear hd ho;refine aO rfl ?_;go_wp2_with fail;exact⟨dF (c+1),(by simp[aB,e4]),rfl,GmP.rfl'⟩
    | 6,_=>
     have e0:v 0=.map (some gx):=hd 0 (by kernel_rfl);have e3:v 3=eB (p,s):=hd 3 (by kernel_rfl);clear hd ho;refine aO rfl ?_;refine yZ W rfl (.tmp 15) (.tmp 18) 112 rfl 45 3 jR Tryz.underlying112 kV gx e0 M' (p,s) H64.out e3 ?_;intro wX v0 st m1 en1 ol1 k1;have GG:=aA (show GmP eB fY gx D (fun x=>(xs.take a).count x) (p,s) W wX from⟨k1,fun _=>⟨_,.inr rfl,eD▸m1⟩,ol1⟩);have EN:=aA en1;clear m1 en1 ol1 k1 M' eD;go_wp2_with fail;exact⟨.tuple #[v0,goInt ((st:Nat):Int)],(by simp[aB,Act.put,e0,e3]),⟨v0,st,rfl,EN.out⟩,GG.out⟩
    | 7,_=>
     obtain⟨v0,st,e6,en⟩:=(show jX eB gx (p,s) (v 6) W from hd 6 (by kernel_rfl));have EN:=aA en;clear hd ho en;refine aO rfl ?_;go_wp2_with fail;exact⟨goInt ((st:Nat):Int),(by simp[aB,e6,goInt]),⟨st,rfl,EN.out⟩,GmP.rfl'⟩
   ·intro o ho v W kW hd;obtain⟨D',M',eD⟩:=(kW.m ⟨D,.inl rfl,M2.out⟩).add;have e0:v 0=.map (some gx):=hd 0 (by decide);have e5:v 5=dF (c+1):=hd 5 (by decide);obtain⟨st,e7,en⟩:=(show jW eB gx (p,s) (v 7) W from hd 7 (by decide));have K9:=aA (nT HI.out.k KB.out);have K8:=aA kW.k;clear hd ho kW;refine aO rfl ?_;refine xB W rfl (.tmp 15) (.tmp 22) (.tmp 20) 112 rfl 45 jR gx st e0 e7 M' (p,s) H64.out en (c+1) (fun y=>(xs.take (a+1)).count y) A1.out AT.out.2 e5 ?_;intro w3 m3 hin k3;have M3:=aA (show MC eB fY w3 gx (aY D (p,s)) (fun y=>(xs.take (a+1)).count y)from by rw[<-eD,qV hin];exact m3);have K3:=aA (sO K9.out (K8.out.trans k3 (fun _ _ e=>e) (fun _ _ e=>e)) HI.out.nw);clear m3 k3 M' eD en hin e7;go_wp2_with fail;refine⟨⟨a+1,_,by omega,by simp,aA (NX.out w3 M3.out K3.out)⟩,by simp[intOf];omega⟩
  ·have hae:a=n:=(by omega);have hai:¬(a:Int)<n:=(by omega);have FIN:=aA (show lG eB fY w xs (.returned (.map (some gx))) wr from by
    have h:=HI.out;rw[hae,<-HN.out] at h;exact h.done)
   clear HI;go_wp2_with fail;go_ret;exact FIN.out
end Go.Proofs.YtkfmheelhinjdaaGreatDoor.W
