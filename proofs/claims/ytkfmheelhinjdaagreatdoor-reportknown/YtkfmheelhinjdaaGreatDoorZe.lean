import Derived.Test.YtkfmheelhinjdaaGreatDoorZd
import Derived.Deep.OwnRows
import Derived.ArgAppend
import Derived.Laws.OwnMore
import Derived.Maps.AppendAt
import Derived.Lib.AppendZeros
import Derived.Test.YtkfmheelhinjdaaGreatDoorXa
import Derived.Test.YtkfmheelhinjdaaGreatDoorXu
set_option maxRecDepth 1000000
set_option maxHeartbeats 80000000
namespace Go.Proofs.YtkfmheelhinjdaaGreatDoor
open _root_.Go.Proofs.Tryz
open Go.RowKit
set_option linter.unusedVariables false
theorem UM:(prog.info? 35).map (fun i=>(i.zero,i.size,i.bytes))=some (some (.slice none 0 0),1,24):=by kernel_rfl
abbrev pR(D:Nat->Nat)(wd:Nat->List Nat)(j:Nat):Value:=.slice (some ⟨D j,0,none⟩) (wd j).length (wd j).length
structure Told(w W:World)(gp gq:Nat)(m:Mp)(k:Nat)(D:Nat->Nat):Prop where
 row:bH W gp m.n m.pg
 q:∃ cs:Array Value,W.heap[gq]?=some (.cells cs 35 (0,0))/\cs.size=m.o/\∀ j,j<k->cs[j]?=some (pR D m.wd j)
 d:∀ j,j<k->W.heap[D j]?=some (.cells (bI (m.wd j)) 27 (0,0))
 iD:∀ i j,i<k->j<k->D i=D j->i=j
 fp:w.heap.size<=gp
 fq:w.heap.size<=gq
 fd:∀ j,j<k->w.heap.size<=D j
 kp:Kt nO w W
theorem Told.cell{w W gp gq m k D}(h:Told w W gp gq m k D)(j:Nat)(hj:j<m.o):∃ v,W.cell? ⟨gq,j,none⟩=some v:=by
 obtain⟨cs,hg,hs,_⟩:=h.q;exact⟨cs[j]'(by omega),by simp[World.cell?,hg,hs,hj]⟩
theorem Told.froz{w W gp gq m k D}(h:Told w W gp gq m k D)(j:Nat):W.frozen? ⟨gq,j,none⟩=false:=by
 obtain⟨cs,hg,hs,_⟩:=h.q;simp[World.frozen?,hg]
theorem Told.keep{w W W' gp gq m k D}(h:Told w W gp gq m k D)(kp:Kt nO W W'):Told w W' gp gq m k D:=by
 obtain⟨cs,hg,hs⟩:=h.q;exact⟨bH.kept h.row kp (fun x=>x),⟨cs,(kp.block _ (lH hg) (fun x=>x)).trans hg,hs⟩,fun j hj=>(kp.block _ (lH (h.d j hj)) (fun x=>x)).trans (h.d j hj),h.iD,h.fp,h.fq,h.fd,nT h.kp kp⟩
theorem Told.next{w W W2 gp gq m k D}(h:Told w W gp gq m k D)(hk:k<m.o)(kp:Kt nO W W2)(hx:W2.heap[W.heap.size]?=some (.cells (bI (m.wd k)) 27 (0,0))):
  Told w (W2.setCell ⟨gq,k,none⟩ (.slice (some ⟨W.heap.size,0,none⟩) (m.wd k).length (m.wd k).length)) gp gq m (k+1) (fun j=>if j=k then W.heap.size else D j):=by
 have h2:=h.keep kp;obtain⟨cs,hg,hs,hc⟩:=h2.q;obtain⟨rs,hrb,_⟩:=h2.row;have ks:Kt (fun x=>x=gq) W2 (W2.setCell ⟨gq,k,none⟩ (.slice (some ⟨W.heap.size,0,none⟩) (m.wd k).length (m.wd k).length)):=(Kt.refl (fun x=>x=gq) W2).setCell (p:=⟨gq,k,none⟩) rfl _;have lt:∀ j,j<k->D j<W.heap.size:=fun j hj=>lH (h.d j hj)
 refine⟨bH.kept h2.row ks (bR hrb hg (by decide)),⟨_,heap_set hg k _,by simpa using hs,fun j hj=>?_⟩,fun j hj=>?_,fun i j hi hj e=>?_,h.fp,h.fq,fun j hj=>?_,h2.kp.setNew (p:=⟨gq,k,none⟩) (fun e=>absurd e (Nat.not_lt.2 h.fq)) _⟩
 ·rw[Array.getElem?_setIfInBounds];by_cases e:j=k
  ·subst e;rw[if_pos rfl,if_pos (by omega)];simp[pR]
  ·rw[if_neg (by omega),hc j (by omega)];simp[pR,e]
 ·by_cases e:j=k
  ·simp only[e,if_true];exact(ks.block _ (lH hx) (bR hx hg (by decide))).trans hx
  ·simp only[e,if_false];exact(ks.block _ (lH (h2.d j (by omega))) (bR (h2.d j (by omega)) hg (by decide))).trans (h2.d j (by omega))
 ·by_cases e1:i=k <;> by_cases e2:j=k <;> simp only[e1,e2,if_true,if_false] at e
  ·omega
  ·have:=lt j (by omega);omega
  ·have:=lt i (by omega);omega
  ·exact h.iD i j (by omega) (by omega) e
 ·by_cases e:j=k
  ·simp only[e,if_true];exact h.kp.size
  ·simp only[e,if_false];exact h.fd j (by omega)
theorem zI(o:Nat)(ho:o<=8)(w:World):∃ w1,(Instr.makeSlice 34 (.int .i64 o) (.int .i64 o)).run prog w=.ok (.slice (some ⟨w.heap.size,0,none⟩) o o) w1/\(∃ cs:Array Value,w1.heap[w.heap.size]?=some (.cells cs 35 (0,0))/\cs.size=o)/\Kt nO w w1/\w1.heap.size=w.heap.size+1:=by
 have hr:=run_make_row' (P:=prog) 34 35 (.slice none 0 0) 24 Tryz.underlying34 UM rfl .i64 .i64 o (by omega) (by omega) w;exact⟨_,hr,⟨_,nH _ _,size_madeCells _ _⟩,(Kt.refl nO w).alloc _,by simp⟩
theorem PX(b:Nat)(B:Bs)(m:Mp)(w:World)(h:MpA w b B m)(h0:m.o=0):
  Calls prog 46 #[.pointer (some ⟨b,0,none⟩)] w fun e w'=>∃ gp gq D,e=.returned (.tuple #[.slice (some ⟨gp,0,none⟩) m.n m.n,.slice (some ⟨gq,0,none⟩) m.o m.o])/\Told w w' gp gq m m.o D:=by
 obtain⟨cq,c0,c1,c2⟩:=h.cb;have ho8:=h.o8;have hn1:=h.n1;obtain⟨w1,hmk,hr1,hk1,hs1⟩:=rV m.n hn1 w;have M1:=aA (h.keep hk1);obtain⟨kk,w2,hcp,hr2,hk2,hs2⟩:=rU w1 w.heap.size m.n B.g m.n (fun _=>aR) m.pg hr1 M1.out.row;have K2:=aA (show Kt nO w w2 from hk1.trans hk2 (fun _ _ x=>x) (fun x hx e=>by omega));obtain⟨w3,hmk2,hq3,hk3,hs3⟩:=zI m.o ho8 w2;have K3:=aA (nT K2.out hk3);obtain⟨cq1,d0,d1,d2⟩:=M1.out.cb;obtain⟨cq2,e0,e1,e2⟩:=(h.keep K2.out).cb;obtain⟨cq3,f0,f1,f2⟩:=(h.keep K3.out).cb;have HO:=aA h;have T0:=aA (show Told w w3 w.heap.size w2.heap.size m 0 (fun _=>0)from⟨(bH.kept hr2 hk3 (fun x=>x)).congr (fun i hi=>by simp[hi]),by obtain⟨cs,h1,h2⟩:=hq3;exact⟨cs,h1,h2,fun j hj=>absurd hj (by omega)⟩,fun j hj=>absurd hj (by omega),fun i j hi=>absurd hi (by omega),Nat.le_refl _,K2.out.size,fun j hj=>absurd hj (by omega),K3.out⟩);have HZ:=aA h0;clear h hr1 hk1 hr2 hk2 hq3 hk3 hs1 hs2 hs3 h0;go_enter func46,ntmps46;go_wp2_with fail;obtain⟨gq,hgq⟩:=xe (w2.heap.size);rw[<-hgq] at T0;rw[<-hgq];clear hgq c0 c1 c2 d0 d1 d2 e0 e1 e2 f0 f1 f2 hmk hcp hmk2;go_loopw [4,5,28] (fun x y i W=>∃ k:Nat,k<=m.o/\i=.int .i64 k/\Hid (∃ D,Told w W w.heap.size gq m k D)) (fun _ _ i _=>m.o-(intOf i).toNat)
 case atStart=>exact⟨0,by omega,rfl,⟨_,T0.out⟩⟩
 case round=>
  clear T0;obtain⟨k,hk,rfl,hR⟩:=hrel;obtain⟨D,hR⟩:=hR.out;have HR:=aA hR;clear hR;have hki:¬(k:Int)<m.o:=by have:=HZ.out;omega
  ·obtain rfl:k=m.o:=(by have:=HZ.out;omega);go_wp2_with fail;skip
   exact⟨rfl,.tuple #[.slice (some ⟨w.heap.size,0,none⟩) m.n m.n,.slice (some ⟨gq,0,none⟩) m.o m.o],by simp[results,results46,go_sem],w.heap.size,gq,rfl,D,HR.out⟩
theorem PV(b q:Nat)(B:Bs)(m:Mp)(w:World)(h:MpA w b B m)(hq:B.P=some q):
  Calls prog 46 #[.pointer (some ⟨b,0,none⟩)] w fun e w'=>∃ gp gq D,e=.returned (.tuple #[.slice (some ⟨gp,0,none⟩) m.n m.n,.slice (some ⟨gq,0,none⟩) m.o m.o])/\Told w w' gp gq m m.o D:=by
 obtain⟨cq,c0,c1,c2⟩:=h.cb;have ho8:=h.o8;have hn1:=h.n1;obtain⟨w1,hmk,hr1,hk1,hs1⟩:=rV m.n hn1 w;have M1:=aA (h.keep hk1);obtain⟨kk,w2,hcp,hr2,hk2,hs2⟩:=rU w1 w.heap.size m.n B.g m.n (fun _=>aR) m.pg hr1 M1.out.row;have K2:=aA (show Kt nO w w2 from hk1.trans hk2 (fun _ _ x=>x) (fun x hx e=>by omega));obtain⟨w3,hmk2,hq3,hk3,hs3⟩:=zI m.o ho8 w2;have K3:=aA (nT K2.out hk3);obtain⟨cq1,d0,d1,d2⟩:=M1.out.cb;obtain⟨cq2,e0,e1,e2⟩:=(h.keep K2.out).cb;obtain⟨cq3,f0,f1,f2⟩:=(h.keep K3.out).cb;have HO:=aA h;have T0:=aA (show Told w w3 w.heap.size w2.heap.size m 0 (fun _=>0)from⟨(bH.kept hr2 hk3 (fun x=>x)).congr (fun i hi=>by simp[hi]),by obtain⟨cs,h1,h2⟩:=hq3;exact⟨cs,h1,h2,fun j hj=>absurd hj (by omega)⟩,fun j hj=>absurd hj (by omega),fun i j hi=>absurd hi (by omega),Nat.le_refl _,K2.out.size,fun j hj=>absurd hj (by omega),K3.out⟩);rw[show dB B.P=some ⟨q,0,none⟩by rw[hq];rfl] at c2 d2 e2 f2;have HQ:=aA hq;clear h hr1 hk1 hr2 hk2 hq3 hk3 hs1 hs2 hs3 hq;go_enter func46,ntmps46;go_wp2_with fail;obtain⟨gq,hgq⟩:=xe (w2.heap.size);rw[<-hgq] at T0;rw[<-hgq];clear hgq c0 c1 c2 d0 d1 d2 e0 e1 e2 f0 f1 f2 hmk hcp hmk2;go_loopw [4,5,28] (fun x y i W=>∃ k:Nat,k<=m.o/\i=.int .i64 k/\Hid (∃ D,Told w W w.heap.size gq m k D)) (fun _ _ i _=>m.o-(intOf i).toNat)
 case atStart=>exact⟨0,by omega,rfl,⟨_,T0.out⟩⟩
 case round=>
  clear T0;obtain⟨k,hk,rfl,hR⟩:=hrel;obtain⟨D,hR⟩:=hR.out;have HR:=aA hR;clear hR;by_cases hlt:k<m.o
  ·have hki:(k:Int)<m.o:=(by omega);have hpc:wr.cell? ⟨q,k,none⟩=some (.pointer (some ⟨B.S k,0,none⟩)):=by
    obtain⟨q',hq',hc⟩:=(HO.out.keep HR.out.kp).cp k hlt;rw[HQ.out] at hq'
    cases hq'
    exact hc
   have WD:=aA (fun w' (kk:Kt nO w w')=>WN (B.S k) (B.C k) _ (m.wd k) w' ((HO.out.keep kk).set k hlt));obtain⟨v0,hv0⟩:=HR.out.cell k hlt;have HLT:=aA hlt;go_wp2_with fail;refine(WD.out _ HR.out.kp).mono ?_;rintro e W2 ⟨rfl,hx,hK,hsz⟩;have HX:=aA (HR.out.next HLT.out hK hx);have zz:=(HR.out.keep hK).froz k;have hv2:=Kt.cell (S:=nO) hK (fun x=>x) hv0;clear hx hK hsz;go_wp2_with fail;exact⟨⟨k+1,by omega,by simp,⟨_,HX.out⟩⟩,by simp[intOf];omega⟩
  ·obtain rfl:k=m.o:=(by omega);go_wp2_with fail;skip
   exact⟨rfl,.tuple #[.slice (some ⟨w.heap.size,0,none⟩) m.n m.n,.slice (some ⟨gq,0,none⟩) m.o m.o],by simp[results,results46,go_sem],w.heap.size,gq,D,rfl,HR.out⟩
theorem WI(b:Nat)(B:Bs)(m:Mp)(w:World)(h:MpA w b B m):
  Calls prog 46 #[.pointer (some ⟨b,0,none⟩)] w fun e w'=>∃ gp gq D,e=.returned (.tuple #[.slice (some ⟨gp,0,none⟩) m.n m.n,.slice (some ⟨gq,0,none⟩) m.o m.o])/\Told w w' gp gq m m.o D:=by
 by_cases h0:m.o=0
 ·exact PX b B m w h h0
 ·obtain⟨q,hq,_⟩:=h.cp 0 (by omega);exact PV b q B m w h hq
structure GS(w0 W:World)(e:TypeId)(size:Nat)(v:Value)(n:Nat)(xs:List Value):Prop where
 own:W.ownsRow 0 e size v n xs
 new:∀ g cap,v=.slice (some ⟨g,0,none⟩) n cap->cap<=n\/w0.heap.size<=g
 kp:Kt nO w0 W
theorem kX{w w':World}{row:Option Nat}(h:w.grownBy w' row):Kt (fun b=>row=some b) w w':=⟨h.os,h.tape,h.output,h.size,fun k hk hn=>h.block k hk (fun e=>hn e.symm)⟩
theorem GS.nil(w0 W:World)(e:TypeId)(size:Nat)(k:Kt nO w0 W):GS w0 W e size (.slice none 0 0) 0 []:=
 ⟨World.ownsRow_nil _ _ _ _,fun g cap h=>by simp at h,k⟩
theorem GS.keep{w0 W W' e size v n xs}(h:GS w0 W e size v n xs)(k:Kt nO W W'):GS w0 W' e size v n xs:=by
 refine⟨⟨h.own.1,?_⟩,h.new,nT h.kp k⟩;rcases h.own.2 with h0|⟨g,cap,cur,rfl,hb,hg,h3⟩
 ·exact .inl h0
 ·exact .inr ⟨g,cap,cur,rfl,hb,(k.block g (lH hg) (fun x=>x)).trans hg,h3⟩
theorem mK{w:World}{cs:Array Value}{t:TypeId}(j:Nat)(u:Value)(h:cs.toList[j]?=some u):(w.alloc (.cells cs t)).cell? (Addr.add ⟨w.heap.size,0,none⟩ j)=some u:=by
 rw[Addr.add_lit,Nat.zero_add];have:=nH w (.cells cs t);simp only[World.cell?,this];rw[<-Array.getElem?_toList,h];rfl
theorem PD(k o:Nat)(ho:o<=8)(hk:k<1024):wrap64 ((k:Int)/2 ^ o*2 ^ o)=((k/2 ^ o*2 ^ o:Nat):Int):=by
 have h1:k/2 ^ o*2 ^ o<=k:=Nat.div_mul_le_self _ _;have h2:((k:Int)/2 ^ o*2 ^ o)=((k/2 ^ o*2 ^ o:Nat):Int):=by simp
 rw[h2];generalize k/2 ^ o*2 ^ o=z at *;unfold wrap64;omega
def kP(m:Mp)(i:Int):Int:=if aC m.n i=true then ((i.toNat/2 ^ (m.pg i.toNat).od.toNat*2 ^ (m.pg i.toNat).od.toNat:Nat):Int) else -1
theorem PA(b:Nat)(B:Bs)(m:Mp)(i:Int)(w:World)(h:MpA w b B m)(hi:aC m.n i=false):
  Calls prog 299 #[.pointer (some ⟨b,0,none⟩),.int .i64 i] w fun e w'=>e=.returned (.int .i64 (-1))/\w'=w:=by
 have HM:=aA h;have HI:=aA hi;clear h hi;go_enter func299,ntmps299;go_wp2_with fail;refine(eO b B m i _ HM.out).mono ?_;rintro e w1 ⟨rfl,rfl⟩;rw[HI.out];go_wp2_with fail;go_ret;exact⟨rfl,rfl⟩
theorem GH(b:Nat)(B:Bs)(m:Mp)(k o:Nat)(w:World)(h:MpA w b B m)(hk:k<m.n)(ho:(m.pg k).od=o):
  Calls prog 299 #[.pointer (some ⟨b,0,none⟩),.int .i64 k] w fun e w'=>e=.returned (.int .i64 ((k/2 ^ o*2 ^ o:Nat):Int))/\w'=w:=by
 have HM:=aA h;have HI:=aA (dH hk);have ho8:o<=8:=by have:=(h.ok k hk).o8;omega
 have hkn:k<1024:=by have:=h.n1;omega
 obtain⟨g,hg,hr⟩:=h.has_row (by omega);have d1:=(hr.cell k hk).2.1;rw[ho] at d1;have c1:=h.c1 hg;have hki:(k:Int)<m.n:=by omega
 have HE:=aA (PD k o ho8 hkn);clear h hr hg;go_enter func299,ntmps299;go_wp2_with fail;refine(eO b B m k _ HM.out).mono ?_;rintro e w1 ⟨rfl,rfl⟩;rw[HI.out];go_wp2_with fail;go_ret;exact⟨eH HE.out,rfl⟩
theorem bH.f6{w g n pg}(h:bH w g n pg)(i:Nat)(hi:i<n)(x:Int):bH (w.setCell ⟨g,i*11+6,none⟩ (.int .i64 x)) g n (aJ pg i { pg i with fs:=x }):=by
 have:=aU.set h i 6 hi (by decide) (.int .i64 x);refine aU.congr this (fun a ha b hb=>qJ a b hb (fun j hj=>?_) (fun e=>?_))
 ·revert j
  apply jQ <;> simp[kK,Pg.fld]
 ·simp[kK,e]
theorem VH(b:Nat)(B:Bs)(m:Mp)(i c:Int)(w:World)(h:MpA w b B m)(hi:aC m.n i=false):
  Calls prog 196 #[.pointer (some ⟨b,0,none⟩),.int .i64 i,.int .i64 c] w fun e w'=>e=.returned (.int .i64 1)/\w'=w:=by
 have HM:=aA h;have HI:=aA hi;clear h hi;go_enter func196,ntmps196;go_wp2_with fail;refine(tB b B m i _ HM.out HI.out).mono ?_;rintro e w1 ⟨rfl,rfl⟩;go_wp2_with fail;go_ret;exact⟨rfl,rfl⟩
theorem YY(b:Nat)(B:Bs)(m:Mp)(k:Nat)(c:Int)(w:World)(h:MpA w b B m)(hk:k<m.n)(hkd:(m.pg k).kd≠4):
  Calls prog 196 #[.pointer (some ⟨b,0,none⟩),.int .i64 k,.int .i64 c] w fun e w'=>e=.returned (.int .i64 1)/\w'=w:=by
 have HM:=aA h;obtain⟨g,hg,hr⟩:=h.has_row (by omega);have S:=aA (jZ b B m g k w h hg hk);rw[if_neg hkd] at S;clear h hr hg;go_enter func196,ntmps196;go_wp2_with fail;refine S.out.mono ?_;rintro e w1 ⟨rfl,rfl⟩;go_wp2_with fail;go_ret;exact⟨rfl,rfl⟩
theorem YX(b:Nat)(B:Bs)(m:Mp)(k:Nat)(c:Int)(w:World)(h:MpA w b B m)(hk:k<m.n)(hkd:(m.pg k).kd=4)(hm1:c ≠ -1)(hc:aC (eN (m.pg k).cl) c=false):
  Calls prog 196 #[.pointer (some ⟨b,0,none⟩),.int .i64 k,.int .i64 c] w fun e w'=>e=.returned (.int .i64 1)/\w'=w:=by
 have HM:=aA h;obtain⟨g,hg,hr⟩:=h.has_row (by omega);have S:=aA (jZ b B m g k w h hg hk);rw[if_pos hkd] at S;obtain⟨d0,d1,d2,d3,d4,d5,d6,d7,d8,d9,d10⟩:=hr.cell k hk;have HC:=aA (pO g (k*11) (m.pg k).cl (h.ok k hk).c0 (h.ok k hk).c7 c w d2);rw[hc] at HC;clear h hr hg;go_enter func196,ntmps196;go_wp2_with fail;refine S.out.mono ?_;rintro e w1 ⟨rfl,rfl⟩;go_wp2_with fail;refine HC.out.mono ?_;rintro e w1 ⟨rfl,rfl⟩;go_wp2_with fail;go_ret;exact⟨rfl,rfl⟩
theorem OZ(b:Nat)(B:Bs)(m:Mp)(k:Nat)(c:Int)(w:World)(h:MpA w b B m)(hk:k<m.n)(hkd:(m.pg k).kd=4)(hc:c = -1\/aC (eN (m.pg k).cl) c=true):
  Calls prog 196 #[.pointer (some ⟨b,0,none⟩),.int .i64 k,.int .i64 c] w fun e w'=>e=.returned (.int .i64 0)/\MpA w' b B { m with pg:=aJ m.pg k { m.pg k with fs:=c } }/\Kt (aM b B m.o) w w':=by
 have HM:=aA h;obtain⟨g,hg,hr⟩:=h.has_row (by omega);have S:=aA (jZ b B m g k w h hg hk);rw[if_pos hkd] at S;obtain⟨d0,d1,d2,d3,d4,d5,d6,d7,d8,d9,d10⟩:=hr.cell k hk;have HC:=aA (pO g (k*11) (m.pg k).cl (h.ok k hk).c0 (h.ok k hk).c7 c w d2);have z:=aU.froz hr;have FIN:=aA (show MpA (w.setCell ⟨g,k*11+6,none⟩ (.int .i64 c)) b B { m with pg:=aJ m.pg k { m.pg k with fs:=c } }/\Kt (aM b B m.o) w (w.setCell ⟨g,k*11+6,none⟩ (.int .i64 c))from
  ⟨h.pages hg ((Kt.refl (fun x=>x=g) w).setCell (p:=⟨g,_,none⟩) rfl _) (hr.f6 k hk c) (fun i hi=>by
   unfold aJ;split
   ·exact⟨(h.ok k hk).o0,(h.ok k hk).o8,(h.ok k hk).c0,(h.ok k hk).c7,(h.ok k hk).b0,(h.ok k hk).b1,(h.ok k hk).b2,(h.ok k hk).b3⟩
   ·exact h.ok i hi),(Kt.refl (aM b B m.o) w).setCell (p:=⟨g,_,none⟩) (.inr (.inl hg)) _⟩)
 clear h hr hg;by_cases h1:c = -1
 ·subst h1;clear hc;go_enter func196,ntmps196;go_wp2_with fail;refine S.out.mono ?_;rintro e w1 ⟨rfl,rfl⟩;go_wp2_with fail;go_ret;exact⟨rfl,FIN.out⟩
 ·rw[hc.resolve_left h1] at HC;clear hc;go_enter func196,ntmps196;go_wp2_with fail;refine S.out.mono ?_;rintro e w1 ⟨rfl,rfl⟩;go_wp2_with fail;refine HC.out.mono ?_;rintro e w1 ⟨rfl,rfl⟩;go_wp2_with fail;go_ret;exact⟨rfl,FIN.out⟩
end Go.Proofs.YtkfmheelhinjdaaGreatDoor
namespace Go.Proofs.YtkfmheelhinjdaaGreatDoor.W
open _root_.Go.Proofs.Tryz
open Go.RowKit
set_option linter.unusedVariables false
set_option maxHeartbeats 8000000
set_option maxRecDepth 6000
end Go.Proofs.YtkfmheelhinjdaaGreatDoor.W
