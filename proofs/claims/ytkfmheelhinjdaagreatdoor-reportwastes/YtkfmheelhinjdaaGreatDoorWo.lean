import Derived.Test.YtkfmheelhinjdaaGreatDoorWi
set_option maxRecDepth 1000000
set_option maxHeartbeats 80000000
namespace Go.Proofs.YtkfmheelhinjdaaGreatDoor.W
open _root_.Go.Proofs.Tryz
open Go.RowKit
set_option linter.unusedVariables false
set_option maxHeartbeats 8000000
set_option maxRecDepth 6000
abbrev cI(F Z:Nat->Value)(a:Nat):Nat->Value:=fun j=>if j<a then F j else Z j
theorem PV{F Z:Nat->Value}{a:Nat} : (fun j=>if j=a then F a else cI F Z a j)=cI F Z (a+1):=by
 funext j
 unfold cI;by_cases e:j=a
 ·subst e;simp
 ·by_cases l:j<a
  ·rw[if_neg e,if_pos l,if_pos (by omega)]
  ·rw[if_neg e,if_neg l,if_neg (by omega)]
theorem sN{w0 w:World}{b k:Nat}{x:Value}(h:Kt nO w0 w)(hb:w0.heap.size<=b):Kt nO w0 (w.setCell ⟨b,k,none⟩ x):=
 h.trans ((Kt.refl (fun y=>y=b) w).setCell (p:=⟨b,k,none⟩) rfl x) (fun _ _ y=>y) (fun y hy e=>by omega)
theorem XR.up{s n N:Nat}{w:World}{b:Nat}{T:TypeId}{F Z:Nat->Value}{m c a:Nat}(h:XR s w (.slice (some ⟨b,0,none⟩) m c) n T N (cI F Z a))(ha:a<N):XR s (w.setCell ⟨b,a,none⟩ (F a)) (.slice (some ⟨b,0,none⟩) m c) n T N (cI F Z (a+1)):=by
 have:=h.put ha (F a);rwa [PV] at this
theorem XR.done{s n N:Nat}{w:World}{v:Value}{T:TypeId}{F Z:Nat->Value}{a:Nat}(h:XR s w v n T N (cI F Z a))(ha:N<=a):XR s w v n T N F:=h.congr fun j hj=>if_pos (by omega)
structure PrC(s:Nat)(w0 w:World)(I:Img)(v:Value)(a:Nat)(xs:List Value):Prop where
 r:GS w0 w 35 1 v a xs
 u:∀ i,i<a->XR s w (xs.getD i (.slice none 0 0)) (I.pr i).length 27 (I.pr i).length fun j=>.int .u64 (((I.pr i).getD j 0:Nat):Int)
theorem PrC.keep{s:Nat}{w0 w W:World}{I:Img}{v:Value}{a:Nat}{xs:List Value}(h:PrC s w0 w I v a xs)(hk:Kt nO w W):PrC s w0 W I v a xs:=
 ⟨GS.keep h.r hk,fun i hi=>(h.u i hi).keep hk⟩
theorem PrC.push{s:Nat}{w0 w W:World}{I:Img}{v v':Value}{a b l c:Nat}{xs:List Value}(h:PrC s w0 w I v a xs)(hx:XR s w (.slice (some ⟨b,0,none⟩) l c) (I.pr a).length 27 (I.pr a).length fun j=>.int .u64 (((I.pr a).getD j 0:Nat):Int))(hg:GS w0 W 35 1 v' (a + 1) (xs ++ [.slice (some ⟨b,0,none⟩) l c]))(hk:Kt (fun b=>v.ownBlock=some b) w W):PrC s w0 W I v' (a + 1) (xs ++ [.slice (some ⟨b,0,none⟩) l c]):=by
 have hl:=h.r.own.1;have ap:∀ {n N:Nat} {u:Value} {F:Nat->Value},XR s w u n 27 N F->XR s W u n 27 N F:=fun hu=>hu.keepS hk fun y hy e=>by
  obtain⟨c1,e1⟩:=hu.ty hy;obtain⟨c2,e2⟩:=xZ h.r e;rw[e1] at e2
  cases e2
 refine⟨hg,fun i hi=>?_⟩;by_cases e:i=a
 ·subst e;have:(xs ++ [Value.slice (some ⟨b,0,none⟩) l c]).getD i (.slice none 0 0)=.slice (some ⟨b,0,none⟩) l c:=by
   rw[List.getD,List.getElem?_append_right (by omega),show i-xs.length=0 by omega];rfl
  rw[this];exact ap hx
 ·have:(xs ++ [Value.slice (some ⟨b,0,none⟩) l c]).getD i (.slice none 0 0)=xs.getD i (.slice none 0 0):=by
   rw[List.getD,List.getD,List.getElem?_append_left (by omega)]
  rw[this];exact ap (h.u i (by omega))
theorem GS.moved{w w0 W W':World}{e:TypeId}{size:Nat}{v:Value}{n:Nat}{xs:List Value}{S:Nat->Prop}(h:GS w0 W e size v n xs)(kS:Kt S W W')(hS:∀ b,v.ownBlock=some b->¬S b)(hle:w.heap.size<=w0.heap.size)(kF:Kt nO w W'):GS w W' e size v n xs:=by
 refine⟨⟨h.own.1,?_⟩,fun g cap e=>Nat.le_trans hle (h.new g cap e),kF⟩;rcases h.own.2 with h0|⟨g,cap,cur,e,hb,hg,h3⟩
 ·exact .inl h0
 ·exact .inr ⟨g,cap,cur,e,hb,(kS.block g (lH hg) (hS g (by rw[e];rfl))).trans hg,h3⟩
theorem zhx(I:Img)(V:ImV)(w:World)(hI:ImD w I V)(hZ:ImZ I):
  Calls prog 23 #[imA I V] w fun e w'=>∃ V' xs,e=.returned (imA I V')/\CpD w.heap.size w w' I V' xs/\Kt nO w w':=by
 have OK:=aA hI.ok;obtain⟨⟨ma,mc,hm⟩,⟨pa,pc,hp⟩,⟨ra,rc,hr⟩,⟨ha,hc,hh⟩,⟨ta,tc,ht⟩,-⟩:=hI.sl;obtain⟨vm,vp,vr,vh,vt⟩:=V;dsimp only at hm hp hr hh ht;subst hm hp hr hh ht;obtain⟨nm,hnm⟩:∃ n,n=I.nm:=⟨_,rfl⟩;obtain⟨np,hnp⟩:∃ n,n=I.np:=⟨_,rfl⟩;obtain⟨no,hno⟩:∃ n,n=I.no:=⟨_,rfl⟩;obtain⟨nh,hnh⟩:∃ n,n=I.hd.length:=⟨_,rfl⟩;obtain⟨nt,hnt⟩:∃ n,n=I.pt.length:=⟨_,rfl⟩;have NM:=aA hnm;have NP:=aA hnp;have NO:=aA hno;have NH:=aA hnh;have NT:=aA hnt;have HZ:=aA hZ;have B1:=aA (show nm<=9223372036854775807 by rw[hnm];exact hI.ok.nm);have B2:=aA (show np<=9223372036854775807 by rw[hnp];exact hI.ok.np);have B3:=aA (show no<=9223372036854775807 by rw[hno];exact hI.ok.no);have B4:=aA (show nh<=9223372036854775807 by rw[hnh];exact hI.ok.nh);have B5:=aA (show nt<=9223372036854775807 by rw[hnt];exact hI.ok.nt);have ID:=aA hI;rw[<-hnm,<-hnp,<-hno,<-hnh,<-hnt] at ID;rw[<-hnm,<-hnp,<-hno,<-hnh,<-hnt];clear hI hZ hnm hnp hno hnh hnt;go_enter func23,ntmps23;go_upto_region 1 with fail;refine DG (P:=fun W=>Code.wp prog _ _ _ W) _ ?_;intro W0 hW0;have IM0:=aA (show ImAt W0 w.heap.size I ⟨.slice ma nm mc,.slice pa np pc,.slice ra no rc,.slice ha nh hc,.slice ta nt tc⟩by
  subst hW0;refine⟨?_,ID.out.keep (((Kt.refl _ w).alloc _).alloc _)⟩;show((w.heap.push _).push _)[w.heap.size]?=_
  rw[Array.getElem?_push,if_neg (by simp),Array.getElem?_push,if_pos rfl])
 have RB0:=aA (show W0.heap[w.heap.size+1]?=some iH by subst hW0;exact sS w _ _);have K0:=aA (show Kt nO w W0 by subst hW0;exact((Kt.refl _ w).alloc _).alloc _);obtain⟨ib,hib⟩:=xe (w.heap.size);obtain⟨rb,hrb⟩:=xe (ib+1);have IB:=aA hib;have RBE:=aA hrb;rw[<-hib] at IM0 RB0 ⊢;rw[<-hrb] at RB0 ⊢;clear hW0 hib hrb ID;obtain⟨c0,c1,c2,c3,c4,c5,c6,c7,c8⟩:=IM0.out.cells;obtain⟨g1,hg1⟩:∃ g,g=W0.heap.size:=⟨_,rfl⟩;obtain⟨W1,mk1,x1,k1,-⟩:=pS 32 5 (.int .u8 0) 1 1 Tryz.underlying32 nJ rfl nm (by have:=HZ.out.m;rw[<-NM.out] at this;omega) B1.out rb W0 (lH RB0.out);rw[<-hg1] at mk1 x1;have G1:=aA (show rb<g1/\g1=W0.heap.size from⟨by rw[hg1];exact lH RB0.out,hg1⟩);have X1:=aA (show XR rb W1 (.slice (some ⟨g1,0,none⟩) nm nm) nm 5 nm (cI (fun j=>.int .u8 (I.mem j:Int)) (fun j=>(Value.cells (.int .u8 0))[j%1]!) 0)by
  have:=x1.congr (G:=cI (fun j=>.int .u8 (I.mem j:Int)) (fun j=>(Value.cells (.int .u8 0))[j%1]!) 0) fun j hj=>(if_neg (by omega)).symm
  rwa [Nat.mul_one] at this)
 have Q1:=aA k1;clear x1 k1 hg1;go_wp2_with fail;clear c0 c1 c2 c3 c4 c5 c6 c7 c8 mk1;go_loopw [4] (fun iv W=>∃ a:Nat,a<=nm/\iv=.int .i64 a/\Hid (Kt nO W0 W/\XR rb W (.slice (some ⟨g1,0,none⟩) nm nm) nm 5 nm (cI (fun j=>.int .u8 (I.mem j:Int)) (fun j=>(Value.cells (.int .u8 0))[j%1]!) a))) (fun iv _=>nm-(intOf iv).toNat)
 case atStart=>exact⟨0,Nat.zero_le _,rfl,aA ⟨Q1.out,X1.out⟩⟩
 case round=>
  clear Q1 X1;obtain⟨a,ha',rfl,hG⟩:=hrel;have IMa:=aA (IM0.out.keep hG.out.1);obtain⟨c0,c1,c2,c3,c4,c5,c6,c7,c8⟩:=IMa.out.cells;by_cases hlt:a<nm
  ·have hai:(a:Int)<nm:=(by omega);obtain⟨bl,o,rfl,hs⟩:∃ bl o,ma=some ⟨bl,o,none⟩/\wr.cell? ⟨bl,o+a,none⟩=some (.int .u8 (I.mem a:Int)):=by
    obtain⟨-,oa,oc,e1,e2⟩:=IMa.out.d.mem
    cases e1
    rcases e2 with e2|⟨bl,o,rfl,-,hc'⟩
    ·rw[NM.out] at hlt;omega
    ·exact⟨bl,o,rfl,(hc' a (by rw[<-NM.out];exact hlt)).2⟩
   have t0:=hG.out.2.cell (j:=a) hlt;have z0:=hG.out.2.frz a;have R2:=aA (sN (k:=a) (x:=(fun j=>.int .u8 (I.mem j:Int)) a) hG.out.1 (Nat.le_of_eq G1.out.2.symm));have R3:=aA (hG.out.2.up hlt);have HLT:=aA hlt;clear hG hlt;go_wp2_with fail;have hw:wrap64 ((a:Int)+1)=((a+1:Nat):Int):=(by have:=B1.out;have:=HLT.out;rw[wrap64];omega);rw[hw];exact⟨⟨a+1,by have:=HLT.out;omega,rfl,aA ⟨R2.out,R3.out⟩⟩,by have:=HLT.out;simp only[intOf,Int.toNat_natCast];omega⟩
  ·have hai:¬(a:Int)<nm:=(by omega);have K1:=aA hG.out.1;have D1:=aA (hG.out.2.done (by omega));have RB1:=aA ((hG.out.1.block _ (lH RB0.out) (fun x=>x)).trans RB0.out);clear hG;have ea:nm=a:=(by omega);subst ea;go_upto_region 6 with fail;clear c0 c1 c2 c3 c4 c5 c6 c7 c8;have IM1:=IMa;clear IMa;obtain⟨V1,hV1⟩:∃ W,W=wr:=⟨_,rfl⟩;rw[<-hV1] at K1 D1 RB1 IM1 ⊢;clear hV1 hai ha';obtain⟨c0,c1,c2,c3,c4,c5,c6,c7,c8⟩:=IM1.out.cells;obtain⟨g2,hg2⟩:∃ g,g=V1.heap.size:=⟨_,rfl⟩;obtain⟨W2,mk2,x2,k2,-⟩:=pS 33 99 (dV aQ) 11 88 Tryz.underlying33 ZM rfl np (by have:=HZ.out.p;rw[<-NP.out] at this;omega) B2.out rb V1 (lH RB1.out);rw[<-hg2] at mk2 x2;have G2:=aA (show rb<g2/\g2=V1.heap.size from⟨by rw[hg2];exact lH RB1.out,hg2⟩);have X2:=aA (show bG W2 g2 np (fun i=>if i<0 then I.pg i else aQ)from x2.row fun i hi j hj=>by
    rw[if_neg (by omega)];rw[show(i*11+j)%11=j by omega];revert j
    exact iG rfl rfl rfl rfl rfl rfl rfl rfl rfl rfl rfl)
   have Q2:=aA k2;clear x2 k2 hg2;go_wp2_with fail;clear c0 c1 c2 c3 c4 c5 c6 c7 c8 mk2;go_loopw [6] (fun iv W=>∃ a:Nat,a<=np/\iv=.int .i64 a/\Hid (Kt nO V1 W/\bG W g2 np (fun i=>if i<a then I.pg i else aQ))) (fun iv _=>np-(intOf iv).toNat)
   case atStart=>exact⟨0,Nat.zero_le _,rfl,aA ⟨Q2.out,X2.out⟩⟩
   case round=>
    clear Q2 X2;obtain⟨a,ha',rfl,hG⟩:=hrel;have IMa:=aA (IM1.out.keep hG.out.1);obtain⟨c0,c1,c2,c3,c4,c5,c6,c7,c8⟩:=IMa.out.cells;by_cases hlt:a<np
    ·have hai:(a:Int)<np:=(by omega);obtain⟨bl,o,oc,hv,hpi,hpc⟩:=IMa.out.page a (by rw[<-NP.out];exact hlt)
     cases hv
     obtain⟨d0,d1,d2,d3,d4,d5,d6,d7,d8,d9,d10⟩:=hpc.c;obtain⟨e0,e1,e2,e3,e4,e5,e6,e7,e8,e9,e10⟩:=hG.out.2.cell a hlt;have zz:=aV.froz hG.out.2;obtain⟨p,hp⟩:=xe (I.pg a);rw[<-hp] at d0 d1 d2 d3 d4 d5 d6 d7 d8 d9 d10;have HP:=aA hp;have R3:=aA (hG.out.2.put a hlt p);have R2:=aA (show Kt nO V1 (cW wr g2 a p)from hG.out.1.trans (oN wr g2 a _) (fun _ _ x=>x) (fun x hx e=>by have:=G2.out;omega));have HLT:=aA hlt;clear hG hpi hpc hp;go_wp2_with fail;have hw:wrap64 ((a:Int)+1)=((a+1:Nat):Int):=(by have:=B2.out;have:=HLT.out;rw[wrap64];omega);rw[hw];refine⟨⟨a+1,by have:=HLT.out;omega,rfl,aA ⟨R2.out,R3.out.congr fun i hi=>?_⟩⟩,by have:=HLT.out;simp only[intOf,Int.toNat_natCast];omega⟩;unfold aK;by_cases e:i=a
     ·rw[if_pos e,if_pos (by omega),e];exact HP.out
     ·rw[if_neg e];show(if i<a then I.pg i else aQ)=_
      by_cases l:i<a
      ·rw[if_pos l,if_pos (by omega)]
      ·rw[if_neg l,if_neg (by omega)]
    ·have hai:¬(a:Int)<np:=(by omega);have K2:=aA hG.out.1;have D2:=aA (OD (hG.out.2.congr (pg':=I.pg) fun i hi=>if_pos (by omega)) G2.out.1);have RB2:=aA ((hG.out.1.block _ (lH RB1.out) (fun x=>x)).trans RB1.out);clear hG;have ea:np=a:=(by omega);subst ea;go_upto_region 12 with fail;clear c0 c1 c2 c3 c4 c5 c6 c7 c8;have IM2:=IMa;clear IMa;obtain⟨V2,hV2⟩:∃ W,W=wr:=⟨_,rfl⟩;rw[<-hV2] at K2 D2 RB2 IM2 ⊢;clear hV2 hai ha';go_wp2_with fail;go_loopw [7,8] (fun pv iv W=>∃ (a:Nat) (xs:List Value),a<=no/\iv=.int .i64 a/\Hid (PrC rb V2 W I pv a xs)) (fun _ iv _=>no-(intOf iv).toNat)
     case atStart=>exact⟨0,[],Nat.zero_le _,rfl,aA ⟨GS.nil _ _ _ _ (Kt.refl _ _),fun i hi=>by omega⟩⟩
     case round=>
      obtain⟨a,xs,ha',rfl,hG⟩:=hrel;have IMa:=aA (IM2.out.keep hG.out.r.kp);obtain⟨c0,c1,c2,c3,c4,c5,c6,c7,c8⟩:=IMa.out.cells;obtain⟨va,vc,hva⟩:=nI hG.out.r.own;subst hva;by_cases hlt:a<no
      ·have hai:(a:Int)<no:=(by omega);have hlt':a<I.no:=(by rw[<-NO.out];exact hlt);obtain⟨ws,hSL⟩:=IMa.out.d.prs;obtain⟨-,oa,oc,e1,e2⟩:=hSL
       cases e1
       obtain⟨bl,o,rfl,hcc,hsr⟩:∃ bl o,ra=some ⟨bl,o,none⟩/\wr.cell? ⟨bl,o+a,none⟩=some (ws a)/\Src wr (ws a) (I.pr a):=by
        rcases e2 with e2|⟨bl,o,rfl,-,hc'⟩
        ·omega
        ·exact⟨bl,o,rfl,(hc' a hlt').1,(hc' a hlt').2⟩
       clear e2;obtain⟨h64,so,sc,hws,hsc⟩:=hsr;rw[hws] at hcc;obtain⟨n,hn⟩:=xe ((I.pr a).length);rw[<-hn] at hcc;have HN:=aA hn;have BN:=aA (show n<=9223372036854775807 by have:=HZ.out.u a hlt';omega);have SRC:=aA (show ∀ W,Kt nO wr W->∀ j,j<n->∃ bb oo,so=some ⟨bb,oo,none⟩/\W.cell? ⟨bb,oo+j,none⟩=some (.int .u64 (((I.pr a).getD j 0:Nat):Int))from fun W hW j hj=>by
        rcases hsc with e|⟨ad,rfl,-,hc'⟩
        ·rw[hn,e] at hj;simp at hj
        ·have g0:=hc' 0 (by omega);have e0:ad.add 0=ad:=(by simp[Addr.add]);rw[e0] at g0;obtain⟨bb,oo,s⟩:=ad
         cases s with
         | some s=>simp[World.cell?] at g0;split at g0 <;> simp at g0
         | none=>
          have:=hc' j (by omega);rw[Addr.add_lit] at this;exact⟨bb,oo,rfl,hW.cell (fun x=>x) this⟩)
       have OUT:=aA (show ∀ W,Kt nO wr W->W.cell? ⟨bl,o+a,none⟩=some (.slice so n sc)from fun W hW=>hW.cell (fun x=>x) hcc);have HLT:=aA hlt;have rbl:=(hG.out.r.kp.block _ (lH RB2.out) (fun x=>x)).trans RB2.out;obtain⟨g3,hg3⟩:∃ g,g=wr.heap.size:=⟨_,rfl⟩;obtain⟨W3,mk3,x3,k3,-⟩:=pS 35 27 (.int .u64 0) 1 8 Tryz.underlying35 AB rfl n (by have:=HZ.out.u a hlt';omega) BN.out rb wr (lH rbl);rw[<-hg3] at mk3 x3;have G3:=aA (show rb<g3/\g3=wr.heap.size from⟨by rw[hg3];exact lH rbl,hg3⟩);have X3:=aA (show XR rb W3 (.slice (some ⟨g3,0,none⟩) n n) n 27 n (cI (fun j=>.int .u64 (((I.pr a).getD j 0:Nat):Int)) (fun j=>(Value.cells (.int .u64 0))[j%1]!) 0)by
        have:=x3.congr (G:=cI (fun j=>.int .u64 (((I.pr a).getD j 0:Nat):Int)) (fun j=>(Value.cells (.int .u64 0))[j%1]!) 0) fun j hj=>(if_neg (by omega)).symm
        rwa [Nat.mul_one] at this)
       have Q3:=aA k3;clear x3 k3 hg3 hws hsc h64 hn hlt hlt' rbl;go_wp2_with fail;clear c0 c1 c2 c3 c4 c5 c6 c7 c8 mk3 hcc;obtain⟨wq,hwq⟩:∃ W,W=wr:=⟨_,rfl⟩;rw[<-hwq] at hG IMa SRC OUT G3 Q3;clear hwq;go_loopw [10] (fun iv W=>∃ b:Nat,b<=n/\iv=.int .i64 b/\Hid (Kt nO wq W/\XR rb W (.slice (some ⟨g3,0,none⟩) n n) n 27 n (cI (fun j=>.int .u64 (((I.pr a).getD j 0:Nat):Int)) (fun j=>(Value.cells (.int .u64 0))[j%1]!) b))) (fun iv _=>n-(intOf iv).toNat)
       case atStart=>exact⟨0,Nat.zero_le _,rfl,aA ⟨Q3.out,X3.out⟩⟩
       case round=>
        clear Q3 X3;obtain⟨b,hb',rfl,hJ⟩:=hrel;have IMb:=aA (IMa.out.keep hJ.out.1);obtain⟨c0,c1,c2,c3,c4,c5,c6,c7,c8⟩:=IMb.out.cells;by_cases hlt:b<n
        ·have hbi:(b:Int)<n:=(by omega);have hcc:=OUT.out _ hJ.out.1;obtain⟨bb,oo,rfl,hs⟩:=SRC.out _ hJ.out.1 b hlt;have t0:=hJ.out.2.cell (j:=b) hlt;have z0:=hJ.out.2.frz b;have R2:=aA (sN (k:=b) (x:=.int .u64 (((I.pr a).getD b 0:Nat):Int)) hJ.out.1 (Nat.le_of_eq G3.out.2.symm));have R3:=aA (hJ.out.2.up hlt);have HLB:=aA hlt;clear hJ hlt;go_wp2_with fail;have hw:wrap64 ((b:Int)+1)=((b+1:Nat):Int):=(by have:=BN.out;have:=HLB.out;rw[wrap64];omega);rw[hw];exact⟨⟨b+1,by have:=HLB.out;omega,rfl,aA ⟨R2.out,R3.out⟩⟩,by have:=HLB.out;simp only[intOf,Int.toNat_natCast];omega⟩
        ·have hbi:¬(b:Int)<n:=(by omega);have KJ:=aA hJ.out.1;have PX:=aA (hG.out.keep hJ.out.1);have XD:=aA (hJ.out.2.done (by omega));rw[HN.out] at XD;clear hJ;have eb:n=b:=(by omega);subst eb;obtain⟨gg,cap,W5,HAP,G5,K5⟩:=GS.pushW PX.out.r (some ⟨g3,0,none⟩) n n (by have h1:=HZ.out.r;have h2:=HLT.out;omega);have P5:=aA (show PrC rb V2 W5 I (.slice (some ⟨gg,0,none⟩) (a + 1) cap) (a + 1) (xs ++ [.slice (some ⟨g3,0,none⟩) n n])from PX.out.push (by rw[<-HN.out] at XD ⊢;exact XD.out) G5 K5);have HAP:=aA HAP;clear G5 K5 c0 c1 c2 c3 c4 c5 c6 c7 c8;go_wp2_with (at_builtin;refine Lib.wpList_append_run _ rfl _ _ _ _ rfl _ _ rfl rfl _ _ (HAP.out _) ?_)
         go_round
         case rel=>exact⟨a+1,_,by have:=HLT.out;omega,by have:wrap64 ((a:Int)+1)=((a+1:Nat):Int):=(by have:=B3.out;have:=HLT.out;rw[wrap64];omega);rw[this],P5⟩
         case measure=>have hw:wrap64 ((a:Int)+1)=((a+1:Nat):Int):=(by have:=B3.out;have:=HLT.out;rw[wrap64];omega);rw[hw];have:=HLT.out;simp only[intOf,Int.toNat_natCast];omega
      ·have hai:¬(a:Int)<no:=(by omega);have K3:=aA hG.out.r.kp;have ea:no=a:=(by omega);subst ea;have D3:=aA hG.out;have RB3:=aA ((hG.out.r.kp.block _ (lH RB2.out) (fun x=>x)).trans RB2.out);clear hG;go_upto_region 21 with fail;clear c0 c1 c2 c3 c4 c5 c6 c7 c8;have IM3:=IMa;clear IMa;obtain⟨V3,hV3⟩:∃ W,W=wr:=⟨_,rfl⟩;rw[<-hV3] at K3 D3 RB3 IM3 ⊢;clear hV3 hai ha';obtain⟨c0,c1,c2,c3,c4,c5,c6,c7,c8⟩:=IM3.out.cells;obtain⟨g4,hg4⟩:∃ g,g=V3.heap.size:=⟨_,rfl⟩;obtain⟨W4,mk4,x4,k4,-⟩:=pS 35 27 (.int .u64 0) 1 8 Tryz.underlying35 AB rfl nh (by have:=HZ.out.h;rw[<-NH.out] at this;omega) B4.out rb V3 (lH RB3.out);rw[<-hg4] at mk4 x4;have G4:=aA (show rb<g4/\g4=V3.heap.size from⟨by rw[hg4];exact lH RB3.out,hg4⟩);have X4:=aA (show XR rb W4 (.slice (some ⟨g4,0,none⟩) nh nh) nh 27 nh (cI (fun j=>.int .u64 ((I.hd.getD j 0:Nat):Int)) (fun j=>(Value.cells (.int .u64 0))[j%1]!) 0)by
        have:=x4.congr (G:=cI (fun j=>.int .u64 ((I.hd.getD j 0:Nat):Int)) (fun j=>(Value.cells (.int .u64 0))[j%1]!) 0) fun j hj=>(if_neg (by omega)).symm
        rwa [Nat.mul_one] at this)
       have Q4:=aA k4;clear x4 k4 hg4;go_wp2_with fail;clear c0 c1 c2 c3 c4 c5 c6 c7 c8 mk4;go_loopw [12] (fun iv W=>∃ a:Nat,a<=nh/\iv=.int .i64 a/\Hid (Kt nO V3 W/\XR rb W (.slice (some ⟨g4,0,none⟩) nh nh) nh 27 nh (cI (fun j=>.int .u64 ((I.hd.getD j 0:Nat):Int)) (fun j=>(Value.cells (.int .u64 0))[j%1]!) a))) (fun iv _=>nh-(intOf iv).toNat)
       case atStart=>exact⟨0,Nat.zero_le _,rfl,aA ⟨Q4.out,X4.out⟩⟩
       case round=>
        clear Q4 X4;obtain⟨a,ha',rfl,hG⟩:=hrel;have IMa:=aA (IM3.out.keep hG.out.1);obtain⟨c0,c1,c2,c3,c4,c5,c6,c7,c8⟩:=IMa.out.cells;by_cases hlt:a<nh
        ·have hai:(a:Int)<nh:=(by omega);obtain⟨bl,o,rfl,hs⟩:∃ bl o,ha=some ⟨bl,o,none⟩/\wr.cell? ⟨bl,o+a,none⟩=some (.int .u64 ((I.hd.getD a 0:Nat):Int)):=by
          obtain⟨-,oa,oc,e1,e2⟩:=IMa.out.d.hds
          cases e1
          rcases e2 with e2|⟨bl,o,rfl,-,hc'⟩
          ·rw[NH.out] at hlt;omega
          ·exact⟨bl,o,rfl,(hc' a (by rw[<-NH.out];exact hlt)).2⟩
         have t0:=hG.out.2.cell (j:=a) hlt;have z0:=hG.out.2.frz a;have R2:=aA (sN (k:=a) (x:=(fun j=>.int .u64 ((I.hd.getD j 0:Nat):Int)) a) hG.out.1 (Nat.le_of_eq G4.out.2.symm));have R3:=aA (hG.out.2.up hlt);have HLT:=aA hlt;clear hG hlt;go_wp2_with fail;have hw:wrap64 ((a:Int)+1)=((a+1:Nat):Int):=(by have:=B4.out;have:=HLT.out;rw[wrap64];omega);rw[hw];exact⟨⟨a+1,by have:=HLT.out;omega,rfl,aA ⟨R2.out,R3.out⟩⟩,by have:=HLT.out;simp only[intOf,Int.toNat_natCast];omega⟩
        ·have hai:¬(a:Int)<nh:=(by omega);have K4:=aA hG.out.1;have D4:=aA (hG.out.2.done (by omega));have RB4:=aA ((hG.out.1.block _ (lH RB3.out) (fun x=>x)).trans RB3.out);clear hG;have ea:nh=a:=(by omega);subst ea;go_upto_region 26 with fail;clear c0 c1 c2 c3 c4 c5 c6 c7 c8;have IM4:=IMa;clear IMa;obtain⟨V4,hV4⟩:∃ W,W=wr:=⟨_,rfl⟩;rw[<-hV4] at K4 D4 RB4 IM4 ⊢;clear hV4 hai ha';obtain⟨c0,c1,c2,c3,c4,c5,c6,c7,c8⟩:=IM4.out.cells;obtain⟨g5,hg5⟩:∃ g,g=V4.heap.size:=⟨_,rfl⟩;obtain⟨W5,mk5,x5,k5,-⟩:=pS 36 3 (.int .i64 0) 1 8 Tryz.underlying36 PZ rfl nt (by have:=HZ.out.t;rw[<-NT.out] at this;omega) B5.out rb V4 (lH RB4.out);rw[<-hg5] at mk5 x5;have G5:=aA (show rb<g5/\g5=V4.heap.size from⟨by rw[hg5];exact lH RB4.out,hg5⟩);have X5:=aA (show XR rb W5 (.slice (some ⟨g5,0,none⟩) nt nt) nt 3 nt (cI (fun j=>.int .i64 (I.pt.getD j 0)) (fun j=>(Value.cells (.int .i64 0))[j%1]!) 0)by
          have:=x5.congr (G:=cI (fun j=>.int .i64 (I.pt.getD j 0)) (fun j=>(Value.cells (.int .i64 0))[j%1]!) 0) fun j hj=>(if_neg (by omega)).symm
          rwa [Nat.mul_one] at this)
         have Q5:=aA k5;clear x5 k5 hg5;go_wp2_with fail;clear c0 c1 c2 c3 c4 c5 c6 c7 c8 mk5;go_loopw [14] (fun iv W=>∃ a:Nat,a<=nt/\iv=.int .i64 a/\Hid (Kt nO V4 W/\XR rb W (.slice (some ⟨g5,0,none⟩) nt nt) nt 3 nt (cI (fun j=>.int .i64 (I.pt.getD j 0)) (fun j=>(Value.cells (.int .i64 0))[j%1]!) a))) (fun iv _=>nt-(intOf iv).toNat)
         case atStart=>exact⟨0,Nat.zero_le _,rfl,aA ⟨Q5.out,X5.out⟩⟩
         case round=>
          clear Q5 X5;obtain⟨a,ha',rfl,hG⟩:=hrel;have IMa:=aA (IM4.out.keep hG.out.1);obtain⟨c0,c1,c2,c3,c4,c5,c6,c7,c8⟩:=IMa.out.cells;by_cases hlt:a<nt
          ·have hai:(a:Int)<nt:=(by omega);obtain⟨bl,o,rfl,hs⟩:∃ bl o,ta=some ⟨bl,o,none⟩/\wr.cell? ⟨bl,o+a,none⟩=some (.int .i64 (I.pt.getD a 0)):=by
            obtain⟨-,oa,oc,e1,e2⟩:=IMa.out.d.pts
            cases e1
            rcases e2 with e2|⟨bl,o,rfl,-,hc'⟩
            ·rw[NT.out] at hlt;omega
            ·exact⟨bl,o,rfl,(hc' a (by rw[<-NT.out];exact hlt)).2⟩
           have t0:=hG.out.2.cell (j:=a) hlt;have z0:=hG.out.2.frz a;have R2:=aA (sN (k:=a) (x:=(fun j=>.int .i64 (I.pt.getD j 0)) a) hG.out.1 (Nat.le_of_eq G5.out.2.symm));have R3:=aA (hG.out.2.up hlt);have HLT:=aA hlt;clear hG hlt;go_wp2_with fail;have hw:wrap64 ((a:Int)+1)=((a+1:Nat):Int):=(by have:=B5.out;have:=HLT.out;rw[wrap64];omega);rw[hw];exact⟨⟨a+1,by have:=HLT.out;omega,rfl,aA ⟨R2.out,R3.out⟩⟩,by have:=HLT.out;simp only[intOf,Int.toNat_natCast];omega⟩
          ·have hai:¬(a:Int)<nt:=(by omega);have K5:=aA hG.out.1;have D5:=aA (hG.out.2.done (by omega));have RB5:=aA ((hG.out.1.block _ (lH RB4.out) (fun x=>x)).trans RB4.out);clear hG;have ea:nt=a:=(by omega);subst ea;go_upto_region 31 with fail;clear c0 c1 c2 c3 c4 c5 c6 c7 c8;have IM5:=IMa;clear IMa;obtain⟨V5,hV5⟩:∃ W,W=wr:=⟨_,rfl⟩;rw[<-hV5] at K5 D5 RB5 IM5 ⊢;clear hV5 hai ha';obtain⟨c0,c1,c2,c3,c4,c5,c6,c7,c8⟩:=IM5.out.cells;have B:=RB5.out;have f0:V5.cell? ⟨rb,0,none⟩=some (.int .u64 0):=(by simp[World.cell?,B]);have y0:V5.frozen? ⟨rb,0,none⟩=false:=(by simp[World.frozen?,B]);have f1:V5.cell? ⟨rb,1,none⟩=some (.int .i64 0):=(by simp[World.cell?,B]);have y1:V5.frozen? ⟨rb,1,none⟩=false:=(by simp[World.frozen?,B]);have f2:V5.cell? ⟨rb,2,none⟩=some (.int .i64 0):=(by simp[World.cell?,B]);have y2:V5.frozen? ⟨rb,2,none⟩=false:=(by simp[World.frozen?,B]);have f3:V5.cell? ⟨rb,3,none⟩=some (.int .i64 0):=(by simp[World.cell?,B]);have y3:V5.frozen? ⟨rb,3,none⟩=false:=(by simp[World.frozen?,B]);have f4:V5.cell? ⟨rb,4,none⟩=some (.slice none 0 0):=(by simp[World.cell?,B]);have y4:V5.frozen? ⟨rb,4,none⟩=false:=(by simp[World.frozen?,B]);have f5:V5.cell? ⟨rb,5,none⟩=some (.slice none 0 0):=(by simp[World.cell?,B]);have y5:V5.frozen? ⟨rb,5,none⟩=false:=(by simp[World.frozen?,B]);have f6:V5.cell? ⟨rb,6,none⟩=some (.slice none 0 0):=(by simp[World.cell?,B]);have y6:V5.frozen? ⟨rb,6,none⟩=false:=(by simp[World.frozen?,B]);have f7:V5.cell? ⟨rb,7,none⟩=some (.slice none 0 0):=(by simp[World.cell?,B]);have y7:V5.frozen? ⟨rb,7,none⟩=false:=(by simp[World.frozen?,B]);have f8:V5.cell? ⟨rb,8,none⟩=some (.slice none 0 0):=(by simp[World.cell?,B]);have y8:V5.frozen? ⟨rb,8,none⟩=false:=(by simp[World.frozen?,B]);clear B;go_wp2_with fail;have ez1:=NM.out;have ez2:=NP.out;have ez3:=NO.out;have ez4:=NH.out;have ez5:=NT.out;subst ez1 ez2 ez3 ez4 ez5;have kS:=((((((((((Kt.refl (fun b=>b=rb) V5).setCell (p:=⟨rb,0,none⟩) rfl (.int .u64 I.bS)).setCell (p:=⟨rb,1,none⟩) rfl (.int .i64 I.lim)).setCell (p:=⟨rb,2,none⟩) rfl (.int .i64 I.ord)).setCell (p:=⟨rb,3,none⟩) rfl (.int .i64 I.reg)).setCell (p:=⟨rb,4,none⟩) rfl (.slice (some ⟨g1,0,none⟩) I.nm I.nm)).setCell (p:=⟨rb,5,none⟩) rfl (.slice (some ⟨g2,0,none⟩) I.np I.np)).setCell (p:=⟨rb,6,none⟩) rfl (.slice va I.no vc)).setCell (p:=⟨rb,7,none⟩) rfl (.slice (some ⟨g4,0,none⟩) I.hd.length I.hd.length)).setCell (p:=⟨rb,8,none⟩) rfl (.slice (some ⟨g5,0,none⟩) I.pt.length I.pt.length));refine bodyPost_ret (results_cell_row rfl _ _ _ _ _ _ _ rfl (st9 RB5.out _ _ _ _ _ _ _ _ _) Tryz.underlying38 rfl (by kernel_rfl)) rfl ?_;have nf:∀ {n N:Nat} {V:World} {v:Value} {T:TypeId} {F:Nat->Value},XR rb V v n T N F->∀ b,v.ownBlock=some b->¬b=rb:=fun h b hb e=>by have:=h.own hb;omega
           have kE:Kt nO W0 V5:=nT K1.out (nT K2.out (nT K3.out (nT K4.out K5.out)));have k15:Kt nO V1 V5:=nT K2.out (nT K3.out (nT K4.out K5.out));have k25:Kt nO V2 V5:=nT K3.out (nT K4.out K5.out);have k35:Kt nO V3 V5:=nT K4.out K5.out;have d1:=D1.out.keep k15;have d2:=D2.out.keep k25;have d3:=D3.out.keep k35;have d4:=D4.out.keep K5.out;have d5:=D5.out;have hle:w.heap.size<=rb:=(by have:=IB.out;have:=RBE.out;omega);have kw:Kt nO w V2:=nT K0.out (nT K1.out K2.out);have hnr:∀ b,(Value.slice va I.no vc).ownBlock=some b->¬b=rb:=fun b hb e=>by
            obtain⟨c,hc⟩:=xZ d3.r hb;rw[e,RB5.out] at hc
            cases hc
           have kF:=(nT K0.out kE).trans kS (fun _ _ x=>x) (fun x hx e=>absurd hx (by have:=IB.out;have:=RBE.out;omega));have hr:=GS.moved d3.r kS hnr kw.size kF;refine⟨⟨.slice (some ⟨g1,0,none⟩) I.nm I.nm,.slice (some ⟨g2,0,none⟩) I.np I.np,.slice va I.no vc,.slice (some ⟨g4,0,none⟩) I.hd.length I.hd.length,.slice (some ⟨g5,0,none⟩) I.pt.length I.pt.length⟩,rfl,⟨xs,?_⟩,kF⟩;exact⟨OK.out,(d1.keepS kS (nf d1)).le hle,(d2.keepS kS (nf d2)).le hle,hr,fun i hi=>((d3.u i hi).keepS kS (nf (d3.u i hi))).le hle,(d4.keepS kS (nf d4)).le hle,(d5.keepS kS (nf d5)).le hle⟩
end Go.Proofs.YtkfmheelhinjdaaGreatDoor.W
