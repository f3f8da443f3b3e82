import Derived.Test.YtkfmheelhinjdaaGreatDoorWi
set_option maxRecDepth 1000000
set_option maxHeartbeats 80000000
namespace Go.Proofs.YtkfmheelhinjdaaGreatDoor.W
open _root_.Go.Proofs.Tryz
open Go.RowKit
set_option linter.unusedVariables false
set_option maxHeartbeats 8000000
set_option maxRecDepth 6000
theorem ziY(va vb:Value)(n:Nat)(f:Nat->Nat)(w:World)(ha:bY w va n (tR w f))(hb:bY w vb n (tR w f)):
  Calls prog 65 #[va,vb] w fun e w'=>e=.returned (.bool true)/\Kt nO w w':=by
 obtain⟨hn,oa,oc,rfl,ha⟩:=ha;obtain⟨-,ob,od,rfl,hb⟩:=hb;have HA:=aA ha;have HB:=aA hb;have HN:=aA hn;clear ha hb hn;go_enter func65,ntmps65;go_wp2_with fail;go_loopw [5] (fun iv W=>∃ a:Nat,a<=n/\iv=.int .i64 a/\Hid (Kt nO w W)) (fun iv _=>n-(intOf iv).toNat)
 case atStart=>exact⟨0,Nat.zero_le _,rfl,aA (Kt.refl _ _)⟩
 case round=>
  obtain⟨a,ha,rfl,hK⟩:=hrel;by_cases hlt:a<n
  ·have hai:(a:Int)<n:=(by omega);obtain⟨ba,pa,rfl,-,hac⟩:=HA.out.resolve_left (by omega);obtain⟨bb,pb,rfl,-,hbc⟩:=HB.out.resolve_left (by omega);have h1:=hK.out.cell (fun x=>x) (hac a hlt).2;have h2:=hK.out.cell (fun x=>x) (hbc a hlt).2;have HLT:=aA hlt;clear hac hbc HA HB hlt ha;go_wp2_with fail;go_quiet (fail)
   go_wp2_with fail;have hw:wrap64 ((a:Int)+1)=((a+1:Nat):Int):=(by have:=HN.out;have:=HLT.out;rw[wrap64];omega);rw[hw];exact⟨⟨a+1,by have:=HLT.out;omega,rfl,aA (nT hK.out (oV wr nq))⟩,by have:=HLT.out;simp only[intOf,Int.toNat_natCast];omega⟩
  ·have hai:¬(a:Int)<n:=(by omega);go_wp2_with fail;go_ret;exact⟨rfl,hK.out⟩
theorem zhy(va vb:Value)(n:Nat)(pg:Nat->Pg)(w:World)(ha:bY w va n fun bl o i=>PgIn (pg i)/\jJ w bl o i (pg i))(hb:bY w vb n fun bl o i=>PgIn (pg i)/\jJ w bl o i (pg i)):
  Calls prog 66 #[va,vb] w fun e w'=>e=.returned (.bool true)/\Kt nO w w':=by
 obtain⟨hn,oa,oc,rfl,ha⟩:=ha;obtain⟨-,ob,od,rfl,hb⟩:=hb;have HA:=aA ha;have HB:=aA hb;have HN:=aA hn;have hae:=yL;clear ha hb hn;go_enter func66,ntmps66;go_wp2_with fail;go_loopw [5] (fun iv W=>∃ a:Nat,a<=n/\iv=.int .i64 a/\Hid (Kt nO w W)) (fun iv _=>n-(intOf iv).toNat)
 case atStart=>exact⟨0,Nat.zero_le _,rfl,aA (Kt.refl _ _)⟩
 case round=>
  obtain⟨a,ha,rfl,hK⟩:=hrel;by_cases hlt:a<n
  ·have hai:(a:Int)<n:=(by omega);obtain⟨ba,pa,rfl,-,hac⟩:=HA.out.resolve_left (by omega);obtain⟨bb,pb,rfl,-,hbc⟩:=HB.out.resolve_left (by omega);obtain⟨d0,d1,d2,d3,d4,d5,d6,d7,d8,d9,d10⟩:=((hac a hlt).2.keep hK.out).c;obtain⟨e0,e1,e2,e3,e4,e5,e6,e7,e8,e9,e10⟩:=((hbc a hlt).2.keep hK.out).c;have HLT:=aA hlt;generalize pg a=p at *;clear hac hbc HA HB hlt ha;go_wp2_with fail;go_quiet (fail)
   go_wp2_with fail;have hw:wrap64 ((a:Int)+1)=((a+1:Nat):Int):=(by have:=HN.out;have:=HLT.out;rw[wrap64];omega);rw[hw];exact⟨⟨a+1,by have:=HLT.out;omega,rfl,aA (nT hK.out (oV wr nq))⟩,by have:=HLT.out;simp only[intOf,Int.toNat_natCast];omega⟩
  ·have hai:¬(a:Int)<n:=(by omega);go_wp2_with fail;go_ret;exact⟨rfl,hK.out⟩
theorem yT{w:World}{v:Value}{zs:List Nat}(h:Src w v zs):∃ so sc,v=.slice so zs.length sc/\∀ W,Kt nO w W->∀ j,j<zs.length->∃ bb oo,so=some ⟨bb,oo,none⟩/\W.cell? ⟨bb,oo+j,none⟩=some (.int .u64 ((zs.getD j 0:Nat):Int)):=by
 obtain⟨-,so,sc,rfl,hsc⟩:=h;refine⟨so,sc,rfl,fun W hW j hj=>?_⟩;rcases hsc with e|⟨ad,rfl,-,hc'⟩
 ·rw[e] at hj;simp at hj
 ·have g0:=hc' 0 (by omega);have e0:ad.add 0=ad:=by simp[Addr.add]
  rw[e0] at g0;obtain⟨bb,oo,s⟩:=ad
  cases s with
  | some s=>simp[World.cell?] at g0;split at g0 <;> simp at g0
  | none=>
   have:=hc' j (by omega);rw[Addr.add_lit] at this;exact⟨bb,oo,rfl,hW.cell (fun x=>x) this⟩
theorem ziZ(I:Img)(V U:ImV)(w:World)(hI:ImD w I V)(hU:ImD w I U)(hpr:∀ i,i<I.no->(I.pr i).length<=9223372036854775807):
  Calls prog 25 #[imA I V,imA I U] w fun e w'=>e=.returned (.bool true)/\Kt nO w w':=by
 obtain⟨⟨ma,mc,hm⟩,⟨pa,pc,hp⟩,⟨ra,rc,hr⟩,⟨ha,hc,hh⟩,⟨ta,tc,ht⟩,-⟩:=hI.sl;obtain⟨⟨ma',mc',hm'⟩,⟨pa',pc',hp'⟩,⟨ra',rc',hr'⟩,⟨ha',hc',hh'⟩,⟨ta',tc',ht'⟩,-⟩:=hU.sl;obtain⟨vm,vp,vr,vh,vt⟩:=V;obtain⟨um,up,ur,uh,ut⟩:=U;dsimp only at hm hp hr hh ht hm' hp' hr' hh' ht';subst hm hp hr hh ht hm' hp' hr' hh' ht';have OK:=aA hI.ok;have HPR:=aA hpr;have DI:=aA hI;have DU:=aA hU;clear hI hU hpr;go_enter func25,ntmps25;go_upto_region 1 with fail;refine DG (P:=fun W=>Code.wp prog _ _ _ W) _ ?_;intro W0 hW0;have k0:Kt nO w W0:=hW0▸((Kt.refl _ w).alloc _).alloc _;have IA:=aA (show ImAt W0 w.heap.size I ⟨.slice ma I.nm mc,.slice pa I.np pc,.slice ra I.no rc,.slice ha I.hd.length hc,.slice ta I.pt.length tc⟩from⟨by
  subst hW0;show((w.heap.push _).push _)[w.heap.size]?=_
  rw[Array.getElem?_push,if_neg (by simp),Array.getElem?_push,if_pos rfl],DI.out.keep k0⟩)
 have IB:=aA (show ImAt W0 (w.heap.size+1) I ⟨.slice ma' I.nm mc',.slice pa' I.np pc',.slice ra' I.no rc',.slice ha' I.hd.length hc',.slice ta' I.pt.length tc'⟩from⟨by
  subst hW0;exact sS w _ _,DU.out.keep k0⟩)
 have K0:=aA k0;clear hW0 k0 DI DU;obtain⟨nm,hnm⟩:∃ n,n=I.nm:=⟨_,rfl⟩;obtain⟨np,hnp⟩:∃ n,n=I.np:=⟨_,rfl⟩;obtain⟨no,hno⟩:∃ n,n=I.no:=⟨_,rfl⟩;obtain⟨nh,hnh⟩:∃ n,n=I.hd.length:=⟨_,rfl⟩;obtain⟨nt,hnt⟩:∃ n,n=I.pt.length:=⟨_,rfl⟩;have NO:=aA hno;have NH:=aA hnh;have NT:=aA hnt;have B3:=aA (show no<=9223372036854775807 by rw[hno];exact OK.out.no);have B4:=aA (show nh<=9223372036854775807 by rw[hnh];exact OK.out.nh);have B5:=aA (show nt<=9223372036854775807 by rw[hnt];exact OK.out.nt);have S2:=aA (ziY _ _ _ _ W0 IA.out.d.mem IB.out.d.mem);rw[<-hnm,<-hnp,<-hno,<-hnh,<-hnt] at IA IB;dsimp only at S2;rw[<-hnm] at S2;clear hnm hno hnh hnt;obtain⟨c0,c1,c2,c3,c4,c5,c6,c7,c8⟩:=IA.out.cells;obtain⟨d0,d1,d2,d3,d4,d5,d6,d7,d8⟩:=IB.out.cells;generalize w.heap.size+1=ub at *;generalize w.heap.size=vb at *;go_wp2_with fail;refine S2.out.mono ?_;rintro e w1 ⟨rfl,k1⟩;have SP:=aA (zhy _ _ _ _ w1 (IA.out.keep k1).d.pgs (IB.out.keep k1).d.pgs);dsimp only at SP;replace IA:=aA (IA.out.keep k1);replace IB:=aA (IB.out.keep k1);have K1:=aA (nT K0.out k1);clear k1 K0 S2 hnp c0 c1 c2 c3 c4 c5 c6 c7 c8 d0 d1 d2 d3 d4 d5 d6 d7 d8;obtain⟨c0,c1,c2,c3,c4,c5,c6,c7,c8⟩:=IA.out.cells;obtain⟨d0,d1,d2,d3,d4,d5,d6,d7,d8⟩:=IB.out.cells;go_wp2_with fail;refine SP.out.mono ?_;rintro e w2 ⟨rfl,k2⟩;replace IA:=aA (IA.out.keep k2);replace IB:=aA (IB.out.keep k2);have K2:=aA (nT K1.out k2);clear k2 K1 SP c0 c1 c2 c3 c4 c5 c6 c7 c8 d0 d1 d2 d3 d4 d5 d6 d7 d8;obtain⟨c0,c1,c2,c3,c4,c5,c6,c7,c8⟩:=IA.out.cells;obtain⟨d0,d1,d2,d3,d4,d5,d6,d7,d8⟩:=IB.out.cells;go_wp2_with fail;clear c0 c1 c2 c3 c4 c5 c6 c7 c8 d0 d1 d2 d3 d4 d5 d6 d7 d8;go_loopw [5] (fun iv W=>∃ a:Nat,a<=no/\iv=.int .i64 a/\Hid (Kt nO w2 W)) (fun iv _=>no-(intOf iv).toNat)
 case atStart=>exact⟨0,Nat.zero_le _,rfl,aA (Kt.refl _ _)⟩
 case round=>
  obtain⟨a,hla,rfl,hK⟩:=hrel;obtain⟨c0,c1,c2,c3,c4,c5,c6,c7,c8⟩:=(IA.out.keep hK.out).cells;obtain⟨d0,d1,d2,d3,d4,d5,d6,d7,d8⟩:=(IB.out.keep hK.out).cells;by_cases hlt:a<no
  ·have hai:(a:Int)<no:=(by omega);have hlt':a<I.no:=(by rw[<-NO.out];exact hlt);obtain⟨bl,o,so,sc,rfl,hcc,SA⟩:∃ bl o so sc,ra=some ⟨bl,o,none⟩/\(∀ W,Kt nO w2 W->W.cell? ⟨bl,o+a,none⟩=some (.slice so (I.pr a).length sc))/\Hid (∀ W,Kt nO w2 W->∀ j,j<(I.pr a).length->∃ bb oo,so=some ⟨bb,oo,none⟩/\W.cell? ⟨bb,oo+j,none⟩=some (.int .u64 (((I.pr a).getD j 0:Nat):Int))):=by
    obtain⟨ws,-,oa,oc,e1,e2⟩:=IA.out.d.prs
    cases e1
    rcases e2 with e2|⟨bl,o,rfl,-,hc'⟩
    ·omega
    ·obtain⟨q1,q2⟩:=hc' a hlt';obtain⟨so,sc,q3,q4⟩:=yT q2;exact⟨bl,o,so,sc,rfl,fun W hW=>by rw[<-q3];exact hW.cell (fun x=>x) q1,aA q4⟩
   obtain⟨bl',o',so',sc',rfl,hcc',SB⟩:∃ bl o so sc,ra'=some ⟨bl,o,none⟩/\(∀ W,Kt nO w2 W->W.cell? ⟨bl,o+a,none⟩=some (.slice so (I.pr a).length sc))/\Hid (∀ W,Kt nO w2 W->∀ j,j<(I.pr a).length->∃ bb oo,so=some ⟨bb,oo,none⟩/\W.cell? ⟨bb,oo+j,none⟩=some (.int .u64 (((I.pr a).getD j 0:Nat):Int))):=by
    obtain⟨ws,-,oa,oc,e1,e2⟩:=IB.out.d.prs
    cases e1
    rcases e2 with e2|⟨bl,o,rfl,-,hc'⟩
    ·omega
    ·obtain⟨q1,q2⟩:=hc' a hlt';obtain⟨so,sc,q3,q4⟩:=yT q2;exact⟨bl,o,so,sc,rfl,fun W hW=>by rw[<-q3];exact hW.cell (fun x=>x) q1,aA q4⟩
   have BN:=aA (HPR.out a hlt');generalize I.pr a=zs at *;obtain⟨n,hn⟩:=xe (zs.length);rw[<-hn] at hcc hcc' SA SB BN;have f1:=hcc wr hK.out;have f2:=hcc' wr hK.out;have HCC:=aA hcc;have HCC':=aA hcc';have HLT:=aA hlt;clear hn hcc hcc' hlt hlt' hla;go_wp2_with fail;go_quiet (fail)
   clear f1 f2 c0 c1 c2 c3 c4 c5 c6 c7 c8 d0 d1 d2 d3 d4 d5 d6 d7 d8;have KQ:=aA (nT hK.out (oV wr nq));generalize wr.drewN nq=wq at *;clear hK;obtain⟨c0,c1,c2,c3,c4,c5,c6,c7,c8⟩:=(IA.out.keep KQ.out).cells;obtain⟨d0,d1,d2,d3,d4,d5,d6,d7,d8⟩:=(IB.out.keep KQ.out).cells;go_wp2_with fail;clear c0 c1 c2 c3 c4 c5 c6 c7 c8 d0 d1 d2 d3 d4 d5 d6 d7 d8;go_loopw [6] (fun iv W=>∃ b:Nat,b<=n/\iv=.int .i64 b/\Hid (Kt nO w2 W)) (fun iv _=>n-(intOf iv).toNat)
   case atStart=>exact⟨0,Nat.zero_le _,rfl,KQ⟩
   case round=>
    obtain⟨b,hlb,rfl,hJ⟩:=hrel;obtain⟨c0,c1,c2,c3,c4,c5,c6,c7,c8⟩:=(IA.out.keep hJ.out).cells;obtain⟨d0,d1,d2,d3,d4,d5,d6,d7,d8⟩:=(IB.out.keep hJ.out).cells;have f1:=HCC.out _ hJ.out;have f2:=HCC'.out _ hJ.out;by_cases hlt:b<n
    ·have hbi:(b:Int)<n:=(by omega);obtain⟨bb,oo,rfl,g1⟩:=SA.out _ hJ.out b hlt;obtain⟨bb',oo',rfl,g2⟩:=SB.out _ hJ.out b hlt;have HLB:=aA hlt;clear hlt hlb;go_wp2_with fail;go_quiet (fail)
     go_wp2_with fail;have hw:wrap64 ((b:Int)+1)=((b+1:Nat):Int):=(by have:=BN.out;have:=HLB.out;rw[wrap64];omega);rw[hw];exact⟨⟨b+1,by have:=HLB.out;omega,rfl,aA (nT hJ.out (oV _ nq))⟩,by have:=HLB.out;simp only[intOf,Int.toNat_natCast];omega⟩
    ·have hbi:¬(b:Int)<n:=(by omega);go_wp2_with fail;have hw:wrap64 ((a:Int)+1)=((a+1:Nat):Int):=(by have:=B3.out;have:=HLT.out;rw[wrap64];omega);go_round
     case rel=>exact⟨a+1,by have:=HLT.out;omega,by rw[hw],hJ⟩
     case measure=>rw[hw];have:=HLT.out;simp only[intOf,Int.toNat_natCast];omega
  ·have hai:¬(a:Int)<no:=(by omega);have K3:=aA hK.out;clear hK;go_wp2_with fail;clear c0 c1 c2 c3 c4 c5 c6 c7 c8 d0 d1 d2 d3 d4 d5 d6 d7 d8;go_loopw [7] (fun iv W=>∃ b:Nat,b<=nh/\iv=.int .i64 b/\Hid (Kt nO w2 W)) (fun iv _=>nh-(intOf iv).toNat)
   case atStart=>exact⟨0,Nat.zero_le _,rfl,K3⟩
   case round=>
    obtain⟨b,hlb,rfl,hJ⟩:=hrel;obtain⟨c0,c1,c2,c3,c4,c5,c6,c7,c8⟩:=(IA.out.keep hJ.out).cells;obtain⟨d0,d1,d2,d3,d4,d5,d6,d7,d8⟩:=(IB.out.keep hJ.out).cells;by_cases hlt:b<nh
    ·have hbi:(b:Int)<nh:=(by omega);obtain⟨bl,o,rfl,g1⟩:∃ bl o,ha=some ⟨bl,o,none⟩/\wr.cell? ⟨bl,o+b,none⟩=some (.int .u64 ((I.hd.getD b 0:Nat):Int)):=by
      obtain⟨-,oa,oc,e1,e2⟩:=(IA.out.keep hJ.out).d.hds
      cases e1
      rcases e2 with e2|⟨bl,o,rfl,-,hc'⟩
      ·rw[NH.out] at hlt;omega
      ·exact⟨bl,o,rfl,(hc' b (by rw[<-NH.out];exact hlt)).2⟩
     obtain⟨bl',o',rfl,g2⟩:∃ bl o,ha'=some ⟨bl,o,none⟩/\wr.cell? ⟨bl,o+b,none⟩=some (.int .u64 ((I.hd.getD b 0:Nat):Int)):=by
      obtain⟨-,oa,oc,e1,e2⟩:=(IB.out.keep hJ.out).d.hds
      cases e1
      rcases e2 with e2|⟨bl,o,rfl,-,hc'⟩
      ·rw[NH.out] at hlt;omega
      ·exact⟨bl,o,rfl,(hc' b (by rw[<-NH.out];exact hlt)).2⟩
     have HLB:=aA hlt;clear hlt hlb;go_wp2_with fail;go_quiet (fail)
     go_wp2_with fail;have hw:wrap64 ((b:Int)+1)=((b+1:Nat):Int):=(by have:=B4.out;have:=HLB.out;rw[wrap64];omega);rw[hw];exact⟨⟨b+1,by have:=HLB.out;omega,rfl,aA (nT hJ.out (oV _ nq))⟩,by have:=HLB.out;simp only[intOf,Int.toNat_natCast];omega⟩
    ·have hbi:¬(b:Int)<nh:=(by omega);have K4:=aA hJ.out;clear hJ;go_wp2_with fail;clear c0 c1 c2 c3 c4 c5 c6 c7 c8 d0 d1 d2 d3 d4 d5 d6 d7 d8;go_loopw [8] (fun iv W=>∃ b:Nat,b<=nt/\iv=.int .i64 b/\Hid (Kt nO w2 W)) (fun iv _=>nt-(intOf iv).toNat)
     case atStart=>exact⟨0,Nat.zero_le _,rfl,K4⟩
     case round=>
      obtain⟨b2,hlb2,rfl,hJ⟩:=hrel;obtain⟨c0,c1,c2,c3,c4,c5,c6,c7,c8⟩:=(IA.out.keep hJ.out).cells;obtain⟨d0,d1,d2,d3,d4,d5,d6,d7,d8⟩:=(IB.out.keep hJ.out).cells;by_cases hlt:b2<nt
      ·have hbi2:(b2:Int)<nt:=(by omega);obtain⟨bl,o,rfl,g1⟩:∃ bl o,ta=some ⟨bl,o,none⟩/\wr.cell? ⟨bl,o+b2,none⟩=some (.int .i64 (I.pt.getD b2 0)):=by
        obtain⟨-,oa,oc,e1,e2⟩:=(IA.out.keep hJ.out).d.pts
        cases e1
        rcases e2 with e2|⟨bl,o,rfl,-,hc'⟩
        ·rw[NT.out] at hlt;omega
        ·exact⟨bl,o,rfl,(hc' b2 (by rw[<-NT.out];exact hlt)).2⟩
       obtain⟨bl',o',rfl,g2⟩:∃ bl o,ta'=some ⟨bl,o,none⟩/\wr.cell? ⟨bl,o+b2,none⟩=some (.int .i64 (I.pt.getD b2 0)):=by
        obtain⟨-,oa,oc,e1,e2⟩:=(IB.out.keep hJ.out).d.pts
        cases e1
        rcases e2 with e2|⟨bl,o,rfl,-,hc'⟩
        ·rw[NT.out] at hlt;omega
        ·exact⟨bl,o,rfl,(hc' b2 (by rw[<-NT.out];exact hlt)).2⟩
       have HLB:=aA hlt;clear hlt hlb2;go_wp2_with fail;go_quiet (fail)
       go_wp2_with fail;have hw:wrap64 ((b2:Int)+1)=((b2+1:Nat):Int):=(by have:=B5.out;have:=HLB.out;rw[wrap64];omega);rw[hw];exact⟨⟨b2+1,by have:=HLB.out;omega,rfl,aA (nT hJ.out (oV _ nq))⟩,by have:=HLB.out;simp only[intOf,Int.toNat_natCast];omega⟩
      ·have hbi2:¬(b2:Int)<nt:=(by omega);have K5:=aA hJ.out;clear hJ;go_wp2_with fail;go_ret;exact⟨rfl,nT K2.out K5.out⟩
end Go.Proofs.YtkfmheelhinjdaaGreatDoor.W
