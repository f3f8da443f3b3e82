import Derived.Test.YtbgbfpklgfpepaaGreatDoorWp
set_option maxRecDepth 1000000
set_option maxHeartbeats 80000000
namespace Go.Proofs.YtbgbfpklgfpepaaGreatDoor
open Tryz
open Go.RowKit
set_option linter.unusedVariables false
section
variable {w W W':World} {hb n:Nat} {f0 f1:List Nat} {ls:List (Nat×Nat)} {S:Sb} {v:Bool}
theorem HW.pl_slab{x:Bx}{t:Bt}{fr:Nat->List Nat}{sb lw:Nat}{s:Int}(H:HW w W hb sb lw x t fr ls S s){g k:Nat}(hc:S.c g=some k):fV (t.m.pg g)=(aH k-(S.fl g).length)*aC k/\fW (t.m.pg g)=aH k-(S.fl g).length/\fM (t.m.pg g)=0:=by
 obtain⟨h',o⟩:=H.so;obtain⟨hk,sp⟩:=o.si.pg g k hc;refine⟨?_,?_,?_⟩
 ·unfold fV;rw[sp.kd,if_neg (by decide),if_pos rfl,sp.lv,sp.cl,Int.toNat_natCast,Int.toNat_natCast]
 ·unfold fW;rw[sp.kd,if_neg (by decide),if_pos rfl,sp.lv,Int.toNat_natCast]
 ·unfold fM;rw[sp.kd,if_neg (by decide)]
theorem KH.stats2(s:KH w W hb 8192 f0 f1 ls S v)(k0 k1:Nat)(h0:S.c 0=some k0)(h1:S.c 1=some k1)(L B:Nat)(hL:L=(aH k0-(S.fl 0).length)*aC k0+(aH k1-(S.fl 1).length)*aC k1)(hB:B=aH k0-(S.fl 0).length+(aH k1-(S.fl 1).length)):
  Calls prog 13 #[.pointer (some ⟨hb,0,none⟩)] W fun e w'=>e=.returned (yP 8192 L B 0)/\KH w w' hb 8192 f0 f1 ls S v:=by
 have s0:=s;obtain⟨sb,lw,x,t,fr,H,hb0,hli,ho,hR,hxn,hf0,hf1,hv⟩:=s;have hpg:=KH.pages H hxn;have h2:t.m.n=2:=by omega
 obtain⟨a1,a2,a3⟩:=H.pl_slab h0;obtain⟨b1,b2,b3⟩:=H.pl_slab h1;refine(tQ H).mono ?_;rintro e w' ⟨rfl,kp⟩;refine⟨?_,s0.keep kp⟩;rw[h2,hxn,show cT fV t.m 2=L by show 0+fV (t.m.pg 0)+fV (t.m.pg 1)=L;rw[a1,b1];omega,show cT fW t.m 2=B by show 0+fW (t.m.pg 0)+fW (t.m.pg 1)=B;rw[a2,b2];omega,show cT fM t.m 2=0 by show 0+fM (t.m.pg 0)+fM (t.m.pg 1)=0;rw[a3,b3]]
end
open Go.MuLone
open Go.Proofs.YtbgbfpklgfpepaaGreatDoor.M (RS gJ mayB bE)
structure Wl8(W V:World)(yb bS:Nat)(L o n:Int)(vb u z:Value)(m:Nat)(q q':List (Nat×Nat))(k:Nat):Prop where
 kp:Kt nO W V
 bx:V.heap[yb]?=some (aM bS L o n vb)
 gu:GS W V 74 2 u m (dC q')
 gz:GS W V 162 2 z m (dC q)
 nu:∀ g,u.ownBlock=some g->W.heap.size<=g
 ln:q'.length=m
 sm:∀ j,k<=j->q'[j]?=q[j]?
theorem Wl8.keep{W V V':World}{yb bS:Nat}{L o n:Int}{vb u z:Value}{m:Nat}{q q':List (Nat×Nat)}{k:Nat}(h:Wl8 W V yb bS L o n vb u z m q q' k)(kk:Kt nO V V'):Wl8 W V' yb bS L o n vb u z m q q' k:=⟨nT h.kp kk,bK h.bx kk,h.gu.keep kk,h.gz.keep kk,h.nu,h.ln,h.sm⟩
theorem Wl8.set{W V:World}{yb bS:Nat}{L o n:Int}{vb z:Value}{g cap m:Nat}{q q':List (Nat×Nat)}{k:Nat}(h:Wl8 W V yb bS L o n vb (.slice (some ⟨g,0,none⟩) m cap) z m q q' k):Wl8 W ((V.setCell ⟨g,k*2,none⟩ (.int .u64 5)).setCell ⟨g,k*2+1,none⟩ (.int .u64 6)) yb bS L o n vb (.slice (some ⟨g,0,none⟩) m cap) z m q (q'.set k (5,6)) (k+1):=by
 have hg:W.heap.size<=g:=h.nu g rfl;have gu:=h.gu.setB hg k (5,6);have kk:Kt (fun y=>y=g) V ((V.setCell ⟨g,k*2,none⟩ (.int .u64 5)).setCell ⟨g,k*2+1,none⟩ (.int .u64 6)):=((Kt.refl (fun y=>y=g) V).setCell (p:=⟨g,k*2,none⟩) rfl _).setCell (p:=⟨g,k*2+1,none⟩) rfl _;obtain⟨cs,hcs⟩:=cB h.gu.own (y:=g) rfl;refine⟨gu.kp,(kk.block _ (lH h.bx) (fun e=>?_)).trans h.bx,gu,⟨qC h.gz.own kk (fun y hy e=>?_),h.gz.new,gu.kp⟩,h.nu,by rw[List.length_set];exact h.ln,fun j hj=>?_⟩
 ·subst e;exact absurd (bM hcs h.bx) (by decide)
 ·subst e;obtain⟨cs',hcs'⟩:=cB h.gz.own hy;exact absurd (bM hcs hcs') (by decide)
 ·rw[List.getElem?_set_ne (by omega)];exact h.sm j (by omega)
theorem sJ(h L B F:Int)(w:World):Sem.run prog (Instr.field 35 (.agg #[.int .u64 h,.int .u64 L,.int .i64 B,.int .i64 F]) 0) w=.ok (.int .u64 h) w:=by kernel_rfl
theorem HW.readAll{w W:World}{hb sb lw:Nat}{x:Bx}{t:Bt}{fr:Nat->List Nat}{ls:List (Nat×Nat)}{S:Sb}(H:HW w W hb sb lw x t fr ls S 0){p z:Nat}(hl:aG x ls S p z)(hp:p<18446744073709551616)(hz:z<18446744073709551616):
  Calls prog 60 #[.pointer (some ⟨hb,0,none⟩),.int .u64 p,.int .u64 z] W fun e w'=>∃ g,e=.returned (.tuple #[.slice (some ⟨g,0,none⟩) z z,.int .i64 0])/\W.heap.size<=g/\M.Blk w' g z (fun i=>t.f (p-x.bS+i))/\Kt nO W w':=by
 obtain⟨h,o⟩:=H.so;have h0:=(o.span hl).1;refine(zS H p z hp hz).mono ?_;rintro e w' ⟨v,er,rfl,hR,kp⟩
 cases hR with
 | nil g hn=>omega
 | ok g hn hw hv he hg hB=>
  subst hv he;exact⟨g,rfl,hg,hB,kp⟩
 | bad hn hw=>
  rcases hw with ⟨e,_⟩|⟨_,e⟩
  ·cases e
  ·exact absurd ⟨Nat.le_refl _,by omega,Nat.le_refl _⟩ (e p z hl)
theorem RK{W:World}{g z:Nat}{cs:Array Value}(h:W.heap[g]?=some (.cells cs 5 (0,0)))(hz:cs.size=z)(k:Nat)(u:Value):∃ cs':Array Value,(W.setCell ⟨g,k,none⟩ u).heap[g]?=some (.cells cs' 5 (0,0))/\cs'.size=z:=by
 have:=bB h k u;refine⟨_,this,?_⟩;simp[hz]
theorem OH{E:Nat->Prop}{w1 W:World}{hb bS lim o n:Nat}{v:Value}{l:List He8}(C:Cn8 bS lim o)(P:iZ E w1 W hb bS lim o n v l):
  Calls prog 63 #[.pointer (some ⟨hb,0,none⟩),aK bS (lim:Int) (o:Int) (n:Int) v] W fun e w'=>e=.returned (.bool true)/\Kt nO W w':=by
 obtain⟨sb,lw,x,t,fr,ls,S,H,rfl,rfl,rfl,hn,A,L,by0⟩:=P;obtain⟨va,vc,rfl⟩:=A.B.val;have hln:=A.B.ln;have hAB:=A.B;have Lp:=L.perm H.ll_lv;clear A;obtain⟨m,hm⟩:=xe (l.length);have HM:=aA hm;rw[<-hm] at hAB hln ⊢;clear hm;have hnl:=H.nle hn;have K0:=aA ((Kt.refl nO W).alloc (aM x.bS (x.lim:Int) (x.o:Int) (n:Int) (.slice va m vc)));have X0:=aA (nH W (aM x.bS (x.lim:Int) (x.o:Int) (n:Int) (.slice va m vc)));have LV:=aA (fun W' (k:Kt nO W W')=>LO (H.keep k));have BL:=aA (fun W' (k:Kt nO W W')=>uG x.bS (x.lim:Int) (x.o:Int) (n:Int) (.slice va m vc) l W' (hAB.keep k));have HR:=aA (And.intro (H.rise t.m.n (Nat.le_refl _)) Lp);have HH:=aA H;have HL:=aA (fun h (hh:h∈l)=>(L.ex h.p h.s).2 (pT hh));have HA:=aA hAB;have HB:=aA by0;obtain⟨q,hq⟩:=xe (hZ x t S t.m.n);rw[<-hq] at LV HR;clear H hAB Lp L by0 hq;go_enter func63,ntmps63;go_wp2_with fail;refine(LV.out _ K0.out).mono ?_;rintro e wa ⟨u,rfl,hGu,hNu⟩;have GU:=aA (And.intro hGu hNu);have K1:=aA (nT K0.out hGu.kp);have X1:=aA (bK X0.out hGu.kp);clear hGu hNu K0 X0 LV;obtain⟨b0,b1,b2,b3,b4,bf⟩:=aD X1.out;go_wp2_with fail;refine(BL.out _ K1.out).mono ?_;rintro e wb ⟨z,rfl,hGz,hNz⟩;have hbd:∀ b∈aR l,b.1<2 ^ 64/\b.2<2 ^ 64:=fun b hb=>by
  obtain⟨h,hh,rfl⟩:=List.mem_map.1 hb;have:=HA.out.bd h hh;exact⟨by show h.p<_;omega,by show h.s<_;omega⟩
 have RI:=aA (ZQ z (aR l) (by rw[jG,<-HM.out];exact hln) wb (GS.bl8 (by rw[jG];exact hGz) (by rw[jG,<-HM.out];omega) hbd));have K2:=aA (nT K1.out hGz.kp);have X2:=aA (bK X1.out hGz.kp);have G2:=aA (And.intro (GU.out.1.keep hGz.kp) GU.out.2);clear hGz hNz hbd b0 b1 b2 b3 b4 bf BL X1 GU;go_wp2_with fail;refine RI.out.mono ?_;rintro e wc ⟨y,q2,rfl,hGy,hPy,hRy,hNy⟩;have hq2:q2=q:=CA hRy HR.out.1 (hPy.trans HR.out.2);subst hq2;have hml:q2.length=m:=by rw[hPy.length_eq,jG,HM.out]
 rw[jG,<-HM.out] at hGy;have W0:=aA (show Wl8 W wc W.heap.size x.bS (x.lim:Int) (x.o:Int) (n:Int) (.slice va m vc) u y m q2 q2 0 from⟨nT K2.out hGy.kp,bK X2.out hGy.kp,by
  have:=(GS.keep G2.out.1 hGy.kp).old8 ((Kt.refl nO W).alloc (aM x.bS (x.lim:Int) (x.o:Int) (n:Int) (.slice va m vc)));rw[hml] at this;exact this,hGy.old8 K2.out,fun g e=>Nat.le_trans (by simp) (G2.out.2 g e),hml,fun j _=>rfl⟩)
 clear hGy hNy hPy hRy K2 X2 G2 K1 RI HR;obtain⟨ua,uc,rfl⟩:=eR W0.out.gu.own;obtain⟨ya,yc,rfl⟩:=eR W0.out.gz.own;have HYB:=aA (show W.heap.size<=W.heap.size from Nat.le_refl _);generalize hyb:W.heap.size=yb at W0 ⊢;clear HYB;go_wp2_with fail;go_loopw [7] (fun i V=>∃ (k:Nat) (q':List (Nat×Nat)),k<=m/\i=.int .i64 k/\Hid (Wl8 W V yb x.bS (x.lim:Int) (x.o:Int) (n:Int) (.slice va m vc) (.slice ua m uc) (.slice ya m yc) m q2 q' k)) (fun i _=>m-(intOf i).toNat)
 case atStart=>exact⟨0,q2,Nat.zero_le _,rfl,W0⟩
 case round=>
  clear W0;obtain⟨k,q',hk,rfl,hQ⟩:=hrel;by_cases hlt:k<m
  ·have hki:(k:Int)<m:=(by omega);obtain⟨b,hb⟩:∃ b,q2[k]?=some b:=⟨_,List.getElem?_eq_getElem (by omega)⟩;have hb':q'[k]?=some b:=(by rw[hQ.out.sm k (Nat.le_refl _)];exact hb);obtain⟨e1,e2⟩:=oL q' k b hb';obtain⟨f1,f2⟩:=oL q2 k b hb;obtain⟨g,rfl,c0⟩:=gW hQ.out.gu.own e1;obtain⟨g',eg,c1⟩:=gW hQ.out.gu.own e2;injection eg with eg
   injection eg with eg
   subst eg;obtain⟨y,rfl,d0⟩:=gW hQ.out.gz.own f1;obtain⟨y',ey,d1⟩:=gW hQ.out.gz.own f2;injection ey with ey
   injection ey with ey
   subst ey;obtain⟨cs,hcs⟩:=cB hQ.out.gu.own (y:=g) rfl;have fz:∀ j,wr.frozen? ⟨g,j,none⟩=false:=fun j=>by simp[World.frozen?,hcs]
   have E9:=aA (fun d=>(hQ.out.keep ((Kt.refl nO wr).drewN d)).set);obtain⟨bp,bs⟩:=b;dsimp only at *;clear hQ hcs hb hb' e1 e2 f1 f2;go_wp2_with fail;go_quiet (fail)
   go_wp2_with fail;exact⟨⟨k+1,_,by omega,by simp,aA (E9.out _)⟩,by simp[intOf];omega⟩
  ·obtain rfl:k=m:=(by omega);have hkk:¬(k:Int)<k:=(by omega);have B0:=aA (And.intro hQ.out.kp hQ.out.bx);clear hQ;go_wp2_with fail;go_loopw [8] (fun i V=>∃ j:Nat,j<=k/\i=.int .i64 j/\Hid (Kt nO W V/\V.heap[yb]?=some (aM x.bS (x.lim:Int) (x.o:Int) (n:Int) (.slice va k vc)))) (fun i _=>k-(intOf i).toNat)
   case atStart=>exact⟨0,Nat.zero_le _,rfl,B0⟩
   case round=>
    clear B0;obtain⟨j,hj,rfl,hR⟩:=hrel;obtain⟨b0,b1,b2,b3,b4,bf⟩:=aD hR.out.2;by_cases hlj:j<k
    ·have hji:(j:Int)<k:=(by omega);obtain⟨h,hh⟩:∃ h,l[j]?=some h:=⟨_,List.getElem?_eq_getElem (by rw[<-HM.out];exact hlj)⟩;have hhm:=List.mem_of_getElem? hh;have hbd:=HA.out.bd h hhm;obtain⟨g,rfl,c0,c1,c2⟩:=(HA.out.keep hR.out.1).get HM.out hh;have RD:=aA (fun V (kk:Kt nO W V)=>HW.readAll (HH.out.keep kk) (HL.out h hhm) (by omega) (by omega));have BT:=aA (fun V (kk:Kt nO W V)=>(HA.out.keep kk).bt h hhm);have FE:=aA (HB.out h hhm);obtain⟨da,dc,hdv,_⟩:=HA.out.cp h hhm;rw[hdv] at c2 BT;obtain⟨hp,hs,hv,hf⟩:=h;dsimp only at *;clear b0 b1 b2 b3 bf hhm hh hdv;go_wp2_with fail;have kd:Kt nO wr wr.drew:=(Kt.refl nO wr).drew;have KD:=aA (nT hR.out.1 kd);have XD:=aA (bK hR.out.2 kd);have RDD:=aA (RD.out _ KD.out);have q4:=kd.cell id b4;have q0:=kd.cell id c0;have q1:=kd.cell id c1;have Q2:=aA (kd.cell id c2);clear b4 c0 c1 c2 kd hR RD;go_region_held3 (fun w'=>w'.cell? ⟨yb,4,none⟩=some (.slice (some ⟨g,0,none⟩) k vc)/\w'.cell? ⟨g,j*3,none⟩=some (.int .u64 hp)/\w'.cell? ⟨g,j*3+1,none⟩=some (.int .u64 hs)) (((try dsimp only);(repeat' apply And.intro) <;> with_reducible assumption)) (first
      | (go_at_call 60;(with_reducible refine RDD.out.mono ?_);rintro e2 w2 ⟨ga,rfl,hga,hBk,hk2⟩;have K2:=aA (nT KD.out hk2);have X2:=aA (bK XD.out hk2);have B2:=aA (And.intro hBk (Nat.le_trans KD.out.size hga));have p4:=hk2.cell id q4;have p0:=hk2.cell id q0;have p1:=hk2.cell id q1;have P2:=aA (hk2.cell id Q2.out);clear hga hBk hk2)
      | fail)
     all_goals
      clear q0 q1 q4 p0 p1 RDD;have p2:=P2.out;have SM:=aA (sS (.slice (some ⟨ga,0,none⟩) hs hs) (.slice da hs dc) hs (by omega) hf w2 (IP (B2.out.1.bytes hs) (fun i hi=>(FE.out i hi).symm)) (BT.out _ K2.out));go_wp2_with fail;refine SM.out.mono ?_;rintro e3 w3 ⟨rfl,hk3⟩;have K3:=aA (show Kt nO W w3/\w3.heap[yb]?=some (aM x.bS (x.lim:Int) (x.o:Int) (n:Int) (.slice (some ⟨g,0,none⟩) k vc))/\W.heap.size<=ga/\∃ cs:Array Value,w3.heap[ga]?=some (.cells cs 5 (0,0))/\cs.size=hs from⟨nT K2.out hk3,bK X2.out hk3,B2.out.2,_,(hk3.block _ (B2.out.1.lt) id).trans B2.out.1.2,by simp[M.bcells,M.told]⟩);clear hk3 SM p2 p4 P2 B2 X2 K2 KD XD BT FE;go_wp2_with fail;go_loopw [11] (fun i V=>∃ r:Nat,r<=hs/\i=.int .i64 r/\Hid (Kt nO W V/\V.heap[yb]?=some (aM x.bS (x.lim:Int) (x.o:Int) (n:Int) (.slice (some ⟨g,0,none⟩) k vc))/\W.heap.size<=ga/\∃ cs:Array Value,V.heap[ga]?=some (.cells cs 5 (0,0))/\cs.size=hs)) (fun i _=>hs-(intOf i).toNat)
      case atStart=>exact⟨0,Nat.zero_le _,rfl,K3⟩
      case round=>
       clear K3;obtain⟨r,hr,rfl,hU⟩:=hrel;by_cases hlr:r<hs
       ·have hri:(r:Int)<hs:=(by omega);obtain⟨hu1,hu2,hu3,cs,hcs,hcz⟩:=hU.out;obtain⟨ov,hov⟩:∃ ov,cs[r]?=some ov:=⟨_,Array.getElem?_eq_getElem (by omega)⟩;have o1:wr.cell? ⟨ga,r,none⟩=some ov:=(by simp[World.cell?,hcs,hov]);have o2:wr.frozen? ⟨ga,r,none⟩=false:=(by simp[World.frozen?,hcs]);have kk:Kt (fun y=>y=ga) wr (wr.setCell ⟨ga,r,none⟩ (.int .u8 199)):=(Kt.refl (fun y=>y=ga) wr).setCell (p:=⟨ga,r,none⟩) rfl _;have E9:=aA (show Kt nO W (wr.setCell ⟨ga,r,none⟩ (.int .u8 199))/\(wr.setCell ⟨ga,r,none⟩ (.int .u8 199)).heap[yb]?=some (aM x.bS (x.lim:Int) (x.o:Int) (n:Int) (.slice (some ⟨g,0,none⟩) k vc))/\W.heap.size<=ga/\∃ cs:Array Value,(wr.setCell ⟨ga,r,none⟩ (.int .u8 199)).heap[ga]?=some (.cells cs 5 (0,0))/\cs.size=hs from⟨hu1.trans kk (fun _ _ e=>e) (fun y hy e=>by omega),(kk.block _ (lH hu2) (fun e=>by
         subst e;exact absurd (bM hcs hu2) (by decide))).trans hu2,hu3,RK hcs hcz r _⟩)
        clear hu1 hu2 hu3 hcs hcz hov kk hU;go_wp2_with fail;exact⟨⟨r+1,by omega,by simp,E9⟩,by simp[intOf];omega⟩
       ·obtain rfl:r=hs:=(by omega);have hrr:¬(r:Int)<r:=(by omega);have E9:=aA (And.intro hU.out.1 hU.out.2.1);clear hU;go_wp2_with fail;exact⟨⟨j+1,by omega,by simp,E9⟩,by simp[intOf];omega⟩
    ·obtain rfl:j=k:=(by omega);have hjj:¬(j:Int)<j:=(by omega);clear b0 b1 b2 b3 bf;go_wp2_with fail;clear b4;obtain⟨sL,hsL⟩:=xe (cT fV t.m t.m.n);obtain⟨sB,hsB⟩:=xe (cT fW t.m t.m.n);obtain⟨sF,hsF⟩:=xe (cT fM t.m t.m.n);obtain⟨N,hN⟩:=xe (x.n);have ST:=aA (fun V (kk:Kt nO wr V)=>show Calls prog 13 #[.pointer (some ⟨hb,0,none⟩)] V fun e w'=>e=.returned (.agg #[.int .u64 N,.int .u64 sL,.int .i64 sB,.int .i64 sF])/\Kt nO V w' from by
      rw[hN,hsL,hsB,hsF];exact tQ (HH.out.keep (nT hR.out.1 kk)))
     have H9:=aA (fun V=>H8 x.bS (x.lim:Int) x.o n C.o (by have:=C.l;omega) (.slice va j vc) V);rw[<-hn,<-hN] at H9;have FD:=fun (w:World)=>sJ (N:Int) (sL:Int) (sB:Int) (sF:Int) w
     clear hsL hsB hsF hN;obtain⟨b0,b1,b2,b3,b4⟩:=oY hR.out.2;refine fC (by kernel_rfl) (by kernel_rfl) ?_;repeat (go_big_quiet_step (first|(go_at_call 13;exact Calls.kept_of (ST.out _ (KW.k _)))|(go_at_call 108;exact Calls.kept_of (H9.out _))))
     refine wpQuiet_nil ?_;intro y;have D:=aA (nT hR.out.1 y.k);clear b0 b1 b2 b3 b4 ST H9 FD hR;go_wp2_with fail;go_ret;exact⟨rfl,D.out⟩
end Go.Proofs.YtbgbfpklgfpepaaGreatDoor
