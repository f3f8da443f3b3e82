import Derived.Test.YtbgbfpklgfpepaaGreatDoorWq
import Derived.Test.YtbgbfpklgfpepaaGreatDoorXy
set_option maxRecDepth 1000000
set_option maxHeartbeats 80000000
namespace Go.Proofs.YtbgbfpklgfpepaaGreatDoor
open Tryz
open Go.RowKit
open Go.MuLone
open Go.Proofs.YtbgbfpklgfpepaaGreatDoor.M (RS gJ mayB bE)
set_option linter.unusedVariables false
theorem VM{w:World}{oa:Option Addr}{m oc:Nat}(h:mR w (.slice oa m oc) m){i:Nat}(hi:i<m):∃ bl o c g,oa=some ⟨bl,o,none⟩/\CallIn w bl o i c g:=by
 obtain⟨h1,oa',oc',e,h2⟩:=h;injection e with e1 e2 e3
 subst e1;rcases h2 with h2|⟨bl,o,rfl,hb,h3⟩
 ·omega
 ·obtain⟨c,g,h4⟩:=h3 i hi;exact⟨bl,o,c,g,rfl,h4⟩
theorem VL{w:World}{v:Value}{m:Nat}{g:Nat->Nat}(h:M.Bytes w v m g)(h0 : 0<m):∀ y,v.ownBlock=some y->y<w.heap.size:=by
 obtain⟨_,ao,cap,rfl,hb⟩:=h;obtain⟨a,rfl,hlt,_⟩:=hb.resolve_left (by omega);intro y e;have e:a.block=y:=by simpa [Value.ownBlock] using e
 omega
theorem PF{W:World}{y:Nat}{c:Cl8}(h:W.heap[y]?=some (bP c))(a:Nat):(W.setCell ⟨y,2,none⟩ (.int .u64 a)).heap[y]?=some (bP { c with a:=a }):=by
 have:=bB h 2 (.int .u64 a);simpa using this
theorem PE{W:World}{y:Nat}{s:Sn8}(h:W.heap[y]?=some (bA s))(a:Nat):(W.setCell ⟨y,7,none⟩ (.int .u64 a)).heap[y]?=some (bA { s with af:=a }):=by
 have:=bB h 7 (.int .u64 a);simpa using this
theorem PB{W:World}{y:Nat}{s:Sn8}(h:W.heap[y]?=some (bA s))(fa:Option Addr)(fn fc:Nat):(W.setCell ⟨y,8,none⟩ (.slice fa fn fc)).heap[y]?=some (bA { s with fa:=fa,fn:=fn,fc:=fc }):=by
 have:=bB h 8 (.slice fa fn fc);simpa using this
theorem PA{w1 W:World}{hb bS lim o:Nat}(C:Cn8 bS lim o){oa:Option Addr}{m oc:Nat}(hC:mR w1 (.slice oa m oc) m)(P:iZ (fun _=>False) w1 W hb bS lim o 0 (.slice none 0 0) []):
  Calls prog 24 #[.pointer (some ⟨hb,0,none⟩),aK bS (lim:Int) (o:Int) 0 (.slice none 0 0),.slice oa m oc] W fun e w'=>e=.returned (.bool true)/\Kt nO w1 w':=by
 have hm63:m<=9223372036854775807:=hC.1;have P0:=aA (show PV8 w1 (W.alloc (aM bS (lim:Int) (o:Int) 0 (.slice none 0 0))) W.heap.size hb bS lim o 0 (.slice none 0 0) [] (.slice none 0 0) [] from by
  have k:=(Kt.refl nO W).alloc (aM bS (lim:Int) (o:Int) 0 (.slice none 0 0));have bb:=nH W (aM bS (lim:Int) (o:Int) 0 (.slice none 0 0));have hkp:=P.kp;obtain⟨sb,lw,x,t,fr,ls,S,H,e1,e2,e3,hn,A,L,by0⟩:=P;refine⟨⟨sb,lw,x,t,fr,ls,S,H.keep k,e1,e2,e3,hn,(A.keep k).beside fun y hy=>?_,L,by0⟩,bb,GS.nil _ _ _ _ (nT hkp k),hkp.size,fun y e=>by simp[Value.ownBlock] at e,fun y e=>by simp[Value.ownBlock] at e⟩;rcases hy with rfl|hy
  ·refine⟨lH bb,fun e=>?_,fun e=>?_,rfl⟩
   ·have:=H.slt e;omega
   ·have:=lH H.bx;omega
  ·simp[Value.ownBlock] at hy)
 have HC:=aA hC;have CC:=aA C;clear hC P C;go_enter func24,ntmps24;go_wp2_with fail;generalize W.alloc (aM bS (lim:Int) (o:Int) 0 (.slice none 0 0))=W0 at *;generalize W.heap.size=yb at *;go_loopw [7,8] (fun tv ci V=>∃ (i n:Nat) (v:Value) (l:List He8) (lr:List Nat),i<=m/\i<=400/\ci=.int .i64 i/\lr.length=i/\Hid (PV8 w1 V yb hb bS lim o n v l tv lr)) (fun _ c _=>400-(intOf c).toNat)
 case atStart=>exact⟨0,0,_,_,[],Nat.zero_le _,Nat.zero_le _,rfl,rfl,P0⟩
 case round=>
  clear P0;obtain⟨i,n,v,l,lr,him,hi4,rfl,hlr,hE⟩:=hrel;have hGG:=hE.out.gt.own;rw[hlr] at hGG;obtain⟨va,vc,rfl⟩:=eR hGG;have HLR:=aA hlr;clear hGG hlr;by_cases hlt:i<m/\i<400
  ·obtain⟨h1,h2⟩:=hlt;have h1i:(i:Int)<m:=(by omega);have h2i:(i:Int)<400:=(by omega);obtain⟨bl,oo,ca,gg0,rfl,hCI0⟩:=VM HC.out h1;have HC0:=aA hCI0;have HCI:=aA (hCI0.keep hE.out.P.kp);have a0:wr.cell? ⟨bl,oo+i*7,none⟩=some (.int .i64 ca.op):=HCI.out.c0;have a1:=HCI.out.c1;have a2:=HCI.out.c2;have a3:=HCI.out.c3;have a4:=HCI.out.c4;have a5:=HCI.out.c5;have a6:=HCI.out.c6;have WK:=aA (WX hE.out.gt (by have:=HLR.out;omega) ca);obtain⟨wp,hwp⟩:=xe (vC ca lr);rw[show yN ca lr=(⟨ca.op,wp,ca.a,ca.b,ca.d,.slice ca.sa ca.sn ca.sc⟩:Cl8)from by rw[hwp];rfl] at WK;have HWP:=aA (show wp<18446744073709551616 from by
    rw[hwp];unfold vC;split
    ·exact Nat.mod_lt _ (by decide)
    ·exact HCI.out.hp)
   clear hCI0 hwp;go_wp2_with fail;refine WK.out.mono ?_;rintro e w5 ⟨rfl,hk5⟩;have E6:=aA (hE.out.keep (hk5.alloc (bP (⟨ca.op,wp,ca.a,ca.b,ca.d,.slice ca.sa ca.sn ca.sc⟩:Cl8))));have X6:=aA (nH w5 (bP (⟨ca.op,wp,ca.a,ca.b,ca.d,.slice ca.sa ca.sn ca.sc⟩:Cl8)));have N6:=aA (show w1.heap.size<=w5.heap.size/\¬jE v l w5.heap.size from⟨Nat.le_trans hE.out.P.kp.size hk5.size,fun e=>by
    have:=hE.out.P.lt (.inl e);have:=hk5.size;omega⟩)
   clear hk5 a0 a1 a2 a3 a4 a5 a6 WK hE;go_upto_region 6 with fail;generalize w5.alloc (bP (⟨ca.op,wp,ca.a,ca.b,ca.d,.slice ca.sa ca.sn ca.sc⟩:Cl8))=w6 at *;generalize w5.heap.size=y6 at *;obtain⟨q0,q1,q2,q3,q4,q5⟩:=bO X6.out;replace q0:w6.cell? ⟨y6,0,none⟩=some (.int .i64 ca.op):=q0;replace q2:w6.cell? ⟨y6,2,none⟩=some (.int .u64 ca.a):=q2;clear q1 q3 q4 q5;by_cases hop : 1<=ca.op/\ca.op<=14
   ·obtain⟨hop1,hop2⟩:=hop;have ho1:¬ca.op<1:=(by omega);have ho2:¬ca.op > 14:=(by omega);have ho3:¬ 14<ca.op:=(by omega);go_upto_region 8 with fail;have hcl:((ca.op == 11)=true/\(16777216:Int)<(ca.a:Int))\/(ca.op == 11)=false\/((ca.op == 11)=true/\¬(16777216:Int)<(ca.a:Int)):=by
     cases (ca.op == 11) <;> simp <;> omega
    have fz:w6.frozen? ⟨y6,2,none⟩=false:=(by simp[World.frozen?,X6.out]);rcases hcl with ⟨hc1,hc2⟩|hc1|⟨hc1,hc2⟩
    case' inl=>
     go_upto_region 10 with fail;have k7:Kt (fun y=>y=y6) w6 (w6.setCell ⟨y6,2,none⟩ (.int .u64 16777216)):=(Kt.refl (fun y=>y=y6) w6).setCell (p:=⟨y6,2,none⟩) rfl _;obtain⟨a7,ha7⟩:=xe (16777216);have HA7:=aA (show a7<18446744073709551616 by omega);have E7:=aA (E6.out.wr X6.out N6.out.1 N6.out.2 k7);have X7:=aA (PF X6.out 16777216);rw[<-ha7] at X7;rw[show((a7:Nat):Int)=16777216 by omega] at X7;clear ha7 q0 q2 fz k7 hc1 hc2;generalize w6.setCell ⟨y6,2,none⟩ (.int .u64 16777216)=w7 at *;clear E6 X6 w6
    case' inr.inl=>
     go_upto_region 10 with fail;obtain⟨a7,ha7⟩:=xe (ca.a);have HA7:=aA (show a7<18446744073709551616 by rw[ha7];exact HC0.out.ha);have E7:=E6;have X7:=X6;rw[<-ha7] at X7;clear ha7 q0 q2 fz E6 X6;clear hc1;obtain⟨w7,hw7⟩:=xe (w6);rw[<-hw7] at E7 X7 ⊢;clear hw7 w6
    case' inr.inr=>
     go_upto_region 10 with fail;obtain⟨a7,ha7⟩:=xe (ca.a);have HA7:=aA (show a7<18446744073709551616 by rw[ha7];exact HC0.out.ha);have E7:=E6;have X7:=X6;rw[<-ha7] at X7;clear ha7 q0 q2 fz E6 X6;clear hc1 hc2;obtain⟨w7,hw7⟩:=xe (w6);rw[<-hw7] at E7 X7 ⊢;clear hw7 w6
    all_goals
     have DN:=aA (E7.out.done CC.out X7.out hop1 hop2 HWP.out HA7.out HC0.out.hb HC0.out.by' (Nat.le_trans HC0.out.hs HC0.out.hc) (VL HC0.out.by'));obtain⟨q0,q1,q2,q3,q4,q5⟩:=bO X7.out;dsimp only at q0 q1 q2 q3 q4 q5;go_wp2_with fail;refine DN.out.mono ?_;rintro e w8 ⟨s,gd,n',sb,lw,x,t,fr,ls,S,rfl,s1,s2,s3,s4,s5,hQ,hg,hJ⟩;have JJ:=aA (And.intro hg hJ);have KX:=(Kt.refl nO w8).alloc (bA s);have Q8:=aA (hQ.keep KX);have S8:=aA (nH w8 (bA s));have N8:=aA (show w1.heap.size<=w8.heap.size/\¬jE v l w8.heap.size from⟨hQ.H.po.pl.kp.size,fun e=>by
      have:=hQ.A.B.lt e;omega⟩)
     have HS:=aA (show s.af=0/\s.fa=none/\s.fn=0/\s.fc=0/\s.v<18446744073709551616 from⟨s1,s2,s3,s4,s5⟩);clear hQ hg hJ KX DN E7 X7 q0 q1 q2 q3 q4 q5 s1 s2 s3 s4 s5;go_upto_region 11 with fail;generalize w8.alloc (bA s)=w9 at *;generalize w8.heap.size=y8 at *;obtain⟨sL,hsL⟩:=xe (cT fV t.m t.m.n);obtain⟨sB,hsB⟩:=xe (cT fW t.m t.m.n);obtain⟨sF,hsF⟩:=xe (cT fM t.m t.m.n);obtain⟨NN,hNN⟩:=xe (n'*RS o);have ST:=aA (show Calls prog 13 #[.pointer (some ⟨hb,0,none⟩)] w9 fun e w'=>e=.returned (.agg #[.int .u64 NN,.int .u64 sL,.int .i64 sB,.int .i64 sF])/\Kt nO w9 w' from by
      rw[hNN,<-Q8.out.hn,hsL,hsB,hsF];exact tQ Q8.out.H)
     have FD:=fun (w:World)=>sJ (NN:Int) (sL:Int) (sB:Int) (sF:Int) w
     have HNN:=aA hNN;clear hsL hsB hsF hNN;go_wp2_with fail;refine ST.out.mono ?_;rintro e wa ⟨rfl,hka⟩;have Qa:=aA (Q8.out.keep hka);have Sa:=aA (iT S8.out hka);obtain⟨t0,t1,t2,t3,t4,t5,t6,t7,t8⟩:=aZ Sa.out;have tz:∀ j,wa.frozen? ⟨y8,j,none⟩=false:=fun j=>by simp[World.frozen?,Sa.out]
     have kb:Kt (fun y=>y=y8) wa (wa.setCell ⟨y8,7,none⟩ (.int .u64 NN)):=(Kt.refl (fun y=>y=y8) wa).setCell (p:=⟨y8,7,none⟩) rfl _;have Qb9:=aA (Qa.out.wr Sa.out N8.out.1 N8.out.2 kb);have Sb:=aA (PE Sa.out NN);clear hka kb ST Q8 S8 Qa;go_upto_region 12 with fail;generalize wa.setCell ⟨y8,7,none⟩ (.int .u64 NN)=wb at *;clear t0 t1 t2 t3 t4 t5 t6 t7 t8 tz Sa FD;obtain⟨t0,t1,t2,t3,t4,t5,t6,t7,t8⟩:=aZ Sb.out;obtain⟨q0,q1,q2,q3,q4,q5⟩:=bO Qb9.out.cb;dsimp only at t0 t1 t2 t3 t4 t5 t6 t7 t8 q0 q1 q2 q3 q4 q5;have GV:=aA (TA ca.op wb);obtain⟨gb,hgb⟩:=xe (bZ ca.op);have HGB:=aA hgb;rw[show(ca.op == 1 || ca.op == 2 || ca.op == 3 || ca.op == 4)=gb from hgb.symm] at GV;clear hgb;go_wp2_with fail;refine GV.out.mono ?_;rintro e wc ⟨rfl,hwc⟩;replace hwc:=hwc.symm;subst hwc;clear GV;have hcase:(gb=true/\s.e=0)\/gb=false\/(gb=true/\(s.e == 0)=false):=by
      cases gb
      ·exact .inr (.inl rfl)
      ·by_cases h:s.e=0
       ·exact .inl ⟨rfl,h⟩
       ·exact .inr (.inr ⟨rfl,by rw[beq_eq_false_iff_ne];exact h⟩)
     rcases hcase with ⟨g1,e1⟩|g1|⟨g1,e1⟩
     case' inl=>
      have HL:=aA (JJ.out.1 (by rw[<-g1];exact HGB.out.symm) e1);obtain⟨r,hr⟩:=xe (eU bS (lim:Int) (o:Int) (⟨ca.op,wp,a7,ca.b,ca.d,.slice ca.sa ca.sn ca.sc⟩:Cl8));have SZ:=aA (fun V=>zic bS CC.out.b64 lim o CC.out.l CC.out.o (⟨ca.op,wp,a7,ca.b,ca.d,.slice ca.sa ca.sn ca.sc⟩:Cl8) HA7.out HC0.out.hb V);rw[<-hr] at HL SZ;have HR:=aA hr;have RD:=aA (fun V (kk:Kt nO wb V)=>HW.readAll (Qb9.out.H.keep kk) HL.out HS.out.2.2.2.2 (by
       obtain⟨hh,oo⟩:=Qb9.out.H.so;have h1:=oo.inside HL.out;have n4:=oo.po.nums.2.2.2.1;omega))
      rw[e1] at t0;subst g1;clear hr;go_upto_region 13 with fail;have kd:Kt nO wb wb.drew:=(Kt.refl nO wb).drew;have KD:=aA kd;have BX:=aA (fun V (kk:Kt nO wb V)=>And.intro (sM Qb9.out.cb kk) (And.intro (bK Qb9.out.bb kk) (iT Sb.out kk)));clear t0 t1 t2 t3 t4 t5 t6 t7 t8 q0 q1 q2 q3 q4 q5 kd;obtain⟨q0,q1,q2,q3,q4,q5⟩:=bO (BX.out _ KD.out).1;obtain⟨b0,b1,b2,b3,b4,bf⟩:=aD (BX.out _ KD.out).2.1;obtain⟨t0,t1,t2,t3,t4,t5,t6,t7,t8⟩:=aZ (BX.out _ KD.out).2.2;dsimp only at t1 q0 q1 q2 q3 q4 q5;clear t0 t2 t3 t4 t5 t6 t7 t8 b3 b4 bf;go_region_held3 (fun w'=>w'.cell? ⟨y6,0,none⟩=some (.int .i64 ca.op)/\w'.cell? ⟨y6,1,none⟩=some (.int .u64 wp)/\w'.cell? ⟨y6,2,none⟩=some (.int .u64 a7)/\w'.cell? ⟨y6,3,none⟩=some (.int .u64 ca.b)/\w'.cell? ⟨y6,4,none⟩=some (.bool ca.d)/\w'.cell? ⟨y6,5,none⟩=some (.slice ca.sa ca.sn ca.sc)/\w'.cell? ⟨yb,0,none⟩=some (.int .u64 bS)/\w'.cell? ⟨yb,1,none⟩=some (.int .i64 lim)/\w'.cell? ⟨yb,2,none⟩=some (.int .i64 o)/\w'.cell? ⟨y8,1,none⟩=some (.int .u64 s.v)) (((try dsimp only);(repeat' apply And.intro) <;> with_reducible assumption)) (first
       | (go_at_call 61;(with_reducible refine(SZ.out _).mono ?_);rintro e2 wd ⟨rfl,hkd⟩;have KE:=aA (nT KD.out hkd);obtain⟨x0,x1,x2,x3,x4,x5⟩:=bO (BX.out _ KE.out).1;obtain⟨c0,c1,c2,c3,c4,cf⟩:=aD (BX.out _ KE.out).2.1;obtain⟨z0,z1,z2,z3,z4,z5,z6,z7,z8⟩:=aZ (BX.out _ KE.out).2.2;dsimp only at z1 x0 x1 x2 x3 x4 x5;have RDD:=aA (RD.out _ KE.out);clear hkd z0 z2 z3 z4 z5 z6 z7 z8 c3 c4 cf)
       | (go_at_call 60;(with_reducible refine RDD.out.mono ?_);rintro e3 we ⟨fb,rfl,hfb,hBk,hke⟩;have KF:=aA (nT KE.out hke);have BK:=aA (And.intro hBk (Nat.le_trans KE.out.size hfb));obtain⟨x0,x1,x2,x3,x4,x5⟩:=bO (BX.out _ KF.out).1;obtain⟨c0,c1,c2,c3,c4,cf⟩:=aD (BX.out _ KF.out).2.1;obtain⟨z0,z1,z2,z3,z4,z5,z6,z7,z8⟩:=aZ (BX.out _ KF.out).2.2;dsimp only at z1 x0 x1 x2 x3 x4 x5;clear hfb hBk hke z0 z2 z3 z4 z5 z6 z7 z8 c3 c4 cf)
       | fail)
      have z8:=(aZ (BX.out _ KF.out).2.2).2.2.2.2.2.2.2.2;have fz8:∀ j,we.frozen? ⟨y8,j,none⟩=false:=fun j=>by simp[World.frozen?,(BX.out _ KF.out).2.2]
      go_upto_region 17 with fail;obtain⟨s9,hs9⟩:∃ s9:Sn8,s9={ s with af:=NN,fa:=some ⟨fb,0,none⟩,fn:=r,fc:=r }:=⟨_,rfl⟩;obtain⟨D9,hD9⟩:∃ D9:List (Value×Nat×(Nat->Nat)),D9=[(Value.slice (some ⟨fb,0,none⟩) r r,r,fun i=>t.f (s.v-x.bS+i)),(.slice s.da s.dn s.dc,s.dn,gd)]:=⟨_,rfl⟩;have SR:=aA (show Sr8 s s9 NN from by rw[hs9];exact⟨rfl,rfl,rfl,rfl,rfl,rfl,rfl,rfl,rfl,rfl⟩);have DD:=aA (show(Value.slice s9.da s9.dn s9.dc,s9.dn,gd)∈D9 from by rw[hs9,hD9];exact List.mem_cons_of_mem _ (List.mem_cons_self ..));have FF:=aA (show bZ ca.op=true->s.e=0->s9.fn=eU bS (lim:Int) (o:Int) (⟨ca.op,wp,a7,ca.b,ca.d,.slice ca.sa ca.sn ca.sc⟩:Cl8)/\s9.fc=s9.fn/\∃ fb,s9.fa=some ⟨fb,0,none⟩/\(Value.slice s9.fa s9.fn s9.fc,s9.fn,fun i=>t.f (s.v-bS+i))∈D9 from fun _ _=>by
       rw[hs9,hD9];refine⟨HR.out,rfl,fb,rfl,?_⟩;rw[<-Qb9.out.e1];exact List.mem_cons_self ..)
      have k9:Kt (fun y=>y=y8) we (we.setCell ⟨y8,8,none⟩ (.slice (some ⟨fb,0,none⟩) r r)):=(Kt.refl (fun y=>y=y8) we).setCell (p:=⟨y8,8,none⟩) rfl _;have QF:=aA (((Qb9.out.keep KF.out).more (BK.out.1.bytes r) (fun y e e2=>by
       have e:fb=y:=(by simpa [Value.ownBlock] using e);have a1:=(Qb9.out.A.ex y (.inr e2)).1;have a2:=BK.out.2;omega)).wr (BX.out _ KF.out).2.2 N8.out.1 N8.out.2 k9)
      rw[<-hD9] at QF;have SF:=aA (PB (BX.out _ KF.out).2.2 (some ⟨fb,0,none⟩) r r);have SV:=aA (show s9.v=s.v from by rw[hs9]);rw[<-hs9] at SF;clear k9 z8 fz8 x0 x1 x2 x3 x4 x5 c0 c1 c2 z1 q0 q1 q2 q3 q4 q5 b0 b1 b2 t1 hs9 hD9 BX KF BK KE KD RD RDD SZ Sb Qb9 HL HR;generalize we.setCell ⟨y8,8,none⟩ (.slice (some ⟨fb,0,none⟩) r r)=wf at *
     case' inr.inl=>
      subst g1;go_upto_region 17 with fail;obtain⟨s9,hs9⟩:∃ s9:Sn8,s9={ s with af:=NN }:=⟨_,rfl⟩;obtain⟨D9,hD9⟩:∃ D9:List (Value×Nat×(Nat->Nat)),D9=[(.slice s.da s.dn s.dc,s.dn,gd)]:=⟨_,rfl⟩;have SR:=aA (show Sr8 s s9 NN from by rw[hs9];exact⟨rfl,rfl,rfl,rfl,rfl,rfl,rfl,rfl,rfl,rfl⟩);have DD:=aA (show(Value.slice s9.da s9.dn s9.dc,s9.dn,gd)∈D9 from by rw[hs9,hD9];exact List.mem_cons_self ..);have FF:=aA (show bZ ca.op=true->s.e=0->s9.fn=eU bS (lim:Int) (o:Int) (⟨ca.op,wp,a7,ca.b,ca.d,.slice ca.sa ca.sn ca.sc⟩:Cl8)/\s9.fc=s9.fn/\∃ fb,s9.fa=some ⟨fb,0,none⟩/\(Value.slice s9.fa s9.fn s9.fc,s9.fn,fun i=>t.f (s.v-bS+i))∈D9 from fun e=>by rw[<-HGB.out] at e;cases e);have QF:=Qb9;rw[<-hD9] at QF;have SF:=Sb;rw[<-hs9] at SF;have SV:=aA (show s9.v=s.v from by rw[hs9]);obtain⟨wf,hwf⟩:=xe (wb);rw[<-hwf] at QF SF ⊢;clear t0 t1 t2 t3 t4 t5 t6 t7 t8 q0 q1 q2 q3 q4 q5 Qb9 Sb hwf hs9 hD9
     case' inr.inr=>
      subst g1;have hse:s.e≠0:=(by rw[beq_eq_false_iff_ne] at e1;exact e1);go_upto_region 17 with fail;obtain⟨s9,hs9⟩:∃ s9:Sn8,s9={ s with af:=NN }:=⟨_,rfl⟩;obtain⟨D9,hD9⟩:∃ D9:List (Value×Nat×(Nat->Nat)),D9=[(.slice s.da s.dn s.dc,s.dn,gd)]:=⟨_,rfl⟩;have SR:=aA (show Sr8 s s9 NN from by rw[hs9];exact⟨rfl,rfl,rfl,rfl,rfl,rfl,rfl,rfl,rfl,rfl⟩);have DD:=aA (show(Value.slice s9.da s9.dn s9.dc,s9.dn,gd)∈D9 from by rw[hs9,hD9];exact List.mem_cons_self ..);have FF:=aA (show bZ ca.op=true->s.e=0->s9.fn=eU bS (lim:Int) (o:Int) (⟨ca.op,wp,a7,ca.b,ca.d,.slice ca.sa ca.sn ca.sc⟩:Cl8)/\s9.fc=s9.fn/\∃ fb,s9.fa=some ⟨fb,0,none⟩/\(Value.slice s9.fa s9.fn s9.fc,s9.fn,fun i=>t.f (s.v-bS+i))∈D9 from fun _ e=>absurd e hse);have QF:=Qb9;rw[<-hD9] at QF;have SF:=Sb;rw[<-hs9] at SF;have SV:=aA (show s9.v=s.v from by rw[hs9]);obtain⟨wf,hwf⟩:=xe (wb);rw[<-hwf] at QF SF ⊢;clear t0 t1 t2 t3 t4 t5 t6 t7 t8 q0 q1 q2 q3 q4 q5 Qb9 Sb hwf hs9 hD9;clear hse
     all_goals
      obtain⟨vva,vvc,hvv⟩:=QF.out.A.B.val;subst hvv;have hpu:=QF.out.push s9.v (by have:=HLR.out;omega);rw[HLR.out] at hpu;obtain⟨g,cap,wg,hap,hQ9,hB9,hS9⟩:=hpu;have JD:=aA (hQ9.judge JJ.out.2 s9 (by rw[<-HNN.out];exact SR.out) (hB9 _ DD.out) HC0.out.by' (fun u1 u2=>by
       obtain⟨p1,p2,fb,p3,p4⟩:=FF.out u1 u2;exact⟨p1,p2,fb,p3,hB9 _ p4⟩))
      have QG:=aA hQ9;have HAP:=aA hap;have z1:=(aZ SF.out).2.1;obtain⟨t0,t1,t2,t3,t4,t5,t6,t7,t8⟩:=aZ (hS9 _ _ SF.out);obtain⟨q0,q1,q2,q3,q4,q5⟩:=bO hQ9.cb;obtain⟨b0,b1,b2,b3,b4,bf⟩:=aD hQ9.bb;dsimp only at q0 q1 q2 q3 q4 q5;clear hap hQ9 hB9 hS9 FF DD SR JJ SV QF SF;go_wp2_with (at_builtin;refine Lib.wpList_append_run _ rfl _ _ _ _ rfl (.slice va i vc) (.slice (some ⟨wf.heap.size,0,none⟩) 1 1) rfl rfl _ _ (HAP.out _) ?_)
      refine JD.out.mono ?_;rintro e wh ⟨ua,um,uc,l',rfl,hkh,hPh,hnt⟩;have KI:=(Kt.refl nO wh).alloc (aM bS (lim:Int) (o:Int) (n':Int) (.slice ua um uc));have PI:=aA (hPh.keep KI);have BI9:=aA (bK QG.out.bb (nT hkh KI));have GI9:=aA (QG.out.gt.keep (nT hkh KI));have NI:=aA (And.intro hnt QG.out.tn);have YI:=aA QG.out.yn;have XI:=aA (nH wh (aM bS (lim:Int) (o:Int) (n':Int) (.slice ua um uc)));clear hkh hPh hnt KI JD HAP QG z1 t0 t1 t2 t3 t4 t5 t6 t7 t8 q0 q1 q2 q3 q4 q5 b0 b1 b2 b3 b4 bf;go_upto_region 19 with fail;generalize wh.alloc (aM bS (lim:Int) (o:Int) (n':Int) (.slice ua um uc))=wi at *;generalize wh.heap.size=yi at *;have WH:=aA (OH CC.out PI.out);obtain⟨b0,b1,b2,b3,b4,bf⟩:=aD XI.out;go_wp2_with fail;refine WH.out.mono ?_;rintro e wj ⟨rfl,hkj⟩;have PJ:=aA (PI.out.keep hkj);have BJ:=aA (bK BI9.out hkj);have GJ:=aA (GI9.out.keep hkj);have XJ:=aA (bK XI.out hkj);clear hkj WH b0 b1 b2 b3 b4 bf PI BI9 GI9 XI;obtain⟨b0,b1,b2,b3,b4,bf⟩:=aD XJ.out;obtain⟨d0,d1,d2,d3,d4,df⟩:=aD BJ.out;have E9:=aA (PV8.book PJ.out BJ.out GJ.out YI.out NI.out.1 NI.out.2);clear PJ BJ GJ XJ;go_wp2_with fail;exact⟨⟨i + 1,n',_,l',lr ++ [s9.v],by omega,by omega,by simp,by have:=HLR.out;simp;omega,E9⟩,by simp[intOf];omega⟩
   ·have PU:=E6.out.push 0 (by have:=HLR.out;omega);obtain⟨g,cap,w9,hap,hP⟩:=PU;rw[HLR.out] at hap hP;have HAP:=aA hap;have HP:=aA hP;have hcs:ca.op<1\/(¬ca.op<1/\14<ca.op):=(by omega);clear hap hP hop q2;rcases hcs with ho1|⟨ho1,ho2⟩
    all_goals
     go_wp2_with (at_builtin;refine Lib.wpList_append_run _ rfl _ _ _ _ rfl (.slice va i vc) (.slice (some ⟨w6.heap.size,0,none⟩) 1 1) rfl rfl _ _ (HAP.out _) ?_)
     exact⟨⟨i + 1,n,v,l,lr ++ [0],by omega,by omega,by simp,by have:=HLR.out;simp;omega,HP⟩,by simp[intOf];omega⟩
  ·have hcs:¬i<m\/(i<m/\¬i<400):=(by omega);have D:=aA hE.out.P.kp;clear hE;rcases hcs with h1|⟨h1,h2⟩
   ·have h1i:¬(i:Int)<m:=(by omega);go_wp2_with fail;go_ret;exact⟨rfl,D.out⟩
   ·have h1i:(i:Int)<m:=(by omega);have h2i:¬(i:Int)<400:=(by omega);go_wp2_with fail;go_ret;exact⟨rfl,D.out⟩
end Go.Proofs.YtbgbfpklgfpepaaGreatDoor
