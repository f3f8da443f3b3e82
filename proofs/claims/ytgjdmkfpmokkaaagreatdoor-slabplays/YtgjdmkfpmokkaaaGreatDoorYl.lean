import Derived.Test.YtgjdmkfpmokkaaaGreatDoorYk
set_option maxRecDepth 1000000
set_option maxHeartbeats 80000000
namespace Go.Proofs.YtgjdmkfpmokkaaaGreatDoor
open Go.RowKit
set_option linter.unusedVariables false
theorem zne{W:World}{y b l o lw sb:Nat}{f0 v0 c0 q0:Value}{pp0:Int}(h:W.heap[y]?=some (w7O b l o lw sb f0 v0 c0 q0 (o:Int) pp0))(pp:Int)(fv lv:Value):(fin4 W y 8 9 10 11 (o:Int) pp fv lv).heap[y]?=some (w7O b l o lw sb fv lv c0 q0 (o:Int) pp):=by
 have h3:=show _=some (w7O b l o lw sb f0 v0 c0 q0 (o:Int) pp0)from hS9 h 8 (.int .i64 (o:Int))
 have h4:=show _=some (w7O b l o lw sb f0 v0 c0 q0 (o:Int) pp)from hS9 h3 9 (.int .i64 pp)
 have h5:=show _=some (w7O b l o lw sb fv v0 c0 q0 (o:Int) pp)from hS9 h4 10 fv
 have h6:=show _=some (w7O b l o lw sb fv lv c0 q0 (o:Int) pp)from hS9 h5 11 lv
 exact h6
theorem zfk{W:World}{o:Obj}{b i:Nat}{u:Value}(h:W.cell? ⟨b,i,none⟩=some u):(W.alloc o).cell? ⟨b,i,none⟩=some u:=((Kt.refl nO W).alloc o).cell (fun e=>e) h
theorem zlk{w W wb lw sb x t fr ls S al c fa fc va vc ca cc pa pc}(L0:L7 w W wb lw sb x t fr ls S al c fa fc va vc ca cc pa pc)(p:Nat)(hp:p<18446744073709551616)(od:Int)(g:Nat)(hg:g=(p-x.base)/4096)
  (hok:x.base≤p∧(p-x.base)%4096=0∧p-x.base<4096*t.m.n) (hcn:S.c g=none) (er:Nat) (fr':Nat→List Nat) (ls':List (Nat×Nat))
  (hG:∀ V,D7 V x.o fa fc va vc ca cc pa pc fr ls al S.pl→Calls Tryz.prog 106 #[r5V (x.o:Int) (t.m.n:Int) (.slice fa (x.o+1) fc) (.slice va ls.length vc),.int .i64 (g:Int),.int .i64 od] V fun e w'=>V5P V (x.o:Int) (t.m.n:Int) x.o fr' ls' er e w'):
  Calls Tryz.prog 59 #[.pointer (some ⟨wb,0,none⟩),.int .u64 (p:Int),.int .i64 od] W fun e w'=>e=.returned (.int .i64 (er:Int))∧Kt (fun y=>y=wb) W w'∧∃ fa' fc' va' vc',LD w' wb lw sb x.base x.lim x.o t.m.n fa' fc' va' ls'.length vc' ca al.length cc pa pc fr' ls' al S.pl:=by
 obtain⟨h0,o0⟩:=L0.so;have f:=o0.f7 L0.ae;have hn1:=f.n1;have hb63:x.base≤9223372036854775808:=by have:=f.b63;omega
 have BX:=hid (fun W' (kk:Kt nO W W')=>(L0.keep kk).bx);have SL:=hid (fun W' (kk:Kt nO W W')=>zf4 (L0.keep kk) p hp);have GV:=hid (fun W' (kk:Kt nO W W')=>hG W' (L0.keep kk).d);have DK:=hid (fun W' (kk:Kt nO W W')=>(L0.keep kk).d);obtain⟨m,hm⟩:=xe (ls.length);obtain⟨n,hn⟩:=xe (al.length);obtain⟨m2,hm2⟩:=xe (ls'.length);have HN:=hid hn;have HM2:=hid hm2;obtain⟨b,hb⟩:=xe (x.base);obtain⟨l,hl⟩:=xe (x.lim);obtain⟨oo,hoo⟩:=xe (x.o);obtain⟨Pn,hPn⟩:=xe (t.m.n);unfold V5P at GV;rw[←hm,←hn,←hb,←hl,←hoo,←hPn] at BX;rw[←hm,←hoo,←hPn,←hm2] at GV;rw[←hoo] at DK;rw[←hn,←hb,←hl,←hoo,←hPn,←hm2];rw[←hb] at SL hok hb63 hg;rw[←hPn] at hok hn1;clear L0 o0 f hm hn hb hl hoo hPn hG hm2;obtain⟨d,hd⟩:=xe (p-b);obtain⟨z,hz⟩:=xe (4096*Pn);have hzi:(4096:Int)*(Pn:Int)=(z:Int):=by omega
 have hzw:IntKind.u64.wrap (z:Int)=(z:Int):=by rw[wrap_u64];omega
 have hPw:IntKind.u64.wrap (Pn:Int)=(Pn:Int):=by rw[wrap_u64];omega
 obtain⟨h1,h2,h3⟩:=hok;rw[←hd] at h2 h3 hg;have hd1:decide ((p:Int)<(b:Int))=false:=decide_eq_false (by omega);have hd2:(b:Int)≤(p:Int):=by omega
 have hdi:(p:Int)-(b:Int)=(d:Int):=by omega
 have hdn:p-b=d:=hd.symm;have hd1n:decide (p<b)=false:=decide_eq_false (by omega);have hdw:IntKind.u64.wrap (d:Int)=(d:Int):=by rw[wrap_u64];omega
 have hri:(d:Int).tmod 4096=0:=by rw[Int.tmod_eq_emod_of_nonneg (by omega)];omega
 have hqi:(d:Int).tdiv 4096=(g:Int):=by rw[hg,Int.tdiv_eq_ediv_of_nonneg (by omega)];rfl
 have hgw:IntKind.u64.wrap (g:Int)=(g:Int):=by rw[wrap_u64];omega
 have hgv:IntKind.i64.wrap (g:Int)=(g:Int):=by rw[IntKind.wrap_i64];omega
 have hz1:decide ((z:Int)≤(d:Int))=false:=decide_eq_false (by omega);have hz2:(d:Int)<(z:Int):=by omega
 have hz3:decide (z≤d)=false:=decide_eq_false (by omega);have hz4:d<z:=by omega
 have hS:(decide (b≤p) && (S.c ((p-b)/4096%1099511627776)).isSome)=false:=by
  rw[←hd,Nat.mod_eq_of_lt (by omega),←hg,hcn,Option.isSome_none,Bool.and_false]
 rw[hS] at SL;clear hS hd hz h2 h3 hg hcn;have KD:=hid ((Kt.refl nO W).drew);obtain⟨c0,c1,c2,c3,c4,c5,c6,c7,c8,c9,c10,c11,c12,c13,cf⟩:=wc7 (BX.out _ KD.out);go_enter Tryz.func59,Tryz.ntmps59;go_wp2_with fail;go_region_held3 (fun w'=>w'.cell? ⟨wb,0,none⟩=some (.int .u64 (b:Int))∧w'.cell? ⟨wb,9,none⟩=some (.int .i64 (Pn:Int))) ((refine⟨?_,?_⟩ <;> with_reducible assumption)) (first
  | (go_at_call 119;(with_reducible refine(SL.out _ KD.out).mono ?_);rintro e w5 ⟨rfl,hk5⟩;have K5:=hid (nT KD.out hk5);obtain⟨d0,d1,d2,d3,d4,d5,d6,d7,d8,d9,d10,d11,d12,d13,df⟩:=wc7 (BX.out _ K5.out);clear hk5)
  | fail)
 all_goals
  clear c0 c1 c2 c3 c4 c5 c6 c7 c8 c9 c10 c11 c12 c13 cf KD;go_upto_region 3 with fail;clear d0 d1 d2 d3 d4 d5 d6 d7 d8 d9 d10 d11 d12 d13 df;go_cut [7,8] (fun sd se wx=>∃ db fa1 fc1 va1 vc1,sd=.pointer (some ⟨db,0,none⟩)∧se=.int .i64 (er:Int)∧Kt nO W wx∧FL wx fa1 fc1 oo fr'∧RN wx (.slice va1 m2 vc1) ls'∧wx.heap[db]?=some (r5O (oo:Int) (Pn:Int) (.slice fa1 (oo+1) fc1) (.slice va1 m2 vc1)))
  case first=>as_aux_lemma=>
   rename_i K hK J K2 hJ hM;clear hK K;have hlv:=lH (BX.out _ K5.out);have KA:=hid (nT K5.out ((Kt.refl nO w5).drew));have KB:=hid (nT K5.out (((Kt.refl nO w5).alloc r5Z).drew));have ZB:=hid (show((w5.alloc r5Z).drew).heap[w5.heap.size]?=some r5Z from nH w5 r5Z);obtain⟨c0,c1,c2,c3,c4,c5,c6,c7,c8,c9,c10,c11,c12,c13,cf⟩:=wc7 (BX.out _ KA.out);obtain⟨d0,d1,d2,d3,d4,d5,d6,d7,d8,d9,d10,d11,d12,d13,df⟩:=wc7 (BX.out _ KB.out);have hWs:=K5.out.size;go_region_held3 (fun w'=>w'.cell? ⟨wb,0,none⟩=some (.int .u64 (b:Int))∧w'.cell? ⟨wb,8,none⟩=some (.int .i64 (oo:Int))∧w'.cell? ⟨wb,9,none⟩=some (.int .i64 (Pn:Int))∧w'.cell? ⟨wb,10,none⟩=some (.slice fa (oo+1) fc)∧w'.cell? ⟨wb,11,none⟩=some (.slice va m vc)) ((refine⟨?_,?_,?_,?_,?_⟩ <;> first|with_reducible assumption|with_reducible exact zfk (by with_reducible assumption)|with_reducible exact zdl (by with_reducible assumption) (by omega))) (first
    | (go_at_call 106;(with_reducible refine(GV.out _ KA.out).mono ?_);rintro e w6 ⟨fa2,fc2,va2,vc2,rfl,hk6,hf6,hr6⟩;have K6:=hid (nT KA.out hk6);have F6:=hid hf6;have R6:=hid hr6;have hw6:=lH (BX.out _ K6.out);obtain⟨e0,e1,e2,e3,e4,e5,e6,e7,e8,e9,e10,e11,e12,e13,ef⟩:=wc7 (BX.out _ K6.out);clear hk6 hf6 hr6)
    | (go_at_call 106;(with_reducible refine(GV.out _ KB.out).mono ?_);rintro e w6 ⟨fa2,fc2,va2,vc2,rfl,hk6,hf6,hr6⟩;have K6:=hid (nT KB.out hk6);have F6:=hid hf6;have R6:=hid hr6;have hw6:=lH (BX.out _ K6.out);obtain⟨e0,e1,e2,e3,e4,e5,e6,e7,e8,e9,e10,e11,e12,e13,ef⟩:=wc7 (BX.out _ K6.out);have Z6:=hid ((hk6.block _ (lH ZB.out) (fun e=>e)).trans ZB.out);obtain⟨b0,b1,b2,b3,fb⟩:=r5c Z6.out;clear hk6 hf6 hr6)
    | fail)
   ·have ka:=(Kt.refl nO w6).alloc (r5O (oo:Int) (Pn:Int) (.slice fa2 (oo+1) fc2) (.slice va2 m2 vc2));have K1:=hid (nT K6.out ka);have F1:=hid (F6.out.keep ka);have R1:=hid (R6.out.keep ka);have Y1:=hid (nH w6 (r5O (oo:Int) (Pn:Int) (.slice fa2 (oo+1) fc2) (.slice va2 m2 vc2)));clear c0 c1 c2 c3 c4 c5 c6 c7 c8 c9 c10 c11 c12 c13 cf d0 d1 d2 d3 d4 d5 d6 d7 d8 d9 d10 d11 d12 d13 df e0 e1 e2 e3 e4 e5 e6 e7 e8 e9 e10 e11 e12 e13 ef ka;go_wp2_with fail;go_meet
    case rel=>exact⟨_,_,_,_,_,rfl,rfl,K1.out,F1.out,R1.out,Y1.out⟩
   ·have ks:=zcH w6 w5.heap.size (.int .i64 (oo:Int)) (.int .i64 (Pn:Int)) (.slice fa2 (oo+1) fc2) (.slice va2 m2 vc2);have K1:=hid (show Kt nO W ((((w6.setCell ⟨w5.heap.size,0,none⟩ (.int .i64 (oo:Int))).setCell ⟨w5.heap.size,1,none⟩ (.int .i64 (Pn:Int))).setCell ⟨w5.heap.size,2,none⟩ (.slice fa2 (oo+1) fc2)).setCell ⟨w5.heap.size,3,none⟩ (.slice va2 m2 vc2))from K6.out.trans ks (fun _ _ e=>e) (fun y hy e=>by have e:y=w5.heap.size:=e;omega));have F1:=hid (show FL ((((w6.setCell ⟨w5.heap.size,0,none⟩ (.int .i64 (oo:Int))).setCell ⟨w5.heap.size,1,none⟩ (.int .i64 (Pn:Int))).setCell ⟨w5.heap.size,2,none⟩ (.slice fa2 (oo+1) fc2)).setCell ⟨w5.heap.size,3,none⟩ (.slice va2 m2 vc2)) fa2 fc2 oo fr' from F6.out.set4 Z6.out _ _ _ _);have R1:=hid (show RN ((((w6.setCell ⟨w5.heap.size,0,none⟩ (.int .i64 (oo:Int))).setCell ⟨w5.heap.size,1,none⟩ (.int .i64 (Pn:Int))).setCell ⟨w5.heap.size,2,none⟩ (.slice fa2 (oo+1) fc2)).setCell ⟨w5.heap.size,3,none⟩ (.slice va2 m2 vc2)) (.slice va2 m2 vc2) ls' from RN.set4 R6.out Z6.out _ _ _ _);have Y1:=hid (show((((w6.setCell ⟨w5.heap.size,0,none⟩ (.int .i64 (oo:Int))).setCell ⟨w5.heap.size,1,none⟩ (.int .i64 (Pn:Int))).setCell ⟨w5.heap.size,2,none⟩ (.slice fa2 (oo+1) fc2)).setCell ⟨w5.heap.size,3,none⟩ (.slice va2 m2 vc2)).heap[w5.heap.size]?=some (r5O (oo:Int) (Pn:Int) (.slice fa2 (oo+1) fc2) (.slice va2 m2 vc2))from zgE Z6.out _ _ _ _);clear c0 c1 c2 c3 c4 c5 c6 c7 c8 c9 c10 c11 c12 c13 cf d0 d1 d2 d3 d4 d5 d6 d7 d8 d9 d10 d11 d12 d13 df e0 e1 e2 e3 e4 e5 e6 e7 e8 e9 e10 e11 e12 e13 ef ks b0 b1 b2 b3 fb;go_wp2_with fail;go_meet
    case rel=>exact⟨_,_,_,_,_,rfl,rfl,K1.out,F1.out,R1.out,Y1.out⟩
  case rest=>
  obtain⟨db,fa1,fc1,va1,vc1,rfl,rfl,hk1,hf1,hr1,hy1⟩:=hcut;have K1:=hid hk1;have F1:=hid hf1;have R1:=hid hr1;have Y1:=hid hy1;clear hk1 hf1 hr1 hy1 SL GV hzi hzw hPw hd1 hd2 hdi hdn hd1n hdw hri hqi hgw hgv hz1 hz2 hz3 hz4;have BW:=hid (BX.out _ K1.out);have DW:=hid (DK.out _ K1.out);have kf:=zbc wc wb 8 9 10 11 (oo:Int) (Pn:Int) (.slice fa1 (oo+1) fc1) (.slice va1 m2 vc1);have D:=hid (show LD (fin4 wc wb 8 9 10 11 (oo:Int) (Pn:Int) (.slice fa1 (oo+1) fc1) (.slice va1 m2 vc1)) wb lw sb b l oo Pn fa1 fc1 va1 m2 vc1 ca n cc pa pc fr' ls' al S.pl from
   ⟨D7.box (D7.mk F1.out (by rw[←HM2.out];exact R1.out) DW.out.cr DW.out.pr) BW.out zcZ kf,zne BW.out (Pn:Int) _ _,HM2.out,HN.out⟩)
  have KK:=hid (show Kt (fun y=>y=wb) W (fin4 wc wb 8 9 10 11 (oo:Int) (Pn:Int) (.slice fa1 (oo+1) fc1) (.slice va1 m2 vc1))from K1.out.trans (U:=fun y=>y=wb) kf (fun _ _ e=>e.elim) (fun y hy e=>e));dsimp only[fin4] at D KK;obtain⟨y0,y1,y2,y3,fy⟩:=r5c Y1.out;obtain⟨c0,c1,c2,c3,c4,c5,c6,c7,c8,c9,c10,c11,c12,c13,cf⟩:=wc7 BW.out;clear kf;go_wp2_with fail;go_ret;exact⟨rfl,KK.out,fa1,fc1,va1,vc1,D.out⟩
theorem zeU{w W wb lw sb x t fr ls S al c fa fc va vc ca cc pa pc}(L:L7 w W wb lw sb x t fr ls S al c fa fc va vc ca cc pa pc)(hc:c≤800)(N rf:Int)(dn:Bool)(P:Int)(p:Nat)(hp:p<18446744073709551616)(g:Nat)(hg:g=(p-x.base)/4096)
  (hok:x.base≤p∧(p-x.base)%4096=0∧p-x.base<4096*t.m.n) (hcn:S.c g=none):
  Calls Tryz.prog 21 #[.pointer (some ⟨wb,0,none⟩),stV 4 N rf dn P,.int .u64 (p:Int)] W fun e w'=>e=.returned (.bool true)∧St7 w W wb lw (c+1) x sb w':=by
 obtain⟨h0,o0⟩:=L.so;have hlc:=L.lc;obtain⟨er,fr',ls',her,hnd,hll,hB1,hB2⟩:=zie (fa:=fa) (fc:=fc) (va:=va) (vc:=vc) (ca:=ca) (cc:=cc) (pa:=pa) (pc:=pc) o0 L.lv L.ae L.nd (by omega) p hp N g hg hok hcn;have ka:=(Kt.refl nO W).alloc (stO 4 N rf dn P);have K0:=hid ka;have Y0:=hid (nH W (stO 4 N rf dn P));have O0:=hid (o0.keep ka);have BK:=hid (fun W' (kk:Kt nO W W')=>zlk (L.keep kk) p hp N g hg hok hcn er fr' ls' hB1);have PG:=hid hB2;have BX:=hid (fun W' (kk:Kt nO W W')=>(L.keep kk).bx);have HND:=hid hnd;have hwb:=L.nw;have HLW:=hid (show wb<W.heap.size from lH L.bx);have HLL:=hid (show ls'.length≤c+1 by omega);have hew:IntKind.i64.wrap (er:Int)=(er:Int):=by rw[IntKind.wrap_i64];omega
 clear L o0 ka hB1 hB2 hok hcn hnd hll hlc hg;go_enter Tryz.func21,Tryz.ntmps21;go_upto_region 1 with fail;generalize W.alloc (stO 4 N rf dn P)=W0 at *;obtain⟨y0,y1,y2,y3,y4⟩:=stc Y0.out;obtain⟨c0,c1,c2,c3,c4,c5,c6,c7,c8,c9,c10,c11,c12,c13,cf⟩:=wc7 (BX.out _ K0.out);go_wp2_with fail;refine(BK.out _ K0.out).mono ?_;rintro e w1 ⟨rfl,hk1,fa1,fc1,va1,vc1,hD1⟩;have K1:=hid (K0.out.trans (U:=fun y=>sown x sb y∨y=wb) hk1 (fun _ _ e=>e.elim) (fun y hy e=>.inr e));have O1:=hid (O0.out.box (BX.out _ K0.out) zah.1 zah.2 hwb hk1);have Y1:=hid ((hk1.block _ (lH Y0.out) (fun e=>by have:=HLW.out;have e:W.heap.size=wb:=e;omega)).trans Y0.out);have D1:=hid hD1;clear hk1 hD1 c0 c1 c2 c3 c4 c5 c6 c7 c8 c9 c10 c11 c12 c13 cf y0 y1 y2 y3 y4;go_upto_region 10 with fail;have KW:=hid ((Kt.refl nO w1).drew);have OD:=hid (O1.out.keep KW.out);have DD:=hid (D1.out.keep KW.out);have YD:=hid ((KW.out.block _ (lH Y1.out) (fun e=>e)).trans Y1.out);have KD:=hid (K1.out.trans (U:=fun y=>sown x sb y∨y=wb) KW.out (fun _ _ e=>e) (fun y hy e=>e.elim));obtain⟨y0,y1,y2,y3,y4⟩:=stc YD.out;obtain⟨c0,c1,c2,c3,c4,c5,c6,c7,c8,c9,c10,c11,c12,c13,cf⟩:=wc7 DD.out.bx;clear K1 O1 Y1 D1 BX BK O0;go_wp2_with fail;go_region_held3 (fun w'=>w'.cell? ⟨wb,3,none⟩=some (.pointer (some ⟨lw,0,none⟩))∧w'.cell? ⟨W.heap.size,1,none⟩=some (.int .i64 N)) ((refine⟨?_,?_⟩ <;> with_reducible assumption)) (first
  | (go_at_call 60;(with_reducible refine(PG.out _ _ OD.out).mono ?_);rintro e w2 ⟨rfl,hA⟩;have A2:=hid hA;have D2:=hid (DD.out.call OD.out hA.kp);obtain⟨d0,d1,d2,d3,d4,d5,d6,d7,d8,d9,d10,d11,d12,d13,df⟩:=wc7 D2.out.bx;obtain⟨z0,z1,z2,z3,z4⟩:=stc ((hA.kp.block _ (lH YD.out) (OD.out.nty YD.out zbR.1 zbR.2)).trans YD.out);clear hA)
  | fail)
 all_goals
  have D:=hid (show St7 w W wb lw (c+1) x sb w2 from by
   obtain⟨x',t',S',hL,hs⟩:=L7.mk' A2.out D2.out hwb HND.out HLL.out;refine⟨sb,x',t',_,_,S',_,_,_,_,_,_,_,_,_,hL,KD.out.trans A2.out.kp (fun _ _ e=>e) (fun y hy e=>.inl e),fun y e=>(hs y e).imp id (fun h=>Nat.le_trans KD.out.size h)⟩)
  clear c0 c1 c2 c3 c4 c5 c6 c7 c8 c9 c10 c11 c12 c13 cf y0 y1 y2 y3 y4 d0 d1 d2 d3 d4 d5 d6 d7 d8 d9 d10 d11 d12 d13 df z0 z1 z2 z3 z4 A2 D2 OD DD YD;go_wp2_with fail;go_ret;exact⟨rfl,D.out⟩
theorem ziu{w W wb lw sb x t fr ls S al c fa fc va vc ca cc pa pc}(L:L7 w W wb lw sb x t fr ls S al c fa fc va vc ca cc pa pc)(hc:c≤800)(N rf:Int)(dn:Bool)(P:Int)(p:Nat)(hp:p<18446744073709551616):
  Calls Tryz.prog 21 #[.pointer (some ⟨wb,0,none⟩),stV 4 N rf dn P,.int .u64 (p:Int)] W fun e w'=>e=.returned (.bool true)∧St7 w W wb lw (c+1) x sb w':=by
 by_cases hok:x.base≤p∧(p-x.base)%4096=0∧p-x.base<4096*t.m.n
 ·cases e:S.c ((p-x.base)/4096)with
  | none=>exact zeU L hc N rf dn P p hp _ rfl hok e
  | some k=>exact zcu L N rf dn P p hp (.inr (by rw[e];rfl))
 ·exact zcu L N rf dn P p hp (.inl hok)
end Go.Proofs.YtgjdmkfpmokkaaaGreatDoor
