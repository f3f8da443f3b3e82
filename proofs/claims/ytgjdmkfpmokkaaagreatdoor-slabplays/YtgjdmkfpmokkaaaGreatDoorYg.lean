import Derived.Test.YtgjdmkfpmokkaaaGreatDoorYe
import Derived.Test.YtgjdmkfpmokkaaaGreatDoorYf
set_option maxRecDepth 1000000
set_option maxHeartbeats 80000000
namespace Go.Proofs.YtgjdmkfpmokkaaaGreatDoor
open Go.RowKit
set_option linter.unusedVariables false
theorem zkV{x:Bx}{f:Nat→Nat}{p k i:Nat}{r:List Nat} : ∀ {l:List Nat},Lnk x f p k (l ++ i :: r)→M.word f (4096*p + i*szC k)=lkA x p k r
 | [],h=>h.1
 | _ :: l,h=>zkV (l:=l) h.2
theorem zlr(x:Bx)(p k:Nat)(l:List Nat):lkR x.base p k l=lkA x p k l:=by
 cases l <;> rfl
theorem zls{l:List Nat}{j:Nat}(h:j<l.length):l=l.take j ++ l.getD j 0 :: l.drop (j + 1):=by
 rw[List.getD_eq_getElem?_getD,List.getElem?_eq_getElem h];have h1:=List.drop_eq_getElem_cons h;calc l=l.take j ++ l.drop j:=(List.take_append_drop j l).symm
  _=_:=by rw[h1];rfl
theorem zng{w W sb lw x t fr ls S h}(o:SO w W sb lw x t fr ls S h){wb b lim oo:Nat}{fv lv pv qv:Value}{po pp:Int}(hx:W.heap[wb]?=some (w7O b lim oo lw sb fv lv pv qv po pp)){g k i:Nat}{l r:List Nat}(hg:S.c g=some k)(hf:S.fl g=l ++ i :: r)(a v:Nat)(ha:a=caN x g k i)(hv:v=lkA x g k r):
  Calls Tryz.prog 14 #[.pointer (some ⟨wb,0,none⟩),.int .u64 (a:Int)] W fun e w'=>e=.returned (.int .u64 (v:Int))∧Kt nO W w':=by
 obtain⟨h1,h2,h3⟩:=o.si.fl g k hg;have hk:=(o.si.pg g k hg).1;have hi:i<ncl k:=h2 i (by rw[hf];simp);obtain⟨_,_,hp1,hpb⟩:=o.mem hg;have n4:=o.po.nums.2.2.2.1;obtain⟨c1,c2,c3⟩:=zaA (x:=x) (p:=g) hk hi (by omega);have hz:=zay hk;have hca:caN x g k i=x.base+4096*g+i*szC k:=rfl;have hW:=ziw o.sw (caN x g k i) (by unfold M.In;omega);rw[hf] at h3;have hw:=zkV h3;rw[show caN x g k i-x.base=4096*g+i*szC k by omega,hw,←ha,←hv] at hW;have SP:=hid (zbl o.sw.pl);have WD:=hid hW;obtain⟨c3',c4⟩:=w7c hx;generalize x.s=sp at *;clear o h1 h2 h3 hk hi hp1 hpb n4 c1 c2 c3 hz hca hW hw ha hv hf hg hx;go_enter Tryz.func14,Tryz.ntmps14;go_wp2_with fail;refine SP.out.mono ?_;rintro e w1 ⟨rfl,h1⟩;replace h1:=h1.symm;subst h1;go_wp2_with fail;refine WD.out.mono ?_;rintro e w2 ⟨rfl,hk2⟩;have D:=hid hk2;clear hk2;go_wp2_with fail;go_ret;exact⟨rfl,D.out⟩
theorem zlt{w W wb lw sb x t fr ls S al c fa fc va vc ca cc pa pc}(L0:L7 w W wb lw sb x t fr ls S al c fa fc va vc ca cc pa pc):Calls Tryz.prog 70 #[.pointer (some ⟨wb,0,none⟩)] W fun e w'=>e=.returned (.bool true)∧Kt nO W w':=by
 obtain⟨h0,o0⟩:=L0.so;have f:=o0.f7 L0.ae;have ROW:=hid f.row;have hna:al.length≤1024:=Nat.le_trans f.na f.n1;have hn1:=f.n1;have hb63:x.base≤9223372036854775808:=by have:=f.b63;omega
 have ALO:=hid (fun i (hi:i<al.length)=>L0.ae.ok _ (zbH hi));have BX:=hid (fun W' (kk:Kt nO W W')=>(L0.keep kk).bx);have CRW:=hid (fun W' (kk:Kt nO W W')=>(L0.keep kk).d.cr);have WOA:=hid (fun W' (kk:Kt nO W W') (g k i:Nat) (l r:List Nat) (hg:S.c g=some k) (hf:S.fl g=l ++ i :: r) (a v:Nat) (ha:a=caN x g k i) (hv:v=lkA x g k r)=>zng (o0.keep kk) (L0.keep kk).bx hg hf a v ha hv);have AD:=hid (fun p k i=>show caN x p k i=x.base+4096*p+i*(16*2 ^ k)from rfl);have LKA:=hid (fun p k l=>zlr x p k l);obtain⟨m,hm⟩:=xe (ls.length);obtain⟨n,hn⟩:=xe (al.length);obtain⟨b,hb⟩:=xe (x.base);obtain⟨l,hl⟩:=xe (x.lim);obtain⟨oo,hoo⟩:=xe (x.o);obtain⟨Pn,hPn⟩:=xe (t.m.n);rw[←hm,←hn,←hb,←hl,←hoo,←hPn] at BX;rw[←hn] at hna CRW ALO ROW;rw[←hPn] at ROW hn1;rw[←hb] at AD LKA hb63;clear L0 o0 f hm hn hb hl hoo hPn;go_enter Tryz.func70,Tryz.ntmps70;go_wp2_with fail;go_loopw [3,4,5] (fun s3 s4 s5 W'=>∃ i:Nat,i≤n∧s3=.int .i64 i∧Hid (Kt nO W W')) (fun s _ _ _=>n-(intOf s).toNat)
 case atStart=>exact⟨0,Nat.zero_le _,rfl,hid (Kt.refl nO W)⟩
 case round=>
  obtain⟨i,hi,rfl,hK⟩:=hrel;have KR:=hK;clear hK;obtain⟨c0,c1,c2,c3,c4,c5,c6,c7,c8,c9,c10,c11,c12,c13,cf⟩:=wc7 (BX.out _ KR.out);by_cases hlt:i<n
  ·have hii:(i:Int)<(n:Int):=(by omega);obtain⟨gc,xa,xc,hca,r0,r1,r2,hNS⟩:=(CRW.out _ KR.out).get i hlt;subst hca;obtain⟨hk8,hl256,hq256,hpP⟩:=ROW.out i hlt;obtain⟨hSc,hSf⟩:=ALO.out i hlt;obtain⟨p,k,fl,hx⟩:∃ p k fl,fnC al i=⟨p,k,fl⟩:=⟨_,_,_,rfl⟩;rw[hx] at r0 r1 r2 hNS hk8 hl256 hq256 hpP hSc hSf;simp only at r0 r1 r2 hNS hk8 hl256 hq256 hpP hSc hSf
   obtain⟨L,hL⟩:=xe (fl.length);rw[←hL] at r2 hNS hl256;have HL:=hid hL;have N0:=hid hNS;have HSC:=hid hSc;have HSF:=hid hSf;have HQ:=hid hq256;clear hx hL hNS hSc hSf hq256;go_upto_region 5 with fail;have ka:=(Kt.refl nO wr).alloc (clO p k (.slice xa L xc));have KR2:=hid (nT KR.out ka);have Y4:=hid (nH wr (clO p k (.slice xa L xc)));have N4:=hid (N0.out.keep ka);clear ka c0 c1 c2 c3 c4 c5 c6 c7 c8 c9 c10 c11 c12 c13 cf r0 r1 r2 N0 KR;generalize wr.heap.size=y4 at *;generalize wr.alloc (clO p k (.slice xa L xc))=w4 at *;go_wp2_with fail;go_loopw [5] (fun s5 W'=>∃ j:Nat,j≤L∧s5=.int .i64 j∧Hid (Kt nO w4 W')) (fun s _=>L-(intOf s).toNat)
   case atStart=>exact⟨0,Nat.zero_le _,rfl,hid (Kt.refl nO w4)⟩
   case round=>
    obtain⟨j,hj,rfl,hK2⟩:=hrel;have KJ:=hid (nT KR2.out hK2.out);have YJ:=hid (s7b Y4.out hK2.out);have NJ:=hid (N4.out.keep hK2.out);obtain⟨y0,y1,y2⟩:=clc YJ.out;by_cases hlt2:j<L
    ·as_aux_lemma=>
     have hji:(j:Int)<(L:Int):=(by omega);have hjl:j<fl.length:=(by rw[←HL.out];exact hlt2);have hN:=NJ.out;rw[HL.out] at hN;obtain⟨gx,ox,hxa,t0⟩:=hN.get hjl;subst hxa;have hq:=HQ.out _ (getD_mem fl hjl);have hla:=zls hjl;obtain⟨q,hqe⟩:=xe (fl.getD j 0);rw[←hqe] at t0 hq hla;have hwb:=zbI hk8;obtain⟨wd,hwd⟩:=xe (16*2 ^ k);obtain⟨ap,hap⟩:=xe (b+4096*p);obtain⟨ic,hic⟩:=xe (q*wd);obtain⟨aq,haq⟩:=xe (ap+ic);obtain⟨v,hv⟩:=xe (lkA x p k (fl.drop (j+1)));have AT:=hid (fun W'=>At7 b (l:Int) (oo:Int) (oo:Int) (Pn:Int) (.slice fa (oo+1) fc) (.slice va m vc) (.slice (some ⟨gc,0,none⟩) n cc) (.slice pa 8 pc) p (by omega) hb63 W');have WD:=hid (fun W'=>zcG k hk8 W');have WO:=hid (fun W' (kk:Kt nO W W')=>WOA.out W' kk p k q _ _ HSC.out (by rw[HSF.out];exact hla) aq v (by rw[AD.out,haq,hap,hic,hwd]) hv);have LK:=hid (fun W' (kk:Kt nO W W') (h2:NS W' (.slice (some ⟨gx,ox,none⟩) L xc) fl)=>znf b hb63 (l:Int) (oo:Int) (oo:Int) (Pn:Int) (.slice fa (oo+1) fc) (.slice va m vc) (.slice (some ⟨gc,0,none⟩) n cc) (.slice pa 8 pc) p k (by omega) hk8 (some ⟨gx,ox,none⟩) xc fl (by rw[←HL.out];omega) HQ.out j hjl W' (by rw[←HL.out];exact h2));rw[←hwd] at WD hwb;rw[←hap] at AT;rw[LKA.out,←hv,←HL.out] at LK;have hic2:(q:Int)*(wd:Int)=(ic:Int):=(by rw[hic];simp);have hicb:ic≤1048576:=by
      rw[hic];exact Nat.le_trans (Nat.mul_le_mul hq hwb.2) (by decide)
     have hapb:ap≤9223372036854775808+8388608:=(by rw[hap];omega);have hicw:IntKind.i64.wrap (ic:Int)=(ic:Int):=(by rw[IntKind.wrap_i64];omega);have hicu:IntKind.u64.wrap (ic:Int)=(ic:Int):=(by rw[wrap_u64];omega);have haqi:(ap:Int)+(ic:Int)=(aq:Int):=(by rw[haq];simp);have haqw:IntKind.u64.wrap (aq:Int)=(aq:Int):=(by rw[wrap_u64];omega);have KD:=hid (nT KJ.out ((Kt.refl nO wr).drew));have KW:=hid ((Kt.refl nO wr).drew);have NW:=hid (fun W' (kk:Kt nO wr W')=>NJ.out.keep kk);have YC:=hid (fun W' (kk:Kt nO wr W')=>clc (s7b YJ.out kk));have TC:=hid (fun W' (kk:Kt nO wr W')=>show W'.cell? ⟨gx,ox+j,none⟩=some (.int .i64 (q:Int))from kk.cell (fun e=>e) t0);have KQ:=hid (fun W' (kk:Kt nO wr W')=>nT hK2.out kk);obtain⟨c0,c1,c2,c3,c4,c5,c6,c7,c8,c9,c10,c11,c12,c13,cf⟩:=wc7 (BX.out _ KD.out);obtain⟨z0,z1,z2⟩:=YC.out _ KW.out;have zt:=TC.out _ KW.out;clear hwd hap hic haq hv hqe hla hN hK2 KJ YJ NJ;go_wp2_with fail;go_region_held3 (fun w'=>w'.cell? ⟨wb,5,none⟩=some (.int .u64 (b:Int))∧w'.cell? ⟨wb,6,none⟩=some (.int .i64 (l:Int))∧w'.cell? ⟨wb,7,none⟩=some (.int .i64 (oo:Int))∧w'.cell? ⟨wb,8,none⟩=some (.int .i64 (oo:Int))∧w'.cell? ⟨wb,9,none⟩=some (.int .i64 (Pn:Int))∧w'.cell? ⟨wb,10,none⟩=some (.slice fa (oo+1) fc)∧w'.cell? ⟨wb,11,none⟩=some (.slice va m vc)∧w'.cell? ⟨wb,12,none⟩=some (.slice (some ⟨gc,0,none⟩) n cc)∧w'.cell? ⟨wb,13,none⟩=some (.slice pa 8 pc)∧w'.cell? ⟨y4,0,none⟩=some (.int .i64 (p:Int))∧w'.cell? ⟨y4,1,none⟩=some (.int .i64 (k:Int))∧w'.cell? ⟨y4,2,none⟩=some (.slice (some ⟨gx,ox,none⟩) L xc)∧w'.cell? ⟨gx,ox+j,none⟩=some (.int .i64 (q:Int))) ((refine⟨?_,?_,?_,?_,?_,?_,?_,?_,?_,?_,?_,?_,?_⟩ <;> with_reducible assumption)) (first
      | (go_at_call 51;(with_reducible refine(WD.out _).mono ?_);rintro e w9 ⟨rfl,h9⟩;replace h9:=h9.symm;subst h9)
      | (go_at_call 20;(with_reducible refine(AT.out _).mono ?_);rintro e w5 ⟨rfl,hk0⟩;have K5:=hid (nT KD.out hk0);have J5:=hid (nT KW.out hk0);obtain⟨d0,d1,d2,d3,d4,d5,d6,d7,d8,d9,d10,d11,d12,d13,df⟩:=wc7 (BX.out _ K5.out);obtain⟨dy0,dy1,dy2⟩:=YC.out _ J5.out;have dt:=TC.out _ J5.out;clear hk0)
      | (go_at_call 14;(with_reducible refine(WO.out _ KD.out).mono ?_);rintro e w5 ⟨rfl,hk0⟩;have K5:=hid (nT KD.out hk0);have J5:=hid (nT KW.out hk0);obtain⟨d0,d1,d2,d3,d4,d5,d6,d7,d8,d9,d10,d11,d12,d13,df⟩:=wc7 (BX.out _ K5.out);obtain⟨dy0,dy1,dy2⟩:=YC.out _ J5.out;have dt:=TC.out _ J5.out;clear hk0)
      | (go_at_call 129;(with_reducible refine(LK.out _ KD.out (NW.out _ KW.out)).mono ?_);rintro e w5 ⟨rfl,hk0⟩;have K5:=hid (nT KD.out hk0);have J5:=hid (nT KW.out hk0);obtain⟨d0,d1,d2,d3,d4,d5,d6,d7,d8,d9,d10,d11,d12,d13,df⟩:=wc7 (BX.out _ K5.out);obtain⟨dy0,dy1,dy2⟩:=YC.out _ J5.out;have dt:=TC.out _ J5.out;clear hk0)
      | (go_at_call 20;(with_reducible refine(AT.out _).mono ?_);rintro e w6 ⟨rfl,hk1⟩;have K6:=hid (nT K5.out hk1);have J6:=hid (nT J5.out hk1);obtain⟨e0,e1,e2,e3,e4,e5,e6,e7,e8,e9,e10,e11,e12,e13,ef⟩:=wc7 (BX.out _ K6.out);obtain⟨ey0,ey1,ey2⟩:=YC.out _ J6.out;have et:=TC.out _ J6.out;clear hk1)
      | (go_at_call 14;(with_reducible refine(WO.out _ K5.out).mono ?_);rintro e w6 ⟨rfl,hk1⟩;have K6:=hid (nT K5.out hk1);have J6:=hid (nT J5.out hk1);obtain⟨e0,e1,e2,e3,e4,e5,e6,e7,e8,e9,e10,e11,e12,e13,ef⟩:=wc7 (BX.out _ K6.out);obtain⟨ey0,ey1,ey2⟩:=YC.out _ J6.out;have et:=TC.out _ J6.out;clear hk1)
      | (go_at_call 129;(with_reducible refine(LK.out _ K5.out (NW.out _ J5.out)).mono ?_);rintro e w6 ⟨rfl,hk1⟩;have K6:=hid (nT K5.out hk1);have J6:=hid (nT J5.out hk1);obtain⟨e0,e1,e2,e3,e4,e5,e6,e7,e8,e9,e10,e11,e12,e13,ef⟩:=wc7 (BX.out _ K6.out);obtain⟨ey0,ey1,ey2⟩:=YC.out _ J6.out;have et:=TC.out _ J6.out;clear hk1)
      | (go_at_call 20;(with_reducible refine(AT.out _).mono ?_);rintro e w7 ⟨rfl,hk2⟩;have K7:=hid (nT K6.out hk2);have J7:=hid (nT J6.out hk2);obtain⟨f0,f1,f2,f3,f4,f5,f6,f7,f8,f9,f10,f11,f12,f13,ff⟩:=wc7 (BX.out _ K7.out);obtain⟨fy0,fy1,fy2⟩:=YC.out _ J7.out;have ft:=TC.out _ J7.out;clear hk2)
      | (go_at_call 14;(with_reducible refine(WO.out _ K6.out).mono ?_);rintro e w7 ⟨rfl,hk2⟩;have K7:=hid (nT K6.out hk2);have J7:=hid (nT J6.out hk2);obtain⟨f0,f1,f2,f3,f4,f5,f6,f7,f8,f9,f10,f11,f12,f13,ff⟩:=wc7 (BX.out _ K7.out);obtain⟨fy0,fy1,fy2⟩:=YC.out _ J7.out;have ft:=TC.out _ J7.out;clear hk2)
      | (go_at_call 129;(with_reducible refine(LK.out _ K6.out (NW.out _ J6.out)).mono ?_);rintro e w7 ⟨rfl,hk2⟩;have K7:=hid (nT K6.out hk2);have J7:=hid (nT J6.out hk2);obtain⟨f0,f1,f2,f3,f4,f5,f6,f7,f8,f9,f10,f11,f12,f13,ff⟩:=wc7 (BX.out _ K7.out);obtain⟨fy0,fy1,fy2⟩:=YC.out _ J7.out;have ft:=TC.out _ J7.out;clear hk2)
      | fail)
     all_goals
      have D:=hid (KQ.out _ J7.out);go_wp2_with fail;exact⟨⟨j+1,by omega,by simp,D⟩,by simp[intOf];omega⟩
    ·obtain rfl:j=L:=(by omega);have hji:¬(j:Int)<(j:Int):=(by omega);have D:=KJ;go_wp2_with fail;exact⟨⟨i+1,by omega,by simp,D⟩,by simp[intOf];omega⟩
  ·obtain rfl:i=n:=(by omega);have hii:¬(i:Int)<(i:Int):=(by omega);go_wp2_with fail;go_ret;exact⟨rfl,KR.out⟩
theorem AL.is{al c fl}(h:AL al c fl)(g:Nat) : 0≤fndI (fnd (fnC al) ((g:Nat):Int) al.length)↔(c g).isSome=true:=by
 cases e:c g with
 | none=>rw[(h.none_of e).1];simp[fndI]
 | some k=>
  obtain⟨j,_,h2,_⟩:=h.find e;rw[h2];simp[fndI]
theorem zf4{w W wb lw sb x t fr ls S al c fa fc va vc ca cc pa pc}(L0:L7 w W wb lw sb x t fr ls S al c fa fc va vc ca cc pa pc)(p:Nat)(hp:p<18446744073709551616):
  Calls Tryz.prog 119 #[.pointer (some ⟨wb,0,none⟩),.int .u64 (p:Int)] W fun e w'=>e=.returned (.bool (decide (x.base≤p) && (S.c ((p-x.base)/4096%1099511627776)).isSome))∧Kt nO W w':=by
 obtain⟨h0,o0⟩:=L0.so;have f:=o0.f7 L0.ae;have hna:al.length≤1024:=Nat.le_trans f.na f.n1;have hb63:x.base≤9223372036854775808:=by have:=f.b63;omega
 have BX:=hid (fun W' (kk:Kt nO W W')=>(L0.keep kk).bx);have hIS:=L0.ae.is ((p-x.base)/4096%1099511627776);have FD:=hid (fun W' (kk:Kt nO W W') (g:Int)=>zh6 x.base (x.lim:Int) (x.o:Int) (x.o:Int) (t.m.n:Int) (.slice fa (x.o+1) fc) (.slice va ls.length vc) ca al.length cc (.slice pa 8 pc) (fnC al) (by omega) g W' (L0.keep kk).d.cr);obtain⟨m,hm⟩:=xe (ls.length);obtain⟨n,hn⟩:=xe (al.length);obtain⟨b,hb⟩:=xe (x.base);obtain⟨l,hl⟩:=xe (x.lim);obtain⟨oo,hoo⟩:=xe (x.o);obtain⟨Pn,hPn⟩:=xe (t.m.n);rw[←hm,←hn,←hb,←hl,←hoo,←hPn] at BX;rw[←hm,←hn,←hb,←hl,←hoo,←hPn] at FD;rw[←hb,←hn] at hIS;rw[←hb];rw[←hb] at hb63;clear L0 o0 f hm hn hb hl hoo hPn;obtain⟨c0,c1,c2,c3,c4,c5,c6,c7,c8,c9,c10,c11,c12,c13,cf⟩:=wc7 (BX.out _ (Kt.refl nO W));by_cases hbp:b≤p
 ·obtain⟨d,hd⟩:=xe (p-b);obtain⟨q,hq⟩:=xe (d/4096);obtain⟨g,hg⟩:=xe (q%1099511627776);have hbi:(b:Int)≤(p:Int):=by omega
  have hdi:(p:Int)-(b:Int)=(d:Int):=by omega
  have hdw:IntKind.u64.wrap (d:Int)=(d:Int):=by rw[wrap_u64];omega
  have hqi:(d:Int).tdiv 4096=(q:Int):=by rw[hq,Int.tdiv_eq_ediv_of_nonneg (by omega)];rfl
  have hqw:IntKind.u64.wrap (q:Int)=(q:Int):=by rw[wrap_u64];omega
  have hgi:(q:Int).tmod 1099511627776=(g:Int):=by rw[hg,Int.tmod_eq_emod_of_nonneg (by omega)];rfl
  have hgw:IntKind.u64.wrap (g:Int)=(g:Int):=by rw[wrap_u64];omega
  have hgv:IntKind.i64.wrap (g:Int)=(g:Int):=by rw[IntKind.wrap_i64];omega
  rw[←hd,←hq,←hg] at hIS ⊢;obtain⟨v,hv⟩:=xe (fndI (fnd (fnC al) ((g:Nat):Int) n));have F1:=hid (fun W' (kk:Kt nO W W')=>FD.out W' kk (g:Int));rw[←hv] at hIS F1;have hE:(decide (b≤p) && (S.c g).isSome)=decide (0≤v):=by
   rw[decide_eq_true hbp,Bool.true_and,Bool.eq_iff_iff,←hIS];simp
  rw[hE];clear hIS hE hv hg hq hd FD;go_enter Tryz.func119,Tryz.ntmps119;have KD:=hid ((Kt.refl nO W).drew);have hbd:decide ((b:Int)≤(p:Int))=true:=decide_eq_true hbi;clear c0 c1 c2 c3 c4 c5 c6 c7 c8 c9 c10 c11 c12 c13 cf;obtain⟨c0,c1,c2,c3,c4,c5,c6,c7,c8,c9,c10,c11,c12,c13,cf⟩:=wc7 (BX.out _ KD.out);go_wp2_with fail;go_region_held3 (fun w'=>w'.cell? ⟨wb,0,none⟩=some (.int .u64 (b:Int))∧w'.cell? ⟨wb,5,none⟩=some (.int .u64 (b:Int))∧w'.cell? ⟨wb,6,none⟩=some (.int .i64 (l:Int))∧w'.cell? ⟨wb,7,none⟩=some (.int .i64 (oo:Int))∧w'.cell? ⟨wb,8,none⟩=some (.int .i64 (oo:Int))∧w'.cell? ⟨wb,9,none⟩=some (.int .i64 (Pn:Int))∧w'.cell? ⟨wb,10,none⟩=some (.slice fa (oo+1) fc)∧w'.cell? ⟨wb,11,none⟩=some (.slice va m vc)∧w'.cell? ⟨wb,12,none⟩=some (.slice ca n cc)∧w'.cell? ⟨wb,13,none⟩=some (.slice pa 8 pc)) ((refine⟨?_,?_,?_,?_,?_,?_,?_,?_,?_,?_⟩ <;> with_reducible assumption)) (first
   | (go_at_call 50;(with_reducible refine(F1.out _ KD.out).mono ?_);rintro e w5 ⟨rfl,hk5⟩;have K5:=hid (nT KD.out hk5);obtain⟨d0,d1,d2,d3,d4,d5,d6,d7,d8,d9,d10,d11,d12,d13,df⟩:=wc7 (BX.out _ K5.out);clear hk5)
   | fail)
  all_goals
   have D:=K5;go_wp2_with fail;go_ret;exact⟨rfl,D.out⟩
 ·have hbi:¬(b:Int)≤(p:Int):=by omega
  have hE:(decide (b≤p) && (S.c ((p-b)/4096%1099511627776)).isSome)=false:=by
   rw[decide_eq_false hbp,Bool.false_and]
  rw[hE];have hbd:decide ((b:Int)≤(p:Int))=false:=decide_eq_false hbi;have hbl:(p:Int)<(b:Int):=by omega
  have D:=hid (fun r=>show Kt nO W (W.drewN r)from(Kt.refl nO W).drewN r);go_enter Tryz.func119,Tryz.ntmps119;go_wp2_with fail;go_quiet (fail)
  go_wp2_with fail;go_ret;exact⟨rfl,D.out _⟩
end Go.Proofs.YtgjdmkfpmokkaaaGreatDoor
