import Derived.Test.YtgjdmkfpmokkaaaGreatDoorZu
set_option maxRecDepth 1000000
set_option maxHeartbeats 80000000
namespace Go.Proofs.YtgjdmkfpmokkaaaGreatDoor
open Go.RowKit
set_option linter.unusedVariables false
theorem zjm(b l o P:Nat)(hb:b≤9223372036854775808)(fa1:Option Addr)(fc1:Nat)(va1:Option Addr)(vc1:Nat)(ca1:Option Addr)(cc1:Nat)(pa1:Option Addr)(pc1:Nat)(fr1:Nat→List Nat)(ls1:List (Nat×Nat))(al1:List Cl)(pl1:Nat→List Nat)(k:Nat)(hk:k<8)(dn:Bool)(p i:Nat)(r l':List Nat)(j:Nat)(hpb:p≤1024)(hib:i≤256)(hpl:pl1 k=p :: l')(hfd:fnd (fnC al1) (p:Int) al1.length=some j)(hx:fnC al1 j=⟨p,k,i :: r⟩)(hal:al1.length≤1024)(hpq:(pl1 k).length≤1024)(hrb:r.length≤256)(w:World)(h:D7 w o fa1 fc1 va1 vc1 ca1 cc1 pa1 pc1 fr1 ls1 al1 pl1):
  Calls Tryz.prog 17 #[s7V b (l:Int) (o:Int) (o:Int) (P:Int) (.slice fa1 (o+1) fc1) (.slice va1 ls1.length vc1) (.slice ca1 al1.length cc1) (.slice pa1 8 pc1),.int .i64 (k:Int),.bool dn] w fun e w'=>K7P w b l o P fr1 ls1 (putL ⟨p,k,r⟩ false al1) (if r=[] then updF pl1 k (parL (pl1 k) p false) else pl1) (b+4096*p+i*(16*2 ^ k)) false 0 e w':=by
 obtain⟨m1,hm1⟩:=xe (ls1.length);obtain⟨n1,hn1⟩:=xe (al1.length);have hjn:=(zdP hfd).1;rw[←hn1] at hjn hal;have AT:=hid (fun P2 fa' fc' va' m' vc' ca' n' cc' pa' pc' W'=>At7 b (l:Int) (o:Int) (o:Int) (P2:Int) (.slice fa' (o+1) fc') (.slice va' m' vc') (.slice ca' n' cc') (.slice pa' 8 pc') p hpb hb W');have WD:=hid (fun W'=>zcG k hk W');have hwb:=zbI hk;obtain⟨wd,hwd⟩:=xe (16*2 ^ k);obtain⟨ap,hap⟩:=xe (b+4096*p);obtain⟨ic,hic⟩:=xe (i*wd);obtain⟨aq,haq⟩:=xe (ap+ic);rw[←hwd] at WD hwb ⊢;rw[←hap] at AT ⊢;rw[←hic,←haq];have hic2:(i:Int)*(wd:Int)=(ic:Int):=by rw[hic];simp
 have hicb:ic≤1048576:=by
  rw[hic];exact Nat.le_trans (Nat.mul_le_mul hib hwb.2) (by decide)
 have hapb:ap≤9223372036854775808+8388608:=by rw[hap];omega
 have hicw:IntKind.i64.wrap (ic:Int)=(ic:Int):=by rw[IntKind.wrap_i64];omega
 have hicu:IntKind.u64.wrap (ic:Int)=(ic:Int):=by rw[wrap_u64];omega
 have haqi:(ap:Int)+(ic:Int)=(aq:Int):=by rw[haq];simp
 have haqw:IntKind.u64.wrap (aq:Int)=(aq:Int):=by rw[wrap_u64];omega
 clear hwd hap hic haq;obtain⟨al2,hal2⟩:=xe (putL ⟨p,k,r⟩ false al1);obtain⟨n2,hn2⟩:=xe (al2.length);obtain⟨pl2,hpl2⟩:=xe ((if r=[] then updF pl1 k (parL (pl1 k) p false) else pl1));rw[←hal2,←hpl2];have HP2:=hid (show(r=[]→pl2=updF pl1 k (parL (pl1 k) p false))∧(r≠[]→pl2=pl1)from⟨fun e=>by rw[hpl2,if_pos e],fun e=>by rw[hpl2,if_neg e]⟩);unfold K7P;rw[←hn2];have HA2:=hid hal2;have HN2:=hid hn2;clear hal2 hn2 hpl2;rw[←hm1,←hn1];have HM:=hid hm1;have HN:=hid hn1;have HX:=hid hx;have HFD:=hid hfd;have HPL:=hid hpl;have T2:=two5 w (s7O b (l:Int) (o:Int) (o:Int) (P:Int) (.slice fa1 (o+1) fc1) (.slice va1 m1 vc1) (.slice ca1 n1 cc1) (.slice pa1 8 pc1)) s7Z;have K1:=hid T2.1;have X1:=hid T2.2.1;have Z1:=hid T2.2.2;have D1:=hid (h.keep T2.1);have hki:¬(k:Int)<0:=by omega
 have hki2:¬(7:Int)<(k:Int):=by omega
 have hki3:(k:Int)<8:=by omega
 have HPQ:=hid hpq;have HRB:=hid hrb;clear T2 h hm1 hn1 hx hfd hpl hpq hrb;go_enter Tryz.func17,Tryz.ntmps17;go_upto_region 1 with fail;generalize (w.alloc (s7O b (l:Int) (o:Int) (o:Int) (P:Int) (.slice fa1 (o+1) fc1) (.slice va1 m1 vc1) (.slice ca1 n1 cc1) (.slice pa1 8 pc1))).alloc s7Z=W1 at *;obtain⟨x0,x1,x2,x3,x4,x5,x6,x7,x8,xf⟩:=s7c X1.out;obtain⟨gp,A,C,hpa,p0,_⟩:=D1.out.pr.get k (by omega);subst hpa;have hlz:((pl1 k).length:Int)≠0:=by rw[HPL.out];simp;omega
 generalize (pl1 k).length=lz at p0 hlz;have hlzb:((lz:Int) == 0)=false:=by rw[beq_eq_false_iff_ne];exact hlz
 go_upto_region 15 with fail;clear p0 hlz hlzb x0 x1 x2 x3 x4 x5 x6 x7 x8 xf;obtain⟨x0,x1,x2,x3,x4,x5,x6,x7,x8,xf⟩:=s7c X1.out;obtain⟨lq,hlq⟩:=xe ((pl1 k).length);obtain⟨gp,A,C,hpa,p0,hA⟩:=D1.out.pr.get k (by omega);injection hpa with hpa
 injection hpa with hpa
 subst hpa;obtain⟨gl,hgl,p1⟩:=hA.get (i:=0) (by rw[HPL.out];simp);subst hgl;have hp0:(pl1 k).getD 0 0=p:=by rw[HPL.out];rfl
 rw[hp0] at p1;rw[←hlq] at p0;have hlq1 : 1≤lq:=by rw[hlq,HPL.out];simp
 have HLQ:=hid hlq;have hlqi:(0:Int)<(lq:Int):=by omega
 have hlqn : 0<lq:=by omega
 obtain⟨gc,xa,xc,hca,r0,r1,r2,hNS⟩:=(HN.out▸D1.out.cr:CR W1 (.slice ca1 n1 cc1) n1 (fnC al1)).get j hjn;subst hca;rw[HX.out] at r0 r1 r2 hNS;obtain⟨L,hL⟩:=xe ((i :: r).length);simp only[←hL] at r0 r1 r2 hNS;have hL1 : 1≤L:=by rw[hL];simp
 have HL:=hid hL;have NS1:=hid hNS;have hcap:L≤xc:=by
  obtain⟨_,_,e,h2,_⟩:=hNS;injection e with _ _ e
  rw[hL,e];exact h2
 have FN:=hid (fun W' (kk:Kt nO W1 W')=>zh6 b (l:Int) (o:Int) (o:Int) (P:Int) (.slice fa1 (o+1) fc1) (.slice va1 m1 vc1) (some ⟨gc,0,none⟩) n1 cc1 (.slice (some ⟨gp,0,none⟩) 8 pc1) (fnC al1) (by omega) (p:Int) W' ((HN.out▸D1.out.cr:CR W1 (.slice (some ⟨gc,0,none⟩) n1 cc1) n1 (fnC al1)).keep kk));have hm1:fndI (fnd (fnC al1) (p:Int) n1)=(j:Int):=by rw[HN.out,HFD.out];rfl
 rw[hm1] at FN;have RC:=hid (fun W' (kk:Kt nO W1 W')=>show W'.cell? ⟨gc,j*3,none⟩=some (.int .i64 (p:Int))∧W'.cell? ⟨gc,j*3+1,none⟩=some (.int .i64 (k:Int))∧W'.cell? ⟨gc,j*3+2,none⟩=some (.slice xa L xc)from⟨kk.cell (fun e=>e) r0,kk.cell (fun e=>e) r1,kk.cell (fun e=>e) r2⟩);have XC:=hid (fun W' (kk:Kt nO W1 W')=>s7c (s7b X1.out kk));have PC:=hid (fun W' (kk:Kt nO W1 W')=>show W'.cell? ⟨gp,k,none⟩=some (.slice (some ⟨gl,0,none⟩) lq C)∧W'.cell? ⟨gl,0,none⟩=some (.int .i64 (p:Int))from⟨kk.cell (fun e=>e) p0,kk.cell (fun e=>e) p1⟩);have KD:=hid ((Kt.refl nO W1).drew);have KZ:=hid ((Kt.refl nO W1).alloc (.cells #[.int .i64 0,.int .i64 0,.slice none 0 0] 121));have KA:=hid (((Kt.refl nO W1).alloc (.cells #[.int .i64 0,.int .i64 0,.slice none 0 0] 121)).drew);have YA:=hid (nH W1 (.cells #[.int .i64 0,.int .i64 0,.slice none 0 0] 121));obtain⟨z0,z1,z2,z3,z4,z5,z6,z7,z8,zf⟩:=XC.out _ KZ.out;obtain⟨zp,zq⟩:=PC.out _ KZ.out;have CA:=hid (fun w7 (hk:Kt nO W1.drew w7)=>show Kt nO W1 (w7.alloc (clO p k (.slice xa L xc)))∧(w7.alloc (clO p k (.slice xa L xc))).heap[w7.heap.size]?=some (clO p k (.slice xa L xc))∧W1.heap.size≤w7.heap.size from by
  have k7:=nT KD.out hk;exact⟨nT k7 ((Kt.refl nO w7).alloc _),nH w7 _,k7.size⟩)
 have CB:=hid (fun w7 (hk:Kt nO (W1.alloc (.cells #[.int .i64 0,.int .i64 0,.slice none 0 0] 121)).drew w7)=>show Kt nO W1 (((w7.setCell ⟨W1.heap.size,0,none⟩ (.int .i64 (p:Int))).setCell ⟨W1.heap.size,1,none⟩ (.int .i64 (k:Int))).setCell ⟨W1.heap.size,2,none⟩ (.slice xa L xc))∧(((w7.setCell ⟨W1.heap.size,0,none⟩ (.int .i64 (p:Int))).setCell ⟨W1.heap.size,1,none⟩ (.int .i64 (k:Int))).setCell ⟨W1.heap.size,2,none⟩ (.slice xa L xc)).heap[W1.heap.size]?=some (clO p k (.slice xa L xc))∧W1.heap.size≤W1.heap.size from by
  have k7:=nT KA.out hk;have nn:¬W1.heap.size<W1.heap.size:=by omega
  exact⟨((k7.setNew (p:=⟨W1.heap.size,0,none⟩) nn _).setNew (p:=⟨W1.heap.size,1,none⟩) nn _).setNew (p:=⟨W1.heap.size,2,none⟩) nn _,hS9 (hS9 (hS9 (s7b (show(W1.alloc (.cells #[.int .i64 0,.int .i64 0,.slice none 0 0] 121)).drew.heap[W1.heap.size]?=_ from YA.out) hk) 0 _) 1 _) 2 _,Nat.le_refl _⟩)
 clear hm1 hA hp0 hlq hL hNS;go_cut [17] (fun s17 wx=>∃ y3,s17=.pointer (some ⟨y3,0,none⟩)∧Hid (Kt nO W1 wx∧wx.heap[y3]?=some (clO p k (.slice xa L xc))∧W1.heap.size≤y3))
 case first=>
  obtain⟨d0,d1,d2,d3,d4,d5,d6,d7,d8,df⟩:=XC.out _ KD.out;obtain⟨dp,dq⟩:=PC.out _ KD.out;obtain⟨dr0,dr1,dr2⟩:=RC.out _ KD.out;have hne1:w.heap.size≠W1.heap.size:=Nat.ne_of_lt (lH X1.out);have hne2:gp≠W1.heap.size:=Nat.ne_of_lt (zbV p0);have hne3:gl≠W1.heap.size:=Nat.ne_of_lt (zbV p1);have hne4:gc≠W1.heap.size:=Nat.ne_of_lt (zbV r0);go_region_held3 (fun w'=>w'.cell? ⟨w.heap.size,0,none⟩=some (.int .u64 (b:Int))∧w'.cell? ⟨w.heap.size,1,none⟩=some (.int .i64 (l:Int))∧w'.cell? ⟨w.heap.size,2,none⟩=some (.int .i64 (o:Int))∧w'.cell? ⟨w.heap.size,3,none⟩=some (.int .i64 (o:Int))∧w'.cell? ⟨w.heap.size,4,none⟩=some (.int .i64 (P:Int))∧w'.cell? ⟨w.heap.size,5,none⟩=some (.slice fa1 (o+1) fc1)∧w'.cell? ⟨w.heap.size,6,none⟩=some (.slice va1 m1 vc1)∧w'.cell? ⟨w.heap.size,7,none⟩=some (.slice (some ⟨gc,0,none⟩) n1 cc1)∧w'.cell? ⟨w.heap.size,8,none⟩=some (.slice (some ⟨gp,0,none⟩) 8 pc1)∧w'.cell? ⟨gp,k,none⟩=some (.slice (some ⟨gl,0,none⟩) lq C)∧w'.cell? ⟨gl,0,none⟩=some (.int .i64 (p:Int))∧w'.cell? ⟨gc,j*3,none⟩=some (.int .i64 (p:Int))∧w'.cell? ⟨gc,j*3+1,none⟩=some (.int .i64 (k:Int))∧w'.cell? ⟨gc,j*3+2,none⟩=some (.slice xa L xc)) ((refine⟨?_,?_,?_,?_,?_,?_,?_,?_,?_,?_,?_,?_,?_,?_⟩ <;> first|with_reducible assumption|with_reducible exact zdq (aCL (by with_reducible assumption))|with_reducible exact aCL (by with_reducible assumption)|with_reducible exact ze2 (by with_reducible assumption) (by with_reducible assumption) _ _ _)) (first
   | (go_at_call 50;(with_reducible refine(FN.out _ KD.out).mono ?_);rintro e w7 ⟨rfl,hk7⟩;have K7:=hid (nT KD.out hk7);obtain⟨q0,q1,q2⟩:=RC.out _ K7.out;obtain⟨qp,qq⟩:=PC.out _ K7.out;obtain⟨y0,y1,y2,y3,y4,y5,y6,y7,y8,yf⟩:=XC.out _ K7.out;have DA:=hid (CA.out _ hk7);clear hk7)
   | (go_at_call 50;(with_reducible refine(FN.out _ KA.out).mono ?_);rintro e w7 ⟨rfl,hk7⟩;have K7:=hid (nT KA.out hk7);obtain⟨q0,q1,q2⟩:=RC.out _ K7.out;obtain⟨qp,qq⟩:=PC.out _ K7.out;obtain⟨y0,y1,y2,y3,y4,y5,y6,y7,y8,yf⟩:=XC.out _ K7.out;obtain⟨v0,v1,v2,vf⟩:=clz (s7b (show(W1.alloc (.cells #[.int .i64 0,.int .i64 0,.slice none 0 0] 121)).drew.heap[W1.heap.size]?=_ from YA.out) hk7);have DB:=hid (CB.out _ hk7);clear hk7)
   | fail)
  all_goals
   first
   |(
    have D:=DB;go_wp2_with fail;go_meet
    case rel=>exact⟨_,rfl,D⟩)
   |(
    have D:=DA;go_wp2_with fail;go_meet
    case rel=>exact⟨_,rfl,D⟩)
 case rest=>
 obtain⟨y3,rfl,HC⟩:=hcut;clear x0 x1 x2 x3 x4 x5 x6 x7 x8 xf z0 z1 z2 z3 z4 z5 z6 z7 z8 zf zp zq p0 p1 r0 r1 r2 FN RC PC KD KZ KA YA CA CB;obtain⟨hKc,hYc,hy3⟩:=HC.out;have T2:=hid (show T7 w wc y3 (clO p k (.slice xa L xc)) b l o P fa1 fc1 va1 m1 vc1 (some ⟨gc,0,none⟩) n1 cc1 (some ⟨gp,0,none⟩) pc1 fr1 ls1 al1 pl1 from⟨nT K1.out hKc,s7b X1.out hKc,s7b Z1.out hKc,hYc,by have h1:=lH Z1.out;omega,D1.out.keep hKc,HM.out,HN.out⟩);have hNS2:=NS1.out.keep hKc;clear HC hKc hYc hy3 X1 Z1 D1 K1 NS1 XC;rw[HL.out] at hNS2;obtain⟨gx,ox,hxa,t0⟩:=hNS2.get (i:=0) (by simp);subst hxa;rw[Nat.add_zero] at t0;have hi0:(i :: r).getD 0 0=i:=rfl;rw[hi0] at t0;obtain⟨a',hta,htl⟩:=hNS2.tail;obtain⟨xa',hxa'⟩:∃ xa':Option Addr,xa'=if xc=1 then some ⟨gx,ox,none⟩ else some ⟨gx,ox+1,none⟩:=⟨_,rfl⟩;have hLr:L=r.length+1:=by rw[HL.out];simp
 have hNT:NS wc (.slice xa' r.length (xc-1)) r:=by
  obtain⟨_,_,e1,e2,e3⟩:=hta;injection e1 with e4 _ e5
  refine⟨xa',xc-1,rfl,by rw[e5];exact e2,?_⟩;by_cases h1:xc=1
  ·exact .inl (List.eq_nil_of_length_eq_zero (by omega))
  ·rcases htl gx ox rfl with h2|h2
   ·exact .inl h2
   ·rw[←e4,h2] at e3;rw[hxa',if_neg h1];exact e3
 have NT:=hid hNT;have HXA:=hid hxa';clear hNS2 hi0 hta htl hNT hxa';obtain⟨y0,y1,y2⟩:=clc T2.out.y;obtain⟨x0,x1,x2,x3,x4,x5,x6,x7,x8,xf⟩:=s7c T2.out.x;go_upto_region 17 with fail;have PT:=hid (fun W' (kk:Kt nO wc W')=>put7 b (l:Int) (o:Int) (o:Int) (P:Int) fa1 (o+1) fc1 va1 m1 vc1 (some ⟨gc,0,none⟩) cc1 (some ⟨gp,0,none⟩) 8 pc1 al1 (by rw[←HN.out];omega) ⟨p,k,r⟩ xa' (xc-1) false W' (T2.out.d.cr.keep kk) (NT.out.keep kk));rw[←HN.out] at PT;obtain⟨L2,hL2⟩:=xe (r.length);have HL2:=hid hL2;simp only[←hL2,←HA2.out] at PT;rw[←HN2.out] at PT;have hLL:L-1=L2:=by omega
 have HLr:=hid (show L=L2+1 from by omega);obtain⟨xd,hxd⟩:=xe (xc-1);have KD:=hid ((Kt.refl nO wc).drew);have SL:=hid (show ∀ W,(Instr.slice 43 (.slice (some ⟨gx,ox,none⟩) L xc) (some (.int .i64 1)) none none).run Tryz.prog W=.ok (.slice xa' L2 xd) W from fun W=>by
  have h1:((1:Int)≤(L:Int)):=by omega
  have e1:(0:Int)≤1∧(1:Int)≤(L:Int):=⟨by decide,h1⟩;simp[Instr.slice,Instr.sliceBounds,Instr.sliceBound,run_underlying Tryz.underlying43,go_sem,h1,HXA.out,hxd,hLL])
 clear hL2 hLr;rw[←hxd] at PT;clear hxd;have HSL:=SL.out;go_cut [18] (fun s18 wx=>s18=.int .i64 (i:Int)∧Hid (∃ ca' cc',T7 w wx y3 (clO p k (.slice (some ⟨gx,ox,none⟩) L xc)) b l o P fa1 fc1 va1 m1 vc1 ca' n2 cc' (some ⟨gp,0,none⟩) pc1 fr1 ls1 al2 pl1))
 case first=>
  go_region_with (first
   | (go_at_call 49;(with_reducible refine(PT.out _ KD.out).mono ?_);rintro e w7 ⟨ca',cc',rfl,hk7,hc7⟩;have K7:=nT KD.out hk7;obtain⟨v0,v1,v2,v3,v4,v5,v6,v7,v8,vf⟩:=s7c (s7b T2.out.x K7);have D:=hid (T2.out.put K7 hc7 HN2.out);clear hk7 hc7 K7)
   | fail)
  all_goals
   first|go_meet|(go_wp2_with fail;go_meet)|(simp only[Exit.then];go_meet)
   case rel=>exact⟨rfl,_,_,D.out⟩
 case rest=>
 obtain⟨rfl,HT3⟩:=hcut;obtain⟨ca',cc',hT3⟩:=HT3.out;have T3:=hid hT3;clear hT3 HT3 x0 x1 x2 x3 x4 x5 x6 x7 x8 xf y0 y1 y2 t0 PT KD SL HSL T2 NT HXA;by_cases hL1':L2=0
 ·have hr0:r=[]:=List.eq_nil_of_length_eq_zero (by rw[←HL2.out];exact hL1');have hLo:L=1:=by have:=HLr.out;omega
  have PA:=hid (fun W' (kk:Kt nO wc W')=>zct b (l:Int) (o:Int) (o:Int) (P:Int) fa1 (o+1) fc1 va1 m1 vc1 ca' n2 cc' (some ⟨gp,0,none⟩) pc1 pl1 k hk HPQ.out p false W' (T3.out.d.pr.keep kk));rw[←HP2.out.1 hr0] at PA;clear hr0;subst hLo;obtain⟨x0,x1,x2,x3,x4,x5,x6,x7,x8,xf⟩:=s7c T3.out.x;obtain⟨y0,y1,y2⟩:=clc T3.out.y;have PB:=hid (PA.out _ (Kt.refl nO wc));go_upto_region 20 with (go_at_call 48;refine PB.out.mono ?_;rintro e w7 ⟨pa2,pc2,rfl,hk7,hp7⟩;obtain⟨v0,v1,v2,v3,v4,v5,v6,v7,v8,vf⟩:=s7c (s7b T3.out.x hk7));have T4:=hid (T3.out.par hk7 hp7);clear hk7 hp7 v0 v1 v2 v3 v4 v5 v6 v7 v8 vf x0 x1 x2 x3 x4 x5 x6 x7 x8 xf y0 y1 y2 PA PB T3;dsimp only[fin9] at T4;generalize ((((((((w7.setCell ⟨w.heap.size,0,none⟩ (.int .u64 (b:Int))).setCell ⟨w.heap.size,1,none⟩ (.int .i64 (l:Int))).setCell ⟨w.heap.size,2,none⟩ (.int .i64 (o:Int))).setCell ⟨w.heap.size,3,none⟩ (.int .i64 (o:Int))).setCell ⟨w.heap.size,4,none⟩ (.int .i64 (P:Int))).setCell ⟨w.heap.size,5,none⟩ (.slice fa1 (o+1) fc1)).setCell ⟨w.heap.size,6,none⟩ (.slice va1 m1 vc1)).setCell ⟨w.heap.size,7,none⟩ (.slice ca' n2 cc')).setCell ⟨w.heap.size,8,none⟩ (.slice pa2 8 pc2)=w8 at *;have KD:=hid ((Kt.refl nO w8).drew);have HXS:=hid (fun W' (kk:Kt nO w8 W')=>s7c (s7b T4.out.x kk));have HYS:=hid (fun W' (kk:Kt nO w8 W')=>clc (s7b T4.out.y kk));have HZS:=hid (fun W' (kk:Kt nO w8 W')=>s7z (s7b T4.out.z kk));have hn1':w.heap.size≠w.heap.size+1:=by omega
  have hn3:y3≠w.heap.size+1:=by have:=T4.out.uy;omega
  obtain⟨d0,d1,d2,d3,d4,d5,d6,d7,d8,df⟩:=HXS.out _ KD.out;obtain⟨e0,_,_⟩:=HYS.out _ KD.out;obtain⟨z0,z1,z2,z3,z4,z5,z6,z7,z8,zf⟩:=HZS.out _ KD.out;go_region_held3 (fun w'=>w'.cell? ⟨w.heap.size,0,none⟩=some (.int .u64 (b:Int))∧w'.cell? ⟨w.heap.size,1,none⟩=some (.int .i64 (l:Int))∧w'.cell? ⟨w.heap.size,2,none⟩=some (.int .i64 (o:Int))∧w'.cell? ⟨w.heap.size,3,none⟩=some (.int .i64 (o:Int))∧w'.cell? ⟨w.heap.size,4,none⟩=some (.int .i64 (P:Int))∧w'.cell? ⟨w.heap.size,5,none⟩=some (.slice fa1 (o+1) fc1)∧w'.cell? ⟨w.heap.size,6,none⟩=some (.slice va1 m1 vc1)∧w'.cell? ⟨w.heap.size,7,none⟩=some (.slice ca' n2 cc')∧w'.cell? ⟨w.heap.size,8,none⟩=some (.slice pa2 8 pc2)∧w'.cell? ⟨y3,0,none⟩=some (.int .i64 (p:Int))) ((refine⟨?_,?_,?_,?_,?_,?_,?_,?_,?_,?_⟩ <;> first|with_reducible assumption|with_reducible exact zbr (by with_reducible assumption) (by with_reducible assumption) _ _ _ _ _ _ _ _ _)) (first
   | (go_at_call 51;(with_reducible refine(WD.out _).mono ?_);rintro e w9 ⟨rfl,h9⟩;replace h9:=h9.symm;subst h9)
   | (go_at_call 20;(with_reducible refine(AT.out _ _ _ _ _ _ _ _ _ _ _ _).mono ?_);rintro e w9 ⟨rfl,hk9⟩;have K9:=hid (nT KD.out hk9);obtain⟨f0,f1,f2,f3,f4,f5,f6,f7,f8,ff⟩:=HXS.out _ K9.out;obtain⟨g0,_,_⟩:=HYS.out _ K9.out;obtain⟨u0,u1,u2,u3,u4,u5,u6,u7,u8,uf⟩:=HZS.out _ K9.out;clear hk9)
   | fail)
  all_goals
   have FIN:=hid ((T4.out.keep K9.out).fin (.slice fa1 (o+1) fc1) (.slice va1 m1 vc1) (.slice ca' n2 cc') (.slice pa2 8 pc2));go_wp2_with fail;exact⟨rfl,.tuple #[s7V b (l:Int) (o:Int) (o:Int) (P:Int) (.slice fa1 (o+1) fc1) (.slice va1 m1 vc1) (.slice ca' n2 cc') (.slice pa2 8 pc2),.int .u64 (aq:Int),.bool false,.int .i64 0],by simp[results,Tryz.results17,go_sem,u0,u1,u2,u3,u4,u5,u6,u7,u8],fa1,fc1,va1,vc1,ca',cc',pa2,pc2,rfl,FIN.out⟩
 ·have hr0:r≠[]:=fun e=>hL1' (by rw[HL2.out,e];rfl)
  have hLo:((L:Int) == 1)=false:=by have:=HLr.out;rw[beq_eq_false_iff_ne];omega
  have hpp:=HP2.out.2 hr0;subst hpp;clear hr0;obtain⟨y0,y1,y2⟩:=clc T3.out.y;go_upto_region 20 with fail;clear y0 y1 y2;have T4:=T3;have KD:=hid ((Kt.refl nO wc).drew);have HXS:=hid (fun W' (kk:Kt nO wc W')=>s7c (s7b T4.out.x kk));have HYS:=hid (fun W' (kk:Kt nO wc W')=>clc (s7b T4.out.y kk));have HZS:=hid (fun W' (kk:Kt nO wc W')=>s7z (s7b T4.out.z kk));have hn1':w.heap.size≠w.heap.size+1:=by omega
  have hn3:y3≠w.heap.size+1:=by have:=T4.out.uy;omega
  obtain⟨d0,d1,d2,d3,d4,d5,d6,d7,d8,df⟩:=HXS.out _ KD.out;obtain⟨e0,_,_⟩:=HYS.out _ KD.out;obtain⟨z0,z1,z2,z3,z4,z5,z6,z7,z8,zf⟩:=HZS.out _ KD.out;go_region_held3 (fun w'=>w'.cell? ⟨w.heap.size,0,none⟩=some (.int .u64 (b:Int))∧w'.cell? ⟨w.heap.size,1,none⟩=some (.int .i64 (l:Int))∧w'.cell? ⟨w.heap.size,2,none⟩=some (.int .i64 (o:Int))∧w'.cell? ⟨w.heap.size,3,none⟩=some (.int .i64 (o:Int))∧w'.cell? ⟨w.heap.size,4,none⟩=some (.int .i64 (P:Int))∧w'.cell? ⟨w.heap.size,5,none⟩=some (.slice fa1 (o+1) fc1)∧w'.cell? ⟨w.heap.size,6,none⟩=some (.slice va1 m1 vc1)∧w'.cell? ⟨w.heap.size,7,none⟩=some (.slice ca' n2 cc')∧w'.cell? ⟨w.heap.size,8,none⟩=some (.slice (some ⟨gp,0,none⟩) 8 pc1)∧w'.cell? ⟨y3,0,none⟩=some (.int .i64 (p:Int))) ((refine⟨?_,?_,?_,?_,?_,?_,?_,?_,?_,?_⟩ <;> first|with_reducible assumption|with_reducible exact zbr (by with_reducible assumption) (by with_reducible assumption) _ _ _ _ _ _ _ _ _)) (first
   | (go_at_call 51;(with_reducible refine(WD.out _).mono ?_);rintro e w9 ⟨rfl,h9⟩;replace h9:=h9.symm;subst h9)
   | (go_at_call 20;(with_reducible refine(AT.out _ _ _ _ _ _ _ _ _ _ _ _).mono ?_);rintro e w9 ⟨rfl,hk9⟩;have K9:=hid (nT KD.out hk9);obtain⟨f0,f1,f2,f3,f4,f5,f6,f7,f8,ff⟩:=HXS.out _ K9.out;obtain⟨g0,_,_⟩:=HYS.out _ K9.out;obtain⟨u0,u1,u2,u3,u4,u5,u6,u7,u8,uf⟩:=HZS.out _ K9.out;clear hk9)
   | fail)
  all_goals
   have FIN:=hid ((T4.out.keep K9.out).fin (.slice fa1 (o+1) fc1) (.slice va1 m1 vc1) (.slice ca' n2 cc') (.slice (some ⟨gp,0,none⟩) 8 pc1));go_wp2_with fail;exact⟨rfl,.tuple #[s7V b (l:Int) (o:Int) (o:Int) (P:Int) (.slice fa1 (o+1) fc1) (.slice va1 m1 vc1) (.slice ca' n2 cc') (.slice (some ⟨gp,0,none⟩) 8 pc1),.int .u64 (aq:Int),.bool false,.int .i64 0],by simp[results,Tryz.results17,go_sem,u0,u1,u2,u3,u4,u5,u6,u7,u8],fa1,fc1,va1,vc1,ca',cc',(some ⟨gp,0,none⟩),pc1,rfl,FIN.out⟩
end Go.Proofs.YtgjdmkfpmokkaaaGreatDoor
