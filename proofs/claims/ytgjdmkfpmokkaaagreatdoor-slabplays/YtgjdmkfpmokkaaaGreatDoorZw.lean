import Derived.Test.YtgjdmkfpmokkaaaGreatDoorZv
set_option maxRecDepth 1000000
set_option maxHeartbeats 80000000
namespace Go.Proofs.YtgjdmkfpmokkaaaGreatDoor
open Go.RowKit
set_option linter.unusedVariables false
theorem zgL(j:Nat):List.range' 0 (j + 1)=List.range' 0 j ++ [j]:=by
 rw[List.range'_concat];simp
structure Q7(w2 W:World)(yx p k a:Nat)(v:Value):Prop where
 x:W.heap[yx]?=some (clO p k v)
 gs:GS w2 W 3 1 v a (nums (List.range' 0 a))
 yw:w2.heap.size≤yx
theorem Q7.push{w2 W w':World}{yx p k a g cap:Nat}{va:Option Addr}{vc:Nat}(h:Q7 w2 W yx p k a (.slice va a vc))(hg2:GS w2 w' 3 1 (.slice (some ⟨g,0,none⟩) (a + 1) cap) (a + 1) (nums (List.range' 0 a) ++ [.int .i64 (a:Int)]))(hkeep:∀ x,(Value.slice va a vc).ownBlock≠some x→∀ o,W.heap[x]?=some o→w'.heap[x]?=some o):
  w'.heap[yx]?=some (clO p k (.slice va a vc))∧Q7 w2 (w'.setCell ⟨yx,2,none⟩ (.slice (some ⟨g,0,none⟩) (a+1) cap)) yx p k (a+1) (.slice (some ⟨g,0,none⟩) (a+1) cap):=by
 have no:(Value.slice va a vc).ownBlock≠some yx:=fun e=>by
  rcases h.gs.own.2 with ⟨h0,_⟩|⟨g2,c2,cur,h0,hb2,hgg,_⟩
  ·rw[h0] at e;simp[Value.ownBlock] at e
  ·rw[h0] at e;simp[Value.ownBlock] at e;exact zag hgg h.x (by decide) e
 have hx':=hkeep _ no _ h.x;have ks:Kt (fun b=>b=yx) w' (w'.setCell ⟨yx,2,none⟩ (.slice (some ⟨g,0,none⟩) (a+1) cap)):=(Kt.refl (fun b=>b=yx) w').setCell (p:=⟨yx,2,none⟩) rfl _;have g3:=hg2.keptN ks (fun b hb e=>by
  rcases hg2.own.2 with ⟨h0,_⟩|⟨g2,c2,cur,h0,hb2,hgg,h3⟩
  ·simp at h0
  ·rw[h0] at hb;simp[Value.ownBlock] at hb;subst hb;exact zag hgg hx' (by decide) e) (fun b e=>by rw[show b=yx from e];exact h.yw)
 refine⟨hx',hS9 hx' 2 _,?_,h.yw⟩;rw[zgL,zbw];exact g3
theorem clf{W:World}{y p c:Nat}{v:Value}(h:W.heap[y]?=some (clO p c v))(j:Nat):W.frozen? ⟨y,j,none⟩=false:=by
 simp[World.frozen?,h]
theorem zgM{n:Nat}(h : 0<n):List.range' 0 n=0 :: List.range' 1 (n-1):=by
 cases n with
 | zero=>omega
 | succ n=>rw[List.range'_succ,Nat.add_sub_cancel]
theorem zhr(b l o P0 P:Nat)(hb:b≤9223372036854775808)(fa:Option Addr)(fc:Nat)(va:Option Addr)(vc:Nat)(ca:Option Addr)(cc:Nat)(pa:Option Addr)(pc:Nat)(fr fr1:Nat→List Nat)(ls ls1:List (Nat×Nat))(al:List Cl)(pl:Nat→List Nat)(k:Nat)(hk:k<8)(dn:Bool)(p:Nat)(gw:Bool)(hpb:p≤1024)(hpl0:pl k=[])(hfd0:p ∉ al.map Cl.pg)(hal0:al.length≤1023)(w:World)(h:D7 w o fa fc va vc ca cc pa pc fr ls al pl)
  (HNEED:∀ W,Kt nO w W→Calls Tryz.prog 18 #[s7V b (l:Int) (o:Int) (o:Int) (P0:Int) (.slice fa (o+1) fc) (.slice va ls.length vc) (.slice ca al.length cc) (.slice pa 8 pc),.int .i64 0,.bool dn] W fun e w'=>N7P W b (l:Int) (o:Int) o P fr1 ls1 (.slice ca al.length cc) (.slice pa 8 pc) p gw 0 e w'):
  Calls Tryz.prog 17 #[s7V b (l:Int) (o:Int) (o:Int) (P0:Int) (.slice fa (o+1) fc) (.slice va ls.length vc) (.slice ca al.length cc) (.slice pa 8 pc),.int .i64 (k:Int),.bool dn] w fun e w'=>K7P w b l o P fr1 ls1 (putL ⟨p,k,List.range' 1 (256/2 ^ k-1)⟩ false (putL ⟨p,k,List.range' 0 (256/2 ^ k)⟩ false al)) (updF pl k [p]) (b+4096*p) gw 0 e w':=by
 obtain⟨m,hm⟩:=xe (ls.length);obtain⟨n,hn⟩:=xe (al.length);obtain⟨N,hN⟩:=xe (256/2 ^ k);have hNb : 2≤N∧N≤256:=by rw[hN];exact(zdc k hk).2
 have CN:=hid (fun W=>zeO k hk W);rw[←hN] at CN ⊢;have NE:=hid HNEED;clear HNEED;unfold N7P at NE;rw[←hm,←hn] at NE;obtain⟨m1,hm1⟩:=xe (ls1.length);rw[←hm1] at NE;obtain⟨al1,hal1⟩:=xe (putL ⟨p,k,List.range' 0 N⟩ false al);obtain⟨n1,hn1⟩:=xe (al1.length);obtain⟨pl1,hpl1⟩:=xe (updF pl k [p]);have hpar:updF pl k (parL (pl k) p true)=pl1:=by rw[hpl1,hpl0];rfl
 have hplk:pl1 k=p :: []:=by rw[hpl1];exact uFs ..
 have HAL:=hid hal1;have hout:al1=al ++ [⟨p,k,List.range' 0 N⟩]:=by rw[hal1];exact zgm (x:=⟨p,k,List.range' 0 N⟩) hfd0
 have hn1b:n1=n+1:=by rw[hn1,hout,hn];simp
 obtain⟨j,hj⟩:=xe (n);have hx:fnC al1 j=⟨p,k,0 :: List.range' 1 (N-1)⟩:=by
  rw[hout,hj,hn,zdX,←zgM (by omega)]
 have hfd:fnd (fnC al1) (p:Int) al1.length=some j:=by
  rw[←hn1,hn1b];have h1:fnd (fnC al1) (p:Int) n=none:=zcO.2 fun i hi e=>hfd0 (by
   have e1:fnC al1 i=fnC al i:=(by rw[hout];exact zdW al _ (by rw[←hn];exact hi));rw[e1] at e;rw[←show(fnC al i).pg=p by omega];exact List.mem_map.2 ⟨_,zbH (by rw[←hn];exact hi),rfl⟩)
  have h2:((fnC al1 n).pg:Int)=(p:Int):=by rw[←hj,hx]
  rw[fnd,h1,if_pos h2,hj];rfl
 have hjn:j<n1:=by omega
 obtain⟨i,hi0⟩:=xe (0);obtain⟨r,hr⟩:=xe (List.range' 1 (N-1));have hrb:r.length≤256:=by rw[hr,List.length_range'];omega
 have hr0:r≠[]:=fun e=>by
  have:=congrArg List.length (hr.symm.trans e);rw[List.length_range'] at this;simp at this;omega
 rw[←hi0,←hr] at hx;rw[←hr];have hib:i≤256:=by omega
 have hans:b+4096*p=b+4096*p+i*(16*2 ^ k):=by rw[hi0,Nat.zero_mul,Nat.add_zero]
 rw[hans];rw[←hal1,←hpl1];have hpe:pl1=(if r=[] then updF pl1 k (parL (pl1 k) p false) else pl1):=by rw[if_neg hr0]
 rw[show K7P w b l o P fr1 ls1 (putL ⟨p,k,r⟩ false al1) pl1=K7P w b l o P fr1 ls1 (putL ⟨p,k,r⟩ false al1) (if r=[] then updF pl1 k (parL (pl1 k) p false) else pl1)from by rw[←hpe]];have hpq:(pl1 k).length≤1024:=by rw[hplk];simp
 have AT:=hid (fun P2 fa' fc' va' m' vc' ca' n' cc' pa' pc' W'=>At7 b (l:Int) (o:Int) (o:Int) (P2:Int) (.slice fa' (o+1) fc') (.slice va' m' vc') (.slice ca' n' cc') (.slice pa' 8 pc') p hpb hb W');have WD:=hid (fun W'=>zcG k hk W');have hwb:=zbI hk;obtain⟨wd,hwd⟩:=xe (16*2 ^ k);obtain⟨ap,hap⟩:=xe (b+4096*p);obtain⟨ic,hic⟩:=xe (i*wd);obtain⟨aq,haq⟩:=xe (ap+ic);rw[←hwd] at WD hwb ⊢;rw[←hap] at AT ⊢;rw[←hic,←haq];have hic2:(i:Int)*(wd:Int)=(ic:Int):=by rw[hic];simp
 have hicb:ic≤1048576:=by
  rw[hic];exact Nat.le_trans (Nat.mul_le_mul hib hwb.2) (by decide)
 have hapb:ap≤9223372036854775808+8388608:=by rw[hap];omega
 have hicw:IntKind.i64.wrap (ic:Int)=(ic:Int):=by rw[IntKind.wrap_i64];omega
 have hicu:IntKind.u64.wrap (ic:Int)=(ic:Int):=by rw[wrap_u64];omega
 have haqi:(ap:Int)+(ic:Int)=(aq:Int):=by rw[haq];simp
 have haqw:IntKind.u64.wrap (aq:Int)=(aq:Int):=by rw[wrap_u64];omega
 clear hwd hap hic haq;obtain⟨al2,hal2⟩:=xe (putL ⟨p,k,r⟩ false al1);obtain⟨n2,hn2⟩:=xe (al2.length);obtain⟨pl2,hpl2⟩:=xe ((if r=[] then updF pl1 k (parL (pl1 k) p false) else pl1));rw[←hal2,←hpl2];have HP2:=hid (show(r=[]→pl2=updF pl1 k (parL (pl1 k) p false))∧(r≠[]→pl2=pl1)from⟨fun e=>by rw[hpl2,if_pos e],fun e=>by rw[hpl2,if_neg e]⟩);unfold K7P;rw[←hn2];have HA2:=hid hal2;have HN2:=hid hn2;clear hal2 hn2 hpl2;rw[←hm,←hn,←hm1];have HM:=hid hm1;have HN:=hid hn1;have HN0:=hid hn;have HX:=hid hx;have HFD:=hid hfd;have HPL:=hid hplk;have HPAR:=hid hpar;have hkl0:(pl k).length=0:=by rw[hpl0];rfl
 have PT0:=hid (fun fa1 fc1 va1 vc1 (xa:Option Addr) (xc:Nat) W' (hc:CR W' (.slice ca al.length cc) al.length (fnC al)) (hs:NS W' (.slice xa (List.range' 0 N).length xc) (List.range' 0 N))=>put7 b (l:Int) (o:Int) (o:Int) (P:Int) fa1 (o+1) fc1 va1 m1 vc1 ca cc pa 8 pc al (by omega) ⟨p,k,List.range' 0 N⟩ xa xc false W' hc hs);simp only[←hal1,List.length_range'] at PT0;rw[←hn,←hn1] at PT0;have PA0:=hid (fun fa1 fc1 va1 vc1 ca' cc' W' (hp:FL W' pa pc 7 pl)=>zct b (l:Int) (o:Int) (o:Int) (P:Int) fa1 (o+1) fc1 va1 m1 vc1 ca' n1 cc' pa pc pl k hk (by rw[hkl0];omega) p true W' hp);rw[hpar] at PA0;have T2:=two5 w (s7O b (l:Int) (o:Int) (o:Int) (P0:Int) (.slice fa (o+1) fc) (.slice va m vc) (.slice ca n cc) (.slice pa 8 pc)) s7Z;have K0:=hid T2.1;have X0:=hid T2.2.1;have Z0:=hid T2.2.2;have D0:=hid (h.keep T2.1);have hki:¬(k:Int)<0:=by omega
 have hki2:¬(7:Int)<(k:Int):=by omega
 have hki3:(k:Int)<8:=by omega
 have HPQ:=hid hpq;have HRB:=hid hrb;have hal:n1≤1024:=by omega
 clear T2 h hm hn hm1 hn1 hx hfd hplk hpq hrb hr0 hi0 hr hpe hans hpar hal1 hpl1 hpl0 hfd0 hal0 hout hN hj hn1b;go_enter Tryz.func17,Tryz.ntmps17;go_upto_region 1 with fail;generalize (w.alloc (s7O b (l:Int) (o:Int) (o:Int) (P0:Int) (.slice fa (o+1) fc) (.slice va m vc) (.slice ca n cc) (.slice pa 8 pc))).alloc s7Z=W0 at *;obtain⟨x0,x1,x2,x3,x4,x5,x6,x7,x8,xf⟩:=s7c X0.out;obtain⟨gp,A,C,hpa,p0,_⟩:=D0.out.pr.get k (by omega);subst hpa;rw[hkl0] at p0;have NE0:=hid (NE.out _ K0.out);go_upto_region 6 with (go_at_call 18;refine NE0.out.mono ?_;rintro e w1 ⟨fa1,fc1,va1,vc1,rfl,hk1,hf1,hr1⟩);have ka:=(Kt.refl nO w1).alloc (s7O b (l:Int) (o:Int) (o:Int) (P:Int) (.slice fa1 (o+1) fc1) (.slice va1 m1 vc1) (.slice ca n cc) (.slice (some ⟨gp,0,none⟩) 8 pc));have k1:=nT hk1 ka;have K1:=hid (nT K0.out k1);have X1:=hid (s7b X0.out k1);have Z1:=hid (s7b Z0.out k1);have Y1:=hid (nH w1 (s7O b (l:Int) (o:Int) (o:Int) (P:Int) (.slice fa1 (o+1) fc1) (.slice va1 m1 vc1) (.slice ca n cc) (.slice (some ⟨gp,0,none⟩) 8 pc)));have hr1':RN w1 (.slice va1 ls1.length vc1) ls1:=by rw[←HM.out];exact hr1
 have D1:=hid (D7.mk (hf1.keep ka) (RN.keep hr1' ka) (D0.out.cr.keep k1) (D0.out.pr.keep k1));have U1:=hid (show w.heap.size+2≤w1.heap.size from by have h1:=lH (s7b Z0.out hk1);omega);clear ka k1 hk1 hf1 hr1 hr1' NE NE0 x0 x1 x2 x3 x4 x5 x6 x7 x8 xf p0 K0 X0 Z0 D0;generalize w1.heap.size=yt at *;generalize w1.alloc (s7O b (l:Int) (o:Int) (o:Int) (P:Int) (.slice fa1 (o+1) fc1) (.slice va1 m1 vc1) (.slice ca n cc) (.slice (some ⟨gp,0,none⟩) 8 pc))=w2 at *;obtain⟨x0,x1,x2,x3,x4,x5,x6,x7,x8,xf⟩:=s7c X1.out;go_upto_region 9 with fail;have ka:=(Kt.refl nO w2).alloc (clO p k (.slice none 0 0));have Q0:=hid (show Q7 w2 (w2.alloc (clO p k (.slice none 0 0))) w2.heap.size p k 0 (.slice none 0 0)from⟨nH _ _,GS.nil _ _ _ _ ka,Nat.le_refl _⟩);have UX:=hid (show yt<w2.heap.size from lH Y1.out);clear ka x0 x1 x2 x3 x4 x5 x6 x7 x8 xf;generalize hyx:w2.heap.size=yx at *;generalize w2.alloc (clO p k (.slice none 0 0))=w3 at *;have HYX:=hid hyx;clear hyx;go_wp2_with fail;go_loopw [16] (fun s16 W=>∃ a:Nat,a≤N∧s16=.int .i64 a∧Hid (∃ va vc,Q7 w2 W yx p k a (.slice va a vc))) (fun s _=>N-(intOf s).toNat)
 case atStart=>exact⟨0,Nat.zero_le _,rfl,hid ⟨none,0,Q0.out⟩⟩
 case round=>
 clear Q0;obtain⟨a,ha,rfl,hR⟩:=hrel;obtain⟨qa,qc,hQ⟩:=hR.out;have HQ:=hid hQ;clear hR;obtain⟨y0,y1,y2⟩:=clc hQ.x;clear hQ;by_cases hlt:a<N
 ·have hai:(a:Int)<(N:Int):=by omega
  obtain⟨g,cap,w',hap,hg2,hge,hkeep⟩:=zaK HQ.out.gs (a:Int) (by omega);have hPu:=HQ.out.push hg2 hkeep;obtain⟨v0,v1,v2⟩:=clc hPu.1;have vf:=clf hPu.1;have D:=hid hPu.2;have HAP:=hid hap;clear hap hg2 hkeep hPu hge;go_wp2_with fail;refine(CN.out _).mono ?_;rintro e w5 ⟨rfl,h5⟩;replace h5:=h5.symm;subst h5;go_wp2_with (at_builtin;refine Lib.wpList_append_run _ rfl _ _ _ _ rfl (.slice qa a qc) (.slice (some ⟨wr.heap.size,0,none⟩) 1 1) rfl rfl _ _ (HAP.out _) ?_)
  exact⟨⟨a+1,by omega,by simp,⟨_,_,D.out⟩⟩,by simp[intOf];omega⟩
 ·obtain rfl:a=N:=by omega
  have hai:¬(a:Int)<(a:Int):=by omega
  have kq:=HQ.out.gs.kp;have K3:=hid (nT K1.out kq);have X3:=hid (s7b X1.out kq);have Z3:=hid (s7b Z1.out kq);have Y3:=hid (s7b Y1.out kq);have D3:=hid (D1.out.keep kq);have NS3:=hid (show NS wr (.slice qa a qc) (List.range' 0 a)from by
   have h1:NL wr (.slice qa a qc) (List.range' 0 a):=by
    unfold NL;rw[List.length_range'];exact HQ.out.gs.own
   exact NS.of h1)
  have PT1:=hid (PT0.out fa1 fc1 va1 vc1 qa qc wr (by rw[HN0.out];exact D3.out.cr) NS3.out);clear kq PT0 K1 X1 Z1 Y1 D1 HQ;generalize wr=w4 at *;obtain⟨t0,t1,t2,t3,t4,t5,t6,t7,t8,tf⟩:=s7c Y3.out;obtain⟨x0,x1,x2,x3,x4,x5,x6,x7,x8,xf⟩:=s7c X3.out;go_upto_region 14 with (first
   | (go_at_call 47;refine(CN.out _).mono ?_;rintro e w5 ⟨rfl,h5⟩;replace h5:=h5.symm;subst h5)
   | (go_at_call 49;refine PT1.out.mono ?_;rintro e w7 ⟨ca',cc',rfl,hk7,hc7⟩;have PA1:=hid (PA0.out fa1 fc1 va1 vc1 ca' cc' w7 (D3.out.pr.keep hk7));have C7:=hid hc7;have K7:=hid hk7;clear hk7 hc7)
   | (go_at_call 48;refine PA1.out.mono ?_;rintro e w8 ⟨pa',pc',rfl,hk8,hp8⟩;obtain⟨v0,v1,v2,v3,v4,v5,v6,v7,v8,vf⟩:=s7c (s7b X3.out (nT K7.out hk8))))
  have k8:=nT K7.out hk8;have kf:=zad w8 w.heap.size b (l:Int) (o:Int) (o:Int) (P:Int) (.slice fa1 (o+1) fc1) (.slice va1 m1 vc1) (.slice ca' n1 cc') (.slice pa' 8 pc');have X9:=hid (box9 (s7b X3.out k8) b (l:Int) (o:Int) (o:Int) (P:Int) (.slice fa1 (o+1) fc1) (.slice va1 m1 vc1) (.slice ca' n1 cc') (.slice pa' 8 pc'));have Z9:=hid ((kf.block _ (lH (s7b Z3.out k8)) (by omega)).trans (s7b Z3.out k8));have K9:=hid ((nT K3.out k8).trans kf (fun _ _ e=>e) (fun y hy e=>by omega));have d8:D7 w8 o fa1 fc1 va1 vc1 ca' cc' pa' pc' fr1 ls1 al1 pl1:=⟨(D3.out.keep k8).fl,(D3.out.keep k8).rn,by rw[←HN.out];exact C7.out.keep hk8,hp8⟩;have D9:=hid (d8.box (s7b X3.out k8) zaR kf);clear k8 kf d8 hk8 hp8 K7 C7 PA1 PT1 PA0 v0 v1 v2 v3 v4 v5 v6 v7 v8 vf t0 t1 t2 t3 t4 t5 t6 t7 t8 tf x0 x1 x2 x3 x4 x5 x6 x7 x8 xf y0 y1 y2 K3 X3 Z3 Y3 D3 NS3 CN;dsimp only[fin9] at X9 Z9 K9 D9;generalize ((((((((w8.setCell ⟨w.heap.size,0,none⟩ (.int .u64 (b:Int))).setCell ⟨w.heap.size,1,none⟩ (.int .i64 (l:Int))).setCell ⟨w.heap.size,2,none⟩ (.int .i64 (o:Int))).setCell ⟨w.heap.size,3,none⟩ (.int .i64 (o:Int))).setCell ⟨w.heap.size,4,none⟩ (.int .i64 (P:Int))).setCell ⟨w.heap.size,5,none⟩ (.slice fa1 (o+1) fc1)).setCell ⟨w.heap.size,6,none⟩ (.slice va1 m1 vc1)).setCell ⟨w.heap.size,7,none⟩ (.slice ca' n1 cc')).setCell ⟨w.heap.size,8,none⟩ (.slice pa' 8 pc')=W1 at *;have K1:=K9;have X1:=X9;have Z1:=Z9;have D1:=D9;clear K9 X9 Z9 D9 hlt hai ha;go_upto_region 15 with fail;obtain⟨x0,x1,x2,x3,x4,x5,x6,x7,x8,xf⟩:=s7c X1.out;obtain⟨lq,hlq⟩:=xe ((pl1 k).length);obtain⟨gp,A,C,hpa,p0,hA⟩:=D1.out.pr.get k (by omega);subst hpa;obtain⟨gl,hgl,p1⟩:=hA.get (i:=0) (by rw[HPL.out];simp);subst hgl;have hp0:(pl1 k).getD 0 0=p:=by rw[HPL.out];rfl
  rw[hp0] at p1;rw[←hlq] at p0;have hlq1 : 1≤lq:=by rw[hlq,HPL.out];simp
  have HLQ:=hid hlq;have hlqi:(0:Int)<(lq:Int):=by omega
  have hlqn : 0<lq:=by omega
  obtain⟨gc,xa,xc,hca,r0,r1,r2,hNS⟩:=(HN.out▸D1.out.cr:CR W1 (.slice ca' n1 cc') n1 (fnC al1)).get j hjn;subst hca;rw[HX.out] at r0 r1 r2 hNS;obtain⟨L,hL⟩:=xe ((i :: r).length);simp only[←hL] at r0 r1 r2 hNS;have hL1 : 1≤L:=by rw[hL];simp
  have HL:=hid hL;have NS1:=hid hNS;have hcap:L≤xc:=by
   obtain⟨_,_,e,h2,_⟩:=hNS;injection e with _ _ e
   rw[hL,e];exact h2
  have FN:=hid (fun W' (kk:Kt nO W1 W')=>zh6 b (l:Int) (o:Int) (o:Int) (P:Int) (.slice fa1 (o+1) fc1) (.slice va1 m1 vc1) (some ⟨gc,0,none⟩) n1 cc' (.slice (some ⟨gp,0,none⟩) 8 pc') (fnC al1) (by omega) (p:Int) W' ((HN.out▸D1.out.cr:CR W1 (.slice (some ⟨gc,0,none⟩) n1 cc') n1 (fnC al1)).keep kk));have hm1:fndI (fnd (fnC al1) (p:Int) n1)=(j:Int):=by rw[HN.out,HFD.out];rfl
  rw[hm1] at FN;have RC:=hid (fun W' (kk:Kt nO W1 W')=>show W'.cell? ⟨gc,j*3,none⟩=some (.int .i64 (p:Int))∧W'.cell? ⟨gc,j*3+1,none⟩=some (.int .i64 (k:Int))∧W'.cell? ⟨gc,j*3+2,none⟩=some (.slice xa L xc)from⟨kk.cell (fun e=>e) r0,kk.cell (fun e=>e) r1,kk.cell (fun e=>e) r2⟩);have XC:=hid (fun W' (kk:Kt nO W1 W')=>s7c (s7b X1.out kk));have PC:=hid (fun W' (kk:Kt nO W1 W')=>show W'.cell? ⟨gp,k,none⟩=some (.slice (some ⟨gl,0,none⟩) lq C)∧W'.cell? ⟨gl,0,none⟩=some (.int .i64 (p:Int))from⟨kk.cell (fun e=>e) p0,kk.cell (fun e=>e) p1⟩);have KD:=hid ((Kt.refl nO W1).drew);have KZ:=hid ((Kt.refl nO W1).alloc (.cells #[.int .i64 0,.int .i64 0,.slice none 0 0] 121));have KA:=hid (((Kt.refl nO W1).alloc (.cells #[.int .i64 0,.int .i64 0,.slice none 0 0] 121)).drew);have YA:=hid (nH W1 (.cells #[.int .i64 0,.int .i64 0,.slice none 0 0] 121));obtain⟨z0,z1,z2,z3,z4,z5,z6,z7,z8,zf⟩:=XC.out _ KZ.out;obtain⟨zp,zq⟩:=PC.out _ KZ.out;have CA:=hid (fun w7 (hk:Kt nO W1.drew w7)=>show Kt nO W1 (w7.alloc (clO p k (.slice xa L xc)))∧(w7.alloc (clO p k (.slice xa L xc))).heap[w7.heap.size]?=some (clO p k (.slice xa L xc))∧W1.heap.size≤w7.heap.size from by
   have k7:=nT KD.out hk;exact⟨nT k7 ((Kt.refl nO w7).alloc _),nH w7 _,k7.size⟩)
  have CB:=hid (fun w7 (hk:Kt nO (W1.alloc (.cells #[.int .i64 0,.int .i64 0,.slice none 0 0] 121)).drew w7)=>show Kt nO W1 (((w7.setCell ⟨W1.heap.size,0,none⟩ (.int .i64 (p:Int))).setCell ⟨W1.heap.size,1,none⟩ (.int .i64 (k:Int))).setCell ⟨W1.heap.size,2,none⟩ (.slice xa L xc))∧(((w7.setCell ⟨W1.heap.size,0,none⟩ (.int .i64 (p:Int))).setCell ⟨W1.heap.size,1,none⟩ (.int .i64 (k:Int))).setCell ⟨W1.heap.size,2,none⟩ (.slice xa L xc)).heap[W1.heap.size]?=some (clO p k (.slice xa L xc))∧W1.heap.size≤W1.heap.size from by
   have k7:=nT KA.out hk;have nn:¬W1.heap.size<W1.heap.size:=(by omega);exact⟨((k7.setNew (p:=⟨W1.heap.size,0,none⟩) nn _).setNew (p:=⟨W1.heap.size,1,none⟩) nn _).setNew (p:=⟨W1.heap.size,2,none⟩) nn _,hS9 (hS9 (hS9 (s7b (show(W1.alloc (.cells #[.int .i64 0,.int .i64 0,.slice none 0 0] 121)).drew.heap[W1.heap.size]?=_ from YA.out) hk) 0 _) 1 _) 2 _,Nat.le_refl _⟩)
  clear hm1 hA hp0 hlq hL hNS;go_cut [17] (fun s17 wx=>∃ y3,s17=.pointer (some ⟨y3,0,none⟩)∧Hid (Kt nO W1 wx∧wx.heap[y3]?=some (clO p k (.slice xa L xc))∧W1.heap.size≤y3))
  case first=>
   obtain⟨d0,d1,d2,d3,d4,d5,d6,d7,d8,df⟩:=XC.out _ KD.out;obtain⟨dp,dq⟩:=PC.out _ KD.out;obtain⟨dr0,dr1,dr2⟩:=RC.out _ KD.out;have hne1:w.heap.size≠W1.heap.size:=Nat.ne_of_lt (lH X1.out);have hne2:gp≠W1.heap.size:=Nat.ne_of_lt (zbV p0);have hne3:gl≠W1.heap.size:=Nat.ne_of_lt (zbV p1);have hne4:gc≠W1.heap.size:=Nat.ne_of_lt (zbV r0);go_region_held3 (fun w'=>w'.cell? ⟨w.heap.size,0,none⟩=some (.int .u64 (b:Int))∧w'.cell? ⟨w.heap.size,1,none⟩=some (.int .i64 (l:Int))∧w'.cell? ⟨w.heap.size,2,none⟩=some (.int .i64 (o:Int))∧w'.cell? ⟨w.heap.size,3,none⟩=some (.int .i64 (o:Int))∧w'.cell? ⟨w.heap.size,4,none⟩=some (.int .i64 (P:Int))∧w'.cell? ⟨w.heap.size,5,none⟩=some (.slice fa1 (o+1) fc1)∧w'.cell? ⟨w.heap.size,6,none⟩=some (.slice va1 m1 vc1)∧w'.cell? ⟨w.heap.size,7,none⟩=some (.slice (some ⟨gc,0,none⟩) n1 cc')∧w'.cell? ⟨w.heap.size,8,none⟩=some (.slice (some ⟨gp,0,none⟩) 8 pc')∧w'.cell? ⟨gp,k,none⟩=some (.slice (some ⟨gl,0,none⟩) lq C)∧w'.cell? ⟨gl,0,none⟩=some (.int .i64 (p:Int))∧w'.cell? ⟨gc,j*3,none⟩=some (.int .i64 (p:Int))∧w'.cell? ⟨gc,j*3+1,none⟩=some (.int .i64 (k:Int))∧w'.cell? ⟨gc,j*3+2,none⟩=some (.slice xa L xc)) ((refine⟨?_,?_,?_,?_,?_,?_,?_,?_,?_,?_,?_,?_,?_,?_⟩ <;> first|with_reducible assumption|with_reducible exact zdq (aCL (by with_reducible assumption))|with_reducible exact aCL (by with_reducible assumption)|with_reducible exact ze2 (by with_reducible assumption) (by with_reducible assumption) _ _ _)) (first
    | (go_at_call 50;(with_reducible refine(FN.out _ KD.out).mono ?_);rintro e w7 ⟨rfl,hk7⟩;have K7:=hid (nT KD.out hk7);obtain⟨q0,q1,q2⟩:=RC.out _ K7.out;obtain⟨qp,qq⟩:=PC.out _ K7.out;obtain⟨y0,y1,y2,y3,y4,y5,y6,y7,y8,yf⟩:=XC.out _ K7.out;have DA:=hid (CA.out _ hk7);clear hk7)
    | (go_at_call 50;(with_reducible refine(FN.out _ KA.out).mono ?_);rintro e w7 ⟨rfl,hk7⟩;have K7:=hid (nT KA.out hk7);obtain⟨q0,q1,q2⟩:=RC.out _ K7.out;obtain⟨qp,qq⟩:=PC.out _ K7.out;obtain⟨y0,y1,y2,y3,y4,y5,y6,y7,y8,yf⟩:=XC.out _ K7.out;obtain⟨v0,v1,v2,vf⟩:=clz (s7b (show(W1.alloc (.cells #[.int .i64 0,.int .i64 0,.slice none 0 0] 121)).drew.heap[W1.heap.size]?=_ from YA.out) hk7);have DB:=hid (CB.out _ hk7);clear hk7)
    | fail)
   all_goals
    first
    |(
     have D:=DB;go_wp2_with fail;go_meet
     case rel=>exact⟨_,rfl,D⟩)
    |(
     have D:=DA;go_wp2_with fail;go_meet
     case rel=>exact⟨_,rfl,D⟩)
  case rest=>
  obtain⟨y3,rfl,HC⟩:=hcut;clear x0 x1 x2 x3 x4 x5 x6 x7 x8 xf z0 z1 z2 z3 z4 z5 z6 z7 z8 zf zp zq p0 p1 r0 r1 r2 FN RC PC KD KZ KA YA CA CB;obtain⟨hKc,hYc,hy3⟩:=HC.out;have T2:=hid (show T7 w wc y3 (clO p k (.slice xa L xc)) b l o P fa1 fc1 va1 m1 vc1 (some ⟨gc,0,none⟩) n1 cc' (some ⟨gp,0,none⟩) pc' fr1 ls1 al1 pl1 from⟨nT K1.out hKc,s7b X1.out hKc,s7b Z1.out hKc,hYc,by have h1:=lH Z1.out;omega,D1.out.keep hKc,HM.out,HN.out⟩);have hNS2:=NS1.out.keep hKc;clear HC hKc hYc hy3 X1 Z1 D1 K1 NS1 XC;rw[HL.out] at hNS2;obtain⟨gx,ox,hxa,t0⟩:=hNS2.get (i:=0) (by simp);subst hxa;rw[Nat.add_zero] at t0;have hi0:(i :: r).getD 0 0=i:=rfl;rw[hi0] at t0;obtain⟨a',hta,htl⟩:=hNS2.tail;obtain⟨xa',hxa'⟩:∃ xa':Option Addr,xa'=if xc=1 then some ⟨gx,ox,none⟩ else some ⟨gx,ox+1,none⟩:=⟨_,rfl⟩;have hLr:L=r.length+1:=by rw[HL.out];simp
  have hNT:NS wc (.slice xa' r.length (xc-1)) r:=by
   obtain⟨_,_,e1,e2,e3⟩:=hta;injection e1 with e4 _ e5
   refine⟨xa',xc-1,rfl,by rw[e5];exact e2,?_⟩;by_cases h1:xc=1
   ·exact .inl (List.eq_nil_of_length_eq_zero (by omega))
   ·rcases htl gx ox rfl with h2|h2
    ·exact .inl h2
    ·rw[←e4,h2] at e3;rw[hxa',if_neg h1];exact e3
  have NT:=hid hNT;have HXA:=hid hxa';clear hNS2 hi0 hta htl hNT hxa';obtain⟨y0,y1,y2⟩:=clc T2.out.y;obtain⟨x0,x1,x2,x3,x4,x5,x6,x7,x8,xf⟩:=s7c T2.out.x;go_upto_region 17 with fail;have PT:=hid (fun W' (kk:Kt nO wc W')=>put7 b (l:Int) (o:Int) (o:Int) (P:Int) fa1 (o+1) fc1 va1 m1 vc1 (some ⟨gc,0,none⟩) cc' (some ⟨gp,0,none⟩) 8 pc' al1 (by rw[←HN.out];omega) ⟨p,k,r⟩ xa' (xc-1) false W' (T2.out.d.cr.keep kk) (NT.out.keep kk));rw[←HN.out] at PT;obtain⟨L2,hL2⟩:=xe (r.length);have HL2:=hid hL2;simp only[←hL2,←HA2.out] at PT;rw[←HN2.out] at PT;have hLL:L-1=L2:=by omega
  have HLr:=hid (show L=L2+1 from by omega);obtain⟨xd,hxd⟩:=xe (xc-1);have KD:=hid ((Kt.refl nO wc).drew);have SL:=hid (show ∀ W,(Instr.slice 43 (.slice (some ⟨gx,ox,none⟩) L xc) (some (.int .i64 1)) none none).run Tryz.prog W=.ok (.slice xa' L2 xd) W from fun W=>by
   have h1:((1:Int)≤(L:Int)):=(by omega);have e1:(0:Int)≤1∧(1:Int)≤(L:Int):=⟨by decide,h1⟩;simp[Instr.slice,Instr.sliceBounds,Instr.sliceBound,run_underlying Tryz.underlying43,go_sem,h1,HXA.out,hxd,hLL])
  clear hL2 hLr;rw[←hxd] at PT;clear hxd;have HSL:=SL.out;go_cut [18] (fun s18 wx=>s18=.int .i64 (i:Int)∧Hid (∃ ca2 cc2,T7 w wx y3 (clO p k (.slice (some ⟨gx,ox,none⟩) L xc)) b l o P fa1 fc1 va1 m1 vc1 ca2 n2 cc2 (some ⟨gp,0,none⟩) pc' fr1 ls1 al2 pl1))
  case first=>
   go_region_with (first
    | (go_at_call 49;(with_reducible refine(PT.out _ KD.out).mono ?_);rintro e w7 ⟨ca2,cc2,rfl,hk7,hc7⟩;have K7:=nT KD.out hk7;obtain⟨v0,v1,v2,v3,v4,v5,v6,v7,v8,vf⟩:=s7c (s7b T2.out.x K7);have D:=hid (T2.out.put K7 hc7 HN2.out);clear hk7 hc7 K7)
    | fail)
   all_goals
    first|go_meet|(go_wp2_with fail;go_meet)|(simp only[Exit.then];go_meet)
    case rel=>exact⟨rfl,_,_,D.out⟩
  case rest=>
  obtain⟨rfl,HT3⟩:=hcut;obtain⟨ca2,cc2,hT3⟩:=HT3.out;have T3:=hid hT3;clear hT3 HT3 x0 x1 x2 x3 x4 x5 x6 x7 x8 xf y0 y1 y2 t0 PT KD SL HSL T2 NT HXA;by_cases hL1':L2=0
  ·have hr0:r=[]:=List.eq_nil_of_length_eq_zero (by rw[←HL2.out];exact hL1');have hLo:L=1:=(by have:=HLr.out;omega);have PA:=hid (fun W' (kk:Kt nO wc W')=>zct b (l:Int) (o:Int) (o:Int) (P:Int) fa1 (o+1) fc1 va1 m1 vc1 ca2 n2 cc2 (some ⟨gp,0,none⟩) pc' pl1 k hk HPQ.out p false W' (T3.out.d.pr.keep kk));rw[←HP2.out.1 hr0] at PA;clear hr0;subst hLo;obtain⟨x0,x1,x2,x3,x4,x5,x6,x7,x8,xf⟩:=s7c T3.out.x;obtain⟨y0,y1,y2⟩:=clc T3.out.y;have PB:=hid (PA.out _ (Kt.refl nO wc));go_upto_region 20 with (go_at_call 48;refine PB.out.mono ?_;rintro e w7 ⟨pa2,pc2,rfl,hk7,hp7⟩;obtain⟨v0,v1,v2,v3,v4,v5,v6,v7,v8,vf⟩:=s7c (s7b T3.out.x hk7));have T4:=hid (T3.out.par hk7 hp7);clear hk7 hp7 v0 v1 v2 v3 v4 v5 v6 v7 v8 vf x0 x1 x2 x3 x4 x5 x6 x7 x8 xf y0 y1 y2 PA PB T3;dsimp only[fin9] at T4;generalize ((((((((w7.setCell ⟨w.heap.size,0,none⟩ (.int .u64 (b:Int))).setCell ⟨w.heap.size,1,none⟩ (.int .i64 (l:Int))).setCell ⟨w.heap.size,2,none⟩ (.int .i64 (o:Int))).setCell ⟨w.heap.size,3,none⟩ (.int .i64 (o:Int))).setCell ⟨w.heap.size,4,none⟩ (.int .i64 (P:Int))).setCell ⟨w.heap.size,5,none⟩ (.slice fa1 (o+1) fc1)).setCell ⟨w.heap.size,6,none⟩ (.slice va1 m1 vc1)).setCell ⟨w.heap.size,7,none⟩ (.slice ca2 n2 cc2)).setCell ⟨w.heap.size,8,none⟩ (.slice pa2 8 pc2)=w8 at *;have KD:=hid ((Kt.refl nO w8).drew);have HXS:=hid (fun W' (kk:Kt nO w8 W')=>s7c (s7b T4.out.x kk));have HYS:=hid (fun W' (kk:Kt nO w8 W')=>clc (s7b T4.out.y kk));have HZS:=hid (fun W' (kk:Kt nO w8 W')=>s7z (s7b T4.out.z kk));have hn1':w.heap.size≠w.heap.size+1:=(by omega);have hn3:y3≠w.heap.size+1:=(by have:=T4.out.uy;omega);obtain⟨d0,d1,d2,d3,d4,d5,d6,d7,d8,df⟩:=HXS.out _ KD.out;obtain⟨e0,_,_⟩:=HYS.out _ KD.out;obtain⟨z0,z1,z2,z3,z4,z5,z6,z7,z8,zf⟩:=HZS.out _ KD.out;go_region_held3 (fun w'=>w'.cell? ⟨w.heap.size,0,none⟩=some (.int .u64 (b:Int))∧w'.cell? ⟨w.heap.size,1,none⟩=some (.int .i64 (l:Int))∧w'.cell? ⟨w.heap.size,2,none⟩=some (.int .i64 (o:Int))∧w'.cell? ⟨w.heap.size,3,none⟩=some (.int .i64 (o:Int))∧w'.cell? ⟨w.heap.size,4,none⟩=some (.int .i64 (P:Int))∧w'.cell? ⟨w.heap.size,5,none⟩=some (.slice fa1 (o+1) fc1)∧w'.cell? ⟨w.heap.size,6,none⟩=some (.slice va1 m1 vc1)∧w'.cell? ⟨w.heap.size,7,none⟩=some (.slice ca2 n2 cc2)∧w'.cell? ⟨w.heap.size,8,none⟩=some (.slice pa2 8 pc2)∧w'.cell? ⟨y3,0,none⟩=some (.int .i64 (p:Int))) ((refine⟨?_,?_,?_,?_,?_,?_,?_,?_,?_,?_⟩ <;> first|with_reducible assumption|with_reducible exact zbr (by with_reducible assumption) (by with_reducible assumption) _ _ _ _ _ _ _ _ _)) (first
    | (go_at_call 51;(with_reducible refine(WD.out _).mono ?_);rintro e w9 ⟨rfl,h9⟩;replace h9:=h9.symm;subst h9)
    | (go_at_call 20;(with_reducible refine(AT.out _ _ _ _ _ _ _ _ _ _ _ _).mono ?_);rintro e w9 ⟨rfl,hk9⟩;have K9:=hid (nT KD.out hk9);obtain⟨f0,f1,f2,f3,f4,f5,f6,f7,f8,ff⟩:=HXS.out _ K9.out;obtain⟨g0,_,_⟩:=HYS.out _ K9.out;obtain⟨u0,u1,u2,u3,u4,u5,u6,u7,u8,uf⟩:=HZS.out _ K9.out;clear hk9)
    | fail)
   all_goals
    have FIN:=hid ((T4.out.keep K9.out).fin (.slice fa1 (o+1) fc1) (.slice va1 m1 vc1) (.slice ca2 n2 cc2) (.slice pa2 8 pc2));go_wp2_with fail;exact⟨rfl,.tuple #[s7V b (l:Int) (o:Int) (o:Int) (P:Int) (.slice fa1 (o+1) fc1) (.slice va1 m1 vc1) (.slice ca2 n2 cc2) (.slice pa2 8 pc2),.int .u64 (aq:Int),.bool gw,.int .i64 0],by simp[results,Tryz.results17,go_sem,u0,u1,u2,u3,u4,u5,u6,u7,u8],fa1,fc1,va1,vc1,ca2,cc2,pa2,pc2,rfl,FIN.out⟩
  ·have hr0:r≠[]:=fun e=>hL1' (by rw[HL2.out,e];rfl)
   have hLo:((L:Int) == 1)=false:=(by have:=HLr.out;rw[beq_eq_false_iff_ne];omega);have hpp:=HP2.out.2 hr0;subst hpp;clear hr0;obtain⟨y0,y1,y2⟩:=clc T3.out.y;go_upto_region 20 with fail;clear y0 y1 y2;have T4:=T3;have KD:=hid ((Kt.refl nO wc).drew);have HXS:=hid (fun W' (kk:Kt nO wc W')=>s7c (s7b T4.out.x kk));have HYS:=hid (fun W' (kk:Kt nO wc W')=>clc (s7b T4.out.y kk));have HZS:=hid (fun W' (kk:Kt nO wc W')=>s7z (s7b T4.out.z kk));have hn1':w.heap.size≠w.heap.size+1:=(by omega);have hn3:y3≠w.heap.size+1:=(by have:=T4.out.uy;omega);obtain⟨d0,d1,d2,d3,d4,d5,d6,d7,d8,df⟩:=HXS.out _ KD.out;obtain⟨e0,_,_⟩:=HYS.out _ KD.out;obtain⟨z0,z1,z2,z3,z4,z5,z6,z7,z8,zf⟩:=HZS.out _ KD.out;go_region_held3 (fun w'=>w'.cell? ⟨w.heap.size,0,none⟩=some (.int .u64 (b:Int))∧w'.cell? ⟨w.heap.size,1,none⟩=some (.int .i64 (l:Int))∧w'.cell? ⟨w.heap.size,2,none⟩=some (.int .i64 (o:Int))∧w'.cell? ⟨w.heap.size,3,none⟩=some (.int .i64 (o:Int))∧w'.cell? ⟨w.heap.size,4,none⟩=some (.int .i64 (P:Int))∧w'.cell? ⟨w.heap.size,5,none⟩=some (.slice fa1 (o+1) fc1)∧w'.cell? ⟨w.heap.size,6,none⟩=some (.slice va1 m1 vc1)∧w'.cell? ⟨w.heap.size,7,none⟩=some (.slice ca2 n2 cc2)∧w'.cell? ⟨w.heap.size,8,none⟩=some (.slice (some ⟨gp,0,none⟩) 8 pc')∧w'.cell? ⟨y3,0,none⟩=some (.int .i64 (p:Int))) ((refine⟨?_,?_,?_,?_,?_,?_,?_,?_,?_,?_⟩ <;> first|with_reducible assumption|with_reducible exact zbr (by with_reducible assumption) (by with_reducible assumption) _ _ _ _ _ _ _ _ _)) (first
    | (go_at_call 51;(with_reducible refine(WD.out _).mono ?_);rintro e w9 ⟨rfl,h9⟩;replace h9:=h9.symm;subst h9)
    | (go_at_call 20;(with_reducible refine(AT.out _ _ _ _ _ _ _ _ _ _ _ _).mono ?_);rintro e w9 ⟨rfl,hk9⟩;have K9:=hid (nT KD.out hk9);obtain⟨f0,f1,f2,f3,f4,f5,f6,f7,f8,ff⟩:=HXS.out _ K9.out;obtain⟨g0,_,_⟩:=HYS.out _ K9.out;obtain⟨u0,u1,u2,u3,u4,u5,u6,u7,u8,uf⟩:=HZS.out _ K9.out;clear hk9)
    | fail)
   all_goals
    have FIN:=hid ((T4.out.keep K9.out).fin (.slice fa1 (o+1) fc1) (.slice va1 m1 vc1) (.slice ca2 n2 cc2) (.slice (some ⟨gp,0,none⟩) 8 pc'));go_wp2_with fail;exact⟨rfl,.tuple #[s7V b (l:Int) (o:Int) (o:Int) (P:Int) (.slice fa1 (o+1) fc1) (.slice va1 m1 vc1) (.slice ca2 n2 cc2) (.slice (some ⟨gp,0,none⟩) 8 pc'),.int .u64 (aq:Int),.bool gw,.int .i64 0],by simp[results,Tryz.results17,go_sem,u0,u1,u2,u3,u4,u5,u6,u7,u8],fa1,fc1,va1,vc1,ca2,cc2,(some ⟨gp,0,none⟩),pc',rfl,FIN.out⟩
end Go.Proofs.YtgjdmkfpmokkaaaGreatDoor
