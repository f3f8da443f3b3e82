import Derived.Test.YtgjdmkfpmokkaaaGreatDoorZx
set_option maxRecDepth 1000000
set_option maxHeartbeats 80000000
namespace Go.Proofs.YtgjdmkfpmokkaaaGreatDoor
open Go.RowKit
set_option linter.unusedVariables false
def lkR(b p k:Nat):List Nat→Nat
 | []=>0
 | j :: _=>b+4096*p+j*(16*2 ^ k)
theorem znf(b:Nat)(hb:b≤9223372036854775808)(lm oo po pp:Int)(fv lv pv qv:Value)(p k:Nat)(hp:p≤1024)(hk:k<8)(a:Option Addr)(c:Nat)(fl:List Nat)(hfl:fl.length≤256)(hfb:∀ q∈fl,q≤256)(i:Nat)(hi:i<fl.length)(w:World)(h:NS w (.slice a fl.length c) fl):
  Calls Tryz.prog 129 #[s7V b lm oo po pp fv lv pv qv,.agg #[.int .i64 (p:Int),.int .i64 (k:Int),.slice a fl.length c],.int .i64 (i:Int)] w fun e w'=>e=.returned (.int .u64 ((lkR b p k (fl.drop (i+1)):Nat):Int))∧Kt nO w w':=by
 obtain⟨n,hn⟩:=xe (fl.length);have T2:=two5 w (s7O b lm oo po pp fv lv pv qv) (clO p k (.slice a n c));have K0:=hid T2.1;have X0:=hid T2.2.1;have Y0:=hid T2.2.2;have N0:=hid (h.keep T2.1);rw[←hn] at hfl hi ⊢;have HN:=hid hn;have HFB:=hid hfb;clear T2 h hn hfb;by_cases hlast:i+1=n
 ·have hd:fl.drop (i+1)=[]:=by rw[hlast,HN.out];exact List.drop_length ..
  rw[hd];have he:(((i:Int)+1) == (n:Int))=true:=by rw[beq_iff_eq];omega
  have hei:(i:Int)+1=(n:Int):=by omega
  clear hd N0 HN HFB;go_enter Tryz.func129,Tryz.ntmps129;go_upto_region 1 with fail;generalize hy:w.heap.size=y at *;generalize (w.alloc (s7O b lm oo po pp fv lv pv qv)).alloc (clO p k (.slice a n c))=W0 at *;obtain⟨y0,y1,y2⟩:=clc Y0.out;have D:=K0;go_wp2_with fail;go_ret;exact⟨rfl,by rw[←hy] at *;exact D.out⟩
 ·have hlt:i+1<fl.length:=by rw[←HN.out];omega
  have hN:=N0.out;obtain⟨gx,ox,hxa,t0⟩:=hN.get hlt;subst hxa;have hq:=HFB.out _ (getD_mem fl hlt);have hd:fl.drop (i+1)=fl.getD (i+1) 0 :: fl.drop (i+2):=by
   rw[List.drop_eq_getElem_cons hlt,List.getD_eq_getElem?_getD,List.getElem?_eq_getElem hlt];rfl
  rw[hd];have hlk:lkR b p k (fl.getD (i+1) 0 :: fl.drop (i+2))=b+4096*p+fl.getD (i+1) 0*(16*2 ^ k):=rfl;rw[hlk];generalize fl.getD (i+1) 0=q at *;have AT:=hid (fun W'=>At7 b lm oo po pp fv lv pv qv p hp hb W');have WD:=hid (fun W'=>zcG k hk W');have hwb:=zbI hk;obtain⟨wd,hwd⟩:=xe (16*2 ^ k);obtain⟨ap,hap⟩:=xe (b+4096*p);obtain⟨ic,hic⟩:=xe (q*wd);obtain⟨aq,haq⟩:=xe (ap+ic);rw[←hwd] at WD hwb ⊢;rw[←hap] at AT ⊢;rw[←hic,←haq];have hic2:(q:Int)*(wd:Int)=(ic:Int):=by rw[hic];simp
  have hicb:ic≤1048576:=by
   rw[hic];exact Nat.le_trans (Nat.mul_le_mul hq hwb.2) (by decide)
  have hapb:ap≤9223372036854775808+8388608:=by rw[hap];omega
  have hicw:IntKind.i64.wrap (ic:Int)=(ic:Int):=by rw[IntKind.wrap_i64];omega
  have hicu:IntKind.u64.wrap (ic:Int)=(ic:Int):=by rw[wrap_u64];omega
  have haqi:(ap:Int)+(ic:Int)=(aq:Int):=by rw[haq];simp
  have haqw:IntKind.u64.wrap (aq:Int)=(aq:Int):=by rw[wrap_u64];omega
  obtain⟨i1,hi1e⟩:=xe (i+1);have hi1i:(i:Int)+1=(i1:Int):=by omega
  have hi1w:IntKind.i64.wrap (i1:Int)=(i1:Int):=by rw[IntKind.wrap_i64];omega
  have hi1:(i1:Int)<(n:Int):=by omega
  have he:((i1:Int) == (n:Int))=false:=by rw[beq_eq_false_iff_ne];omega
  have hei:¬(i1:Int)=(n:Int):=by omega
  rw[←hi1e] at t0;have ht0:((w.alloc (s7O b lm oo po pp fv lv pv qv)).alloc (clO p k (.slice (some ⟨gx,ox,none⟩) n c))).cell? ⟨gx,ox+i1,none⟩=some (.int .i64 (q:Int)):=t0;clear hwd hap hic haq hd hlk hN t0 hlt hlast N0 HN HFB hi1e;go_enter Tryz.func129,Tryz.ntmps129;go_upto_region 1 with fail;generalize (w.alloc (s7O b lm oo po pp fv lv pv qv)).alloc (clO p k (.slice (some ⟨gx,ox,none⟩) n c))=W0 at *;obtain⟨y0,y1,y2⟩:=clc Y0.out;have KD:=hid ((Kt.refl nO W0).drew);have XC:=hid (fun W' (kk:Kt nO W0 W')=>s7c (s7b X0.out kk));have YC:=hid (fun W' (kk:Kt nO W0 W')=>clc (s7b Y0.out kk));have TC:=hid (fun W' (kk:Kt nO W0 W')=>show W'.cell? ⟨gx,ox+i1,none⟩=some (.int .i64 (q:Int))from kk.cell (fun e=>e) ht0);clear ht0;obtain⟨d0,d1,d2,d3,d4,d5,d6,d7,d8,df⟩:=XC.out _ KD.out;obtain⟨e0,e1,e2⟩:=YC.out _ KD.out;have et:=TC.out _ KD.out;go_wp2_with fail;go_region_held3 (fun w'=>w'.cell? ⟨w.heap.size,0,none⟩=some (.int .u64 (b:Int))∧w'.cell? ⟨w.heap.size,1,none⟩=some (.int .i64 lm)∧w'.cell? ⟨w.heap.size,2,none⟩=some (.int .i64 oo)∧w'.cell? ⟨w.heap.size,3,none⟩=some (.int .i64 po)∧w'.cell? ⟨w.heap.size,4,none⟩=some (.int .i64 pp)∧w'.cell? ⟨w.heap.size,5,none⟩=some fv∧w'.cell? ⟨w.heap.size,6,none⟩=some lv∧w'.cell? ⟨w.heap.size,7,none⟩=some pv∧w'.cell? ⟨w.heap.size,8,none⟩=some qv∧w'.cell? ⟨w.heap.size+1,0,none⟩=some (.int .i64 (p:Int))∧w'.cell? ⟨w.heap.size+1,1,none⟩=some (.int .i64 (k:Int))∧w'.cell? ⟨w.heap.size+1,2,none⟩=some (.slice (some ⟨gx,ox,none⟩) n c)∧w'.cell? ⟨gx,ox+i1,none⟩=some (.int .i64 (q:Int))) ((refine⟨?_,?_,?_,?_,?_,?_,?_,?_,?_,?_,?_,?_,?_⟩ <;> with_reducible assumption)) (first
   | (go_at_call 51;(with_reducible refine(WD.out _).mono ?_);rintro e w9 ⟨rfl,h9⟩;replace h9:=h9.symm;subst h9)
   | (go_at_call 20;(with_reducible refine(AT.out _).mono ?_);rintro e w9 ⟨rfl,hk9⟩;have K9:=hid (nT KD.out hk9);obtain⟨f0,f1,f2,f3,f4,f5,f6,f7,f8,ff⟩:=XC.out _ K9.out;obtain⟨g0,g1,g2⟩:=YC.out _ K9.out;have gt:=TC.out _ K9.out;clear hk9)
   | fail)
  all_goals
   have D:=hid (nT K0.out K9.out);go_wp2_with fail;go_ret;exact⟨rfl,D.out⟩
theorem Kt.drewK{S:Nat→Prop}{w w':World}(k:Kt S w w'):∀ d,Kt S w (w'.drewN d)
 | 0=>k
 | d+1=>(Kt.drewK k d).drew
def NumC(W:World)(b:Nat)(n:Nat)(f:Nat→Int):Prop:=∀ j,j<n→W.cell? ⟨b,j,none⟩=some (.int .i64 (f j))
theorem zeb(a b:Nat)(n ca cb:Nat)(f:Nat→Int)(hn:n≤2000)(W:World)(ha:NumC W a n f)(hb:NumC W b n f):
  Calls Tryz.prog 10 #[.slice (some ⟨a,0,none⟩) n ca,.slice (some ⟨b,0,none⟩) n cb] W fun e w'=>e=.returned (.bool true)∧Kt nO W w':=by
 have HA:=hid ha;have HB:=hid hb;clear ha hb;go_enter Tryz.func10,Tryz.ntmps10;go_wp2
 go_loopw [5] (fun i wr=>∃ k:Nat,k≤n∧i=.int .i64 k∧∃ d,wr=W.drewN d) (fun i _=>n-(intOf i).toNat)
 case atStart=>exact⟨0,by omega,rfl,0,rfl⟩
 case round=>
  obtain⟨k,hk,rfl,d,rfl⟩:=hrel;by_cases hlt:k<n
  ·have hca:=HA.out k hlt;have hcb:=HB.out k hlt;generalize f k=v at *;have hik:(k:Int)<(n:Int):=(by omega);clear HA HB;go_wp2
   go_quiet (fail)
   go_wp2
   exact⟨⟨k+1,by omega,by simp,_,rfl⟩,by simp[intOf];omega⟩
  ·have hik:¬(k:Int)<(n:Int):=(by omega);have D:=hid (Kt.drewK (Kt.refl nO W) d);clear HA HB;go_wp2
   go_ret;exact⟨rfl,D.out⟩
theorem w7c{W:World}{y base lim o lw sb:Nat}{fv lv pv qv:Value}{po pp:Int}(h:W.heap[y]?=some (w7O base lim o lw sb fv lv pv qv po pp)):W.cell? ⟨y,3,none⟩=some (.pointer (some ⟨lw,0,none⟩))∧W.cell? ⟨y,4,none⟩=some (.pointer (some ⟨sb,0,none⟩)):=by
 refine⟨?_,?_⟩ <;> simp[World.cell?,h]
theorem Beg7.ks{w w':World}{e:Ending}(h:Beg7 w 65536 1 1 e w'):∃ wb lw sb fv lv pv qv,e=.returned (.pointer (some ⟨wb,0,none⟩))∧w'.heap[wb]?=some (w7O 65536 1 1 lw sb fv lv pv qv 1 0)∧KS7 w w' (fun y=>y=wb) sb lw 0 [] [] [] S0∧Kt nO w w'∧w.heap.size≤wb:=by
 obtain⟨wb,lw,sb,x,fv,lv,pv,qv,h1,h2,h3,h4,h5,h6,h7,h8,h9,h10,h11⟩:=h;refine⟨wb,lw,sb,fv,lv,pv,qv,h1,h2,⟨x,_,_,_,h4,Lve.none,fun y hy=>?_,h5,h7,h9,h6,h8,rfl,rfl⟩,h10,h3⟩;rw[show y=wb from hy];exact⟨lH h2,h11⟩
theorem KS7.heads{w W E sb lw n f0 f1 ls S}(s:KS7 w W E sb lw n f0 f1 ls S):
  Calls Tryz.prog 11 #[.pointer (some ⟨sb,0,none⟩)] W fun e w'=>∃ b,e=.returned (.slice (some ⟨b,0,none⟩) 8 8)∧NumC w' b 8 (fun j=>hdI (S.pl j))∧Kt nO W w'∧W.heap.size≤b:=by
 obtain⟨x,t,fr,h,o,v,hE,r⟩:=s;refine(zb7 o.sw).mono ?_;rintro e w' ⟨b,rfl,hb,kp,hz⟩;refine⟨b,rfl,fun j hj=>?_,kp,hz⟩;have hd:=o.hd;rcases (show j=0∨j=1∨j=2∨j=3∨j=4∨j=5∨j=6∨j=7 by omega)with rfl|rfl|rfl|rfl|rfl|rfl|rfl|rfl <;> (simp[World.cell?,hb];exact hd _ (by decide))
theorem NumC.keep{W W':World}{b n:Nat}{f:Nat→Int}(h:NumC W b n f)(k:Kt nO W W'):NumC W' b n f:=fun j hj=>k.cell (fun e=>e) (h j hj)
theorem KS7.open{w W E sb lw n f0 f1 ls S}(s:KS7 w W E sb lw n f0 f1 ls S)(hT:Tab w)(b:Nat)(hb:NumC W b 8 (fun j=>hdI (S.pl j))):
  Calls Tryz.prog 36 #[.pointer (some ⟨lw,0,none⟩),.slice (some ⟨b,0,none⟩) 8 8] W fun e w'=>∃ sb2,e=.returned (.tuple #[.pointer (some ⟨sb2,0,none⟩),.int .i64 0])∧KS7 w w' E sb2 lw n f0 f1 ls S∧KS7 w w' E sb lw n f0 f1 ls S∧Kt nO W w':=by
 have s0:=s;obtain⟨x,t,fr,h,o,v,hE,r⟩:=s;refine(zmi o.po hT ⟨b,0,none⟩ 8 (fun j=>hdI (S.pl j)) (fun j hj=>?_)).mono ?_
 ·have:=hb j hj;rw[show(⟨b,0,none⟩:Addr).add j=⟨b,j,none⟩from by
   cases j with
   | zero=>rfl
   | succ j=>simp[Addr.add]]
  exact this
 ·rintro e w' ⟨sb2,rfl,sw,kp,hz⟩;have o2:=o.keep kp;refine⟨sb2,rfl,⟨x,t,fr,_,⟨sw,o2.sf,o2.st,o2.bm,o2.si,fun k hk=>rfl⟩,v,fun y hy=>⟨Nat.lt_of_lt_of_le (hE y hy).1 kp.size,fun e=>e.elim (fun e=>(hE y hy).2 (.inl e)) (fun e=>absurd (hE y hy).1 (by omega))⟩,r⟩,s0.keep kp,kp⟩
def S1:Sb:=takS (freS S0 0 7) 0 7 (List.range' 1 (ncl 7-1))
def S2:Sb:=takS S1 0 7 []
theorem zna:S1.pl 7=[0]:=by decide
theorem znb:S1.fl 0=[1]:=by decide
theorem znc:∀ g k i,¬Lv7 S2 67585 g k i:=by
 rintro g k i ⟨h1,h2,h3,h4⟩;by_cases e:g=0
 ·subst e;have e2:S2.c 0=some 7:=rfl;rw[e2] at h1
  cases h1
  rw[show szC 7=2048 by decide] at h4;omega
 ·have e2:S2.c g=none:=by
   show updF S0.c 0 (some 7) g=none
   rw[uFn _ _ e];rfl
  rw[e2] at h1
  cases h1
theorem zmq(w:World)(hT:Tab w):
  Calls Tryz.prog 8 #[] w fun e w'=>e=.returned (.bool true)∧Kt nO w w':=by
 have BG:=hid (zi4 65536 (by decide) 1 1 (by decide) (by decide) (by decide) (by decide) w hT);have HT:=hid hT;clear hT;go_enter Tryz.func8,Tryz.ntmps8;go_wp2_with fail;refine BG.out.mono ?_;rintro e w1 hB;obtain⟨wb,lw,sb,fv,lv,pv,qv,rfl,hx,hks,hk,hz⟩:=hB.ks;have X1:=hid hx;have S1':=hid hks;have K1:=hid hk;have HZ:=hid hz;obtain⟨c3,c4⟩:=w7c hx;clear hB hx hks hk hz BG;have T1:=hid (S1'.out.stuck 0 (by decide) rfl true (.inl rfl));go_wp2_with fail;refine T1.out.mono ?_;rintro e w2 ⟨rfl,hs,hk⟩;have X2:=hid ((hk.block _ (lH X1.out) (fun e=>e)).trans X1.out);have K2:=hid (nT K1.out hk);have T2:=hid (hs.grow 7 (by decide) rfl);clear hs hk c3 c4 T1;obtain⟨c3,c4⟩:=w7c X2.out;go_wp2_with fail;refine T2.out.mono ?_;rintro e w3 ⟨rfl,hs,hk⟩;have X3:=hid ((hk.block _ (lH X2.out) (fun e=>e.1 rfl)).trans X2.out);have K3:=hid (K2.out.trans hk (fun _ _ e=>e) (fun y hy e=>absurd hy (Nat.not_lt.2 e.2)));have T3:=hid (hs.old 7 (by decide) zna znb false);rw[show 65536+4096*0+1*szC 7=67584 by decide] at T3;clear hs hk c3 c4 T2;obtain⟨c3,c4⟩:=w7c X3.out;go_wp2_with fail;refine T3.out.mono ?_;rintro e w4 ⟨rfl,hs,hk⟩;have X4:=hid ((hk.block _ (lH X3.out) (fun e=>e.1 rfl)).trans X3.out);have K4:=hid (K3.out.trans hk (fun _ _ e=>e) (fun y hy e=>absurd hy (Nat.not_lt.2 e.2)));have S4:=hid hs;clear hs hk c3 c4 T3;go_upto_region 7 with fail;have KD:=hid ((Kt.refl nO w4).drew);have X5:=hid ((KD.out.block _ (lH X4.out) (fun e=>e)).trans X4.out);have S5:=hid (S4.out.keep KD.out);have HP:=hid S5.out.heads;obtain⟨c3,c4⟩:=w7c X5.out;go_region_held3 (fun w'=>w'.cell? ⟨wb,3,none⟩=some (.pointer (some ⟨lw,0,none⟩))∧w'.cell? ⟨wb,4,none⟩=some (.pointer (some ⟨sb,0,none⟩))) ((refine⟨?_,?_⟩ <;> first|with_reducible assumption|fail)) (first
  | (go_at_call 11;(with_reducible refine HP.out.mono ?_);rintro e w5 ⟨b,rfl,hb,hk5,hz5⟩;have K5:=hid (nT KD.out hk5);have X6:=hid ((hk5.block _ (lH X5.out) (fun e=>e)).trans X5.out);obtain⟨f3,f4⟩:=w7c X6.out;have OP:=hid ((S5.out.keep hk5).open HT.out b hb);clear hb hk5 hz5)
  | (go_at_call 36;(with_reducible refine OP.out.mono ?_);rintro e w6 ⟨sb2,rfl,hs2,hs1,hk6⟩;have K6:=hid (nT K4.out (nT K5.out hk6));have X7:=hid ((hk6.block _ (lH X6.out) (fun e=>e)).trans X6.out);have Q2:=hid hs2;have Q1:=hid hs1;obtain⟨g3,g4⟩:=w7c X7.out;clear hs2 hs1 hk6)
  | fail)
 all_goals
  clear c3 c4 f3 f4 HP OP;go_upto_region 8 with fail;have KE:=hid ((Kt.refl nO w6).drew);have X8:=hid ((KE.out.block _ (lH X7.out) (fun e=>e)).trans X7.out);have PA:=hid (show ∀ W',Kt nO w6 W'→Calls Tryz.prog 11 #[.pointer (some ⟨sb,0,none⟩)] W' fun e w'=>∃ b,e=.returned (.slice (some ⟨b,0,none⟩) 8 8)∧NumC w' b 8 (fun j=>hdI (S2.pl j))∧Kt nO W' w'∧Kt nO w6 w' from fun W' k=>(Q1.out.keep k).heads.mono fun e w' ⟨b,h1,h2,h3,_⟩=>⟨b,h1,h2,h3,nT k h3⟩);have PB:=hid (show ∀ W',Kt nO w6 W'→Calls Tryz.prog 11 #[.pointer (some ⟨sb2,0,none⟩)] W' fun e w'=>∃ b,e=.returned (.slice (some ⟨b,0,none⟩) 8 8)∧NumC w' b 8 (fun j=>hdI (S2.pl j))∧Kt nO W' w'∧Kt nO w6 w' from fun W' k=>(Q2.out.keep k).heads.mono fun e w' ⟨b,h1,h2,h3,_⟩=>⟨b,h1,h2,h3,nT k h3⟩);obtain⟨c3,c4⟩:=w7c X8.out;clear g3 g4;go_region_held3 (fun w'=>w'.cell? ⟨wb,4,none⟩=some (.pointer (some ⟨sb,0,none⟩))) (first|with_reducible assumption|fail) (first
   | (go_at_call 11;(with_reducible refine(PB.out _ KE.out).mono ?_);rintro e wB ⟨b2,rfl,hb,hk,hk6⟩;have N2:=hid hb;have KB:=hid hk6;obtain⟨i3,i4⟩:=w7c ((hk6.block _ (lH X7.out) (fun e=>e)).trans X7.out);clear hb hk hk6)
   | (go_at_call 11;(with_reducible refine(PA.out _ KE.out).mono ?_);rintro e wA ⟨b1,rfl,hb,hk,hk6⟩;have N1:=hid hb;have KA:=hid hk6;obtain⟨j3,j4⟩:=w7c ((hk6.block _ (lH X7.out) (fun e=>e)).trans X7.out);clear hb hk hk6)
   | (go_at_call 11;(with_reducible refine(PA.out _ KB.out).mono ?_);rintro e wA ⟨b1,rfl,hb,hk,hk6⟩;have N1:=hid hb;have KA:=hid hk6;have M2:=hid (N2.out.keep hk);obtain⟨j3,j4⟩:=w7c ((hk6.block _ (lH X7.out) (fun e=>e)).trans X7.out);clear hb hk hk6)
   | (go_at_call 11;(with_reducible refine(PB.out _ KA.out).mono ?_);rintro e wB ⟨b2,rfl,hb,hk,hk6⟩;have N2:=hid hb;have KB:=hid hk6;have M1:=hid (N1.out.keep hk);obtain⟨i3,i4⟩:=w7c ((hk6.block _ (lH X7.out) (fun e=>e)).trans X7.out);clear hb hk hk6)
   | (go_at_call 10;(with_reducible refine(zeb b2 b1 8 8 8 _ (by decide) _ M2.out N1.out).mono ?_);rintro e w8 ⟨rfl,hk8⟩;have K8:=hid (nT KA.out hk8);obtain⟨l3,l4⟩:=w7c ((K8.out.block _ (lH X7.out) (fun e=>e)).trans X7.out);clear hk8)
   | (go_at_call 10;(with_reducible refine(zeb b2 b1 8 8 8 _ (by decide) _ N2.out M1.out).mono ?_);rintro e w8 ⟨rfl,hk8⟩;have K8:=hid (nT KB.out hk8);obtain⟨l3,l4⟩:=w7c ((K8.out.block _ (lH X7.out) (fun e=>e)).trans X7.out);clear hk8)
   | fail)
  all_goals
   have Z1:=hid ((Q1.out.keep K8.out).size_yes (a:=67584) (g:=0) (k:=7) (i:=1) ⟨rfl,by decide,by decide,by decide⟩);have K9:=hid (nT K6.out K8.out);rw[show szC 7=2048 by decide] at Z1;clear c3 c4;go_wp2_with fail;refine Z1.out.mono ?_;rintro e w9 ⟨rfl,hs9,hk9⟩;have L9:=hid ((K8.out.block _ (lH X7.out) (fun e=>e)).trans X7.out);obtain⟨m3,m4⟩:=w7c ((hk9.block _ (lH L9.out) (fun e=>e)).trans L9.out);have Z2:=hid (hs9.size_no 67585 (by decide) znc);have K10:=hid (nT K9.out hk9);clear hs9 hk9;go_wp2_with fail;refine Z2.out.mono ?_;rintro e w10 ⟨rfl,hs10,hk10⟩;have D:=hid (nT K10.out hk10);clear hs10 hk10;go_wp2_with fail;go_ret;exact⟨rfl,D.out⟩
end Go.Proofs.YtgjdmkfpmokkaaaGreatDoor
