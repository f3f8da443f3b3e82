import Derived.Test.YtgjdmkfpmokkaaaGreatDoorZe
set_option maxRecDepth 1000000
set_option maxHeartbeats 80000000
namespace Go.Proofs.YtgjdmkfpmokkaaaGreatDoor.M
open Go.RowKit Go.Shelf
set_option linter.unusedVariables false
attribute [local go_sem] Oper.semAt_some
theorem zes(kk c b ao base R lim n f hd)(o:Nat)(ho:o≤8)(hR:R=4096*2 ^ o)(w:World)(h:LS w c b ao base R lim n f hd)(hpk:PtrB w kk c):
  Calls Tryz.prog 158 #[.slice none 0 0,.func (.func 159) #[] #[.pointer (some ⟨kk,0,none⟩)]] w fun e w'=>∃ v,e=.returned v∧Lst w' v (walkR base n f (n/16) 0 hd)∧Kt nO w w'∧∀ r,v.ownBlock=some r→w.heap.size≤r:=by
 have H:=hid h;have HPKW:=hid hpk;have hkk:=hpk.lt;have hn:n≤4194304:=Nat.le_trans h.s.nle h.s.cfg.lr;have HRR:=hid hR;clear h hR hpk;have hmf:=mkf;have hfe:=fnil;refine zc3 Tryz.func158 rfl ?_;simp only[Tryz.ntmps158,List.size_toArray,List.length_cons,List.length_nil,Nat.reduceAdd,Nat.reduceSub,Array.replicate_succ,Array.replicate_zero,List.push_toArray,List.append_toArray,List.nil_append,List.cons_append];go_wp2_with fail;obtain⟨w1,hw1⟩:=xe (w.alloc (.cells #[.slice none 0 0] 61));rw[←hw1];have KW:=hid (show Kt nO w w1 by rw[hw1];exact(Kt.refl nO w).alloc _);have F1:=hid (show OutB w1 w.heap.size (.slice none 0 0)by rw[hw1];exact nH _ _);have F2:=hid (HPKW.out.keep KW.out);have HZ1:=hid (show w1.heap.size=w.heap.size+1 by rw[hw1];simp);have HNL:=hid hn;clear hw1 hn;have HKK:=hid hkk;refine zfR (gf:=159) (lb:=#[.pointer (some ⟨kk,0,none⟩)]) rfl (enters_of Tryz.func159 (by kernel_rfl) rfl) ?_;intro fn rc hrc;have HRC:=hid hrc;clear hrc;have hz1:=HZ1.out;rw[hz1];obtain⟨W3,hW3⟩:=xe ((w1.alloc (.deferred (some []))).alloc (.loop (rc .ready none)));have KW3:=hid (show Kt nO w1 W3 by rw[hW3];exact((Kt.refl nO w1).alloc _).alloc _);have hz3:W3.heap.size=w.heap.size+3:=by rw[hW3];simp;omega
 have G1:=hid (F1.out.kept KW3.out (fun x=>x));have G2:=hid (F2.out.keep KW3.out);have G3:=hid (show zbi W3 (w.heap.size+2) (rc .ready none)by
  rw[hW3];have:=zbo w1 (.deferred (some [])) (.loop (rc .ready none));rw[hz1] at this;exact this)
 have G4:=hid (show zcI W3 (w.heap.size+1)by
  rw[hW3];have:=(Below.heap_alloc (w1.alloc (.deferred (some []))) (.loop (rc .ready none)) w1.heap.size (by simp)).trans (nH w1 _);rw[hz1] at this;exact this)
 have K3:=hid (nT KW.out KW3.out);rw[←hW3];have HZ3:=hid hz3;clear hW3;obtain⟨N,hN⟩:=xe (n/16);have hNl:N≤262144:=by have:=HNL.out;omega
 have HN:=hid hN;clear hN;refine(zjB kk (w.heap.size+2) c b ao base R lim n o ho HRR.out (w.heap.size+3)
  (Taking c b ao base R lim n f hd kk w.heap.size (w.heap.size+1) (w.heap.size+2) w rc N) (fun _ _=>False) ?hK1 ?hK2 (fun _ _ _ _ h=>h.elim) ?hY hd f
  (fun x=>x<w.heap.size∨x=kk∨x=w.heap.size∨x=w.heap.size+1∨x=w.heap.size+2∨Value.ownBlock (.slice none 0 0)=some x) W3 (by omega) (H.out.keep K3.out) ?h0).mono ?hend
 case h0=>
  exact⟨rfl,H.out.keep K3.out,G2.out,K3.out,H.out.l.h64,by decide,[],.slice none 0 0,rfl,Nat.zero_le _,rfl,G1.out,Lst.nil _,G3.out,G4.out,fun r e=>(by cases e),rfl⟩
 case hK1=>
  rintro i q p f' S W ⟨hf,hls,hpk,hk0,hp,hq,xs,v,hxi,hiN,hwk,hob,hlst,hrec,hdef,hrow,rfl⟩;refine⟨hp,hq,⟨hd,hls⟩,?_,hpk⟩;have:=hk0.size;have:=hpk.lt;have:=hob.lt;have:=hrec.lt;have:=hdef.lt;rintro x (h|h|h|h|h|h)
  all_goals first|omega|exact hlst.wds.lt h
 case hK2=>
  rintro i q p f' S T W W' ⟨hf,hls,hpk,hk0,hp,hq,xs,v,hxi,hiN,hwk,hob,hlst,hrec,hdef,hrow,rfl⟩ hk hT;have hnT:∀ x,(x<w.heap.size∨x=kk∨x=w.heap.size∨x=w.heap.size+1∨x=w.heap.size+2∨v.ownBlock=some x)→¬T x:=fun x hx ht=>(hT x ht).2 hx
  exact⟨hf,hls.kept hk (fun x hx=>hnT x (.inl (H.out.lt x hx))),hpk.kept hk (hnT _ (by simp)),hk0.trans hk (fun _ _ x=>x) (fun x hx ht=>hnT x (.inl hx) ht),hp,hq,
   xs,v,hxi,hiN,hwk,hob.kept hk (hnT _ (by simp)),hlst.kept hk (fun r hr=>hnT r (by simp[hr])),hrec.kept hk (hnT _ (by simp)),hdef.kept hk (hnT _ (by simp)),hrow,rfl⟩
 case hend=>
  rintro e W' ⟨hv,⟨i,q,p,f',S,⟨hf,hls,hpk,hk0,hp,hq,xs,v,hxi,hiN,hwk,hob,hlst,hrec,hdef,hrow,hSS⟩,hi,hor⟩|⟨_,h⟩⟩
  ·refine⟨hv,.ready,none,by simp,hrec,fun _=>?_,fun c hc=>by cases hc⟩;have hwn:walkR base n f (N-i) q p=[]:=by
    rcases Nat.eq_zero_or_pos (N-i)with e|e
    ·rw[e];rfl
    ·obtain⟨k,hk⟩:∃ k,N-i=k+1:=⟨N-i-1,by omega⟩;rw[hk];unfold walkR;rw[if_neg];rintro ⟨h1,h2,h3⟩;rw[hf] at hor;have:=HN.out;rcases hor with h|h|h|h
     ·exact h1 h
     ·exact h h2
     ·exact h h3
     ·omega
   rw[hwn,List.append_nil] at hwk;have kq:Kt (fun x=>x=w.heap.size+1∨x=w.heap.size+2) W' ((W'.putObj (w.heap.size+2) (.loop (rc .exhausted none))).putObj (w.heap.size+1) (.deferred none)):=((Kt.refl _ W').putObj (fun _=>.inr rfl) _).putObj (fun _=>.inl rfl) _;have hD2:zcI (W'.putObj (w.heap.size+2) (.loop (rc .exhausted none))) (w.heap.size+1):=(World.putObj_heap_other (by omega)).trans hdef;have hO2:OutB (W'.putObj (w.heap.size+2) (.loop (rc .exhausted none))) w.heap.size v:=(World.putObj_heap_other (by omega)).trans hob;have hc:=zbv hO2;have hne:∀ r,v.ownBlock=some r→¬(r=w.heap.size+1∨r=w.heap.size+2):=fun r hr e=>by
    obtain⟨cs,hcs⟩:=hlst.blk hr;rcases e with rfl|rfl
    ·rw[show W'.heap[w.heap.size+1]?=_ from hdef] at hcs;cases hcs
    ·rw[show W'.heap[w.heap.size+2]?=_ from hrec] at hcs;cases hcs
   have HL:=hid (hlst.kept kq hne);have HK:=hid (hk0.trans (U:=nO) kq (fun _ _ x=>x) (fun x hx e=>by omega));have HW:=hid hwk;have HR:=hid hrow;clear hlst hk0 hwk hrow hne kq hO2 hor hSS hwn hls hpk hob hrec hdef hf hi;go_wp2_with fail;refine⟨by simp,.inl ⟨_,_,rfl,run_takeDeferred hD2,?_⟩⟩;refine⟨_,results_tmp rfl _ _ _,v,rfl,?_,HK.out,HR.out⟩;rw[←HN.out,←HW.out];exact HL.out
  ·exact h.elim
 case hY=>
  rintro i q p f' S W ⟨hf,hls,hpk,hk0,hp,hq,xs,v,hxi,hiN,hwk,hob,hlst,hrec,hdef,hrow,rfl⟩ hi hp0 hin hpv;rw[←HN.out] at hi;subst hf;have hL:=hrec;rw[HRC.out] at hL;refine zc2 hL rfl ?_;rw[←HRC.out];have kq:Kt (fun x=>x=w.heap.size+2) W (W.putObj (w.heap.size+2) (.loop (rc .busy none))):=(Kt.refl (fun x=>x=w.heap.size+2) W).putObj (fun _=>rfl) _;have hne:∀ r,v.ownBlock=some r→¬(r=w.heap.size+2):=fun r hr e=>by
   obtain⟨cs,hcs⟩:=hlst.blk hr;subst e;rw[show W.heap[w.heap.size+2]?=_ from hrec] at hcs;cases hcs
  have hnd:∀ r,v.ownBlock=some r→¬(r=w.heap.size+1):=fun r hr e=>by
   obtain⟨cs,hcs⟩:=hlst.blk hr;subst e;rw[show W.heap[w.heap.size+1]?=_ from hdef] at hcs;cases hcs
  have hnk:∀ r,v.ownBlock=some r→¬(r=kk):=fun r hr e=>by
   obtain⟨cs,hcs⟩:=hlst.blk hr;rw[e,show W.heap[kk]?=_ from hpk] at hcs;simp at hcs
  have hno:∀ r,v.ownBlock=some r→¬(r=w.heap.size):=fun r hr e=>by
   obtain⟨cs,hcs⟩:=hlst.blk hr;subst e;rw[show W.heap[w.heap.size]?=_ from hob] at hcs;simp at hcs
  obtain⟨W2,hW2⟩:=xe (W.putObj (w.heap.size+2) (.loop (rc .busy none)));rw[←hW2] at kq;have hz2:W2.heap.size=W.heap.size:=by rw[hW2];simp
  have L2:=hlst.kept kq hne;have O2:=hob.kept kq (by omega);have R2:zbi W2 (w.heap.size+2) (rc .busy none):=by rw[hW2];exact hrec.put _
  have D2:=hdef.kept kq (by omega);have P2:=hpk.kept kq (by omega);have kt:Kt nO W2 (W2.alloc (.cells #[.int .u64 (p:Int)] 24)):=(Kt.refl nO W2).alloc _;obtain⟨v',w4,hap,hL4,hK4,hown4,g,cap,hv'⟩:=zjC (W2.alloc (.cells #[.int .u64 (p:Int)] 24)) v xs p (L2.keep kt) hp (by omega) ⟨W2.heap.size,0,none⟩ 1 (by rw[Addr.add_lit];exact zbv (nH _ _));subst hv';have kA:Kt (fun x=>x=w.heap.size+2∨v.ownBlock=some x) W w4:=(kq.trans (U:=fun x=>x=w.heap.size+2∨v.ownBlock=some x) kt (fun _ _ h=>.inl h) (fun _ _ h=>h.elim)).trans hK4 (fun _ _ h=>h) (fun _ _ h=>.inr h);have kB:Kt (fun x=>v.ownBlock=some x) W2 w4:=kt.trans hK4 (fun _ _ h=>h.elim) (fun _ _ h=>h);have O4:=O2.kept kB (fun h=>hno _ h rfl);have hc0:=zbv O2;have hc4:=zbv O4;have hf4:=zc5 O4;have HAP:=hid hap;have HZ2:=hid hz2;have HL4:=hid hL4;have KA:=hid kA;have KB:=hid kB;have HO4:=hid O4;have HR2:=hid R2;have HD2:=hid D2;have HP2:=hid P2;have HOWN:=hid hown4;have HLS:=hid hls;have HK0:=hid hk0;have HWK:=hid hwk;have HROW:=hid hrow;have HX:=hid hxi;have HPV:=hid hpv;have HH1:=hid hne;have HH2:=hid hnd;have HH3:=hid hnk;have HH4:=hid hno;have HIN:=hid hin;have HREC:=hid hrec;have HDEF:=hid hdef;have HPK:=hid hpk;clear hz2 hxi kq L2 O2 R2 D2 P2 kt hL4 hK4 hown4 kA kB O4 hL hls hk0 hwk hrow hpv hne hnd hnk hno hin hrec hdef hpk hob hlst;gi_wp2_with fail
  refine⟨HREC.out,?_⟩;rw[←hW2];clear hW2;gi_wp2_with (gi_at_builtin;refine zb3 _ rfl _ _ _ rfl v (.slice (some ⟨W2.heap.size,0,none⟩) 1 1) rfl rfl _ _ HAP.out ?_)
  have hN4:¬(v.ownBlock=some (w.heap.size+2)):=fun h=>HH1.out _ h rfl
  have R4:=HR2.out.kept KB.out hN4;have kC:Kt (fun x=>x=w.heap.size+2∨x=w.heap.size∨v.ownBlock=some x) W ((w4.setCell ⟨w.heap.size,0,none⟩ (.slice (some ⟨g,0,none⟩) (xs.length+1) cap)).putObj (w.heap.size+2) (.loop (rc .ready none))):=
   ((KA.out.mono (fun x _ h=>by rcases h with h|h;exact .inl h;exact .inr (.inr h))).setCell (fun _=>.inr (.inl rfl)) _).putObj (fun _=>.inl rfl) _
  have kD:Kt (fun x=>x=w.heap.size+2∨x=w.heap.size) w4 ((w4.setCell ⟨w.heap.size,0,none⟩ (.slice (some ⟨g,0,none⟩) (xs.length+1) cap)).putObj (w.heap.size+2) (.loop (rc .ready none))):=
   ((Kt.refl _ w4).setCell (fun _=>.inr rfl) _).putObj (fun _=>.inl rfl) _
  have hgn:∀ r,Value.ownBlock (.slice (some ⟨g,0,none⟩) (xs.length+1) cap)=some r→r≠w.heap.size+2∧r≠w.heap.size∧w.heap.size≤r∧(v.ownBlock=some r∨W.heap.size≤r):=fun r hr=>by
   have hWl:=HREC.out.lt;rcases HOWN.out with e|⟨r',e,hle⟩
   ·rw[e] at hr;exact⟨HH1.out r hr,HH4.out r hr,HROW.out r hr,.inl hr⟩
   ·rw[e] at hr
    cases hr
    simp at hle;have:=HZ2.out;exact⟨by omega,by omega,by omega,.inr (by omega)⟩
  obtain⟨W5,hW5⟩:=xe ((w4.setCell ⟨w.heap.size,0,none⟩ (.slice (some ⟨g,0,none⟩) (xs.length+1) cap)).putObj (w.heap.size+2) (.loop (rc .ready none)));have R5:zbi (w4.setCell ⟨w.heap.size,0,none⟩ (.slice (some ⟨g,0,none⟩) (xs.length+1) cap)) (w.heap.size+2) (rc .busy none):=R4.kept ((Kt.refl (fun x=>x=w.heap.size) w4).setCell (fun _=>rfl) _) (by omega);have R6:zbi W5 (w.heap.size+2) (rc .ready none):=by rw[hW5];exact R5.put _
  have O6:OutB W5 w.heap.size (.slice (some ⟨g,0,none⟩) (xs.length+1) cap):=by rw[hW5];exact(World.putObj_heap_other (by omega)).trans (HO4.out.set _)
  rw[←hW5] at kC kD;have hTk:Taking c b ao base R lim n f' hd kk w.heap.size (w.heap.size+1) (w.heap.size+2) w rc N (i+1) p (nx base f' p) f'
    (fun x=>x<w.heap.size∨x=kk∨x=w.heap.size∨x=w.heap.size+1∨x=w.heap.size+2∨Value.ownBlock (.slice (some ⟨g,0,none⟩) (xs.length+1) cap)=some x) W5:=by
   refine⟨rfl,?_,?_,?_,?_,hp,xs ++ [p],.slice (some ⟨g,0,none⟩) (xs.length + 1) cap,by simp[HX.out],by omega,?_,O6,?_,R6,?_,?_,rfl⟩
   ·refine HLS.out.kept kC (fun x hx h=>?_);have:=H.out.lt x hx;rcases h with h|h|h
    ·omega
    ·omega
    ·have:=HROW.out x h;omega
   ·exact HPK.out.kept kC (by rintro (h|h|h);omega;omega;exact HH3.out _ h rfl)
   ·refine HK0.out.trans kC (fun _ _ h=>h) (fun x hx h=>?_);rcases h with h|h|h
    ·omega
    ·omega
    ·have:=HROW.out x h;omega
   ·exact HLS.out.s.nx_lt p HIN.out
   ·have e1:N-i=(N-(i+1))+1:=(by omega);rw[←HWK.out,e1,walkR,if_pos ⟨hp0,HIN.out,HPV.out⟩];simp
   ·exact HL4.out.kept kD (fun r hr h=>by have:=hgn r hr;omega)
   ·exact(HDEF.out.kept kC (by rintro (h|h|h);omega;omega;exact HH2.out _ h rfl))
   ·exact fun r hr=>(hgn r hr).2.2.1
  have hkk:Kt (fun x=>x<w.heap.size∨x=kk∨x=w.heap.size∨x=w.heap.size+1∨x=w.heap.size+2∨v.ownBlock=some x) W W5:=by
   refine kC.mono (fun x _ h=>?_);rcases h with h|h|h
   ·exact .inr (.inr (.inr (.inr (.inl h))))
   ·exact .inr (.inr (.inl h))
   ·exact .inr (.inr (.inr (.inr (.inr h))))
  have hss:∀ x,(x<w.heap.size∨x=kk∨x=w.heap.size∨x=w.heap.size+1∨x=w.heap.size+2∨Value.ownBlock (.slice (some ⟨g,0,none⟩) (xs.length+1) cap)=some x)→
    (x<w.heap.size∨x=kk∨x=w.heap.size∨x=w.heap.size+1∨x=w.heap.size+2∨v.ownBlock=some x)∨W.heap.size≤x:=by
   rintro x (h|h|h|h|h|h)
   ·exact .inl (.inl h)
   ·exact .inl (.inr (.inl h))
   ·exact .inl (.inr (.inr (.inl h)))
   ·exact .inl (.inr (.inr (.inr (.inl h))))
   ·exact .inl (.inr (.inr (.inr (.inr (.inl h)))))
   ·rcases (hgn x h).2.2.2 with h'|h'
    ·exact .inl (.inr (.inr (.inr (.inr (.inr h')))))
    ·exact .inr h'
  subst hW5;first
   | exact⟨R5,.inl ⟨rfl,f',_,hTk,hkk,hss⟩⟩
   | exact⟨R5,rfl,f',_,hTk,hkk,hss⟩
theorem Collect_any(kk c b ao base R lim n f hd)(o:Nat)(ho:o≤8)(hR:R=4096*2 ^ o)(w:World)(h:LS w c b ao base R lim n f hd)(hpk:PtrB w kk c):
  Calls Tryz.prog 127 #[.func (.func 159) #[] #[.pointer (some ⟨kk,0,none⟩)]] w fun e w'=>∃ v,e=.returned v∧Lst w' v (walkR base n f (n/16) 0 hd)∧Kt nO w w'∧∀ r,v.ownBlock=some r→w.heap.size≤r:=by
 have AS:=hid (zes kk c b ao base R lim n f hd o ho hR w h hpk);clear h hpk;go_enter Tryz.func127,Tryz.ntmps127;go_wp2_with fail;refine AS.out.mono ?_;rintro e w1 ⟨v,rfl,hv⟩;have HV:=hid hv;clear hv;go_wp2_with fail;go_ret;exact⟨v,rfl,HV.out⟩
end Go.Proofs.YtgjdmkfpmokkaaaGreatDoor.M
namespace Go.Proofs.YtgjdmkfpmokkaaaGreatDoor.M
open Go.RowKit
set_option linter.unusedVariables false
theorem zmg(base:Nat)(lim ord:Int)(hl1 : -9223372036854775808≤lim)(hl2:lim≤9223372036854775807)(ho1 : -9223372036854775808≤ord)(ho2:ord≤9223372036854775807)(h:¬Bounds lim ord)(w:World):
  Calls Tryz.prog 31 #[.agg #[.int .u64 (base:Int),.int .i64 lim,.int .i64 ord]] w fun e w'=>e=.returned (.bool false)∧Kt nO w w':=by
 by_cases h1:ord<0
 ·clear h;go_enter Tryz.func31,Tryz.ntmps31;go_wp2
  go_ret;exact⟨rfl,(Kt.refl _ w).alloc _⟩
 ·by_cases h2 : 8<ord
  ·clear h;go_enter Tryz.func31,Tryz.ntmps31;go_wp2
   go_ret;exact⟨rfl,(Kt.refl _ w).alloc _⟩
  ·by_cases h3:lim<1
   ·clear h;go_enter Tryz.func31,Tryz.ntmps31;go_wp2
    go_ret;exact⟨rfl,(Kt.refl _ w).alloc _⟩
   ·have h4 : 64<lim:=(by unfold Bounds at h;omega);clear h;go_enter Tryz.func31,Tryz.ntmps31;go_wp2
    go_ret;exact⟨rfl,(Kt.refl _ w).alloc _⟩
theorem zm3(base:Nat)(hb64:base<18446744073709551616)(lim k:Nat)(hk:k≤8)(hl1 : 1≤lim)(hl2:lim≤64)(w:World):
  Calls Tryz.prog 31 #[.agg #[.int .u64 (base:Int),.int .i64 (lim:Int),.int .i64 (k:Int)]] w fun e w'=>e=.returned (.bool (mayB base lim k))∧Kt nO w w':=by
 have hB:Bounds (lim:Int) (k:Int):=by unfold Bounds;omega
 have HMAY:=hid (show mayB base lim k=(decide (lim*2 ^ k≤1024) && (decide (base≠0) && decide (base%RS k=0) && decide (base+lim*RS k≤9223372036854775808)))from by
  unfold mayB;rw[decide_eq_true hB,Int.toNat_natCast,Int.toNat_natCast,Bool.true_and])
 clear hB;go_enter Tryz.func31,Tryz.ntmps31;go_wp2
 go_loop [3,4,5] (fun pg r i=>∃ j:Nat,j≤k∧i=.int .i64 j∧pg=.int .i64 ((lim*2 ^ j:Nat):Int)∧r=.int .u64 ((4096*2 ^ j:Nat):Int)) (fun _ _ i=>k-(intOf i).toNat)
 case atStart=>exact⟨0,by omega,rfl,by simp,by simp⟩
 case round=>
  obtain⟨j,hj,rfl,rfl,rfl⟩:=hrel;obtain⟨P,hP⟩:=xe (2 ^ j);have hP8:=pow8 j (by omega);rw[←hP] at hP8 ⊢;obtain⟨lp,hlp⟩:=xe (lim*P);have hlp2:lp≤16384:=by
   rw[hlp];exact Nat.le_trans (Nat.mul_le_mul hl2 hP8.2) (by decide)
  rw[←hlp];obtain⟨R,hR⟩:=xe (4096*P);have hR1:R≤1048576:=by omega
  rw[←hR];by_cases hlt:j<k
  ·have hN1:=hid (show lim*2 ^ (j+1)=lp*2 from by rw[hlp,hP,Nat.pow_succ,Nat.mul_assoc]);have hN2:=hid (show 4096*2 ^ (j+1)=R*2 from by rw[hR,hP,Nat.pow_succ,Nat.mul_assoc]);have hji:(j:Int)<(k:Int):=(by omega);clear hP hlp hR;go_wp2
   refine⟨⟨j+1,by omega,by simp,?_,?_⟩,by simp[intOf];omega⟩
   ·rw[hN1.out];simp
   ·rw[hN2.out];simp
  ·obtain rfl:j=k:=(by omega);have e1:RS j=R:=(by rw[hR,hP];rfl);obtain⟨lr,hlr⟩:=xe (lim*R);have hlr2:lr=4096*lp:=(by rw[hlr,hR,hlp,Nat.mul_left_comm]);have hmul:(R:Int)*(lim:Int)=(lr:Int):=(by rw[hlr,Int.mul_comm];simp);have HM:=hid (show mayB base lim j=(decide (lp≤1024) && (decide (base≠0) && decide (base%R=0) && decide (base+lr≤9223372036854775808)))from by
    rw[HMAY.out,e1,←hP,←hlp,←hlr])
   clear e1 HMAY;have hR0:¬(R:Int)=0:=(by omega);clear hP hlp hR hlr hP8;by_cases h1:lp≤1024
   ·have H1:=hid (decide_eq_true h1);have h1':¬(1024:Int)<lp:=(by omega);by_cases h0:base=0
    ·have hb0:((base:Int) == 0)=true:=(by rw[h0];rfl);have H0:=hid h0;clear h0 hlr2;go_wp2
     go_ret;exact⟨zac (by rw[HM.out,H0.out];simp),(Kt.refl _ w).alloc _⟩
    ·have hb0:((base:Int) == 0)=false:=(by rw[beq_eq_false_iff_ne];omega);have H0:=hid (show decide (base≠0)=true from decide_eq_true h0);by_cases h2:base%R=0
     ·have hm:((base:Int)%(R:Int) != 0)=false:=(by rw[bne_eq_false_iff_eq];omega);have H2:=hid (show decide (base%R=0)=true from decide_eq_true h2);clear h2;by_cases h3:base≤9223372036854775808
      ·have h3':(base:Int)≤9223372036854775808:=(by omega);go_wp2
       go_ret;exact⟨zac (by rw[HM.out,H0.out,H1.out,H2.out,Bool.true_and,Bool.true_and,Bool.true_and,decide_eq_decide];omega),(Kt.refl _ w).alloc _⟩
      ·have h3':¬(base:Int)≤9223372036854775808:=(by omega);have H3:=hid (show decide (base+lr≤9223372036854775808)=false from decide_eq_false (by omega));go_wp2
       go_ret;exact⟨zac (by rw[HM.out,H3.out];simp),(Kt.refl _ w).alloc _⟩
     ·have hm:((base:Int)%(R:Int) != 0)=true:=(by rw[bne_iff_ne];omega);have H2:=hid (show decide (base%R=0)=false from decide_eq_false h2);clear h2 hlr2;go_wp2
      go_ret;exact⟨zac (by rw[HM.out,H2.out];simp),(Kt.refl _ w).alloc _⟩
   ·have H1:=hid (show decide (lp≤1024)=false from decide_eq_false h1);have h1':(1024:Int)<lp:=(by omega);clear h1 hlr2;go_wp2
    go_ret;exact⟨zac (by rw[HM.out,H1.out];simp),(Kt.refl _ w).alloc _⟩
theorem May_any(base:Nat)(hb64:base<18446744073709551616)(lim ord:Int)(hl1 : -9223372036854775808≤lim)(hl2:lim≤9223372036854775807)(ho1 : -9223372036854775808≤ord)(ho2:ord≤9223372036854775807)(w:World):
  Calls Tryz.prog 31 #[.agg #[.int .u64 (base:Int),.int .i64 lim,.int .i64 ord]] w fun e w'=>e=.returned (.bool (mayB base lim ord))∧Kt nO w w':=by
 by_cases h:Bounds lim ord
 ·have h':=h;unfold Bounds at h';obtain⟨l,rfl⟩:=Int.eq_ofNat_of_zero_le (by omega : 0≤lim);obtain⟨k,rfl⟩:=Int.eq_ofNat_of_zero_le h'.1;exact zm3 base hb64 l k (by omega) (by omega) (by omega) w
 ·have e:mayB base lim ord=false:=by unfold mayB;rw[decide_eq_false h,Bool.false_and,Bool.false_and]
  rw[e];exact zmg base lim ord hl1 hl2 ho1 ho2 h w
end Go.Proofs.YtgjdmkfpmokkaaaGreatDoor.M
namespace Go.Proofs.YtgjdmkfpmokkaaaGreatDoor
open Go.RowKit
set_option linter.unusedVariables false
theorem zjI(x:Bx)(t:Bt)(p:Nat){w:World}(h:BdAt w x t):zbF x t p≤1024:=by
 unfold zbF;have:=h.mp.n1;split
 ·next c=>have:=c.2;omega
 ·omega
theorem zlh(x:Bx)(t:Bt)(p:Nat)(k:Int)(hp:p<18446744073709551616)(hl:zb4 x t p k=false)(w:World)(h:BdAt w x t):
  Calls Tryz.prog 120 #[.pointer (some ⟨x.b,0,none⟩),.int .u64 (p:Int),.int .i64 k] w fun e w'=>e=.returned (.int .i64 1)∧Kt nO w w':=by
 have LV:=hid (zf9 x t p k hp w h);rw[hl] at LV;clear h hl;go_enter Tryz.func120,Tryz.ntmps120;go_wp2_with fail;refine LV.out.mono ?_;rintro e w1 ⟨rfl,hk⟩;have K:=hid hk;clear hk;go_wp2_with fail;go_ret;exact⟨rfl,K.out⟩
theorem zf0(x:Bx)(t:Bt)(p k:Nat)(hp:p<18446744073709551616)(hl:zb4 x t p (k:Int)=true)(w:World)(h:BdAt w x t):
  Calls Tryz.prog 120 #[.pointer (some ⟨x.b,0,none⟩),.int .u64 (p:Int),.int .i64 (k:Int)] w fun e w'=>∃ tr pr kr,(tr,pr,kr)=zbB x (x.o-k) t (zbF x t p) k∧e=.returned (.int .i64 (za1 x tr pr kr:Int))∧BdAt w' x (zaw x tr pr kr)∧Kt (bown x) w w':=by
 have LV:=hid (zf9 x t p k hp w h);have hk:k≤x.o:=by
  unfold zb4 at hl;simp only[Bool.and_eq_true] at hl;have:=hl.1.2;simp only[inR,decide_eq_true_eq] at this;omega
 rw[hl] at LV;have hpi:=zjI x t p h;have H:=hid h;clear h hl;obtain⟨q,hq⟩:=xe (zbF x t p);rw[←hq] at LV hpi ⊢;clear hq;go_enter Tryz.func120,Tryz.ntmps120;go_wp2_with fail;refine LV.out.mono ?_;rintro e w1 ⟨rfl,hk1⟩;have K:=hid hk1;have H1:=hid (H.out.keep hk1);clear hk1 LV;go_wp2_with fail;refine(zjN x t q k hpi hk _ H1.out).mono ?_;rintro e w2 ⟨tr,pr,kr,he,rfl,hB,hK⟩;have D:=hid (show(tr,pr,kr)=zbB x (x.o-k) t q k∧BdAt w2 x (zaw x tr pr kr)∧Kt (bown x) w w2 from⟨he,hB,bwT (zar K.out) hK⟩);clear he hB hK;go_wp2_with fail;go_ret;exact⟨tr,pr,kr,D.out.1,rfl,D.out.2⟩
def zbx(x:Bx)(t:Bt):Prop:=x.n≠0∧t.m.n*4096=x.n
def topP(x:Bx):Nat:=x.n/4096-2 ^ x.o
theorem regs{w x t}(h:BdAt w x t):∃ k,x.n=k*(4096*2 ^ x.o)∧k≤64∧x.n/x.R=k:=by
 obtain⟨k,hk,hl⟩:=h.sp.kn;have h2:=h.sp.cfg.l2;have hp : 0<4096*2 ^ x.o:=Nat.mul_pos (by decide) (Nat.pow_pos (by decide));rw[h.hR] at hk;exact⟨k,hk,by omega,by rw[h.hR,hk,Nat.mul_div_cancel _ hp]⟩
theorem zmr(x:Bx)(t:Bt)(hn:¬zbx x t)(w:World)(h:BdAt w x t):
  Calls Tryz.prog 152 #[.pointer (some ⟨x.b,0,none⟩)] w fun e w'=>e=.returned (.tuple #[.int .i64 0,.bool false])∧Kt nO w w':=by
 obtain⟨k,hk,hk64,hkr⟩:=regs h;have ho:=h.o8;have hn1:=h.mp.n1;have c1:=h.b1;have H:=hid h;obtain⟨z,hz⟩:=xe (2 ^ x.o);have hzi:(2:Int) ^ x.o=(z:Int):=by rw[hz];simp
 have hz1 : 1≤z:=by rw[hz];exact Nat.pow_pos (by decide)
 have hz2:z≤256:=by rw[hz];exact Nat.pow_le_pow_right (n:=2) (by decide) ho
 obtain⟨kz,hkz⟩:=xe (k*z);have hkzl:kz≤16384:=by rw[hkz];exact Nat.mul_le_mul hk64 hz2
 have hmul:(k:Int)*(z:Int)=(kz:Int):=by rw[hkz];simp
 have hnx:x.n=kz*4096:=by rw[hk,hkz,hz,Nat.mul_comm 4096,Nat.mul_assoc]
 have hcase:k=0∨(k≠0∧t.m.n≠kz):=by
  by_cases e:k=0
  ·exact .inl e
  ·refine .inr ⟨e,fun e2=>hn ⟨?_,by rw[e2,hnx]⟩⟩;intro e3;have : 0<k*z:=Nat.mul_pos (by omega) (by omega);omega
 have RG:=hid (M.regions_any x.s x.a x.base x.R x.lim x.n t.f w h.sp);rw[hkr] at RG;clear h hz hkz hnx hn hk;rcases hcase with h0|⟨h0,h1⟩
 ·subst h0;go_enter Tryz.func152,Tryz.ntmps152;go_wp2_with fail;refine RG.out.mono ?_;rintro e w1 ⟨rfl,d,hw1⟩;have K:=hid (show Kt nO w w1 by rw[hw1];exact(Kt.refl nO w).drewN d);clear hw1;go_wp2_with fail;exact⟨rfl,.tuple #[.int .i64 0,.bool false],by simp[results,Tryz.results152,go_sem],rfl,K.out⟩
 ·have h0i:¬(k:Int)=0:=by omega
  have h1i:¬(t.m.n:Int)=(kz:Int):=by omega
  have hb0:((k:Int) == 0)=false:=beq_eq_false_iff_ne.2 h0i;have hb1:((t.m.n:Int) != (kz:Int))=true:=by simpa using h1i
  go_enter Tryz.func152,Tryz.ntmps152;go_wp2_with fail;refine RG.out.mono ?_;rintro e w1 ⟨rfl,d,hw1⟩;have K:=hid (show Kt nO w w1 by rw[hw1];exact(Kt.refl nO w).drewN d);have H1:=hid (H.out.keep K.out);have c2:=H1.out.b2;clear hw1 c1;go_wp2_with fail;refine(zce x.m x.B t.m _ H1.out.mp).mono ?_;rintro e w2 ⟨rfl,hw2⟩;rw[hw2];clear hw2;go_wp2_with fail;refine(zai x t _ H1.out).mono ?_;rintro e w2 ⟨rfl,hw2⟩;rw[hw2];clear hw2;go_wp2_with fail;exact⟨rfl,.tuple #[.int .i64 0,.bool false],by simp[results,Tryz.results152,go_sem],rfl,K.out⟩
theorem zfg(x:Bx)(t:Bt)(hn:zbx x t)(w:World)(h:BdAt w x t):
  Calls Tryz.prog 152 #[.pointer (some ⟨x.b,0,none⟩)] w fun e w'=>e=.returned (.tuple #[.int .i64 (topP x:Int),.bool true])∧Kt nO w w':=by
 obtain⟨k,hk,hk64,hkr⟩:=regs h;have ho:=h.o8;have hn1:=h.mp.n1;have c1:=h.b1;have H:=hid h;obtain⟨z,hz⟩:=xe (2 ^ x.o);have hzi:(2:Int) ^ x.o=(z:Int):=by rw[hz];simp
 have hz1 : 1≤z:=by rw[hz];exact Nat.pow_pos (by decide)
 have hz2:z≤256:=by rw[hz];exact Nat.pow_le_pow_right (n:=2) (by decide) ho
 have hnx:x.n=k*z*4096:=by rw[hk,hz,Nat.mul_comm 4096,Nat.mul_assoc]
 have hk0:k≠0:=fun e=>hn.1 (by rw[hk,e];simp)
 obtain⟨j,rfl⟩:∃ j,k=j+1:=⟨k-1,by omega⟩;obtain⟨kz,hkz⟩:=xe ((j+1)*z);obtain⟨jz,hjz⟩:=xe (j*z);have hsum:kz=jz+z:=by rw[hkz,hjz,Nat.add_mul,Nat.one_mul]
 have hkzl:kz≤16384:=by rw[hkz];exact Nat.mul_le_mul hk64 hz2
 have hmul:((j:Int)+1)*(z:Int)=(kz:Int):=by rw[hkz];simp
 have hmulj:(j:Int)*(z:Int)=(jz:Int):=by rw[hjz];simp
 rw[←hkz] at hnx;have hmn:(t.m.n:Int)=(kz:Int):=by have:=hn.2;omega
 have HJW:=hid (show wrap64 (jz:Int)=(jz:Int)by simp only[wrap64];omega);have hb0:(((j:Int)+1) == 0)=false:=beq_eq_false_iff_ne.2 (by omega);have hb1:((t.m.n:Int) != (kz:Int))=false:=by simp[hmn]
 rw[show topP x=jz by unfold topP;rw[←hz];omega];have RG:=hid (M.regions_any x.s x.a x.base x.R x.lim x.n t.f w h.sp);rw[hkr] at RG;clear h hz hkz hjz hnx hn hk hk0 hsum;go_enter Tryz.func152,Tryz.ntmps152;go_wp2_with fail;refine RG.out.mono ?_;rintro e w1 ⟨rfl,d,hw1⟩;have K:=hid (show Kt nO w w1 by rw[hw1];exact(Kt.refl nO w).drewN d);have H1:=hid (H.out.keep K.out);have c2:=H1.out.b2;clear hw1 c1;go_wp2_with fail;refine(zce x.m x.B t.m _ H1.out.mp).mono ?_;rintro e w2 ⟨rfl,hw2⟩;rw[hw2];clear hw2;go_wp2_with fail;refine(zai x t _ H1.out).mono ?_;rintro e w2 ⟨rfl,hw2⟩;rw[hw2];clear hw2;go_wp2_with fail;refine(zai x t _ H1.out).mono ?_;rintro e w2 ⟨rfl,hw2⟩;rw[hw2];clear hw2;go_wp2_with fail;exact⟨rfl,.tuple #[.int .i64 (jz:Int),.bool true],by simp[results,Tryz.results152,go_sem];exact HJW.out,rfl,K.out⟩
theorem zfh{w x t}(h:BdAt w x t)(hn:zbx x t):topP x≤1024∧ad x (topP x)<18446744073709551616:=by
 have h1:=h.mp.n1;have h2:=hn.2;have h3:topP x≤1024:=by unfold topP;exact Nat.le_trans (Nat.sub_le _ _) (by omega)
 have h4:=h.end63;exact⟨h3,by unfold ad;omega⟩
theorem zf1(x:Bx)(t:Bt)(hn:zbx x t)(hl:zb4 x t (ad x (topP x)) (x.o:Int)=true)(he:za1 x t (zbF x t (ad x (topP x))) x.o=0)(w:World)(h:BdAt w x t):
  Calls Tryz.prog 117 #[.pointer (some ⟨x.b,0,none⟩)] w fun e w'=>e=.returned (.int .i64 0)∧BdAt w' x (zaw x t (zbF x t (ad x (topP x))) x.o)∧Kt (bown x) w w':=by
 have H:=hid h;have TP:=hid (zfg x t hn w h);obtain⟨h1,h2⟩:=zfh h hn;obtain⟨p,hp⟩:=xe (topP x);rw[←hp] at TP h1 h2 hl he ⊢;have AD:=hid (show ∀ W,BdAt W x t→Calls Tryz.prog 153 #[.pointer (some ⟨x.b,0,none⟩),.int .i64 (p:Int)] W fun e w'=>e=.returned (.int .u64 ((ad x p:Nat):Int))∧w'=W from fun W hW=>za9 x t p (by omega) W hW);have GV:=hid (show ∀ W,BdAt W x t→Calls Tryz.prog 120 #[.pointer (some ⟨x.b,0,none⟩),.int .u64 ((ad x p:Nat):Int),.int .i64 (x.o:Int)] W fun e w'=>e=.returned (.int .i64 0)∧BdAt w' x (zaw x t (zbF x t (ad x p)) x.o)∧Kt (bown x) W w' from fun W hW=>(zf0 x t (ad x p) x.o h2 hl W hW).mono (by
  rintro e w' ⟨tr,pr,kr,hj,rfl,hB,hK⟩;rw[Nat.sub_self,zbB] at hj
  cases hj
  rw[he];exact⟨rfl,hB,hK⟩))
 obtain⟨a,ha⟩:=xe (ad x p);rw[←ha] at AD GV ⊢;clear h hn hl hp ha h2 he;go_enter Tryz.func117,Tryz.ntmps117;go_wp2_with fail;refine TP.out.mono ?_;rintro e w1 ⟨rfl,hk⟩;have K:=hid hk;have H1:=hid (H.out.keep hk);clear hk;go_wp2_with fail;refine(AD.out _ H1.out).mono ?_;rintro e w2 ⟨rfl,hw2⟩;rw[hw2];clear hw2;go_wp2_with fail;refine(zai x t _ H1.out).mono ?_;rintro e w2 ⟨rfl,hw2⟩;rw[hw2];clear hw2;go_wp2_with fail;refine(GV.out _ H1.out).mono ?_;rintro e w3 ⟨rfl,hB,hK⟩;have D:=hid (And.intro hB (bwT (zar K.out) hK));clear hB hK;go_wp2_with fail;go_ret;exact⟨rfl,D.out⟩
def freeL(x:Bx)(t:Bt)(k:Nat):List Nat:=M.walkR x.base x.n t.f (x.n/16) 0 (t.hd k)
theorem zf2(x:Bx)(t:Bt)(k:Nat)(hk:k≤x.o)(w:World)(h:BdAt w x t):
  Calls Tryz.prog 69 #[.pointer (some ⟨x.b,0,none⟩),.int .i64 (k:Int)] w fun e w'=>∃ v,e=.returned v∧M.Lst w' v (freeL x t k)∧Kt nO w w'∧∀ r,v.ownBlock=some r→w.heap.size≤r:=by
 have HS:=hid (zd9 x t k hk w h);have c3:=h.b3;have cl:=h.lc k hk;have ho:=h.o8;have H:=hid h;have hki:(k:Int)<((x.o+1:Nat):Int):=by omega
 clear h;go_enter Tryz.func69,Tryz.ntmps69;go_wp2_with fail;refine HS.out.mono ?_;rintro e w1 ⟨rfl,hw1⟩;rw[hw1];clear hw1;go_wp2_with fail;refine(M.All_any (x.L k) _).mono ?_;rintro e w1 ⟨rfl,hw1⟩;have K1:=hid (show Kt nO w w1 by rw[hw1];exact(Kt.refl nO w).alloc _);have H1:=hid (H.out.keep K1.out);have P1:=hid (show M.PtrB w1 w.heap.size (x.L k)by rw[hw1];exact nH _ _);clear hw1 c3 cl HS;go_wp2_with fail;refine(M.Collect_any w.heap.size (x.L k) x.s x.a x.base x.R x.lim x.n t.f (t.hd k) x.o ho H1.out.hR _ (H1.out.ls' k hk) P1.out).mono ?_;rintro e w2 ⟨v,rfl,hL,hK,hN⟩;have D:=hid (show M.Lst w2 v (freeL x t k)∧Kt nO w w2∧∀ r,v.ownBlock=some r→w.heap.size≤r from⟨hL,nT K1.out (toK hK),fun r hr=>Nat.le_trans K1.out.size (hN r hr)⟩);clear hL hK hN;go_wp2_with fail;go_ret;exact⟨v,rfl,D.out⟩
theorem zhR(v:Value)(xs:List Nat)(a:Nat)(ha:a<18446744073709551616)(hl:xs.length≤4194305)(w:World)(hv:M.Wds w v xs):
  Calls Tryz.prog 184 #[v,.int .u64 (a:Int)] w fun e w'=>∃ i:Int,e=.returned (.int .i64 i)∧(0≤i↔a∈xs)∧w'=w:=by
 obtain⟨hxl,ao,ac,rfl,hA,hac⟩:=hv;have HA:=hid hA;have HAC:=hid hac;have HXL:=hid hxl;obtain⟨m,hm⟩:=xe (xs.length);rw[←hm] at hl ⊢;have HM:=hid hm;clear hA hac hxl hm;go_enter Tryz.func184,Tryz.ntmps184;go_wp2_with fail;go_loopw [8] (fun i W=>Hid (W=w)∧∃ k:Nat,k≤m∧i=.int .i64 k∧Hid (∀ j,j<k→xs.getD j 0≠a)) (fun i _=>m-(intOf i).toNat)
 case atStart=>exact⟨rfl,0,by omega,rfl,fun j hj=>by omega⟩
 case round=>
  obtain⟨hW,k,hk,rfl,hz⟩:=hrel;have hW:=hW.out;subst hW;by_cases hlt:k<m
  ·have hki:(k:Int)<(m:Int):=(by omega);have hne:xs≠[]:=fun e=>by have:=HM.out;rw[e] at this;simp at this;omega
   obtain⟨g,rfl⟩:=HA.out hne;rw[show M.adr (some g)=some ⟨g,0,none⟩from rfl];have hca:=(HAC.out g rfl).2.2 k (by have:=HM.out;omega);have hmem:xs.getD k 0∈xs:=(by have:=HM.out;rw[List.getD_eq_getElem?_getD,List.getElem?_eq_getElem (by omega)];simp);have HMEM:=hid hmem;obtain⟨y,hy⟩:=xe (xs.getD k 0);rw[←hy] at hca;replace hca:wr.cell? ⟨g,k,none⟩=some (.int .u64 (y:Int)):=hca;have HY:=hid hy;clear hy hmem;by_cases hay:a=y
   ·have hayi:(a:Int)=(y:Int):=(by omega);have hayb:((a:Int) == (y:Int))=true:=(by simp[hayi]);have HIN:=hid (show a∈xs by rw[hay,HY.out];exact HMEM.out);clear hay hayi;go_wp2_with fail;go_ret;exact⟨(k:Int),rfl,⟨fun _=>HIN.out,fun _=>by omega⟩,rfl⟩
   ·have hayi:¬(a:Int)=(y:Int):=(by omega);have hayb:((a:Int) == (y:Int))=false:=beq_eq_false_iff_ne.2 hayi;go_wp2_with fail;exact⟨⟨trivial,k+1,by omega,by simp,fun j hj=>by
     by_cases e:j=k
     ·subst e;rw[←HY.out];exact fun e=>hay e.symm
     ·exact hz.out j (by omega)⟩,by simp[intOf];omega⟩
  ·have hki:¬(k:Int)<(m:Int):=(by omega);have HN:=hid (show ¬a∈xs from fun e=>by
    obtain⟨j,hj,e2⟩:=List.mem_iff_getElem.1 e;have hm:=HM.out;exact hz.out j (by omega) (by rw[List.getD_eq_getElem?_getD,List.getElem?_eq_getElem hj];exact e2))
   go_wp2_with fail;go_ret;exact⟨-1,rfl,⟨fun e=>by omega,fun e=>absurd e HN.out⟩,rfl⟩
theorem zeF(v:Value)(xs:List Nat)(a:Nat)(ha:a<18446744073709551616)(hl:xs.length≤4194305)(w:World)(hv:M.Wds w v xs):
  Calls Tryz.prog 179 #[v,.int .u64 (a:Int)] w fun e w'=>e=.returned (.bool (decide (a∈xs)))∧w'=w:=by
 have IX:=hid (zhR v xs a ha hl w hv);clear hv;go_enter Tryz.func179,Tryz.ntmps179;go_wp2_with fail;refine IX.out.mono ?_;rintro e w1 ⟨i,rfl,hi,rfl⟩;have HI:=hid hi;clear hi IX;go_wp2_with fail;go_ret;exact⟨zac (decide_eq_decide.2 HI.out),rfl⟩
theorem zeG(base n:Nat)(f:Nat→Nat):∀ k q p,(M.walkR base n f k q p).length≤k
 | 0,_,_=>Nat.le_refl _
 | k+1,q,p=>by
  unfold M.walkR;split
  ·have:=zeG base n f k p (M.nx base f p);simp;omega
  ·simp
theorem zhS{w x t}(h:BdAt w x t)(k:Nat):(freeL x t k).length≤4194305:=by
 have h1:=zeG x.base x.n t.f (x.n/16) 0 (t.hd k);have h2:x.n≤4194304:=Nat.le_trans h.sp.nle h.sp.cfg.lr;unfold freeL;omega
def zeH(x:Bx)(t:Bt)(p k:Nat):Bool:=isB t.m 0 (p:Int) (k:Int) && decide (ad x p∈freeL x t k)
theorem zf3(x:Bx)(t:Bt)(p k:Nat)(hp:p≤4000)(hk:k≤x.o)(w:World)(h:BdAt w x t):
  Calls Tryz.prog 162 #[.pointer (some ⟨x.b,0,none⟩),.int .i64 (p:Int),.int .i64 (k:Int)] w fun e w'=>e=.returned (.bool (zeH x t p k))∧Kt nO w w':=by
 have H:=hid h;have hfl:=zhS h k;have IS:=hid (zkU x t 0 (p:Int) (k:Int) w h);have hal:ad x p<18446744073709551616:=by have:=h.end63;unfold ad;omega
 have AD:=hid (show ∀ W,BdAt W x t→Calls Tryz.prog 153 #[.pointer (some ⟨x.b,0,none⟩),.int .i64 (p:Int)] W fun e w'=>e=.returned (.int .u64 ((ad x p:Nat):Int))∧w'=W from fun W hW=>za9 x t p hp W hW);obtain⟨b,hb⟩:=xe (isB t.m 0 (p:Int) (k:Int));obtain⟨a,ha⟩:=xe (ad x p);rw[←ha] at hal AD;rw[←hb] at IS;rw[show zeH x t p k=(b && decide (a∈freeL x t k))by unfold zeH;rw[←hb,←ha]];clear h hb ha
 cases b with
 | false=>
  go_enter Tryz.func162,Tryz.ntmps162;go_wp2_with fail;refine IS.out.mono ?_;rintro e w1 ⟨rfl,hk1⟩;have K:=hid hk1;clear hk1;go_wp2_with fail;go_ret;exact⟨zac (by simp),K.out⟩
 | true=>
  go_enter Tryz.func162,Tryz.ntmps162;go_wp2_with fail;refine IS.out.mono ?_;rintro e w1 ⟨rfl,hk1⟩;have K:=hid hk1;have H1:=hid (H.out.keep hk1);clear hk1;go_wp2_with fail;refine(zf2 x t k hk _ H1.out).mono ?_;rintro e w2 ⟨v,rfl,hL,hK,hN⟩;have K2:=hid (nT K.out hK);have H2:=hid (H1.out.keep hK);have L2:=hid hL;clear hL hK hN;go_wp2_with fail;refine(AD.out _ H2.out).mono ?_;rintro e w3 ⟨rfl,hw3⟩;rw[hw3];clear hw3;go_wp2_with fail;refine(zeF v (freeL x t k) a hal hfl _ L2.out.wds).mono ?_;rintro e w3 ⟨rfl,hw3⟩;rw[hw3];clear hw3;go_wp2_with fail;go_ret;exact⟨zac (by simp),K2.out⟩
theorem zli(x:Bx)(t:Bt)(hn:¬zbx x t∨(zbx x t∧zeH x t (topP x) x.o=false))(w:World)(h:BdAt w x t):
  Calls Tryz.prog 131 #[.pointer (some ⟨x.b,0,none⟩)] w fun e w'=>e=.returned (.int .i64 9)∧Kt nO w w':=by
 have H:=hid h;rcases hn with hn|⟨hn,hl⟩
 ·have TP:=hid (zmr x t hn w h);clear h hn;go_enter Tryz.func131,Tryz.ntmps131;go_wp2_with fail;refine TP.out.mono ?_;rintro e w1 ⟨rfl,hk⟩;have K:=hid hk;clear hk;go_wp2_with fail;go_ret;exact⟨rfl,K.out⟩
 ·have TP:=hid (zfg x t hn w h);obtain⟨h1,h2⟩:=zfh h hn;obtain⟨p,hp⟩:=xe (topP x);rw[←hp] at TP h1 h2 hl;have FR:=hid (fun W (hW:BdAt W x t)=>zf3 x t p x.o (by omega) (Nat.le_refl _) W hW);rw[hl] at FR;clear h hn hl hp h2;go_enter Tryz.func131,Tryz.ntmps131;go_wp2_with fail;refine TP.out.mono ?_;rintro e w1 ⟨rfl,hk⟩;have K:=hid hk;have H1:=hid (H.out.keep hk);clear hk;go_wp2_with fail;refine(zai x t _ H1.out).mono ?_;rintro e w2 ⟨rfl,hw2⟩;rw[hw2];clear hw2;go_wp2_with fail;refine(FR.out _ H1.out).mono ?_;rintro e w3 ⟨rfl,hk⟩;have K3:=hid (nT K.out hk);clear hk;go_wp2_with fail;go_ret;exact⟨rfl,K3.out⟩
def zlj(x:Bx)(t:Bt):Bt:=runT (remT x t (topP x) x.o) (topP x) x.o 2
theorem zjJ(x:Bx)(t:Bt)(hn:zbx x t)(hl:zeH x t (topP x) x.o=true)(hr:remE x t (topP x) x.o=0)(w:World)(h:BdAt w x t):
  Calls Tryz.prog 131 #[.pointer (some ⟨x.b,0,none⟩)] w fun e w'=>e=.returned (.int .i64 0)∧BdAt w' x (zlj x t)∧Kt (bown x) w w':=by
 have H:=hid h;have ho:=h.o8;have TP:=hid (zfg x t hn w h);obtain⟨h1,h2⟩:=zfh h hn;rw[show zlj x t=runT (remT x t (topP x) x.o) (topP x) x.o 2 from rfl];obtain⟨p,hp⟩:=xe (topP x);rw[←hp] at TP h1 h2 hl hr ⊢;have FR:=hid (fun W (hW:BdAt W x t)=>zf3 x t p x.o (by omega) (Nat.le_refl _) W hW);rw[hl] at FR;have ADR:=hid (show ∀ W,BdAt W x t→Calls Tryz.prog 153 #[.pointer (some ⟨x.b,0,none⟩),.int .i64 (p:Int)] W fun e w'=>e=.returned (.int .u64 ((ad x p:Nat):Int))∧w'=W from fun W hW=>za9 x t p (by omega) W hW);have REM:=hid (fun W (hW:BdAt W x t)=>zgb x t p x.o (by omega) (Nat.le_refl _) W hW);rw[hr] at REM;obtain⟨a,ha⟩:=xe (ad x p);rw[←ha] at ADR REM;have hki:(x.o:Int)<((x.o+1:Nat):Int):=by omega
 have hki2:(x.o:Int)<(x.o:Int)+1:=by omega
 have hk0:(0:Int)≤(x.o:Int):=by omega
 have hki3:x.o<x.o+1:=by omega
 have hkw:IntKind.i64.wrap (x.o:Int)=(x.o:Int):=by rw[IntKind.wrap_i64];omega
 clear h hn hl hp h2 ha hr;go_enter Tryz.func131,Tryz.ntmps131;go_wp2_with fail;refine TP.out.mono ?_;rintro e w1 ⟨rfl,hk⟩;have K:=hid hk;have H1:=hid (H.out.keep hk);clear hk;go_wp2_with fail;refine(zai x t _ H1.out).mono ?_;rintro e w2 ⟨rfl,hw2⟩;rw[hw2];clear hw2;go_wp2_with fail;refine(FR.out _ H1.out).mono ?_;rintro e w3 ⟨rfl,hk⟩;have K3:=hid (nT K.out hk);have H3:=hid (H1.out.keep hk);clear hk FR TP;have H3d:=hid (H3.out.keep (Kt.refl nO w3).drew);have GRd:=hid (zai x t w3.drew H3d.out);have c3d:w3.drew.cell? ⟨x.b,3,none⟩=some (.slice (some ⟨x.l,0,none⟩) (x.o+1) x.c):=H3d.out.b3;have cld:=H3d.out.lc x.o (Nat.le_refl _);have K3d:=hid (nT K3.out (Kt.refl nO w3).drew);go_wp2_with fail;go_region_held3 (fun w'=>w'.cell? ⟨x.b,3,none⟩=some (.slice (some ⟨x.l,0,none⟩) (x.o+1) x.c)∧w'.cell? ⟨x.l,x.o,none⟩=some (.pointer (some ⟨x.L x.o,0,none⟩))) (first|with_reducible exact⟨c3d,cld⟩|with_reducible exact⟨c34,cl4⟩) (first|(go_at_call 154;refine GRd.out.mono ?_;rintro e w4 ⟨rfl,hw4⟩;rw[hw4];clear hw4)|(go_at_call 153;refine(ADR.out _ H3d.out).mono ?_;rintro e w4 ⟨rfl,hw4⟩;rw[hw4];clear hw4)|(go_at_call 148;refine(REM.out _ H3d.out).mono ?_;rintro e w4 ⟨rfl,hB,hK⟩;have H4:=hid hB;have K4:=hid (bwT (zar K3d.out) hK);have c34:=H4.out.b3;have cl4:=H4.out.lc x.o (Nat.le_refl _);clear hB hK))
 all_goals
  clear c3d cld c34 cl4 ADR REM GRd H3d H3 H1;have H4d:=hid (H4.out.keep (Kt.refl nO w4).drew);have GR4:=hid (zai x _ w4.drew H4d.out);have c24:=H4d.out.b2;have K4d:=hid (bwT K4.out (zar (Kt.refl nO w4).drew));go_wp2_with fail;go_region_held3 (fun w'=>w'.cell? ⟨x.b,2,none⟩=some (.pointer (some ⟨x.m,0,none⟩))) (first|with_reducible exact c24|with_reducible exact c25) (first|(go_at_call 154;refine GR4.out.mono ?_;rintro e w5 ⟨rfl,hw5⟩;rw[hw5];clear hw5)|(go_at_call 97;refine(zcd x _ p x.o 2 _ H4d.out).mono ?_;rintro e w5 ⟨rfl,hB,hK⟩;have H5:=hid hB;have K5:=hid (bwT K4d.out hK);have c25:=H5.out.b2;clear hB hK))
  all_goals
   go_wp2_with fail;go_ret;exact⟨rfl,H5.out,K5.out⟩
end Go.Proofs.YtgjdmkfpmokkaaaGreatDoor
