import Derived.Test.YtbgbfpklgfpepaaGreatDoorZb
set_option maxRecDepth 1000000
set_option maxHeartbeats 80000000
namespace Go.Proofs.YtbgbfpklgfpepaaGreatDoor.M
open Tryz
open Go.RowKit Go.Shelf
set_option linter.unusedVariables false
attribute [local go_sem] Oper.semAt_some
theorem zeg(kk c b ao bS R lim n f hd)(o:Nat)(ho:o<=8)(hR:R=4096*2 ^ o)(w:World)(h:LS w c b ao bS R lim n f hd)(hpk:PtrB w kk c):
  Calls prog 231 #[.slice none 0 0,.func (.func 232) #[] #[.pointer (some ⟨kk,0,none⟩)]] w fun e w'=>∃ v,e=.returned v/\Lst w' v (walkR bS n f (n/16) 0 hd)/\Kt nO w w'/\∀ r,v.ownBlock=some r->w.heap.size<=r:=by
 have H:=aA h;have HPKW:=aA hpk;have hkk:=hpk.lt;have hn:n<=4194304:=Nat.le_trans h.s.nle h.s.cfg.lr;have HRR:=aA hR;clear h hR hpk;have hmf:=jM;have hfe:=zA;refine IL func231 rfl ?_;simp only[ntmps231,List.size_toArray,List.length_cons,List.length_nil,Nat.reduceAdd,Nat.reduceSub,Array.replicate_succ,Array.replicate_zero,List.push_toArray,List.append_toArray,List.nil_append,List.cons_append];go_wp2_with fail;obtain⟨w1,hw1⟩:=xe (w.alloc (.cells #[.slice none 0 0] 59));rw[<-hw1];have KW:=aA (show Kt nO w w1 by rw[hw1];exact(Kt.refl nO w).alloc _);have F1:=aA (show fP w1 w.heap.size (.slice none 0 0)by rw[hw1];exact nH _ _);have F2:=aA (HPKW.out.keep KW.out);have HZ1:=aA (show w1.heap.size=w.heap.size+1 by rw[hw1];simp);have HNL:=aA hn;clear hw1 hn;have HKK:=aA hkk;refine EY (gf:=232) (lb:=#[.pointer (some ⟨kk,0,none⟩)]) rfl (enters_of func232 (by kernel_rfl) rfl) ?_;intro fn rc hrc;have HRC:=aA hrc;clear hrc;have hz1:=HZ1.out;rw[hz1];obtain⟨W3,hW3⟩:=xe ((w1.alloc (.deferred (some []))).alloc (.loop (rc .ready none)));have KW3:=aA (show Kt nO w1 W3 by rw[hW3];exact((Kt.refl nO w1).alloc _).alloc _);have hz3:W3.heap.size=w.heap.size+3:=by rw[hW3];simp;omega
 have G1:=aA (F1.out.kept KW3.out (fun x=>x));have G2:=aA (F2.out.keep KW3.out);have G3:=aA (show gH W3 (w.heap.size+2) (rc .ready none)by
  rw[hW3];have:=rZ w1 (.deferred (some [])) (.loop (rc .ready none));rw[hz1] at this;exact this)
 have G4:=aA (show kO W3 (w.heap.size+1)by
  rw[hW3];have:=(Below.heap_alloc (w1.alloc (.deferred (some []))) (.loop (rc .ready none)) w1.heap.size (by simp)).trans (nH w1 _);rw[hz1] at this;exact this)
 have K3:=aA (nT KW.out KW3.out);rw[<-hW3];have HZ3:=aA hz3;clear hW3;obtain⟨N,hN⟩:=xe (n/16);have hNl:N<=262144:=by have:=HNL.out;omega
 have HN:=aA hN;clear hN;refine(VW kk (w.heap.size+2) c b ao bS R lim n o ho HRR.out (w.heap.size+3)
  (Taking c b ao bS R lim n f hd kk w.heap.size (w.heap.size+1) (w.heap.size+2) w rc N) (fun _ _=>False) ?hK1 ?hK2 (fun _ _ _ _ h=>h.elim) ?hY hd f
  (fun x=>x<w.heap.size\/x=kk\/x=w.heap.size\/x=w.heap.size+1\/x=w.heap.size+2\/Value.ownBlock (.slice none 0 0)=some x) W3 (by omega) (H.out.keep K3.out) ?h0).mono ?hend
 case h0=>
  exact⟨rfl,H.out.keep K3.out,G2.out,K3.out,H.out.l.h64,by decide,[],.slice none 0 0,rfl,Nat.zero_le _,rfl,G1.out,Lst.nil _,G3.out,G4.out,fun r e=>(by cases e),rfl⟩
 case hK1=>
  rintro i q p f' S W ⟨hf,hls,hpk,hk0,hp,hq,xs,v,hxi,hiN,hwk,hob,hlst,hrec,hdef,hrow,rfl⟩;refine⟨hp,hq,⟨hd,hls⟩,?_,hpk⟩;have:=hk0.size;have:=hpk.lt;have:=hob.lt;have:=hrec.lt;have:=hdef.lt;rintro x (h|h|h|h|h|h)
  all_goals first|omega|exact hlst.wds.lt h
 case hK2=>
  rintro i q p f' S T W W' ⟨hf,hls,hpk,hk0,hp,hq,xs,v,hxi,hiN,hwk,hob,hlst,hrec,hdef,hrow,rfl⟩ hk hT;have hnT:∀ x,(x<w.heap.size\/x=kk\/x=w.heap.size\/x=w.heap.size+1\/x=w.heap.size+2\/v.ownBlock=some x)->¬T x:=fun x hx ht=>(hT x ht).2 hx
  exact⟨hf,hls.kept hk (fun x hx=>hnT x (.inl (H.out.lt x hx))),hpk.kept hk (hnT _ (by simp)),hk0.trans hk (fun _ _ x=>x) (fun x hx ht=>hnT x (.inl hx) ht),hp,hq,
   xs,v,hxi,hiN,hwk,hob.kept hk (hnT _ (by simp)),hlst.kept hk (fun r hr=>hnT r (by simp[hr])),hrec.kept hk (hnT _ (by simp)),hdef.kept hk (hnT _ (by simp)),hrow,rfl⟩
 case hend=>
  rintro e W' ⟨hv,⟨i,q,p,f',S,⟨hf,hls,hpk,hk0,hp,hq,xs,v,hxi,hiN,hwk,hob,hlst,hrec,hdef,hrow,hSS⟩,hi,hor⟩|⟨_,h⟩⟩
  ·refine⟨hv,.ready,none,by simp,hrec,fun _=>?_,fun c hc=>by cases hc⟩;have hwn:walkR bS n f (N-i) q p=[]:=by
    rcases Nat.eq_zero_or_pos (N-i)with e|e
    ·rw[e];rfl
    ·obtain⟨k,hk⟩:∃ k,N-i=k+1:=⟨N-i-1,by omega⟩;rw[hk];unfold walkR;rw[if_neg];rintro ⟨h1,h2,h3⟩;rw[hf] at hor;have:=HN.out;rcases hor with h|h|h|h
     ·exact h1 h
     ·exact h h2
     ·exact h h3
     ·omega
   rw[hwn,List.append_nil] at hwk;have kq:Kt (fun x=>x=w.heap.size+1\/x=w.heap.size+2) W' ((W'.putObj (w.heap.size+2) (.loop (rc .exhausted none))).putObj (w.heap.size+1) (.deferred none)):=((Kt.refl _ W').putObj (fun _=>.inr rfl) _).putObj (fun _=>.inl rfl) _;have hD2:kO (W'.putObj (w.heap.size+2) (.loop (rc .exhausted none))) (w.heap.size+1):=(World.putObj_heap_other (by omega)).trans hdef;have hO2:fP (W'.putObj (w.heap.size+2) (.loop (rc .exhausted none))) w.heap.size v:=(World.putObj_heap_other (by omega)).trans hob;have hc:=mS hO2;have hne:∀ r,v.ownBlock=some r->¬(r=w.heap.size+1\/r=w.heap.size+2):=fun r hr e=>by
    obtain⟨cs,hcs⟩:=hlst.blk hr;rcases e with rfl|rfl
    ·rw[show W'.heap[w.heap.size+1]?=_ from hdef] at hcs;cases hcs
    ·rw[show W'.heap[w.heap.size+2]?=_ from hrec] at hcs;cases hcs
   have HL:=aA (hlst.kept kq hne);have HK:=aA (hk0.trans (U:=nO) kq (fun _ _ x=>x) (fun x hx e=>by omega));have HW:=aA hwk;have HR:=aA hrow;clear hlst hk0 hwk hrow hne kq hO2 hor hSS hwn hls hpk hob hrec hdef hf hi;go_wp2_with fail;refine⟨by simp,.inl ⟨_,_,rfl,run_takeDeferred hD2,?_⟩⟩;refine⟨_,results_tmp rfl _ _ _,v,rfl,?_,HK.out,HR.out⟩;rw[<-HN.out,<-HW.out];exact HL.out
  ·exact h.elim
 case hY=>
  rintro i q p f' S W ⟨hf,hls,hpk,hk0,hp,hq,xs,v,hxi,hiN,hwk,hob,hlst,hrec,hdef,hrow,rfl⟩ hi hp0 hin hpv;rw[<-HN.out] at hi;subst hf;have hL:=hrec;rw[HRC.out] at hL;refine IM hL rfl ?_;rw[<-HRC.out];have kq:Kt (fun x=>x=w.heap.size+2) W (W.putObj (w.heap.size+2) (.loop (rc .busy none))):=(Kt.refl (fun x=>x=w.heap.size+2) W).putObj (fun _=>rfl) _;have hne:∀ r,v.ownBlock=some r->¬(r=w.heap.size+2):=fun r hr e=>by
   obtain⟨cs,hcs⟩:=hlst.blk hr;subst e;rw[show W.heap[w.heap.size+2]?=_ from hrec] at hcs;cases hcs
  have hnd:∀ r,v.ownBlock=some r->¬(r=w.heap.size+1):=fun r hr e=>by
   obtain⟨cs,hcs⟩:=hlst.blk hr;subst e;rw[show W.heap[w.heap.size+1]?=_ from hdef] at hcs;cases hcs
  have hnk:∀ r,v.ownBlock=some r->¬(r=kk):=fun r hr e=>by
   obtain⟨cs,hcs⟩:=hlst.blk hr;rw[e,show W.heap[kk]?=_ from hpk] at hcs;simp at hcs
  have hno:∀ r,v.ownBlock=some r->¬(r=w.heap.size):=fun r hr e=>by
   obtain⟨cs,hcs⟩:=hlst.blk hr;subst e;rw[show W.heap[w.heap.size]?=_ from hob] at hcs;simp at hcs
  obtain⟨W2,hW2⟩:=xe (W.putObj (w.heap.size+2) (.loop (rc .busy none)));rw[<-hW2] at kq;have hz2:W2.heap.size=W.heap.size:=by rw[hW2];simp
  have L2:=hlst.kept kq hne;have O2:=hob.kept kq (by omega);have R2:gH W2 (w.heap.size+2) (rc .busy none):=by rw[hW2];exact hrec.put _
  have D2:=hdef.kept kq (by omega);have P2:=hpk.kept kq (by omega);have kt:Kt nO W2 (W2.alloc (.cells #[.int .u64 p] 27)):=(Kt.refl nO W2).alloc _;obtain⟨v',w4,hap,hL4,hK4,hown4,g,cap,hv'⟩:=VV (W2.alloc (.cells #[.int .u64 p] 27)) v xs p (L2.keep kt) hp (by omega) ⟨W2.heap.size,0,none⟩ 1 (by rw[Addr.add_lit];exact mS (nH _ _));subst hv';have kA:Kt (fun x=>x=w.heap.size+2\/v.ownBlock=some x) W w4:=(kq.trans (U:=fun x=>x=w.heap.size+2\/v.ownBlock=some x) kt (fun _ _ h=>.inl h) (fun _ _ h=>h.elim)).trans hK4 (fun _ _ h=>h) (fun _ _ h=>.inr h);have kB:Kt (fun x=>v.ownBlock=some x) W2 w4:=kt.trans hK4 (fun _ _ h=>h.elim) (fun _ _ h=>h);have O4:=O2.kept kB (fun h=>hno _ h rfl);have hc0:=mS O2;have hc4:=mS O4;have hf4:=xO O4;have HAP:=aA hap;have HZ2:=aA hz2;have HL4:=aA hL4;have KA:=aA kA;have KB:=aA kB;have HO4:=aA O4;have HR2:=aA R2;have HD2:=aA D2;have HP2:=aA P2;have HOWN:=aA hown4;have HLS:=aA hls;have HK0:=aA hk0;have HWK:=aA hwk;have HROW:=aA hrow;have HX:=aA hxi;have HPV:=aA hpv;have HH1:=aA hne;have HH2:=aA hnd;have HH3:=aA hnk;have HH4:=aA hno;have HIN:=aA hin;have HREC:=aA hrec;have HDEF:=aA hdef;have HPK:=aA hpk;clear hz2 hxi kq L2 O2 R2 D2 P2 kt hL4 hK4 hown4 kA kB O4 hL hls hk0 hwk hrow hpv hne hnd hnk hno hin hrec hdef hpk hob hlst;gi_wp2_with fail
  refine⟨HREC.out,?_⟩;rw[<-hW2];clear hW2;gi_wp2_with (gi_at_builtin;refine zcc _ rfl _ _ _ rfl v (.slice (some ⟨W2.heap.size,0,none⟩) 1 1) rfl rfl _ _ HAP.out ?_)
  have hN4:¬(v.ownBlock=some (w.heap.size+2)):=fun h=>HH1.out _ h rfl
  have R4:=HR2.out.kept KB.out hN4;have kC:Kt (fun x=>x=w.heap.size+2\/x=w.heap.size\/v.ownBlock=some x) W ((w4.setCell ⟨w.heap.size,0,none⟩ (.slice (some ⟨g,0,none⟩) (xs.length+1) cap)).putObj (w.heap.size+2) (.loop (rc .ready none))):=
   ((KA.out.mono (fun x _ h=>by rcases h with h|h;exact .inl h;exact .inr (.inr h))).setCell (fun _=>.inr (.inl rfl)) _).putObj (fun _=>.inl rfl) _
  have kD:Kt (fun x=>x=w.heap.size+2\/x=w.heap.size) w4 ((w4.setCell ⟨w.heap.size,0,none⟩ (.slice (some ⟨g,0,none⟩) (xs.length+1) cap)).putObj (w.heap.size+2) (.loop (rc .ready none))):=
   ((Kt.refl _ w4).setCell (fun _=>.inr rfl) _).putObj (fun _=>.inl rfl) _
  have hgn:∀ r,Value.ownBlock (.slice (some ⟨g,0,none⟩) (xs.length+1) cap)=some r->r≠w.heap.size+2/\r≠w.heap.size/\w.heap.size<=r/\(v.ownBlock=some r\/W.heap.size<=r):=fun r hr=>by
   have hWl:=HREC.out.lt;rcases HOWN.out with e|⟨r',e,hle⟩
   ·rw[e] at hr;exact⟨HH1.out r hr,HH4.out r hr,HROW.out r hr,.inl hr⟩
   ·rw[e] at hr
    cases hr
    simp at hle;have:=HZ2.out;exact⟨by omega,by omega,by omega,.inr (by omega)⟩
  obtain⟨W5,hW5⟩:=xe ((w4.setCell ⟨w.heap.size,0,none⟩ (.slice (some ⟨g,0,none⟩) (xs.length+1) cap)).putObj (w.heap.size+2) (.loop (rc .ready none)));have R5:gH (w4.setCell ⟨w.heap.size,0,none⟩ (.slice (some ⟨g,0,none⟩) (xs.length+1) cap)) (w.heap.size+2) (rc .busy none):=R4.kept ((Kt.refl (fun x=>x=w.heap.size) w4).setCell (fun _=>rfl) _) (by omega);have R6:gH W5 (w.heap.size+2) (rc .ready none):=by rw[hW5];exact R5.put _
  have O6:fP W5 w.heap.size (.slice (some ⟨g,0,none⟩) (xs.length+1) cap):=by rw[hW5];exact(World.putObj_heap_other (by omega)).trans (HO4.out.set _)
  rw[<-hW5] at kC kD;have hTk:Taking c b ao bS R lim n f' hd kk w.heap.size (w.heap.size+1) (w.heap.size+2) w rc N (i+1) p (nx bS f' p) f'
    (fun x=>x<w.heap.size\/x=kk\/x=w.heap.size\/x=w.heap.size+1\/x=w.heap.size+2\/Value.ownBlock (.slice (some ⟨g,0,none⟩) (xs.length+1) cap)=some x) W5:=by
   refine⟨rfl,?_,?_,?_,?_,hp,xs ++ [p],.slice (some ⟨g,0,none⟩) (xs.length + 1) cap,by simp[HX.out],by omega,?_,O6,?_,R6,?_,?_,rfl⟩
   ·refine HLS.out.kept kC (fun x hx h=>?_);have:=H.out.lt x hx;rcases h with h|h|h
    ·omega
    ·omega
    ·have:=HROW.out x h;omega
   ·exact HPK.out.kept kC (by rintro (h|h|h);omega;omega;exact HH3.out _ h rfl)
   ·refine HK0.out.trans kC (fun _ _ h=>h) (fun x hx h=>?_);rcases h with h|h|h
    ·omega
    ·omega
    ·have:=HROW.out x h;omega
   ·exact HLS.out.s.nx_lt p HIN.out
   ·have e1:N-i=(N-(i+1))+1:=(by omega);rw[<-HWK.out,e1,walkR,if_pos ⟨hp0,HIN.out,HPV.out⟩];simp
   ·exact HL4.out.kept kD (fun r hr h=>by have:=hgn r hr;omega)
   ·exact(HDEF.out.kept kC (by rintro (h|h|h);omega;omega;exact HH2.out _ h rfl))
   ·exact fun r hr=>(hgn r hr).2.2.1
  have hkk:Kt (fun x=>x<w.heap.size\/x=kk\/x=w.heap.size\/x=w.heap.size+1\/x=w.heap.size+2\/v.ownBlock=some x) W W5:=by
   refine kC.mono (fun x _ h=>?_);rcases h with h|h|h
   ·exact .inr (.inr (.inr (.inr (.inl h))))
   ·exact .inr (.inr (.inl h))
   ·exact .inr (.inr (.inr (.inr (.inr h))))
  have hss:∀ x,(x<w.heap.size\/x=kk\/x=w.heap.size\/x=w.heap.size+1\/x=w.heap.size+2\/Value.ownBlock (.slice (some ⟨g,0,none⟩) (xs.length+1) cap)=some x)->
    (x<w.heap.size\/x=kk\/x=w.heap.size\/x=w.heap.size+1\/x=w.heap.size+2\/v.ownBlock=some x)\/W.heap.size<=x:=by
   rintro x (h|h|h|h|h|h)
   ·exact .inl (.inl h)
   ·exact .inl (.inr (.inl h))
   ·exact .inl (.inr (.inr (.inl h)))
   ·exact .inl (.inr (.inr (.inr (.inl h))))
   ·exact .inl (.inr (.inr (.inr (.inr (.inl h)))))
   ·rcases (hgn x h).2.2.2 with h'|h'
    ·exact .inl (.inr (.inr (.inr (.inr (.inr h')))))
    ·exact .inr h'
  subst hW5;first
   | exact⟨R5,.inl ⟨rfl,f',_,hTk,hkk,hss⟩⟩
   | exact⟨R5,rfl,f',_,hTk,hkk,hss⟩
theorem Collect_any(kk c b ao bS R lim n f hd)(o:Nat)(ho:o<=8)(hR:R=4096*2 ^ o)(w:World)(h:LS w c b ao bS R lim n f hd)(hpk:PtrB w kk c):
  Calls prog 226 #[.func (.func 232) #[] #[.pointer (some ⟨kk,0,none⟩)]] w fun e w'=>∃ v,e=.returned v/\Lst w' v (walkR bS n f (n/16) 0 hd)/\Kt nO w w'/\∀ r,v.ownBlock=some r->w.heap.size<=r:=by
 have AS:=aA (zeg kk c b ao bS R lim n f hd o ho hR w h hpk);clear h hpk;go_enter func226,ntmps226;go_wp2_with fail;refine AS.out.mono ?_;rintro e w1 ⟨v,rfl,hv⟩;have HV:=aA hv;clear hv;go_wp2_with fail;go_ret;exact⟨v,rfl,HV.out⟩
end Go.Proofs.YtbgbfpklgfpepaaGreatDoor.M
namespace Go.Proofs.YtbgbfpklgfpepaaGreatDoor.M
open Tryz
open Go.RowKit
set_option linter.unusedVariables false
end Go.Proofs.YtbgbfpklgfpepaaGreatDoor.M
