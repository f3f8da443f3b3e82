import Derived.Test.YtgjdmkfpmokkaaaGreatDoorZu
set_option maxRecDepth 1000000
set_option maxHeartbeats 80000000
namespace Go.Proofs.YtgjdmkfpmokkaaaGreatDoor
open Go.RowKit
set_option linter.unusedVariables false
theorem GS.push2{w0 W:World}{e:TypeId}{size:Nat}{v:Value}{n:Nat}{xs:List Value}(h:GS w0 W e size v n xs)(t:TypeId)(i:TypeInfo)(z:Value)(bytes:Nat)
  (ht:Tryz.prog.underlying t=some (.slice e)) (hi:Tryz.prog.info? e=some i) (hz:i.zero=some z) (hs:i.size=size) (hby:i.bytes=bytes) (hzs:z.cells.size=size) (hsz : 0<size)
  (a:Addr) (c:Nat) (news:List Value) (hl:news.length=size) (hnews:∀ j u,news[j]?=some u→W.cell? (a.add j)=some u) (h1:∀ u∈news,u.oneCell'=true) (h63:n+1≤maxLen) (hbb:(n+1)*bytes≤140737488355328):
  ∃ g cap w',(∀ ty,(Builtin.append_ #[t,t] ty #[v,.slice (some a) 1 c]).run Tryz.prog W=.ok (.slice (some ⟨g,0,none⟩) (n + 1) cap) w')∧GS w0 w' e size (.slice (some ⟨g,0,none⟩) (n + 1) cap) (n + 1) (xs ++ news)∧w0.heap.size≤g∧(∀ x,v.ownBlock≠some x→∀ o,W.heap[x]?=some o→w'.heap[x]?=some o)∧(v.ownBlock=some g∨W.heap.size≤g):=by
 have hl':news.length=1*size:=by rw[hl,Nat.one_mul]
 have ho:=h.own;by_cases hr:∃ g cap,v=.slice (some ⟨g,0,none⟩) n cap∧n+1≤cap
 ·obtain⟨g,cap,rfl,hroom⟩:=hr;obtain⟨w',hrun,hown,hgr⟩:=run_append_fits (P:=Tryz.prog) W 0 t 0 e i size ht hi hs g n cap xs ho a 1 c news hl' hnews h1 hroom;have hg:=(h.new g cap rfl).resolve_left (by omega);have hk:=zal hgr;refine⟨g,cap,w',fun ty=>?_,⟨hown,fun g' cap' e=>?_,h.kp.trans hk (fun _ _ x=>x) (fun x hx e=>?_)⟩,hg,fun x hx o hxo=>(hk.block x (lH hxo) hx).trans hxo,.inl rfl⟩
  ·rw[←hrun];simp[Builtin.append_]
  ·simp at e;exact .inr (by omega)
  ·cases e;omega
 ·have key:∃ v' w',(Builtin.append_ #[t,t] 0 #[v,.slice (some a) 1 c]).run Tryz.prog W=.ok v' w'∧w'.ownsRow W.heap.size e size v' (n + 1) (xs ++ news)∧Kt nO W w':=by
   rcases ho.2 with ⟨rfl,h0⟩|⟨g,cap,cur,rfl,hb,hg,hnc,hcm,hcs,htake⟩
   ·subst h0;have:xs=[]:=List.eq_nil_of_length_eq_zero (by rw[ho.1,Nat.zero_mul]);subst this;obtain⟨v',w',hrun,hown,hgr,_⟩:=run_append_own (P:=Tryz.prog) W W.heap.size t 0 e i z size bytes ht hi hz hs hby hzs hsz (.slice none 0 0) 0 [] (World.ownsRow_nil _ _ _ _) a 1 c news hl' hnews h1 h63 hbb (Nat.le_refl _);exact⟨v',w',hrun,hown,(zal hgr).mono (fun _ _ e=>by cases e)⟩
   ·obtain⟨v',w',hrun,hown,hgr⟩:=run_append_arg_grows (P:=Tryz.prog) W t 0 e i z size bytes ht hi hz hs hby hzs hsz ⟨g,0,none⟩ n cap xs ho.1 (fun j u hj=>by
     rw[Addr.add_lit,Nat.zero_add];rw[←htake,List.getElem?_take] at hj;split at hj
     ·simp only[World.cell?,hg];rw[←Array.getElem?_toList,hj];rfl
     ·cases hj) a 1 c news hl' hnews (Nat.lt_of_not_le fun hle=>hr ⟨g,cap,rfl,hle⟩) h63 hbb
    exact⟨v',w',hrun,hown,(zal hgr).mono (fun _ _ e=>by cases e)⟩
  obtain⟨v',w',hrun,hown,hk⟩:=key;rcases hown.2 with ⟨_,h0⟩|⟨g,cap,cur,rfl,hb,hg,h3⟩
  ·omega
  ·refine⟨g,cap,w',fun ty=>?_,⟨⟨hown.1,.inr ⟨g,cap,cur,rfl,Nat.zero_le _,hg,h3⟩⟩,fun g' cap' e=>?_,nT h.kp hk⟩,Nat.le_trans h.kp.size hb,fun x hx o hxo=>(hk.block x (lH hxo) (fun x=>x)).trans hxo,.inr hb⟩
   ·rw[←hrun];simp[Builtin.append_]
   ·simp at e;exact .inr (by have:=h.kp.size;omega)
theorem zji{w0 W:World}{v:Value}{n:Nat}{xs:List Value}(h:GS w0 W 43 1 v n xs)(hn:n≤2000):
  ∃ g cap w',(∀ ty,(Builtin.append_ #[32,32] ty #[v,.slice (some ⟨W.heap.size,0,none⟩) 1 1]).run Tryz.prog (W.alloc (.cells #[.slice none 0 0] 43))=.ok (.slice (some ⟨g,0,none⟩) (n + 1) cap) w')∧GS w0 w' 43 1 (.slice (some ⟨g,0,none⟩) (n + 1) cap) (n + 1) (xs ++ [.slice none 0 0])∧w0.heap.size≤g∧(∀ x,v.ownBlock≠some x→∀ o,W.heap[x]?=some o→w'.heap[x]?=some o)∧(v.ownBlock=some g∨W.heap.size≤g):=by
 obtain⟨i,hi,hzz⟩:=Option.map_eq_some_iff.1 zer;simp only[Prod.mk.injEq] at hzz;have ka:=(Kt.refl nO W).alloc (.cells #[.slice none 0 0] 43);obtain⟨g,cap,w',h1,h2,h5,h4,h6⟩:=(h.keep ka).push2 32 i (.slice none 0 0) 24 Tryz.underlying32 hi hzz.1 hzz.2.1 hzz.2.2 rfl (by decide) ⟨W.heap.size,0,none⟩ 1 [.slice none 0 0] rfl (fun j u hj=>zaD (cs:=#[.slice none 0 0]) j u hj) (by simp[Value.oneCell']) (by simp only[maxLen];omega) (by omega);exact⟨g,cap,w',h1,h2,h5,fun x hx o ho=>h4 x hx o ((ka.block x (lH ho) (fun x=>x)).trans ho),h6.imp id (fun e=>by simp at e;omega)⟩
structure NX(W:World)(o:Nat)(ga:Option Addr)(gc:Nat)(v:Value):Prop where
 f:W.ownsRow 0 43 1 (.slice ga (o+1) gc) (o+1) (List.replicate (o+1) (.slice none 0 0))
 n:∀ g,(Value.slice ga (o+1) gc).ownBlock=some g→v.ownBlock≠some g
theorem NX.push{w W w':World}{base lim o gc y k g cap:Nat}{ga va:Option Addr}{vc:Nat}(h:N7 w W base lim o ga gc y k (.slice va k vc))(x:NX W o ga gc (.slice va k vc))(hx':w'.heap[y]?=some (s7O base (lim:Int) (o:Int) (o:Int) 0 (.slice ga (o+1) gc) (.slice none 0 0) (.slice none 0 0) (.slice va k vc)))(hkeep:∀ x,(Value.slice va k vc).ownBlock≠some x→∀ o,W.heap[x]?=some o→w'.heap[x]?=some o)(hg:(Value.slice va k vc).ownBlock=some g∨W.heap.size≤g):NX (w'.setCell ⟨y,8,none⟩ (.slice (some ⟨g,0,none⟩) (k+1) cap)) o ga gc (.slice (some ⟨g,0,none⟩) (k+1) cap):=by
 obtain⟨h1,h2⟩:=x.f;rcases h2 with ⟨_,h0⟩|⟨g2,c2,cur,h0,hb2,hgg,h3⟩
 ·omega
 ·injection h0 with e1 _ e3
  subst e1 e3;have hne:=x.n g2 rfl;have hw':=hkeep g2 hne _ hgg;have hny:g2≠y:=fun e=>by
   rw[e,hx'] at hw';injection hw' with hw'
   injection hw' with _ hw' _
   exact absurd hw' (by decide)
  have ks:Kt (fun b=>b=y) w' (w'.setCell ⟨y,8,none⟩ (.slice (some ⟨g,0,none⟩) (k+1) cap)):=(Kt.refl (fun b=>b=y) w').setCell (p:=⟨y,8,none⟩) rfl _;refine⟨⟨h1,.inr ⟨g2,gc,cur,rfl,hb2,(ks.block _ (lH hw') hny).trans hw',h3⟩⟩,fun a ha e=>?_⟩;simp only[Value.ownBlock,Option.some.injEq] at ha e;subst ha e;rcases hg with hg|hg
  ·exact hne hg
  ·have:=lH hgg;omega
theorem zl9(n:Nat):List.replicate n (.slice none 0 0)=slv (fun _=>none) (fun _=>0) (fun _=>[]) n:=by
 unfold slv;rw[List.map_const'];simp
theorem FL.rep{W:World}{fa:Option Addr}{fc o:Nat}(h:W.ownsRow 0 43 1 (.slice fa (o+1) fc) (o+1) (List.replicate (o+1) (.slice none 0 0))):FL W fa fc o (fun _=>[]):=⟨fun _=>none,fun _=>0,by rw[←zl9];exact h,fun k _=>NL.nil W⟩
def zny(w:World)(base lim o:Nat)(e:Ending)(w':World):Prop:=∃ ga gc qa qc,e=.returned (s7V base (lim:Int) (o:Int) (o:Int) 0 (.slice ga (o+1) gc) (.slice none 0 0) (.slice none 0 0) (.slice qa 8 qc))∧Kt nO w w'∧FL w' ga gc o (fun _=>[])∧FL w' qa qc 7 (fun _=>[])
theorem zmY(base lim o:Nat)(ho:o≤8)(w:World):
  Calls Tryz.prog 35 #[cfgV base (lim:Int) (o:Int)] w fun e w'=>zny w base lim o e w':=by
 have X0:=hid (show((w.alloc (cfgO base (lim:Int) (o:Int))).alloc s7Z).heap[w.heap.size]?=some (cfgO base (lim:Int) (o:Int))from(two5 w _ _).2.1);have Y0:=hid (show((w.alloc (cfgO base (lim:Int) (o:Int))).alloc s7Z).heap[w.heap.size+1]?=some s7Z from(two5 w _ _).2.2);have K0:=hid (show Kt nO w ((w.alloc (cfgO base (lim:Int) (o:Int))).alloc s7Z)from(two5 w _ _).1);go_enter Tryz.func35,Tryz.ntmps35;go_upto_region 1 with fail;generalize (w.alloc (cfgO base (lim:Int) (o:Int))).alloc s7Z=W0 at *;have X1:=hid (((Kt.refl nO W0).drew.block _ (lH X0.out) (fun e=>e)).trans X0.out);have Z1:=hid (show(W0.alloc s7Z).drew.heap[w.heap.size]?=some (cfgO base (lim:Int) (o:Int))from((((Kt.refl nO W0).alloc _).drew).block _ (lH X0.out) (fun e=>e)).trans X0.out);have NA:=hid (zkB o ho W0.drew);have NB:=hid (zkB o ho (W0.alloc s7Z).drew);obtain⟨x0,x1,x2⟩:=cfg3 X0.out;have ZY:=hid (show(W0.alloc s7Z).drew.heap[W0.heap.size]?=some s7Z from nH W0 _);have Z2:=hid (show(W0.alloc s7Z).heap[w.heap.size]?=some (cfgO base (lim:Int) (o:Int))from(((Kt.refl nO W0).alloc _).block _ (lH X0.out) (fun e=>e)).trans X0.out);obtain⟨z0,z1,z2⟩:=cfg3 Z2.out;go_cut [3] (fun s3 W=>∃ y ga gc,s3=.pointer (some ⟨y,0,none⟩)∧Hid (N7 w W base lim o ga gc y 0 (.slice none 0 0)∧NX W o ga gc (.slice none 0 0)))
 case first=>
  go_region_with (first
   | (go_at_call 84;(with_reducible refine NA.out.mono ?_);rintro e w7 ⟨ga,gc,rfl,hgs⟩;obtain⟨y0,y1,y2⟩:=cfg3 ((hgs.kp.block _ (lH X1.out) (fun x=>x)).trans X1.out);have q0:(w7.alloc s7Z).cell? ⟨w.heap.size,0,none⟩=some (.int .u64 (base:Int)):=aCL y0;have q1:(w7.alloc s7Z).cell? ⟨w.heap.size,1,none⟩=some (.int .i64 (lim:Int)):=aCL y1;have q2:(w7.alloc s7Z).cell? ⟨w.heap.size,2,none⟩=some (.int .i64 (o:Int)):=aCL y2;have D7:=hid (And.intro (N7.mkA (base:=base) (lim:=lim) (o:=o) (ga:=ga) (gc:=gc) K0.out Y0.out hgs.kp) (show NX (w7.alloc (s7O base (lim:Int) (o:Int) (o:Int) 0 (.slice ga (o+1) gc) (.slice none 0 0) (.slice none 0 0) (.slice none 0 0))) o ga gc (.slice none 0 0)from NX.mk (zaf hgs.own ((Kt.refl nO w7).alloc _) (fun _ _ e=>e)) (fun g _ e=>by simp[Value.ownBlock] at e)));clear hgs)
   | (go_at_call 84;(with_reducible refine NB.out.mono ?_);rintro e w7 ⟨ga,gc,rfl,hgs⟩;obtain⟨y0,y1,y2⟩:=cfg3 ((hgs.kp.block _ (lH Z1.out) (fun x=>x)).trans Z1.out);obtain⟨v0,v1,v2,v3,v4,v5,v6,v7,v8,vf⟩:=s7z ((hgs.kp.block _ (lH ZY.out) (fun x=>x)).trans ZY.out);have D7:=hid (And.intro (N7.mkB (base:=base) (lim:=lim) (o:=o) (ga:=ga) (gc:=gc) K0.out Y0.out hgs.kp) (show NX (fin9 w7 W0.heap.size base (lim:Int) (o:Int) (o:Int) 0 (.slice ga (o+1) gc) (.slice none 0 0) (.slice none 0 0) (.slice none 0 0)) o ga gc (.slice none 0 0)from NX.mk (zaf hgs.own (zad w7 W0.heap.size base (lim:Int) (o:Int) (o:Int) 0 (.slice ga (o+1) gc) (.slice none 0 0) (.slice none 0 0) (.slice none 0 0)) (fun x hx e=>by obtain⟨cs,hc⟩:=zaT hgs.own hx;rw[e,(hgs.kp.block _ (lH ZY.out) (fun x=>x)).trans ZY.out] at hc;injection hc with hc;injection hc with _ hc _;exact absurd hc (by decide))) (fun g _ e=>by simp[Value.ownBlock] at e)));clear hgs)
   | fail)
  all_goals
   first|go_meet|(go_wp2_with fail;go_meet)|(simp only[Exit.then];go_meet)
   case rel=>exact⟨_,_,_,rfl,D7⟩
 case rest=>
 obtain⟨y,ga,gc,rfl,HC⟩:=hcut;clear X0 Y0 K0 X1 Z1 NA NB x0 x1 x2 ZY Z2 z0 z1 z2;go_wp2_with fail;go_loopw [4] (fun i W=>∃ k:Nat,k≤8∧i=.int .i64 k∧Hid (∃ va vc,N7 w W base lim o ga gc y k (.slice va k vc)∧NX W o ga gc (.slice va k vc))) (fun i _=>8-(intOf i).toNat)
 case atStart=>exact⟨0,by omega,rfl,⟨none,0,HC.out⟩⟩
 case round=>
  clear HC;obtain⟨k,hk,rfl,hR⟩:=hrel;obtain⟨va,vc,hR,hX⟩:=hR.out;have HR:=hid hR;have HX:=hid hX;clear hX;obtain⟨x0,x1,x2,x3,x4,x5,x6,x7,x8,fx⟩:=s7c hR.x;clear hR;by_cases hlt:k<8
  ·have hki:(k:Int)<8:=(by omega);obtain⟨g,cap,w',hap,hg2,hge,hkeep,hgn⟩:=zji HR.out.q (by omega);have hP:=HR.out.push hg2 hkeep;have hPX:=HX.out.push (cap:=cap) HR.out hP.1 hkeep hgn;obtain⟨z0,z1,z2,z3,z4,z5,z6,z7,z8,fz⟩:=s7c hP.1;have D:=hid (And.intro hP.2 hPX);have HAP:=hid hap;clear hap hg2 hkeep hP hPX hgn;go_wp2_with (at_builtin;refine Lib.wpList_append_run _ rfl _ _ _ _ rfl (.slice va k vc) (.slice (some ⟨wr.heap.size,0,none⟩) 1 1) rfl rfl _ _ (HAP.out _) ?_)
   exact⟨⟨k+1,by omega,by simp,⟨_,_,D.out⟩⟩,by simp[intOf];omega⟩
  ·have hki:¬(k:Int)<8:=(by omega);have hko:k=8:=(by omega);subst hko;obtain⟨y0,y1,y2,y3,y4,y5,y6,y7,y8,fy⟩:=s7z HR.out.z;have HF:=hid (show ∀ u0 u1 u2 u3 u4 u5 u6 u7 u8,Kt nO w (((((((((wr.setCell ⟨w.heap.size+1,0,none⟩ u0).setCell ⟨w.heap.size+1,1,none⟩ u1).setCell ⟨w.heap.size+1,2,none⟩ u2).setCell ⟨w.heap.size+1,3,none⟩ u3).setCell ⟨w.heap.size+1,4,none⟩ u4).setCell ⟨w.heap.size+1,5,none⟩ u5).setCell ⟨w.heap.size+1,6,none⟩ u6).setCell ⟨w.heap.size+1,7,none⟩ u7).setCell ⟨w.heap.size+1,8,none⟩ u8)from fun u0 u1 u2 u3 u4 u5 u6 u7 u8=>by
    have nn:¬w.heap.size+1<w.heap.size:=(by omega);exact((((((((HR.out.q.kp.setNew (p:=⟨w.heap.size+1,0,none⟩) nn u0).setNew (p:=⟨w.heap.size+1,1,none⟩) nn u1).setNew (p:=⟨w.heap.size+1,2,none⟩) nn u2).setNew (p:=⟨w.heap.size+1,3,none⟩) nn u3).setNew (p:=⟨w.heap.size+1,4,none⟩) nn u4).setNew (p:=⟨w.heap.size+1,5,none⟩) nn u5).setNew (p:=⟨w.heap.size+1,6,none⟩) nn u6).setNew (p:=⟨w.heap.size+1,7,none⟩) nn u7).setNew (p:=⟨w.heap.size+1,8,none⟩) nn u8)
   have FQ:=hid (show ∀ W',Kt (fun z=>z=w.heap.size+1) wr W'→FL W' ga gc o (fun _=>[])∧FL W' va vc 7 (fun _=>[])from fun W' kk=>by
    have hf:=HX.out.f;have hq:=HR.out.q.own;have hz:=HR.out.z;have no:∀ y,y=w.heap.size+1→∀ v n xs,wr.ownsRow 0 43 1 v n xs→v.ownBlock≠some y:=fun y hy v n xs ho e=>by
     obtain⟨cs,hc⟩:=zaT ho e;rw[hy,hz] at hc;injection hc with hc
     injection hc with _ hc _
     exact absurd hc (by decide)
    exact⟨FL.rep (zaf hf kk (fun y hy e=>no y e _ _ _ hf hy)),FL.rep (zaf hq kk (fun y hy e=>no y e _ _ _ hq hy))⟩)
   have kf:=zad wr (w.heap.size+1) base (lim:Int) (o:Int) (o:Int) 0 (.slice ga (o+1) gc) (.slice none 0 0) (.slice none 0 0) (.slice va 8 vc);have FZ:=hid (FQ.out _ kf);clear HR HX FQ kf;go_wp2_with fail;exact⟨rfl,s7V base (lim:Int) (o:Int) (o:Int) 0 (.slice ga (o+1) gc) (.slice none 0 0) (.slice none 0 0) (.slice va 8 vc),by simp[results,Tryz.results35,go_sem,y0,y1,y2,y3,y4,y5,y6,y7,y8],_,_,_,_,rfl,HF.out _ _ _ _ _ _ _ _ _,FZ.out.1,FZ.out.2⟩
end Go.Proofs.YtgjdmkfpmokkaaaGreatDoor
