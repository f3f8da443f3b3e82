import Derived.Test.YtgjdmkfpmokkaaaGreatDoorZo
import Derived.Deep.RegionWith
set_option maxRecDepth 1000000
set_option maxHeartbeats 80000000
namespace Go.Proofs.YtgjdmkfpmokkaaaGreatDoor
open Go.RowKit
set_option linter.unusedVariables false
abbrev r5V(o p:Int)(fv lv:Value):Value:=.agg #[.int .i64 o,.int .i64 p,fv,lv]
abbrev r5O(o p:Int)(fv lv:Value):Obj:=.cells #[.int .i64 o,.int .i64 p,fv,lv] 35
theorem r5c{w:World}{x:Nat}{o p:Int}{fv lv:Value}(h:w.heap[x]?=some (r5O o p fv lv)):w.cell? ⟨x,0,none⟩=some (.int .i64 o)∧w.cell? ⟨x,1,none⟩=some (.int .i64 p)∧w.cell? ⟨x,2,none⟩=some fv∧w.cell? ⟨x,3,none⟩=some lv∧∀ j,w.frozen? ⟨x,j,none⟩=false:=by
 refine⟨?_,?_,?_,?_,fun j=>?_⟩ <;> simp[World.cell?,World.frozen?,h]
theorem zer:(Tryz.prog.info? 43).map (fun i=>(i.zero,i.size,i.bytes))=some (some (.slice none 0 0),1,24):=by kernel_rfl
theorem zgG{w0 W:World}{v:Value}{n:Nat}{xs:List Value}(h:GS w0 W 43 1 v n xs)(hn:n≤2000):
  ∃ g cap w',(∀ ty,(Builtin.append_ #[32,32] ty #[v,.slice (some ⟨W.heap.size,0,none⟩) 1 1]).run Tryz.prog (W.alloc (.cells #[.slice none 0 0] 43))=.ok (.slice (some ⟨g,0,none⟩) (n + 1) cap) w')∧GS w0 w' 43 1 (.slice (some ⟨g,0,none⟩) (n + 1) cap) (n + 1) (xs ++ [.slice none 0 0])∧w0.heap.size≤g∧(∀ x,v.ownBlock≠some x→∀ o,W.heap[x]?=some o→w'.heap[x]?=some o):=by
 obtain⟨i,hi,hzz⟩:=Option.map_eq_some_iff.1 zer;simp only[Prod.mk.injEq] at hzz;have ka:=(Kt.refl nO W).alloc (.cells #[.slice none 0 0] 43);obtain⟨g,cap,w',h1,h2,h5,h4⟩:=(h.keep ka).push 32 i (.slice none 0 0) 24 Tryz.underlying32 hi hzz.1 hzz.2.1 hzz.2.2 rfl (by decide) ⟨W.heap.size,0,none⟩ 1 [.slice none 0 0] rfl (fun j u hj=>zaD (cs:=#[.slice none 0 0]) j u hj) (by simp[Value.oneCell']) (by simp only[maxLen];omega) (by omega);exact⟨g,cap,w',h1,h2,h5,fun x hx o ho=>h4 x hx o ((ka.block x (lH ho) (fun x=>x)).trans ho)⟩
structure N5x(w W:World)(o k:Nat)(v:Value):Prop where
 y:W.heap[w.heap.size]?=some (r5O 0 0 (.slice none 0 0) (.slice none 0 0))
 x:W.heap[w.heap.size+1]?=some (r5O (o:Int) 0 v (.slice none 0 0))
 gs:GS w W 43 1 v k (List.replicate k (.slice none 0 0))
 kp:Kt nO w W
def znx(w:World)(o:Nat)(e:Ending)(w':World):Prop:=∃ ga gc,e=.returned (r5V (o:Int) 0 (.slice ga (o+1) gc) (.slice none 0 0))∧GS w w' 43 1 (.slice ga (o+1) gc) (o+1) (List.replicate (o+1) (.slice none 0 0))
theorem zkB(o:Nat)(ho:o≤8)(w:World):
  Calls Tryz.prog 84 #[.int .i64 (o:Int)] w fun e w'=>znx w o e w':=by
 have T2:=two5 w (r5O 0 0 (.slice none 0 0) (.slice none 0 0)) (r5O (o:Int) 0 (.slice none 0 0) (.slice none 0 0));have H0:=hid (show N5x w ((w.alloc (r5O 0 0 (.slice none 0 0) (.slice none 0 0))).alloc (r5O (o:Int) 0 (.slice none 0 0) (.slice none 0 0))) o 0 (.slice none 0 0)from⟨T2.2.1,T2.2.2,GS.nil _ _ _ _ T2.1,T2.1⟩);clear T2;go_enter Tryz.func84,Tryz.ntmps84;go_wp2_with fail;go_loopw [4] (fun i W=>∃ k:Nat,k≤o+1∧i=.int .i64 k∧Hid (∃ va vc,N5x w W o k (.slice va k vc))) (fun i _=>o+1-(intOf i).toNat)
 case atStart=>exact⟨0,by omega,rfl,⟨none,0,H0.out⟩⟩
 case round=>
  clear H0;obtain⟨k,hk,rfl,hR⟩:=hrel;obtain⟨va,vc,hR⟩:=hR.out;have HR:=hid hR;obtain⟨x0,x1,x2,x3,fx⟩:=r5c hR.x;clear hR;by_cases hlt:k≤o
  ·have hki:(k:Int)≤(o:Int):=(by omega);have hgs:=HR.out.gs;obtain⟨g,cap,w',hap,hg2,hge,hkeep⟩:=zgG hgs (by omega);have hy':=hkeep w.heap.size (fun e=>by
    rcases hgs.own.2 with ⟨h0,_⟩|⟨g2,c2,cur,h0,hb2,hgg,_⟩
    ·rw[h0] at e;simp[Value.ownBlock] at e
    ·rw[h0] at e;simp[Value.ownBlock] at e;exact zag hgg HR.out.y (by decide) e) _ HR.out.y
   have hx':=hkeep (w.heap.size+1) (fun e=>by
    rcases hgs.own.2 with ⟨h0,_⟩|⟨g2,c2,cur,h0,hb2,hgg,_⟩
    ·rw[h0] at e;simp[Value.ownBlock] at e
    ·rw[h0] at e;simp[Value.ownBlock] at e;exact zag hgg HR.out.x (by decide) e) _ HR.out.x
   obtain⟨z0,z1,z2,z3,fz⟩:=r5c hx';have D:=hid (show N5x w (w'.setCell ⟨w.heap.size+1,2,none⟩ (.slice (some ⟨g,0,none⟩) (k+1) cap)) o (k+1) (.slice (some ⟨g,0,none⟩) (k+1) cap)from by
    have ks:Kt (fun y=>y=w.heap.size+1) w' (w'.setCell ⟨w.heap.size+1,2,none⟩ (.slice (some ⟨g,0,none⟩) (k+1) cap)):=(Kt.refl (fun y=>y=w.heap.size+1) w').setCell (p:=⟨w.heap.size+1,2,none⟩) rfl _;have g3:=hg2.keptN ks (fun y hy e=>by
     rcases hg2.own.2 with ⟨h0,_⟩|⟨g2,c2,cur,h0,hb2,hgg,h3⟩
     ·simp at h0
     ·rw[h0] at hy;simp[Value.ownBlock] at hy;subst hy;exact zag hgg hx' (by decide) e) (fun y e=>by omega)
    exact⟨(ks.block _ (lH hy') (by omega)).trans hy',zaa hx' 2 _,by rw[List.replicate_succ'];exact g3,g3.kp⟩)
   have HAP:=hid hap;clear hap hg2 hkeep hgs hy' hx';go_wp2_with (at_builtin;refine Lib.wpList_append_run _ rfl _ _ _ _ rfl (.slice va k vc) (.slice (some ⟨wr.heap.size,0,none⟩) 1 1) rfl rfl _ _ (HAP.out _) ?_)
   exact⟨⟨k+1,by omega,by simp,⟨_,_,D.out⟩⟩,by simp[intOf];omega⟩
  ·have hki:¬(k:Int)≤(o:Int):=(by omega);have hko:k=o+1:=(by omega);obtain⟨y0,y1,y2,y3,fy⟩:=r5c HR.out.y;subst hko;have HFL:=hid (show ∀ u0 u1 u2 u3,GS w ((((wr.setCell ⟨w.heap.size,0,none⟩ u0).setCell ⟨w.heap.size,1,none⟩ u1).setCell ⟨w.heap.size,2,none⟩ u2).setCell ⟨w.heap.size,3,none⟩ u3) 43 1 (.slice va (o+1) vc) (o+1) (List.replicate (o+1) (.slice none 0 0))from fun u0 u1 u2 u3=>by
    have ks:Kt (fun y=>y=w.heap.size) wr ((((wr.setCell ⟨w.heap.size,0,none⟩ u0).setCell ⟨w.heap.size,1,none⟩ u1).setCell ⟨w.heap.size,2,none⟩ u2).setCell ⟨w.heap.size,3,none⟩ u3):=((((Kt.refl (fun y=>y=w.heap.size) wr).setCell (p:=⟨w.heap.size,0,none⟩) rfl u0).setCell (p:=⟨w.heap.size,1,none⟩) rfl u1).setCell (p:=⟨w.heap.size,2,none⟩) rfl u2).setCell (p:=⟨w.heap.size,3,none⟩) rfl u3;refine HR.out.gs.keptN ks (fun y hy e=>?_) (fun y e=>by omega);rcases HR.out.gs.own.2 with ⟨h0,_⟩|⟨g2,c2,cur,h0,hb2,hgg,h3⟩
    ·rw[h0] at hy;simp[Value.ownBlock] at hy
    ·rw[h0] at hy;simp[Value.ownBlock] at hy;subst hy;exact zag hgg HR.out.y (by decide) e)
   clear HR;go_wp2_with fail;exact⟨rfl,r5V (o:Int) 0 (.slice va (o+1) vc) (.slice none 0 0),by simp[results,Tryz.results84,go_sem,y0,y1,y2,y3],_,_,rfl,HFL.out _ _ _ _⟩
abbrev s7V(b:Nat)(l o po pp:Int)(fv lv pv qv:Value):Value:=.agg #[.int .u64 (b:Int),.int .i64 l,.int .i64 o,.int .i64 po,.int .i64 pp,fv,lv,pv,qv]
abbrev s7O(b:Nat)(l o po pp:Int)(fv lv pv qv:Value):Obj:=.cells #[.int .u64 (b:Int),.int .i64 l,.int .i64 o,.int .i64 po,.int .i64 pp,fv,lv,pv,qv] 38
theorem s7c{W:World}{y:Nat}{b:Nat}{l o po pp:Int}{fv lv pv qv:Value}(h:W.heap[y]?=some (s7O b l o po pp fv lv pv qv)):W.cell? ⟨y,0,none⟩=some (.int .u64 (b:Int))∧W.cell? ⟨y,1,none⟩=some (.int .i64 l)∧W.cell? ⟨y,2,none⟩=some (.int .i64 o)∧W.cell? ⟨y,3,none⟩=some (.int .i64 po)∧W.cell? ⟨y,4,none⟩=some (.int .i64 pp)∧W.cell? ⟨y,5,none⟩=some fv∧W.cell? ⟨y,6,none⟩=some lv∧W.cell? ⟨y,7,none⟩=some pv∧W.cell? ⟨y,8,none⟩=some qv∧∀ j,W.frozen? ⟨y,j,none⟩=false:=by
 refine⟨?_,?_,?_,?_,?_,?_,?_,?_,?_,fun j=>?_⟩ <;> simp[World.cell?,World.frozen?,h]
abbrev s7Z:Obj:=.cells #[.int .u64 0,.int .i64 0,.int .i64 0,.int .i64 0,.int .i64 0,.slice none 0 0,.slice none 0 0,.slice none 0 0,.slice none 0 0] 38
theorem s7z{W:World}{y:Nat}(h:W.heap[y]?=some s7Z):W.cell? ⟨y,0,none⟩=some (.int .u64 0)∧W.cell? ⟨y,1,none⟩=some (.int .i64 0)∧W.cell? ⟨y,2,none⟩=some (.int .i64 0)∧W.cell? ⟨y,3,none⟩=some (.int .i64 0)∧W.cell? ⟨y,4,none⟩=some (.int .i64 0)∧W.cell? ⟨y,5,none⟩=some (.slice none 0 0)∧W.cell? ⟨y,6,none⟩=some (.slice none 0 0)∧W.cell? ⟨y,7,none⟩=some (.slice none 0 0)∧W.cell? ⟨y,8,none⟩=some (.slice none 0 0)∧∀ j,W.frozen? ⟨y,j,none⟩=false:=by
 refine⟨?_,?_,?_,?_,?_,?_,?_,?_,?_,fun j=>?_⟩ <;> simp[World.cell?,World.frozen?,h]
structure N7(w W:World)(base lim o:Nat)(ga:Option Addr)(gc y k:Nat)(v:Value):Prop where
 z:W.heap[w.heap.size+1]?=some s7Z
 x:W.heap[y]?=some (s7O base (lim:Int) (o:Int) (o:Int) 0 (.slice ga (o+1) gc) (.slice none 0 0) (.slice none 0 0) v)
 yw:w.heap.size≤y∧y≠w.heap.size+1
 q:GS w W 43 1 v k (List.replicate k (.slice none 0 0))
theorem N7.mkA{w W0 w7:World}{base lim o gc:Nat}{ga:Option Addr}(K0:Kt nO w W0)(Y0:W0.heap[w.heap.size+1]?=some s7Z)(kp:Kt nO W0.drew w7):N7 w (w7.alloc (s7O base (lim:Int) (o:Int) (o:Int) 0 (.slice ga (o+1) gc) (.slice none 0 0) (.slice none 0 0) (.slice none 0 0))) base lim o ga gc w7.heap.size 0 (.slice none 0 0):=by
 have k1:Kt nO W0 w7:=nT (Kt.refl nO W0).drew kp;have k2:=k1.alloc (s7O base (lim:Int) (o:Int) (o:Int) 0 (.slice ga (o+1) gc) (.slice none 0 0) (.slice none 0 0) (.slice none 0 0));have h1:=lH Y0;have h2:=k1.size;exact⟨(k2.block _ h1 (fun e=>e)).trans Y0,nH w7 _,by omega,GS.nil _ _ _ _ (nT K0 k2)⟩
theorem N7.mkB{w W0 w7:World}{base lim o gc:Nat}{ga:Option Addr}(K0:Kt nO w W0)(Y0:W0.heap[w.heap.size+1]?=some s7Z)(kp:Kt nO (W0.alloc s7Z).drew w7):N7 w (((((((((w7.setCell ⟨W0.heap.size,0,none⟩ (.int .u64 (base:Int))).setCell ⟨W0.heap.size,1,none⟩ (.int .i64 (lim:Int))).setCell ⟨W0.heap.size,2,none⟩ (.int .i64 (o:Int))).setCell ⟨W0.heap.size,3,none⟩ (.int .i64 (o:Int))).setCell ⟨W0.heap.size,4,none⟩ (.int .i64 0)).setCell ⟨W0.heap.size,5,none⟩ (.slice ga (o+1) gc)).setCell ⟨W0.heap.size,6,none⟩ (.slice none 0 0)).setCell ⟨W0.heap.size,7,none⟩ (.slice none 0 0)).setCell ⟨W0.heap.size,8,none⟩ (.slice none 0 0)) base lim o ga gc W0.heap.size 0 (.slice none 0 0):=by
 have k1:Kt nO W0 w7:=nT ((Kt.refl nO W0).alloc s7Z).drew kp;have h1:=lH Y0;have hy:w7.heap[W0.heap.size]?=some s7Z:=(kp.block _ (lH (show(W0.alloc s7Z).drew.heap[W0.heap.size]?=some s7Z from nH W0 _)) (fun e=>e)).trans (nH W0 _);have hz:w7.heap[w.heap.size+1]?=some s7Z:=(k1.block _ h1 (fun e=>e)).trans Y0;have ks:=(((((((((Kt.refl (fun y=>y=W0.heap.size) w7).setCell (p:=⟨W0.heap.size,0,none⟩) rfl (.int .u64 (base:Int))).setCell (p:=⟨W0.heap.size,1,none⟩) rfl (.int .i64 (lim:Int))).setCell (p:=⟨W0.heap.size,2,none⟩) rfl (.int .i64 (o:Int))).setCell (p:=⟨W0.heap.size,3,none⟩) rfl (.int .i64 (o:Int))).setCell (p:=⟨W0.heap.size,4,none⟩) rfl (.int .i64 0)).setCell (p:=⟨W0.heap.size,5,none⟩) rfl (.slice ga (o+1) gc)).setCell (p:=⟨W0.heap.size,6,none⟩) rfl (.slice none 0 0)).setCell (p:=⟨W0.heap.size,7,none⟩) rfl (.slice none 0 0)).setCell (p:=⟨W0.heap.size,8,none⟩) rfl (.slice none 0 0);have hk:=K0.size;refine⟨(ks.block _ (lH hz) (by omega)).trans hz,?_,by omega,GS.nil _ _ _ _ ((nT K0 k1).trans ks (fun _ _ e=>e) (fun y hy e=>by omega))⟩;have:=zaa (zaa (zaa (zaa (zaa (zaa (zaa (zaa (zaa hy 0 (.int .u64 (base:Int))) 1 (.int .i64 (lim:Int))) 2 (.int .i64 (o:Int))) 3 (.int .i64 (o:Int))) 4 (.int .i64 0)) 5 (.slice ga (o+1) gc)) 6 (.slice none 0 0)) 7 (.slice none 0 0)) 8 (.slice none 0 0);simpa using this
theorem N7.push{w W w':World}{base lim o gc y k g cap:Nat}{ga va:Option Addr}{vc:Nat}(h:N7 w W base lim o ga gc y k (.slice va k vc))(hg2:GS w w' 43 1 (.slice (some ⟨g,0,none⟩) (k + 1) cap) (k + 1) (List.replicate k (.slice none 0 0) ++ [.slice none 0 0]))(hkeep:∀ x,(Value.slice va k vc).ownBlock≠some x→∀ o,W.heap[x]?=some o→w'.heap[x]?=some o):
  w'.heap[y]?=some (s7O base (lim:Int) (o:Int) (o:Int) 0 (.slice ga (o+1) gc) (.slice none 0 0) (.slice none 0 0) (.slice va k vc))∧N7 w (w'.setCell ⟨y,8,none⟩ (.slice (some ⟨g,0,none⟩) (k+1) cap)) base lim o ga gc y (k+1) (.slice (some ⟨g,0,none⟩) (k+1) cap):=by
 have no:∀ b ob,W.heap[b]?=some (.cells ob 38)→(Value.slice va k vc).ownBlock≠some b:=fun b ob hb e=>by
  rcases h.q.own.2 with ⟨h0,_⟩|⟨g2,c2,cur,h0,hb2,hgg,_⟩
  ·rw[h0] at e;simp[Value.ownBlock] at e
  ·rw[h0] at e;simp[Value.ownBlock] at e;exact zag hgg hb (by decide) e
 have hz':=hkeep _ (no _ _ h.z) _ h.z;have hx':=hkeep _ (no _ _ h.x) _ h.x;have ks:Kt (fun b=>b=y) w' (w'.setCell ⟨y,8,none⟩ (.slice (some ⟨g,0,none⟩) (k+1) cap)):=(Kt.refl (fun b=>b=y) w').setCell (p:=⟨y,8,none⟩) rfl _;have g3:=hg2.keptN ks (fun b hb e=>by
  rcases hg2.own.2 with ⟨h0,_⟩|⟨g2,c2,cur,h0,hb2,hgg,h3⟩
  ·simp at h0
  ·rw[h0] at hb;simp[Value.ownBlock] at hb;subst hb;exact zag hgg hx' (by decide) e) (fun b e=>by rw[show b=y from e];exact h.yw.1)
 refine⟨hx',(ks.block _ (lH hz') (fun e=>h.yw.2 e.symm)).trans hz',?_,h.yw,by rw[List.replicate_succ'];exact g3⟩;have:=zaa hx' 8 (.slice (some ⟨g,0,none⟩) (k+1) cap);simpa using this
def znv(w:World)(base lim o:Nat)(e:Ending)(w':World):Prop:=∃ ga gc qa qc,e=.returned (s7V base (lim:Int) (o:Int) (o:Int) 0 (.slice ga (o+1) gc) (.slice none 0 0) (.slice none 0 0) (.slice qa 8 qc))∧Kt nO w w'
theorem znw(base lim o:Nat)(ho:o≤8)(w:World):
  Calls Tryz.prog 35 #[cfgV base (lim:Int) (o:Int)] w fun e w'=>znv w base lim o e w':=by
 have X0:=hid (show((w.alloc (cfgO base (lim:Int) (o:Int))).alloc s7Z).heap[w.heap.size]?=some (cfgO base (lim:Int) (o:Int))from(two5 w _ _).2.1);have Y0:=hid (show((w.alloc (cfgO base (lim:Int) (o:Int))).alloc s7Z).heap[w.heap.size+1]?=some s7Z from(two5 w _ _).2.2);have K0:=hid (show Kt nO w ((w.alloc (cfgO base (lim:Int) (o:Int))).alloc s7Z)from(two5 w _ _).1);go_enter Tryz.func35,Tryz.ntmps35;go_upto_region 1 with fail;generalize (w.alloc (cfgO base (lim:Int) (o:Int))).alloc s7Z=W0 at *;have X1:=hid (((Kt.refl nO W0).drew.block _ (lH X0.out) (fun e=>e)).trans X0.out);have Z1:=hid (show(W0.alloc s7Z).drew.heap[w.heap.size]?=some (cfgO base (lim:Int) (o:Int))from((((Kt.refl nO W0).alloc _).drew).block _ (lH X0.out) (fun e=>e)).trans X0.out);have NA:=hid (zkB o ho W0.drew);have NB:=hid (zkB o ho (W0.alloc s7Z).drew);obtain⟨x0,x1,x2⟩:=cfg3 X0.out;have ZY:=hid (show(W0.alloc s7Z).drew.heap[W0.heap.size]?=some s7Z from nH W0 _);have Z2:=hid (show(W0.alloc s7Z).heap[w.heap.size]?=some (cfgO base (lim:Int) (o:Int))from(((Kt.refl nO W0).alloc _).block _ (lH X0.out) (fun e=>e)).trans X0.out);obtain⟨z0,z1,z2⟩:=cfg3 Z2.out;go_cut [3] (fun s3 W=>∃ y ga gc,s3=.pointer (some ⟨y,0,none⟩)∧Hid (N7 w W base lim o ga gc y 0 (.slice none 0 0)))
 case first=>
  go_region_with (first
   | (go_at_call 84;(with_reducible refine NA.out.mono ?_);rintro e w7 ⟨ga,gc,rfl,hgs⟩;obtain⟨y0,y1,y2⟩:=cfg3 ((hgs.kp.block _ (lH X1.out) (fun x=>x)).trans X1.out);have q0:(w7.alloc s7Z).cell? ⟨w.heap.size,0,none⟩=some (.int .u64 (base:Int)):=aCL y0;have q1:(w7.alloc s7Z).cell? ⟨w.heap.size,1,none⟩=some (.int .i64 (lim:Int)):=aCL y1;have q2:(w7.alloc s7Z).cell? ⟨w.heap.size,2,none⟩=some (.int .i64 (o:Int)):=aCL y2;have D7:=hid (N7.mkA (base:=base) (lim:=lim) (o:=o) (ga:=ga) (gc:=gc) K0.out Y0.out hgs.kp);clear hgs)
   | (go_at_call 84;(with_reducible refine NB.out.mono ?_);rintro e w7 ⟨ga,gc,rfl,hgs⟩;obtain⟨y0,y1,y2⟩:=cfg3 ((hgs.kp.block _ (lH Z1.out) (fun x=>x)).trans Z1.out);obtain⟨v0,v1,v2,v3,v4,v5,v6,v7,v8,vf⟩:=s7z ((hgs.kp.block _ (lH ZY.out) (fun x=>x)).trans ZY.out);have D7:=hid (N7.mkB (base:=base) (lim:=lim) (o:=o) (ga:=ga) (gc:=gc) K0.out Y0.out hgs.kp);clear hgs)
   | fail)
  all_goals
   first|go_meet|(go_wp2_with fail;go_meet)|(simp only[Exit.then];go_meet)
   case rel=>exact⟨_,_,_,rfl,D7⟩
 case rest=>
 obtain⟨y,ga,gc,rfl,HC⟩:=hcut;clear X0 Y0 K0 X1 Z1 NA NB x0 x1 x2 ZY Z2 z0 z1 z2;go_wp2_with fail;go_loopw [4] (fun i W=>∃ k:Nat,k≤8∧i=.int .i64 k∧Hid (∃ va vc,N7 w W base lim o ga gc y k (.slice va k vc))) (fun i _=>8-(intOf i).toNat)
 case atStart=>exact⟨0,by omega,rfl,⟨none,0,HC.out⟩⟩
 case round=>
  clear HC;obtain⟨k,hk,rfl,hR⟩:=hrel;obtain⟨va,vc,hR⟩:=hR.out;have HR:=hid hR;obtain⟨x0,x1,x2,x3,x4,x5,x6,x7,x8,fx⟩:=s7c hR.x;clear hR;by_cases hlt:k<8
  ·have hki:(k:Int)<8:=(by omega);obtain⟨g,cap,w',hap,hg2,hge,hkeep⟩:=zgG HR.out.q (by omega);have hP:=HR.out.push hg2 hkeep;obtain⟨z0,z1,z2,z3,z4,z5,z6,z7,z8,fz⟩:=s7c hP.1;have D:=hid hP.2;have HAP:=hid hap;clear hap hg2 hkeep hP;go_wp2_with (at_builtin;refine Lib.wpList_append_run _ rfl _ _ _ _ rfl (.slice va k vc) (.slice (some ⟨wr.heap.size,0,none⟩) 1 1) rfl rfl _ _ (HAP.out _) ?_)
   exact⟨⟨k+1,by omega,by simp,⟨_,_,D.out⟩⟩,by simp[intOf];omega⟩
  ·have hki:¬(k:Int)<8:=(by omega);have hko:k=8:=(by omega);subst hko;obtain⟨y0,y1,y2,y3,y4,y5,y6,y7,y8,fy⟩:=s7z HR.out.z;have HF:=hid (show ∀ u0 u1 u2 u3 u4 u5 u6 u7 u8,Kt nO w (((((((((wr.setCell ⟨w.heap.size+1,0,none⟩ u0).setCell ⟨w.heap.size+1,1,none⟩ u1).setCell ⟨w.heap.size+1,2,none⟩ u2).setCell ⟨w.heap.size+1,3,none⟩ u3).setCell ⟨w.heap.size+1,4,none⟩ u4).setCell ⟨w.heap.size+1,5,none⟩ u5).setCell ⟨w.heap.size+1,6,none⟩ u6).setCell ⟨w.heap.size+1,7,none⟩ u7).setCell ⟨w.heap.size+1,8,none⟩ u8)from fun u0 u1 u2 u3 u4 u5 u6 u7 u8=>by
    have nn:¬w.heap.size+1<w.heap.size:=(by omega);exact((((((((HR.out.q.kp.setNew (p:=⟨w.heap.size+1,0,none⟩) nn u0).setNew (p:=⟨w.heap.size+1,1,none⟩) nn u1).setNew (p:=⟨w.heap.size+1,2,none⟩) nn u2).setNew (p:=⟨w.heap.size+1,3,none⟩) nn u3).setNew (p:=⟨w.heap.size+1,4,none⟩) nn u4).setNew (p:=⟨w.heap.size+1,5,none⟩) nn u5).setNew (p:=⟨w.heap.size+1,6,none⟩) nn u6).setNew (p:=⟨w.heap.size+1,7,none⟩) nn u7).setNew (p:=⟨w.heap.size+1,8,none⟩) nn u8)
   clear HR;go_wp2_with fail;exact⟨rfl,s7V base (lim:Int) (o:Int) (o:Int) 0 (.slice ga (o+1) gc) (.slice none 0 0) (.slice none 0 0) (.slice va 8 vc),by simp[results,Tryz.results35,go_sem,y0,y1,y2,y3,y4,y5,y6,y7,y8],_,_,_,_,rfl,HF.out _ _ _ _ _ _ _ _ _⟩
end Go.Proofs.YtgjdmkfpmokkaaaGreatDoor
