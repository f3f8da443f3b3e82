import Derived.Test.YtgjdmkfpmokkaaaGreatDoorYg
import Derived.Test.YtgjdmkfpmokkaaaGreatDoorYh
set_option maxRecDepth 1000000
set_option maxHeartbeats 80000000
namespace Go.Proofs.YtgjdmkfpmokkaaaGreatDoor
open Go.RowKit
set_option linter.unusedVariables false
structure GA(w0 W:World)(g n cap:Nat)(xs:List Value):Prop where
 len:xs.length=n
 bx:∃ cs t,W.heap[g]?=some (.cells cs t (0,0))∧cs.toList.take n=xs
 ow:cap=n∨W.ownsRow 0 3 1 (.slice (some ⟨g,0,none⟩) n cap) n xs
 nw:w0.heap.size≤g
 kp:Kt nO w0 W
theorem GA.get{w0 W g n cap xs}(h:GA w0 W g n cap xs){i:Nat}{u:Value}(hu:xs[i]?=some u):W.cell? ⟨g,i,none⟩=some u:=by
 obtain⟨cs,t,h1,h2⟩:=h.bx;rw[←h2,List.getElem?_take] at hu;split at hu
 ·simp only[World.cell?,h1];rw[←Array.getElem?_toList,hu];rfl
 ·cases hu
theorem GA.fro{w0 W g n cap xs}(h:GA w0 W g n cap xs)(i:Nat):W.frozen? ⟨g,i,none⟩=false:=by
 obtain⟨cs,t,h1,h2⟩:=h.bx;simp[World.frozen?,h1]
theorem zkC{W:World}{b:Nat}{e:TypeId}{g n vc:Nat}{xs:List Value}(h:W.ownsRow b e 1 (.slice (some ⟨g,0,none⟩) n vc) n xs)(i:Nat)(u:Value):(W.setCell ⟨g,i,none⟩ u).ownsRow b e 1 (.slice (some ⟨g,0,none⟩) n vc) n (xs.set i u):=by
 refine⟨by rw[List.length_set];exact h.1,?_⟩;rcases h.2 with ⟨h0,h1⟩|⟨g',cap,cur,h0,hb,hg',hnc,hcm,hcs,htake⟩
 ·exact .inl ⟨h0,h1⟩
 ·injection h0 with h0a h0b h0c
  injection h0a with h0a
  injection h0a with h0a
  subst h0a;refine .inr ⟨g,cap,cur.setIfInBounds i u,by rw[h0c],hb,hS9 hg' i u,hnc,hcm,by simpa using hcs,?_⟩;rw[Array.toList_setIfInBounds,List.take_set,htake]
theorem GA.set{w0 W g n cap xs}(h:GA w0 W g n cap xs)(i:Nat)(u:Value):GA w0 (W.setCell ⟨g,i,none⟩ u) g n cap (xs.set i u):=by
 obtain⟨cs,t,h1,h2⟩:=h.bx;have ks:Kt (fun y=>y=g) W (W.setCell ⟨g,i,none⟩ u):=(Kt.refl (fun y=>y=g) W).setCell (p:=⟨g,i,none⟩) rfl u;have hn:=h.nw;refine⟨by rw[List.length_set];exact h.len,⟨cs.setIfInBounds i u,t,hS9 h1 i u,by rw[Array.toList_setIfInBounds,List.take_set,h2]⟩,h.ow.imp_right (fun e=>zkC e i u),hn,h.kp.trans ks (fun _ _ e=>e) (fun y hy e=>by have e:y=g:=e;omega)⟩
theorem GA.keptN{w0 W W' g n cap xs}{S:Nat→Prop}(h:GA w0 W g n cap xs)(k:Kt S W W')(hS:¬S g)(h0:∀ x,S x→w0.heap.size≤x):GA w0 W' g n cap xs:=by
 obtain⟨cs,t,h1,h2⟩:=h.bx;exact⟨h.len,⟨cs,t,(k.block g (lH h1) hS).trans h1,h2⟩,h.ow.imp_right (fun e=>zaf e k (fun x ex=>by simp[Value.ownBlock] at ex;rw[←ex];exact hS)),h.nw,h.kp.trans k (fun _ _ x=>x) (fun x hx e=>absurd (h0 x e) (by omega))⟩
theorem GA.keep{w0 W W' g n cap xs}(h:GA w0 W g n cap xs)(k:Kt nO W W'):GA w0 W' g n cap xs:=h.keptN k (fun e=>e) (fun _ e=>e.elim)
theorem GA.of{w0 W g n cap xs}(h:GS w0 W 3 1 (.slice (some ⟨g,0,none⟩) n cap) n xs)(hg:w0.heap.size≤g):GA w0 W g n cap xs:=by
 have hl:=h.own.1;rw[Nat.mul_one] at hl;refine⟨hl,?_,.inr h.own,hg,h.kp⟩;rcases h.own.2 with ⟨h0,_⟩|⟨g',cap',cur,h0,hb,hg',hnc,hcm,hcs,htake⟩
 ·cases h0
 ·injection h0 with h0a h0b h0c
  injection h0a with h0a
  injection h0a with h0a
  subst h0a;rw[Nat.mul_one] at htake;exact⟨cur,_,hg',htake⟩
theorem GA.push{w0 W g n cap xs}(h:GA w0 W g n cap xs)(y:Int)(hn:n≤2000):
  ∃ g' cap' w',(∀ ty,(Builtin.append_ #[43,43] ty #[.slice (some ⟨g,0,none⟩) n cap,.slice (some ⟨W.heap.size,0,none⟩) 1 1]).run Tryz.prog (W.alloc (.cells #[.int .i64 y] 3))=.ok (.slice (some ⟨g',0,none⟩) (n + 1) cap') w')∧GA w0 w' g' (n + 1) cap' (xs ++ [.int .i64 y])∧(∀ x,x≠g→∀ o,W.heap[x]?=some o→w'.heap[x]?=some o)∧(g'=g∨W.heap.size≤g'):=by
 obtain⟨i,hi,hzz⟩:=Option.map_eq_some_iff.1 zgC;simp only[Prod.mk.injEq] at hzz;have ka:=(Kt.refl nO W).alloc (.cells #[.int .i64 y] 3);rcases h.ow with hc|ho
 ·subst hc;have hx:=h.len;obtain⟨v',w',hrun,hown,hgr⟩:=run_append_arg_grows (P:=Tryz.prog) (W.alloc (.cells #[.int .i64 y] 3)) 43 0 3 i (.int .i64 0) 1 8 Tryz.underlying43 hi hzz.1 hzz.2.1 hzz.2.2 rfl (by decide) ⟨g,0,none⟩ cap cap xs (by omega) (fun j u hj=>by
   rw[Addr.add_lit,Nat.zero_add];exact(h.keep ka).get hj) ⟨W.heap.size,0,none⟩ 1 1 [.int .i64 y] rfl (fun j u hj=>zaD (cs:=#[.int .i64 y]) j u hj) (by omega) (by simp only[maxLen];omega) (by omega)
  have hk:Kt nO (W.alloc (.cells #[.int .i64 y] 3)) w':=(zal hgr).mono (fun _ _ e=>by cases e);have hk2:=nT ka hk;rcases hown.2 with ⟨_,h0⟩|⟨g',cap',cur,rfl,hb,hg,h3⟩
  ·omega
  ·have hw:=Nat.le_trans ka.size hb;refine⟨g',cap',w',fun ty=>?_,GA.of ⟨⟨hown.1,.inr ⟨g',cap',cur,rfl,Nat.zero_le _,hg,h3⟩⟩,fun g2 cap2 e=>?_,nT h.kp hk2⟩ (Nat.le_trans h.kp.size hw),fun x hx o ho=>(hk2.block x (lH ho) (fun x=>x)).trans ho,.inr hw⟩
   ·rw[←hrun];simp[Builtin.append_]
   ·simp at e;exact .inr (by have:=h.kp.size;omega)
 ·have hG:GS w0 W 3 1 (.slice (some ⟨g,0,none⟩) n cap) n xs:=⟨ho,fun g2 cap2 e=>by simp at e;exact .inr (by have:=h.nw;omega),h.kp⟩;obtain⟨g',cap',w',h1,h2,h5,h4,h6⟩:=(hG.keep ka).push2 43 i (.int .i64 0) 8 Tryz.underlying43 hi hzz.1 hzz.2.1 hzz.2.2 rfl (by decide) ⟨W.heap.size,0,none⟩ 1 [.int .i64 y] rfl (fun j u hj=>zaD (cs:=#[.int .i64 y]) j u hj) (by simp[Value.oneCell']) (by simp only[maxLen];omega) (by omega);exact⟨g',cap',w',h1,GA.of h2 h5,fun x hx o ho=>h4 x (fun e=>hx (by simp[Value.ownBlock] at e;exact e.symm)) o ((ka.block x (lH ho) (fun x=>x)).trans ho),h6.imp (fun e=>by simp[Value.ownBlock] at e;exact e.symm) (fun e=>Nat.le_trans ka.size e)⟩
structure Tn(w0 W:World)(va n ca vb m cb:Nat)(xs ys:List Value):Prop where
 a:GA w0 W va n ca xs
 b:GA w0 W vb m cb ys
 ne:va≠vb
theorem Tn.seta{w0 W va n ca vb m cb xs ys}(h:Tn w0 W va n ca vb m cb xs ys)(i:Nat)(u:Value):Tn w0 (W.setCell ⟨va,i,none⟩ u) va n ca vb m cb (xs.set i u) ys:=by
 have ks:Kt (fun y=>y=va) W (W.setCell ⟨va,i,none⟩ u):=(Kt.refl (fun y=>y=va) W).setCell (p:=⟨va,i,none⟩) rfl u;exact⟨h.a.set i u,h.b.keptN ks (fun e=>h.ne e.symm) (fun y e=>by have e:y=va:=e;subst e;exact h.a.nw),h.ne⟩
theorem Tn.swap{w0 W va n ca vb m cb xs ys}(h:Tn w0 W va n ca vb m cb xs ys):Tn w0 W vb m cb va n ca ys xs:=⟨h.b,h.a,fun e=>h.ne e.symm⟩
theorem Tn.pusha{w0 W va n ca vb m cb xs ys}(h:Tn w0 W va n ca vb m cb xs ys)(y:Int)(hn:n≤2000):
  ∃ g cap w',(∀ ty,(Builtin.append_ #[43,43] ty #[.slice (some ⟨va,0,none⟩) n ca,.slice (some ⟨W.heap.size,0,none⟩) 1 1]).run Tryz.prog (W.alloc (.cells #[.int .i64 y] 3))=.ok (.slice (some ⟨g,0,none⟩) (n + 1) cap) w')∧Tn w0 w' g (n + 1) cap vb m cb (xs ++ [.int .i64 y]) ys:=by
 obtain⟨g,cap,w',h1,h2,h4,h5⟩:=h.a.push y hn;obtain⟨cs,t,b1,b2⟩:=h.b.bx;have hlt:=lH b1;have hne:g≠vb:=by
  rcases h5 with e|e
  ·rw[e];exact h.ne
  ·omega
 refine⟨g,cap,w',h1,h2,⟨h.b.len,⟨cs,t,h4 _ (fun e=>h.ne e.symm) _ b1,b2⟩,?_,h.b.nw,h2.kp⟩,hne⟩;rcases h.b.ow with e|ho
 ·exact .inl e
 ·refine .inr ⟨ho.1,?_⟩;rcases ho.2 with h0|⟨g',cap',cur,h0,hb,hg,h6⟩
  ·exact .inl h0
  ·refine .inr ⟨g',cap',cur,h0,hb,h4 g' (fun e=>?_) _ hg,h6⟩;injection h0 with h0a
   injection h0a with h0a
   injection h0a with h0a
   exact h.ne (by omega)
theorem zcs(v u:Value):∀ (xs:List Value) (j:Nat),j<xs.length→(List.replicate j u ++ xs.drop j).set j u=List.replicate (j + 1) u ++ xs.drop (j + 1):=fun xs j hj=>by
 rw[List.set_append_right _ _ (by simp),List.length_replicate,Nat.sub_self,List.drop_eq_getElem_cons hj,List.set_cons_zero,List.replicate_succ',List.append_assoc];rfl
theorem zcS(n:Nat)(u:Value)(i:Nat)(hi:i<n):(List.replicate n u)[i]?=some u:=by simp[hi]
theorem zmZ(w0:World)(va n ca vb m cb:Nat)(xs ys:List Value)(hn:n≤1024)(hm:m≤1024)(W:World)(h:Tn w0 W va n ca vb m cb xs ys):
  Calls Tryz.prog 63 #[.slice (some ⟨va,0,none⟩) n ca,.slice (some ⟨vb,0,none⟩) m cb] W fun e w'=>e=.returned (.bool true)∧Kt nO w0 w':=by
 have hxl:=h.a.len;have hyl:=h.b.len;have H0:=hid h;have HXL:=hid hxl;have HYL:=hid hyl;clear h hxl hyl;go_enter Tryz.func63,Tryz.ntmps63;go_wp2_with fail;go_loopw [5] (fun i W'=>∃ j:Nat,j≤n∧i=.int .i64 j∧Hid (Tn w0 W' va n ca vb m cb (List.replicate j (.int .i64 1001) ++ xs.drop j) ys)) (fun i _=>n-(intOf i).toNat)
 case atStart=>exact⟨0,by omega,rfl,hid (by simpa using H0.out)⟩
 case round=>
  clear H0;obtain⟨j,hj,rfl,hT⟩:=hrel;by_cases hlt:j<n
  ·have hji:(j:Int)<(n:Int):=(by omega);have hl1:(List.replicate j (Value.int .i64 1001) ++ xs.drop j).length=n:=(by have:=hT.out.a.len;omega);have q0:=hT.out.a.get (i:=j) (u:=(List.replicate j (Value.int .i64 1001) ++ xs.drop j)[j]'(by omega)) (List.getElem?_eq_getElem _);have D:=hid (show Tn w0 (wr.setCell ⟨va,j,none⟩ (.int .i64 1001)) va n ca vb m cb (List.replicate (j + 1) (.int .i64 1001) ++ xs.drop (j + 1)) ys from by
    have:=hT.out.seta j (.int .i64 1001);rw[zcs (.int .i64 1001) _ _ _ (by rw[HXL.out];exact hlt)] at this;exact this)
   have fz:=hT.out.a.fro j;generalize (List.replicate j (Value.int .i64 1001) ++ xs.drop j)[j]'(by omega)=old at *;clear hl1;go_wp2_with fail;exact⟨⟨j+1,by omega,by simp,D⟩,by simp[intOf];omega⟩
  ·obtain rfl:j=n:=(by omega);have hji:¬(j:Int)<(j:Int):=(by omega);have T2:=hid (show Tn w0 wr va j ca vb m cb (List.replicate j (.int .i64 1001)) ys from by
    have:=hT.out;rw[List.drop_of_length_le (by rw[HXL.out];exact Nat.le_refl _),List.append_nil] at this;exact this)
   clear hT hj hlt HXL;go_wp2_with fail;clear hji;generalize wr=w1 at *;go_loopw [6] (fun i W'=>∃ a:Nat,a≤m∧i=.int .i64 a∧Hid (Tn w0 W' vb m cb va j ca (List.replicate a (.int .i64 1002) ++ ys.drop a) (List.replicate j (.int .i64 1001)))) (fun i _=>m-(intOf i).toNat)
   case atStart=>exact⟨0,by omega,rfl,hid (by simpa using T2.out.swap)⟩
   case round=>
    clear T2;obtain⟨a,ha,rfl,hT⟩:=hrel;by_cases hlt:a<m
    ·have hai:(a:Int)<(m:Int):=(by omega);have hl1:(List.replicate a (Value.int .i64 1002) ++ ys.drop a).length=m:=(by have:=hT.out.a.len;omega);have q0:=hT.out.a.get (i:=a) (u:=(List.replicate a (Value.int .i64 1002) ++ ys.drop a)[a]'(by omega)) (List.getElem?_eq_getElem _);have D:=hid (show Tn w0 (wr.setCell ⟨vb,a,none⟩ (.int .i64 1002)) vb m cb va j ca (List.replicate (a + 1) (.int .i64 1002) ++ ys.drop (a + 1)) (List.replicate j (.int .i64 1001))from by
      have:=hT.out.seta a (.int .i64 1002);rw[zcs (.int .i64 1002) _ _ _ (by rw[HYL.out];exact hlt)] at this;exact this)
     have fz:=hT.out.a.fro a;generalize (List.replicate a (Value.int .i64 1002) ++ ys.drop a)[a]'(by omega)=old at *;clear hl1;go_wp2_with fail;exact⟨⟨a+1,by omega,by simp,D⟩,by simp[intOf];omega⟩
    ·obtain rfl:a=m:=(by omega);have hai:¬(a:Int)<(a:Int):=(by omega);have T2:=hid (show Tn w0 wr va j ca vb a cb (List.replicate j (.int .i64 1001)) (List.replicate a (.int .i64 1002))from by
      have:=hT.out;rw[List.drop_of_length_le (by rw[HYL.out];exact Nat.le_refl _),List.append_nil] at this;exact this.swap)
     clear hT ha hlt HYL;go_wp2_with fail;clear hai;generalize wr=w2 at *;go_loopw [7,8,9] (fun gv hv i W'=>∃ b:Nat,b≤40∧i=.int .i64 b∧∃ ga gc ha hc,gv=.slice (some ⟨ga,0,none⟩) (j+b) gc∧hv=.slice (some ⟨ha,0,none⟩) (a+b) hc∧Hid (Tn w0 W' ga (j+b) gc ha (a+b) hc (List.replicate (j+b) (.int .i64 1001)) (List.replicate (a+b) (.int .i64 1002)))) (fun _ _ i _=>40-(intOf i).toNat)
     case atStart=>exact⟨0,by omega,rfl,va,ca,vb,cb,rfl,rfl,T2⟩
     case round=>
      clear T2;obtain⟨b,hb,rfl,ga,gc,hha,hhc,rfl,rfl,hT⟩:=hrel;by_cases hlt:b<40
      ·have hbi:(b:Int)<40:=(by omega);obtain⟨g1,cap1,w3,hap1,hT1⟩:=hT.out.pusha 1001 (by omega);obtain⟨g2,cap2,w4,hap2,hT2⟩:=hT1.swap.pusha 1002 (by omega);have D:=hid (show Tn w0 w4 g1 (j+(b+1)) cap1 g2 (a+(b+1)) cap2 (List.replicate (j+(b+1)) (.int .i64 1001)) (List.replicate (a+(b+1)) (.int .i64 1002))from by
        have h3:=hT2.swap;rw[show List.replicate (j + b) (Value.int .i64 1001) ++ [.int .i64 1001]=List.replicate (j + (b + 1)) (.int .i64 1001)from List.replicate_succ'.symm,show List.replicate (a + b) (Value.int .i64 1002) ++ [.int .i64 1002]=List.replicate (a + (b + 1)) (.int .i64 1002)from List.replicate_succ'.symm] at h3;exact h3)
       have HA1:=hid hap1;have HA2:=hid hap2;clear hap1 hap2 hT1 hT2;go_wp2_with (first|(at_builtin;refine Lib.wpList_append_run _ rfl _ _ _ _ rfl (.slice (some ⟨ga,0,none⟩) (j+b) gc) (.slice (some ⟨wr.heap.size,0,none⟩) 1 1) rfl rfl _ _ (HA1.out _) ?_)|(at_builtin;refine Lib.wpList_append_run _ rfl _ _ _ _ rfl (.slice (some ⟨hha,0,none⟩) (a+b) hhc) (.slice (some ⟨w3.heap.size,0,none⟩) 1 1) rfl rfl _ _ (HA2.out _) ?_))
       exact⟨⟨b+1,by omega,by simp,_,_,_,_,by rw[Nat.add_assoc],by rw[Nat.add_assoc],D⟩,by simp[intOf];omega⟩
      ·obtain rfl:b=40:=(by omega);have hbi:¬(((40:Nat):Int)<40):=(by decide);have T2:=hid hT.out;have KF:=hid hT.out.a.kp;clear hT hb hlt;go_wp2_with fail;generalize wr=w3 at *;go_loopw [10] (fun i W'=>∃ q:Nat,q≤j+40∧i=.int .i64 q∧Hid (Kt nO w3 W')) (fun i _=>j+40-(intOf i).toNat)
       case atStart=>exact⟨0,by omega,rfl,hid (Kt.refl nO w3)⟩
       case round=>
        obtain⟨q,hq,rfl,hK⟩:=hrel;have KD:=hid (fun m=>nT hK.out ((Kt.refl nO wr).drewN m));by_cases hlt:q<j+40
        ·have hqi:(q:Int)<(j:Int)+40:=(by omega);have q0:=(T2.out.a.keep hK.out).get (i:=q) (u:=.int .i64 1001) (zcS _ _ q hlt);go_wp2_with fail;exact⟨⟨q+1,by omega,by simp,hK⟩,by simp[intOf];omega⟩
        ·obtain rfl:q=j+40:=(by omega);have hqi:¬(((j+40:Nat):Int)<(j:Int)+40):=(by omega);have hqi2:¬((j:Int)+40<(j:Int)+40):=(by omega);go_wp2_with fail;generalize wr=w4 at *;clear hqi hqi2 hq hlt KD;go_loopw [11] (fun i W'=>∃ q:Nat,q≤a+40∧i=.int .i64 q∧Hid (Kt nO w3 W')) (fun i _=>a+40-(intOf i).toNat)
         case atStart=>exact⟨0,by omega,rfl,hK⟩
         case round=>
          clear hK;obtain⟨q,hq,rfl,hK⟩:=hrel;by_cases hlt:q<a+40
          ·have hqi:(q:Int)<(a:Int)+40:=(by omega);have q0:=(T2.out.b.keep hK.out).get (i:=q) (u:=.int .i64 1002) (zcS _ _ q hlt);go_wp2_with fail;exact⟨⟨q+1,by omega,by simp,hK⟩,by simp[intOf];omega⟩
          ·obtain rfl:q=a+40:=(by omega);have hqi:¬(((a+40:Nat):Int)<(a:Int)+40):=(by omega);have hqi2:¬((a:Int)+40<(a:Int)+40):=(by omega);go_wp2_with fail;go_ret;exact⟨rfl,nT KF.out hK.out⟩
theorem zjq(pl:Nat→List Nat){n k:Nat}(hk:k<n):(hdL pl n)[k]?=some (.int .i64 (hdI (pl k))):=by
 unfold hdL;rw[List.getElem?_map,List.getElem?_range hk];rfl
theorem zcB{W:World}{b:Nat}{va:Option Addr}{vc:Nat}{pl:Nat→List Nat}(h:W.ownsRow b 3 1 (.slice va 8 vc) 8 (hdL pl 8)):∃ g,va=some ⟨g,0,none⟩∧NumC W g 8 (fun k=>hdI (pl k)):=by
 obtain⟨g,hg,_⟩:=zaF h (zjq pl (show 0<8 by decide));refine⟨g,hg,fun k hk=>?_⟩;obtain⟨g',hg',h2⟩:=zaF h (zjq pl hk);rw[hg] at hg'
 cases hg'
 exact h2
theorem zfF{W:World}{g:Nat}{h:Nat→Int}{pl:Nat→List Nat}(hb:W.heap[g]?=some (hdO h))(hd:∀ k,k<8→h k=hdI (pl k)):NumC W g 8 (fun k=>hdI (pl k)):=fun j hj=>by
 show W.cell? _=some (.int .i64 (hdI (pl j)))
 rw[←hd j hj];rcases j with _|_|_|_|_|_|_|_|j
 all_goals first|(simp[World.cell?,hb];done)|omega
theorem ze6{w0 W:World}{g:Nat}{h:Nat→Int}(hb:W.heap[g]?=some (hdO h))(hg:w0.heap.size≤g)(k:Kt nO w0 W):GA w0 W g 8 8 [.int .i64 (h 0),.int .i64 (h 1),.int .i64 (h 2),.int .i64 (h 3),.int .i64 (h 4),.int .i64 (h 5),.int .i64 (h 6),.int .i64 (h 7)]:=
 ⟨rfl,⟨_,_,hb,rfl⟩,.inl rfl,hg,k⟩
theorem Tn.keep{w0 W W' va n ca vb m cb xs ys}(h:Tn w0 W va n ca vb m cb xs ys)(k:Kt nO W W'):Tn w0 W' va n ca vb m cb xs ys:=⟨h.a.keep k,h.b.keep k,h.ne⟩
theorem ze7{w W wb lw sb x t fr ls S al c fa fc va vc ca cc pa pc}(L:L7 w W wb lw sb x t fr ls S al c fa fc va vc ca cc pa pc)(N rf:Int)(dn:Bool)(P:Int)(p:Nat):
  Calls Tryz.prog 21 #[.pointer (some ⟨wb,0,none⟩),stV 6 N rf dn P,.int .u64 (p:Int)] W fun e w'=>e=.returned (.bool true)∧St7 w W wb lw (c+1) x sb w':=by
 obtain⟨h0,o0⟩:=L.so;have ka:=(Kt.refl nO W).alloc (stO 6 N rf dn P);have K0:=hid ka;have Y0:=hid (nH W (stO 6 N rf dn P));have HST:=hid (fun W' (kk:Kt nO W W')=>L.st kk);have PR:=hid (fun W' (kk:Kt nO W W')=>zb7 (o0.keep kk).sw);have PN:=hid (fun (W':World) (g:Nat) (kk:W'.heap[g]?=some (hdO h0))=>zfF kk o0.hd);have HD:=hid (fun W' (kk:Kt nO W W')=>zjn x.base (x.lim:Int) (x.o:Int) (x.o:Int) (t.m.n:Int) (.slice fa (x.o+1) fc) (.slice va ls.length vc) (.slice ca al.length cc) pa pc S.pl W' (L.keep kk).d.pr);have BX:=hid (fun W' (kk:Kt nO W W')=>(L.keep kk).bx);generalize ls.length=m at *;generalize al.length=n at *;generalize x.base=b at *;generalize x.lim=l at *;generalize x.o=oo at *;generalize t.m.n=Pn at *;clear L o0 ka;go_enter Tryz.func21,Tryz.ntmps21;go_upto_region 1 with fail;generalize W.alloc (stO 6 N rf dn P)=W0 at *;obtain⟨y0,y1,y2,y3,y4⟩:=stc Y0.out;obtain⟨c0,c1,c2,c3,c4,c5,c6,c7,c8,c9,c10,c11,c12,c13,cf⟩:=wc7 (BX.out _ K0.out);go_wp2_with fail;refine(PR.out _ K0.out).mono ?_;rintro e w1 ⟨g1,rfl,hb1,hk1,hs1⟩;have K1:=hid (nT K0.out hk1);have A1:=hid hb1;have J1:=hid hk1;have S1:=hid hs1;clear hb1 hk1 hs1 c0 c1 c2 c3 c4 c5 c6 c7 c8 c9 c10 c11 c12 c13 cf y0 y1 y2 y3 y4;obtain⟨c0,c1,c2,c3,c4,c5,c6,c7,c8,c9,c10,c11,c12,c13,cf⟩:=wc7 (BX.out _ K1.out);go_wp2_with fail;refine(PR.out _ K1.out).mono ?_;rintro e w2 ⟨g2,rfl,hb2,hk2,hs2⟩;have K2:=hid (nT K1.out hk2);have hA1:=(hk2.block _ (lH A1.out) (fun e=>e)).trans A1.out;have TW:=hid (show Tn W0 w2 g1 8 8 g2 8 8 _ _ from⟨ze6 hA1 S1.out (nT J1.out hk2),ze6 hb2 (Nat.le_trans J1.out.size hs2) (nT J1.out hk2),by have:=lH A1.out;omega⟩);have N1:=hid (PN.out _ _ hA1);have N2:=hid (PN.out _ _ hb2);clear hb2 hk2 hs2 hA1 c0 c1 c2 c3 c4 c5 c6 c7 c8 c9 c10 c11 c12 c13 cf A1 J1 S1 K1;obtain⟨c0,c1,c2,c3,c4,c5,c6,c7,c8,c9,c10,c11,c12,c13,cf⟩:=wc7 (BX.out _ K2.out);go_wp2_with fail;refine(HD.out _ K2.out).mono ?_;rintro e w5 ⟨va5,vc5,rfl,hk5,hr5⟩;have K5:=hid (nT K2.out hk5);obtain⟨g5,hg5,hn5⟩:=zcB hr5;subst hg5;have T5:=hid (TW.out.keep hk5);have M1:=hid (N1.out.keep hk5);have M2:=hid (N2.out.keep hk5);have N5:=hid hn5;clear hk5 hr5 hn5 N1 N2 TW c0 c1 c2 c3 c4 c5 c6 c7 c8 c9 c10 c11 c12 c13 cf;go_wp2_with fail;refine(zeb g1 g5 8 8 vc5 _ (by omega) _ M1.out N5.out).mono ?_;rintro e w6 ⟨rfl,hk6⟩;have K6:=hid (nT K5.out hk6);have T6:=hid (T5.out.keep hk6);have P1:=hid (M1.out.keep hk6);have P2:=hid (M2.out.keep hk6);clear hk6 M1 M2 T5 N5;go_wp2_with fail;refine(zeb g2 g1 8 8 8 _ (by omega) _ P2.out P1.out).mono ?_;rintro e w7 ⟨rfl,hk7⟩;have K7:=hid (nT K6.out hk7);have T7:=hid (T6.out.keep hk7);clear hk7 P1 P2 T6;go_upto_region 20 with fail;have KD:=hid (nT K7.out ((Kt.refl nO w7).drew));have TD:=hid (T7.out.keep ((Kt.refl nO w7).drew));clear T7 K5 K6 K7 K2;obtain⟨c0,c1,c2,c3,c4,c5,c6,c7,c8,c9,c10,c11,c12,c13,cf⟩:=wc7 (BX.out _ KD.out);go_wp2_with fail;go_region_held3 (fun w'=>w'.cell? ⟨wb,4,none⟩=some (.pointer (some ⟨sb,0,none⟩))∧w'.cell? ⟨wb,5,none⟩=some (.int .u64 (b:Int))∧w'.cell? ⟨wb,6,none⟩=some (.int .i64 (l:Int))∧w'.cell? ⟨wb,7,none⟩=some (.int .i64 (oo:Int))∧w'.cell? ⟨wb,8,none⟩=some (.int .i64 (oo:Int))∧w'.cell? ⟨wb,9,none⟩=some (.int .i64 (Pn:Int))∧w'.cell? ⟨wb,10,none⟩=some (.slice fa (oo+1) fc)∧w'.cell? ⟨wb,11,none⟩=some (.slice va m vc)∧w'.cell? ⟨wb,12,none⟩=some (.slice ca n cc)∧w'.cell? ⟨wb,13,none⟩=some (.slice pa 8 pc)) ((refine⟨?_,?_,?_,?_,?_,?_,?_,?_,?_,?_⟩ <;> with_reducible assumption)) (first
  | (go_at_call 63;(with_reducible refine(zmZ W0 g1 8 8 g2 8 8 _ _ (by omega) (by omega) _ TD.out).mono ?_);rintro e w8 ⟨rfl,hk8⟩;have K8:=hid (nT K0.out hk8);obtain⟨d0,d1,d2,d3,d4,d5,d6,d7,d8,d9,d10,d11,d12,d13,df⟩:=wc7 (BX.out _ K8.out);clear hk8)
  | (go_at_call 11;(with_reducible refine(PR.out _ K8.out).mono ?_);rintro e w9 ⟨g9,rfl,hb9,hk9,hs9⟩;have K9:=hid (nT K8.out hk9);have N9:=hid (PN.out _ _ hb9);obtain⟨e0,e1,e2,e3,e4,e5,e6,e7,e8,e9,e10,e11,e12,e13,ef⟩:=wc7 (BX.out _ K9.out);clear hk9 hb9 hs9)
  | (go_at_call 62;(with_reducible refine(HD.out _ K9.out).mono ?_);rintro e w10 ⟨va10,vc10,rfl,hk10,hr10⟩;have K10:=hid (nT K9.out hk10);have M9:=hid (N9.out.keep hk10);obtain⟨g10,hg10,hn10⟩:=zcB hr10;subst hg10;have N10:=hid hn10;obtain⟨f0,f1,f2,f3,f4,f5,f6,f7,f8,f9,f10,f11,f12,f13,ff⟩:=wc7 (BX.out _ K10.out);clear hk10 hr10 hn10)
  | (go_at_call 10;(with_reducible refine(zeb g9 g10 8 8 vc10 _ (by omega) _ M9.out N10.out).mono ?_);rintro e w11 ⟨rfl,hk11⟩;have K11:=hid (nT K10.out hk11);obtain⟨g0,g1,g2,g3,g4,g5,g6,g7,g8,g9,g10,g11,g12,g13,gf⟩:=wc7 (BX.out _ K11.out);clear hk11)
  | fail)
 all_goals
  have D:=hid (HST.out _ K11.out);go_wp2_with fail;go_ret;exact⟨rfl,D.out⟩
end Go.Proofs.YtgjdmkfpmokkaaaGreatDoor
