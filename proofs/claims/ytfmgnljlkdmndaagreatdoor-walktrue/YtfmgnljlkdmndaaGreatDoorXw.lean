import Derived.Test.YtfmgnljlkdmndaaGreatDoorXv
import Derived.Test.YtfmgnljlkdmndaaGreatDoorWa
set_option maxRecDepth 1000000
set_option maxHeartbeats 80000000
namespace Go.Proofs.YtfmgnljlkdmndaaGreatDoor.W
open Tryz
open Go.RowKit
set_option linter.unusedVariables false
theorem FX(w:World):Calls prog 17 #[] w fun e w'=>∃ V,e=.returned (imA bM V)/\VoK w.heap.size w' V/\Kt nO w w':=by
 go_enter func17,ntmps17;go_wp2_with fail;rename_i K hK;refine wp_region_inv (by kernel_rfl) (fun ls a W=>∃ v5 v6 v7 v8 v9 v10 v11 v12 r s,IV w.heap.size (rB w).drew K ls a W v5 v6 v7 v8 v9 v10 v11 v12 r s) ?_ ?_ ?_
 ·refine⟨_,_,_,_,_,_,_,_,_,_,rfl,by simp,fun _=>Kt.refl _ _,?_,?_,?_,?_,?_,?_,?_,?_,?_,?_,?_⟩ <;> simp
 ·rintro ls a W i ⟨v5,v6,v7,v8,v9,v10,v11,v12,r,s,h⟩ hi;obtain⟨f,o,v,hd⟩:=mem_ready.1 hi;have ha:=h.ea;subst ha;have a0:i<11:=by
   rcases Nat.lt_or_ge i 11 with y|y
   ·exact y
   ·rw[Array.getElem?_eq_none (by simpa using y)] at v
    cases v
  have c:ls.getD 10 false=false:=by
   cases h10:ls.getD 10 false with
   | false=>rfl
   | true=>
    have hf:=DM f;rcases Nat.lt_or_ge i 10 with y|y
    ·rw[(h.s10 h10).1 i y] at hf;cases hf
    ·have:i=10:=by omega
     subst this;rw[h10] at hf;cases hf
  have I:=h.k c;have b1:W.heap[w.heap.size+1]?=some (jW fR):=(I.block _ (lH (qZ w)) (fun x=>x)).trans (qZ w);have b2:W.heap[w.heap.size+1+1]?=some (jW reP):=(I.block _ (lH (qY w)) (fun x=>x)).trans (qY w);have b0:W.heap[w.heap.size]?=some eU:=(I.block _ (lH (rA w)) (fun x=>x)).trans (rA w);have t:w.heap.size<W.heap.size:=lH b0;rcases i with _|_|_|_|_|_|_|_|_|_|_|i
  case zero=>
   refine wpOp_of_list rfl ?_;go_wp2_with fail;refine⟨_,_,_,_,_,_,_,_,_,_,h.put f (by omega) (Kt.refl _ _) ?_ ?_ ?_ ?_ ?_ ?_ ?_ ?_ ?_ ?_ ?_ ?_ ?_ ?_ ?_ ?_ ?_ ?_ ?_ ?_⟩
   all_goals first|(intro _;rfl)|(intro e;omega)|skip
  case succ.succ.zero=>
   refine wpOp_of_list rfl ?_;have c0:W.cell? ⟨w.heap.size+1,0,none⟩=some ((fR:Pg).fld 0):=(by simp[World.cell?,b1,Pg.fld]);have c1:W.cell? ⟨w.heap.size+1,1,none⟩=some ((fR:Pg).fld 1):=(by simp[World.cell?,b1,Pg.fld]);have c2:W.cell? ⟨w.heap.size+1,2,none⟩=some ((fR:Pg).fld 2):=(by simp[World.cell?,b1,Pg.fld]);have c3:W.cell? ⟨w.heap.size+1,3,none⟩=some ((fR:Pg).fld 3):=(by simp[World.cell?,b1,Pg.fld]);have c4:W.cell? ⟨w.heap.size+1,4,none⟩=some ((fR:Pg).fld 4):=(by simp[World.cell?,b1,Pg.fld]);have c5:W.cell? ⟨w.heap.size+1,5,none⟩=some ((fR:Pg).fld 5):=(by simp[World.cell?,b1,Pg.fld]);have z:W.cell? ⟨w.heap.size+1,6,none⟩=some ((fR:Pg).fld 6):=(by simp[World.cell?,b1,Pg.fld]);have c7:W.cell? ⟨w.heap.size+1,7,none⟩=some ((fR:Pg).fld 7):=(by simp[World.cell?,b1,Pg.fld]);have D:W.cell? ⟨w.heap.size+1,8,none⟩=some ((fR:Pg).fld 8):=(by simp[World.cell?,b1,Pg.fld]);have S:W.cell? ⟨w.heap.size+1,9,none⟩=some ((fR:Pg).fld 9):=(by simp[World.cell?,b1,Pg.fld]);have m:W.cell? ⟨w.heap.size+1,10,none⟩=some ((fR:Pg).fld 10):=(by simp[World.cell?,b1,Pg.fld]);simp only[Pg.fld] at c0 c1 c2 c3 c4 c5 z c7 D S m;go_wp2_with fail;refine⟨_,_,_,_,_,_,_,_,_,_,h.put f (by omega) (Kt.refl _ _) ?_ ?_ ?_ ?_ ?_ ?_ ?_ ?_ ?_ ?_ ?_ ?_ ?_ ?_ ?_ ?_ ?_ ?_ ?_ ?_⟩
   all_goals first|(intro _;rfl)|(intro e;omega)|skip
  case succ.succ.succ.zero=>
   refine wpOp_of_list rfl ?_;have c0:W.cell? ⟨w.heap.size+1+1,0,none⟩=some ((reP:Pg).fld 0):=(by simp[World.cell?,b2,Pg.fld]);have c1:W.cell? ⟨w.heap.size+1+1,1,none⟩=some ((reP:Pg).fld 1):=(by simp[World.cell?,b2,Pg.fld]);have c2:W.cell? ⟨w.heap.size+1+1,2,none⟩=some ((reP:Pg).fld 2):=(by simp[World.cell?,b2,Pg.fld]);have c3:W.cell? ⟨w.heap.size+1+1,3,none⟩=some ((reP:Pg).fld 3):=(by simp[World.cell?,b2,Pg.fld]);have c4:W.cell? ⟨w.heap.size+1+1,4,none⟩=some ((reP:Pg).fld 4):=(by simp[World.cell?,b2,Pg.fld]);have c5:W.cell? ⟨w.heap.size+1+1,5,none⟩=some ((reP:Pg).fld 5):=(by simp[World.cell?,b2,Pg.fld]);have z:W.cell? ⟨w.heap.size+1+1,6,none⟩=some ((reP:Pg).fld 6):=(by simp[World.cell?,b2,Pg.fld]);have c7:W.cell? ⟨w.heap.size+1+1,7,none⟩=some ((reP:Pg).fld 7):=(by simp[World.cell?,b2,Pg.fld]);have D:W.cell? ⟨w.heap.size+1+1,8,none⟩=some ((reP:Pg).fld 8):=(by simp[World.cell?,b2,Pg.fld]);have S:W.cell? ⟨w.heap.size+1+1,9,none⟩=some ((reP:Pg).fld 9):=(by simp[World.cell?,b2,Pg.fld]);have m:W.cell? ⟨w.heap.size+1+1,10,none⟩=some ((reP:Pg).fld 10):=(by simp[World.cell?,b2,Pg.fld]);simp only[Pg.fld] at c0 c1 c2 c3 c4 c5 z c7 D S m;go_wp2_with fail;refine⟨_,_,_,_,_,_,_,_,_,_,h.put f (by omega) (Kt.refl _ _) ?_ ?_ ?_ ?_ ?_ ?_ ?_ ?_ ?_ ?_ ?_ ?_ ?_ ?_ ?_ ?_ ?_ ?_ ?_ ?_⟩
   all_goals first|(intro _;rfl)|(intro e;omega)|skip
  case succ.zero=>
   refine wpOp_of_list rfl (wpList_plain rfl fun _ hK=>YU rfl (hK _ _ ?_));show ∃ _,_
   refine⟨_,_,_,_,_,_,_,_,_,_,h.put f (by omega) ((Kt.refl _ _).alloc _) ?_ ?_ ?_ ?_ ?_ ?_ ?_ ?_ ?_ ?_ ?_ ?_ ?_ ?_ ?_ ?_ ?_ ?_ ?_ ?_⟩
   all_goals first|(intro _;rfl)|(intro e;omega)|(intro _;exact yG t)
  case succ.succ.succ.succ.zero=>
   have d2:=hd
   cases v
   obtain rfl:=h.s2 c (hd ⟨2,.data⟩ (by simp) rfl);obtain rfl:=h.s3 c (hd ⟨3,.data⟩ (by simp) rfl);refine wpOp_of_list rfl ?_;go_wp2_with fail;refine⟨_,_,_,_,_,_,_,_,_,_,h.put f (by omega) ((Kt.refl _ _).alloc _) ?_ ?_ ?_ ?_ ?_ ?_ ?_ ?_ ?_ ?_ ?_ ?_ ?_ ?_ ?_ ?_ ?_ ?_ ?_ ?_⟩
   all_goals first|(intro _;rfl)|(intro e;omega)|(intro _;exact yF t)
  case succ.succ.succ.succ.succ.zero=>
   refine wpOp_of_list rfl ?_;go_wp2_with fail;refine⟨_,_,_,_,_,_,_,_,_,_,h.put f (by omega) ((Kt.refl _ _).alloc _) ?_ ?_ ?_ ?_ ?_ ?_ ?_ ?_ ?_ ?_ ?_ ?_ ?_ ?_ ?_ ?_ ?_ ?_ ?_ ?_⟩
   all_goals first|(intro _;rfl)|(intro e;omega)|(intro _;exact yC t)
  case succ.succ.succ.succ.succ.succ.zero=>
   cases v
   have g5:=h.s5 c (hd ⟨5,.data⟩ (by simp) rfl);obtain⟨B,ao,cap,q2,q3⟩:=g5.at.1;have u:v10=.slice ao 1 cap:=q2;clear q2;subst u;refine wpOp_of_list rfl ?_;go_wp2_with fail;refine⟨_,_,_,_,_,_,_,_,_,_,h.put f (by omega) ((Kt.refl _ _).alloc _) ?_ ?_ ?_ ?_ ?_ ?_ ?_ ?_ ?_ ?_ ?_ ?_ ?_ ?_ ?_ ?_ ?_ ?_ ?_ ?_⟩
   all_goals first|(intro _;rfl)|(intro e;omega)|(intro _;exact yE t g5)
  case succ.succ.succ.succ.succ.succ.succ.zero=>
   refine wpOp_of_list rfl ?_;go_wp2_with fail;refine⟨_,_,_,_,_,_,_,_,_,_,h.put f (by omega) ((Kt.refl _ _).alloc _) ?_ ?_ ?_ ?_ ?_ ?_ ?_ ?_ ?_ ?_ ?_ ?_ ?_ ?_ ?_ ?_ ?_ ?_ ?_ ?_⟩
   all_goals first|(intro _;rfl)|(intro e;omega)|(intro _;exact yH t)
  case succ.succ.succ.succ.succ.succ.succ.succ.zero=>
   refine wpOp_of_list rfl ?_;go_wp2_with fail;refine⟨_,_,_,_,_,_,_,_,_,_,h.put f (by omega) ((Kt.refl _ _).alloc _) ?_ ?_ ?_ ?_ ?_ ?_ ?_ ?_ ?_ ?_ ?_ ?_ ?_ ?_ ?_ ?_ ?_ ?_ ?_ ?_⟩
   all_goals first|(intro _;rfl)|(intro e;omega)|(intro _;exact yD t)
  case succ.succ.succ.succ.succ.succ.succ.succ.succ.zero=>
   cases v
   have P:=hd ⟨0,.data⟩ (by simp) rfl;have l1:=hd ⟨1,.data⟩ (by simp) rfl;have X:=hd ⟨4,.data⟩ (by simp) rfl;have T:=hd ⟨6,.data⟩ (by simp) rfl;have R:=hd ⟨7,.data⟩ (by simp) rfl;have J:=hd ⟨8,.data⟩ (by simp) rfl;obtain rfl:=h.s0 c P;have g1:=h.s1 c l1;have g4:=h.s4 c X;have g6:=h.s6 c T;have g7:=h.s7 c R;have Y:=h.s8 c J;obtain⟨_,L,c1,B,_⟩:=g1.at.1.1;obtain⟨_,a4,c4,u,_⟩:=g4.at.1;obtain⟨_,_,a6,z,F,_⟩:=g6.at.1;obtain⟨_,Z,c7,E,_⟩:=g7.at.1;obtain⟨_,a8,D,G,_⟩:=Y.at.1;subst B u F E G;refine wpOp_of_list rfl ?_;go_wp2_with fail;have Q:∀ j,j<9->j≠2->j≠3->j≠5->ls.getD j false=true:=by
    intro j C L a2 a3;match j,C with
    | 0,_=>exact P
    | 1,_=>exact l1
    | 4,_=>exact X
    | 6,_=>exact T
    | 7,_=>exact R
    | 8,_=>exact J
    | 2,_=>omega
    | 3,_=>omega
    | 5,_=>omega
   refine⟨_,_,_,_,_,_,_,_,_,_,h.put f (by omega) (Kt.refl _ _) ?_ ?_ ?_ ?_ ?_ ?_ ?_ ?_ ?_ ?_ ?_ ?_ ?_ ?_ ?_ ?_ ?_ ?_ ?_ ?_⟩
   all_goals first|(intro _;rfl)|(intro e;omega)|(intro _;exact⟨Q,fun V A=>⟨g1 V A,g4 V A,g6 V A,g7 V A,Y V A⟩,rfl⟩)
  case succ.succ.succ.succ.succ.succ.succ.succ.succ.succ.zero=>
   cases v
   have U:=hd ⟨9,.data⟩ (by simp) rfl;have ll:∀ j,j<10->ls.getD j false=true:=by
    intro j C;match j,C with
    | 0,_=>exact hd ⟨0,.phase⟩ (by simp) rfl
    | 1,_=>exact hd ⟨1,.phase⟩ (by simp) rfl
    | 2,_=>exact hd ⟨2,.phase⟩ (by simp) rfl
    | 3,_=>exact hd ⟨3,.phase⟩ (by simp) rfl
    | 4,_=>exact hd ⟨4,.phase⟩ (by simp) rfl
    | 5,_=>exact hd ⟨5,.phase⟩ (by simp) rfl
    | 6,_=>exact hd ⟨6,.phase⟩ (by simp) rfl
    | 7,_=>exact hd ⟨7,.phase⟩ (by simp) rfl
    | 8,_=>exact hd ⟨8,.phase⟩ (by simp) rfl
    | 9,_=>exact U
   obtain⟨_,g,q⟩:=h.s9 c U;subst q;obtain⟨_,L,d1,B,_⟩:=g.at.d.mem;obtain⟨_,a4,d4,u,_⟩:=g.at.d.pgs;obtain⟨_,_,a6,d6,F,_⟩:=g.at.d.prs;obtain⟨_,Z,d7,E,_⟩:=g.at.d.hds;obtain⟨_,a8,d8,G,_⟩:=g.at.d.pts;dsimp only at B u F E G;subst B u F E G;have c0:W.cell? ⟨w.heap.size,0,none⟩=some (.int .u64 0):=(by simp[World.cell?,b0]);have z0:W.frozen? ⟨w.heap.size,0,none⟩=false:=(by simp[World.frozen?,b0]);have c1:W.cell? ⟨w.heap.size,1,none⟩=some (.int .i64 0):=(by simp[World.cell?,b0]);have z1:W.frozen? ⟨w.heap.size,1,none⟩=false:=(by simp[World.frozen?,b0]);have c2:W.cell? ⟨w.heap.size,2,none⟩=some (.int .i64 0):=(by simp[World.cell?,b0]);have z2:W.frozen? ⟨w.heap.size,2,none⟩=false:=(by simp[World.frozen?,b0]);have c3:W.cell? ⟨w.heap.size,3,none⟩=some (.int .i64 0):=(by simp[World.cell?,b0]);have z3:W.frozen? ⟨w.heap.size,3,none⟩=false:=(by simp[World.frozen?,b0]);have c4:W.cell? ⟨w.heap.size,4,none⟩=some (.slice none 0 0):=(by simp[World.cell?,b0]);have z4:W.frozen? ⟨w.heap.size,4,none⟩=false:=(by simp[World.frozen?,b0]);have c5:W.cell? ⟨w.heap.size,5,none⟩=some (.slice none 0 0):=(by simp[World.cell?,b0]);have z5:W.frozen? ⟨w.heap.size,5,none⟩=false:=(by simp[World.frozen?,b0]);have z:W.cell? ⟨w.heap.size,6,none⟩=some (.slice none 0 0):=(by simp[World.cell?,b0]);have z6:W.frozen? ⟨w.heap.size,6,none⟩=false:=(by simp[World.frozen?,b0]);have c7:W.cell? ⟨w.heap.size,7,none⟩=some (.slice none 0 0):=(by simp[World.cell?,b0]);have z7:W.frozen? ⟨w.heap.size,7,none⟩=false:=(by simp[World.frozen?,b0]);have D:W.cell? ⟨w.heap.size,8,none⟩=some (.slice none 0 0):=(by simp[World.cell?,b0]);have z8:W.frozen? ⟨w.heap.size,8,none⟩=false:=(by simp[World.frozen?,b0]);refine wpOp_of_list rfl ?_;go_wp2_with fail;refine⟨_,_,_,_,_,_,_,_,_,_,rfl,by simpa using h.n,?_,?_,?_,?_,?_,?_,?_,?_,?_,?_,?_,?_⟩
   all_goals first|(intro e;rw[VW (by rw[h.n];decide)] at e;cases e)|skip
   refine⟨fun j C=>by rw[Go.getD_set_ne _ (by omega)];exact ll j C,hK _ _ ?_⟩;have kn:=nT (yB w) I;have kS:=(((((((((Kt.refl (fun b=>b=w.heap.size) W).setCell (p:=⟨w.heap.size,0,none⟩) rfl (.int .u64 bM.bS)).setCell (p:=⟨w.heap.size,1,none⟩) rfl (.int .i64 bM.lim)).setCell (p:=⟨w.heap.size,2,none⟩) rfl (.int .i64 bM.ord)).setCell (p:=⟨w.heap.size,3,none⟩) rfl (.int .i64 bM.reg)).setCell (p:=⟨w.heap.size,4,none⟩) rfl (.slice L bM.nm d1)).setCell (p:=⟨w.heap.size,5,none⟩) rfl (.slice a4 bM.np d4)).setCell (p:=⟨w.heap.size,6,none⟩) rfl (.slice a6 bM.no d6)).setCell (p:=⟨w.heap.size,7,none⟩) rfl (.slice Z bM.hd.length d7)).setCell (p:=⟨w.heap.size,8,none⟩) rfl (.slice a8 bM.pt.length d8);have k0:Kt nO w _:=kn.trans kS (fun _ _ x=>x) (fun x hx e=>absurd hx (by omega));go_wp2_with fail;refine bodyPost_ret (results_cell_row rfl _ _ _ _ _ _ _ rfl (MB b0 _ _ _ _ _ _ _ _ _) Tryz.underlying42 rfl (by kernel_rfl)) rfl ?_;exact⟨⟨_,_,_,_,_⟩,rfl,g _ kS,k0⟩
  case _=>omega
 ·rintro ls a W ⟨v5,v6,v7,v8,v9,v10,v11,v12,r,s,h⟩ l;have P:=kL l rfl (by rw[h.n];decide) (i:=0) (by simp);have l1:=kL l rfl (by rw[h.n];decide) (i:=1) (by simp);have l2:=kL l rfl (by rw[h.n];decide) (i:=2) (by simp);have l3:=kL l rfl (by rw[h.n];decide) (i:=3) (by simp);have l5:=kL l rfl (by rw[h.n];decide) (i:=5) (by simp);have R:=kL l rfl (by rw[h.n];decide) (i:=7) (by simp);have J:=kL l rfl (by rw[h.n];decide) (i:=8) (by simp);have X:=kL l rfl (by rw[h.n];decide) (i:=4) (by intro e he;simp at he;rcases he with rfl|rfl <;> assumption);have T:=kL l rfl (by rw[h.n];decide) (i:=6) (by intro e he;simp at he;rcases he with rfl <;> assumption);have U:=kL l rfl (by rw[h.n];decide) (i:=9) (by intro e he;simp at he;rcases he with rfl|rfl|rfl|rfl|rfl|rfl <;> assumption);have N:=kL l rfl (by rw[h.n];decide) (i:=10) (by intro e he;simp at he;rcases he with rfl|rfl|rfl|rfl|rfl|rfl|rfl|rfl|rfl|rfl|rfl <;> assumption);exact(h.s10 N).2
theorem OJ(I:Img)(V:ImV)(k r:Nat)(hS:Sn9 I k r)(w:World)(hI:ImD w I V):
  Calls prog 87 #[imA I V] w fun e w'=>e=.returned (.int .i64 (fE (fst1 I.np (ok11 I))))/\Kt nO w w':=by
 obtain⟨⟨ma,mc,hm⟩,⟨pa,pc,hp⟩,⟨ra,rc,hr⟩,⟨ha,hc,hh⟩,⟨ta,tc,ht⟩,-⟩:=hI.sl;obtain⟨vm,vp,vr,vh,vt⟩:=V;dsimp only at hm hp hr hh ht;subst hm hp hr hh ht;have J:=aA (show ImAt (w.alloc (aQ I _)) w.heap.size I _ from⟨nH _ _,hI.keep ((Kt.refl _ w).alloc _)⟩);have K0:=aA (show Kt nO w (w.alloc (aQ I _))from(Kt.refl _ w).alloc (aQ I ⟨.slice ma I.nm mc,.slice pa I.np pc,.slice ra I.no rc,.slice ha I.hd.length hc,.slice ta I.pt.length tc⟩));obtain⟨c0,c1,c2,c3,c4,c5,c6,c7,c8⟩:=J.o.cells;obtain⟨ok,B⟩:=xe (ok11 I);rw[<-B];have a2:=aA (show ∀ i,ok i=ok11 I i from fun i=>by rw[B]);have z:=hS.np1;have HS:=aA hS;clear hS;obtain⟨n,R⟩:=xe (I.np);have NP:=aA R;obtain⟨rr,q⟩:=xe (fE (fst1 I.np ok));rw[<-q];have a1:=aA (show ∀ a,a<n->(∀ j,j<a->ok j=true)->ok a=false->rr=(a:Int)from fun a L E K=>by rw[q,gA (by omega) E K];rfl);have T:=aA (show(∀ j,j<n->ok j=true)->rr = -1 from fun h=>by rw[q,fst1_ok (by rw[<-R];exact h)];rfl);rw[<-R] at c5 z J K0;rw[<-R];have G:=aA z;clear hI B R q z;go_enter func87,ntmps87;go_wp2_with fail;clear c0 c1 c2 c3 c4 c5 c6 c7 c8;generalize w.heap.size=ib at *;generalize w.alloc (aQ I ⟨.slice ma I.nm mc,.slice pa n pc,.slice ra I.no rc,.slice ha I.hd.length hc,.slice ta I.pt.length tc⟩)=W0 at *;go_loopw [3] (fun iv W=>∃ a:Nat,a<=n/\iv=.int .i64 a/\Hd (Kt nO W0 W/\∀ j,j<a->ok j=true)) (fun iv _=>n-(intOf iv).toNat)
 case atStart=>exact⟨0,az _,rfl,aA ⟨Kt.refl _ _,fun j hj=>by omega⟩⟩
 case round=>
  obtain⟨a,a0,rfl,A⟩:=hrel;have o:=aA (J.o.keep A.o.1);by_cases g:a<n
  ·have a4:(a:Int)<n:=(by omega);obtain⟨c0,c1,c2,c3,c4,c5,c6,c7,c8⟩:=o.o.cells;dsimp only at c5;obtain⟨bl,oo,oc,hv,-,Q⟩:=o.o.page a (by rw[<-NP.o];exact g);injection hv with D C F
   subst D;clear C F;obtain⟨d0,d1,d2,d3,d4,d5,d6,d7,d8,d9,a3⟩:=Q.c;have f:=aA (a2.o a);obtain⟨kd,od,cc,ll,-,-,-,-,y5,y6,-⟩:=HS.o.pg a (by rw[<-NP.o];exact g);have CE:=aA (fun W=>sK (I.pg a) cc y5 y6 W);have EQ:=aA (show ok11 I a=(!(decide ((I.pg a).kd=4) && decide ((I.pg a).lv=(celN9 cc:Int))) || (decide ((I.pg a).nx = -1) && decide ((I.pg a).pv = -1)))by unfold ok11;rw[y5,aa]);rw[EQ.o] at f;clear EQ y5;have t:=aA (a1.o a g A.o.2);have b:=aA g;generalize I.pg a=p at *;clear Q g a0;go_upto_region 5 with fail;refine kP (P:=fun W=>Code.wp prog _ _ _ W) _ ?_;intro d hW;have k1:Kt nO wr d:=(by subst hW;exact(Kt.refl _ wr).alloc _);have X1:d.heap[wr.heap.size]?=some (aW p):=(by subst hW;exact nH _ _);have S:=aA (nT A.o.1 k1);have N:=aA A.o.2;generalize wr.heap.size=pb at *;have X:∀ x:KW d,x.v.heap[pb]?=some (aW p):=fun x=>(x.k.block _ (lH X1) (fun y=>y)).trans X1
   clear hW k1 X1 A c0 c1 c2 c3 c4 c5 c6 c7 c8 d0 d1 d2 d3 d4 d5 d6 d7 d8 d9 a3 o;have Y:∀ x:KW d,x.v.cell? ⟨pb,0,none⟩=some (.int .i64 p.kd):=fun x=>by simp[World.cell?,X x]
   have D:∀ x:KW d,x.v.cell? ⟨pb,1,none⟩=some (.int .i64 p.od):=fun x=>by simp[World.cell?,X x]
   have C:∀ x:KW d,x.v.cell? ⟨pb,2,none⟩=some (.int .i64 p.cl):=fun x=>by simp[World.cell?,X x]
   have F:∀ x:KW d,x.v.cell? ⟨pb,3,none⟩=some (.int .i64 p.lv):=fun x=>by simp[World.cell?,X x]
   have Z:∀ x:KW d,x.v.cell? ⟨pb,4,none⟩=some (.int .i64 p.nx):=fun x=>by simp[World.cell?,X x]
   have e5:∀ x:KW d,x.v.cell? ⟨pb,5,none⟩=some (.int .i64 p.pv):=fun x=>by simp[World.cell?,X x]
   have e6:∀ x:KW d,x.v.cell? ⟨pb,6,none⟩=some (.int .i64 p.fs):=fun x=>by simp[World.cell?,X x]
   have e7:∀ x:KW d,x.v.cell? ⟨pb,7,none⟩=some (.int .u64 p.b0):=fun x=>by simp[World.cell?,X x]
   have U:∀ x:KW d,x.v.cell? ⟨pb,8,none⟩=some (.int .u64 p.b1):=fun x=>by simp[World.cell?,X x]
   have e9:∀ x:KW d,x.v.cell? ⟨pb,9,none⟩=some (.int .u64 p.b2):=fun x=>by simp[World.cell?,X x]
   have l:∀ x:KW d,x.v.cell? ⟨pb,10,none⟩=some (.int .u64 p.b3):=fun x=>by simp[World.cell?,X x]
   generalize celN9 cc=cn at *;have m:=aA (show ok a=true->∀ j,j<a+1->ok j=true from fun u j hj=>by
    by_cases e:j=a
    ·rw[e];exact u
    ·exact N.o j (by omega))
   by_cases L:p.kd=4
   case neg=>
    have q1:(p.kd == 4)=false:=(by rw[ag];exact L);refine cS (by kernel_rfl) (by kernel_rfl) ?_;repeat (go_big_quiet_step (first|(go_at_call 132;exact Calls.kept_of (CE.o _))))
    refine wpQuiet_nil ?_;intro y;have s:=aA (nT S.o y.k);clear Y D C F Z e5 e6 e7 U e9 l X;generalize y.v=W6 at *;have u:ok a=true:=(by rw[f.o];rw[ah L];rfl);go_wp2_with fail;have hw:wrap64 ((a:Int)+1)=((a+1:Nat):Int):=(by have:=G.o;have:=b.o;rw[wrap64];omega);rw[hw];exact⟨⟨a+1,by have:=b.o;omega,rfl,aA ⟨s.o,m.o u⟩⟩,by have:=b.o;simp only[intOf,aa];omega⟩
   have q1:(p.kd == 4)=true:=(by rw[co];exact L);have H1:=aA L;clear L;by_cases E:p.lv=(cn:Int)
   case neg=>
    have q2:(p.lv == (cn:Int))=false:=(by rw[ag];exact E);refine cS (by kernel_rfl) (by kernel_rfl) ?_;repeat (go_big_quiet_step (first|(go_at_call 132;exact Calls.kept_of (CE.o _))))
    refine wpQuiet_nil ?_;intro y;have s:=aA (nT S.o y.k);clear Y D C F Z e5 e6 e7 U e9 l X;generalize y.v=W6 at *;have u:ok a=true:=(by rw[f.o];rw[ah E];simp);go_wp2_with fail;have hw:wrap64 ((a:Int)+1)=((a+1:Nat):Int):=(by have:=G.o;have:=b.o;rw[wrap64];omega);rw[hw];exact⟨⟨a+1,by have:=b.o;omega,rfl,aA ⟨s.o,m.o u⟩⟩,by have:=b.o;simp only[intOf,aa];omega⟩
   have q2:(p.lv == (cn:Int))=true:=(by rw[co];exact E);have H2:=aA E;clear E;by_cases K:p.nx = -1
   case neg=>
    have q3:(p.nx != -1)=true:=(by rw[cu];exact K);refine cS (by kernel_rfl) (by kernel_rfl) ?_;repeat (go_big_quiet_step (first|(go_at_call 132;exact Calls.kept_of (CE.o _))))
    refine wpQuiet_nil ?_;intro y;have s:=aA (nT S.o y.k);clear Y D C F Z e5 e6 e7 U e9 l X;generalize y.v=W6 at *;have er:=t.o (by rw[f.o];rw[af H1.o,af H2.o,ah K];rfl);subst er;go_wp2_with fail;go_ret;exact⟨rfl,nT K0.o s.o⟩
   have q3:(p.nx != -1)=false:=(by rw[ay];exact K);have H3:=aA K;clear K;by_cases h4:p.pv = -1
   case neg=>
    have q4:(p.pv != -1)=true:=(by rw[cu];exact h4);refine cS (by kernel_rfl) (by kernel_rfl) ?_;repeat (go_big_quiet_step (first|(go_at_call 132;exact Calls.kept_of (CE.o _))))
    refine wpQuiet_nil ?_;intro y;have s:=aA (nT S.o y.k);clear Y D C F Z e5 e6 e7 U e9 l X;generalize y.v=W6 at *;have er:=t.o (by rw[f.o];rw[af H1.o,af H2.o,ah h4];simp);subst er;go_wp2_with fail;go_ret;exact⟨rfl,nT K0.o s.o⟩
   have q4:(p.pv != -1)=false:=(by rw[ay];exact h4);have H4:=aA h4;clear h4;refine cS (by kernel_rfl) (by kernel_rfl) ?_;repeat (go_big_quiet_step (first|(go_at_call 132;exact Calls.kept_of (CE.o _))))
   refine wpQuiet_nil ?_;intro y;have s:=aA (nT S.o y.k);clear Y D C F Z e5 e6 e7 U e9 l X;generalize y.v=W6 at *;have u:ok a=true:=(by rw[f.o];rw[af H3.o,af H4.o];simp);go_wp2_with fail;have hw:wrap64 ((a:Int)+1)=((a+1:Nat):Int):=(by have:=G.o;have:=b.o;rw[wrap64];omega);rw[hw];exact⟨⟨a+1,by have:=b.o;omega,rfl,aA ⟨s.o,m.o u⟩⟩,by have:=b.o;simp only[intOf,aa];omega⟩
  ·have a4:¬(a:Int)<n:=(by omega);obtain⟨c0,c1,c2,c3,c4,c5,c6,c7,c8⟩:=o.o.cells;dsimp only at c5;have er:=T.o (fun j hj=>A.o.2 j (by omega));subst er;go_wp2_with fail;go_ret;exact⟨rfl,nT K0.o A.o.1⟩
end Go.Proofs.YtfmgnljlkdmndaaGreatDoor.W
