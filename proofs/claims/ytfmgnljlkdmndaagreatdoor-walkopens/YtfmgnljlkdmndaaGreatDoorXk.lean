import Derived.Test.YtfmgnljlkdmndaaGreatDoorXj
import Derived.Test.YtfmgnljlkdmndaaGreatDoorWd
set_option maxRecDepth 1000000
set_option maxHeartbeats 0
namespace Go.Proofs.YtfmgnljlkdmndaaGreatDoor
namespace W
open Tryz RowKit
set_option linter.unusedVariables false
theorem GH(w:Wd):Calls prog 17 #[] w fun e w'=>∃ V,e=.returned (imA bK V)/\VoK w.heap.size w' V/\Kt nO w w':=by
 go_enter func17,ntmps17;go_wp2_with fail;rename_i K hK;refine wp_region_inv (by kernel_rfl) (fun ls a W=>∃ v5 v6 v7 v8 v9 v10 v11 v12 m u,IV w.heap.size (rB w).drew K ls a W v5 v6 v7 v8 v9 v10 v11 v12 m u) ?_ ?_ ?_;·refine⟨_,_,_,_,_,_,_,_,_,_,rfl,by simp,fun _=>Kt.refl _ _,?_,?_,?_,?_,?_,?_,?_,?_,?_,?_,?_⟩ <;> simp
 ·rintro ls a W i ⟨v5,v6,v7,v8,v9,v10,v11,v12,m,u,h⟩ hi;obtain⟨l,o,y,hd⟩:=mem_ready.1 hi;have ha:=h.ea;subst ha;have a5:i<11:=by
   rcases du i 11 with z|z
   ·exact z
   ·rw[Array.getElem?_eq_none (by simpa using z)] at y
    cases y
  have c:ls.getD 10 false=false:=by
   cases h10:ls.getD 10 false with
   | false=>rfl
   | true=>
    have hf:=DZ l;rcases du i 10 with z|z
    ·rw[(h.my h10).1 i z] at hf;cases hf
    ·have:i=10:=by omega
     subst this;rw[h10] at hf;cases hf
  have N:=h.k c;have b1:W.heap[w.heap.size+1]?=some (jV fP):=(N.block _ (lH (qZ w)) (fun x=>x)).trans (qZ w);have b2:W.heap[w.heap.size+1+1]?=some (jV fx):=(N.block _ (lH (qY w)) (fun x=>x)).trans (qY w);have b0:W.heap[w.heap.size]?=some eK:=(N.block _ (lH (rA w)) (fun x=>x)).trans (rA w);have A:w.heap.size<W.heap.size:=lH b0;rcases i with _|_|_|_|_|_|_|_|_|_|_|i
  case zero=>
   refine wpOp_of_list rfl ?_;go_wp2_with fail;refine⟨_,_,_,_,_,_,_,_,_,_,h.put l (by omega) (Kt.refl _ _) ?_ ?_ ?_ ?_ ?_ ?_ ?_ ?_ ?_ ?_ ?_ ?_ ?_ ?_ ?_ ?_ ?_ ?_ ?_ ?_⟩
   all_goals first|(intro _;rfl)|(intro e;omega)|skip
  case succ.succ.zero=>
   refine wpOp_of_list rfl ?_;have c0:W.cell? ⟨w.heap.size+1,0,none⟩=some ((fP:Pg).es 0):=(by simp[World.cell?,b1,Pg.es]);have c1:W.cell? ⟨w.heap.size+1,1,none⟩=some ((fP:Pg).es 1):=(by simp[World.cell?,b1,Pg.es]);have c2:W.cell? ⟨w.heap.size+1,2,none⟩=some ((fP:Pg).es 2):=(by simp[World.cell?,b1,Pg.es]);have c3:W.cell? ⟨w.heap.size+1,3,none⟩=some ((fP:Pg).es 3):=(by simp[World.cell?,b1,Pg.es]);have c4:W.cell? ⟨w.heap.size+1,4,none⟩=some ((fP:Pg).es 4):=(by simp[World.cell?,b1,Pg.es]);have c5:W.cell? ⟨w.heap.size+1,5,none⟩=some ((fP:Pg).es 5):=(by simp[World.cell?,b1,Pg.es]);have F:W.cell? ⟨w.heap.size+1,6,none⟩=some ((fP:Pg).es 6):=(by simp[World.cell?,b1,Pg.es]);have c7:W.cell? ⟨w.heap.size+1,7,none⟩=some ((fP:Pg).es 7):=(by simp[World.cell?,b1,Pg.es]);have D:W.cell? ⟨w.heap.size+1,8,none⟩=some ((fP:Pg).es 8):=(by simp[World.cell?,b1,Pg.es]);have Y:W.cell? ⟨w.heap.size+1,9,none⟩=some ((fP:Pg).es 9):=(by simp[World.cell?,b1,Pg.es]);have v:W.cell? ⟨w.heap.size+1,10,none⟩=some ((fP:Pg).es 10):=(by simp[World.cell?,b1,Pg.es]);simp only[Pg.es] at c0 c1 c2 c3 c4 c5 F c7 D Y v;go_wp2_with fail;refine⟨_,_,_,_,_,_,_,_,_,_,h.put l (by omega) (Kt.refl _ _) ?_ ?_ ?_ ?_ ?_ ?_ ?_ ?_ ?_ ?_ ?_ ?_ ?_ ?_ ?_ ?_ ?_ ?_ ?_ ?_⟩
   all_goals first|(intro _;rfl)|(intro e;omega)|skip
  case succ.succ.succ.zero=>
   refine wpOp_of_list rfl ?_;have c0:W.cell? ⟨w.heap.size+1+1,0,none⟩=some ((fx:Pg).es 0):=(by simp[World.cell?,b2,Pg.es]);have c1:W.cell? ⟨w.heap.size+1+1,1,none⟩=some ((fx:Pg).es 1):=(by simp[World.cell?,b2,Pg.es]);have c2:W.cell? ⟨w.heap.size+1+1,2,none⟩=some ((fx:Pg).es 2):=(by simp[World.cell?,b2,Pg.es]);have c3:W.cell? ⟨w.heap.size+1+1,3,none⟩=some ((fx:Pg).es 3):=(by simp[World.cell?,b2,Pg.es]);have c4:W.cell? ⟨w.heap.size+1+1,4,none⟩=some ((fx:Pg).es 4):=(by simp[World.cell?,b2,Pg.es]);have c5:W.cell? ⟨w.heap.size+1+1,5,none⟩=some ((fx:Pg).es 5):=(by simp[World.cell?,b2,Pg.es]);have F:W.cell? ⟨w.heap.size+1+1,6,none⟩=some ((fx:Pg).es 6):=(by simp[World.cell?,b2,Pg.es]);have c7:W.cell? ⟨w.heap.size+1+1,7,none⟩=some ((fx:Pg).es 7):=(by simp[World.cell?,b2,Pg.es]);have D:W.cell? ⟨w.heap.size+1+1,8,none⟩=some ((fx:Pg).es 8):=(by simp[World.cell?,b2,Pg.es]);have Y:W.cell? ⟨w.heap.size+1+1,9,none⟩=some ((fx:Pg).es 9):=(by simp[World.cell?,b2,Pg.es]);have v:W.cell? ⟨w.heap.size+1+1,10,none⟩=some ((fx:Pg).es 10):=(by simp[World.cell?,b2,Pg.es]);simp only[Pg.es] at c0 c1 c2 c3 c4 c5 F c7 D Y v;go_wp2_with fail;refine⟨_,_,_,_,_,_,_,_,_,_,h.put l (by omega) (Kt.refl _ _) ?_ ?_ ?_ ?_ ?_ ?_ ?_ ?_ ?_ ?_ ?_ ?_ ?_ ?_ ?_ ?_ ?_ ?_ ?_ ?_⟩
   all_goals first|(intro _;rfl)|(intro e;omega)|skip
  case succ.zero=>
   refine wpOp_of_list rfl (wpList_plain rfl fun _ hK=>zlK rfl (hK _ _ ?_));show ∃ _,_
   refine⟨_,_,_,_,_,_,_,_,_,_,h.put l (by omega) ((Kt.refl _ _).alloc _) ?_ ?_ ?_ ?_ ?_ ?_ ?_ ?_ ?_ ?_ ?_ ?_ ?_ ?_ ?_ ?_ ?_ ?_ ?_ ?_⟩
   all_goals first|(intro _;rfl)|(intro e;omega)|(intro _;exact yK A)
  case succ.succ.succ.succ.zero=>
   have d2:=hd
   cases y
   obtain rfl:=h.s2 c (hd ⟨2,.data⟩ (by simp) rfl);obtain rfl:=h.s3 c (hd ⟨3,.data⟩ (by simp) rfl);refine wpOp_of_list rfl ?_;go_wp2_with fail;refine⟨_,_,_,_,_,_,_,_,_,_,h.put l (by omega) ((Kt.refl _ _).alloc _) ?_ ?_ ?_ ?_ ?_ ?_ ?_ ?_ ?_ ?_ ?_ ?_ ?_ ?_ ?_ ?_ ?_ ?_ ?_ ?_⟩
   all_goals first|(intro _;rfl)|(intro e;omega)|(intro _;exact yJ A)
  case succ.succ.succ.succ.succ.zero=>
   refine wpOp_of_list rfl ?_;go_wp2_with fail;refine⟨_,_,_,_,_,_,_,_,_,_,h.put l (by omega) ((Kt.refl _ _).alloc _) ?_ ?_ ?_ ?_ ?_ ?_ ?_ ?_ ?_ ?_ ?_ ?_ ?_ ?_ ?_ ?_ ?_ ?_ ?_ ?_⟩
   all_goals first|(intro _;rfl)|(intro e;omega)|(intro _;exact yG A)
  case succ.succ.succ.succ.succ.succ.zero=>
   cases y
   have g5:=h.s5 c (hd ⟨5,.data⟩ (by simp) rfl);obtain⟨G,ao,cap,q2,q3⟩:=g5.at.1;have B:v10=.slice ao 1 cap:=q2;clear q2;subst B;refine wpOp_of_list rfl ?_;go_wp2_with fail;refine⟨_,_,_,_,_,_,_,_,_,_,h.put l (by omega) ((Kt.refl _ _).alloc _) ?_ ?_ ?_ ?_ ?_ ?_ ?_ ?_ ?_ ?_ ?_ ?_ ?_ ?_ ?_ ?_ ?_ ?_ ?_ ?_⟩
   all_goals first|(intro _;rfl)|(intro e;omega)|(intro _;exact yI A g5)
  case succ.succ.succ.succ.succ.succ.succ.zero=>
   refine wpOp_of_list rfl ?_;go_wp2_with fail;refine⟨_,_,_,_,_,_,_,_,_,_,h.put l (by omega) ((Kt.refl _ _).alloc _) ?_ ?_ ?_ ?_ ?_ ?_ ?_ ?_ ?_ ?_ ?_ ?_ ?_ ?_ ?_ ?_ ?_ ?_ ?_ ?_⟩
   all_goals first|(intro _;rfl)|(intro e;omega)|(intro _;exact yL A)
  case succ.succ.succ.succ.succ.succ.succ.succ.zero=>
   refine wpOp_of_list rfl ?_;go_wp2_with fail;refine⟨_,_,_,_,_,_,_,_,_,_,h.put l (by omega) ((Kt.refl _ _).alloc _) ?_ ?_ ?_ ?_ ?_ ?_ ?_ ?_ ?_ ?_ ?_ ?_ ?_ ?_ ?_ ?_ ?_ ?_ ?_ ?_⟩
   all_goals first|(intro _;rfl)|(intro e;omega)|(intro _;exact yH A)
  case succ.succ.succ.succ.succ.succ.succ.succ.succ.zero=>
   cases y
   have U:=hd ⟨0,.data⟩ (by simp) rfl;have l1:=hd ⟨1,.data⟩ (by simp) rfl;have T:=hd ⟨4,.data⟩ (by simp) rfl;have l6:=hd ⟨6,.data⟩ (by simp) rfl;have Z:=hd ⟨7,.data⟩ (by simp) rfl;have l8:=hd ⟨8,.data⟩ (by simp) rfl;obtain rfl:=h.s0 c U;have g1:=h.s1 c l1;have g4:=h.s4 c T;have g6:=h.s6 c l6;have g7:=h.s7 c Z;have g8:=h.s8 c l8;obtain⟨_,R,c1,G,_⟩:=g1.at.1.1;obtain⟨_,a4,c4,B,_⟩:=g4.at.1;obtain⟨_,_,a6,F,J,_⟩:=g6.at.1;obtain⟨_,a7,c7,L,_⟩:=g7.at.1;obtain⟨_,a8,D,P,_⟩:=g8.at.1;subst G B J L P;refine wpOp_of_list rfl ?_;go_wp2_with fail;have a0:∀ j,j<9->j≠2->j≠3->j≠5->ls.getD j false=true:=by
    intro j E R a2 a3;match j,E with
    | 0,_=>exact U
    | 1,_=>exact l1
    | 4,_=>exact T
    | 6,_=>exact l6
    | 7,_=>exact Z
    | 8,_=>exact l8
    | 2,_=>omega
    | 3,_=>omega
    | 5,_=>omega
   refine⟨_,_,_,_,_,_,_,_,_,_,h.put l (by omega) (Kt.refl _ _) ?_ ?_ ?_ ?_ ?_ ?_ ?_ ?_ ?_ ?_ ?_ ?_ ?_ ?_ ?_ ?_ ?_ ?_ ?_ ?_⟩
   all_goals first|(intro _;rfl)|(intro e;omega)|(intro _;exact⟨a0,fun V C=>⟨g1 V C,g4 V C,g6 V C,g7 V C,g8 V C⟩,rfl⟩)
  case succ.succ.succ.succ.succ.succ.succ.succ.succ.succ.zero=>
   cases y
   have Q:=hd ⟨9,.data⟩ (by simp) rfl;have ll:∀ j,j<10->ls.getD j false=true:=by
    intro j E;match j,E with
    | 0,_=>exact hd ⟨0,.phase⟩ (by simp) rfl
    | 1,_=>exact hd ⟨1,.phase⟩ (by simp) rfl
    | 2,_=>exact hd ⟨2,.phase⟩ (by simp) rfl
    | 3,_=>exact hd ⟨3,.phase⟩ (by simp) rfl
    | 4,_=>exact hd ⟨4,.phase⟩ (by simp) rfl
    | 5,_=>exact hd ⟨5,.phase⟩ (by simp) rfl
    | 6,_=>exact hd ⟨6,.phase⟩ (by simp) rfl
    | 7,_=>exact hd ⟨7,.phase⟩ (by simp) rfl
    | 8,_=>exact hd ⟨8,.phase⟩ (by simp) rfl
    | 9,_=>exact Q
   obtain⟨_,g,q⟩:=h.s9 c Q;subst q;obtain⟨_,R,d1,G,_⟩:=g.at.d.mem;obtain⟨_,a4,d4,B,_⟩:=g.at.d.je;obtain⟨_,_,a6,d6,J,_⟩:=g.at.d.jg;obtain⟨_,a7,d7,L,_⟩:=g.at.d.jr;obtain⟨_,a8,d8,P,_⟩:=g.at.d.kh;dsimp only at G B J L P;subst G B J L P;have c0:W.cell? ⟨w.heap.size,0,none⟩=some (.int .u64 0):=(by simp[World.cell?,b0]);have z0:W.frozen? ⟨w.heap.size,0,none⟩=false:=(by simp[World.frozen?,b0]);have c1:W.cell? ⟨w.heap.size,1,none⟩=some (.int .i64 0):=(by simp[World.cell?,b0]);have z1:W.frozen? ⟨w.heap.size,1,none⟩=false:=(by simp[World.frozen?,b0]);have c2:W.cell? ⟨w.heap.size,2,none⟩=some (.int .i64 0):=(by simp[World.cell?,b0]);have z2:W.frozen? ⟨w.heap.size,2,none⟩=false:=(by simp[World.frozen?,b0]);have c3:W.cell? ⟨w.heap.size,3,none⟩=some (.int .i64 0):=(by simp[World.cell?,b0]);have z3:W.frozen? ⟨w.heap.size,3,none⟩=false:=(by simp[World.frozen?,b0]);have c4:W.cell? ⟨w.heap.size,4,none⟩=some (.slice none 0 0):=(by simp[World.cell?,b0]);have z4:W.frozen? ⟨w.heap.size,4,none⟩=false:=(by simp[World.frozen?,b0]);have c5:W.cell? ⟨w.heap.size,5,none⟩=some (.slice none 0 0):=(by simp[World.cell?,b0]);have z5:W.frozen? ⟨w.heap.size,5,none⟩=false:=(by simp[World.frozen?,b0]);have F:W.cell? ⟨w.heap.size,6,none⟩=some (.slice none 0 0):=(by simp[World.cell?,b0]);have z6:W.frozen? ⟨w.heap.size,6,none⟩=false:=(by simp[World.frozen?,b0]);have c7:W.cell? ⟨w.heap.size,7,none⟩=some (.slice none 0 0):=(by simp[World.cell?,b0]);have z7:W.frozen? ⟨w.heap.size,7,none⟩=false:=(by simp[World.frozen?,b0]);have D:W.cell? ⟨w.heap.size,8,none⟩=some (.slice none 0 0):=(by simp[World.cell?,b0]);have z8:W.frozen? ⟨w.heap.size,8,none⟩=false:=(by simp[World.frozen?,b0]);refine wpOp_of_list rfl ?_;go_wp2_with fail;refine⟨_,_,_,_,_,_,_,_,_,_,rfl,by simpa using h.n,?_,?_,?_,?_,?_,?_,?_,?_,?_,?_,?_,?_⟩
   all_goals first|(intro e;rw[YG (by rw[h.n];decide)] at e;cases e)|skip
   refine⟨fun j E=>by rw[ec _ (by omega)];exact ll j E,hK _ _ ?_⟩;have kn:=nT (yF w) N;have kS:=(((((((((Kt.refl (fun b=>b=w.heap.size) W).setCell (p:=⟨w.heap.size,0,none⟩) rfl (.int .u64 bK.bS)).setCell (p:=⟨w.heap.size,1,none⟩) rfl (.int .i64 bK.dl)).setCell (p:=⟨w.heap.size,2,none⟩) rfl (.int .i64 bK.ord)).setCell (p:=⟨w.heap.size,3,none⟩) rfl (.int .i64 bK.ep)).setCell (p:=⟨w.heap.size,4,none⟩) rfl (.slice R bK.nm d1)).setCell (p:=⟨w.heap.size,5,none⟩) rfl (.slice a4 bK.np d4)).setCell (p:=⟨w.heap.size,6,none⟩) rfl (.slice a6 bK.no d6)).setCell (p:=⟨w.heap.size,7,none⟩) rfl (.slice a7 bK.hd.length d7)).setCell (p:=⟨w.heap.size,8,none⟩) rfl (.slice a8 bK.pt.length d8);have k0:Kt nO w _:=kn.trans kS (fun _ _ x=>x) (fun x hx e=>absurd hx (by omega));go_wp2_with fail;refine bodyPost_ret (results_cell_row rfl _ _ _ _ _ _ _ rfl (NE b0 _ _ _ _ _ _ _ _ _) Tryz.underlying42 rfl (by kernel_rfl)) rfl ?_;exact⟨⟨_,_,_,_,_⟩,rfl,g _ kS,k0⟩
  case _=>omega
 ·rintro ls a W ⟨v5,v6,v7,v8,v9,v10,v11,v12,m,u,h⟩ f;have U:=kK f rfl (by rw[h.n];decide) (i:=0) (by simp);have l1:=kK f rfl (by rw[h.n];decide) (i:=1) (by simp);have l2:=kK f rfl (by rw[h.n];decide) (i:=2) (by simp);have l3:=kK f rfl (by rw[h.n];decide) (i:=3) (by simp);have l5:=kK f rfl (by rw[h.n];decide) (i:=5) (by simp);have Z:=kK f rfl (by rw[h.n];decide) (i:=7) (by simp);have l8:=kK f rfl (by rw[h.n];decide) (i:=8) (by simp);have T:=kK f rfl (by rw[h.n];decide) (i:=4) (by intro e he;simp at he;rcases he with rfl|rfl <;> assumption);have l6:=kK f rfl (by rw[h.n];decide) (i:=6) (by intro e he;simp at he;rcases he with rfl <;> assumption);have Q:=kK f rfl (by rw[h.n];decide) (i:=9) (by intro e he;simp at he;rcases he with rfl|rfl|rfl|rfl|rfl|rfl <;> assumption);have X:=kK f rfl (by rw[h.n];decide) (i:=10) (by intro e he;simp at he;rcases he with rfl|rfl|rfl|rfl|rfl|rfl|rfl|rfl|rfl|rfl|rfl <;> assumption);exact(h.my X).2
def XR(s:Nat)(w:Wd)(v:Vl)(n:Nat)(T:TypeId)(N:Nat)(F:Nat->Vl):Prop:=∃ b cs,s<b/\v=.slice (some ⟨b,0,none⟩) n n/\w.heap[b]?=some (.cells cs T)/\cs.size=N/\∀ j,j<N->cs[j]?=some (F j)
theorem XR.fm{s n N:Nat}{w W:Wd}{v:Vl}{T:TypeId}{F:Nat->Vl}{S:Nat->Prop}(h:XR s w v n T N F)(d:Kt S w W)(hS:∀ b,v.ownBlock=some b->¬S b):XR s W v n T N F:=by obtain⟨b,cs,c,rfl,a,h4⟩:=h;exact⟨b,cs,c,rfl,(d.block _ (lH a) (hS b rfl)).trans a,h4⟩
theorem XR.dk{s n N:Nat}{w W:Wd}{v:Vl}{T:TypeId}{F:Nat->Vl}(h:XR s w v n T N F)(a:Kt nO w W):XR s W v n T N F:=h.fm a fun _ _ x=>x
theorem XR.ty{s n N:Nat}{w:Wd}{v:Vl}{T:TypeId}{F:Nat->Vl}(h:XR s w v n T N F){b:Nat}(hb:v.ownBlock=some b):∃ cs,w.heap[b]?=some (.cells cs T):=by obtain⟨b,cs,c,rfl,a,h4⟩:=h;simp[Value.ownBlock] at hb;subst hb;exact⟨cs,a⟩
theorem XR.own{s n N:Nat}{w:Wd}{v:Vl}{T:TypeId}{F:Nat->Vl}(h:XR s w v n T N F){b:Nat}(hb:v.ownBlock=some b):s<b:=by obtain⟨b,cs,a,rfl,c,h4⟩:=h;simp[Value.ownBlock] at hb;subst hb;exact a
theorem XR.apart{s d n n' N f:Nat}{w:Wd}{v u:Vl}{T U:TypeId}{F G:Nat->Vl}(h:XR s w v n T N F)(k:XR d w u n' U f G)(g:T≠U){b:Nat}(hb:u.ownBlock=some b):∀ c,v.ownBlock=some c->¬c=b:=by
 rintro c hc rfl;obtain⟨c1,e⟩:=h.ty hc;obtain⟨c2,a⟩:=k.ty hb;rw[e] at a
 cases a
 exact g rfl
theorem XR.cell{s n N:Nat}{w:Wd}{b:Nat}{T:TypeId}{F:Nat->Vl}{m c:Nat}(h:XR s w (.slice (some ⟨b,0,none⟩) m c) n T N F){j:Nat}(a:j<N):w.cell? ⟨b,j,none⟩=some (F j):=by
 obtain⟨i,cs,g,e,d,h4,f⟩:=h
 cases e
 simp[World.cell?,d,f j a]
theorem XR.mq{s n N:Nat}{w:Wd}{b:Nat}{T:TypeId}{F:Nat->Vl}{m c:Nat}(h:XR s w (.slice (some ⟨b,0,none⟩) m c) n T N F)(j:Nat):w.frozen? ⟨b,j,none⟩=false:=by
 obtain⟨g,cs,d,e,a,h4,f⟩:=h
 cases e
 simp[World.frozen?,a]
theorem XR.put{s n N:Nat}{w:Wd}{b:Nat}{T:TypeId}{F:Nat->Vl}{m c:Nat}(h:XR s w (.slice (some ⟨b,0,none⟩) m c) n T N F){k:Nat}(l:k<N)(x:Vl):XR s (w.setCell ⟨b,k,none⟩ x) (.slice (some ⟨b,0,none⟩) m c) n T N fun j=>if j=k then x else F j:=by
 obtain⟨i,cs,d,e,f,h4,g⟩:=h
 cases e
 refine⟨_,cs.setIfInBounds k x,d,rfl,lF f x,by simpa using h4,fun j a=>?_⟩;by_cases e:j=k;·subst e;simp[h4,a]
 ·show _=some (if j=k then x else F j)
  rw[ac e,Array.getElem?_setIfInBounds_ne (Ne.symm e)];exact g j a
theorem XR.congr{s n N:Nat}{w:Wd}{v:Vl}{T:TypeId}{F G:Nat->Vl}(h:XR s w v n T N F)(e:∀ j,j<N->F j=G j):XR s w v n T N G:=by obtain⟨b,cs,c,d,f,h4,g⟩:=h;exact⟨b,cs,c,d,f,h4,fun j a=>(g j a).trans (by rw[e j a])⟩
structure ImOk(I:Img):Prop where
 lj:I.bS<18446744073709551616
 dl:N64 I.dl
 ord:N64 I.ord
 ep:N64 I.ep
 nm:I.nm<=9223372036854775807
 np:I.np<=9223372036854775807
 no:I.no<=9223372036854775807
 nh:I.hd.length<=9223372036854775807
 nt:I.pt.length<=9223372036854775807
 mem:∀ i,i<I.nm->I.mem i<256
 pg:∀ i,i<I.np->PgIn (I.pg i)
 pr:∀ i,i<I.no->∀ j,(I.pr i).getD j 0<2 ^ 64
 hd:∀ i,i<I.hd.length->I.hd.getD i 0<18446744073709551616
 pt:∀ i,i<I.pt.length->N64 (I.pt.getD i 0)
structure ImX(s:Nat)(w:Wd)(I:Img)(V:ImV)(ws:Nat->Vl):Prop where
 ok:ImOk I
 m:XR s w V.m I.nm 5 I.nm fun j=>.int .u8 (I.mem j:Int)
 p:XR s w V.p I.np 97 (I.np*11) fun j=>(I.pg (j/11)).es (j%11)
 r:XR s w V.r I.no 39 I.no ws
 u:∀ i,i<I.no->XR s w (ws i) (I.pr i).length 22 (I.pr i).length fun j=>.int .u64 (((I.pr i).getD j 0:Nat):Int)
 h:XR s w V.h I.hd.length 22 I.hd.length fun j=>.int .u64 ((I.hd.getD j 0:Nat):Int)
 t:XR s w V.t I.pt.length 3 I.pt.length fun j=>.int .i64 (I.pt.getD j 0)
theorem XR.le{s a n N:Nat}{w:Wd}{v:Vl}{T:TypeId}{F:Nat->Vl}(h:XR s w v n T N F)(e:a<=s):XR a w v n T N F:=by obtain⟨b,cs,f,d,c⟩:=h;exact⟨b,cs,by omega,d,c⟩
theorem ImX.le{s a:Nat}{w:Wd}{I:Img}{V:ImV}{ws:Nat->Vl}(h:ImX s w I V ws)(e:a<=s):ImX a w I V ws:=
 ⟨h.ok,h.m.le e,h.p.le e,h.r.le e,fun i hi=>(h.u i hi).le e,h.h.le e,h.t.le e⟩
theorem ImX.d{s:Nat}{w:Wd}{I:Img}{V:ImV}{ws:Nat->Vl}(h:ImX s w I V ws):ImD w I V:=by
 obtain⟨ok,v,hp,E,u,F,D⟩:=h;obtain⟨m,p,r,q,t⟩:=V;obtain⟨bm,Y,a1,rfl,g,Q,y⟩:=v;obtain⟨N,U,b1,rfl,b2,b3,C⟩:=hp;obtain⟨br,J,c1,rfl,c2,c3,c4⟩:=E;obtain⟨R,ch,G,rfl,o,T,z⟩:=F;obtain⟨bt,K,P,rfl,d,e3,A⟩:=D;refine⟨ok.lj,ok.dl,ok.ord,ok.ep,⟨ok.nm,_,_,rfl,.inr ⟨_,_,rfl,lH g,fun i hi=>⟨ok.mem i hi,?_⟩⟩⟩,?_,⟨ok.np,_,_,rfl,.inr ⟨_,_,rfl,lH b2,fun i hi=>⟨ok.pg i hi,fun j f=>?_⟩⟩⟩,⟨ws,ok.no,_,_,rfl,.inr ⟨_,_,rfl,lH c2,fun i hi=>⟨?_,?_⟩⟩⟩,⟨ok.nh,_,_,rfl,.inr ⟨_,_,rfl,lH o,fun i hi=>⟨ok.hd i hi,?_⟩⟩⟩,⟨ok.nt,_,_,rfl,.inr ⟨_,_,rfl,lH d,fun i hi=>⟨ok.pt i hi,?_⟩⟩⟩⟩;·simp[World.cell?,g,y i hi]
 ·intro a n c e
  cases e
  exact aj _
 ·have:=C (i*11+j) (by omega);dsimp only at this;rw[show(i*11+j)/11=i by omega,show(i*11+j)%11=j by omega] at this;simp[World.cell?,b2,this]
 ·simp[World.cell?,c2,c4 i hi]
 ·have hx:=u i hi;obtain⟨b,cs,L,l,B,X,Z⟩:=u i hi;rw[l] at hx;refine⟨ok.pr i hi,_,_,l,.inr ⟨_,rfl,lH B,fun j f=>?_⟩⟩;rw[show(⟨b,0,none⟩:Addr).add j=⟨b,j,none⟩by(unfold Addr.add;simp;intro e;exact e.symm)];exact hx.cell f
 ·simp[World.cell?,o,z i hi]
 ·simp[World.cell?,d,A i hi]
theorem mW.xr{s n N:Nat}{w:Wd}{v:Vl}{T:TypeId}{cs:Array Vl}{F:Nat->Vl}(h:mW s w v n T cs)(e:cs.size=N)(d:∀ j,j<N->cs[j]?=some (F j)):XR s w v n T N F:=by obtain⟨b,a,f,c⟩:=h;exact⟨b,cs,a,f,c,e,d⟩
theorem AN:ImOk bK:=by
 refine⟨by decide,by decide,by decide,by decide,by decide,by decide,by decide,by decide,by decide,fun _ _=>Nat.zero_lt_succ _,fun i hi=>?_,fun i hi j=>?_,?_,?_⟩
 ·have:i=0\/i=1:=by have:bK.np=2:=rfl;omega
  rcases this with rfl|rfl <;> exact⟨by decide,by decide,by decide,by decide,by decide,by decide,by decide,by decide,by decide,by decide,by decide⟩
 ·show([0] : List Nat).getD j 0<_
  match j with
  | 0=>decide
  | j+1=>simp
 ·decide
 ·decide
theorem XS(n:Nat):(zb n).size=n:=by unfold zb madeCells;simp
theorem VoK.x{s:Nat}{w:Wd}{V:ImV}(h:VoK s w V):∃ ws,ImX s w bK V ws:=by
 obtain⟨u,b,c⟩:=h.r.2;refine⟨fun _=>u,AN,h.m.2.xr (XS 8192) fun j a=>CD 8192 j a,h.p.2.xr rfl fun j a=>?_,b.xr rfl fun j a=>?_,fun i hi=>c.2.xr rfl fun j a=>?_,h.h.2.xr rfl fun j a=>?_,h.t.2.xr rfl fun j a=>?_⟩
 ·have a:j<22:=a;rcases j with _|_|_|_|_|_|_|_|_|_|_|_|_|_|_|_|_|_|_|_|_|_|j
  all_goals first|rfl|omega
 ·have a:j<1:=a;obtain rfl:j=0:=by omega
  rfl
 ·have a:j<1:=a;obtain rfl:j=0:=by omega
  rfl
 ·have a:j<2:=a;rcases j with _|_|j
  all_goals first|rfl|omega
 ·have a:j<8:=a;rcases j with _|_|_|_|_|_|_|_|j
  all_goals first|rfl|omega
end W
open Tryz RowKit
open Go.MuLone
set_option linter.unusedVariables false
section
variable {w W W1 W':Wd} {hb sb lw:Nat} {x:Bx} {t:Bt} {fr:Nat->List Nat} {ls:List (Nat×Nat)} {S:Sb} {s:Int}
theorem HW.other(H:HW w W hb sb lw x t fr ls S s){d:Nat}{cs:Array Vl}{e:TypeId}{z:Nat×Nat}(hy:W.heap[d]?=some (.cells cs e z))(j:w.heap.size<=d)(i:¬Go.Proofs.YtfmgnljlkdmndaaGreatDoor.pty e)(m:e≠117)(n:e≠68)(k:Kt (fun y=>y=d) W W'):HW w W' hb sb lw x t fr ls S s:=by
 obtain⟨h,o⟩:=H.so;have c:∀ y,(aC x y\/y=x.b\/y=x.l\/y=lw)->y≠d:=fun y a e=>by subst e;exact i (o.sw.pl.pty hy a)
 have g:sb≠d:=fun e=>by subst e;exact m (kM hy o.sw.bx)
 have f:hb≠d:=fun e=>by subst e;exact n (kM hy H.bx)
 refine⟨⟨h,⟨⟨⟨(k.block _ (lH o.sw.pl.box) (c _ (.inr (.inr (.inr rfl))))).trans o.sw.pl.box,o.sw.pl.bd.kept k (fun y a=>c y ?_),o.sw.pl.nw,o.sw.pl.kp.trans k (fun _ _ e=>e) (fun y hy e=>absurd j (by rw[<-e];exact Nat.not_le.2 hy))⟩,(k.block _ (lH o.sw.bx) g).trans o.sw.bx,o.sw.nw,o.sw.tb⟩,o.sf,o.st,o.bm,o.si,o.hd⟩⟩,H.lv,(k.block _ (lH H.bx) f).trans H.bx,H.nw,H.br⟩;rcases a with a|a|a
 ·exact .inl a
 ·exact .inr (.inl a)
 ·exact .inr (.inr (.inl a))
end
section
variable {α : Type} [DecidableEq α] {dec : α->Option Nat} {nil : α} {ez bk:Nat->α}
def jX(dec : α->Option Nat)(nil : α)(ez bk:Nat->α):List Nat->α->α->Prop
 | [],p,_=>p=nil
 | i :: r,p,b=>p≠nil/\dec p=some i/\bk i=b/\jX dec nil ez bk r (ez i) p
theorem IR:∀ (n:Nat) (l:List Nat) (p b : α),l.length=n->l.Nodup->W.prgL dec nil ez bk (n+1) l p b=true->∃ a:List Nat,a.Perm l/\jX dec nil ez bk a p b:=by
 intro n;induction n with
 | zero=>
  intro l p b hl _ h;have:l=[]:=bq hl;subst this;refine⟨[],.refl _,?_⟩;by_cases hp:p=nil;·exact hp
  ·rw[W.prgL,ac hp] at h
   cases e:dec p <;> rw[e] at h <;> simp at h
 | succ n g=>
  intro l p b hl hd h;by_cases hp:p=nil;·rw[W.prgL,ae hp] at h;have:l=[]:=List.isEmpty_iff.1 h;rw[this] at hl;cases hl
  ·rw[W.prgL,ac hp] at h
   cases e:dec p with
   | none=>rw[e] at h;cases h
   | some i=>rw[e] at h;simp only[bu,ci] at h;obtain⟨c,j,d⟩:=h;obtain⟨a,h4,f⟩:=g (l.erase i) (ez i) p (by rw[dp c,hl];rfl) (hd.erase i) d;exact⟨i :: a,(h4.cons i).trans (List.perm_cons_erase c).symm,hp,e,j,f⟩
omit [DecidableEq α] in
theorem jX.at{cod:Nat->α}(c:∀ p i,dec p=some i->p=cod i):∀ (a:List Nat) (p b : α),jX dec nil ez bk a p b->
  p=(if 0<a.length then cod (a.getD 0 0) else nil)/\∀ j,j<a.length->ez (a.getD j 0)=(if j+1<a.length then cod (a.getD (j+1) 0) else nil)/\bk (a.getD j 0)=(if j=0 then b else cod (a.getD (j-1) 0))
 | [],p,b,h=>⟨by rw[ac (by simp)];exact h,fun j d=>by simp at d⟩
 | i :: r,p,b,h=>by
  obtain⟨q,l,m,h4⟩:=h;have hp:=c p i l;obtain⟨f,n⟩:=jX.at c r (ez i) p h4;refine⟨by rw[ae (by simp)];exact hp,fun j d=>?_⟩
  cases j with
  | zero=>
   refine⟨?_,m⟩;show ez i=_
   rw[f];by_cases e : 0<r.length;·rw[ae e,ae (by simpa using e)];rfl
   ·rw[ac e,ac (by simpa using e)]
  | succ j=>
   have d:j<r.length:=(by simpa using d);obtain⟨g,o⟩:=n j d;refine⟨?_,?_⟩
   ·show ez (r.getD j 0)=_
    rw[g];by_cases e:j+1<r.length;·rw[ae e,ae (by simpa using e)];rfl
    ·rw[ac e,ac (by simpa using e)]
   ·show bk (r.getD j 0)=_
    rw[o,ac (by omega:¬j+1=0),eh]
    cases j with
    | zero=>rw[ae rfl];exact hp
    | succ j=>rw[ac (by omega),eh];rfl
end
theorem zkb{nx:Nat->Option Int} : ∀ (n:Nat) (l:List Nat) (p:Int),l.length=n->l.Nodup->W.prg9 nx (n+1) l p=true->∃ a:List Nat,a.Perm l/\p=bB a/\oH nx a:=by
 intro n;induction n with
 | zero=>
  intro l p hl _ h;have:l=[]:=bq hl;subst this;refine⟨[],.refl _,?_,trivial⟩;by_cases hp:p = -1;·exact hp
  ·rw[W.prg9,ac hp,ac (by simp)] at h;cases h
 | succ n d=>
  intro l p hl hd h;by_cases hp:p = -1;·rw[W.prg9,ae hp] at h;have:l=[]:=List.isEmpty_iff.1 h;rw[this] at hl;cases hl
  ·rw[W.prg9,ac hp] at h;by_cases hm : 0<=p/\p.toNat∈l
   ·rw[ae hm] at h
    cases e:nx p.toNat with
    | none=>rw[e] at h;cases h
    | some q=>rw[e] at h;obtain⟨a,h4,b,c⟩:=d (l.erase p.toNat) q (by rw[dp hm.2,hl];rfl) (hd.erase _) h;exact⟨p.toNat :: a,(h4.cons _).trans (List.perm_cons_erase hm.2).symm,by show p=((p.toNat:Nat):Int);omega,by rw[e,b],c⟩
   ·rw[ac hm] at h;cases h
theorem uY{I:W.Img} : ∀ n a,W.r4F I n a=none->I.np<=a+n->∀ i,a<=i->i<I.np->∃ p,p<=i/\i<p+2 ^ (I.pg p).od.toNat/\p<I.np/\W.hdOk (I.pg p) p=true/\∀ y,y<2 ^ (I.pg p).od.toNat-1->W.rsOk (I.pg p) (I.pg (p+1+y))=true
 | 0,a,_,f,i,d,c=>absurd c (by omega)
 | n+1,a,h,f,i,d,c=>by
  unfold W.r4F at h;rw[ac (by omega)] at h;by_cases b:W.hdOk (I.pg a) a=false;·rw[ae b] at h;cases h
  rw[ac b] at h;have b:W.hdOk (I.pg a) a=true:=by simpa using b
  cases e:W.fst1 (2 ^ (I.pg a).od.toNat-1) (fun i=>W.rsOk (I.pg a) (I.pg (a+1+i)))with
  | some i=>rw[e] at h;cases h
  | none=>
   rw[e] at h;have hp : 0<2 ^ (I.pg a).od.toNat:=ax _;by_cases g:i<a+2 ^ (I.pg a).od.toNat;·exact⟨a,d,g,by omega,b,W.fst1_none e⟩
   ·exact uY n _ h (by omega) i (by omega) c
theorem sA{p:Pg}{a:Nat}(h:W.hdOk p a=true)(h4:¬p.kd=4):(p.kd=0\/p.kd=2)/\a%2 ^ p.od.toNat=0/\p=aT p.kd p.od:=by
 unfold W.hdOk at h;rw[ac h4] at h;by_cases e:p.kd=0\/p.kd=2;·rw[ae e,bu,ci] at h;exact⟨e,h.1,bw h.2⟩
 ·rw[ac e] at h;cases h
theorem uX{p:Pg}{a:Nat}(h:W.hdOk p a=true)(h4:p.kd=4):p.od=0:=by unfold W.hdOk at h;rw[ae h4] at h;exact bw h
theorem uQ{p q:Pg}(h:W.rsOk p q=true):q=aT (p.kd+1) p.od:=bw h
def iZ(I:W.Img)(g p k:Nat):Prop:=p<I.np/\((g=2/\k=0/\(I.pg p).kd=4)\/((g=0\/g=2)/\(I.pg p).kd=(g:Int)/\(I.pg p).od=(k:Int)))
section
variable {I:W.Img} {k r:Nat} (hS:W.Sn9 I k r) (h4:W.rl I 3=none)
include hS h4
omit hS in
theorem rZ{g p j:Nat}(hb:iZ I g p j):W.hdOk (I.pg p) p=true/\(∀ y,y<2 ^ j-1->W.rsOk (I.pg p) (I.pg (p+1+y))=true)/\(I.pg p).od=(j:Int):=by
 obtain⟨hp,hb⟩:=hb;obtain⟨q,n,h,o,a,d⟩:=uY _ _ h4 (by omega) p (by omega) hp;have e:q=p:=by
  by_cases e:q=p;·exact e
  exfalso
  have l:=uQ (d (p-q-1) (by omega));rw[show q+1+(p-q-1)=p by omega] at l;have u:(I.pg p).kd=(I.pg q).kd+1:=by rw[l];rfl
  by_cases i:(I.pg q).kd=4;·rw[uX a i] at h;simp at h;omega
  ·have:=(sA a i).1;rcases hb with ⟨-,-,c⟩|⟨hg,c,-⟩
   ·omega
   ·omega
 subst e;rcases hb with ⟨-,m,c⟩|⟨hg,c,b⟩
 ·subst m;have f:=uX a c;exact⟨a,fun y hy=>by simp at hy,f⟩
 ·rw[b,aa] at d;exact⟨a,d,b⟩
theorem zT{g p j:Nat}(hb:iZ I g p j):j<=k/\p%2 ^ j=0/\p+2 ^ j<=I.np:=by
 obtain⟨d,q,f⟩:=rZ h4 hb;obtain⟨hp,hb⟩:=hb;obtain⟨kd,o,c,l,u,m,v,n,-⟩:=hS.pg p hp;have a:j<=k:=by omega
 have b:p%2 ^ j=0:=by
  rcases hb with ⟨-,h,e⟩|⟨hg,e,i⟩
  ·subst h;simp[Nat.mod_one]
  ·have:=(sA d (by omega)).2.1;rwa [f,aa] at this
 exact⟨a,b,W.mul_fits (hS.dvd j a) b hp⟩
theorem ON(i:Nat)(hi:i<I.np):∃ g p j,iZ I g p j/\p<=i/\i<p+2 ^ j:=by
 obtain⟨q,e,a,b,h,y⟩:=uY _ _ h4 (by omega) i (by omega) hi;by_cases d:(I.pg q).kd=4;·have f:=uX h d;rw[f] at a;exact⟨2,q,0,⟨b,.inl ⟨rfl,rfl,d⟩⟩,e,a⟩
 ·obtain⟨kd,o,c,l,n,u,m,v,-⟩:=hS.pg q b;have f:=(sA h d).1;rw[m,aa] at a;exact⟨kd,q,o,⟨b,.inr ⟨by omega,n,m⟩⟩,e,a⟩
omit hS in
theorem OM{g p j:Nat}(hb:iZ I g p j)(i:Nat)(o:p<=i)(n:i<p+2 ^ j)(f:¬(I.pg i).kd=4):I.pg i=aT (if i=p then (g:Int) else (g:Int)+1) (j:Int):=by
 obtain⟨m,l,h⟩:=rZ h4 hb;obtain⟨hp,hb⟩:=hb;by_cases e:i=p
 ·subst e;rw[ae rfl];rcases hb with ⟨-,d,a⟩|⟨hg,a,b⟩
  ·exact absurd a f
  ·have:=(sA m f).2.2;rw[a,b] at this;exact this
 ·rw[ac e];have c:=uQ (l (i-p-1) (by omega));rw[show p+1+(i-p-1)=i by omega,h] at c;rcases hb with ⟨-,d,a⟩|⟨hg,a,b⟩
  ·subst d;simp at n;omega
  ·rw[a] at c;exact c
omit hS in
theorem DS{g p j:Nat}(hb:iZ I g p j)(i:Nat)(l:p<i)(f:i<p+2 ^ j):(I.pg i).kd=1\/(I.pg i).kd=3:=by
 obtain⟨m,c,h⟩:=rZ h4 hb;have a:=uQ (c (i-p-1) (by omega));rw[show p+1+(i-p-1)=i by omega] at a;have n:(I.pg i).kd=(I.pg p).kd+1:=by rw[a];rfl
 rcases hb.2 with ⟨-,d,b⟩|⟨hg,b,e⟩
 ·subst d;simp at f;omega
 ·omega
omit hS in
theorem OL{g p j d q i:Nat}(a:iZ I g p j)(b:iZ I d q i):(g=d/\p=q/\j=i)\/p+2 ^ j<=q\/q+2 ^ i<=p:=by
 have f:∀ {g p j:Nat},iZ I g p j->(I.pg p).kd=4\/(I.pg p).kd=0\/(I.pg p).kd=2:=fun h=>by
  rcases h.2 with ⟨-,-,e⟩|⟨v,u,-⟩
  ·exact .inl e
  ·omega
 by_cases e:p=q
 ·subst e;left
  rcases a.2 with ⟨o,l,m⟩|⟨o,l,m⟩ <;> rcases b.2 with ⟨b1,b2,b3⟩|⟨b1,b2,b3⟩ <;> (refine⟨?_,rfl,?_⟩ <;> omega)
 ·right
  by_cases n:p<q
  ·left
   refine Nat.le_of_not_lt fun c=>?_
   have:=DS h4 a q n c;have:=f b;omega
  ·right
   refine Nat.le_of_not_lt fun c=>?_
   have:=DS h4 b p (by omega) c;have:=f a;omega
end
theorem WZ{ws:List Nat}{j:Nat}(h : 64*ws.length<=j):aE ws j=false:=by unfold aE;rw[ai,dj (by omega)];simp
theorem wE{I:W.Img}{a:Nat}(h:W.r7k I a=none):(∀ i,i<I.np/2 ^ (a+1)->aE (I.pr a) i=W.onF I a i)/\∀ j,I.np/2 ^ (a+1)<=j->aE (I.pr a) j=false:=by
 unfold W.r7k at h
 cases e:W.fst1 (I.np/2 ^ (a+1)) (fun i=>aE (I.pr a) i == W.onF I a i)with
 | some i=>rw[e] at h;cases h
 | none=>
  rw[e] at h;refine⟨fun i hi=>by simpa using W.fst1_none e i hi,fun j c=>?_⟩;by_cases hl:j<64*(I.pr a).length
  ·rcases W.nxtN_of (n:=64*(I.pr a).length) (ws:=I.pr a) (k:=I.np/2 ^ (a+1))with ⟨-,b⟩|⟨q,d,-⟩
   ·exact b j c hl
   ·have h:(if bI (64*(I.pr a).length) (I.pr a) (I.np/2 ^ (a+1)) = -1 then none else some I.np)=none:=h;rw[ac (by rw[d];omega)] at h
    cases h
  ·exact WZ (by omega)
theorem vD{I:W.Img}{k:Nat}(h:W.r2 I k=none):I.ep.toNat*2 ^ k=I.np/\0<=I.ep/\I.ep<=I.dl:=by
 unfold W.r2 at h;by_cases c1:W.wiB I.ep 0 I.dl=false;·rw[ae c1] at h;cases h
 rw[ac c1] at h;by_cases c2:I.nm≠I.ep.toNat*2 ^ k*4096;·rw[ae c2] at h;cases h
 rw[ac c2] at h;by_cases c3:I.np≠I.ep.toNat*2 ^ k;·rw[ae c3] at h;cases h
 have a:W.wiB I.ep 0 I.dl=true:=by simpa using c1
 unfold W.wiB at a;exact⟨(ed.1 c3).symm,bw a⟩
theorem JN{n:Nat}{f:Nat->Option Nat}(h:W.fstO n f=none)(a:Nat)(ha:a<n):f a=none:=by unfold W.fstO at h;exact List.findSome?_eq_none_iff.1 h a (List.mem_range.2 ha)
theorem nW(I:W.Img):W.rl I 1=W.r2 I I.ord.toNat:=by rw[W.rl]
theorem yS(I:W.Img):W.rl I 4=W.fst1 I.np fun i=>W.ok5 (I.pg i):=by rw[W.rl]
theorem yR(I:W.Img):W.rl I 5=W.fst1 I.np (W.ok6 I I.ord.toNat):=by rw[W.rl]
theorem rH(I:W.Img):W.rl I 6=W.r7 I:=by rw[W.rl]
theorem yQ(I:W.Img):W.rl I 7=W.fst1 (I.ord.toNat+1) (W.ok8 I):=by rw[W.rl]
theorem yP(I:W.Img):W.rl I 8=W.fst1 I.np (W.ok9 I):=by rw[W.rl]
theorem yO(I:W.Img):W.rl I 9=W.fst1 8 (W.ok10 I):=by rw[W.rl]
theorem OX(I:W.Img):W.rl I 10=W.fst1 I.np (W.ok11 I):=by rw[W.rl]
def gZ(I:W.Img)(p:Nat):Option Nat:=if p<I.np/\(I.pg p).kd=4 then some (I.pg p).cl.toNat else none
structure Ls9(I:W.Img)(k:Nat)(fr:Nat->List Nat)(S:Sb):Prop where
 c:∀ p,S.c p=gZ I p
 fr:∀ j,j<=k->(fr j).Perm (W.pgL I fun p=>W.isF p (j:Int))/\jX (W.decP I) 0 (fun i=>M.word I.mem (4096*i)) (fun i=>M.word I.mem (4096*i+8)) (fr j) (I.hd.getD j 0) 0
 pl:∀ c,c<8->(S.pl c).Perm (W.pgL I (W.prS (c:Int)))/\jX (W.dec10 I) (-1) (fun i=>(I.pg i).nx) (fun i=>(I.pg i).pv) (S.pl c) (I.pt.getD c 0) (-1)
 fl:∀ p c,gZ I p=some c->(S.fl p).Perm (W.frL (I.pg p) (W.celN9 c))/\(I.pg p).fs=bB (S.fl p)/\oH (W.nx9 I p c) (S.fl p)
theorem QI{I:W.Img}(hc:(W.chk I).1=0):∃ fr S,Ls9 I I.ord.toNat fr S:=by
 have q:∀ j:Nat,∃ a:List Nat,j<=I.ord.toNat->a.Perm (W.pgL I fun p=>W.isF p (j:Int))/\jX (W.decP I) 0 (fun i=>M.word I.mem (4096*i)) (fun i=>M.word I.mem (4096*i+8)) a (I.hd.getD j 0) 0:=fun j=>by
  by_cases f:j<=I.ord.toNat;·have h:=W.fst1_none ((yQ I).symm.trans (W.chk_zero hc 7 (by decide))) j (by omega);rw[W.ok8] at h;obtain⟨a,b,d⟩:=IR _ _ _ _ rfl (W.pgL_nodup I _) h;exact⟨a,fun _=>⟨b,d⟩⟩
  ·exact⟨[],fun h=>absurd h f⟩
 have n:∀ c:Nat,∃ a:List Nat,c<8->a.Perm (W.pgL I (W.prS (c:Int)))/\jX (W.dec10 I) (-1) (fun i=>(I.pg i).nx) (fun i=>(I.pg i).pv) a (I.pt.getD c 0) (-1):=fun c=>by
  by_cases f:c<8;·have h:=W.fst1_none ((yO I).symm.trans (W.chk_zero hc 9 (by decide))) c f;rw[W.ok10] at h;obtain⟨a,b,d⟩:=IR _ _ _ _ rfl (W.pgL_nodup I _) h;exact⟨a,fun _=>⟨b,d⟩⟩
  ·exact⟨[],fun h=>absurd h f⟩
 have u:∀ p:Nat,∃ a:List Nat,∀ c,gZ I p=some c->a.Perm (W.frL (I.pg p) (W.celN9 c))/\(I.pg p).fs=bB a/\oH (W.nx9 I p c) a:=fun p=>by
  by_cases hp:p<I.np/\(I.pg p).kd=4
  ·have h:=W.fst1_none ((yP I).symm.trans (W.chk_zero hc 8 (by decide))) p hp.1;rw[W.ok9,af hp.2,Bool.not_true,Bool.false_or,W.ok9c] at h;obtain⟨a,b,d,o⟩:=zkb _ _ _ rfl (List.nodup_range.filter _) h;refine⟨a,fun c e=>?_⟩;unfold gZ at e;rw[ae hp] at e;injection e with e
   subst e;exact⟨b,d,o⟩
  ·refine⟨[],fun c e=>?_⟩;unfold gZ at e;rw[ac hp] at e
   cases e
 obtain⟨fr,g⟩:=Classical.axiomOfChoice q;obtain⟨pl,m⟩:=Classical.axiomOfChoice n;obtain⟨fl,l⟩:=Classical.axiomOfChoice u;exact⟨fr,⟨gZ I,fl,pl⟩,⟨fun _=>rfl,g,m,l⟩⟩
theorem qK{I:W.Img}{p c:Nat}(h:gZ I p=some c):p<I.np/\(I.pg p).kd=4/\(I.pg p).cl.toNat=c:=by
 unfold gZ at h;by_cases hp:p<I.np/\(I.pg p).kd=4
 ·rw[ae hp] at h;injection h with h
  exact⟨hp.1,hp.2,h⟩
 ·rw[ac hp] at h;cases h
theorem zlE{I:W.Img}{p:Nat}(h:gZ I p=none)(hp:p<I.np):¬(I.pg p).kd=4:=fun e=>by unfold gZ at h;rw[ae ⟨hp,e⟩] at h;cases h
structure Im9(I:W.Img)(x:Bx)(t:Bt)(S:Sb):Prop where
 bS:x.bS=I.bS
 n:x.n=I.nm
 o:x.o=I.ord.toNat
 P:x.P=fI S t.m
 w:∀ q,q+8<=I.nm->M.word t.f q=M.word I.mem q
 mo:t.m.o=x.o
 mn:t.m.n=I.np
 pg:∀ i,i<I.np->t.m.pg i=I.pg i
 wd:∀ j,j<x.o->t.m.wd j=I.pr j
 hd:∀ j,j<=x.o->t.hd j=I.hd.getD j 0
section
variable {I:W.Img} {fr:Nat->List Nat} {S:Sb} {x:Bx} {t:Bt}
theorem pD(hc:(W.chk I).1=0)(b:∀ i,i<I.np->W.PgIn (I.pg i))(hl:Ls9 I I.ord.toNat fr S){p c:Nat}(h:gZ I p=some c):c<8/\(I.pg p).od=0/\(I.pg p).cl=(c:Int)/\(S.fl p).Nodup/\(∀ i,i∈S.fl p↔i<aF c/\aE (W.wsP (I.pg p)) i=false)/\(I.pg p).lv=((aF c-(S.fl p).length:Nat):Int)/\(S.fl p).length<aF c/\∀ i,i<256->aJ (I.pg p) i=decide (i<aF c/\i ∉ S.fl p):=by
 obtain⟨hp,h4,z⟩:=qK h;obtain⟨r,hS⟩:=W.sn9_chk hc;obtain⟨kd,o,a,l,N,F,Q,G,m,E,-⟩:=hS.pg p hp;have g:a=c:=by omega
 subst g;have hb:iZ I 2 p 0:=⟨hp,.inl ⟨rfl,rfl,h4⟩⟩;have hd:=(rZ (W.chk_zero hc 3 (by decide)) hb).2.2;have u:=W.fst1_none ((yS I).symm.trans (W.chk_zero hc 4 (by decide))) p hp;obtain⟨lv,A,K,B,D⟩:=W.ok5_lv (b p hp) m E h4 u;have v:=((W.ok5_iff (I.pg p) (b p hp) a m h4).1 u).2;obtain⟨q,P,L⟩:=hl.fl p a h;have fn:(S.fl p).Nodup:=q.nodup_iff.2 (List.nodup_range.filter _);have j:∀ i,i∈S.fl p↔i<aF a/\aE (W.wsP (I.pg p)) i=false:=fun i=>by rw[q.mem_iff];simp only[W.frL,List.mem_filter,List.mem_range,Bool.not_eq_true'];exact Iff.rfl
 have C:(S.fl p).length+aI (aE (W.wsP (I.pg p))) (W.celN9 a)=W.celN9 a:=by rw[q.length_eq];exact W.frL_len _ _
 have y:a<8:=by omega
 have J:=cV y;have f:W.celN9 a=aF a:=rfl;rw[f] at C B D v;refine⟨y,hd,m,fn,j,?_,by omega,fun i hi=>?_⟩;·rw[A];congr 1;omega
 ·rw[<-DK _ hi];by_cases n:i<aF a
  ·cases e:aE (W.wsP (I.pg p)) i with
   | false=>exact(ah fun d=>d.2 ((j i).2 ⟨n,e⟩)).symm
   | true=>exact(af ⟨n,fun d=>by have:=((j i).1 d).2;rw[e] at this;cases this⟩).symm
  ·rw[v i (by omega) hi];exact(ah fun d=>n d.1).symm
end
section
variable {I:W.Img} {fr:Nat->List Nat} {S:Sb} {x:Bx} {t:Bt}
theorem zC(hc:(W.chk I).1=0)(hl:Ls9 I I.ord.toNat fr S){p j:Nat} : iZ I 0 p j↔(j<=I.ord.toNat/\p∈fr j):=by
 obtain⟨r,hS⟩:=W.sn9_chk hc;constructor
 ·rintro ⟨hp,⟨e,-⟩|⟨-,b,c⟩⟩
  ·cases e
  ·obtain⟨kd,o,i,l,h,f,m,g,-⟩:=hS.pg p hp;have a:j<=I.ord.toNat:=(by omega);refine⟨a,(hl.fr j a).1.mem_iff.2 (W.pgL_mem.2 ⟨hp,?_⟩)⟩;unfold W.isF;rw[b,c];simp
 ·rintro ⟨a,d⟩;obtain⟨hp,hf⟩:=W.pgL_mem.1 ((hl.fr j a).1.mem_iff.1 d);obtain⟨b,c⟩:=W.isF_od hf;exact⟨hp,.inr ⟨.inl rfl,b,c⟩⟩
theorem mE(hc:(W.chk I).1=0)(hl:Ls9 I I.ord.toNat fr S){p j:Nat}(hp:p<I.np)(a:j<=I.ord.toNat):W.isF (I.pg p) (j:Int)=decide (p∈fr j):=by
 rw[Bool.eq_iff_iff,ci];constructor;·intro h;exact(hl.fr j a).1.mem_iff.2 (W.pgL_mem.2 ⟨hp,h⟩)
 ·intro h;exact(W.pgL_mem.1 ((hl.fr j a).1.mem_iff.1 h)).2
theorem NI(hc:(W.chk I).1=0)(b:∀ i,i<I.np->W.PgIn (I.pg i))(hl:Ls9 I I.ord.toNat fr S){p c:Nat}(j:c<8):p∈S.pl c↔(gZ I p=some c/\S.fl p≠[]):=by
 rw[(hl.pl c j).1.mem_iff,W.pgL_mem];unfold W.prS;constructor
 ·rintro ⟨hp,h⟩;simp only[bu,ci,Bool.not_eq_true'] at h;obtain⟨d,f,l⟩:=h;have a:gZ I p=some c:=by
   unfold gZ;rw[ae ⟨hp,d⟩,f,aa]
  obtain⟨-,-,-,-,-,g,n,-⟩:=pD hc b hl a;refine⟨a,fun e=>?_⟩;rw[f,aa,g,e] at l;exact of_decide_eq_false l rfl
 ·rintro ⟨d,f⟩;obtain⟨hp,h4,-⟩:=qK d;obtain⟨-,-,a,-,-,g,n,-⟩:=pD hc b hl d;have m : 0<(S.fl p).length:=List.length_pos_iff.2 f;refine⟨hp,?_⟩;rw[h4,a,g,aa,ah (show ¬((aF c-(S.fl p).length:Nat):Int)=((W.celN9 c:Nat):Int)from fun e=>by
   have e:aF c-(S.fl p).length=aF c:=Int.ofNat.inj e;omega)]
  simp
theorem ch9(hc:(W.chk I).1=0)(hl:Ls9 I I.ord.toNat fr S)(hx:Im9 I x t S){j:Nat}(v:j<=x.o):M.Chn x.bS x.n t.f (t.hd j) ((fr j).map (ad x)):=by
 obtain⟨r,hS⟩:=W.sn9_chk hc;have q:j<=I.ord.toNat:=by rw[<-hx.o];exact v
 obtain⟨u,B⟩:=hl.fr j q;have D:=hS.b0;have C:=hS.be;have E:=hS.nm;have g:∀ i∈fr j,i<I.np:=fun i hi=>(W.pgL_mem.1 (u.mem_iff.1 hi)).1
 obtain⟨A,z⟩:=jX.at (cod:=ad x) (fun p i h=>by have:=(W.decP_lt hS h).2.1;unfold ad;rw[hx.bS];exact this) _ _ _ B;have d:∀ i,i<(fr j).length->(fr j).getD i 0<I.np:=fun i hi=>g _ (by rw[ai,bo hi];exact List.getElem_mem _)
 have m:(fr j).Nodup:=u.nodup_iff.2 (W.pgL_nodup I _);have b:((fr j).map (ad x)).length=(fr j).length:=List.length_map _;have a:∀ i,i<(fr j).length->((fr j).map (ad x)).getD i 0=ad x ((fr j).getD i 0):=fun i hi=>oY _ _ _ hi
 have c:∀ i,(fr j).length<=i->((fr j).map (ad x)).getD i 0=0:=fun i hi=>by rw[ai,dj (by rw[b];exact hi)];rfl
 refine⟨?_,?_,?_,?_,?_⟩;·intro y hy;obtain⟨i,hi,rfl⟩:=List.mem_map.1 hy;have:=g i hi;unfold M.IsCell ad;rw[hx.bS,hx.n];omega
 ·exact List.pairwise_map.2 (m.imp fun l e=>l (by unfold ad at e;omega))
 ·rw[hx.hd j v,A];by_cases e : 0<(fr j).length
  ·rw[ae e,a 0 e]
  ·rw[ac e,c 0 (by omega)]
 ·intro i hi;rw[b] at hi;have:=d i hi;rw[a i hi];unfold M.nx ad;rw[Nat.add_sub_cancel_left,hx.w _ (by omega),(z i hi).1];by_cases e:i+1<(fr j).length
  ·rw[ae e];exact(a _ e).symm
  ·rw[ac e];exact(c _ (by omega)).symm
 ·intro i hi;rw[b] at hi;have:=d i hi;rw[a i hi];unfold M.pv ad;rw[show x.bS+4096*(fr j).getD i 0+8-x.bS=4096*(fr j).getD i 0+8 by omega,hx.w _ (by omega),(z i hi).2];by_cases e:i=0
  ·rw[ae e,ae e]
  ·rw[ac e,ac e];exact(a _ (by omega)).symm
theorem rN(hc:(W.chk I).1=0)(hx:Im9 I x t S){p c:Nat}(hp:p<I.np)(a:c<8):∀ l:List Nat,(∀ i∈l,i<aF c)->oH (W.nx9 I p c) l->mI x t.f p c l
 | [],_,_=>trivial
 | i :: r,hl,g=>by
  refine⟨?_,rN hc hx hp a r (fun j h=>hl j (dq _ h)) g.2⟩;obtain⟨y,hS⟩:=W.sn9_chk hc;have q:=hS.nm;have u:=hS.b0;have d:=cV a;have hi:=hl i aw;have m:(i+1)*aB c<=aF c*aB c:=ak _ hi;rw[d.1,av,aL] at m;have hs : 16<=aB c:=by unfold aB;have:=ax c;omega
  rw[hx.w _ (by omega)];have e:=g.1;unfold W.nx9 at e;change (if M.word I.mem (4096*p+i*aB c)=0 then some (-1) else if I.bS+p*4096<=M.word I.mem (4096*p+i*aB c)/\M.word I.mem (4096*p+i*aB c)-(I.bS+p*4096)<4096/\(M.word I.mem (4096*p+i*aB c)-(I.bS+p*4096))%aB c=0 then some (((M.word I.mem (4096*p+i*aB c)-(I.bS+p*4096))/aB c:Nat):Int) else none)=some (bB r)at e
  generalize M.word I.mem (4096*p+i*aB c)=v at e;by_cases h0:v=0
  ·rw[ae h0] at e;injection e with e
   cases r with
   | nil=>exact h0
   | cons j o=>have e:(-1:Int)=(j:Int):=e;omega
  ·rw[ac h0] at e;by_cases b:I.bS+p*4096<=v/\v-(I.bS+p*4096)<4096/\(v-(I.bS+p*4096))%aB c=0
   ·rw[ae b] at e;injection e with e
    cases r with
    | nil=>have e:(((v-(I.bS+p*4096))/aB c:Nat):Int) = -1:=e;generalize (v-(I.bS+p*4096))/aB c=z at e;omega
    | cons j o=>
     have e:(((v-(I.bS+p*4096))/aB c:Nat):Int)=(j:Int):=e;have e:(v-(I.bS+p*4096))/aB c=j:=Int.ofNat.inj e;have n:=dy (v-(I.bS+p*4096)) (aB c);rw[b.2.2,e,Nat.add_zero,aq] at n;show v=aM x p c j
     unfold aM;rw[hx.bS];omega
   ·rw[ac b] at e;cases e
theorem AH(hc:(W.chk I).1=0)(f:∀ i,i<I.np->W.PgIn (I.pg i))(hl:Ls9 I I.ord.toNat fr S)(hx:Im9 I x t S):St0 x t fr (iZ I) S I.dl.toNat/\I.dl=(I.dl.toNat:Int)/\∀ c,c<8->I.pt.getD c 0=bB (S.pl c):=by
 obtain⟨r,hS⟩:=W.sn9_chk hc;have E:=W.chk_zero hc 3 (by decide);have z:=W.may_of (W.chk_zero hc 0 (by decide));obtain⟨kk,LL,f1,f2,f3,f4,-⟩:=W.may_facts z;have T:=(nW I).symm.trans (W.chk_zero hc 1 (by decide));obtain⟨q1,q2,q3⟩:=vD T;have b:x.o=I.ord.toNat:=hx.o;have Y:∀ a,a<I.ord.toNat->W.r7k I a=none:=fun a ha=>JN ((rH I).symm.trans (W.chk_zero hc 6 (by decide))) a (by rw[hS.no];exact ha)
 have G:∀ p,x.P p=(gZ I p).map fun _=>t.m.pg p:=fun p=>by rw[hx.P];unfold fI;rw[hl.c p]
 have V:∀ c,c<8->∀ j,j<(S.pl c).length->(I.pg ((S.pl c).getD j 0)).nx=(if j+1<(S.pl c).length then (((S.pl c).getD (j+1) 0:Nat):Int) else -1)/\(I.pg ((S.pl c).getD j 0)).pv=(if j=0 then -1 else (((S.pl c).getD (j-1) 0:Nat):Int)):=fun c u=>(jX.at (cod:=fun i=>(i:Int)) (fun p i h=>(W.dec10_i h).2.1) _ _ _ (hl.pl c u).2).2
 have A:∀ c,c<8->(S.pl c).Nodup:=fun c u=>(hl.pl c u).1.nodup_iff.2 (W.pgL_nodup I _)
 refine⟨⟨⟨hx.mo,by rw[b];exact hS.k8,⟨r,by rw[hx.mn,b];exact hS.np⟩,by rw[hx.mn,hx.n,hS.nm];exact aj _,by rw[hx.mn];exact hS.gj,by rw[hx.bS];have:=hS.b0;omega,by rw[hx.bS,hx.n];exact hS.be,?_,fun p j=>by rw[b];exact zC hc hl,?_,fun g p j g' q i=>OL E,?_,?_,fun j d=>ch9 hc hl hx d,?_,?_,?_,?_⟩,?_,by rw[hx.mn,hx.n,hS.nm],⟨hx.P,?_,?_,?_,A,fun c u p=>by rw[hl.c p];exact NI hc f hl u⟩,?_,?_,?_,?_,?_⟩,by omega,?_⟩
 ·rintro g p j ⟨-,⟨e,-⟩|⟨e|e,-⟩⟩
  ·exact .inr (.inl e)
  ·exact .inl e
  ·exact .inr (.inl e)
 ·intro g p j hb;rw[b,hx.mn];exact zT hS E hb
 ·intro i hi;rw[hx.mn] at hi;exact ON hS E i hi
 ·intro g p j hb h9 i h1 h2;have ha:=zT hS E hb;have hi:i<I.np:=by omega
  rw[G i]
  cases e:gZ I i with
  | some c=>rfl
  | none=>
   show t.m.pg i=aT _ _
   rw[hx.pg i hi];exact OM E hb i h1 h2 (zlE e hi)
 ·intro j d;rw[hx.wd j d,hx.mn];exact hS.pl j (by rw[<-b];exact d)
 ·intro j d i hi;rw[hx.mn] at hi;rw[b] at d;rw[hx.wd j (by rw[b];exact d),(wE (Y j d)).1 i hi];unfold W.onF;have U:=W.half_lt hi;have hp:=ax j;rw[mE hc hl (by omega) (by omega),mE hc hl U (by omega)];rw[show i*2 ^ (j+1)=2*i*2 ^ j by rw[co,aq 2 i,cy,aq 2],show(2*i+1)*2 ^ j=2*i*2 ^ j+2 ^ j by rw[av,aL]]
 ·rintro j d i ⟨X,m2⟩;rw[b] at d;have b1:=(zC hc hl).2 ⟨Nat.le_of_lt d,X⟩;have b2:=(zC hc hl).2 ⟨Nat.le_of_lt d,m2⟩;have h6:=W.fst1_none ((yR I).symm.trans (W.chk_zero hc 5 (by decide))) (2*i*2 ^ j) b1.1;have d1:W.isF (I.pg (2*i*2 ^ j)) (j:Int)=true:=by rw[mE hc hl b1.1 (by omega)];exact af X
  have d2:W.isF (I.pg (2*i*2 ^ j+2 ^ j)) (j:Int)=true:=by rw[mE hc hl (by have:=b2.1;rw[av,aL] at this;exact this) (by omega),show 2*i*2 ^ j+2 ^ j=(2*i+1)*2 ^ j by rw[av,aL]];exact af m2
  rw[W.ok6_bad d (by rw[Nat.mul_right_comm];exact Nat.mul_mod_right _ _) d1 d2] at h6
  cases h6
 ·intro p q h;rw[G p] at h
  cases e:gZ I p with
  | none=>rw[e] at h;cases h
  | some c=>
   rw[e] at h;injection h with h
   obtain⟨hp,h4,-⟩:=qK e;exact⟨⟨hp,.inl ⟨rfl,rfl,h4⟩⟩,by rw[<-h,hx.pg p hp];exact h4⟩
 ·rintro p j ⟨-,⟨e,-⟩|⟨e|e,-⟩⟩ <;> omega
 ·intro p c h;rw[hl.c p] at h;obtain⟨hp,h4,-⟩:=qK h;obtain⟨y,L,C,Q,F,B,K,N⟩:=pD hc f hl h;refine⟨y,?_⟩;rw[hx.pg p hp];have D:(I.pg p).nx=bE (S.pl c) p/\(I.pg p).pv=bH (S.pl c) p:=by
   by_cases J:p∈S.pl c;·obtain⟨j,d,e⟩:=List.mem_iff_getElem.1 J;have e:(S.pl c).getD j 0=p:=(by rw[ai,bo d];exact e);obtain⟨k1,k2⟩:=V c y j d;have n1:=vJ _ (A c y) j d;have Z:=vI _ (A c y) j d;rw[e] at k1 k2 n1 Z;exact⟨k1.trans n1.symm,k2.trans Z.symm⟩
   ·have hf:S.fl p=[]:=ed.1 fun R=>J ((NI hc f hl y).2 ⟨h,R⟩)
    have v:=W.fst1_none ((OX I).symm.trans (W.chk_zero hc 10 (by decide))) p hp;unfold W.ok11 at v;rw[h4,B,C,hf,aa] at v;have e:((aF c-([] : List Nat).length:Nat):Int)=((W.celN9 c:Nat):Int):=rfl;rw[e] at v;simp only[decide_true,Bool.and_self,Bool.not_true,Bool.false_or,bu,ci] at v;rw[sT J,oR J];exact v
  exact⟨h4,L,C,B,D.1,D.2,(hl.fl p c h).2.1,N⟩
 ·intro p c h;rw[hl.c p] at h;obtain⟨hp,-⟩:=qK h;obtain⟨y,L,C,Q,F,B,K,N⟩:=pD hc f hl h;exact⟨Q,fun i hi=>((F i).1 hi).1,rN hc hx hp y _ (fun i hi=>((F i).1 hi).1) (hl.fl p c h).2.2⟩
 ·intro p c h;rw[hl.c p] at h;obtain⟨y,L,C,Q,F,B,K,N⟩:=pD hc f hl h;omega
 ·intro p c h;rw[hl.c p] at h;obtain⟨y,L,C,Q,F,B,K,N⟩:=pD hc f hl h;exact K
 ·rw[hx.bS,b,show((I.dl.toNat:Nat):Int)=I.dl by omega,show((I.ord.toNat:Nat):Int)=I.ord by omega];exact z
 ·rw[hx.mn,b,<-q1,dh _ (ax _)];omega
 ·intro j d i hi;rw[hx.mn] at hi;rw[hx.wd j d];exact(wE (Y j (by rw[<-b];exact d))).2 i hi
 ·intro i hi;rw[hx.mn] at hi;rw[hx.pg i hi];exact f i hi
 ·intro c u;rw[(jX.at (cod:=fun i=>(i:Int)) (fun p i h=>(W.dec10_i h).2.1) _ _ _ (hl.pl c u).2).1]
  cases S.pl c with
  | nil=>rfl
  | cons a l=>rw[ae (by simp)];rfl
end
end Go.Proofs.YtfmgnljlkdmndaaGreatDoor
