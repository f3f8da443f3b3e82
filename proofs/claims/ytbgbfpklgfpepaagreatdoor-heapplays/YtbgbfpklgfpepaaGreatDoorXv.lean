import Derived.Test.YtbgbfpklgfpepaaGreatDoorXr
set_option maxRecDepth 1000000
set_option maxHeartbeats 80000000
namespace Go.Proofs.YtbgbfpklgfpepaaGreatDoor
open Tryz
open Go.RowKit
open Go.MuLone
set_option linter.unusedVariables false
section
variable {w W W1 W':World} {hb sb lw:Nat} {x:Bx} {t:Bt} {fr:Nat->List Nat} {ls:List (Nat×Nat)} {S:Sb} {s:Int}
theorem Nx.fill{x':Bx}{t':Bt}{fr':Nat->List Nat}{ls':List (Nat×Nat)}{S':Sb}{p r:Nat}{f':Nat->Nat}(nx:Nx w W W1 hb sb lw x t ls S s x' t' fr' ls' S')(hL:∀ a z,aG x ls S a z->aG x' ls' S' a z)(hl:aG x' ls' S' p r)(hN:∀ z,¬aG x ls S p z)(wr:Wr w W1 hb sb lw x' t' fr' ls' S' s f' W')(hf:∀ j,¬(p<=x'.bS+j/\x'.bS+j<p+r)->f' j=t'.f j):Nx w W W' hb sb lw x t ls S s x' { t' with f:=f' } fr' ls' S':=by
 refine⟨wr.1,⟨nx.ch.bS,nx.ch.R,nx.ch.lim,nx.ch.o,fun j h1 h2=>?_⟩,nx.kp.trans wr.2 (fun _ _ e=>e) (fun y hy e=>(nx.ns y e).elim id (fun e2=>absurd hy (Nat.not_lt.2 e2))),nx.ns⟩;refine(hf j (fun e=>?_)).trans (nx.ch.kb j h1 h2);obtain⟨a,z,l1,l2,l3⟩:=h1;obtain⟨h',o'⟩:=nx.H.so;rw[nx.ch.bS] at e;rcases o'.two (hL a z l1) hl with ⟨e1,e2⟩|e1|e1
 ·subst e1;exact hN _ l1
 ·omega
 ·omega
theorem HW.fill(H:HW w W hb sb lw x t fr ls S s){p z v:Nat}(hl:aG x ls S p z)(hv:v<256):
  Calls prog 59 #[.pointer (some ⟨x.s,0,none⟩),.int .u64 p,.int .u64 z,.int .u8 v] W fun e w'=>e=.returned (.int .i64 0)/\Wr w W hb sb lw x t fr ls S s (M.upd t.f (p-x.bS) z fun _=>v) w':=by
 obtain⟨h',o⟩:=H.so;have h0:=(o.span hl).1;have hi:=o.inside hl;have hin:M.In x.bS x.n p z:=by unfold M.In;omega
 obtain⟨g,hg,hs⟩:=H.space (by omega);refine(M.Fill_in x.s g x.bS x.R x.lim x.n t.f p z v hv W hs h0 hin).mono ?_;rintro e w' ⟨rfl,h3,h4⟩;rw[<-hg] at h3 h4;exact⟨rfl,H.wrote hl (fun j hj=>M.upd_out _ _ _ _ _ (fun e=>hj (by omega))) h3 (dR h4)⟩
inductive Cz(w W:World)(hb sb lw:Nat)(x:Bx)(t:Bt)(fr:Nat->List Nat)(ls:List (Nat×Nat))(S:Sb)(s:Int)(m:Nat)(d:Bool)(p:Nat)(er:Int)(w':World):Prop where
 | big (ho:cF x.o m=false) (hp:p=0) (he:er=3) (kp:Kt nO W w')
 | no (ho:cF x.o m=true) (hp:p=0) (he:er=2) (nf:NF x fr S (2 ^ cl m)) (hd:d=true\/x.n=x.lim*x.R) (kp:Kt nO W w')
 | yes (ho:cF x.o m=true) (x':Bx) (t':Bt) (fr':Nat->List Nat) (ls':List (Nat×Nat)) (S':Sb) (b:Bool) (he:er=0) (td:Td x t fr ls S (2 ^ cl m) d p b fr' ls' S') (nx:Nx w W w' hb sb lw x t ls S s x' t' fr' ls' S') (hL:∀ a z,aG x' ls' S' a z↔aG x ls S a z\/(a=p/\z=2 ^ cl m)) (hN:∀ z,¬aG x ls S p z) (hn:x'.n=(if b=true then x.n+x.R else x.n)) (hm:p%2 ^ cl m=0) (hb1:b=true->NF x fr S (2 ^ cl m)/\d=false/\x.n+x.R<=x.lim*x.R) (hb2:b=false->¬NF x fr S (2 ^ cl m)) (hz:∀ j,p<=x.bS+j->x.bS+j<p+2 ^ cl m->t'.f j=0)
theorem Cz.out{m:Nat}{d:Bool}{p:Nat}{er:Int}(H:HW w W hb sb lw x t fr ls S 0)(h:Cz w (cY W hb) hb sb lw x t fr ls S 1 m d p er W'):Cz w W hb sb lw x t fr ls S 0 m d p er (dZ W' hb):=by
 cases h with
 | big ho hp he kp=>exact .big ho hp he (H.kout kp)
 | no ho hp he nf hd kp=>exact .no ho hp he nf hd (H.kout kp)
 | yes ho x' t' fr' ls' S' b he td nx hL hN hn hm hb1 hb2 hz=>exact .yes ho x' t' fr' ls' S' b he td (nx.out H) hL hN hn hm hb1 hb2 hz
theorem zfH(H:HW w W hb sb lw x t fr ls S 0)(n sz:Nat)(hn:n<18446744073709551616)(hs:sz<18446744073709551616)(d:Bool)(h0:n≠0)(hov : 18446744073709551615/n<sz):
  Calls prog 20 #[.pointer (some ⟨hb,0,none⟩),.int .u64 n,.int .u64 sz,.bool d] W fun e w'=>e=.returned (.tuple #[.int .u64 0,.int .i64 3])/\Kt nO W w':=by
 have LK:=aA H.lock;have UL:=aA (H.in.unlock .returning);have D:=aA (H.kout (Kt.refl nO _));obtain⟨q,hq⟩:=xe (18446744073709551615/n);have hqi:(18446744073709551615:Int)/(n:Int)=q:=by rw[hq];rfl
 have n0:((n:Int) != 0)=true:=by rw[bne_iff_ne];omega
 have n1:((n:Int) == 0)=false:=by rw[beq_eq_false_iff_ne];omega
 have n2:¬(n:Int)=0:=by omega
 have hlt:(q:Int)<sz:=by omega
 have hqb:q<18446744073709551616:=by omega
 clear H hq hov h0;go_enter_defers func20,ntmps20;go_wp2_with fail;refine LK.out.mono ?_;rintro e w1 ⟨rfl,rfl⟩;go_wp2_with fail;refine leaves_cons (f:=36) (args:=#[.pointer (some ⟨hb,0,none⟩)]) (by simp) (by simp[go_sem]) ?_;refine UL.out.mono ?_;rintro e u' w3 ⟨rfl,rfl,rfl⟩;exact⟨_,results_tmp2 rfl _ _ _,rfl,D.out⟩
theorem YV(H:HW w W hb sb lw x t fr ls S s)(d:Bool)(m:Nat)(hm : 16<=m)(ho:cF x.o m=true):
  Calls prog 58 #[.pointer (some ⟨hb,0,none⟩),.int .u64 ((2 ^ cl m:Nat):Int),.bool d] W fun e w1=>∃ p er,e=.returned (.tuple #[.int .u64 ((p:Nat):Int),.int .i64 er])/\((er=2/\p=0/\Cz w W hb sb lw x t fr ls S s m d 0 2 w1/\Kt nO W w1)\/(er=0/\∃ x' t' fr' ls' S',HW w w1 hb sb lw x' t' fr' ls' S' s/\aG x' ls' S' p (2 ^ cl m)/\∀ w',Wr w w1 hb sb lw x' t' fr' ls' S' s (M.upd t'.f (p-x'.bS) (2 ^ cl m) fun _=>0) w'->Cz w W hb sb lw x t fr ls S s m d p 0 w')):=by
 refine(vR H (2 ^ cl m) (wR hm ho) d).mono ?_;rintro e w1 ⟨p,er,rfl,hT⟩;refine⟨p,er,rfl,?_⟩
 cases hT with
 | no hp he nf hd kp=>exact .inl ⟨he,hp,.no ho rfl rfl nf hd kp,kp⟩
 | yes x' t' fr' ls' S' b he td nx hL hN hn hmm hb1 hb2=>
  have hl:aG x' ls' S' p (2 ^ cl m):=(hL _ _).2 (.inr ⟨rfl,rfl⟩);refine .inr ⟨he,x',t',fr',ls',S',nx.H,hl,fun w' wr=>?_⟩;have hi:x'.bS<=p:=by
   obtain⟨h',o'⟩:=nx.H.so;exact(o'.inside hl).1
  refine .yes ho x' { t' with f:=M.upd t'.f (p-x'.bS) (2 ^ cl m) fun _=>0 } fr' ls' S' b rfl td (nx.fill (fun a z h=>(hL a z).2 (.inl h)) hl hN wr (fun j hj=>M.upd_out _ _ _ _ _ (fun e=>hj (by omega)))) hL hN hn hmm hb1 hb2 (fun j h1 h2=>?_);have hbb:=nx.ch.bS;show M.upd t'.f (p-x'.bS) (2 ^ cl m) (fun _=>0) j=0
  unfold M.upd;rw[if_pos (by omega)]
theorem YU(H:HW w W hb sb lw x t fr ls S 0)(n sz:Nat)(hn:n<18446744073709551616)(hs:sz<18446744073709551616)(d:Bool)(hpr:n*sz<18446744073709551616)(m:Nat)(hm:m=max (n*sz) 16):
  Calls prog 20 #[.pointer (some ⟨hb,0,none⟩),.int .u64 n,.int .u64 sz,.bool d] W fun e w'=>∃ p er,e=.returned (.tuple #[.int .u64 ((p:Nat):Int),.int .i64 er])/\Cz w W hb sb lw x t fr ls S 0 m d p er w':=by
 have LK:=aA H.lock;have HH:=aA H;have SF:=aA (xY H.in (n*sz) 1 hpr (by decide) m (by omega));obtain⟨pr,hpr2⟩:=xe (n*sz);rw[<-hpr2] at SF hm hpr;have hpi:(n:Int)*(sz:Int)=pr:=by rw[hpr2];simp
 have hm16 : 16<=m:=by omega
 have key:∀ (A:Prop),(((n:Int) != 0)=true->((n:Int) == 0)=false->¬(n:Int)=0->∀ q:Nat,(18446744073709551615:Int)/(n:Int)=q->¬(q:Int)<sz->q<18446744073709551616->A)->((n:Int)=0->A)->A:=by
  intro A h1 h2;by_cases h0:n=0
  ·exact h2 (by omega)
  ·refine h1 (by rw[bne_iff_ne];omega) (by rw[beq_eq_false_iff_ne];omega) (by omega) (18446744073709551615/n) rfl ?_ ?_
   ·have:sz<=18446744073709551615/n:=by
     rw[Nat.le_div_iff_mul_le (by omega),Nat.mul_comm];omega
    omega
   ·exact Nat.lt_of_le_of_lt (Nat.div_le_self _ _) (by decide)
 cases ho:cF x.o m with
 | false=>
  rw[ho] at SF;rw[if_neg (by decide),if_neg (by decide)] at SF;have UL:=aA (H.in.unlock .returning);have D:=aA (show Cz w W hb sb lw x t fr ls S 0 m d 0 3 (dZ (cY W hb) hb)from .big ho rfl rfl (H.kout (Kt.refl nO _)));clear H ho hm hpr2;refine key _ (fun n0 n1 n2 q hqi hlt hqb=>?_) (fun n0=>?_)
  ·clear key;go_enter_defers func20,ntmps20;go_wp2_with fail;refine LK.out.mono ?_;rintro e w1 ⟨rfl,rfl⟩;go_wp2_with fail;refine SF.out.mono ?_;rintro e w1 ⟨rfl,h1⟩;replace h1:=h1.symm;subst h1;go_wp2_with fail;refine leaves_cons (f:=36) (args:=#[.pointer (some ⟨hb,0,none⟩)]) (by simp) (by simp[go_sem]) ?_;refine UL.out.mono ?_;rintro e u' w3 ⟨rfl,rfl,rfl⟩;exact⟨_,results_tmp2 rfl _ _ _,0,3,rfl,D.out⟩
  ·clear key;obtain rfl:n=0:=(by omega);obtain rfl:pr=0:=(by omega);go_enter_defers func20,ntmps20;go_wp2_with fail;refine LK.out.mono ?_;rintro e w1 ⟨rfl,rfl⟩;go_wp2_with fail;refine SF.out.mono ?_;rintro e w1 ⟨rfl,h1⟩;replace h1:=h1.symm;subst h1;go_wp2_with fail;refine leaves_cons (f:=36) (args:=#[.pointer (some ⟨hb,0,none⟩)]) (by simp) (by simp[go_sem]) ?_;refine UL.out.mono ?_;rintro e u' w3 ⟨rfl,rfl,rfl⟩;exact⟨_,results_tmp2 rfl _ _ _,0,3,rfl,D.out⟩
 | true=>
  rw[ho] at SF;rw[if_pos rfl,if_pos rfl] at SF;have TK:=aA (YV H.in d m hm16 ho);have CO:=aA (fun (p:Nat) (er:Int) (w':World) (h:Cz w (cY W hb) hb sb lw x t fr ls S 1 m d p er w')=>h.out H);clear H ho hm hpr2 hm16;obtain⟨r,hr⟩:=xe (2 ^ cl m);rw[<-hr] at SF TK;clear hr;refine key _ (fun n0 n1 n2 q hqi hlt hqb=>?_) (fun n0=>?_)
  ·clear key;go_enter_defers func20,ntmps20;go_wp2_with fail;refine LK.out.mono ?_;rintro e w1 ⟨rfl,rfl⟩;go_wp2_with fail;refine SF.out.mono ?_;rintro e w1 ⟨rfl,h1⟩;replace h1:=h1.symm;subst h1;go_wp2_with fail;refine TK.out.mono ?_;rintro e w2 ⟨p,er,rfl,hT⟩;rcases hT with ⟨rfl,rfl,hC,hk⟩|⟨rfl,x',t',fr',ls',S',H2,hl,hC⟩
   ·have UL:=aA ((HH.out.in.keep hk).unlock .returning);have D:=aA (CO.out _ _ _ hC);clear hC hk;go_wp2_with fail;refine leaves_cons (f:=36) (args:=#[.pointer (some ⟨hb,0,none⟩)]) (by simp) (by simp[go_sem]) ?_;refine UL.out.mono ?_;rintro e u' w3 ⟨rfl,rfl,rfl⟩;exact⟨_,results_tmp2 rfl _ _ _,0,2,rfl,D.out⟩
   ·have SP:=aA (gX H2.po.pl);have FL:=aA (H2.fill (v:=0) hl (by decide));obtain⟨c0,c2,c3,c4,c5,c6⟩:=H2.c;obtain⟨l0,l1,l2⟩:=H2.po.pl.c;have HC:=aA hC;clear hC hl;go_wp2_with fail;refine SP.out.mono ?_;rintro e w3 ⟨rfl,h3⟩;replace h3:=h3.symm;subst h3;go_wp2_with fail;refine FL.out.mono ?_;rintro e w4 ⟨rfl,hw⟩;have UL:=aA (hw.1.unlock .returning);have D:=aA (CO.out _ _ _ (HC.out _ hw));clear hw;go_wp2_with fail;refine leaves_cons (f:=36) (args:=#[.pointer (some ⟨hb,0,none⟩)]) (by simp) (by simp[go_sem]) ?_;refine UL.out.mono ?_;rintro e u' w3 ⟨rfl,rfl,rfl⟩;exact⟨_,results_tmp2 rfl _ _ _,p,0,rfl,D.out⟩
  ·clear key;obtain rfl:n=0:=(by omega);obtain rfl:pr=0:=(by omega);go_enter_defers func20,ntmps20;go_wp2_with fail;refine LK.out.mono ?_;rintro e w1 ⟨rfl,rfl⟩;go_wp2_with fail;refine SF.out.mono ?_;rintro e w1 ⟨rfl,h1⟩;replace h1:=h1.symm;subst h1;go_wp2_with fail;refine TK.out.mono ?_;rintro e w2 ⟨p,er,rfl,hT⟩;rcases hT with ⟨rfl,rfl,hC,hk⟩|⟨rfl,x',t',fr',ls',S',H2,hl,hC⟩
   ·have UL:=aA ((HH.out.in.keep hk).unlock .returning);have D:=aA (CO.out _ _ _ hC);clear hC hk;go_wp2_with fail;refine leaves_cons (f:=36) (args:=#[.pointer (some ⟨hb,0,none⟩)]) (by simp) (by simp[go_sem]) ?_;refine UL.out.mono ?_;rintro e u' w3 ⟨rfl,rfl,rfl⟩;exact⟨_,results_tmp2 rfl _ _ _,0,2,rfl,D.out⟩
   ·have SP:=aA (gX H2.po.pl);have FL:=aA (H2.fill (v:=0) hl (by decide));obtain⟨c0,c2,c3,c4,c5,c6⟩:=H2.c;obtain⟨l0,l1,l2⟩:=H2.po.pl.c;have HC:=aA hC;clear hC hl;go_wp2_with fail;refine SP.out.mono ?_;rintro e w3 ⟨rfl,h3⟩;replace h3:=h3.symm;subst h3;go_wp2_with fail;refine FL.out.mono ?_;rintro e w4 ⟨rfl,hw⟩;have UL:=aA (hw.1.unlock .returning);have D:=aA (CO.out _ _ _ (HC.out _ hw));clear hw;go_wp2_with fail;refine leaves_cons (f:=36) (args:=#[.pointer (some ⟨hb,0,none⟩)]) (by simp) (by simp[go_sem]) ?_;refine UL.out.mono ?_;rintro e u' w3 ⟨rfl,rfl,rfl⟩;exact⟨_,results_tmp2 rfl _ _ _,p,0,rfl,D.out⟩
end
abbrev nW(u0 u1 u2 u3 u4 u5 u6 u7 u8:Value):Value:=.agg #[u0,u1,u2,u3,u4,u5,u6,u7,u8]
abbrev KS(u0 u1 u2 u3 u4 u5 u6 u7 u8:Value):Obj:=.cells #[u0,u1,u2,u3,u4,u5,u6,u7,u8] 69
theorem uF{W:World}{y:Nat}(u0 u1 u2 u3 u4 u5 u6 u7 u8:Value)(h:W.heap[y]?=some gK):(((((((((W.setCell ⟨y,0,none⟩ u0).setCell ⟨y,1,none⟩ u1).setCell ⟨y,2,none⟩ u2).setCell ⟨y,3,none⟩ u3).setCell ⟨y,4,none⟩ u4).setCell ⟨y,5,none⟩ u5).setCell ⟨y,6,none⟩ u6).setCell ⟨y,7,none⟩ u7).setCell ⟨y,8,none⟩ u8).heap[y]?=some (KS u0 u1 u2 u3 u4 u5 u6 u7 u8):=by
 have:=bB (bB (bB (bB (bB (bB (bB (bB (bB h 0 u0) 1 u1) 2 u2) 3 u3) 4 u4) 5 u5) 6 u6) 7 u7) 8 u8;simpa using this
abbrev mV(H L B F:Nat):Obj:=.cells #[.int .u64 H,.int .u64 L,.int .i64 B,.int .i64 F] 35
theorem yQ{W:World}{y H L B F:Nat}(h:W.heap[y]?=some (mV H L B F)):W.cell? ⟨y,0,none⟩=some (.int .u64 H)/\W.cell? ⟨y,1,none⟩=some (.int .u64 L)/\W.cell? ⟨y,2,none⟩=some (.int .i64 B)/\W.cell? ⟨y,3,none⟩=some (.int .i64 F):=by
 refine⟨?_,?_,?_,?_⟩ <;> simp[World.cell?,h]
theorem zX(a:Nat)(ha:a<18446744073709551616):bits BinOp.and IntKind.u64 (a:Int) 255%256=((a%256:Nat):Int):=by
 rw[show(255:Int)=((255:Nat):Int)from rfl,u64_and_nat a 255 ha (by decide),show(255:Nat)=2 ^ 8-1 from rfl,Nat.and_two_pow_sub_one_eq_mod];omega
theorem mW{W:World}{y:Nat}{u0 u1 u2 u3 u4 u5 u6 u7 u8:Value}(h:W.heap[y]?=some (KS u0 u1 u2 u3 u4 u5 u6 u7 u8)):W.cell? ⟨y,0,none⟩=some u0/\W.cell? ⟨y,1,none⟩=some u1/\W.cell? ⟨y,2,none⟩=some u2/\W.cell? ⟨y,3,none⟩=some u3/\W.cell? ⟨y,4,none⟩=some u4/\W.cell? ⟨y,5,none⟩=some u5/\W.cell? ⟨y,6,none⟩=some u6/\W.cell? ⟨y,7,none⟩=some u7/\W.cell? ⟨y,8,none⟩=some u8/\∀ j,W.frozen? ⟨y,j,none⟩=false:=by
 refine⟨?_,?_,?_,?_,?_,?_,?_,?_,?_,fun j=>?_⟩ <;> simp[World.cell?,World.frozen?,h]
theorem QJ{W:World}{hb:Nat}{c:Cl8}(hc:c.op=11){R:Option Addr->Nat->Nat->Int->World->Prop}
  (h:Calls prog 60 #[.pointer (some ⟨hb,0,none⟩),.int .u64 c.p,.int .u64 c.a] (gE W c) fun e w'=>∃ (va:Option Addr) (vn vc:Nat) (er:Int),e=.returned (.tuple #[.slice va vn vc,.int .i64 er])/\w'.heap[W.heap.size+1]?=some gK/\R va vn vc er w'):
  Calls prog 30 #[.pointer (some ⟨hb,0,none⟩),bJ c] W fun e w'=>∃ (va:Option Addr) (vn vc:Nat) (er:Int) (w1:World),e=.returned (nW (.int .i64 er) (.int .u64 0) (.slice va vn vc) (.int .u64 0) (.int .u64 0) (.int .i64 0) (.int .i64 0) (.int .u64 0) (.slice none 0 0))/\R va vn vc er w1/\Kt (fun y=>y=W.heap.size+1) w1 w':=by
 have X0:=aA (nH W (bP c));obtain⟨c0,c1,c2,c3,c4,c5⟩:=bO ((((Kt.refl nO (W.alloc (bP c))).alloc gK).block _ (lH X0.out) id).trans X0.out);rw[hc] at c0;have HM:=aA h;clear h hc X0;go_enter func30,ntmps30;go_wp2_with fail;refine HM.out.mono ?_;rintro e w2 ⟨va,vn,vc,er,rfl,hx,hR⟩;have X2:=aA hx;have HR:=aA hR;clear hx hR c0 c1 c2 c3 c4 c5 HM;obtain⟨z0,z1,z2,z3,z4,z5,z6,z7,z8,zf⟩:=mG (e:=0) (v:=0) X2.out;obtain⟨s0,s1,s2,s3,s4,s5,s6,s7,s8,sf⟩:=mW (uF (.int .i64 er) (.int .u64 0) (.slice va vn vc) (.int .u64 0) (.int .u64 0) (.int .i64 0) (.int .i64 0) (.int .u64 0) (.slice none 0 0) X2.out);have D:=aA (show Kt (fun y=>y=W.heap.size+1) w2 _ from(oM (W:=w2) (y:=W.heap.size+1) (.int .i64 er) (.int .u64 0) (.slice va vn vc) (.int .u64 0) (.int .u64 0) (.int .i64 0) (.int .i64 0) (.int .u64 0) (.slice none 0 0)));go_wp2_with fail;exact⟨rfl,nW (.int .i64 er) (.int .u64 0) (.slice va vn vc) (.int .u64 0) (.int .u64 0) (.int .i64 0) (.int .i64 0) (.int .u64 0) (.slice none 0 0),by simp[results,results30,go_sem,s0,s1,s2,s3,s4,s5,s6,s7,s8],va,vn,vc,er,w2,rfl,HR.out,D.out⟩
theorem QI{W:World}{hb:Nat}{c:Cl8}(hc:c.op=13){R:Nat->World->Prop}
  (h:Calls prog 19 #[.pointer (some ⟨hb,0,none⟩)] (gE W c) fun e w'=>∃ (n:Nat),e=.returned (.int .i64 ((n:Nat):Int))/\n<=64/\w'.heap[W.heap.size+1]?=some gK/\R n w'):
  Calls prog 30 #[.pointer (some ⟨hb,0,none⟩),bJ c] W fun e w'=>∃ (n:Nat) (w1:World),e=.returned (nW (.int .i64 0) (.int .u64 n) (.slice none 0 0) (.int .u64 0) (.int .u64 0) (.int .i64 0) (.int .i64 0) (.int .u64 0) (.slice none 0 0))/\R n w1/\Kt (fun y=>y=W.heap.size+1) w1 w':=by
 have X0:=aA (nH W (bP c));obtain⟨c0,c1,c2,c3,c4,c5⟩:=bO ((((Kt.refl nO (W.alloc (bP c))).alloc gK).block _ (lH X0.out) id).trans X0.out);rw[hc] at c0;have HM:=aA h;clear h hc X0;go_enter func30,ntmps30;go_wp2_with fail;refine HM.out.mono ?_;rintro e w2 ⟨n,rfl,hn64,hx,hR⟩;have X2:=aA hx;have HR:=aA hR;clear hx hR c0 c1 c2 c3 c4 c5 HM;obtain⟨z0,z1,z2,z3,z4,z5,z6,z7,z8,zf⟩:=mG (e:=0) (v:=0) X2.out;obtain⟨s0,s1,s2,s3,s4,s5,s6,s7,s8,sf⟩:=mW (uF (.int .i64 0) (.int .u64 n) (.slice none 0 0) (.int .u64 0) (.int .u64 0) (.int .i64 0) (.int .i64 0) (.int .u64 0) (.slice none 0 0) X2.out);have D:=aA (show Kt (fun y=>y=W.heap.size+1) w2 _ from(oM (W:=w2) (y:=W.heap.size+1) (.int .i64 0) (.int .u64 n) (.slice none 0 0) (.int .u64 0) (.int .u64 0) (.int .i64 0) (.int .i64 0) (.int .u64 0) (.slice none 0 0)));go_wp2_with fail;exact⟨rfl,nW (.int .i64 0) (.int .u64 n) (.slice none 0 0) (.int .u64 0) (.int .u64 0) (.int .i64 0) (.int .i64 0) (.int .u64 0) (.slice none 0 0),by simp[results,results30,go_sem,s0,s1,s2,s3,s4,s5,s6,s7,s8],n,w2,rfl,HR.out,D.out⟩
theorem QH{W:World}{hb:Nat}{c:Cl8}(hc:c.op=14){R:Nat->Nat->Nat->Nat->World->Prop}
  (h:Calls prog 13 #[.pointer (some ⟨hb,0,none⟩)] (gE W c) fun e w'=>∃ (H L B F:Nat),e=.returned (.agg #[.int .u64 ((H:Nat):Int),.int .u64 ((L:Nat):Int),.int .i64 ((B:Nat):Int),.int .i64 ((F:Nat):Int)])/\w'.heap[W.heap.size+1]?=some gK/\R H L B F w'):
  Calls prog 30 #[.pointer (some ⟨hb,0,none⟩),bJ c] W fun e w'=>∃ (H L B F:Nat) (w1:World),e=.returned (nW (.int .i64 0) (.int .u64 0) (.slice none 0 0) (.int .u64 H) (.int .u64 L) (.int .i64 B) (.int .i64 F) (.int .u64 0) (.slice none 0 0))/\R H L B F w1/\Kt (fun y=>y=W.heap.size+1) w1 w':=by
 have X0:=aA (nH W (bP c));obtain⟨c0,c1,c2,c3,c4,c5⟩:=bO ((((Kt.refl nO (W.alloc (bP c))).alloc gK).block _ (lH X0.out) id).trans X0.out);rw[hc] at c0;have HM:=aA h;clear h hc X0;go_enter func30,ntmps30;go_wp2_with fail;refine HM.out.mono ?_;rintro e w2 ⟨H,L,B,F,rfl,hx,hR⟩;have KA:=(Kt.refl nO w2).alloc (mV H L B F);have X2:=aA ((KA.block _ (lH hx) id).trans hx);obtain⟨t0,t1,t2,t3⟩:=yQ (nH w2 (mV H L B F));have KB:=aA (KA.mono (T:=fun y=>y=W.heap.size+1) (fun _ _ e=>e.elim));clear KA;have HR:=aA hR;clear hx hR c0 c1 c2 c3 c4 c5 HM;obtain⟨z0,z1,z2,z3,z4,z5,z6,z7,z8,zf⟩:=mG (e:=0) (v:=0) X2.out;obtain⟨s0,s1,s2,s3,s4,s5,s6,s7,s8,sf⟩:=mW (uF (.int .i64 0) (.int .u64 0) (.slice none 0 0) (.int .u64 H) (.int .u64 L) (.int .i64 B) (.int .i64 F) (.int .u64 0) (.slice none 0 0) X2.out);have D:=aA (show Kt (fun y=>y=W.heap.size+1) w2 _ from(KB.out.trans (oM (W:=w2.alloc (mV H L B F)) (y:=W.heap.size+1) (.int .i64 0) (.int .u64 0) (.slice none 0 0) (.int .u64 H) (.int .u64 L) (.int .i64 B) (.int .i64 F) (.int .u64 0) (.slice none 0 0)) (fun _ _ e=>e) (fun _ _ e=>e)));go_wp2_with fail;exact⟨rfl,nW (.int .i64 0) (.int .u64 0) (.slice none 0 0) (.int .u64 H) (.int .u64 L) (.int .i64 B) (.int .i64 F) (.int .u64 0) (.slice none 0 0),by simp[results,results30,go_sem,s0,s1,s2,s3,s4,s5,s6,s7,s8],H,L,B,F,w2,rfl,HR.out,D.out⟩
theorem LT{W:World}{hb:Nat}{c:Cl8}(hc:c.op=8)(ha8:c.a<18446744073709551616){R:Int->World->Prop}
  (h:Calls prog 66 #[.pointer (some ⟨hb,0,none⟩),.int .u64 c.p,.int .u8 ((c.a%256:Nat):Int)] (gE W c) fun e w'=>∃ (er:Int),e=.returned (.int .i64 er)/\w'.heap[W.heap.size+1]?=some gK/\R er w'):
  Calls prog 30 #[.pointer (some ⟨hb,0,none⟩),bJ c] W fun e w'=>∃ (er:Int) (w1:World),e=.returned (nW (.int .i64 er) (.int .u64 0) (.slice none 0 0) (.int .u64 0) (.int .u64 0) (.int .i64 0) (.int .i64 0) (.int .u64 0) (.slice none 0 0))/\R er w1/\Kt (fun y=>y=W.heap.size+1) w1 w':=by
 have HA8:=aA ha8;clear ha8;have X0:=aA (nH W (bP c));obtain⟨c0,c1,c2,c3,c4,c5⟩:=bO ((((Kt.refl nO (W.alloc (bP c))).alloc gK).block _ (lH X0.out) id).trans X0.out);rw[hc] at c0;have HM:=aA h;clear h hc X0;go_enter func30,ntmps30;go_wp2_with fail;rw[zX c.a HA8.out];refine HM.out.mono ?_;rintro e w2 ⟨er,rfl,hx,hR⟩;have X2:=aA hx;have HR:=aA hR;clear hx hR c0 c1 c2 c3 c4 c5 HM;obtain⟨z0,z1,z2,z3,z4,z5,z6,z7,z8,zf⟩:=mG (e:=0) (v:=0) X2.out;obtain⟨s0,s1,s2,s3,s4,s5,s6,s7,s8,sf⟩:=mW (uF (.int .i64 er) (.int .u64 0) (.slice none 0 0) (.int .u64 0) (.int .u64 0) (.int .i64 0) (.int .i64 0) (.int .u64 0) (.slice none 0 0) X2.out);have D:=aA (show Kt (fun y=>y=W.heap.size+1) w2 _ from(oM (W:=w2) (y:=W.heap.size+1) (.int .i64 er) (.int .u64 0) (.slice none 0 0) (.int .u64 0) (.int .u64 0) (.int .i64 0) (.int .i64 0) (.int .u64 0) (.slice none 0 0)));go_wp2_with fail;exact⟨rfl,nW (.int .i64 er) (.int .u64 0) (.slice none 0 0) (.int .u64 0) (.int .u64 0) (.int .i64 0) (.int .i64 0) (.int .u64 0) (.slice none 0 0),by simp[results,results30,go_sem,s0,s1,s2,s3,s4,s5,s6,s7,s8],er,w2,rfl,HR.out,D.out⟩
theorem LR{W:World}{hb:Nat}{c:Cl8}(hc:c.op=7){R:Nat->Int->World->Prop}
  (h:Calls prog 17 #[.pointer (some ⟨hb,0,none⟩),.int .u64 c.p] (gE W c) fun e w'=>∃ p er,e=.returned (.tuple #[.int .u8 ((p:Nat):Int),.int .i64 er])/\p<256/\w'.heap[W.heap.size+1]?=some gK/\R p er w'):
  Calls prog 30 #[.pointer (some ⟨hb,0,none⟩),bJ c] W fun e w'=>∃ p er w1,e=.returned (mX er p)/\R p er w1/\Kt (fun y=>y=W.heap.size+1) w1 w':=by
 have X0:=aA (nH W (bP c));obtain⟨c0,c1,c2,c3,c4,c5⟩:=bO ((((Kt.refl nO (W.alloc (bP c))).alloc gK).block _ (lH X0.out) id).trans X0.out);rw[hc] at c0;have HM:=aA h;clear h hc X0;go_enter func30,ntmps30;go_wp2_with fail;refine HM.out.mono ?_;rintro e w2 ⟨p,er,rfl,hp,hx,hR⟩;have X2:=aA hx;have HR:=aA hR;have NU:=aA (EB p (by omega) er w2);clear hx hR c0 c1 c2 c3 c4 c5 HM;go_wp2_with fail;refine NU.out.mono ?_;rintro e w3 ⟨rfl,hk3⟩;have X3:=aA ((hk3.block _ (lH X2.out) id).trans X2.out);have K3:=aA hk3;clear hk3;obtain⟨z0,z1,z2,z3,z4,z5,z6,z7,z8,zf⟩:=mG (e:=0) (v:=0) X3.out;obtain⟨s0,s1,s2,s3,s4,s5,s6,s7,s8,sf⟩:=mG (vZ er (p:Int) X3.out);have D:=aA (show Kt (fun y=>y=W.heap.size+1) w2 _ from(K3.out.mono (fun _ _ e=>e.elim)).trans (oM (W:=w3) (y:=W.heap.size+1) (.int .i64 er) (.int .u64 p) (.slice none 0 0) (.int .u64 0) (.int .u64 0) (.int .i64 0) (.int .i64 0) (.int .u64 0) (.slice none 0 0)) (fun _ _ e=>e) (fun _ _ e=>e));go_wp2_with fail;exact⟨rfl,mX er p,by simp[results,results30,go_sem,s0,s1,s2,s3,s4,s5,s6,s7,s8],p,er,w2,rfl,HR.out,D.out⟩
end Go.Proofs.YtbgbfpklgfpepaaGreatDoor
