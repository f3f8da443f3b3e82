import Derived.Test.YtkfmheelhinjdaaGreatDoorXn
set_option maxRecDepth 1000000
set_option maxHeartbeats 80000000
namespace Go.Proofs.YtkfmheelhinjdaaGreatDoor
open _root_.Go.Proofs.Tryz
open Go.RowKit
set_option linter.unusedVariables false
theorem CS{W:World}{y:Nat}{p n:Int}{q:Pg}(h:W.heap[y]?=some (dZ p n q))(k:Nat)(hk:k<4):W.cell? ⟨y,9+k,none⟩=some (.int .u64 ((wP q k:Nat):Int)):=by
 obtain⟨_,_,_,_,_,_,_,_,_,x9,x10,x11,x12⟩:=dJ h;rcases k with _|_|_|_|k
 ·exact x9
 ·exact x10
 ·exact x11
 ·exact x12
 ·omega
theorem CR{q:Pg}(ok:PgOk q)(k:Nat)(hk:k<4):wP q k<18446744073709551616:=by
 rcases k with _|_|_|_|k
 ·exact ok.b0
 ·exact ok.b1
 ·exact ok.b2
 ·exact ok.b3
 ·omega
theorem yB{w W sb lw x t h}(s:SW w W sb lw x t h)(p:Nat)(hp:p<18446744073709551616)(hB:iT x t p=true):
  Calls prog 151 #[.pointer (some ⟨sb,0,none⟩),.int .u64 p] W fun e w'=>e=.returned (.tuple #[nY ((bF x p/4096:Nat):Int) ((fQ x t p:Nat):Int) (dA x t p),.bool (aH (dA x t p) (fQ x t p))])/\Kt nO W w':=by
 have K0:=aA ((Kt.refl nO W).alloc gJ);have S0:=aA (s.keep K0.out);have X0:=aA (show(W.alloc gJ).heap[W.heap.size]?=some (dZ 0 0 aR)from nH W gJ);have AT:=aA (wS S0.out p hp hB);have ok:PgOk (dA x t p):=qN s.pl.bd.mp _;have hn256:fQ x t p<256:=by
  unfold fQ;have hc8:(dA x t p).cl.toNat<8:=by have:=ok.c7;have:=ok.c0;omega
  have hz:=dU hc8;exact Nat.div_lt_of_lt_mul (Nat.lt_of_lt_of_le (Nat.mod_lt _ (by decide)) (show 4096<=aE (dA x t p).cl.toNat*256 by omega))
 obtain⟨g,hg⟩:=xe (bF x p/4096);obtain⟨n,hn⟩:=xe (fQ x t p);obtain⟨q,hq⟩:=xe (dA x t p);rw[<-hg,<-hn,<-hq] at AT ⊢;rw[<-hn] at hn256;rw[<-hq] at ok;clear hg hn hq s hB;obtain⟨k,hk⟩:=xe (n/64);obtain⟨r,hr⟩:=xe (n%64);have hk4:k<4:=by omega
 have hki:(n:Int)/64=(k:Int):=by omega
 have hri:(n:Int).tmod 64=(r:Int):=by rw[Int.tmod_eq_emod_of_nonneg (by omega)];omega
 have hr64:r<64:=by omega
 obtain⟨v,hv⟩:=xe (wP q k);have hvb:v<18446744073709551616:=by rw[hv];exact CR ok k hk4
 have E:=oL v r hvb;have hl:aH q n=(v/2 ^ r%2 == 1):=by unfold aH;rw[<-hk,<-hr,<-hv]
 have HL:=aA hl;have HV:=aA hv;obtain⟨lit,hlit⟩:=xe (aH q n);rw[<-hlit];have HLIT:=aA hlit;clear hl hv hlit hk hr ok;go_enter func151,ntmps151;go_upto_region 1 with fail;obtain⟨y,hy⟩:=xe (W.heap.size);have HY:=aA (show W.heap.size<=y from Nat.le_of_eq hy.symm);rw[<-hy] at X0;rw[<-hy];clear hy;generalize W.alloc gJ=W0 at *;go_wp2_with fail;refine AT.out.mono ?_;rintro e w1 ⟨rfl,hk1⟩;have K1:=aA (hk1.alloc (dZ (g:Int) (n:Int) q));have X1:=aA (nH w1 (dZ (g:Int) (n:Int) q));have Y1:=aA ((K1.out.block _ (lH X0.out) id).trans X0.out);have KW:=aA (nT K0.out K1.out);have HYU:=aA (show y<w1.heap.size from Nat.lt_of_lt_of_le (lH X0.out) hk1.size);clear hk1 AT;go_upto_region 2 with fail;generalize w1.heap.size=u at *;generalize w1.alloc (dZ (g:Int) (n:Int) q)=W1 at *;obtain⟨a0,a1,a2,a3,a4,a5,a6,a7,a8,a9,a10,a11,a12⟩:=dJ X1.out;have ab:=CS X1.out k hk4;rw[<-HV.out] at ab;obtain⟨x0,x1,x2,x3,x4,x5,x6,x7,x8,x9,x10,x11,x12⟩:=dJ Y1.out;have xf:=jS Y1.out;have hyu:¬y=u:=by have:=HYU.out;omega
 have huy:¬u=y:=by have:=HYU.out;omega
 go_wp2_with fail;go_region
 all_goals
  have HYY:=aA (show y<W.heap.size->nO y from fun e=>absurd e (Nat.not_lt.2 HY.out));have X8:=aA (uN (W:=W1) (y:=y) Y1.out (v0:=.int .i64 g) (v1:=.int .i64 n) (v2:=.int .i64 q.kd) (v3:=.int .i64 q.od) (v4:=.int .i64 q.cl) (v5:=.int .i64 q.lv) (v6:=.int .i64 q.nx) (v7:=.int .i64 q.pv) (v8:=.int .i64 q.fs) (v9:=.int .u64 q.b0) (v10:=.int .u64 q.b1) (v11:=.int .u64 q.b2) (v12:=.int .u64 q.b3));have K8:=aA (((((((((((((KW.out.setNew (p:=⟨y,0,none⟩) HYY.out (.int .i64 g)).setNew (p:=⟨y,1,none⟩) HYY.out (.int .i64 n)).setNew (p:=⟨y,2,none⟩) HYY.out (.int .i64 q.kd)).setNew (p:=⟨y,3,none⟩) HYY.out (.int .i64 q.od)).setNew (p:=⟨y,4,none⟩) HYY.out (.int .i64 q.cl)).setNew (p:=⟨y,5,none⟩) HYY.out (.int .i64 q.lv)).setNew (p:=⟨y,6,none⟩) HYY.out (.int .i64 q.nx)).setNew (p:=⟨y,7,none⟩) HYY.out (.int .i64 q.pv)).setNew (p:=⟨y,8,none⟩) HYY.out (.int .i64 q.fs)).setNew (p:=⟨y,9,none⟩) HYY.out (.int .u64 q.b0)).setNew (p:=⟨y,10,none⟩) HYY.out (.int .u64 q.b1)).setNew (p:=⟨y,11,none⟩) HYY.out (.int .u64 q.b2)).setNew (p:=⟨y,12,none⟩) HYY.out (.int .u64 q.b3));generalize (((((((((((((W1.setCell ⟨y,0,none⟩ (.int .i64 g)).setCell ⟨y,1,none⟩ (.int .i64 n)).setCell ⟨y,2,none⟩ (.int .i64 q.kd)).setCell ⟨y,3,none⟩ (.int .i64 q.od)).setCell ⟨y,4,none⟩ (.int .i64 q.cl)).setCell ⟨y,5,none⟩ (.int .i64 q.lv)).setCell ⟨y,6,none⟩ (.int .i64 q.nx)).setCell ⟨y,7,none⟩ (.int .i64 q.pv)).setCell ⟨y,8,none⟩ (.int .i64 q.fs)).setCell ⟨y,9,none⟩ (.int .u64 q.b0)).setCell ⟨y,10,none⟩ (.int .u64 q.b1)).setCell ⟨y,11,none⟩ (.int .u64 q.b2)).setCell ⟨y,12,none⟩ (.int .u64 q.b3))=W8 at *;have K9:=aA (show Kt nO W W8.drew from K8.out.drew);have X9:=aA (show W8.drew.heap[y]?=some (dZ (g:Int) (n:Int) q)from X8.out);generalize W8.drew=W9 at *;clear a0 a1 a2 a3 a4 a5 a6 a7 a8 a9 a10 a11 a12 x0 x1 x2 x3 x4 x5 x6 x7 x8 x9 x10 x11 x12;obtain⟨x0,x1,x2,x3,x4,x5,x6,x7,x8,x9,x10,x11,x12⟩:=dJ X9.out;rw[show(v/2 ^ r%2 == 1)=lit by rw[HLIT.out,HL.out]];go_wp2_with fail;exact⟨rfl,_,by simp[results,results151,go_sem,x0,x1,x2,x3,x4,x5,x6,x7,x8,x9,x10,x11,x12],rfl,K9.out⟩
theorem JG{w W sb lw x t h}(s:SW w W sb lw x t h)(p:Nat)(hp:p<18446744073709551616)(hB:iT x t p=false):
  Calls prog 151 #[.pointer (some ⟨sb,0,none⟩),.int .u64 p] W fun e w'=>e=.returned (.tuple #[nY 0 0 aR,.bool false])/\Kt nO W w':=by
 have K0:=aA ((Kt.refl nO W).alloc gJ);have S0:=aA (s.keep K0.out);have X0:=aA (show(W.alloc gJ).heap[W.heap.size]?=some (dZ 0 0 aR)from nH W gJ);have AT:=aA (ES S0.out p hp hB);clear s hB;go_enter func151,ntmps151;go_upto_region 1 with fail;obtain⟨y,hy⟩:=xe (W.heap.size);have HY:=aA (show W.heap.size<=y from Nat.le_of_eq hy.symm);rw[<-hy] at X0;rw[<-hy];clear hy;generalize W.alloc gJ=W0 at *;go_wp2_with fail;refine AT.out.mono ?_;rintro e w1 ⟨rfl,hk1⟩;have K1:=aA (hk1.alloc (dZ 0 0 aR));have X1:=aA (nH w1 (dZ 0 0 aR));have Y1:=aA ((K1.out.block _ (lH X0.out) id).trans X0.out);have KW:=aA (nT K0.out K1.out);have HYU:=aA (show y<w1.heap.size from Nat.lt_of_lt_of_le (lH X0.out) hk1.size);clear hk1 AT;go_upto_region 2 with fail;generalize w1.heap.size=u at *;generalize w1.alloc (dZ 0 0 aR)=W1 at *;obtain⟨a0,a1,a2,a3,a4,a5,a6,a7,a8,a9,a10,a11,a12⟩:=dJ X1.out;obtain⟨x0,x1,x2,x3,x4,x5,x6,x7,x8,x9,x10,x11,x12⟩:=dJ Y1.out;have xf:=jS Y1.out;have hyu:¬y=u:=by have:=HYU.out;omega
 have huy:¬u=y:=by have:=HYU.out;omega
 go_wp2_with fail;go_region
 all_goals
  have HYY:=aA (show y<W.heap.size->nO y from fun e=>absurd e (Nat.not_lt.2 HY.out));have X8:=aA (uN (W:=W1) (y:=y) Y1.out (v0:=.int .i64 0) (v1:=.int .i64 0) (v2:=.int .i64 aR.kd) (v3:=.int .i64 aR.od) (v4:=.int .i64 aR.cl) (v5:=.int .i64 aR.lv) (v6:=.int .i64 aR.nx) (v7:=.int .i64 aR.pv) (v8:=.int .i64 aR.fs) (v9:=.int .u64 aR.b0) (v10:=.int .u64 aR.b1) (v11:=.int .u64 aR.b2) (v12:=.int .u64 aR.b3));have K8:=aA (((((((((((((KW.out.setNew (p:=⟨y,0,none⟩) HYY.out (.int .i64 0)).setNew (p:=⟨y,1,none⟩) HYY.out (.int .i64 0)).setNew (p:=⟨y,2,none⟩) HYY.out (.int .i64 aR.kd)).setNew (p:=⟨y,3,none⟩) HYY.out (.int .i64 aR.od)).setNew (p:=⟨y,4,none⟩) HYY.out (.int .i64 aR.cl)).setNew (p:=⟨y,5,none⟩) HYY.out (.int .i64 aR.lv)).setNew (p:=⟨y,6,none⟩) HYY.out (.int .i64 aR.nx)).setNew (p:=⟨y,7,none⟩) HYY.out (.int .i64 aR.pv)).setNew (p:=⟨y,8,none⟩) HYY.out (.int .i64 aR.fs)).setNew (p:=⟨y,9,none⟩) HYY.out (.int .u64 aR.b0)).setNew (p:=⟨y,10,none⟩) HYY.out (.int .u64 aR.b1)).setNew (p:=⟨y,11,none⟩) HYY.out (.int .u64 aR.b2)).setNew (p:=⟨y,12,none⟩) HYY.out (.int .u64 aR.b3));generalize (((((((((((((W1.setCell ⟨y,0,none⟩ (.int .i64 0)).setCell ⟨y,1,none⟩ (.int .i64 0)).setCell ⟨y,2,none⟩ (.int .i64 aR.kd)).setCell ⟨y,3,none⟩ (.int .i64 aR.od)).setCell ⟨y,4,none⟩ (.int .i64 aR.cl)).setCell ⟨y,5,none⟩ (.int .i64 aR.lv)).setCell ⟨y,6,none⟩ (.int .i64 aR.nx)).setCell ⟨y,7,none⟩ (.int .i64 aR.pv)).setCell ⟨y,8,none⟩ (.int .i64 aR.fs)).setCell ⟨y,9,none⟩ (.int .u64 aR.b0)).setCell ⟨y,10,none⟩ (.int .u64 aR.b1)).setCell ⟨y,11,none⟩ (.int .u64 aR.b2)).setCell ⟨y,12,none⟩ (.int .u64 aR.b3))=W8 at *;have K9:=aA (show Kt nO W W8.drew from K8.out.drew);have X9:=aA (show W8.drew.heap[y]?=some (dZ 0 0 aR)from X8.out);generalize W8.drew=W9 at *;clear a0 a1 a2 a3 a4 a5 a6 a7 a8 a9 a10 a11 a12 x0 x1 x2 x3 x4 x5 x6 x7 x8 x9 x10 x11 x12;obtain⟨x0,x1,x2,x3,x4,x5,x6,x7,x8,x9,x10,x11,x12⟩:=dJ X9.out;go_wp2_with fail;exact⟨rfl,_,by simp[results,results151,go_sem,x0,x1,x2,x3,x4,x5,x6,x7,x8,x9,x10,x11,x12],rfl,K9.out⟩
theorem uQ{w:World}{s:Nat}{a:Option Nat}{bS R lim n:Nat}{f:Nat->Nat}(h:M.SpA w s a bS R lim n f)(hn : 0<n):∃ g,a=some g:=by
 obtain⟨cap,hb,hr⟩:=h.ex
 cases a with
 | none=>exact absurd hr.1 (by omega)
 | some g=>exact⟨g,rfl⟩
theorem wT{w W sb lw x t h}(s:SW w W sb lw x t h)(p:Nat)(hin:M.In x.bS x.n p 8):
  Calls prog 252 #[.pointer (some ⟨x.s,0,none⟩),.int .u64 p] W fun e w'=>e=.returned (.tuple #[.int .u64 ((M.word t.f (p-x.bS):Nat):Int),.int .i64 0])/\Kt nO W w':=by
 obtain⟨g,hg⟩:=uQ s.pl.bd.sp (by unfold M.In at hin;omega);have hs:=s.pl.bd.sp;rw[hg] at hs;exact(M.Word_in x.s g x.bS x.R x.lim x.n t.f p W hs hin).mono fun e w' h=>⟨h.1,fP h.2⟩
theorem AF{w W sb lw x t h}(s:SW w W sb lw x t h)(p v:Nat)(hv:v<18446744073709551616)(hin:M.In x.bS x.n p 8):
  Calls prog 247 #[.pointer (some ⟨x.s,0,none⟩),.int .u64 p,.int .u64 v] W fun e w'=>e=.returned (.int .i64 0)/\SW w w' sb lw x { t with f:=M.upd t.f (p-x.bS) 8 (M.byteOf v) } h/\Kt (aD x) W w':=by
 obtain⟨g,hg⟩:=uQ s.pl.bd.sp (by unfold M.In at hin;omega);have hs:=s.pl.bd.sp;rw[hg] at hs;refine(M.SetWord_in x.s g x.bS x.R x.lim x.n t.f p v hv W hs hin).mono ?_;rintro e w' ⟨rfl,h1,h2⟩;rw[<-hg] at h1 h2;have kb:Kt (aD x) W w':=(fP h2).mono (fun _ _ e=>.inl e);refine⟨rfl,s.call ?_ kb,kb⟩;exact s.pl.bd.space (fP h2) h1
theorem WF{w W sb lw x t h}(s:SW w W sb lw x t h)(p:Nat)(g:Int)(hin:M.In x.bS x.n p 8)(hv:M.word t.f (p-x.bS)=0):
  Calls prog 199 #[.pointer (some ⟨sb,0,none⟩),.int .u64 p,.int .i64 g] W fun e w'=>e=.returned (.tuple #[.int .i64 (-1),.bool true])/\Kt nO W w':=by
 have WD:=aA (wT s p hin);rw[hv] at WD;have SP:=aA (lM s.pl);obtain⟨c0,c1⟩:=s.c0;clear s hv hin;go_enter func199,ntmps199;go_wp2_with fail;refine SP.out.mono ?_;rintro e w1 ⟨rfl,h1⟩;replace h1:=h1.symm;subst h1;go_wp2_with fail;refine WD.out.mono ?_;rintro e w2 ⟨rfl,hk⟩;have K2:=aA hk;clear hk c0 c1;go_wp2_with fail;exact⟨rfl,.tuple #[.int .i64 (-1),.bool true],by simp[results,results199,go_sem],rfl,K2.out⟩
theorem WE{w W sb lw x t h}(s:SW w W sb lw x t h)(p g v:Nat)(hin:M.In x.bS x.n p 8)(hv:M.word t.f (p-x.bS)=v)(hv0:v≠0)(hv64:v<18446744073709551616)(hB:iT x t v=true)(hg:bF x v/4096=g):
  Calls prog 199 #[.pointer (some ⟨sb,0,none⟩),.int .u64 p,.int .i64 g] W fun e w'=>e=.returned (.tuple #[.int .i64 ((fQ x t v:Nat):Int),.bool true])/\Kt nO W w':=by
 have WD:=aA (wT s p hin);rw[hv] at WD;have SP:=aA (lM s.pl);have AT:=aA (show ∀ W',Kt nO W W'->Calls prog 192 #[.pointer (some ⟨sb,0,none⟩),.int .u64 v] W' fun e w'=>e=.returned (.tuple #[nY (g:Int) ((fQ x t v:Nat):Int) (dA x t v),.bool true])/\Kt nO W' w' from fun W' k=>by
  rw[<-hg];exact wS (s.keep k) v hv64 hB)
 obtain⟨c0,c1⟩:=s.c0;have hvb:((v:Int) == 0)=false:=by rw[beq_eq_false_iff_ne];omega
 generalize fQ x t v=n at *;generalize dA x t v=q at *;clear s hv hin hv0 hB hg;go_enter func199,ntmps199;go_wp2_with fail;refine SP.out.mono ?_;rintro e w1 ⟨rfl,h1⟩;replace h1:=h1.symm;subst h1;go_wp2_with fail;refine WD.out.mono ?_;rintro e w2 ⟨rfl,hk⟩;have K2:=aA hk;clear hk c0 c1;go_wp2_with fail;refine(AT.out _ K2.out).mono ?_;rintro e w3 ⟨rfl,hk⟩;have K3:=aA (nT K2.out (hk.alloc (dZ (g:Int) (n:Int) q)));have X3:=aA (nH w3 (dZ (g:Int) (n:Int) q));clear hk;go_upto_region 5 with fail;generalize w3.heap.size=u at *;generalize w3.alloc (dZ (g:Int) (n:Int) q)=W3 at *;obtain⟨a0,a1,_⟩:=dJ X3.out;have hgg:((g:Int) == (g:Int))=true:=by simp
 go_quiet (fail)
 have K4:=aA (K3.out.drewN 1);go_wp2_with fail;exact⟨rfl,.tuple #[.int .i64 n,.bool true],by simp[results,results199,go_sem],rfl,K3.out.drewN _⟩
def eY(x:Bx)(t:Bt)(p:Nat):Bool:=iT x t p && aH (dA x t p) (fQ x t p)
theorem TD{w W sb lw x t h}(s:SW w W sb lw x t h)(p:Nat)(hp:p<18446744073709551616)(hl:eY x t p=true):
  Calls prog 113 #[.pointer (some ⟨sb,0,none⟩),.int .u64 p] W fun e w'=>e=.returned (.int .u64 ((aE (dA x t p).cl.toNat:Nat):Int))/\Kt nO W w':=by
 unfold eY at hl;rw[Bool.and_eq_true] at hl;have LV:=aA (yB s p hp hl.1);rw[hl.2] at LV;have ok:PgOk (dA x t p):=qN s.pl.bd.mp _;have HT:=aA s.tab;generalize bF x p/4096=g at *;generalize fQ x t p=n at *;generalize dA x t p=q at *;obtain⟨c,hc⟩:=Int.eq_ofNat_of_zero_le ok.c0;have hc8:c<8:=by have:=ok.c7;omega
 have hci:(c:Int)<8:=by omega
 rw[show q.cl.toNat=c by rw[hc];rfl];have HC:=aA hc;obtain⟨z,hz⟩:=xe (aE c);rw[<-hz];have TB:=aA (show ∀ W',Kt nO W W'->W'.cell? ⟨0,c,none⟩=some (.int .u64 z)from fun W' k=>by rw[hz];exact k.cell id (HT.out c hc8));clear s hl hc hz ok;go_enter func113,ntmps113;go_wp2_with fail;refine LV.out.mono ?_;rintro e w1 ⟨rfl,hk⟩;have K1:=aA (hk.alloc (dZ (g:Int) (n:Int) q));have X1:=aA (nH w1 (dZ (g:Int) (n:Int) q));have ct:=TB.out _ K1.out;clear hk;go_upto_region 2 with fail;generalize w1.heap.size=u at *;generalize w1.alloc (dZ (g:Int) (n:Int) q)=W1 at *;obtain⟨_,_,_,_,a4,_⟩:=dJ X1.out;rw[HC.out] at a4;go_wp2_with fail;go_ret;exact⟨rfl,K1.out⟩
theorem LP{w W sb lw x t h}(s:SW w W sb lw x t h)(p:Nat)(hp:p<18446744073709551616)(hl:eY x t p=false):
  Calls prog 113 #[.pointer (some ⟨sb,0,none⟩),.int .u64 p] W fun e w'=>e=.returned (.int .u64 0)/\Kt nO W w':=by
 have LV:=aA (show ∃ g n q,Calls prog 151 #[.pointer (some ⟨sb,0,none⟩),.int .u64 p] W fun e w'=>e=.returned (.tuple #[nY g n q,.bool false])/\Kt nO W w' from by
  cases hB:iT x t p with
  | false=>exact⟨_,_,_,JG s p hp hB⟩
  | true=>
   have:=yB s p hp hB;unfold eY at hl;rw[hB,Bool.true_and] at hl;rw[hl] at this;exact⟨_,_,_,this⟩)
 obtain⟨g,n,q,LX⟩:=LV.out;have LY:=aA LX;clear s hl LX LV;go_enter func113,ntmps113;go_wp2_with fail;refine LY.out.mono ?_;rintro e w1 ⟨rfl,hk⟩;have K1:=aA (hk.alloc (dZ g n q));clear hk;go_wp2_with fail;go_ret;exact⟨rfl,K1.out⟩
theorem AP(c:Nat)(hc:c<8) : 256/2 ^ c*aE c=4096/\2<=256/2 ^ c/\256/2 ^ c<=256:=by
 revert c
 unfold aE;decide
def jU(f:Nat->Nat)(P off z:Nat):Nat->(Nat->Nat)
 | 0=>f
 | k+1=>M.upd (jU f P off z k) (off+k*z) 8 (M.byteOf (P+(k+1)*z))
def iQ(f:Nat->Nat)(P off z N:Nat):Nat->Nat:=M.upd (jU f P off z (N-1)) (off+(N-1)*z) 8 (M.byteOf 0)
theorem LI{w W sb lw x t h}(s:SW w W sb lw x t h)(g c:Nat)(hc:c<8)(hg : 4096*g+4096<=x.n):
  Calls prog 195 #[.pointer (some ⟨sb,0,none⟩),.int .u64 ((ad x g:Nat):Int),.int .i64 c] W fun e w'=>e=.returned (.tuple #[])/\SW w w' sb lw x { t with f:=iQ t.f (ad x g) (4096*g) (aE c) (256/2 ^ c) } h/\Kt (aD x) W w':=by
 have hbe:=s.pl.bd.sp.cfg.be;have hnl:=s.pl.bd.sp.nle;obtain⟨P,hP⟩:=xe (ad x g);obtain⟨z,hz⟩:=xe (aE c);obtain⟨N,hN⟩:=xe (256/2 ^ c);have hzb:=dU hc;have hNz:N*z=4096/\2<=N/\N<=256:=by
  rw[hN,hz];exact AP c hc
 rw[<-hz] at hzb;rw[<-hP,<-hz,<-hN];have hPb:P=x.bS+4096*g:=by rw[hP];rfl
 have hci:(c:Int)<8:=by omega
 have hP64:P+4096<=9223372036854775808:=by omega
 obtain⟨M1,hM1⟩:∃ M1,N=M1+1:=⟨N-1,by omega⟩;obtain⟨La,hLa⟩:=xe (P+M1*z);have hMz:M1*z+z=4096:=by
  have:=hNz.1;rw[hM1,Nat.add_mul,Nat.one_mul] at this;exact this
 obtain⟨P4,hP4⟩:=xe (P+4096);have hLi0:(P:Int)+4096=(P4:Int):=by omega
 have hLi:(P4:Int)-(z:Int)=La:=by omega
 have hP4b:P4<=9223372036854775808:=by omega
 have hLab:La<9223372036854775808:=by omega
 have HT:=aA s.tab;have TB:=aA (show ∀ W',SW w W' sb lw x t h->True from fun _ _=>trivial);have HH:=aA (show ∀ f W',SW w W' sb lw x { t with f:=f } h->W'.cell? ⟨0,c,none⟩=some (.int .u64 z)from fun f W' k=>by rw[hz];exact k.tab c hc);have ct:=HH.out t.f W s;have HP:=aA hPb;have HLA:=aA hLa;have HMZ:=aA hMz;have HGN:=aA hg;have I0:=aA (show SW w W sb lw x { t with f:=jU t.f P (4096*g) z 0 } h/\Kt (aD x) W W from⟨s,Kt.refl _ _⟩);rw[show iQ t.f P (4096*g) z N=M.upd (jU t.f P (4096*g) z M1) (4096*g+M1*z) 8 (M.byteOf 0)by unfold iQ;rw[hM1,Nat.add_sub_cancel]];clear s hP hz hN hPb hLa hMz hg hNz hM1 hP4;go_enter func195,ntmps195;go_wp2_with fail;go_loopw [1] (fun sp W'=>∃ k pk:Nat,k<=M1/\pk=P+k*z/\sp=.int .u64 pk/\Hid (SW w W' sb lw x { t with f:=jU t.f P (4096*g) z k } h/\Kt (aD x) W W')) (fun sp _=>La-(intOf sp).toNat)
 case atStart=>exact⟨0,P,Nat.zero_le _,by rw[Nat.zero_mul,Nat.add_zero],rfl,I0⟩
 case round=>
  clear I0 ct;obtain⟨k,pk,hk,hpk,rfl,HI⟩:=hrel;have SI:=aA HI.out.1;have KI:=aA HI.out.2;clear HI;have ct:=HH.out _ wr SI.out;obtain⟨c0,c1⟩:=SI.out.c0;have hkz:k*z<=M1*z:=Nat.mul_le_mul_right _ hk;have hpl:pk<=La:=by rw[hpk,HLA.out];omega
  by_cases hlt:k<M1
  ·have hkz1:(k+1)*z<=M1*z:=Nat.mul_le_mul_right _ hlt;rw[Nat.add_mul,Nat.one_mul] at hkz1;have hpi:(pk:Int)<La:=by
    have:=HLA.out;omega
   obtain⟨pn,hpn⟩:=xe (pk+z);have hpni:(pk:Int)+(z:Int)=pn:=(by omega);have hpnb:pn<=La:=(by have:=HLA.out;omega);have hwn:IntKind.u64.wrap (pn:Int)=pn:=(by rw[wrap_u64];omega);have SWD:=aA (show ∀ W',Kt nO wr W'->Calls prog 247 #[.pointer (some ⟨x.s,0,none⟩),.int .u64 pk,.int .u64 pn] W' fun e w'=>e=.returned (.int .i64 0)/\SW w w' sb lw x { t with f:=jU t.f P (4096*g) z (k+1) } h/\Kt (aD x) wr w' from fun W' kk=>by
    have hin:M.In x.bS x.n pk 8:=by
     unfold M.In;have:=HP.out;have:=HGN.out;have:=HMZ.out;omega
    refine(AF (SI.out.keep kk) pk pn (by omega) hin).mono ?_;rintro e w' ⟨rfl,h1,h2⟩;refine⟨rfl,?_,kk.trans h2 (fun _ _ e=>e.elim) (fun _ _ e=>e)⟩;rw[show pk-x.bS=4096*g+k*z by have:=HP.out;omega,show pn=P+(k+1)*z by rw[Nat.add_mul,Nat.one_mul];omega] at h1;exact h1)
   have hpe:=aA (show pn=P+(k+1)*z from by rw[Nat.add_mul,Nat.one_mul];omega);clear hpn hpk hkz hkz1;go_upto_region 3 with fail;have KD:=aA ((Kt.refl nO wr).drew);have SP:=aA (lM (SI.out.keep KD.out).pl);obtain⟨d0,d1⟩:=(SI.out.keep KD.out).c0;have dt:=HH.out _ _ (SI.out.keep KD.out);go_region_held3 (fun w'=>w'.cell? ⟨sb,0,none⟩=some (.pointer (some ⟨lw,0,none⟩))/\w'.cell? ⟨0,c,none⟩=some (.int .u64 z)) ((refine⟨?_,?_⟩ <;> first|with_reducible assumption|fail)) (first
    | (go_at_call 247;(with_reducible refine(SWD.out _ KD.out).mono ?_);rintro e w5 ⟨rfl,hs5,hk5⟩;obtain⟨f0,f1⟩:=hs5.c0;have f2:=HH.out _ _ hs5;have S5:=aA hs5;have K5:=aA (KI.out.trans hk5 (fun _ _ e=>e) (fun _ _ e=>e));clear hs5 hk5)
    | (go_at_call 38;(with_reducible refine SP.out.mono ?_);rintro e w3 ⟨rfl,h3⟩;replace h3:=h3.symm;subst h3)
    | fail)
   all_goals
    clear ct c0 c1 d0 d1 dt SP SWD;go_wp2_with fail;go_round
    case rel=>exact⟨k+1,pn,hlt,hpe.out,rfl,aA ⟨S5.out,K5.out⟩⟩
    case measure=>simp[intOf];omega
  ·have hke:k=M1:=(by omega);subst hke;have hpe:pk=La:=(by rw[hpk,HLA.out]);subst hpe;have hpi:¬(pk:Int)<pk:=(by omega);have SP:=aA (lM SI.out.pl);have SWD:=aA (show Calls prog 247 #[.pointer (some ⟨x.s,0,none⟩),.int .u64 pk,.int .u64 0] wr fun e w'=>e=.returned (.int .i64 0)/\SW w w' sb lw x { t with f:=M.upd (jU t.f P (4096*g) z k) (4096*g+k*z) 8 (M.byteOf 0) } h/\Kt (aD x) wr w' from by
    have hin:M.In x.bS x.n pk 8:=by
     unfold M.In;have:=HP.out;have:=HGN.out;have:=HMZ.out;omega
    refine(AF SI.out pk 0 (by omega) hin).mono ?_;rintro e w' ⟨rfl,h1,h2⟩;refine⟨rfl,?_,h2⟩;rw[show pk-x.bS=4096*g+k*z by have:=HP.out;omega] at h1;exact h1)
   clear hpk hkz;go_wp2_with fail;refine SP.out.mono ?_;rintro e w3 ⟨rfl,h3⟩;replace h3:=h3.symm;subst h3;go_wp2_with fail;refine SWD.out.mono ?_;rintro e w5 ⟨rfl,hs5,hk5⟩;have D:=aA (And.intro hs5 (KI.out.trans hk5 (fun _ _ e=>e) (fun _ _ e=>e)));clear hs5 hk5 ct c0 c1;go_wp2_with fail;exact⟨rfl,.tuple #[],by simp[results,results195,go_sem],rfl,D.out⟩
end Go.Proofs.YtkfmheelhinjdaaGreatDoor
