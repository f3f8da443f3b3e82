import Derived.Test.YtkfmheelhinjdaaGreatDoorWf
import Derived.Laws.CopyRow
set_option maxRecDepth 1000000
set_option maxHeartbeats 80000000
namespace Go.Proofs.YtkfmheelhinjdaaGreatDoor
open Tryz
open Go.RowKit
set_option linter.unusedVariables false
theorem CW{W:World}{y:Nat}{p n:Int}{q:Pg}(h:W.heap[y]?=some (dY p n q))(k:Nat)(hk:k<4):W.cell? ⟨y,9+k,none⟩=some (.int .u64 ((wP q k:Nat):Int)):=by
 obtain⟨_,_,_,_,_,_,_,_,_,x9,x10,x11,x12⟩:=dI h;rcases k with _|_|_|_|k
 ·exact x9
 ·exact x10
 ·exact x11
 ·exact x12
 ·omega
theorem CV{q:Pg}(ok:PgOk q)(k:Nat)(hk:k<4):wP q k<18446744073709551616:=by
 rcases k with _|_|_|_|k
 ·exact ok.b0
 ·exact ok.b1
 ·exact ok.b2
 ·exact ok.b3
 ·omega
theorem xK{w W sb lw x t h}(s:SW w W sb lw x t h)(p:Nat)(hp:p<18446744073709551616)(hB:iM x t p=true):
  Calls prog 151 #[.pointer (some ⟨sb,0,none⟩),.int .u64 p] W fun e w'=>e=.returned (.tuple #[nL ((bF x p/4096:Nat):Int) ((fN x t p:Nat):Int) (dB x t p),.bool (aH (dB x t p) (fN x t p))])/\Kt nO W w':=by
 have K0:=aA ((Kt.refl nO W).alloc gH);have S0:=aA (s.keep K0.out);have X0:=aA (show(W.alloc gH).heap[W.heap.size]?=some (dY 0 0 aQ)from nH W gH);have AT:=aA (vU S0.out p hp hB);have ok:PgOk (dB x t p):=pW s.pl.bd.mp _;have hn256:fN x t p<256:=by
  unfold fN;have hc8:(dB x t p).cl.toNat<8:=by have:=ok.c7;have:=ok.c0;omega
  have hz:=dT hc8;exact Nat.div_lt_of_lt_mul (Nat.lt_of_lt_of_le (Nat.mod_lt _ (by decide)) (show 4096<=aE (dB x t p).cl.toNat*256 by omega))
 obtain⟨g,hg⟩:=xe (bF x p/4096);obtain⟨n,hn⟩:=xe (fN x t p);obtain⟨q,hq⟩:=xe (dB x t p);rw[<-hg,<-hn,<-hq] at AT ⊢;rw[<-hn] at hn256;rw[<-hq] at ok;clear hg hn hq s hB;obtain⟨k,hk⟩:=xe (n/64);obtain⟨r,hr⟩:=xe (n%64);have hk4:k<4:=by omega
 have hki:(n:Int)/64=(k:Int):=by omega
 have hri:(n:Int).tmod 64=(r:Int):=by rw[Int.tmod_eq_emod_of_nonneg (by omega)];omega
 have hr64:r<64:=by omega
 obtain⟨v,hv⟩:=xe (wP q k);have hvb:v<18446744073709551616:=by rw[hv];exact CV ok k hk4
 have E:=oB v r hvb;have hl:aH q n=(v/2 ^ r%2 == 1):=by unfold aH;rw[<-hk,<-hr,<-hv]
 have HL:=aA hl;have HV:=aA hv;obtain⟨lit,hlit⟩:=xe (aH q n);rw[<-hlit];have HLIT:=aA hlit;clear hl hv hlit hk hr ok;go_enter func151,ntmps151;go_upto_region 1 with fail;obtain⟨y,hy⟩:=xe (W.heap.size);have HY:=aA (show W.heap.size<=y from Nat.le_of_eq hy.symm);rw[<-hy] at X0;rw[<-hy];clear hy;generalize W.alloc gH=W0 at *;go_wp2_with fail;refine AT.out.mono ?_;rintro e w1 ⟨rfl,hk1⟩;have K1:=aA (hk1.alloc (dY (g:Int) (n:Int) q));have X1:=aA (nH w1 (dY (g:Int) (n:Int) q));have Y1:=aA ((K1.out.block _ (lH X0.out) id).trans X0.out);have KW:=aA (nT K0.out K1.out);have HYU:=aA (show y<w1.heap.size from Nat.lt_of_lt_of_le (lH X0.out) hk1.size);clear hk1 AT;go_upto_region 2 with fail;generalize w1.heap.size=u at *;generalize w1.alloc (dY (g:Int) (n:Int) q)=W1 at *;obtain⟨a0,a1,a2,a3,a4,a5,a6,a7,a8,a9,a10,a11,a12⟩:=dI X1.out;have ab:=CW X1.out k hk4;rw[<-HV.out] at ab;obtain⟨x0,x1,x2,x3,x4,x5,x6,x7,x8,x9,x10,x11,x12⟩:=dI Y1.out;have xf:=jN Y1.out;have hyu:¬y=u:=by have:=HYU.out;omega
 have huy:¬u=y:=by have:=HYU.out;omega
 go_wp2_with fail;go_region
 all_goals
  have HYY:=aA (show y<W.heap.size->nO y from fun e=>absurd e (Nat.not_lt.2 HY.out));have X8:=aA (uE (W:=W1) (y:=y) Y1.out (v0:=.int .i64 g) (v1:=.int .i64 n) (v2:=.int .i64 q.kd) (v3:=.int .i64 q.od) (v4:=.int .i64 q.cl) (v5:=.int .i64 q.lv) (v6:=.int .i64 q.nx) (v7:=.int .i64 q.pv) (v8:=.int .i64 q.fs) (v9:=.int .u64 q.b0) (v10:=.int .u64 q.b1) (v11:=.int .u64 q.b2) (v12:=.int .u64 q.b3));have K8:=aA (((((((((((((KW.out.setNew (p:=⟨y,0,none⟩) HYY.out (.int .i64 g)).setNew (p:=⟨y,1,none⟩) HYY.out (.int .i64 n)).setNew (p:=⟨y,2,none⟩) HYY.out (.int .i64 q.kd)).setNew (p:=⟨y,3,none⟩) HYY.out (.int .i64 q.od)).setNew (p:=⟨y,4,none⟩) HYY.out (.int .i64 q.cl)).setNew (p:=⟨y,5,none⟩) HYY.out (.int .i64 q.lv)).setNew (p:=⟨y,6,none⟩) HYY.out (.int .i64 q.nx)).setNew (p:=⟨y,7,none⟩) HYY.out (.int .i64 q.pv)).setNew (p:=⟨y,8,none⟩) HYY.out (.int .i64 q.fs)).setNew (p:=⟨y,9,none⟩) HYY.out (.int .u64 q.b0)).setNew (p:=⟨y,10,none⟩) HYY.out (.int .u64 q.b1)).setNew (p:=⟨y,11,none⟩) HYY.out (.int .u64 q.b2)).setNew (p:=⟨y,12,none⟩) HYY.out (.int .u64 q.b3));generalize (((((((((((((W1.setCell ⟨y,0,none⟩ (.int .i64 g)).setCell ⟨y,1,none⟩ (.int .i64 n)).setCell ⟨y,2,none⟩ (.int .i64 q.kd)).setCell ⟨y,3,none⟩ (.int .i64 q.od)).setCell ⟨y,4,none⟩ (.int .i64 q.cl)).setCell ⟨y,5,none⟩ (.int .i64 q.lv)).setCell ⟨y,6,none⟩ (.int .i64 q.nx)).setCell ⟨y,7,none⟩ (.int .i64 q.pv)).setCell ⟨y,8,none⟩ (.int .i64 q.fs)).setCell ⟨y,9,none⟩ (.int .u64 q.b0)).setCell ⟨y,10,none⟩ (.int .u64 q.b1)).setCell ⟨y,11,none⟩ (.int .u64 q.b2)).setCell ⟨y,12,none⟩ (.int .u64 q.b3))=W8 at *;have K9:=aA (show Kt nO W W8.drew from K8.out.drew);have X9:=aA (show W8.drew.heap[y]?=some (dY (g:Int) (n:Int) q)from X8.out);generalize W8.drew=W9 at *;clear a0 a1 a2 a3 a4 a5 a6 a7 a8 a9 a10 a11 a12 x0 x1 x2 x3 x4 x5 x6 x7 x8 x9 x10 x11 x12;obtain⟨x0,x1,x2,x3,x4,x5,x6,x7,x8,x9,x10,x11,x12⟩:=dI X9.out;rw[show(v/2 ^ r%2 == 1)=lit by rw[HLIT.out,HL.out]];go_wp2_with fail;exact⟨rfl,_,by simp[results,results151,go_sem,x0,x1,x2,x3,x4,x5,x6,x7,x8,x9,x10,x11,x12],rfl,K9.out⟩
theorem EG{w W sb lw x t h}(s:SW w W sb lw x t h)(p:Nat)(hp:p<18446744073709551616)(hB:iM x t p=false):
  Calls prog 151 #[.pointer (some ⟨sb,0,none⟩),.int .u64 p] W fun e w'=>e=.returned (.tuple #[nL 0 0 aQ,.bool false])/\Kt nO W w':=by
 have K0:=aA ((Kt.refl nO W).alloc gH);have S0:=aA (s.keep K0.out);have X0:=aA (show(W.alloc gH).heap[W.heap.size]?=some (dY 0 0 aQ)from nH W gH);have AT:=aA (BO S0.out p hp hB);clear s hB;go_enter func151,ntmps151;go_upto_region 1 with fail;obtain⟨y,hy⟩:=xe (W.heap.size);have HY:=aA (show W.heap.size<=y from Nat.le_of_eq hy.symm);rw[<-hy] at X0;rw[<-hy];clear hy;generalize W.alloc gH=W0 at *;go_wp2_with fail;refine AT.out.mono ?_;rintro e w1 ⟨rfl,hk1⟩;have K1:=aA (hk1.alloc (dY 0 0 aQ));have X1:=aA (nH w1 (dY 0 0 aQ));have Y1:=aA ((K1.out.block _ (lH X0.out) id).trans X0.out);have KW:=aA (nT K0.out K1.out);have HYU:=aA (show y<w1.heap.size from Nat.lt_of_lt_of_le (lH X0.out) hk1.size);clear hk1 AT;go_upto_region 2 with fail;generalize w1.heap.size=u at *;generalize w1.alloc (dY 0 0 aQ)=W1 at *;obtain⟨a0,a1,a2,a3,a4,a5,a6,a7,a8,a9,a10,a11,a12⟩:=dI X1.out;obtain⟨x0,x1,x2,x3,x4,x5,x6,x7,x8,x9,x10,x11,x12⟩:=dI Y1.out;have xf:=jN Y1.out;have hyu:¬y=u:=by have:=HYU.out;omega
 have huy:¬u=y:=by have:=HYU.out;omega
 go_wp2_with fail;go_region
 all_goals
  have HYY:=aA (show y<W.heap.size->nO y from fun e=>absurd e (Nat.not_lt.2 HY.out));have X8:=aA (uE (W:=W1) (y:=y) Y1.out (v0:=.int .i64 0) (v1:=.int .i64 0) (v2:=.int .i64 aQ.kd) (v3:=.int .i64 aQ.od) (v4:=.int .i64 aQ.cl) (v5:=.int .i64 aQ.lv) (v6:=.int .i64 aQ.nx) (v7:=.int .i64 aQ.pv) (v8:=.int .i64 aQ.fs) (v9:=.int .u64 aQ.b0) (v10:=.int .u64 aQ.b1) (v11:=.int .u64 aQ.b2) (v12:=.int .u64 aQ.b3));have K8:=aA (((((((((((((KW.out.setNew (p:=⟨y,0,none⟩) HYY.out (.int .i64 0)).setNew (p:=⟨y,1,none⟩) HYY.out (.int .i64 0)).setNew (p:=⟨y,2,none⟩) HYY.out (.int .i64 aQ.kd)).setNew (p:=⟨y,3,none⟩) HYY.out (.int .i64 aQ.od)).setNew (p:=⟨y,4,none⟩) HYY.out (.int .i64 aQ.cl)).setNew (p:=⟨y,5,none⟩) HYY.out (.int .i64 aQ.lv)).setNew (p:=⟨y,6,none⟩) HYY.out (.int .i64 aQ.nx)).setNew (p:=⟨y,7,none⟩) HYY.out (.int .i64 aQ.pv)).setNew (p:=⟨y,8,none⟩) HYY.out (.int .i64 aQ.fs)).setNew (p:=⟨y,9,none⟩) HYY.out (.int .u64 aQ.b0)).setNew (p:=⟨y,10,none⟩) HYY.out (.int .u64 aQ.b1)).setNew (p:=⟨y,11,none⟩) HYY.out (.int .u64 aQ.b2)).setNew (p:=⟨y,12,none⟩) HYY.out (.int .u64 aQ.b3));generalize (((((((((((((W1.setCell ⟨y,0,none⟩ (.int .i64 0)).setCell ⟨y,1,none⟩ (.int .i64 0)).setCell ⟨y,2,none⟩ (.int .i64 aQ.kd)).setCell ⟨y,3,none⟩ (.int .i64 aQ.od)).setCell ⟨y,4,none⟩ (.int .i64 aQ.cl)).setCell ⟨y,5,none⟩ (.int .i64 aQ.lv)).setCell ⟨y,6,none⟩ (.int .i64 aQ.nx)).setCell ⟨y,7,none⟩ (.int .i64 aQ.pv)).setCell ⟨y,8,none⟩ (.int .i64 aQ.fs)).setCell ⟨y,9,none⟩ (.int .u64 aQ.b0)).setCell ⟨y,10,none⟩ (.int .u64 aQ.b1)).setCell ⟨y,11,none⟩ (.int .u64 aQ.b2)).setCell ⟨y,12,none⟩ (.int .u64 aQ.b3))=W8 at *;have K9:=aA (show Kt nO W W8.drew from K8.out.drew);have X9:=aA (show W8.drew.heap[y]?=some (dY 0 0 aQ)from X8.out);generalize W8.drew=W9 at *;clear a0 a1 a2 a3 a4 a5 a6 a7 a8 a9 a10 a11 a12 x0 x1 x2 x3 x4 x5 x6 x7 x8 x9 x10 x11 x12;obtain⟨x0,x1,x2,x3,x4,x5,x6,x7,x8,x9,x10,x11,x12⟩:=dI X9.out;go_wp2_with fail;exact⟨rfl,_,by simp[results,results151,go_sem,x0,x1,x2,x3,x4,x5,x6,x7,x8,x9,x10,x11,x12],rfl,K9.out⟩
theorem uH{w:World}{s:Nat}{a:Option Nat}{bS R lim n:Nat}{f:Nat->Nat}(h:M.SpA w s a bS R lim n f)(hn : 0<n):∃ g,a=some g:=by
 obtain⟨cap,hb,hr⟩:=h.ex
 cases a with
 | none=>exact absurd hr.1 (by omega)
 | some g=>exact⟨g,rfl⟩
theorem vV{w W sb lw x t h}(s:SW w W sb lw x t h)(p:Nat)(hin:M.In x.bS x.n p 8):
  Calls prog 252 #[.pointer (some ⟨x.s,0,none⟩),.int .u64 p] W fun e w'=>e=.returned (.tuple #[.int .u64 ((M.word t.f (p-x.bS):Nat):Int),.int .i64 0])/\Kt nO W w':=by
 obtain⟨g,hg⟩:=uH s.pl.bd.sp (by unfold M.In at hin;omega);have hs:=s.pl.bd.sp;rw[hg] at hs;exact(M.Word_in x.s g x.bS x.R x.lim x.n t.f p W hs hin).mono fun e w' h=>⟨h.1,fM h.2⟩
theorem zI{w W sb lw x t h}(s:SW w W sb lw x t h)(p v:Nat)(hv:v<18446744073709551616)(hin:M.In x.bS x.n p 8):
  Calls prog 247 #[.pointer (some ⟨x.s,0,none⟩),.int .u64 p,.int .u64 v] W fun e w'=>e=.returned (.int .i64 0)/\SW w w' sb lw x { t with f:=M.upd t.f (p-x.bS) 8 (M.byteOf v) } h/\Kt (aC x) W w':=by
 obtain⟨g,hg⟩:=uH s.pl.bd.sp (by unfold M.In at hin;omega);have hs:=s.pl.bd.sp;rw[hg] at hs;refine(M.SetWord_in x.s g x.bS x.R x.lim x.n t.f p v hv W hs hin).mono ?_;rintro e w' ⟨rfl,h1,h2⟩;rw[<-hg] at h1 h2;have kb:Kt (aC x) W w':=(fM h2).mono (fun _ _ e=>.inl e);refine⟨rfl,s.call ?_ kb,kb⟩;exact s.pl.bd.space (fM h2) h1
theorem UK{w W sb lw x t h}(s:SW w W sb lw x t h)(p:Nat)(g:Int)(hin:M.In x.bS x.n p 8)(hv:M.word t.f (p-x.bS)=0):
  Calls prog 199 #[.pointer (some ⟨sb,0,none⟩),.int .u64 p,.int .i64 g] W fun e w'=>e=.returned (.tuple #[.int .i64 (-1),.bool true])/\Kt nO W w':=by
 have WD:=aA (vV s p hin);rw[hv] at WD;have SP:=aA (lF s.pl);obtain⟨c0,c1⟩:=s.c0;clear s hv hin;go_enter func199,ntmps199;go_wp2_with fail;refine SP.out.mono ?_;rintro e w1 ⟨rfl,h1⟩;replace h1:=h1.symm;subst h1;go_wp2_with fail;refine WD.out.mono ?_;rintro e w2 ⟨rfl,hk⟩;have K2:=aA hk;clear hk c0 c1;go_wp2_with fail;exact⟨rfl,.tuple #[.int .i64 (-1),.bool true],by simp[results,results199,go_sem],rfl,K2.out⟩
theorem UJ{w W sb lw x t h}(s:SW w W sb lw x t h)(p g v:Nat)(hin:M.In x.bS x.n p 8)(hv:M.word t.f (p-x.bS)=v)(hv0:v≠0)(hv64:v<18446744073709551616)(hB:iM x t v=true)(hg:bF x v/4096=g):
  Calls prog 199 #[.pointer (some ⟨sb,0,none⟩),.int .u64 p,.int .i64 g] W fun e w'=>e=.returned (.tuple #[.int .i64 ((fN x t v:Nat):Int),.bool true])/\Kt nO W w':=by
 have WD:=aA (vV s p hin);rw[hv] at WD;have SP:=aA (lF s.pl);have AT:=aA (show ∀ W',Kt nO W W'->Calls prog 192 #[.pointer (some ⟨sb,0,none⟩),.int .u64 v] W' fun e w'=>e=.returned (.tuple #[nL (g:Int) ((fN x t v:Nat):Int) (dB x t v),.bool true])/\Kt nO W' w' from fun W' k=>by
  rw[<-hg];exact vU (s.keep k) v hv64 hB)
 obtain⟨c0,c1⟩:=s.c0;have hvb:((v:Int) == 0)=false:=by rw[beq_eq_false_iff_ne];omega
 generalize fN x t v=n at *;generalize dB x t v=q at *;clear s hv hin hv0 hB hg;go_enter func199,ntmps199;go_wp2_with fail;refine SP.out.mono ?_;rintro e w1 ⟨rfl,h1⟩;replace h1:=h1.symm;subst h1;go_wp2_with fail;refine WD.out.mono ?_;rintro e w2 ⟨rfl,hk⟩;have K2:=aA hk;clear hk c0 c1;go_wp2_with fail;refine(AT.out _ K2.out).mono ?_;rintro e w3 ⟨rfl,hk⟩;have K3:=aA (nT K2.out (hk.alloc (dY (g:Int) (n:Int) q)));have X3:=aA (nH w3 (dY (g:Int) (n:Int) q));clear hk;go_upto_region 5 with fail;generalize w3.heap.size=u at *;generalize w3.alloc (dY (g:Int) (n:Int) q)=W3 at *;obtain⟨a0,a1,_⟩:=dI X3.out;have hgg:((g:Int) == (g:Int))=true:=by simp
 go_quiet (fail)
 have K4:=aA (K3.out.drewN 1);go_wp2_with fail;exact⟨rfl,.tuple #[.int .i64 n,.bool true],by simp[results,results199,go_sem],rfl,K3.out.drewN _⟩
def eW(x:Bx)(t:Bt)(p:Nat):Bool:=iM x t p && aH (dB x t p) (fN x t p)
theorem NR{w W sb lw x t h}(s:SW w W sb lw x t h)(p:Nat)(hp:p<18446744073709551616)(hl:eW x t p=true):
  Calls prog 113 #[.pointer (some ⟨sb,0,none⟩),.int .u64 p] W fun e w'=>e=.returned (.int .u64 ((aE (dB x t p).cl.toNat:Nat):Int))/\Kt nO W w':=by
 unfold eW at hl;rw[Bool.and_eq_true] at hl;have LV:=aA (xK s p hp hl.1);rw[hl.2] at LV;have ok:PgOk (dB x t p):=pW s.pl.bd.mp _;have HT:=aA s.tab;generalize bF x p/4096=g at *;generalize fN x t p=n at *;generalize dB x t p=q at *;obtain⟨c,hc⟩:=Int.eq_ofNat_of_zero_le ok.c0;have hc8:c<8:=by have:=ok.c7;omega
 have hci:(c:Int)<8:=by omega
 rw[show q.cl.toNat=c by rw[hc];rfl];have HC:=aA hc;obtain⟨z,hz⟩:=xe (aE c);rw[<-hz];have TB:=aA (show ∀ W',Kt nO W W'->W'.cell? ⟨0,c,none⟩=some (.int .u64 z)from fun W' k=>by rw[hz];exact k.cell id (HT.out c hc8));clear s hl hc hz ok;go_enter func113,ntmps113;go_wp2_with fail;refine LV.out.mono ?_;rintro e w1 ⟨rfl,hk⟩;have K1:=aA (hk.alloc (dY (g:Int) (n:Int) q));have X1:=aA (nH w1 (dY (g:Int) (n:Int) q));have ct:=TB.out _ K1.out;clear hk;go_upto_region 2 with fail;generalize w1.heap.size=u at *;generalize w1.alloc (dY (g:Int) (n:Int) q)=W1 at *;obtain⟨_,_,_,_,a4,_⟩:=dI X1.out;rw[HC.out] at a4;go_wp2_with fail;go_ret;exact⟨rfl,K1.out⟩
theorem JR{w W sb lw x t h}(s:SW w W sb lw x t h)(p:Nat)(hp:p<18446744073709551616)(hl:eW x t p=false):
  Calls prog 113 #[.pointer (some ⟨sb,0,none⟩),.int .u64 p] W fun e w'=>e=.returned (.int .u64 0)/\Kt nO W w':=by
 have LV:=aA (show ∃ g n q,Calls prog 151 #[.pointer (some ⟨sb,0,none⟩),.int .u64 p] W fun e w'=>e=.returned (.tuple #[nL g n q,.bool false])/\Kt nO W w' from by
  cases hB:iM x t p with
  | false=>exact⟨_,_,_,EG s p hp hB⟩
  | true=>
   have:=xK s p hp hB;unfold eW at hl;rw[hB,Bool.true_and] at hl;rw[hl] at this;exact⟨_,_,_,this⟩)
 obtain⟨g,n,q,LX⟩:=LV.out;have LY:=aA LX;clear s hl LX LV;go_enter func113,ntmps113;go_wp2_with fail;refine LY.out.mono ?_;rintro e w1 ⟨rfl,hk⟩;have K1:=aA (hk.alloc (dY g n q));clear hk;go_wp2_with fail;go_ret;exact⟨rfl,K1.out⟩
theorem yY(c:Nat)(hc:c<8) : 256/2 ^ c*aE c=4096/\2<=256/2 ^ c/\256/2 ^ c<=256:=by
 revert c
 unfold aE;decide
def jP(f:Nat->Nat)(P off z:Nat):Nat->(Nat->Nat)
 | 0=>f
 | k+1=>M.upd (jP f P off z k) (off+k*z) 8 (M.byteOf (P+(k+1)*z))
def iJ(f:Nat->Nat)(P off z N:Nat):Nat->Nat:=M.upd (jP f P off z (N-1)) (off+(N-1)*z) 8 (M.byteOf 0)
theorem JQ{w W sb lw x t h}(s:SW w W sb lw x t h)(g c:Nat)(hc:c<8)(hg : 4096*g+4096<=x.n):
  Calls prog 195 #[.pointer (some ⟨sb,0,none⟩),.int .u64 ((ad x g:Nat):Int),.int .i64 c] W fun e w'=>e=.returned (.tuple #[])/\SW w w' sb lw x { t with f:=iJ t.f (ad x g) (4096*g) (aE c) (256/2 ^ c) } h/\Kt (aC x) W w':=by
 have hbe:=s.pl.bd.sp.cfg.be;have hnl:=s.pl.bd.sp.nle;obtain⟨P,hP⟩:=xe (ad x g);obtain⟨z,hz⟩:=xe (aE c);obtain⟨N,hN⟩:=xe (256/2 ^ c);have hzb:=dT hc;have hNz:N*z=4096/\2<=N/\N<=256:=by
  rw[hN,hz];exact yY c hc
 rw[<-hz] at hzb;rw[<-hP,<-hz,<-hN];have hPb:P=x.bS+4096*g:=by rw[hP];rfl
 have hci:(c:Int)<8:=by omega
 have hP64:P+4096<=9223372036854775808:=by omega
 obtain⟨M1,hM1⟩:∃ M1,N=M1+1:=⟨N-1,by omega⟩;obtain⟨La,hLa⟩:=xe (P+M1*z);have hMz:M1*z+z=4096:=by
  have:=hNz.1;rw[hM1,Nat.add_mul,Nat.one_mul] at this;exact this
 obtain⟨P4,hP4⟩:=xe (P+4096);have hLi0:(P:Int)+4096=(P4:Int):=by omega
 have hLi:(P4:Int)-(z:Int)=La:=by omega
 have hP4b:P4<=9223372036854775808:=by omega
 have hLab:La<9223372036854775808:=by omega
 have HT:=aA s.tab;have TB:=aA (show ∀ W',SW w W' sb lw x t h->True from fun _ _=>trivial);have HH:=aA (show ∀ f W',SW w W' sb lw x { t with f:=f } h->W'.cell? ⟨0,c,none⟩=some (.int .u64 z)from fun f W' k=>by rw[hz];exact k.tab c hc);have ct:=HH.out t.f W s;have HP:=aA hPb;have HLA:=aA hLa;have HMZ:=aA hMz;have HGN:=aA hg;have I0:=aA (show SW w W sb lw x { t with f:=jP t.f P (4096*g) z 0 } h/\Kt (aC x) W W from⟨s,Kt.refl _ _⟩);rw[show iJ t.f P (4096*g) z N=M.upd (jP t.f P (4096*g) z M1) (4096*g+M1*z) 8 (M.byteOf 0)by unfold iJ;rw[hM1,Nat.add_sub_cancel]];clear s hP hz hN hPb hLa hMz hg hNz hM1 hP4;go_enter func195,ntmps195;go_wp2_with fail;go_loopw [1] (fun sp W'=>∃ k pk:Nat,k<=M1/\pk=P+k*z/\sp=.int .u64 pk/\Hid (SW w W' sb lw x { t with f:=jP t.f P (4096*g) z k } h/\Kt (aC x) W W')) (fun sp _=>La-(intOf sp).toNat)
 case atStart=>exact⟨0,P,Nat.zero_le _,by rw[Nat.zero_mul,Nat.add_zero],rfl,I0⟩
 case round=>
  clear I0 ct;obtain⟨k,pk,hk,hpk,rfl,HI⟩:=hrel;have SI:=aA HI.out.1;have KI:=aA HI.out.2;clear HI;have ct:=HH.out _ wr SI.out;obtain⟨c0,c1⟩:=SI.out.c0;have hkz:k*z<=M1*z:=Nat.mul_le_mul_right _ hk;have hpl:pk<=La:=by rw[hpk,HLA.out];omega
  by_cases hlt:k<M1
  ·have hkz1:(k+1)*z<=M1*z:=Nat.mul_le_mul_right _ hlt;rw[Nat.add_mul,Nat.one_mul] at hkz1;have hpi:(pk:Int)<La:=by
    have:=HLA.out;omega
   obtain⟨pn,hpn⟩:=xe (pk+z);have hpni:(pk:Int)+(z:Int)=pn:=(by omega);have hpnb:pn<=La:=(by have:=HLA.out;omega);have hwn:IntKind.u64.wrap (pn:Int)=pn:=(by rw[wrap_u64];omega);have SWD:=aA (show ∀ W',Kt nO wr W'->Calls prog 247 #[.pointer (some ⟨x.s,0,none⟩),.int .u64 pk,.int .u64 pn] W' fun e w'=>e=.returned (.int .i64 0)/\SW w w' sb lw x { t with f:=jP t.f P (4096*g) z (k+1) } h/\Kt (aC x) wr w' from fun W' kk=>by
    have hin:M.In x.bS x.n pk 8:=by
     unfold M.In;have:=HP.out;have:=HGN.out;have:=HMZ.out;omega
    refine(zI (SI.out.keep kk) pk pn (by omega) hin).mono ?_;rintro e w' ⟨rfl,h1,h2⟩;refine⟨rfl,?_,kk.trans h2 (fun _ _ e=>e.elim) (fun _ _ e=>e)⟩;rw[show pk-x.bS=4096*g+k*z by have:=HP.out;omega,show pn=P+(k+1)*z by rw[Nat.add_mul,Nat.one_mul];omega] at h1;exact h1)
   have hpe:=aA (show pn=P+(k+1)*z from by rw[Nat.add_mul,Nat.one_mul];omega);clear hpn hpk hkz hkz1;go_upto_region 3 with fail;have KD:=aA ((Kt.refl nO wr).drew);have SP:=aA (lF (SI.out.keep KD.out).pl);obtain⟨d0,d1⟩:=(SI.out.keep KD.out).c0;have dt:=HH.out _ _ (SI.out.keep KD.out);go_region_held3 (fun w'=>w'.cell? ⟨sb,0,none⟩=some (.pointer (some ⟨lw,0,none⟩))/\w'.cell? ⟨0,c,none⟩=some (.int .u64 z)) ((refine⟨?_,?_⟩ <;> first|with_reducible assumption|fail)) (first
    | (go_at_call 247;(with_reducible refine(SWD.out _ KD.out).mono ?_);rintro e w5 ⟨rfl,hs5,hk5⟩;obtain⟨f0,f1⟩:=hs5.c0;have f2:=HH.out _ _ hs5;have S5:=aA hs5;have K5:=aA (KI.out.trans hk5 (fun _ _ e=>e) (fun _ _ e=>e));clear hs5 hk5)
    | (go_at_call 38;(with_reducible refine SP.out.mono ?_);rintro e w3 ⟨rfl,h3⟩;replace h3:=h3.symm;subst h3)
    | fail)
   all_goals
    clear ct c0 c1 d0 d1 dt SP SWD;go_wp2_with fail;go_round
    case rel=>exact⟨k+1,pn,hlt,hpe.out,rfl,aA ⟨S5.out,K5.out⟩⟩
    case measure=>simp[intOf];omega
  ·have hke:k=M1:=(by omega);subst hke;have hpe:pk=La:=(by rw[hpk,HLA.out]);subst hpe;have hpi:¬(pk:Int)<pk:=(by omega);have SP:=aA (lF SI.out.pl);have SWD:=aA (show Calls prog 247 #[.pointer (some ⟨x.s,0,none⟩),.int .u64 pk,.int .u64 0] wr fun e w'=>e=.returned (.int .i64 0)/\SW w w' sb lw x { t with f:=M.upd (jP t.f P (4096*g) z k) (4096*g+k*z) 8 (M.byteOf 0) } h/\Kt (aC x) wr w' from by
    have hin:M.In x.bS x.n pk 8:=by
     unfold M.In;have:=HP.out;have:=HGN.out;have:=HMZ.out;omega
    refine(zI SI.out pk 0 (by omega) hin).mono ?_;rintro e w' ⟨rfl,h1,h2⟩;refine⟨rfl,?_,h2⟩;rw[show pk-x.bS=4096*g+k*z by have:=HP.out;omega] at h1;exact h1)
   clear hpk hkz;go_wp2_with fail;refine SP.out.mono ?_;rintro e w3 ⟨rfl,h3⟩;replace h3:=h3.symm;subst h3;go_wp2_with fail;refine SWD.out.mono ?_;rintro e w5 ⟨rfl,hs5,hk5⟩;have D:=aA (And.intro hs5 (KI.out.trans hk5 (fun _ _ e=>e) (fun _ _ e=>e)));clear hs5 hk5 ct c0 c1;go_wp2_with fail;exact⟨rfl,.tuple #[],by simp[results,results195,go_sem],rfl,D.out⟩
theorem SW.congr{w W sb lw x t h h'}(s:SW w W sb lw x t h)(e:∀ k,k<8->h k=h' k):SW w W sb lw x t h':=by
 refine⟨s.pl,?_,s.nw,s.tb⟩;have:=s.bx;rw[pH,e 0 (by decide),e 1 (by decide),e 2 (by decide),e 3 (by decide),e 4 (by decide),e 5 (by decide),e 6 (by decide),e 7 (by decide)] at this;exact this
theorem GF{w W lw x t fr ls}(s:PO w W lw x t fr ls)(hT:iN w):
  Calls prog 79 #[.pointer (some ⟨lw,0,none⟩)] W fun e w'=>∃ sb,e=.returned (.pointer (some ⟨sb,0,none⟩))/\SW w w' sb lw x t (fun _=>0)/\Kt nO W w'/\W.heap.size<=sb:=by
 obtain⟨n1,n2,n3,n4,_⟩:=s.nums;have hst:=s.st;have HM:=aA (bX s.pl);have PG:=aA (wA s);have SP:=aA (fun W' (k:Kt nO W W')=>lF (s.keep k).pl);obtain⟨pn,hpn⟩:=xe (t.m.n);obtain⟨xn,hxn⟩:=xe (x.n);obtain⟨en,hen⟩:=xe (x.bS+x.n);have EN:=aA (fun W' (k:Kt nO W W')=>pL (s.keep k));rw[<-hen] at EN;rw[<-hpn] at PG;have hpi:(pn:Int)*4096=(xn:Int):=by omega
 have hxb:xn<=4194304:=by omega
 have hpb:pn<=1024:=by omega
 obtain⟨bs,hbs⟩:=xe (x.bS);have heb:(en:Int)-(xn:Int)=bs:=by omega
 have henb:en<=9223372036854775808:=by omega
 have hbsb:bs<=9223372036854775808:=by omega
 have HB:=aA hbs;have HS:=aA s;have HT:=aA hT;clear s hst n1 n2 n3 n4 hpn hxn hen hbs hT;go_enter func79,ntmps79;go_wp2_with fail;refine HM.out.mono ?_;rintro e w1 ⟨rfl,h1⟩;replace h1:=h1.symm;subst h1;go_wp2_with fail;refine PG.out.mono ?_;rintro e w2 ⟨rfl,h2⟩;replace h2:=h2.symm;subst h2;go_wp2_with fail;refine(SP.out _ (Kt.refl nO W)).mono ?_;rintro e w3 ⟨rfl,h3⟩;replace h3:=h3.symm;subst h3;go_wp2_with fail;refine(EN.out _ (Kt.refl nO W)).mono ?_;rintro e w4 ⟨rfl,hk⟩;have D:=aA (show SW w (w4.alloc (pH lw bs (fun _=>0))) w4.heap.size lw x t (fun _=>0)/\Kt nO W (w4.alloc (pH lw bs (fun _=>0)))/\W.heap.size<=w4.heap.size from by
  have k2:=hk.alloc (pH lw bs (fun _=>0));refine⟨⟨(HS.out.keep k2).pl,?_,Nat.le_trans (HS.out.keep hk).pl.kp.size (Nat.le_refl _),HT.out⟩,k2,hk.size⟩;rw[<-HB.out];exact nH w4 _)
 clear hk;go_wp2_with fail;go_ret;exact⟨_,rfl,D.out⟩
theorem vB{w W lw x t fr ls}(s:PO w W lw x t fr ls)(hT:iN w):
  Calls prog 34 #[.pointer (some ⟨lw,0,none⟩)] W fun e w'=>∃ sb,e=.returned (.pointer (some ⟨sb,0,none⟩))/\SW w w' sb lw x t (fun _ => -1)/\Kt nO W w'/\W.heap.size<=sb:=by
 have OV:=aA (GF s hT);clear s hT;go_enter func34,ntmps34;go_wp2_with fail;refine OV.out.mono ?_;rintro e w1 ⟨sb,rfl,hs,hk,hz⟩;have I0:=aA (show SW w w1 sb lw x t (fun j=>if j<0 then -1 else 0)/\Kt nO W w1 from⟨hs,hk⟩);have HZ:=aA hz;clear hs hk hz OV;go_wp2_with fail;go_loopw [7] (fun si W'=>∃ k:Nat,k<=8/\si=.int .i64 k/\Hid (SW w W' sb lw x t (fun j=>if j<k then -1 else 0)/\Kt nO W W')) (fun si _=>8-(intOf si).toNat)
 case atStart=>exact⟨0,by decide,rfl,I0⟩
 case round=>
  clear I0;obtain⟨k,hk,rfl,HI⟩:=hrel;have SI:=aA HI.out.1;have KI:=aA HI.out.2;clear HI;by_cases hlt:k<8
  ·have hki:(k:Int)<8:=(by omega);have c2:=SI.out.hd k hlt;have fz:=SI.out.fz (2+k);have S2:=aA (show SW w (wr.setCell ⟨sb,2+k,none⟩ (.int .i64 (-1))) sb lw x t (fun j=>if j<k+1 then -1 else 0)/\Kt nO W (wr.setCell ⟨sb,2+k,none⟩ (.int .i64 (-1)))from by
    refine⟨(SI.out.set k hlt (-1)).congr (fun j hj=>?_),KI.out.setNew (p:=⟨sb,2+k,none⟩) (fun e=>absurd e (Nat.not_lt.2 HZ.out)) _⟩;unfold cU;by_cases e:j=k
    ·rw[if_pos e,if_pos (by omega)]
    ·rw[if_neg e];show(if j<k then (-1:Int) else 0)=if j<k+1 then (-1:Int) else 0
     by_cases e2:j<k
     ·rw[if_pos e2,if_pos (by omega)]
     ·rw[if_neg e2,if_neg (by omega)])
   go_wp2_with fail;go_round
   case rel=>exact⟨k+1,by omega,by go_num,S2⟩
   case measure=>simp[intOf];omega
  ·have hki:¬(k:Int)<8:=(by omega);have D:=aA (show SW w wr sb lw x t (fun _ => -1)/\Kt nO W wr/\W.heap.size<=sb from⟨SI.out.congr (fun j hj=>by show(if j<k then (-1:Int) else 0) = -1;rw[if_pos (by omega)]),KI.out,HZ.out⟩);go_wp2_with fail;go_ret;exact⟨sb,rfl,D.out⟩
abbrev nK(h:Nat->Int):Obj:=.cells #[.int .i64 (h 0),.int .i64 (h 1),.int .i64 (h 2),.int .i64 (h 3),.int .i64 (h 4),.int .i64 (h 5),.int .i64 (h 6),.int .i64 (h 7)] 133
theorem VJ{w W sb lw x t h}(s:SW w W sb lw x t h):
  Calls prog 42 #[.pointer (some ⟨sb,0,none⟩)] W fun e w'=>∃ b,e=.returned (.slice (some ⟨b,0,none⟩) 8 8)/\w'.heap[b]?=some (nK h)/\Kt nO W w'/\W.heap.size<=b:=by
 have c0:=s.hd 0 (by decide);have c1:=s.hd 1 (by decide);have c2:=s.hd 2 (by decide);have c3:=s.hd 3 (by decide);have c4:=s.hd 4 (by decide);have c5:=s.hd 5 (by decide);have c6:=s.hd 6 (by decide);have c7:=s.hd 7 (by decide);have D:=aA (show(W.alloc (nK h)).heap[W.heap.size]?=some (nK h)/\Kt nO W (W.alloc (nK h))/\W.heap.size<=W.heap.size from⟨nH W _,(Kt.refl nO W).alloc _,Nat.le_refl _⟩);clear s;go_enter func42,ntmps42;go_wp2_with fail;go_ret;exact⟨_,rfl,D.out⟩
def bD:List Nat->Int
 | [] => -1
 | a :: _=>(a:Int)
def bC:List Nat->Nat->Int
 | [],_ => -1
 | a :: l,p=>if a=p then bD l else bC l p
def bG:List Nat->Nat->Int
 | [],_ => -1
 | a :: l,p=>if bD l=(p:Int) then (a:Int) else bG l p
theorem mY{l:List Nat}{p:Nat}(h:bD l=(p:Int)):p∈l:=by
 cases l with
 | nil=>
  have h:(-1:Int)=(p:Int):=h;omega
 | cons a l=>
  have h:(a:Int)=p:=h;rw[show p=a by omega];exact List.mem_cons_self
theorem oP(l:List Nat):bD l = -1\/∃ r:Nat,bD l=(r:Int)/\r∈l:=by
 cases l with
 | nil=>exact .inl rfl
 | cons a l=>exact .inr ⟨a,rfl,List.mem_cons_self⟩
theorem sE{l:List Nat}{p:Nat}(h:p ∉ l):bC l p = -1:=by
 induction l with
 | nil=>rfl
 | cons a l ih=>
  rw[List.mem_cons,not_or] at h;rw[bC,if_neg (fun e=>h.1 e.symm)];exact ih h.2
theorem oK{l:List Nat}{p:Nat}(h:p ∉ l):bG l p = -1:=by
 induction l with
 | nil=>rfl
 | cons a l ih=>
  rw[List.mem_cons,not_or] at h;rw[bG,if_neg (fun e=>h.2 (mY e))];exact ih h.2
theorem lJ(l:List Nat)(p:Nat)(hd:l.Nodup):bC l p = -1\/∃ r:Nat,bC l p=(r:Int)/\r∈l/\r≠p:=by
 induction l with
 | nil=>exact .inl rfl
 | cons a l ih=>
  rw[List.nodup_cons] at hd;rw[bC];by_cases e:a=p
  ·rw[if_pos e];rcases oP l with h|⟨r,h1,h2⟩
   ·exact .inl h
   ·exact .inr ⟨r,h1,List.mem_cons_of_mem _ h2,fun e2=>hd.1 (by rw[e,<-e2];exact h2)⟩
  ·rw[if_neg e];rcases ih hd.2 with h|⟨r,h1,h2,h3⟩
   ·exact .inl h
   ·exact .inr ⟨r,h1,List.mem_cons_of_mem _ h2,h3⟩
theorem lZ(l:List Nat)(p:Nat)(hd:l.Nodup):bG l p = -1\/∃ r:Nat,bG l p=(r:Int)/\r∈l/\r≠p:=by
 induction l with
 | nil=>exact .inl rfl
 | cons a l ih=>
  rw[List.nodup_cons] at hd;rw[bG];by_cases e:bD l=(p:Int)
  ·rw[if_pos e];exact .inr ⟨a,rfl,List.mem_cons_self,fun e2=>hd.1 (by rw[e2];exact mY e)⟩
  ·rw[if_neg e];rcases ih hd.2 with h|⟨r,h1,h2,h3⟩
   ·exact .inl h
   ·exact .inr ⟨r,h1,List.mem_cons_of_mem _ h2,h3⟩
theorem oZ{a:Nat}{l:List Nat}(hd:(a :: l).Nodup):bG (a :: l) a = -1:=by
 rw[List.nodup_cons] at hd;rw[bG,if_neg (fun e=>hd.1 (mY e))];exact oK hd.1
theorem lV{l:List Nat}{p:Nat}(hd:l.Nodup)(hp:p∈l):bG l p = -1↔bD l=(p:Int):=by
 cases l with
 | nil=>cases hp
 | cons a l=>
  constructor
  ·intro h;rcases List.mem_cons.1 hp with e|hm
   ·rw[e];rfl
   ·exfalso
    clear hp;induction l generalizing a with
    | nil=>cases hm
    | cons b l ih=>
     rw[bG] at h;by_cases e:bD (b :: l)=(p:Int)
     ·rw[if_pos e] at h;omega
     ·rw[if_neg e] at h;rcases List.mem_cons.1 hm with e2|hm2
      ·exact e (by rw[e2];rfl)
      ·exact ih b (List.nodup_cons.1 hd).2 h hm2
  ·intro h;have h:(a:Int)=p:=h;rw[show p=a by omega];exact oZ hd
theorem uJ{l:List Nat}{p:Nat}(h:p ∉ l):M.dropL (p :: l) p=l:=by
 unfold M.dropL;rw[List.filter_cons_of_neg (by simp)];exact List.filter_eq_self.2 fun q hq=>by simp;exact fun e=>h (e▸hq)
theorem uF{l:List Nat}{a p:Nat}(h:a≠p):M.dropL (a :: l) p=a :: M.dropL l p:=by
 unfold M.dropL;rw[List.filter_cons_of_pos (by simp[h])]
theorem OM{l:List Nat}(h:l.Nodup)(p:Nat):(M.dropL l p).Nodup:=h.filter _
theorem tO{l:List Nat}{p:Nat}(hd:l.Nodup)(hp:p∈l):bD (M.dropL l p)=if bG l p = -1 then bC l p else bD l:=by
 cases l with
 | nil=>cases hp
 | cons a l=>
  have hn:=List.nodup_cons.1 hd;by_cases e:a=p
  ·subst e;rw[uJ hn.1,if_pos (oZ hd),bC,if_pos rfl]
  ·rw[uF e,if_neg]
   ·rfl
   ·rw[lV hd hp];intro h;have h:(a:Int)=p:=h;omega
theorem OL{l:List Nat}{p r:Nat}(hd:l.Nodup)(hp:p∈l)(hr:r≠p):bC (M.dropL l p) r=if (r:Int)=bG l p then bC l p else bC l r:=by
 induction l with
 | nil=>cases hp
 | cons a l ih=>
  have hn:=List.nodup_cons.1 hd;by_cases e:a=p
  ·subst e;rw[uJ hn.1,oZ hd,if_neg (by omega)];show bC l r=if a=r then bD l else bC l r
   rw[if_neg (fun h=>hr h.symm)]
  ·have hpl:p∈l:=by
    rcases List.mem_cons.1 hp with h|h
    ·exact absurd h.symm e
    ·exact h
   rw[uF e];have hnx:bC (a :: l) p=bC l p:=(by rw[bC,if_neg e]);rw[hnx];by_cases e2:a=r
   ·subst e2;rw[bC,if_pos rfl,tO hn.2 hpl,bC,if_pos rfl,bG];by_cases e3:bD l=(p:Int)
    ·rw[if_pos e3,if_pos rfl,if_pos ((lV hn.2 hpl).2 e3)]
    ·rw[if_neg e3,if_neg (fun h=>e3 ((lV hn.2 hpl).1 h)),if_neg];intro h;rcases lZ l p hn.2 with h2|⟨b,h2,h3,_⟩
     ·rw[h2] at h;omega
     ·rw[h2] at h;exact hn.1 (by rw[show a=b by omega];exact h3)
   ·rw[bC,if_neg e2,ih hn.2 hpl,bC,if_neg e2,bG];by_cases e3:bD l=(p:Int)
    ·rw[if_pos e3,(lV hn.2 hpl).2 e3,if_neg (by omega),if_neg (fun h=>e2 (by omega))]
    ·rw[if_neg e3]
theorem OJ{l:List Nat}{p r:Nat}(hd:l.Nodup)(hp:p∈l)(hr:r≠p):bG (M.dropL l p) r=if (r:Int)=bC l p then bG l p else bG l r:=by
 induction l with
 | nil=>cases hp
 | cons a l ih=>
  have hn:=List.nodup_cons.1 hd;by_cases e:a=p
  ·subst e;rw[uJ hn.1,oZ hd];have hnx:bC (a :: l) a=bD l:=(by rw[bC,if_pos rfl]);rw[hnx];by_cases e2:(r:Int)=bD l
   ·rw[if_pos e2];exact(lV hn.2 (mY e2.symm)).2 e2.symm
   ·rw[if_neg e2,bG,if_neg (fun h=>e2 h.symm)]
  ·have hpl:p∈l:=by
    rcases List.mem_cons.1 hp with h|h
    ·exact absurd h.symm e
    ·exact h
   rw[uF e];have hnx:bC (a :: l) p=bC l p:=(by rw[bC,if_neg e]);rw[hnx,bG,tO hn.2 hpl,ih hn.2 hpl,bG,bG];by_cases e3:bD l=(p:Int)
   ·have h1:=(lV hn.2 hpl).2 e3;rw[if_pos h1,if_pos e3,h1];by_cases e4:bC l p=(r:Int)
    ·rw[if_pos e4,if_pos e4.symm]
    ·rw[if_neg e4,if_neg (fun h=>e4 h.symm),if_neg (fun h=>e4 h.symm),if_neg];intro h;rw[e3] at h;exact hr (by omega)
   ·have h1:¬bG l p = -1:=fun h=>e3 ((lV hn.2 hpl).1 h)
    rw[if_neg h1,if_neg e3];by_cases e4:bD l=(r:Int)
    ·rw[if_pos e4];by_cases e5:(r:Int)=bC l p
     ·exfalso
      -- the head stands behind nobody
      cases l with
      | nil=>cases hpl
      | cons b l=>
       have e4:(b:Int)=r:=e4;have:bC (b :: l) p=(b:Int):=by rw[<-e5,e4]
       rw[bC] at this;have hn2:=List.nodup_cons.1 hn.2;by_cases e6:b=p
       ·exact e3 (by rw[e6];rfl)
       ·rw[if_neg e6] at this;rcases lJ l p hn2.2 with h|⟨c,h2,h3,_⟩
        ·omega
        ·exact hn2.1 (by rw[show b=c by omega];exact h3)
     ·rw[if_neg e5,if_pos e4]
    ·rw[if_neg e4,if_neg e4]
def aG(k:Nat):Nat:=256/2 ^ k
theorem dL{k:Nat}(h:k<8):aG k*aE k=4096/\2<=aG k/\aG k<=256:=yY k h
structure Sb where
 c:Nat->Option Nat
 fl:Nat->List Nat
 pl:Nat->List Nat
def iY(S:Sb)(m:Mp):Nat->Option Pg:=fun p=>(S.c p).map fun _=>m.pg p
theorem gY{S:Sb}{m:Mp}{p:Nat}(h:S.c p=none):iY S m p=none:=by unfold iY;rw[h];rfl
theorem iW{S:Sb}{m:Mp}{p k:Nat}(h:S.c p=some k):iY S m p=some (m.pg p):=by unfold iY;rw[h];rfl
theorem IR{S:Sb}{m:Mp}{p:Nat}{q:Pg}(h:iY S m p=some q):(∃ k,S.c p=some k)/\m.pg p=q:=by
 cases e:S.c p with
 | none=>rw[gY e] at h;cases h
 | some k=>
  rw[iW e] at h;injection h with h
  exact⟨⟨k,rfl⟩,h⟩
structure SlP(S:Sb)(p k:Nat)(q:Pg):Prop where
 kd:q.kd=4
 od:q.od=0
 cl:q.cl=(k:Int)
 lv:q.lv=((aG k-(S.fl p).length:Nat):Int)
 nx:q.nx=bC (S.pl k) p
 pv:q.pv=bG (S.pl k) p
 fs:q.fs=bD (S.fl p)
 bt:∀ i,i<256->aH q i=decide (i<aG k/\i ∉ S.fl p)
def ZX(x:Bx)(p k:Nat):List Nat->Nat
 | []=>0
 | j :: _=>aP x p k j
def lQ(x:Bx)(f:Nat->Nat)(p k:Nat):List Nat->Prop
 | []=>True
 | i :: l=>M.word f (4096*p+i*aE k)=ZX x p k l/\lQ x f p k l
structure SI(x:Bx)(t:Bt)(S:Sb):Prop where
 eP:x.P=iY S t.m
 pg:∀ p k,S.c p=some k->k<8/\SlP S p k (t.m.pg p)
 fl:∀ p k,S.c p=some k->(S.fl p).Nodup/\(∀ i∈S.fl p,i<aG k)/\lQ x t.f p k (S.fl p)
 lv:∀ p k,S.c p=some k->(S.fl p).length<=aG k
 pn:∀ k,k<8->(S.pl k).Nodup
 pm:∀ k,k<8->∀ p,p∈S.pl k↔(S.c p=some k/\S.fl p≠[])
def gE(S:Sb):Prop:=∀ p k,S.c p=some k->(S.fl p).length<aG k
theorem Sf.repaint{x t fr ls}(s:Sf x t fr ls)(S S':Sb)(hP:x.P=iY S t.m)(m':Mp)(ho:m'.o=t.m.o)(hn:m'.n=t.m.n)(hw:m'.wd=t.m.wd)(h1:∀ p,S'.c p=none->m'.pg p=(if S.c p=none then t.m.pg p else aN 2 0))(h2:∀ p k,S'.c p=some k->(m'.pg p).kd=4/\(p,0)∈ls):
  Sf { x with P:=iY S' m' } { t with m:=m' } fr ls:=by
 obtain⟨B,s,hN,hL⟩:=s;refine⟨B,⟨?_,s.o8,?_,?_,?_,s.b1,s.b2,s.tg,s.fi,?_,s.ds,?_,?_,s.ch,?_,?_,s.nm,?_⟩,hN,hL⟩
 ·show m'.o=x.o
  rw[ho];exact s.mo
 ·show ∃ r,m'.n=r*2 ^ x.o
  rw[hn];exact s.dv
 ·show m'.n*4096<=x.n
  rw[hn];exact s.nb
 ·show m'.n<=1024
  rw[hn];exact s.n1
 ·intro g p k hb;show k<=x.o/\p%2 ^ k=0/\p+2 ^ k<=m'.n
  rw[hn];exact s.al g p k hb
 ·intro i hi;have hi:i<m'.n:=hi;rw[hn] at hi;exact s.cv i hi
 ·intro g p k hb h9 i hi1 hi2;show m'.pg i=(iY S' m' i).getD _
  cases e:S'.c i with
  | some k'=>rw[iW e];rfl
  | none=>
   rw[gY e,Option.getD_none,h1 i e]
   cases e2:S.c i with
   | none=>
    rw[if_pos rfl];have:=s.pg g p k hb h9 i hi1 hi2;rw[hP,gY e2,Option.getD_none] at this;exact this
   | some k'=>
    rw[if_neg (by rintro ⟨⟩)];have hv:=(s.vs i (t.m.pg i) (by rw[hP];exact iW e2)).1;rcases s.ds _ _ _ _ _ _ hv hb with ⟨e3,e4,e5⟩|e3|e3
    ·rw[if_pos e4,<-e3,<-e5];rfl
    ·omega
    ·omega
 ·intro k hk;show(m'.wd k).length=(m'.n/2 ^ (k+1)+63)/64
  rw[hw,hn];exact s.wl k hk
 ·intro k hk i hi;have hi:i<m'.n/2 ^ (k+1):=hi;rw[hn] at hi;show aF (m'.wd k) i=_
  rw[hw];exact s.bt k hk i hi
 ·intro p q h;have h:iY S' m' p=some q:=h;obtain⟨⟨k,hk⟩,hq⟩:=IR h;obtain⟨h3,h4⟩:=h2 p k hk;exact⟨(hL p 0).2 h4,by rw[<-hq];exact h3⟩
theorem BdAt.reP{W x t}(h:BdAt W x t)(P:Nat->Option Pg):BdAt W { x with P:=P } t:=⟨h.sp,h.mp,h.ls,h.bs,h.lr,h.mo,h.iL,h.hR⟩
theorem Pol.reP{w W lw x t}(h:Pol w W lw x t)(P:Nat->Option Pg):Pol w W lw { x with P:=P } t:=⟨h.box,h.bd.reP P,h.nw,h.kp⟩
theorem SW.reP{w W sb lw x t h}(s:SW w W sb lw x t h)(P:Nat->Option Pg):SW w W sb lw { x with P:=P } t h:=⟨s.pl.reP P,s.bx,s.nw,s.tb⟩
structure SO(w W:World)(sb lw:Nat)(x:Bx)(t:Bt)(fr:Nat->List Nat)(ls:List (Nat×Nat))(S:Sb)(h:Nat->Int):Prop where
 sw:SW w W sb lw x t h
 sf:Sf x t fr ls
 st:t.m.n*4096=x.n
 bm:x.bS%4096=0
 si:SI x t S
 hd:∀ k,k<8->h k=bD (S.pl k)
theorem SO.po{w W sb lw x t fr ls S h}(o:SO w W sb lw x t fr ls S h):PO w W lw x t fr ls:=⟨o.sw.pl,o.sf,o.st,o.bm⟩
theorem SO.keep{w W W' sb lw x t fr ls S h}(o:SO w W sb lw x t fr ls S h)(k:Kt nO W W'):SO w W' sb lw x t fr ls S h:=⟨o.sw.keep k,o.sf,o.st,o.bm,o.si,o.hd⟩
theorem SO.mem{w W sb lw x t fr ls S h}(o:SO w W sb lw x t fr ls S h){p k:Nat}(hp:S.c p=some k):(p,0)∈ls/\p<t.m.n/\p<1024/\x.bS+4096*p+4096<=x.bS+x.n:=by
 have h1:=o.sf.pslab (p:=p) (q:=t.m.pg p) (by rw[o.si.eP];exact iW hp);have hn:=o.po.nums.2.1;have hst:=o.st;refine⟨h1.1,h1.2.2.1,by omega,?_⟩;have h5:(p+1)*4096<=t.m.n*4096:=Nat.mul_le_mul_right _ h1.2.2.1;omega
theorem kC{x:Bx}{p k i:Nat}(hk:k<8)(hi:i<aG k)(hb:x.bS+4096*p+4096<=9223372036854775808):bF x (aP x p k i)=4096*p+i*aE k/\i*aE k+aE k<=4096/\aP x p k i<18446744073709551616:=by
 have h1:=dL hk;have h2:(i+1)*aE k<=aG k*aE k:=Nat.mul_le_mul_right _ hi;rw[Nat.add_mul,Nat.one_mul,h1.1] at h2;have h3:aP x p k i=x.bS+4096*p+i*aE k:=rfl;refine⟨?_,h2,by omega⟩;unfold bF;omega
theorem sH{x:Bx}{t:Bt}{p k i:Nat}(hk:k<8)(hi:i<aG k)(hb:x.bS+4096*p+4096<=9223372036854775808)(hp:p<t.m.n)(hkd:(t.m.pg p).kd=4)(hcl:(t.m.pg p).cl=(k:Int)):
  iM x t (aP x p k i)=true/\bF x (aP x p k i)/4096=p/\dB x t (aP x p k i)=t.m.pg p/\fN x t (aP x p k i)=i:=by
 obtain⟨h1,h2,h3⟩:=kC (x:=x) (p:=p) hk hi hb;have hz:=dT hk;have e1:bF x (aP x p k i)/4096=p:=by rw[h1];omega
 have e2:bF x (aP x p k i)%4096=i*aE k:=by rw[h1];omega
 have e3:dB x t (aP x p k i)=t.m.pg p:=by
  unfold dB cE;rw[e1,if_pos (dH hp),Int.toNat_natCast]
 have e4:(t.m.pg p).cl.toNat=k:=by rw[hcl];rfl
 refine⟨?_,e1,e3,?_⟩
 ·unfold iM;rw[e3,e4,e2,decide_eq_true hkd,decide_eq_true (Nat.mul_mod_left _ _)];rfl
 ·unfold fN;rw[e3,e4,e2,Nat.mul_div_cancel _ (by omega)]
theorem lE(n:Nat):cH n (-1)=true:=by unfold cH;rfl
theorem oA{n r:Nat}(h:r<n):cH n (r:Int)=true:=by unfold cH;rw[dH h,Bool.or_true]
theorem oR{m:Mp}{p:Nat}{a b:Int}(hp:p<m.n)(hk:(m.pg p).kd=4)(ha:cH m.n a=true)(hb:cH m.n b=true):dG m (p:Int) a b={ m with pg:=aJ m.pg p { m.pg p with nx:=a,pv:=b } }:=by
 unfold dG jH;rw[Int.toNat_natCast,dH hp,decide_eq_true hk,ha,hb];rfl
theorem XG(m:Mp)(a b:Int):dG m (-1) a b=m:=by
 unfold dG jH;rw[show aB m.n (-1)=false from decide_eq_false (by omega)];rfl
theorem nW{m:Mp}{p:Nat}(hp:p<m.n):cE m (p:Int)=m.pg p:=by unfold cE;rw[if_pos (dH hp),Int.toNat_natCast]
theorem AV{m:Mp}{r:Nat}{v:Int}(hr:r<m.n)(hk:(m.pg r).kd=4)(hn:cH m.n (m.pg r).nx=true)(hv:cH m.n v=true):gU m (r:Int) v={ m with pg:=aJ m.pg r { m.pg r with pv:=v } }:=by
 unfold gU;rw[nW hr,oR hr hk hn hv]
theorem AS(m:Mp)(v:Int):gU m (-1) v=m:=XG _ _ _
theorem XV{m:Mp}{r:Nat}{v:Int}(hr:r<m.n)(hk:(m.pg r).kd=4)(hn:cH m.n (m.pg r).pv=true)(hv:cH m.n v=true):nD m (r:Int) v={ m with pg:=aJ m.pg r { m.pg r with nx:=v } }:=by
 unfold nD;rw[nW hr,oR hr hk hv hn]
def dU(pg:Nat->Pg)(l:List Nat)(p:Nat):Nat->Pg:=fun r=>if r=p then { pg p with nx:=bD l,pv := -1 } else if (r:Int)=bD l then { pg r with pv:=(p:Int) } else pg r
theorem CJ{m:Mp}{h:Nat->Int}{p c:Nat}{l:List Nat}(hp:p<m.n)(hk:(m.pg p).kd=4)(hh:h c=bD l)(hl:∀ r∈l,r<m.n/\(m.pg r).kd=4/\cH m.n (m.pg r).nx=true)(hpl:p ∉ l):fC m h (p:Int) c={ m with pg:=dU m.pg l p }:=by
 unfold fC;rw[hh]
 cases l with
 | nil=>
  show gU (dG m (p:Int) (-1) (-1)) (-1) (p:Int)=_
  rw[AS,oR hp hk (lE _) (lE _)];refine congrArg (fun g=>({ m with pg:=g } : Mp)) (funext fun r=>?_);unfold aJ dU;by_cases e:r=p
  ·rw[if_pos e,if_pos e];rfl
  ·rw[if_neg e,if_neg e,if_neg (by show ¬(r:Int) = -1;omega)]
 | cons b l=>
  obtain⟨h1,h2,h3⟩:=hl b List.mem_cons_self;have hbp:b≠p:=fun e=>hpl (by rw[e];exact List.mem_cons_self)
  show gU (dG m (p:Int) (b:Int) (-1)) (b:Int) (p:Int)=_
  rw[oR hp hk (oA h1) (lE _)];have e1:aJ m.pg p { m.pg p with nx:=(b:Int),pv := -1 } b=m.pg b:=by unfold aJ;rw[if_neg hbp]
  rw[AV (m:={ m with pg:=aJ m.pg p { m.pg p with nx:=(b:Int),pv := -1 } }) h1 (by show(aJ m.pg p _ b).kd=4;rw[e1];exact h2) (by show cH m.n (aJ m.pg p _ b).nx=true;rw[e1];exact h3) (oA hp)];show({ m with pg:=aJ (aJ m.pg p { m.pg p with nx:=(b:Int),pv := -1 }) b { aJ m.pg p { m.pg p with nx:=(b:Int),pv := -1 } b with pv:=(p:Int) } } : Mp)=_
  rw[e1];refine congrArg (fun g=>({ m with pg:=g } : Mp)) (funext fun r=>?_);unfold aJ dU;by_cases e:r=p
  ·rw[if_neg (show ¬r=b from fun e2=>hbp (e2.symm.trans e)),if_pos e,if_pos e];rfl
  ·rw[if_neg e];by_cases e2:r=b
   ·rw[if_pos e2,if_neg e,if_pos (by rw[e2];rfl),e2]
   ·rw[if_neg e2,if_neg e,if_neg];intro e3;have e3:(r:Int)=b:=e3;omega
def fB(pg:Nat->Pg)(l:List Nat)(p:Nat):Nat->Pg:=fun r=>if r=p then { pg p with nx := -1,pv := -1 } else { pg r with nx:=if (r:Int)=bG l p then bC l p else (pg r).nx,pv:=if (r:Int)=bC l p then bG l p else (pg r).pv }
theorem CI{m:Mp}{h:Nat->Int}{p c:Nat}{l:List Nat}(hd:l.Nodup)(hp:p∈l)(hl:∀ r∈l,r<m.n/\(m.pg r).kd=4/\(m.pg r).nx=bC l r/\(m.pg r).pv=bG l r):iA m (p:Int)={ m with pg:=fB m.pg l p }/\iE m h (p:Int) c=if bG l p = -1 then cU h c (bC l p) else h:=by
 obtain⟨p1,p2,p3,p4⟩:=hl p hp;have lk:∀ r∈l,cH m.n (bC l r)=true/\cH m.n (bG l r)=true:=fun r hr=>by
  constructor
  ·rcases lJ l r hd with e|⟨b,e,hb,_⟩
   ·rw[e];exact lE _
   ·rw[e];exact oA (hl b hb).1
  ·rcases lZ l r hd with e|⟨b,e,hb,_⟩
   ·rw[e];exact lE _
   ·rw[e];exact oA (hl b hb).1
 refine⟨?_,by unfold iE;rw[nW p1,p3,p4]⟩;unfold iA;rw[nW p1,p3,p4]
 obtain⟨m1,hm1,hm1n,hpg1⟩:∃ m1:Mp,gU m (bC l p) (bG l p)=m1/\(m1.n=m.n/\m1={ m with pg:=m1.pg })/\∀ r,m1.pg r=if (r:Int)=bC l p then { m.pg r with pv:=bG l p } else m.pg r:=by
  rcases lJ l p hd with e|⟨b,e,hb,hbp⟩
  ·refine⟨m,by rw[e,AS],⟨rfl,rfl⟩,fun r=>?_⟩;rw[e,if_neg (by omega)]
  ·obtain⟨b1,b2,b3,b4⟩:=hl b hb;refine⟨{ m with pg:=aJ m.pg b { m.pg b with pv:=bG l p } },by rw[e];exact AV b1 b2 (by rw[b3];exact(lk b hb).1) (lk p hp).2,⟨rfl,rfl⟩,fun r=>?_⟩;show aJ m.pg b _ r=_
   unfold aJ;rw[e];by_cases e2:r=b
   ·rw[if_pos e2,if_pos (by rw[e2]),e2]
   ·rw[if_neg e2,if_neg (by omega)]
 rw[hm1]
 obtain⟨m2,hm2,hm2n,hpg2⟩:∃ m2:Mp,(if bG l p = -1 then m1 else nD m1 (bG l p) (bC l p))=m2/\(m2.n=m.n/\m2={ m with pg:=m2.pg })/\∀ r,m2.pg r=if (r:Int)=bG l p then { m1.pg r with nx:=bC l p } else m1.pg r:=by
  rcases lZ l p hd with e|⟨b,e,hb,hbp⟩
  ·refine⟨m1,by rw[if_pos e],hm1n,fun r=>?_⟩;rw[e,if_neg (by omega)]
  ·obtain⟨b1,b2,b3,b4⟩:=hl b hb;have hk1:(m1.pg b).kd=4:=by
    rw[hpg1];split
    ·exact b2
    ·exact b2
   have hl1:cH m1.n (m1.pg b).pv=true:=by
    rw[hpg1,hm1n.1];split
    ·exact(lk p hp).2
    ·rw[b4];exact(lk b hb).2
   refine⟨{ m1 with pg:=aJ m1.pg b { m1.pg b with nx:=bC l p } },by rw[if_neg (by rw[e];omega),e];exact XV (by rw[hm1n.1];exact b1) hk1 hl1 (by rw[hm1n.1];exact(lk p hp).1),⟨hm1n.1,?_⟩,fun r=>?_⟩
   ·show({ m1 with pg:=_ } : Mp)={ m with pg:=_ }
    rw[hm1n.2]
   ·show aJ m1.pg b _ r=_
    unfold aJ;rw[e];by_cases e2:r=b
    ·rw[if_pos e2,if_pos (by rw[e2]),e2]
    ·rw[if_neg e2,if_neg (by omega)]
 rw[hm2];have np:¬(p:Int)=bC l p:=fun e=>by
  rcases lJ l p hd with h|⟨b,h,_,hb⟩
  ·omega
  ·exact hb (by omega)
 have pp:¬(p:Int)=bG l p:=fun e=>by
  rcases lZ l p hd with h|⟨b,h,_,hb⟩
  ·omega
  ·exact hb (by omega)
 have hp2:m2.pg p=m.pg p:=by rw[hpg2,if_neg pp,hpg1,if_neg np]
 rw[oR (by rw[hm2n.1];exact p1) (by rw[hp2];exact p2) (by exact lE _) (by exact lE _),hp2,hm2n.2];show({ m with pg:=aJ m2.pg p { m.pg p with nx := -1,pv := -1 } } : Mp)=_
 refine congrArg (fun g=>({ m with pg:=g } : Mp)) (funext fun r=>?_);unfold aJ fB;by_cases e:r=p
 ·rw[if_pos e,if_pos e]
 ·rw[if_neg e,if_neg e,hpg2,hpg1];by_cases e1:(r:Int)=bG l p
  ·rw[if_pos e1,if_pos e1];by_cases e2:(r:Int)=bC l p
   ·rw[if_pos e2,if_pos e2]
   ·rw[if_neg e2,if_neg e2]
  ·rw[if_neg e1,if_neg e1];by_cases e2:(r:Int)=bC l p
   ·rw[if_pos e2,if_pos e2]
   ·rw[if_neg e2,if_neg e2]
def vA(q q':Pg):Prop:=∃ a b,q'={ q with nx:=a,pv:=b }
theorem MA(pg:Nat->Pg)(l:List Nat)(p r:Nat):vA (pg r) (dU pg l p r):=by
 unfold dU;by_cases e:r=p
 ·rw[if_pos e,e];exact⟨_,_,rfl⟩
 ·rw[if_neg e];split
  ·exact⟨(pg r).nx,_,rfl⟩
  ·exact⟨(pg r).nx,(pg r).pv,rfl⟩
theorem LZ(pg:Nat->Pg)(l:List Nat)(p r:Nat):vA (pg r) (fB pg l p r):=by
 unfold fB;by_cases e:r=p
 ·rw[if_pos e,e];exact⟨_,_,rfl⟩
 ·rw[if_neg e];exact⟨_,_,rfl⟩
def NP(pg:Nat->Pg)(S:Sb)(k:Nat)(l:List Nat):Prop:=∀ r,S.c r=some k->(pg r).nx=bC l r/\(pg r).pv=bG l r
theorem CG{pg:Nat->Pg}{S:Sb}{k p:Nat}{l:List Nat}(h:NP pg S k l)(hd:l.Nodup)(hp:p ∉ l):NP (dU pg l p) S k (p :: l):=fun r hr=>by
 obtain⟨h1,h2⟩:=h r hr;unfold dU;by_cases e:r=p
 ·rw[if_pos e,e];exact⟨by show bD l=_;rw[bC,if_pos rfl],(oZ (List.nodup_cons.2 ⟨hp,hd⟩)).symm⟩
 ·have n1:bC (p :: l) r=bC l r:=by rw[bC,if_neg (fun e2=>e e2.symm)]
  have n2:bG (p :: l) r=if bD l=(r:Int) then (p:Int) else bG l r:=rfl;rw[if_neg e,n1,n2];by_cases e2:(r:Int)=bD l
  ·rw[if_pos e2,if_pos e2.symm];exact⟨h1,rfl⟩
  ·rw[if_neg e2,if_neg (fun e3=>e2 e3.symm)];exact⟨h1,h2⟩
theorem CD{pg:Nat->Pg}{S:Sb}{k p:Nat}{l:List Nat}(h:NP pg S k l)(hd:l.Nodup)(hp:p∈l):NP (fB pg l p) S k (M.dropL l p):=fun r hr=>by
 obtain⟨h1,h2⟩:=h r hr;unfold fB;by_cases e:r=p
 ·have ho:p ∉ M.dropL l p:=by rw[kA];exact fun h=>h.2 rfl
  rw[if_pos e,e,sE ho,oK ho];exact⟨rfl,rfl⟩
 ·rw[if_neg e,OL hd hp e,OJ hd hp e];exact⟨by show(if _ then _ else _)=_;rw[h1],by show(if _ then _ else _)=_;rw[h2]⟩
end Go.Proofs.YtkfmheelhinjdaaGreatDoor
