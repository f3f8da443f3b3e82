import Derived.Test.YtkfmheelhinjdaaGreatDoorXp
set_option maxRecDepth 1000000
set_option maxHeartbeats 80000000
namespace Go.Proofs.YtkfmheelhinjdaaGreatDoor
open _root_.Go.Proofs.Tryz
open Go.RowKit
set_option linter.unusedVariables false
theorem JV{W:World}{y:Nat}{p n:Int}{q:Pg}(h:W.heap[y]?=some (eL p n q))(k:Nat)(hk:k<4):W.cell? ⟨y,9+k,none⟩=some (.int .u64 ((wP q k:Nat):Int)):=by
 obtain⟨_,_,_,_,_,_,_,_,_,x9,x10,x11,x12⟩:=dN h;rcases k with _|_|_|_|k
 ·exact x9
 ·exact x10
 ·exact x11
 ·exact x12
 ·omega
theorem JU{q:Pg}(ok:PgOk q)(k:Nat)(hk:k<4):wP q k<18446744073709551616:=by
 rcases k with _|_|_|_|k
 ·exact ok.b0
 ·exact ok.b1
 ·exact ok.b2
 ·exact ok.b3
 ·omega
theorem CV{w W sb lw x t h}(s:SW w W sb lw x t h)(p:Nat)(hp:p<18446744073709551616)(hB:jH x t p=true):
  Calls prog 151 #[.pointer (some ⟨sb,0,none⟩),.int .u64 p] W fun e w'=>e=.returned (.tuple #[oY ((bF x p/4096:Nat):Int) ((fY x t p:Nat):Int) (dH x t p),.bool (aJ (dH x t p) (fY x t p))])/\Kt nO W w':=by
 have K0:=aA ((Kt.refl nO W).alloc gW);have S0:=aA (s.keep K0.out);have X0:=aA (show(W.alloc gW).heap[W.heap.size]?=some (eL 0 0 aQ)from nH W gW);have AT:=aA (yD S0.out p hp hB);have ok:PgOk (dH x t p):=rL s.pl.bd.mp _;have hn256:fY x t p<256:=by
  unfold fY;have hc8:(dH x t p).cl.toNat<8:=by have:=ok.c7;have:=ok.c0;omega
  have hz:=eH hc8;exact Nat.div_lt_of_lt_mul (Nat.lt_of_lt_of_le (Nat.mod_lt _ (by decide)) (show 4096<=aH (dH x t p).cl.toNat*256 by omega))
 obtain⟨g,hg⟩:=xe (bF x p/4096);obtain⟨n,hn⟩:=xe (fY x t p);obtain⟨q,hq⟩:=xe (dH x t p);rw[<-hg,<-hn,<-hq] at AT ⊢;rw[<-hn] at hn256;rw[<-hq] at ok;clear hg hn hq s hB;obtain⟨k,hk⟩:=xe (n/64);obtain⟨r,hr⟩:=xe (n%64);have hk4:k<4:=by omega
 have hki:(n:Int)/64=(k:Int):=by omega
 have hri:(n:Int).tmod 64=(r:Int):=by rw[Int.tmod_eq_emod_of_nonneg (by omega)];omega
 have hr64:r<64:=by omega
 obtain⟨v,hv⟩:=xe (wP q k);have hvb:v<18446744073709551616:=by rw[hv];exact JU ok k hk4
 have E:=qC v r hvb;have hl:aJ q n=(v/2 ^ r%2 == 1):=by unfold aJ;rw[<-hk,<-hr,<-hv]
 have HL:=aA hl;have HV:=aA hv;obtain⟨lit,hlit⟩:=xe (aJ q n);rw[<-hlit];have HLIT:=aA hlit;clear hl hv hlit hk hr ok;go_enter func151,ntmps151;go_upto_region 1 with fail;obtain⟨y,hy⟩:=xe (W.heap.size);have HY:=aA (show W.heap.size<=y from Nat.le_of_eq hy.symm);rw[<-hy] at X0;rw[<-hy];clear hy;generalize W.alloc gW=W0 at *;go_wp2_with fail;refine AT.out.mono ?_;rintro e w1 ⟨rfl,hk1⟩;have K1:=aA (hk1.alloc (eL (g:Int) (n:Int) q));have X1:=aA (nH w1 (eL (g:Int) (n:Int) q));have Y1:=aA ((K1.out.block _ (lH X0.out) id).trans X0.out);have KW:=aA (nT K0.out K1.out);have HYU:=aA (show y<w1.heap.size from Nat.lt_of_lt_of_le (lH X0.out) hk1.size);clear hk1 AT;go_upto_region 2 with fail;generalize w1.heap.size=u at *;generalize w1.alloc (eL (g:Int) (n:Int) q)=W1 at *;obtain⟨a0,a1,a2,a3,a4,a5,a6,a7,a8,a9,a10,a11,a12⟩:=dN X1.out;have ab:=JV X1.out k hk4;rw[<-HV.out] at ab;obtain⟨x0,x1,x2,x3,x4,x5,x6,x7,x8,x9,x10,x11,x12⟩:=dN Y1.out;have xf:=kP Y1.out;have hyu:¬y=u:=by have:=HYU.out;omega
 have huy:¬u=y:=by have:=HYU.out;omega
 go_wp2_with fail;go_region
 all_goals
  have HYY:=aA (show y<W.heap.size->nO y from fun e=>absurd e (Nat.not_lt.2 HY.out));have X8:=aA (wC (W:=W1) (y:=y) Y1.out (v0:=.int .i64 g) (v1:=.int .i64 n) (v2:=.int .i64 q.kd) (v3:=.int .i64 q.od) (v4:=.int .i64 q.cl) (v5:=.int .i64 q.lv) (v6:=.int .i64 q.nx) (v7:=.int .i64 q.pv) (v8:=.int .i64 q.fs) (v9:=.int .u64 q.b0) (v10:=.int .u64 q.b1) (v11:=.int .u64 q.b2) (v12:=.int .u64 q.b3));have K8:=aA (((((((((((((KW.out.setNew (p:=⟨y,0,none⟩) HYY.out (.int .i64 g)).setNew (p:=⟨y,1,none⟩) HYY.out (.int .i64 n)).setNew (p:=⟨y,2,none⟩) HYY.out (.int .i64 q.kd)).setNew (p:=⟨y,3,none⟩) HYY.out (.int .i64 q.od)).setNew (p:=⟨y,4,none⟩) HYY.out (.int .i64 q.cl)).setNew (p:=⟨y,5,none⟩) HYY.out (.int .i64 q.lv)).setNew (p:=⟨y,6,none⟩) HYY.out (.int .i64 q.nx)).setNew (p:=⟨y,7,none⟩) HYY.out (.int .i64 q.pv)).setNew (p:=⟨y,8,none⟩) HYY.out (.int .i64 q.fs)).setNew (p:=⟨y,9,none⟩) HYY.out (.int .u64 q.b0)).setNew (p:=⟨y,10,none⟩) HYY.out (.int .u64 q.b1)).setNew (p:=⟨y,11,none⟩) HYY.out (.int .u64 q.b2)).setNew (p:=⟨y,12,none⟩) HYY.out (.int .u64 q.b3));generalize (((((((((((((W1.setCell ⟨y,0,none⟩ (.int .i64 g)).setCell ⟨y,1,none⟩ (.int .i64 n)).setCell ⟨y,2,none⟩ (.int .i64 q.kd)).setCell ⟨y,3,none⟩ (.int .i64 q.od)).setCell ⟨y,4,none⟩ (.int .i64 q.cl)).setCell ⟨y,5,none⟩ (.int .i64 q.lv)).setCell ⟨y,6,none⟩ (.int .i64 q.nx)).setCell ⟨y,7,none⟩ (.int .i64 q.pv)).setCell ⟨y,8,none⟩ (.int .i64 q.fs)).setCell ⟨y,9,none⟩ (.int .u64 q.b0)).setCell ⟨y,10,none⟩ (.int .u64 q.b1)).setCell ⟨y,11,none⟩ (.int .u64 q.b2)).setCell ⟨y,12,none⟩ (.int .u64 q.b3))=W8 at *;have K9:=aA (show Kt nO W W8.drew from K8.out.drew);have X9:=aA (show W8.drew.heap[y]?=some (eL (g:Int) (n:Int) q)from X8.out);generalize W8.drew=W9 at *;clear a0 a1 a2 a3 a4 a5 a6 a7 a8 a9 a10 a11 a12 x0 x1 x2 x3 x4 x5 x6 x7 x8 x9 x10 x11 x12;obtain⟨x0,x1,x2,x3,x4,x5,x6,x7,x8,x9,x10,x11,x12⟩:=dN X9.out;rw[show(v/2 ^ r%2 == 1)=lit by rw[HLIT.out,HL.out]];go_wp2_with fail;exact⟨rfl,_,by simp[results,results151,go_sem,x0,x1,x2,x3,x4,x5,x6,x7,x8,x9,x10,x11,x12],rfl,K9.out⟩
theorem TG{w W sb lw x t h}(s:SW w W sb lw x t h)(p:Nat)(hp:p<18446744073709551616)(hB:jH x t p=false):
  Calls prog 151 #[.pointer (some ⟨sb,0,none⟩),.int .u64 p] W fun e w'=>e=.returned (.tuple #[oY 0 0 aQ,.bool false])/\Kt nO W w':=by
 have K0:=aA ((Kt.refl nO W).alloc gW);have S0:=aA (s.keep K0.out);have X0:=aA (show(W.alloc gW).heap[W.heap.size]?=some (eL 0 0 aQ)from nH W gW);have AT:=aA (JG S0.out p hp hB);clear s hB;go_enter func151,ntmps151;go_upto_region 1 with fail;obtain⟨y,hy⟩:=xe (W.heap.size);have HY:=aA (show W.heap.size<=y from Nat.le_of_eq hy.symm);rw[<-hy] at X0;rw[<-hy];clear hy;generalize W.alloc gW=W0 at *;go_wp2_with fail;refine AT.out.mono ?_;rintro e w1 ⟨rfl,hk1⟩;have K1:=aA (hk1.alloc (eL 0 0 aQ));have X1:=aA (nH w1 (eL 0 0 aQ));have Y1:=aA ((K1.out.block _ (lH X0.out) id).trans X0.out);have KW:=aA (nT K0.out K1.out);have HYU:=aA (show y<w1.heap.size from Nat.lt_of_lt_of_le (lH X0.out) hk1.size);clear hk1 AT;go_upto_region 2 with fail;generalize w1.heap.size=u at *;generalize w1.alloc (eL 0 0 aQ)=W1 at *;obtain⟨a0,a1,a2,a3,a4,a5,a6,a7,a8,a9,a10,a11,a12⟩:=dN X1.out;obtain⟨x0,x1,x2,x3,x4,x5,x6,x7,x8,x9,x10,x11,x12⟩:=dN Y1.out;have xf:=kP Y1.out;have hyu:¬y=u:=by have:=HYU.out;omega
 have huy:¬u=y:=by have:=HYU.out;omega
 go_wp2_with fail;go_region
 all_goals
  have HYY:=aA (show y<W.heap.size->nO y from fun e=>absurd e (Nat.not_lt.2 HY.out));have X8:=aA (wC (W:=W1) (y:=y) Y1.out (v0:=.int .i64 0) (v1:=.int .i64 0) (v2:=.int .i64 aQ.kd) (v3:=.int .i64 aQ.od) (v4:=.int .i64 aQ.cl) (v5:=.int .i64 aQ.lv) (v6:=.int .i64 aQ.nx) (v7:=.int .i64 aQ.pv) (v8:=.int .i64 aQ.fs) (v9:=.int .u64 aQ.b0) (v10:=.int .u64 aQ.b1) (v11:=.int .u64 aQ.b2) (v12:=.int .u64 aQ.b3));have K8:=aA (((((((((((((KW.out.setNew (p:=⟨y,0,none⟩) HYY.out (.int .i64 0)).setNew (p:=⟨y,1,none⟩) HYY.out (.int .i64 0)).setNew (p:=⟨y,2,none⟩) HYY.out (.int .i64 aQ.kd)).setNew (p:=⟨y,3,none⟩) HYY.out (.int .i64 aQ.od)).setNew (p:=⟨y,4,none⟩) HYY.out (.int .i64 aQ.cl)).setNew (p:=⟨y,5,none⟩) HYY.out (.int .i64 aQ.lv)).setNew (p:=⟨y,6,none⟩) HYY.out (.int .i64 aQ.nx)).setNew (p:=⟨y,7,none⟩) HYY.out (.int .i64 aQ.pv)).setNew (p:=⟨y,8,none⟩) HYY.out (.int .i64 aQ.fs)).setNew (p:=⟨y,9,none⟩) HYY.out (.int .u64 aQ.b0)).setNew (p:=⟨y,10,none⟩) HYY.out (.int .u64 aQ.b1)).setNew (p:=⟨y,11,none⟩) HYY.out (.int .u64 aQ.b2)).setNew (p:=⟨y,12,none⟩) HYY.out (.int .u64 aQ.b3));generalize (((((((((((((W1.setCell ⟨y,0,none⟩ (.int .i64 0)).setCell ⟨y,1,none⟩ (.int .i64 0)).setCell ⟨y,2,none⟩ (.int .i64 aQ.kd)).setCell ⟨y,3,none⟩ (.int .i64 aQ.od)).setCell ⟨y,4,none⟩ (.int .i64 aQ.cl)).setCell ⟨y,5,none⟩ (.int .i64 aQ.lv)).setCell ⟨y,6,none⟩ (.int .i64 aQ.nx)).setCell ⟨y,7,none⟩ (.int .i64 aQ.pv)).setCell ⟨y,8,none⟩ (.int .i64 aQ.fs)).setCell ⟨y,9,none⟩ (.int .u64 aQ.b0)).setCell ⟨y,10,none⟩ (.int .u64 aQ.b1)).setCell ⟨y,11,none⟩ (.int .u64 aQ.b2)).setCell ⟨y,12,none⟩ (.int .u64 aQ.b3))=W8 at *;have K9:=aA (show Kt nO W W8.drew from K8.out.drew);have X9:=aA (show W8.drew.heap[y]?=some (eL 0 0 aQ)from X8.out);generalize W8.drew=W9 at *;clear a0 a1 a2 a3 a4 a5 a6 a7 a8 a9 a10 a11 a12 x0 x1 x2 x3 x4 x5 x6 x7 x8 x9 x10 x11 x12;obtain⟨x0,x1,x2,x3,x4,x5,x6,x7,x8,x9,x10,x11,x12⟩:=dN X9.out;go_wp2_with fail;exact⟨rfl,_,by simp[results,results151,go_sem,x0,x1,x2,x3,x4,x5,x6,x7,x8,x9,x10,x11,x12],rfl,K9.out⟩
end Go.Proofs.YtkfmheelhinjdaaGreatDoor
