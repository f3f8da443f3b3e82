import Derived.Test.YtkfmheelhinjdaaGreatDoorXk
set_option maxRecDepth 1000000
set_option maxHeartbeats 80000000
namespace Go.Proofs.YtkfmheelhinjdaaGreatDoor
open _root_.Go.Proofs.Tryz
open Go.RowKit
set_option linter.unusedVariables false
abbrev nY(p n:Int)(q:Pg):Value:=.agg #[.int .i64 p,.int .i64 n,.int .i64 q.kd,.int .i64 q.od,.int .i64 q.cl,.int .i64 q.lv,.int .i64 q.nx,.int .i64 q.pv,.int .i64 q.fs,.int .u64 q.b0,.int .u64 q.b1,.int .u64 q.b2,.int .u64 q.b3]
abbrev dZ(p n:Int)(q:Pg):Obj:=.cells #[.int .i64 p,.int .i64 n,.int .i64 q.kd,.int .i64 q.od,.int .i64 q.cl,.int .i64 q.lv,.int .i64 q.nx,.int .i64 q.pv,.int .i64 q.fs,.int .u64 q.b0,.int .u64 q.b1,.int .u64 q.b2,.int .u64 q.b3] 204
abbrev gJ:Obj:=.cells #[.int .i64 0,.int .i64 0,.int .i64 0,.int .i64 0,.int .i64 0,.int .i64 0,.int .i64 0,.int .i64 0,.int .i64 0,.int .u64 0,.int .u64 0,.int .u64 0,.int .u64 0] 204
theorem uN{W:World}{y:Nat}{ty:TypeId}{u0 u1 u2 u3 u4 u5 u6 u7 u8 u9 u10 u11 u12 v0 v1 v2 v3 v4 v5 v6 v7 v8 v9 v10 v11 v12:Value}(h:W.heap[y]?=some (.cells #[u0,u1,u2,u3,u4,u5,u6,u7,u8,u9,u10,u11,u12] ty)):(((((((((((((W.setCell ⟨y,0,none⟩ v0).setCell ⟨y,1,none⟩ v1).setCell ⟨y,2,none⟩ v2).setCell ⟨y,3,none⟩ v3).setCell ⟨y,4,none⟩ v4).setCell ⟨y,5,none⟩ v5).setCell ⟨y,6,none⟩ v6).setCell ⟨y,7,none⟩ v7).setCell ⟨y,8,none⟩ v8).setCell ⟨y,9,none⟩ v9).setCell ⟨y,10,none⟩ v10).setCell ⟨y,11,none⟩ v11).setCell ⟨y,12,none⟩ v12).heap[y]?=some (.cells #[v0,v1,v2,v3,v4,v5,v6,v7,v8,v9,v10,v11,v12] ty):=by
 have:=(heap_set (heap_set (heap_set (heap_set (heap_set (heap_set (heap_set (heap_set (heap_set (heap_set (heap_set (heap_set (heap_set h 0 v0) 1 v1) 2 v2) 3 v3) 4 v4) 5 v5) 6 v6) 7 v7) 8 v8) 9 v9) 10 v10) 11 v11) 12 v12);simpa using this
abbrev uY(w:World)(y:Nat)(p n:Int)(q:Pg):World:=(((((((((((((w.setCell ⟨y,0,none⟩ (.int .i64 p)).setCell ⟨y,1,none⟩ (.int .i64 n)).setCell ⟨y,2,none⟩ (.int .i64 q.kd)).setCell ⟨y,3,none⟩ (.int .i64 q.od)).setCell ⟨y,4,none⟩ (.int .i64 q.cl)).setCell ⟨y,5,none⟩ (.int .i64 q.lv)).setCell ⟨y,6,none⟩ (.int .i64 q.nx)).setCell ⟨y,7,none⟩ (.int .i64 q.pv)).setCell ⟨y,8,none⟩ (.int .i64 q.fs)).setCell ⟨y,9,none⟩ (.int .u64 q.b0)).setCell ⟨y,10,none⟩ (.int .u64 q.b1)).setCell ⟨y,11,none⟩ (.int .u64 q.b2)).setCell ⟨y,12,none⟩ (.int .u64 q.b3))
theorem AB{S:Nat->Prop}{a w:World}(h:Kt S a w){y:Nat}(hy:y<a.heap.size->S y)(p n:Int)(q:Pg):Kt S a (uY w y p n q):=(((((((((((((h.setNew (p:=⟨y,0,none⟩) hy _).setNew (p:=⟨y,1,none⟩) hy _).setNew (p:=⟨y,2,none⟩) hy _).setNew (p:=⟨y,3,none⟩) hy _).setNew (p:=⟨y,4,none⟩) hy _).setNew (p:=⟨y,5,none⟩) hy _).setNew (p:=⟨y,6,none⟩) hy _).setNew (p:=⟨y,7,none⟩) hy _).setNew (p:=⟨y,8,none⟩) hy _).setNew (p:=⟨y,9,none⟩) hy _).setNew (p:=⟨y,10,none⟩) hy _).setNew (p:=⟨y,11,none⟩) hy _).setNew (p:=⟨y,12,none⟩) hy _)
theorem dJ{W:World}{y:Nat}{p n:Int}{q:Pg}(h:W.heap[y]?=some (dZ p n q)):W.cell? ⟨y,0,none⟩=some (.int .i64 p)/\W.cell? ⟨y,1,none⟩=some (.int .i64 n)/\W.cell? ⟨y,2,none⟩=some (.int .i64 q.kd)/\W.cell? ⟨y,3,none⟩=some (.int .i64 q.od)/\W.cell? ⟨y,4,none⟩=some (.int .i64 q.cl)/\W.cell? ⟨y,5,none⟩=some (.int .i64 q.lv)/\W.cell? ⟨y,6,none⟩=some (.int .i64 q.nx)/\W.cell? ⟨y,7,none⟩=some (.int .i64 q.pv)/\W.cell? ⟨y,8,none⟩=some (.int .i64 q.fs)/\W.cell? ⟨y,9,none⟩=some (.int .u64 q.b0)/\W.cell? ⟨y,10,none⟩=some (.int .u64 q.b1)/\W.cell? ⟨y,11,none⟩=some (.int .u64 q.b2)/\W.cell? ⟨y,12,none⟩=some (.int .u64 q.b3):=by
 refine⟨?_,?_,?_,?_,?_,?_,?_,?_,?_,?_,?_,?_,?_⟩ <;> simp[World.cell?,h]
theorem jS{W:World}{y:Nat}{p n:Int}{q:Pg}(h:W.heap[y]?=some (dZ p n q))(j:Nat):W.frozen? ⟨y,j,none⟩=false:=by simp[World.frozen?,h]
theorem qN{w b B m}(h:MpA w b B m)(i:Int):PgOk (cH m i):=by
 unfold cH;split
 ·rename_i hi;obtain⟨k,rfl,hk⟩:=gH hi;exact h.ok k hk
 ·exact PgOk.zero
def dA(x:Bx)(t:Bt)(p:Nat):Pg:=cH t.m ((bF x p/4096:Nat):Int)
def fQ(x:Bx)(t:Bt)(p:Nat):Nat:=bF x p%4096/aE (dA x t p).cl.toNat
def iT(x:Bx)(t:Bt)(p:Nat):Bool:=decide ((dA x t p).kd=4) && decide (bF x p%4096%aE (dA x t p).cl.toNat=0)
theorem wS{w W sb lw x t h}(s:SW w W sb lw x t h)(p:Nat)(hp:p<18446744073709551616)(hB:iT x t p=true):
  Calls prog 192 #[.pointer (some ⟨sb,0,none⟩),.int .u64 p] W fun e w'=>e=.returned (.tuple #[nY ((bF x p/4096:Nat):Int) ((fQ x t p:Nat):Int) (dA x t p),.bool true])/\Kt nO W w':=by
 have K0:=aA ((Kt.refl nO W).alloc gJ);have S0:=aA (s.keep K0.out);have X0:=aA (show(W.alloc gJ).heap[W.heap.size]?=some (dZ 0 0 aR)from nH W gJ);have PG:=aA (sM S0.out p hp);obtain⟨d,hd⟩:=xe (bF x p);obtain⟨g,hg⟩:=xe (d/4096);obtain⟨f,hf⟩:=xe (d%4096);obtain⟨q,hq⟩:=xe (dA x t p);have ok:PgOk q:=by rw[hq];exact qN s.pl.bd.mp _
 obtain⟨c,hc⟩:=Int.eq_ofNat_of_zero_le ok.c0;have hc8:c<8:=by have:=ok.c7;omega
 have hcn:(dA x t p).cl.toNat=c:=by rw[<-hq,hc];rfl
 have hbb:x.bS<18446744073709551616:=by have:=s.pl.bd.sp.cfg.be;omega
 have hw:=uK p x.bS hp hbb;rw[show(p+18446744073709551616-x.bS)%18446744073709551616=d from hd.symm] at hw;have hdb:d<18446744073709551616:=by rw[hd];exact Nat.mod_lt _ (by decide)
 have hdi:(d:Int)%4096=(f:Int):=by omega
 have hfb:f<4096:=by omega
 have hgb:g<4503599627370496:=by omega
 rw[<-hd,<-hg] at PG;obtain⟨r,hr⟩:=xe (aC t.m.n (g:Int));have HA:=aA (show ∀ W',MpA W' x.m x.B t.m->Calls prog 72 #[.pointer (some ⟨x.m,0,none⟩),.int .i64 g] W' fun e w'=>e=.returned (.tuple #[cC q,.bool r])/\Kt nO W' w' from fun W' hW=>by
  rw[hr,show q=cH t.m (g:Int)by rw[hq,hg,hd];rfl];exact iZ x.m x.B t.m (g:Int) W' hW)
 obtain⟨z,hz⟩:=xe (16*2 ^ c);have hzb:=dU hc8;unfold aE at hzb;rw[<-hz] at hzb;have hz0:¬(z:Int)=0:=by omega
 have hz1:((z:Int) == 0)=false:=by rw[beq_eq_false_iff_ne];exact hz0
 have hci:(c:Int)<8:=by omega
 unfold iT at hB;rw[hcn,<-hq,<-hd,<-hf,show aE c=z from hz.symm] at hB;rw[show bF x p/4096=g by rw[hg,hd],show fQ x t p=f/z by unfold fQ;rw[hcn,<-hd,<-hf,hz];rfl,<-hq];obtain⟨n,hn⟩:=xe (f/z);have hni:(f:Int)/(z:Int)=n:=by rw[hn];rfl
 have hnb:n<=4096:=by rw[hn];exact Nat.le_trans (Nat.div_le_self _ _) (by omega)
 rw[<-hn];rw[Bool.and_eq_true,decide_eq_true_iff,decide_eq_true_iff] at hB;obtain⟨hB1,hB2⟩:=hB;have HB1:=aA (show(q.kd != 4)=false from by rw[hB1];rfl);have hm0:(f:Int)%(z:Int)=0:=by rw[<-Int.natCast_emod,hB2];rfl
 have HC:=aA hc;clear hc;have HT:=aA s.tab;have TB:=aA (show ∀ W',Kt nO W W'->W'.cell? ⟨0,c,none⟩=some (.int .u64 z)from fun W' k=>by rw[hz];exact k.cell id (HT.out c hc8));clear s hd hg hf hq hr hz hcn hbb ok hn hB1 hB2 hp;obtain⟨c0,c1⟩:=S0.out.c0;go_enter func192,ntmps192;go_upto_region 1 with fail;obtain⟨y,hy⟩:=xe (W.heap.size);have HY:=aA (show W.heap.size<=y from Nat.le_of_eq hy.symm);rw[<-hy] at X0;rw[<-hy];clear hy;generalize W.alloc gJ=W0 at *;go_wp2_with fail;refine PG.out.mono ?_;rintro e w1 ⟨rfl,h1⟩;replace h1:=h1.symm;subst h1;have MP:=aA (bY S0.out.pl);go_wp2_with fail;refine MP.out.mono ?_;rintro e w2 ⟨rfl,h2⟩;replace h2:=h2.symm;subst h2;go_wp2_with fail;refine(HA.out _ S0.out.pl.bd.mp).mono ?_;rintro e w3 ⟨rfl,hk⟩;have K3:=aA (hk.alloc (aI q));have X3:=aA (nH w3 (aI q));have S3:=aA (S0.out.keep K3.out);have Y3:=aA ((K3.out.block _ (lH X0.out) id).trans X0.out);have KW:=aA (nT K0.out K3.out);have ct:=TB.out _ KW.out;clear hk c0 c1;go_upto_region 3 with fail;generalize w3.heap.size=u at *;generalize w3.alloc (aI q)=W3 at *;obtain⟨c0,c1⟩:=S3.out.c0;have hb1:=HB1.out;obtain⟨p0,p1,p2,p3,p4,p5,p6,p7,p8,p9,p10⟩:=fG X3.out;rw[HC.out] at p2;obtain⟨x0,x1,x2,x3,x4,x5,x6,x7,x8,x9,x10,x11,x12⟩:=dJ Y3.out;have xf:=jS Y3.out;go_wp2_with fail;go_region
 all_goals
  have HYY:=aA (show y<W.heap.size->nO y from fun e=>absurd e (Nat.not_lt.2 HY.out));have X8:=aA (uN (W:=W3) (y:=y) Y3.out (v0:=.int .i64 g) (v1:=.int .i64 n) (v2:=.int .i64 q.kd) (v3:=.int .i64 q.od) (v4:=.int .i64 c) (v5:=.int .i64 q.lv) (v6:=.int .i64 q.nx) (v7:=.int .i64 q.pv) (v8:=.int .i64 q.fs) (v9:=.int .u64 q.b0) (v10:=.int .u64 q.b1) (v11:=.int .u64 q.b2) (v12:=.int .u64 q.b3));have K8:=aA (((((((((((((KW.out.setNew (p:=⟨y,0,none⟩) HYY.out (.int .i64 g)).setNew (p:=⟨y,1,none⟩) HYY.out (.int .i64 n)).setNew (p:=⟨y,2,none⟩) HYY.out (.int .i64 q.kd)).setNew (p:=⟨y,3,none⟩) HYY.out (.int .i64 q.od)).setNew (p:=⟨y,4,none⟩) HYY.out (.int .i64 c)).setNew (p:=⟨y,5,none⟩) HYY.out (.int .i64 q.lv)).setNew (p:=⟨y,6,none⟩) HYY.out (.int .i64 q.nx)).setNew (p:=⟨y,7,none⟩) HYY.out (.int .i64 q.pv)).setNew (p:=⟨y,8,none⟩) HYY.out (.int .i64 q.fs)).setNew (p:=⟨y,9,none⟩) HYY.out (.int .u64 q.b0)).setNew (p:=⟨y,10,none⟩) HYY.out (.int .u64 q.b1)).setNew (p:=⟨y,11,none⟩) HYY.out (.int .u64 q.b2)).setNew (p:=⟨y,12,none⟩) HYY.out (.int .u64 q.b3));generalize (((((((((((((W3.setCell ⟨y,0,none⟩ (.int .i64 g)).setCell ⟨y,1,none⟩ (.int .i64 n)).setCell ⟨y,2,none⟩ (.int .i64 q.kd)).setCell ⟨y,3,none⟩ (.int .i64 q.od)).setCell ⟨y,4,none⟩ (.int .i64 c)).setCell ⟨y,5,none⟩ (.int .i64 q.lv)).setCell ⟨y,6,none⟩ (.int .i64 q.nx)).setCell ⟨y,7,none⟩ (.int .i64 q.pv)).setCell ⟨y,8,none⟩ (.int .i64 q.fs)).setCell ⟨y,9,none⟩ (.int .u64 q.b0)).setCell ⟨y,10,none⟩ (.int .u64 q.b1)).setCell ⟨y,11,none⟩ (.int .u64 q.b2)).setCell ⟨y,12,none⟩ (.int .u64 q.b3))=W8 at *;have K9:=aA (show Kt nO W W8.drew from K8.out.drew);have X9:=aA (show W8.drew.heap[y]?=some (dZ (g:Int) (n:Int) q)from by
   have:=X8.out;rw[<-HC.out] at this;exact this)
  generalize W8.drew=W9 at *;clear p0 p1 p2 p3 p4 p5 p6 p7 p8 p9 p10 x0 x1 x2 x3 x4 x5 x6 x7 x8 x9 x10 x11 x12;obtain⟨x0,x1,x2,x3,x4,x5,x6,x7,x8,x9,x10,x11,x12⟩:=dJ X9.out;go_wp2_with fail;exact⟨rfl,_,by simp[results,results192,go_sem,x0,x1,x2,x3,x4,x5,x6,x7,x8,x9,x10,x11,x12],rfl,K9.out⟩
theorem ES{w W sb lw x t h}(s:SW w W sb lw x t h)(p:Nat)(hp:p<18446744073709551616)(hB:iT x t p=false):
  Calls prog 192 #[.pointer (some ⟨sb,0,none⟩),.int .u64 p] W fun e w'=>e=.returned (.tuple #[nY 0 0 aR,.bool false])/\Kt nO W w':=by
 have K0:=aA ((Kt.refl nO W).alloc gJ);have S0:=aA (s.keep K0.out);have X0:=aA (show(W.alloc gJ).heap[W.heap.size]?=some (dZ 0 0 aR)from nH W gJ);have PG:=aA (sM S0.out p hp);obtain⟨d,hd⟩:=xe (bF x p);obtain⟨g,hg⟩:=xe (d/4096);obtain⟨f,hf⟩:=xe (d%4096);obtain⟨q,hq⟩:=xe (dA x t p);have ok:PgOk q:=by rw[hq];exact qN s.pl.bd.mp _
 obtain⟨c,hc⟩:=Int.eq_ofNat_of_zero_le ok.c0;have hc8:c<8:=by have:=ok.c7;omega
 have hcn:(dA x t p).cl.toNat=c:=by rw[<-hq,hc];rfl
 have hbb:x.bS<18446744073709551616:=by have:=s.pl.bd.sp.cfg.be;omega
 have hw:=uK p x.bS hp hbb;rw[show(p+18446744073709551616-x.bS)%18446744073709551616=d from hd.symm] at hw;have hdb:d<18446744073709551616:=by rw[hd];exact Nat.mod_lt _ (by decide)
 have hdi:(d:Int)%4096=(f:Int):=by omega
 have hfb:f<4096:=by omega
 have hgb:g<4503599627370496:=by omega
 rw[<-hd,<-hg] at PG;obtain⟨r,hr⟩:=xe (aC t.m.n (g:Int));have HA:=aA (show ∀ W',MpA W' x.m x.B t.m->Calls prog 72 #[.pointer (some ⟨x.m,0,none⟩),.int .i64 g] W' fun e w'=>e=.returned (.tuple #[cC q,.bool r])/\Kt nO W' w' from fun W' hW=>by
  rw[hr,show q=cH t.m (g:Int)by rw[hq,hg,hd];rfl];exact iZ x.m x.B t.m (g:Int) W' hW)
 obtain⟨z,hz⟩:=xe (16*2 ^ c);have hzb:=dU hc8;unfold aE at hzb;rw[<-hz] at hzb;have hz0:¬(z:Int)=0:=by omega
 have hz1:((z:Int) == 0)=false:=by rw[beq_eq_false_iff_ne];exact hz0
 have hci:(c:Int)<8:=by omega
 unfold iT at hB;rw[hcn,<-hq,<-hd,<-hf,show aE c=z from hz.symm] at hB;have hBB:q.kd≠4\/(q.kd=4/\f%z≠0):=by
  by_cases e:q.kd=4
  ·right
   refine⟨e,fun e2=>?_⟩;rw[decide_eq_true e,decide_eq_true e2] at hB
   cases hB
  ·exact .inl e
 have HC:=aA hc;clear hc;have HT:=aA s.tab;have TB:=aA (show ∀ W',Kt nO W W'->W'.cell? ⟨0,c,none⟩=some (.int .u64 z)from fun W' k=>by rw[hz];exact k.cell id (HT.out c hc8));clear s hd hg hf hq hr hz hcn hbb ok hB hp;obtain⟨c0,c1⟩:=S0.out.c0;go_enter func192,ntmps192;go_upto_region 1 with fail;obtain⟨y,hy⟩:=xe (W.heap.size);have HY:=aA (show W.heap.size<=y from Nat.le_of_eq hy.symm);rw[<-hy] at X0;rw[<-hy];clear hy;generalize W.alloc gJ=W0 at *;have zz:aR.kd=0:=rfl;rcases hBB with hB1|⟨hB1,hB2⟩
 ·have HB1:=aA (show(q.kd != 4)=true from bne_iff_ne.2 hB1);clear hB1;go_wp2_with fail;refine PG.out.mono ?_;rintro e w1 ⟨rfl,h1⟩;replace h1:=h1.symm;subst h1;have MP:=aA (bY S0.out.pl);go_wp2_with fail;refine MP.out.mono ?_;rintro e w2 ⟨rfl,h2⟩;replace h2:=h2.symm;subst h2;go_wp2_with fail;refine(HA.out _ S0.out.pl.bd.mp).mono ?_;rintro e w3 ⟨rfl,hk⟩;have K3:=aA (hk.alloc (aI q));have X3:=aA (nH w3 (aI q));have S3:=aA (S0.out.keep K3.out);have Y3:=aA ((K3.out.block _ (lH X0.out) id).trans X0.out);have KW:=aA (nT K0.out K3.out);have ct:=TB.out _ KW.out;clear hk c0 c1;go_upto_region 3 with fail;generalize w3.heap.size=u at *;generalize w3.alloc (aI q)=W3 at *;obtain⟨c0,c1⟩:=S3.out.c0;have hb1:=HB1.out;obtain⟨p0,p1,p2,p3,p4,p5,p6,p7,p8,p9,p10⟩:=fG X3.out;rw[HC.out] at p2;obtain⟨x0,x1,x2,x3,x4,x5,x6,x7,x8,x9,x10,x11,x12⟩:=dJ Y3.out;have xf:=jS Y3.out;go_wp2_with fail;exact⟨rfl,_,by simp[results,results192,go_sem,aR,x0,x1,x2,x3,x4,x5,x6,x7,x8,x9,x10,x11,x12],rfl,AB (p:=0) (n:=0) (q:=aR) KW.out (fun e=>absurd e (Nat.not_lt.2 HY.out))⟩
 ·have HB1:=aA (show(q.kd != 4)=false from by rw[hB1];rfl);clear hB1;have hm0:¬(f:Int)%(z:Int)=0:=by
   rw[<-Int.natCast_emod];omega
  have hm1:((f:Int)%(z:Int) != 0)=true:=bne_iff_ne.2 hm0;go_wp2_with fail;refine PG.out.mono ?_;rintro e w1 ⟨rfl,h1⟩;replace h1:=h1.symm;subst h1;have MP:=aA (bY S0.out.pl);go_wp2_with fail;refine MP.out.mono ?_;rintro e w2 ⟨rfl,h2⟩;replace h2:=h2.symm;subst h2;go_wp2_with fail;refine(HA.out _ S0.out.pl.bd.mp).mono ?_;rintro e w3 ⟨rfl,hk⟩;have K3:=aA (hk.alloc (aI q));have X3:=aA (nH w3 (aI q));have S3:=aA (S0.out.keep K3.out);have Y3:=aA ((K3.out.block _ (lH X0.out) id).trans X0.out);have KW:=aA (nT K0.out K3.out);have ct:=TB.out _ KW.out;clear hk c0 c1;go_upto_region 3 with fail;generalize w3.heap.size=u at *;generalize w3.alloc (aI q)=W3 at *;obtain⟨c0,c1⟩:=S3.out.c0;have hb1:=HB1.out;obtain⟨p0,p1,p2,p3,p4,p5,p6,p7,p8,p9,p10⟩:=fG X3.out;rw[HC.out] at p2;obtain⟨x0,x1,x2,x3,x4,x5,x6,x7,x8,x9,x10,x11,x12⟩:=dJ Y3.out;have xf:=jS Y3.out;go_wp2_with fail;exact⟨rfl,_,by simp[results,results192,go_sem,aR,x0,x1,x2,x3,x4,x5,x6,x7,x8,x9,x10,x11,x12],rfl,AB (p:=0) (n:=0) (q:=aR) KW.out (fun e=>absurd e (Nat.not_lt.2 HY.out))⟩
end Go.Proofs.YtkfmheelhinjdaaGreatDoor
