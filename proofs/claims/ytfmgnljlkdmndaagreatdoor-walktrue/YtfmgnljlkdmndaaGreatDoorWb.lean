import Derived.Test.YtfmgnljlkdmndaaGreatDoorXm
set_option maxRecDepth 1000000
set_option maxHeartbeats 80000000
namespace Go.Proofs.YtfmgnljlkdmndaaGreatDoor
open Tryz
open Go.RowKit
set_option linter.unusedVariables false
abbrev kZ(p n:Int)(q:Pg):Value:=.agg #[.int .i64 p,.int .i64 n,.int .i64 q.kd,.int .i64 q.od,.int .i64 q.cl,.int .i64 q.lv,.int .i64 q.nx,.int .i64 q.pv,.int .i64 q.fs,.int .u64 q.b0,.int .u64 q.b1,.int .u64 q.b2,.int .u64 q.b3]
abbrev dS(p n:Int)(q:Pg):Obj:=.cells #[.int .i64 p,.int .i64 n,.int .i64 q.kd,.int .i64 q.od,.int .i64 q.cl,.int .i64 q.lv,.int .i64 q.nx,.int .i64 q.pv,.int .i64 q.fs,.int .u64 q.b0,.int .u64 q.b1,.int .u64 q.b2,.int .u64 q.b3] 193
abbrev iH:Obj:=.cells #[.int .i64 0,.int .i64 0,.int .i64 0,.int .i64 0,.int .i64 0,.int .i64 0,.int .i64 0,.int .i64 0,.int .i64 0,.int .u64 0,.int .u64 0,.int .u64 0,.int .u64 0] 193
theorem xB{W:World}{y:Nat}{a:TypeId}{u0 u1 u2 u3 u4 u5 u6 u7 u8 u9 u10 u11 u12 v0 v1 v2 v3 v4 v5 v6 v7 v8 v9 v10 v11 v12:Value}(h:W.heap[y]?=some (.cells #[u0,u1,u2,u3,u4,u5,u6,u7,u8,u9,u10,u11,u12] a)):(((((((((((((W.setCell ⟨y,0,none⟩ v0).setCell ⟨y,1,none⟩ v1).setCell ⟨y,2,none⟩ v2).setCell ⟨y,3,none⟩ v3).setCell ⟨y,4,none⟩ v4).setCell ⟨y,5,none⟩ v5).setCell ⟨y,6,none⟩ v6).setCell ⟨y,7,none⟩ v7).setCell ⟨y,8,none⟩ v8).setCell ⟨y,9,none⟩ v9).setCell ⟨y,10,none⟩ v10).setCell ⟨y,11,none⟩ v11).setCell ⟨y,12,none⟩ v12).heap[y]?=some (.cells #[v0,v1,v2,v3,v4,v5,v6,v7,v8,v9,v10,v11,v12] a):=by have:=(cF (cF (cF (cF (cF (cF (cF (cF (cF (cF (cF (cF (cF h 0 v0) 1 v1) 2 v2) 3 v3) 4 v4) 5 v5) 6 v6) 7 v7) 8 v8) 9 v9) 10 v10) 11 v11) 12 v12);simpa using this
abbrev yI(w:World)(y:Nat)(p n:Int)(q:Pg):World:=(((((((((((((w.setCell ⟨y,0,none⟩ (.int .i64 p)).setCell ⟨y,1,none⟩ (.int .i64 n)).setCell ⟨y,2,none⟩ (.int .i64 q.kd)).setCell ⟨y,3,none⟩ (.int .i64 q.od)).setCell ⟨y,4,none⟩ (.int .i64 q.cl)).setCell ⟨y,5,none⟩ (.int .i64 q.lv)).setCell ⟨y,6,none⟩ (.int .i64 q.nx)).setCell ⟨y,7,none⟩ (.int .i64 q.pv)).setCell ⟨y,8,none⟩ (.int .i64 q.fs)).setCell ⟨y,9,none⟩ (.int .u64 q.b0)).setCell ⟨y,10,none⟩ (.int .u64 q.b1)).setCell ⟨y,11,none⟩ (.int .u64 q.b2)).setCell ⟨y,12,none⟩ (.int .u64 q.b3))
theorem IZ{S:Nat->Prop}{a w:World}(h:Kt S a w){y:Nat}(hy:y<a.heap.size->S y)(p n:Int)(q:Pg):Kt S a (yI w y p n q):=(((((((((((((h.setNew (p:=⟨y,0,none⟩) hy _).setNew (p:=⟨y,1,none⟩) hy _).setNew (p:=⟨y,2,none⟩) hy _).setNew (p:=⟨y,3,none⟩) hy _).setNew (p:=⟨y,4,none⟩) hy _).setNew (p:=⟨y,5,none⟩) hy _).setNew (p:=⟨y,6,none⟩) hy _).setNew (p:=⟨y,7,none⟩) hy _).setNew (p:=⟨y,8,none⟩) hy _).setNew (p:=⟨y,9,none⟩) hy _).setNew (p:=⟨y,10,none⟩) hy _).setNew (p:=⟨y,11,none⟩) hy _).setNew (p:=⟨y,12,none⟩) hy _)
theorem cR{W:World}{y:Nat}{p n:Int}{q:Pg}(h:W.heap[y]?=some (dS p n q)):W.cell? ⟨y,0,none⟩=some (.int .i64 p)/\W.cell? ⟨y,1,none⟩=some (.int .i64 n)/\W.cell? ⟨y,2,none⟩=some (.int .i64 q.kd)/\W.cell? ⟨y,3,none⟩=some (.int .i64 q.od)/\W.cell? ⟨y,4,none⟩=some (.int .i64 q.cl)/\W.cell? ⟨y,5,none⟩=some (.int .i64 q.lv)/\W.cell? ⟨y,6,none⟩=some (.int .i64 q.nx)/\W.cell? ⟨y,7,none⟩=some (.int .i64 q.pv)/\W.cell? ⟨y,8,none⟩=some (.int .i64 q.fs)/\W.cell? ⟨y,9,none⟩=some (.int .u64 q.b0)/\W.cell? ⟨y,10,none⟩=some (.int .u64 q.b1)/\W.cell? ⟨y,11,none⟩=some (.int .u64 q.b2)/\W.cell? ⟨y,12,none⟩=some (.int .u64 q.b3):=by refine⟨?_,?_,?_,?_,?_,?_,?_,?_,?_,?_,?_,?_,?_⟩ <;> simp[World.cell?,h]
theorem kY{W:World}{y:Nat}{p n:Int}{q:Pg}(h:W.heap[y]?=some (dS p n q))(j:Nat):W.frozen? ⟨y,j,none⟩=false:=by simp[World.frozen?,h]
theorem sI{w b B m}(h:MpA w b B m)(i:Int):PgOk (cM m i):=by
 unfold cM;split
 ·rename_i hi;obtain⟨k,rfl,a⟩:=gR hi;exact h.ok k a
 ·exact PgOk.zero
def dT(x:Bx)(t:Bt)(p:Nat):Pg:=cM t.m ((aJ x p/4096:Nat):Int)
def gK(x:Bx)(t:Bt)(p:Nat):Nat:=aJ x p%4096/aB (dT x t p).cl.toNat
def jL(x:Bx)(t:Bt)(p:Nat):Bool:=decide ((dT x t p).kd=4) && decide (aJ x p%4096%aB (dT x t p).cl.toNat=0)
theorem BQ{w W sb lw x t h}(s:SW w W sb lw x t h)(p:Nat)(hp:p<18446744073709551616)(F:jL x t p=true):
  Calls prog 202 #[.pointer (some ⟨sb,0,none⟩),.int .u64 p] W fun e w'=>e=.returned (.tuple #[kZ ((aJ x p/4096:Nat):Int) ((gK x t p:Nat):Int) (dT x t p),.bool true])/\Kt nO W w':=by
 have K0:=aA ((Kt.refl nO W).alloc iH);have C:=aA (s.keep K0.o);have V:=aA (show(W.alloc iH).heap[W.heap.size]?=some (dS 0 0 aV)from nH W iH);have PG:=aA (vE C.o p hp);obtain⟨d,hd⟩:=xe (aJ x p);obtain⟨g,hg⟩:=xe (d/4096);obtain⟨f,hf⟩:=xe (d%4096);obtain⟨q,hq⟩:=xe (dT x t p);have ok:PgOk q:=by rw[hq];exact sI s.pl.bd.mp _
 obtain⟨c,hc⟩:=au ok.c0;have A:c<8:=by have:=ok.c7;omega
 have l:(dT x t p).cl.toNat=c:=by rw[<-hq,hc];rfl
 have o:x.bS<18446744073709551616:=by have:=s.pl.bd.sp.cfg.be;omega
 have hw:=tQ p x.bS hp o;rw[show(p+18446744073709551616-x.bS)%18446744073709551616=d from hd.symm] at hw;have a1:d<18446744073709551616:=by rw[hd];exact Nat.mod_lt _ (by decide)
 have a6:(d:Int)%4096=(f:Int):=by omega
 have a2:f<4096:=by omega
 have a5:g<4503599627370496:=by omega
 rw[<-hd,<-hg] at PG;obtain⟨r,hr⟩:=xe (aD t.m.n (g:Int));have HA:=aA (show ∀ W',MpA W' x.m x.B t.m->Calls prog 45 #[.pointer (some ⟨x.m,0,none⟩),.int .i64 g] W' fun e w'=>e=.returned (.tuple #[cD q,.bool r])/\Kt nO W' w' from fun W' hW=>by rw[hr,show q=cM t.m (g:Int)by rw[hq,hg,hd];rfl];exact jC x.m x.B t.m (g:Int) W' hW)
 obtain⟨z,hz⟩:=xe (16*2 ^ c);have D:=cN A;unfold aB at D;rw[<-hz] at D;have X:¬(z:Int)=0:=by omega
 have a7:((z:Int) == 0)=false:=by rw[ag];exact X
 have a0:(c:Int)<8:=by omega
 unfold jL at F;rw[l,<-hq,<-hd,<-hf,show aB c=z from hz.symm] at F;rw[show aJ x p/4096=g by rw[hg,hd],show gK x t p=f/z by unfold gK;rw[l,<-hd,<-hf,hz];rfl,<-hq];obtain⟨n,G⟩:=xe (f/z);have a4:(f:Int)/(z:Int)=n:=by rw[G];rfl
 have a9:n<=4096:=by rw[G];exact an (df _ _) (by omega)
 rw[<-G];rw[bu,decide_eq_true_iff,decide_eq_true_iff] at F;obtain⟨E,v⟩:=F;have I:=aA (show(q.kd != 4)=false from by rw[E];rfl);have a3:(f:Int)%(z:Int)=0:=by rw[<-Int.natCast_emod,v];rfl
 have HC:=aA hc;clear hc;have HT:=aA s.tab;have TB:=aA (show ∀ W',Kt nO W W'->W'.cell? ⟨0,c,none⟩=some (.int .u64 z)from fun W' k=>by rw[hz];exact k.cell id (HT.o c A));clear s hd hg hf hq hr hz l o ok G E v hp;obtain⟨c0,c1⟩:=C.o.c0;go_enter func202,ntmps202;go_upto_region 1 with fail;obtain⟨y,hy⟩:=xe (W.heap.size);have HY:=aA (show W.heap.size<=y from Nat.le_of_eq hy.symm);rw[<-hy] at V;rw[<-hy];clear hy;generalize W.alloc iH=W0 at *;go_wp2_with fail;refine PG.o.mono ?_;rintro e w1 ⟨rfl,h1⟩;replace h1:=h1.symm;subst h1;have MP:=aA (bT C.o.pl);go_wp2_with fail;refine MP.o.mono ?_;rintro e w2 ⟨rfl,U⟩;replace U:=U.symm;subst U;go_wp2_with fail;refine(HA.o _ C.o.pl.bd.mp).mono ?_;rintro e P ⟨rfl,hk⟩;have J:=aA (hk.alloc (aN q));have X3:=aA (nH P (aN q));have S3:=aA (C.o.keep J.o);have T:=aA ((J.o.block _ (lH V.o) id).trans V.o);have KW:=aA (nT K0.o J.o);have ct:=TB.o _ KW.o;clear hk c0 c1;go_upto_region 3 with fail;generalize P.heap.size=u at *;generalize P.alloc (aN q)=W3 at *;obtain⟨c0,c1⟩:=S3.o.c0;have a8:=I.o;obtain⟨p0,p1,p2,p3,p4,p5,p6,p7,p8,p9,R⟩:=gD X3.o;rw[HC.o] at p2;obtain⟨Q,x1,K,x3,Y,N,x6,S,x8,Z,b,j,i⟩:=cR T.o;have xf:=kY T.o;go_wp2_with fail;go_region
 all_goals
  have a:=aA (show y<W.heap.size->nO y from fun e=>absurd e (Nat.not_lt.2 HY.o));have X8:=aA (xB (W:=W3) (y:=y) T.o (v0:=.int .i64 g) (v1:=.int .i64 n) (v2:=.int .i64 q.kd) (v3:=.int .i64 q.od) (v4:=.int .i64 c) (v5:=.int .i64 q.lv) (v6:=.int .i64 q.nx) (v7:=.int .i64 q.pv) (v8:=.int .i64 q.fs) (v9:=.int .u64 q.b0) (v10:=.int .u64 q.b1) (v11:=.int .u64 q.b2) (v12:=.int .u64 q.b3));have K8:=aA (((((((((((((KW.o.setNew (p:=⟨y,0,none⟩) a.o (.int .i64 g)).setNew (p:=⟨y,1,none⟩) a.o (.int .i64 n)).setNew (p:=⟨y,2,none⟩) a.o (.int .i64 q.kd)).setNew (p:=⟨y,3,none⟩) a.o (.int .i64 q.od)).setNew (p:=⟨y,4,none⟩) a.o (.int .i64 c)).setNew (p:=⟨y,5,none⟩) a.o (.int .i64 q.lv)).setNew (p:=⟨y,6,none⟩) a.o (.int .i64 q.nx)).setNew (p:=⟨y,7,none⟩) a.o (.int .i64 q.pv)).setNew (p:=⟨y,8,none⟩) a.o (.int .i64 q.fs)).setNew (p:=⟨y,9,none⟩) a.o (.int .u64 q.b0)).setNew (p:=⟨y,10,none⟩) a.o (.int .u64 q.b1)).setNew (p:=⟨y,11,none⟩) a.o (.int .u64 q.b2)).setNew (p:=⟨y,12,none⟩) a.o (.int .u64 q.b3));generalize (((((((((((((W3.setCell ⟨y,0,none⟩ (.int .i64 g)).setCell ⟨y,1,none⟩ (.int .i64 n)).setCell ⟨y,2,none⟩ (.int .i64 q.kd)).setCell ⟨y,3,none⟩ (.int .i64 q.od)).setCell ⟨y,4,none⟩ (.int .i64 c)).setCell ⟨y,5,none⟩ (.int .i64 q.lv)).setCell ⟨y,6,none⟩ (.int .i64 q.nx)).setCell ⟨y,7,none⟩ (.int .i64 q.pv)).setCell ⟨y,8,none⟩ (.int .i64 q.fs)).setCell ⟨y,9,none⟩ (.int .u64 q.b0)).setCell ⟨y,10,none⟩ (.int .u64 q.b1)).setCell ⟨y,11,none⟩ (.int .u64 q.b2)).setCell ⟨y,12,none⟩ (.int .u64 q.b3))=L at *;have K9:=aA (show Kt nO W L.drew from K8.o.drew);have X9:=aA (show L.drew.heap[y]?=some (dS (g:Int) (n:Int) q)from by have:=X8.o;rw[<-HC.o] at this;exact this)
  generalize L.drew=W9 at *;clear p0 p1 p2 p3 p4 p5 p6 p7 p8 p9 R Q x1 K x3 Y N x6 S x8 Z b j i;obtain⟨Q,x1,K,x3,Y,N,x6,S,x8,Z,b,j,i⟩:=cR X9.o;go_wp2_with fail;exact⟨rfl,_,by simp[results,results202,go_sem,Q,x1,K,x3,Y,N,x6,S,x8,Z,b,j,i],rfl,K9.o⟩
theorem OG{w W sb lw x t h}(s:SW w W sb lw x t h)(p:Nat)(hp:p<18446744073709551616)(E:jL x t p=false):
  Calls prog 202 #[.pointer (some ⟨sb,0,none⟩),.int .u64 p] W fun e w'=>e=.returned (.tuple #[kZ 0 0 aV,.bool false])/\Kt nO W w':=by
 have P:=aA ((Kt.refl nO W).alloc iH);have b:=aA (s.keep P.o);have J:=aA (show(W.alloc iH).heap[W.heap.size]?=some (dS 0 0 aV)from nH W iH);have T:=aA (vE b.o p hp);obtain⟨d,hd⟩:=xe (aJ x p);obtain⟨g,hg⟩:=xe (d/4096);obtain⟨f,hf⟩:=xe (d%4096);obtain⟨q,hq⟩:=xe (dT x t p);have ok:PgOk q:=by rw[hq];exact sI s.pl.bd.mp _
 obtain⟨c,hc⟩:=au ok.c0;have K:c<8:=by have:=ok.c7;omega
 have N:(dT x t p).cl.toNat=c:=by rw[<-hq,hc];rfl
 have G:x.bS<18446744073709551616:=by have:=s.pl.bd.sp.cfg.be;omega
 have hw:=tQ p x.bS hp G;rw[show(p+18446744073709551616-x.bS)%18446744073709551616=d from hd.symm] at hw;have a3:d<18446744073709551616:=by rw[hd];exact Nat.mod_lt _ (by decide)
 have a7:(d:Int)%4096=(f:Int):=by omega
 have a4:f<4096:=by omega
 have a6:g<4503599627370496:=by omega
 rw[<-hd,<-hg] at T;obtain⟨r,hr⟩:=xe (aD t.m.n (g:Int));have HA:=aA (show ∀ W',MpA W' x.m x.B t.m->Calls prog 45 #[.pointer (some ⟨x.m,0,none⟩),.int .i64 g] W' fun e w'=>e=.returned (.tuple #[cD q,.bool r])/\Kt nO W' w' from fun W' hW=>by rw[hr,show q=cM t.m (g:Int)by rw[hq,hg,hd];rfl];exact jC x.m x.B t.m (g:Int) W' hW)
 obtain⟨z,hz⟩:=xe (16*2 ^ c);have L:=cN K;unfold aB at L;rw[<-hz] at L;have a0:¬(z:Int)=0:=by omega
 have a9:((z:Int) == 0)=false:=by rw[ag];exact a0
 have a2:(c:Int)<8:=by omega
 unfold jL at E;rw[N,<-hq,<-hd,<-hf,show aB c=z from hz.symm] at E;have U:q.kd≠4\/(q.kd=4/\f%z≠0):=by
  by_cases e:q.kd=4
  ·right
   refine⟨e,fun e2=>?_⟩;rw[af e,af e2] at E
   cases E
  ·exact .inl e
 have HC:=aA hc;clear hc;have HT:=aA s.tab;have TB:=aA (show ∀ W',Kt nO W W'->W'.cell? ⟨0,c,none⟩=some (.int .u64 z)from fun W' k=>by rw[hz];exact k.cell id (HT.o c K));clear s hd hg hf hq hr hz N G ok E hp;obtain⟨c0,c1⟩:=b.o.c0;go_enter func202,ntmps202;go_upto_region 1 with fail;obtain⟨y,hy⟩:=xe (W.heap.size);have HY:=aA (show W.heap.size<=y from Nat.le_of_eq hy.symm);rw[<-hy] at J;rw[<-hy];clear hy;generalize W.alloc iH=W0 at *;have zz:aV.kd=0:=rfl;rcases U with a|⟨a,a5⟩
 ·have j:=aA (show(q.kd != 4)=true from cu.2 a);clear a;go_wp2_with fail;refine T.o.mono ?_;rintro e w1 ⟨rfl,C⟩;replace C:=C.symm;subst C;have MP:=aA (bT b.o.pl);go_wp2_with fail;refine MP.o.mono ?_;rintro e w2 ⟨rfl,A⟩;replace A:=A.symm;subst A;go_wp2_with fail;refine(HA.o _ b.o.pl.bd.mp).mono ?_;rintro e v ⟨rfl,F⟩;have l:=aA (F.alloc (aN q));have S:=aA (nH v (aN q));have S3:=aA (b.o.keep l.o);have I:=aA ((l.o.block _ (lH J.o) id).trans J.o);have KW:=aA (nT P.o l.o);have ct:=TB.o _ KW.o;clear F c0 c1;go_upto_region 3 with fail;generalize v.heap.size=u at *;generalize v.alloc (aN q)=W3 at *;obtain⟨c0,c1⟩:=S3.o.c0;have a1:=j.o;obtain⟨p0,p1,R,p3,p4,p5,p6,p7,p8,p9,Y⟩:=gD S.o;rw[HC.o] at R;obtain⟨X,x1,Q,x3,x4,V,x6,x7,x8,x9,i,D,o⟩:=cR I.o;have xf:=kY I.o;go_wp2_with fail;exact⟨rfl,_,by simp[results,results202,go_sem,aV,X,x1,Q,x3,x4,V,x6,x7,x8,x9,i,D,o],rfl,IZ (p:=0) (n:=0) (q:=aV) KW.o (fun e=>absurd e (Nat.not_lt.2 HY.o))⟩
 ·have j:=aA (show(q.kd != 4)=false from by rw[a];rfl);clear a;have Z:¬(f:Int)%(z:Int)=0:=by
   rw[<-Int.natCast_emod];omega
  have a8:((f:Int)%(z:Int) != 0)=true:=cu.2 Z;go_wp2_with fail;refine T.o.mono ?_;rintro e w1 ⟨rfl,C⟩;replace C:=C.symm;subst C;have MP:=aA (bT b.o.pl);go_wp2_with fail;refine MP.o.mono ?_;rintro e w2 ⟨rfl,A⟩;replace A:=A.symm;subst A;go_wp2_with fail;refine(HA.o _ b.o.pl.bd.mp).mono ?_;rintro e v ⟨rfl,F⟩;have l:=aA (F.alloc (aN q));have S:=aA (nH v (aN q));have S3:=aA (b.o.keep l.o);have I:=aA ((l.o.block _ (lH J.o) id).trans J.o);have KW:=aA (nT P.o l.o);have ct:=TB.o _ KW.o;clear F c0 c1;go_upto_region 3 with fail;generalize v.heap.size=u at *;generalize v.alloc (aN q)=W3 at *;obtain⟨c0,c1⟩:=S3.o.c0;have a1:=j.o;obtain⟨p0,p1,R,p3,p4,p5,p6,p7,p8,p9,Y⟩:=gD S.o;rw[HC.o] at R;obtain⟨X,x1,Q,x3,x4,V,x6,x7,x8,x9,i,D,o⟩:=cR I.o;have xf:=kY I.o;go_wp2_with fail;exact⟨rfl,_,by simp[results,results202,go_sem,aV,X,x1,Q,x3,x4,V,x6,x7,x8,x9,i,D,o],rfl,IZ (p:=0) (n:=0) (q:=aV) KW.o (fun e=>absurd e (Nat.not_lt.2 HY.o))⟩
theorem QE{W:World}{y:Nat}{p n:Int}{q:Pg}(h:W.heap[y]?=some (dS p n q))(k:Nat)(e:k<4):W.cell? ⟨y,9+k,none⟩=some (.int .u64 ((wP q k:Nat):Int)):=by
 obtain⟨_,_,_,_,_,_,_,_,_,d,a,b,c⟩:=cR h;rcases k with _|_|_|_|k
 ·exact d
 ·exact a
 ·exact b
 ·exact c
 ·omega
theorem QD{q:Pg}(ok:PgOk q)(k:Nat)(a:k<4):wP q k<18446744073709551616:=by
 rcases k with _|_|_|_|k
 ·exact ok.b0
 ·exact ok.b1
 ·exact ok.b2
 ·exact ok.b3
 ·omega
theorem wU{w W sb lw x t h}(s:SW w W sb lw x t h)(p:Nat)(hp:p<18446744073709551616)(hB:jL x t p=true):
  Calls prog 151 #[.pointer (some ⟨sb,0,none⟩),.int .u64 p] W fun e w'=>e=.returned (.tuple #[kZ ((aJ x p/4096:Nat):Int) ((gK x t p:Nat):Int) (dT x t p),.bool (aI (dT x t p) (gK x t p))])/\Kt nO W w':=by
 have K0:=aA ((Kt.refl nO W).alloc iH);have S0:=aA (s.keep K0.o);have A:=aA (show(W.alloc iH).heap[W.heap.size]?=some (dS 0 0 aV)from nH W iH);have G:=aA (BQ S0.o p hp hB);have ok:PgOk (dT x t p):=sI s.pl.bd.mp _;have i:gK x t p<256:=by
  unfold gK;have P:(dT x t p).cl.toNat<8:=by have:=ok.c7;have:=ok.c0;omega
  have hz:=cN P;exact Nat.div_lt_of_lt_mul (bg (Nat.mod_lt _ (by decide)) (show 4096<=aB (dT x t p).cl.toNat*256 by omega))
 obtain⟨g,hg⟩:=xe (aJ x p/4096);obtain⟨n,F⟩:=xe (gK x t p);obtain⟨q,hq⟩:=xe (dT x t p);rw[<-hg,<-F,<-hq] at G ⊢;rw[<-F] at i;rw[<-hq] at ok;clear hg F hq s hB;obtain⟨k,hk⟩:=xe (n/64);obtain⟨r,hr⟩:=xe (n%64);have o:k<4:=by omega
 have b7:(n:Int)/64=(k:Int):=by omega
 have b8:(n:Int).tmod 64=(r:Int):=by rw[Int.tmod_eq_emod_of_nonneg (by omega)];omega
 have b4:r<64:=by omega
 obtain⟨v,z⟩:=xe (wP q k);have T:v<18446744073709551616:=by rw[z];exact QD ok k o
 have E:=pY v r T;have hl:aI q n=(v/2 ^ r%2 == 1):=by unfold aI;rw[<-hk,<-hr,<-z]
 have HL:=aA hl;have HV:=aA z;obtain⟨Z,b⟩:=xe (aI q n);rw[<-b];have m:=aA b;clear hl z b hk hr ok;go_enter func151,ntmps151;go_upto_region 1 with fail;obtain⟨y,hy⟩:=xe (W.heap.size);have HY:=aA (show W.heap.size<=y from Nat.le_of_eq hy.symm);rw[<-hy] at A;rw[<-hy];clear hy;generalize W.alloc iH=W0 at *;go_wp2_with fail;refine G.o.mono ?_;rintro e B ⟨rfl,f⟩;have K1:=aA (f.alloc (dS (g:Int) (n:Int) q));have X1:=aA (nH B (dS (g:Int) (n:Int) q));have I:=aA ((K1.o.block _ (lH A.o) id).trans A.o);have KW:=aA (nT K0.o K1.o);have l:=aA (show y<B.heap.size from bg (lH A.o) f.size);clear f G;go_upto_region 2 with fail;generalize B.heap.size=u at *;generalize B.alloc (dS (g:Int) (n:Int) q)=W1 at *;obtain⟨a0,a1,a2,a3,a4,a5,a6,a7,a8,a9,K,R,U⟩:=cR X1.o;have ab:=QE X1.o k o;rw[<-HV.o] at ab;obtain⟨L,X,C,x3,Q,J,V,N,Y,S,c,j,d⟩:=cR I.o;have xf:=kY I.o;have b6:¬y=u:=by have:=l.o;omega
 have b5:¬u=y:=by have:=l.o;omega
 go_wp2_with fail;go_region
 all_goals
  have a:=aA (show y<W.heap.size->nO y from fun e=>absurd e (Nat.not_lt.2 HY.o));have X8:=aA (xB (W:=W1) (y:=y) I.o (v0:=.int .i64 g) (v1:=.int .i64 n) (v2:=.int .i64 q.kd) (v3:=.int .i64 q.od) (v4:=.int .i64 q.cl) (v5:=.int .i64 q.lv) (v6:=.int .i64 q.nx) (v7:=.int .i64 q.pv) (v8:=.int .i64 q.fs) (v9:=.int .u64 q.b0) (v10:=.int .u64 q.b1) (v11:=.int .u64 q.b2) (v12:=.int .u64 q.b3));have K8:=aA (((((((((((((KW.o.setNew (p:=⟨y,0,none⟩) a.o (.int .i64 g)).setNew (p:=⟨y,1,none⟩) a.o (.int .i64 n)).setNew (p:=⟨y,2,none⟩) a.o (.int .i64 q.kd)).setNew (p:=⟨y,3,none⟩) a.o (.int .i64 q.od)).setNew (p:=⟨y,4,none⟩) a.o (.int .i64 q.cl)).setNew (p:=⟨y,5,none⟩) a.o (.int .i64 q.lv)).setNew (p:=⟨y,6,none⟩) a.o (.int .i64 q.nx)).setNew (p:=⟨y,7,none⟩) a.o (.int .i64 q.pv)).setNew (p:=⟨y,8,none⟩) a.o (.int .i64 q.fs)).setNew (p:=⟨y,9,none⟩) a.o (.int .u64 q.b0)).setNew (p:=⟨y,10,none⟩) a.o (.int .u64 q.b1)).setNew (p:=⟨y,11,none⟩) a.o (.int .u64 q.b2)).setNew (p:=⟨y,12,none⟩) a.o (.int .u64 q.b3));generalize (((((((((((((W1.setCell ⟨y,0,none⟩ (.int .i64 g)).setCell ⟨y,1,none⟩ (.int .i64 n)).setCell ⟨y,2,none⟩ (.int .i64 q.kd)).setCell ⟨y,3,none⟩ (.int .i64 q.od)).setCell ⟨y,4,none⟩ (.int .i64 q.cl)).setCell ⟨y,5,none⟩ (.int .i64 q.lv)).setCell ⟨y,6,none⟩ (.int .i64 q.nx)).setCell ⟨y,7,none⟩ (.int .i64 q.pv)).setCell ⟨y,8,none⟩ (.int .i64 q.fs)).setCell ⟨y,9,none⟩ (.int .u64 q.b0)).setCell ⟨y,10,none⟩ (.int .u64 q.b1)).setCell ⟨y,11,none⟩ (.int .u64 q.b2)).setCell ⟨y,12,none⟩ (.int .u64 q.b3))=D at *;have K9:=aA (show Kt nO W D.drew from K8.o.drew);have X9:=aA (show D.drew.heap[y]?=some (dS (g:Int) (n:Int) q)from X8.o);generalize D.drew=W9 at *;clear a0 a1 a2 a3 a4 a5 a6 a7 a8 a9 K R U L X C x3 Q J V N Y S c j d;obtain⟨L,X,C,x3,Q,J,V,N,Y,S,c,j,d⟩:=cR X9.o;rw[show(v/2 ^ r%2 == 1)=Z by rw[m.o,HL.o]];go_wp2_with fail;exact⟨rfl,_,by simp[results,results151,go_sem,L,X,C,x3,Q,J,V,N,Y,S,c,j,d],rfl,K9.o⟩
theorem UX{w W sb lw x t h}(s:SW w W sb lw x t h)(p:Nat)(hp:p<18446744073709551616)(G:jL x t p=false):
  Calls prog 151 #[.pointer (some ⟨sb,0,none⟩),.int .u64 p] W fun e w'=>e=.returned (.tuple #[kZ 0 0 aV,.bool false])/\Kt nO W w':=by
 have I:=aA ((Kt.refl nO W).alloc iH);have S0:=aA (s.keep I.o);have i:=aA (show(W.alloc iH).heap[W.heap.size]?=some (dS 0 0 aV)from nH W iH);have J:=aA (OG S0.o p hp G);clear s G;go_enter func151,ntmps151;go_upto_region 1 with fail;obtain⟨y,hy⟩:=xe (W.heap.size);have Z:=aA (show W.heap.size<=y from Nat.le_of_eq hy.symm);rw[<-hy] at i;rw[<-hy];clear hy;generalize W.alloc iH=W0 at *;go_wp2_with fail;refine J.o.mono ?_;rintro e j ⟨rfl,f⟩;have K:=aA (f.alloc (dS 0 0 aV));have V:=aA (nH j (dS 0 0 aV));have C:=aA ((K.o.block _ (lH i.o) id).trans i.o);have KW:=aA (nT I.o K.o);have g:=aA (show y<j.heap.size from bg (lH i.o) f.size);clear f J;go_upto_region 2 with fail;generalize j.heap.size=u at *;generalize j.alloc (dS 0 0 aV)=L at *;obtain⟨R,X,a2,a3,S,N,Y,a7,T,U,r,z,D⟩:=cR V.o;obtain⟨v,k,m,F,q,o,l,E,A,B,b,c,d⟩:=cR C.o;have xf:=kY C.o;have b5:¬y=u:=by have:=g.o;omega
 have b4:¬u=y:=by have:=g.o;omega
 go_wp2_with fail;go_region
 all_goals
  have a:=aA (show y<W.heap.size->nO y from fun e=>absurd e (Nat.not_lt.2 Z.o));have Q:=aA (xB (W:=L) (y:=y) C.o (v0:=.int .i64 0) (v1:=.int .i64 0) (v2:=.int .i64 aV.kd) (v3:=.int .i64 aV.od) (v4:=.int .i64 aV.cl) (v5:=.int .i64 aV.lv) (v6:=.int .i64 aV.nx) (v7:=.int .i64 aV.pv) (v8:=.int .i64 aV.fs) (v9:=.int .u64 aV.b0) (v10:=.int .u64 aV.b1) (v11:=.int .u64 aV.b2) (v12:=.int .u64 aV.b3));have K8:=aA (((((((((((((KW.o.setNew (p:=⟨y,0,none⟩) a.o (.int .i64 0)).setNew (p:=⟨y,1,none⟩) a.o (.int .i64 0)).setNew (p:=⟨y,2,none⟩) a.o (.int .i64 aV.kd)).setNew (p:=⟨y,3,none⟩) a.o (.int .i64 aV.od)).setNew (p:=⟨y,4,none⟩) a.o (.int .i64 aV.cl)).setNew (p:=⟨y,5,none⟩) a.o (.int .i64 aV.lv)).setNew (p:=⟨y,6,none⟩) a.o (.int .i64 aV.nx)).setNew (p:=⟨y,7,none⟩) a.o (.int .i64 aV.pv)).setNew (p:=⟨y,8,none⟩) a.o (.int .i64 aV.fs)).setNew (p:=⟨y,9,none⟩) a.o (.int .u64 aV.b0)).setNew (p:=⟨y,10,none⟩) a.o (.int .u64 aV.b1)).setNew (p:=⟨y,11,none⟩) a.o (.int .u64 aV.b2)).setNew (p:=⟨y,12,none⟩) a.o (.int .u64 aV.b3));generalize (((((((((((((L.setCell ⟨y,0,none⟩ (.int .i64 0)).setCell ⟨y,1,none⟩ (.int .i64 0)).setCell ⟨y,2,none⟩ (.int .i64 aV.kd)).setCell ⟨y,3,none⟩ (.int .i64 aV.od)).setCell ⟨y,4,none⟩ (.int .i64 aV.cl)).setCell ⟨y,5,none⟩ (.int .i64 aV.lv)).setCell ⟨y,6,none⟩ (.int .i64 aV.nx)).setCell ⟨y,7,none⟩ (.int .i64 aV.pv)).setCell ⟨y,8,none⟩ (.int .i64 aV.fs)).setCell ⟨y,9,none⟩ (.int .u64 aV.b0)).setCell ⟨y,10,none⟩ (.int .u64 aV.b1)).setCell ⟨y,11,none⟩ (.int .u64 aV.b2)).setCell ⟨y,12,none⟩ (.int .u64 aV.b3))=n at *;have P:=aA (show Kt nO W n.drew from K8.o.drew);have X9:=aA (show n.drew.heap[y]?=some (dS 0 0 aV)from Q.o);generalize n.drew=W9 at *;clear R X a2 a3 S N Y a7 T U r z D v k m F q o l E A B b c d;obtain⟨v,k,m,F,q,o,l,E,A,B,b,c,d⟩:=cR X9.o;go_wp2_with fail;exact⟨rfl,_,by simp[results,results151,go_sem,v,k,m,F,q,o,l,E,A,B,b,c,d],rfl,P.o⟩
end Go.Proofs.YtfmgnljlkdmndaaGreatDoor
