import Derived.Test.YtkfmheelhinjdaaGreatDoorXl
set_option maxRecDepth 1000000
set_option maxHeartbeats 80000000
namespace Go.Proofs.YtkfmheelhinjdaaGreatDoor
open _root_.Go.Proofs.Tryz
open Go.RowKit
set_option linter.unusedVariables false
def SD(w W:World)(sb lw:Nat)(x:Bx)(t:Bt)(h:Nat->Int)(m':Mp)(w':World):Prop:=SW w w' sb lw x { t with m:=m' } h/\Kt (aF x) W w'
theorem XM(m:Mp)(i a b:Int):(dL m i a b).o=m.o:=by unfold dL;split <;> rfl
theorem BS(m:Mp)(i a b:Int):(dL m i a b).n=m.n:=by unfold dL;split <;> rfl
theorem OG(m:Mp)(i c:Int)(l:Bool):(cY m i c l).o=m.o:=by unfold cY;split <;> rfl
theorem XK(m:Mp)(i c:Int):(fW m i c).o=m.o:=by unfold fW;split <;> rfl
theorem QE(m:Mp)(i c:Int):(jM m i c).o=m.o:=by unfold jM;split <;> rfl
theorem pT{w W sb lw x t h}(s:SW w W sb lw x t h)(i a b:Int):
  Calls prog 250 #[.pointer (some ⟨x.m,0,none⟩),.int .i64 i,.int .i64 a,.int .i64 b] W fun e w'=>e=.returned (.int .i64 (nC t.m i a b))/\SD w W sb lw x t h (dL t.m i a b) w':=by
 refine(ziU x.m x.B t.m i a b W s.pl.bd.mp).mono ?_;rintro e w' ⟨rfl,h1,h2⟩;exact⟨rfl,s.map h1 h2 (XM _ _ _ _)⟩
theorem LH{w W sb lw x t h}(s:SW w W sb lw x t h)(i c:Int)(l:Bool):
  Calls prog 200 #[.pointer (some ⟨x.m,0,none⟩),.int .i64 i,.int .i64 c,.bool l] W fun e w'=>e=.returned (.int .i64 (eJ t.m i c l))/\SD w W sb lw x t h (cY t.m i c l) w':=by
 refine(PM x.m x.B t.m i c l W s.pl.bd.mp).mono ?_;rintro e w' ⟨rfl,h1,h2⟩;exact⟨rfl,s.map h1 h2 (OG _ _ _ _)⟩
theorem AC{w W sb lw x t h}(s:SW w W sb lw x t h)(i c:Int):
  Calls prog 196 #[.pointer (some ⟨x.m,0,none⟩),.int .i64 i,.int .i64 c] W fun e w'=>e=.returned (.int .i64 (kI t.m i c))/\SD w W sb lw x t h (fW t.m i c) w':=by
 refine(ziT x.m x.B t.m i c W s.pl.bd.mp).mono ?_;rintro e w' ⟨rfl,h1,h2⟩;exact⟨rfl,s.map h1 h2 (XK _ _ _)⟩
theorem OF{w W sb lw x t h}(s:SW w W sb lw x t h)(i c:Int):
  Calls prog 194 #[.pointer (some ⟨x.m,0,none⟩),.int .i64 i,.int .i64 c] W fun e w'=>e=.returned (.int .i64 (pK t.m i c))/\SD w W sb lw x t h (jM t.m i c) w':=by
 refine(ZJ x.m x.B t.m i c W s.pl.bd.mp).mono ?_;rintro e w' ⟨rfl,h1,h2⟩;exact⟨rfl,s.map h1 h2 (QE _ _ _)⟩
theorem fO{W:World}{y:Nat}{p:Pg}(h:W.heap[y]?=some (aM p)):W.cell? ⟨y,0,none⟩=some (.int .i64 p.kd)/\W.cell? ⟨y,1,none⟩=some (.int .i64 p.od)/\W.cell? ⟨y,2,none⟩=some (.int .i64 p.cl)/\W.cell? ⟨y,3,none⟩=some (.int .i64 p.lv)/\W.cell? ⟨y,4,none⟩=some (.int .i64 p.nx)/\W.cell? ⟨y,5,none⟩=some (.int .i64 p.pv)/\W.cell? ⟨y,6,none⟩=some (.int .i64 p.fs)/\W.cell? ⟨y,7,none⟩=some (.int .u64 p.b0)/\W.cell? ⟨y,8,none⟩=some (.int .u64 p.b1)/\W.cell? ⟨y,9,none⟩=some (.int .u64 p.b2)/\W.cell? ⟨y,10,none⟩=some (.int .u64 p.b3):=by
 refine⟨?_,?_,?_,?_,?_,?_,?_,?_,?_,?_,?_⟩ <;> simp[World.cell?,h]
def iN(m:Mp)(i p:Int):Mp:=dL m i (cK m i).nx p
def oS(m:Mp)(i n:Int):Mp:=dL m i n (cK m i).pv
theorem DJ{w W sb lw x t h}(s:SW w W sb lw x t h)(i p:Int):
  Calls prog 251 #[.pointer (some ⟨sb,0,none⟩),.int .i64 i,.int .i64 p] W fun e w'=>e=.returned (.tuple #[])/\SD w W sb lw x t h (iN t.m i p) w':=by
 obtain⟨q,hq⟩:=xe (cK t.m i);have HA:=aA (show Calls prog 72 #[.pointer (some ⟨x.m,0,none⟩),.int .i64 i] W fun e w'=>e=.returned (.tuple #[cE q,.bool (aB t.m.n i)])/\Kt nO W w' from by rw[hq];exact jP x.m x.B t.m i W s.pl.bd.mp);have HM:=aA (bZ s.pl);rw[show iN t.m i p=dL t.m i q.nx p by rw[hq];rfl];have H:=aA s;obtain⟨c0,c1⟩:=s.c0;clear s hq;generalize aB t.m.n i=r at *;go_enter func251,ntmps251;go_wp2_with fail;refine HM.out.mono ?_;rintro e w1 ⟨rfl,h1⟩;replace h1:=h1.symm;subst h1;go_wp2_with fail;refine HA.out.mono ?_;rintro e w2 ⟨rfl,hk⟩;have K2:=aA (hk.alloc (aM q));have X2:=aA (nH w2 (aM q));have H2:=aA (H.out.keep K2.out);have NY:=aA (show ¬aF x w2.heap.size from fun e=>absurd ((H.out.keep hk).pl.lt _ (.inl e)) (Nat.lt_irrefl _));clear hk c0 c1;go_upto_region 1 with fail;generalize w2.heap.size=y at *;generalize w2.alloc (aM q)=W2 at *;have KD:=aA ((Kt.refl nO W2).drew);have H3:=aA (H2.out.keep KD.out);obtain⟨c0,c1⟩:=H3.out.c0;have X3:=aA ((KD.out.block _ (lH X2.out) id).trans X2.out);obtain⟨_,_,_,_,x4,_⟩:=fO X3.out;have MP:=aA (bZ H3.out.pl);have CH:=aA (pT H3.out i q.nx p);go_region_held3 (fun w'=>w'.cell? ⟨sb,0,none⟩=some (.pointer (some ⟨lw,0,none⟩))/\w'.cell? ⟨y,4,none⟩=some (.int .i64 q.nx)) ((refine⟨?_,?_⟩ <;> first|with_reducible assumption|fail)) (first
  | (go_at_call 250;(with_reducible refine CH.out.mono ?_);rintro e w5 ⟨rfl,hs5,hk5⟩;obtain⟨f0,f1⟩:=hs5.c0;have f4:=hk5.cell NY.out x4;have D5:=aA (show SD w W sb lw x t h (dL t.m i q.nx p) w5 from⟨hs5,(K2.out.trans KD.out (fun _ _ e=>e) (fun _ _ e=>e)).trans hk5 (fun _ _ e=>e.elim) (fun _ _ e=>e)⟩);clear hs5 hk5)
  | (go_at_call 45;(with_reducible refine MP.out.mono ?_);rintro e w3 ⟨rfl,h3⟩;replace h3:=h3.symm;subst h3)
  | fail)
 all_goals
  go_wp2_with fail;exact⟨rfl,.tuple #[],by simp[results,results251,go_sem],rfl,D5.out⟩
theorem ziO{w W sb lw x t h}(s:SW w W sb lw x t h)(i n:Int):
  Calls prog 255 #[.pointer (some ⟨sb,0,none⟩),.int .i64 i,.int .i64 n] W fun e w'=>e=.returned (.tuple #[])/\SD w W sb lw x t h (oS t.m i n) w':=by
 obtain⟨q,hq⟩:=xe (cK t.m i);have HA:=aA (show Calls prog 72 #[.pointer (some ⟨x.m,0,none⟩),.int .i64 i] W fun e w'=>e=.returned (.tuple #[cE q,.bool (aB t.m.n i)])/\Kt nO W w' from by rw[hq];exact jP x.m x.B t.m i W s.pl.bd.mp);have HM:=aA (bZ s.pl);rw[show oS t.m i n=dL t.m i n q.pv by rw[hq];rfl];have H:=aA s;obtain⟨c0,c1⟩:=s.c0;clear s hq;generalize aB t.m.n i=r at *;go_enter func255,ntmps255;go_wp2_with fail;refine HM.out.mono ?_;rintro e w1 ⟨rfl,h1⟩;replace h1:=h1.symm;subst h1;go_wp2_with fail;refine HA.out.mono ?_;rintro e w2 ⟨rfl,hk⟩;have K2:=aA (hk.alloc (aM q));have X2:=aA (nH w2 (aM q));have H2:=aA (H.out.keep K2.out);have NY:=aA (show ¬aF x w2.heap.size from fun e=>absurd ((H.out.keep hk).pl.lt _ (.inl e)) (Nat.lt_irrefl _));clear hk c0 c1;go_upto_region 1 with fail;generalize w2.heap.size=y at *;generalize w2.alloc (aM q)=W2 at *;have KD:=aA ((Kt.refl nO W2).drew);have H3:=aA (H2.out.keep KD.out);obtain⟨c0,c1⟩:=H3.out.c0;have X3:=aA ((KD.out.block _ (lH X2.out) id).trans X2.out);obtain⟨_,_,_,_,_,x4,_⟩:=fO X3.out;have MP:=aA (bZ H3.out.pl);have CH:=aA (pT H3.out i n q.pv);go_region_held3 (fun w'=>w'.cell? ⟨sb,0,none⟩=some (.pointer (some ⟨lw,0,none⟩))/\w'.cell? ⟨y,5,none⟩=some (.int .i64 q.pv)) ((refine⟨?_,?_⟩ <;> first|with_reducible assumption|fail)) (first
  | (go_at_call 250;(with_reducible refine CH.out.mono ?_);rintro e w5 ⟨rfl,hs5,hk5⟩;obtain⟨f0,f1⟩:=hs5.c0;have f4:=hk5.cell NY.out x4;have D5:=aA (show SD w W sb lw x t h (dL t.m i n q.pv) w5 from⟨hs5,(K2.out.trans KD.out (fun _ _ e=>e) (fun _ _ e=>e)).trans hk5 (fun _ _ e=>e.elim) (fun _ _ e=>e)⟩);clear hs5 hk5)
  | (go_at_call 45;(with_reducible refine MP.out.mono ?_);rintro e w3 ⟨rfl,h3⟩;replace h3:=h3.symm;subst h3)
  | fail)
 all_goals
  go_wp2_with fail;exact⟨rfl,.tuple #[],by simp[results,results255,go_sem],rfl,D5.out⟩
def dD(x:Bx)(sb:Nat):Nat->Prop:=fun y=>aF x y\/y=sb
def SE(w W:World)(sb lw:Nat)(x:Bx)(t:Bt)(m':Mp)(h':Nat->Int)(w':World):Prop:=SW w w' sb lw x { t with m:=m' } h'/\Kt (dD x sb) W w'
def fN(m:Mp)(h:Nat->Int)(p:Int)(c:Nat):Mp:=iN (dL m p (h c) (-1)) (h c) p
theorem JT{w W sb lw x t h}(s:SW w W sb lw x t h)(p:Int)(c:Nat)(hc:c<8):
  Calls prog 197 #[.pointer (some ⟨sb,0,none⟩),.int .i64 p,.int .i64 c] W fun e w'=>e=.returned (.tuple #[])/\SE w W sb lw x t (fN t.m h p c) (dB h c p) w':=by
 have H:=aA s;have HM:=aA (bZ s.pl);have CH:=aA (pT s p (h c) (-1));obtain⟨c0,c1⟩:=s.c0;have ch:=s.hd c hc;have hci:(c:Int)<8:=by omega
 clear s;rw[show fN t.m h p c=iN (dL t.m p (h c) (-1)) (h c) p from rfl];obtain⟨z,hz⟩:=xe (h c);rw[<-hz] at ch CH ⊢;clear hz;go_enter func197,ntmps197;go_wp2_with fail;refine HM.out.mono ?_;rintro e w1 ⟨rfl,h1⟩;replace h1:=h1.symm;subst h1;go_wp2_with fail;refine CH.out.mono ?_;rintro e w2 ⟨rfl,hs2,hk2⟩;have S2:=aA hs2;have K2:=aA hk2;have SP:=aA (DJ hs2 z p);clear hs2 hk2 c0 c1 ch CH HM;go_wp2_with fail;refine SP.out.mono ?_;rintro e w3 ⟨rfl,hs3,hk3⟩;have S3:=aA hs3;have fz:=hs3.fz (2+c);have D:=aA (show SE w W sb lw x t (iN (dL t.m p z (-1)) z p) (dB h c p) (w3.setCell ⟨sb,2+c,none⟩ (.int .i64 p))from⟨hs3.set c hc p,((K2.out.trans hk3 (fun _ _ e=>e) (fun _ _ e=>e)).mono (fun _ _ e=>.inl e)).setCell (p:=⟨sb,2+c,none⟩) (.inr rfl) _⟩);have c3:=hs3.hd c hc;clear hs3 hk3 SP;go_wp2_with fail;exact⟨rfl,.tuple #[],by simp[results,results197,go_sem],rfl,D.out⟩
def iZ(m:Mp)(p:Int):Mp:=dL (if (cK m p).pv = -1 then iN m (cK m p).nx (cK m p).pv else oS (iN m (cK m p).nx (cK m p).pv) (cK m p).pv (cK m p).nx) p (-1) (-1)
def jA(m:Mp)(h:Nat->Int)(p:Int)(c:Nat):Nat->Int:=if (cK m p).pv = -1 then dB h c (cK m p).nx else h
theorem WK{w W sb lw x t h}(s:SW w W sb lw x t h)(p:Int)(c:Nat)(hc:c<8):
  Calls prog 202 #[.pointer (some ⟨sb,0,none⟩),.int .i64 p,.int .i64 c] W fun e w'=>e=.returned (.tuple #[])/\SE w W sb lw x t (iZ t.m p) (jA t.m h p c) w':=by
 obtain⟨q,hq⟩:=xe (cK t.m p);have HA:=aA (show Calls prog 72 #[.pointer (some ⟨x.m,0,none⟩),.int .i64 p] W fun e w'=>e=.returned (.tuple #[cE q,.bool (aB t.m.n p)])/\Kt nO W w' from by rw[hq];exact jP x.m x.B t.m p W s.pl.bd.mp);have HM:=aA (bZ s.pl);obtain⟨m2,hm2⟩:=xe (iZ t.m p);obtain⟨h2,hh2⟩:=xe (jA t.m h p c);rw[<-hm2,<-hh2];unfold iZ at hm2;unfold jA at hh2;rw[<-hq] at hm2 hh2;have HM2:=aA hm2;have HH2:=aA hh2;have H:=aA s;obtain⟨c0,c1⟩:=s.c0;have hci:(c:Int)<8:=by omega
 clear s hq hm2 hh2;generalize aB t.m.n p=r at *;go_enter func202,ntmps202;go_wp2_with fail;refine HM.out.mono ?_;rintro e w1 ⟨rfl,h1⟩;replace h1:=h1.symm;subst h1;go_wp2_with fail;refine HA.out.mono ?_;rintro e w2 ⟨rfl,hk⟩;have K2:=aA (hk.alloc (aM q));have X2:=aA (nH w2 (aM q));have H2:=aA (H.out.keep K2.out);have NY:=aA (show ¬aF x w2.heap.size from fun e=>absurd ((H.out.keep hk).pl.lt _ (.inl e)) (Nat.lt_irrefl _));have NS:=aA (show sb≠w2.heap.size from fun e=>absurd (lH (H.out.keep hk).bx) (by rw[e];exact Nat.lt_irrefl _));clear hk c0 c1;go_upto_region 1 with fail;generalize w2.heap.size=y at *;generalize w2.alloc (aM q)=W2 at *;obtain⟨_,_,_,_,x4,x5,_⟩:=fO X2.out;have SP:=aA (DJ H2.out q.nx q.pv);go_wp2_with fail;refine SP.out.mono ?_;rintro e w3 ⟨rfl,hs3,hk3⟩;have S3:=aA hs3;have K3:=aA (K2.out.trans hk3 (fun _ _ e=>e.elim) (fun _ _ e=>e));have X3:=aA ((hk3.block _ (lH X2.out) NY.out).trans X2.out);clear hs3 hk3 SP x4 x5;obtain⟨_,_,_,_,x4,x5,_⟩:=fO X3.out;by_cases hpv:q.pv = -1
 ·have hb:(q.pv == -1)=true:=by rw[hpv];rfl
  have fz:=S3.out.fz (2+c);have c3:=S3.out.hd c hc;as_aux_lemma=>
   go_upto_region 3 with fail;have KD:=aA ((Kt.refl nO w3).drew);have S4:=aA (S3.out.keep KD.out);have X4:=aA ((KD.out.block _ (lH X3.out) id).trans X3.out);have d4:=(fO X4.out).2.2.2.2.1;have d3:=S4.out.hd c hc;have fz4:=S4.out.fz (2+c);go_region
   all_goals
    have S5:=aA ((S3.out.set c hc q.nx).keep ((Kt.refl nO _).drew));have K5:=aA (show Kt (dD x sb) W (w3.setCell ⟨sb,2+c,none⟩ (.int .i64 q.nx)).drew from((K3.out.mono (fun _ _ e=>.inl e)).setCell (S:=dD x sb) (p:=⟨sb,2+c,none⟩) (.inr rfl) _).drew);generalize (w3.setCell ⟨sb,2+c,none⟩ (.int .i64 q.nx)).drew=W5 at *;have MP:=aA (bZ S5.out.pl);have CH:=aA (pT S5.out p (-1) (-1));clear x4 x5 d4 d3 fz4 fz c3;obtain⟨c0,c1⟩:=S5.out.c0;go_wp2_with fail;refine MP.out.mono ?_;rintro e w6 ⟨rfl,h6⟩;replace h6:=h6.symm;subst h6;go_wp2_with fail;refine CH.out.mono ?_;rintro e w7 ⟨rfl,hs7,hk7⟩;have D:=aA (show SE w W sb lw x t m2 h2 w7 from by
     rw[HM2.out,HH2.out,if_pos hpv,if_pos hpv];exact⟨hs7,K5.out.trans hk7 (fun _ _ e=>e) (fun _ _ e=>.inl e)⟩)
    clear hs7 hk7;go_wp2_with fail;exact⟨rfl,.tuple #[],by simp[results,results202,go_sem],rfl,D.out⟩
 ·have hb:(q.pv == -1)=false:=by rw[beq_eq_false_iff_ne];exact hpv
  have SN:=aA (ziO S3.out q.pv q.nx);as_aux_lemma=>
   go_wp2_with fail;refine SN.out.mono ?_;rintro e w4 ⟨rfl,hs4,hk4⟩;have S4:=aA hs4;have K4:=aA (K3.out.trans hk4 (fun _ _ e=>e) (fun _ _ e=>e));have MP:=aA (bZ hs4.pl);have CH:=aA (pT hs4 p (-1) (-1));obtain⟨c0,c1⟩:=hs4.c0;clear hs4 hk4 SN x4 x5;go_wp2_with fail;refine MP.out.mono ?_;rintro e w6 ⟨rfl,h6⟩;replace h6:=h6.symm;subst h6;go_wp2_with fail;refine CH.out.mono ?_;rintro e w7 ⟨rfl,hs7,hk7⟩;have D:=aA (show SE w W sb lw x t m2 h2 w7 from by
    rw[HM2.out,HH2.out,if_neg hpv,if_neg hpv];exact⟨hs7,(K4.out.trans hk7 (fun _ _ e=>e) (fun _ _ e=>e)).mono (fun _ _ e=>.inl e)⟩)
   clear hs7 hk7;go_wp2_with fail;exact⟨rfl,.tuple #[],by simp[results,results202,go_sem],rfl,D.out⟩
def aH(k:Nat):Nat:=16*2 ^ k
theorem eH{k:Nat}(h:k<8) : 16<=aH k/\aH k<=2048:=by
 revert k
 unfold aH;decide
theorem QC{w W sb lw x t h}(s:SW w W sb lw x t h)(c:Nat)(hc:c<8):
  Calls prog 201 #[.int .i64 c] W fun e w'=>e=.returned (.int .i64 ((256/2 ^ c:Nat):Int))/\w'=W:=by
 have ct:=s.tab c hc;have hci:(c:Int)<8:=by omega
 obtain⟨z,hz⟩:=xe (16*2 ^ c);have hzb:=eH hc;unfold aH at hzb;rw[<-hz] at ct hzb;have hq : 4096/z=256/2 ^ c:=by rw[hz,show 4096=16*256 from rfl,Nat.mul_div_mul_left _ _ (by decide)]
 obtain⟨q,hq2⟩:=xe (256/2 ^ c);rw[<-hq2] at hq ⊢;have hqi:(4096:Int)/(z:Int)=q:=by rw[<-hq];rfl
 have hqb:q<=256:=by rw[hq2];exact Nat.div_le_self _ _
 have hz0:¬(z:Int)=0:=by omega
 have hz1:((z:Int) == 0)=false:=by rw[beq_eq_false_iff_ne];exact hz0
 clear s hq hq2 hz;go_enter func201,ntmps201;go_wp2_with fail;go_ret;exact⟨by simp,rfl⟩
def aS(x:Bx)(p k n:Nat):Nat:=x.bS+4096*p+n*aH k
theorem ziQ{w W sb lw x t h}(s:SW w W sb lw x t h)(p c n:Nat)(hp:p<=1024)(hc:c<8)(hn:n<=256):
  Calls prog 198 #[.pointer (some ⟨sb,0,none⟩),.int .i64 p,.int .i64 c,.int .i64 n] W fun e w'=>e=.returned (.int .u64 ((aS x p c n:Nat):Int))/\Kt nO W w':=by
 obtain⟨c0,c1⟩:=s.c0;have ct:=s.tab c hc;have hb:x.bS<=9223372036854775808:=by have:=s.pl.bd.sp.cfg.be;omega
 have hci:(c:Int)<8:=by omega
 obtain⟨z,hz⟩:=xe (16*2 ^ c);have hzb:=eH hc;unfold aH at hzb;rw[<-hz] at ct hzb;obtain⟨nz,hnz⟩:=xe (n*z);have hnzi:(n:Int)*(z:Int)=nz:=by rw[hnz];simp
 have hnzb:nz<=524288:=by rw[hnz];exact Nat.mul_le_mul hn hzb.2
 obtain⟨p4,hp4⟩:=xe (p*4096);have hp4i:(p:Int)*4096=(p4:Int):=by omega
 have hp4b:p4<=4194304:=by omega
 obtain⟨bs,hbs⟩:=xe (x.bS);rw[<-hbs] at c1 hb;obtain⟨a1,ha1⟩:=xe (bs+p4);have ha1i:(bs:Int)+(p4:Int)=a1:=by omega
 have ha1b:a1<=9223372036859000000:=by omega
 obtain⟨a2,ha2⟩:=xe (a1+nz);have ha2i:(a1:Int)+(nz:Int)=a2:=by omega
 have ha2b:a2<=9223372036859600000:=by omega
 have e:aS x p c n=a2:=by
  unfold aS aH;rw[<-hz,<-hnz,<-hbs];omega
 rw[e];clear s hz hnz hp4 hbs ha1 ha2 e;go_enter func198,ntmps198;have w1:IntKind.u64.wrap (p:Int)=p:=by rw[wrap_u64];omega
 have w2:IntKind.u64.wrap (n:Int)=n:=by rw[wrap_u64];omega
 have w3:IntKind.u64.wrap (p4:Int)=p4:=by rw[wrap_u64];omega
 have w4:IntKind.u64.wrap (a1:Int)=a1:=by rw[wrap_u64];omega
 have w5:IntKind.u64.wrap (nz:Int)=nz:=by rw[wrap_u64];omega
 have w6:IntKind.u64.wrap (a2:Int)=a2:=by rw[wrap_u64];omega
 go_upto_region 1 with fail;go_quiet (fail)
 go_wp2_with fail;go_ret;exact⟨by simp,(Kt.refl nO _).drewN _⟩
abbrev oY(p n:Int)(q:Pg):Value:=.agg #[.int .i64 p,.int .i64 n,.int .i64 q.kd,.int .i64 q.od,.int .i64 q.cl,.int .i64 q.lv,.int .i64 q.nx,.int .i64 q.pv,.int .i64 q.fs,.int .u64 q.b0,.int .u64 q.b1,.int .u64 q.b2,.int .u64 q.b3]
abbrev eL(p n:Int)(q:Pg):Obj:=.cells #[.int .i64 p,.int .i64 n,.int .i64 q.kd,.int .i64 q.od,.int .i64 q.cl,.int .i64 q.lv,.int .i64 q.nx,.int .i64 q.pv,.int .i64 q.fs,.int .u64 q.b0,.int .u64 q.b1,.int .u64 q.b2,.int .u64 q.b3] 204
abbrev gW:Obj:=.cells #[.int .i64 0,.int .i64 0,.int .i64 0,.int .i64 0,.int .i64 0,.int .i64 0,.int .i64 0,.int .i64 0,.int .i64 0,.int .u64 0,.int .u64 0,.int .u64 0,.int .u64 0] 204
theorem wC{W:World}{y:Nat}{ty:TypeId}{u0 u1 u2 u3 u4 u5 u6 u7 u8 u9 u10 u11 u12 v0 v1 v2 v3 v4 v5 v6 v7 v8 v9 v10 v11 v12:Value}(h:W.heap[y]?=some (.cells #[u0,u1,u2,u3,u4,u5,u6,u7,u8,u9,u10,u11,u12] ty)):(((((((((((((W.setCell ⟨y,0,none⟩ v0).setCell ⟨y,1,none⟩ v1).setCell ⟨y,2,none⟩ v2).setCell ⟨y,3,none⟩ v3).setCell ⟨y,4,none⟩ v4).setCell ⟨y,5,none⟩ v5).setCell ⟨y,6,none⟩ v6).setCell ⟨y,7,none⟩ v7).setCell ⟨y,8,none⟩ v8).setCell ⟨y,9,none⟩ v9).setCell ⟨y,10,none⟩ v10).setCell ⟨y,11,none⟩ v11).setCell ⟨y,12,none⟩ v12).heap[y]?=some (.cells #[v0,v1,v2,v3,v4,v5,v6,v7,v8,v9,v10,v11,v12] ty):=by
 have:=(heap_set (heap_set (heap_set (heap_set (heap_set (heap_set (heap_set (heap_set (heap_set (heap_set (heap_set (heap_set (heap_set h 0 v0) 1 v1) 2 v2) 3 v3) 4 v4) 5 v5) 6 v6) 7 v7) 8 v8) 9 v9) 10 v10) 11 v11) 12 v12);simpa using this
abbrev wZ(w:World)(y:Nat)(p n:Int)(q:Pg):World:=(((((((((((((w.setCell ⟨y,0,none⟩ (.int .i64 p)).setCell ⟨y,1,none⟩ (.int .i64 n)).setCell ⟨y,2,none⟩ (.int .i64 q.kd)).setCell ⟨y,3,none⟩ (.int .i64 q.od)).setCell ⟨y,4,none⟩ (.int .i64 q.cl)).setCell ⟨y,5,none⟩ (.int .i64 q.lv)).setCell ⟨y,6,none⟩ (.int .i64 q.nx)).setCell ⟨y,7,none⟩ (.int .i64 q.pv)).setCell ⟨y,8,none⟩ (.int .i64 q.fs)).setCell ⟨y,9,none⟩ (.int .u64 q.b0)).setCell ⟨y,10,none⟩ (.int .u64 q.b1)).setCell ⟨y,11,none⟩ (.int .u64 q.b2)).setCell ⟨y,12,none⟩ (.int .u64 q.b3))
theorem FK{S:Nat->Prop}{a w:World}(h:Kt S a w){y:Nat}(hy:y<a.heap.size->S y)(p n:Int)(q:Pg):Kt S a (wZ w y p n q):=(((((((((((((h.setNew (p:=⟨y,0,none⟩) hy _).setNew (p:=⟨y,1,none⟩) hy _).setNew (p:=⟨y,2,none⟩) hy _).setNew (p:=⟨y,3,none⟩) hy _).setNew (p:=⟨y,4,none⟩) hy _).setNew (p:=⟨y,5,none⟩) hy _).setNew (p:=⟨y,6,none⟩) hy _).setNew (p:=⟨y,7,none⟩) hy _).setNew (p:=⟨y,8,none⟩) hy _).setNew (p:=⟨y,9,none⟩) hy _).setNew (p:=⟨y,10,none⟩) hy _).setNew (p:=⟨y,11,none⟩) hy _).setNew (p:=⟨y,12,none⟩) hy _)
theorem dN{W:World}{y:Nat}{p n:Int}{q:Pg}(h:W.heap[y]?=some (eL p n q)):W.cell? ⟨y,0,none⟩=some (.int .i64 p)/\W.cell? ⟨y,1,none⟩=some (.int .i64 n)/\W.cell? ⟨y,2,none⟩=some (.int .i64 q.kd)/\W.cell? ⟨y,3,none⟩=some (.int .i64 q.od)/\W.cell? ⟨y,4,none⟩=some (.int .i64 q.cl)/\W.cell? ⟨y,5,none⟩=some (.int .i64 q.lv)/\W.cell? ⟨y,6,none⟩=some (.int .i64 q.nx)/\W.cell? ⟨y,7,none⟩=some (.int .i64 q.pv)/\W.cell? ⟨y,8,none⟩=some (.int .i64 q.fs)/\W.cell? ⟨y,9,none⟩=some (.int .u64 q.b0)/\W.cell? ⟨y,10,none⟩=some (.int .u64 q.b1)/\W.cell? ⟨y,11,none⟩=some (.int .u64 q.b2)/\W.cell? ⟨y,12,none⟩=some (.int .u64 q.b3):=by
 refine⟨?_,?_,?_,?_,?_,?_,?_,?_,?_,?_,?_,?_,?_⟩ <;> simp[World.cell?,h]
theorem kP{W:World}{y:Nat}{p n:Int}{q:Pg}(h:W.heap[y]?=some (eL p n q))(j:Nat):W.frozen? ⟨y,j,none⟩=false:=by simp[World.frozen?,h]
theorem rL{w b B m}(h:MpA w b B m)(i:Int):PgOk (cK m i):=by
 unfold cK;split
 ·rename_i hi;obtain⟨k,rfl,hk⟩:=gS hi;exact h.ok k hk
 ·exact PgOk.zero
def dH(x:Bx)(t:Bt)(p:Nat):Pg:=cK t.m ((bF x p/4096:Nat):Int)
def fY(x:Bx)(t:Bt)(p:Nat):Nat:=bF x p%4096/aH (dH x t p).cl.toNat
def jH(x:Bx)(t:Bt)(p:Nat):Bool:=decide ((dH x t p).kd=4) && decide (bF x p%4096%aH (dH x t p).cl.toNat=0)
theorem yD{w W sb lw x t h}(s:SW w W sb lw x t h)(p:Nat)(hp:p<18446744073709551616)(hB:jH x t p=true):
  Calls prog 192 #[.pointer (some ⟨sb,0,none⟩),.int .u64 p] W fun e w'=>e=.returned (.tuple #[oY ((bF x p/4096:Nat):Int) ((fY x t p:Nat):Int) (dH x t p),.bool true])/\Kt nO W w':=by
 have K0:=aA ((Kt.refl nO W).alloc gW);have S0:=aA (s.keep K0.out);have X0:=aA (show(W.alloc gW).heap[W.heap.size]?=some (eL 0 0 aQ)from nH W gW);have PG:=aA (uC S0.out p hp);obtain⟨d,hd⟩:=xe (bF x p);obtain⟨g,hg⟩:=xe (d/4096);obtain⟨f,hf⟩:=xe (d%4096);obtain⟨q,hq⟩:=xe (dH x t p);have ok:PgOk q:=by rw[hq];exact rL s.pl.bd.mp _
 obtain⟨c,hc⟩:=Int.eq_ofNat_of_zero_le ok.c0;have hc8:c<8:=by have:=ok.c7;omega
 have hcn:(dH x t p).cl.toNat=c:=by rw[<-hq,hc];rfl
 have hbb:x.bS<18446744073709551616:=by have:=s.pl.bd.sp.cfg.be;omega
 have hw:=wA p x.bS hp hbb;rw[show(p+18446744073709551616-x.bS)%18446744073709551616=d from hd.symm] at hw;have hdb:d<18446744073709551616:=by rw[hd];exact Nat.mod_lt _ (by decide)
 have hdi:(d:Int)%4096=(f:Int):=by omega
 have hfb:f<4096:=by omega
 have hgb:g<4503599627370496:=by omega
 rw[<-hd,<-hg] at PG;obtain⟨r,hr⟩:=xe (aB t.m.n (g:Int));have HA:=aA (show ∀ W',MpA W' x.m x.B t.m->Calls prog 72 #[.pointer (some ⟨x.m,0,none⟩),.int .i64 g] W' fun e w'=>e=.returned (.tuple #[cE q,.bool r])/\Kt nO W' w' from fun W' hW=>by
  rw[hr,show q=cK t.m (g:Int)by rw[hq,hg,hd];rfl];exact jP x.m x.B t.m (g:Int) W' hW)
 obtain⟨z,hz⟩:=xe (16*2 ^ c);have hzb:=eH hc8;unfold aH at hzb;rw[<-hz] at hzb;have hz0:¬(z:Int)=0:=by omega
 have hz1:((z:Int) == 0)=false:=by rw[beq_eq_false_iff_ne];exact hz0
 have hci:(c:Int)<8:=by omega
 unfold jH at hB;rw[hcn,<-hq,<-hd,<-hf,show aH c=z from hz.symm] at hB;rw[show bF x p/4096=g by rw[hg,hd],show fY x t p=f/z by unfold fY;rw[hcn,<-hd,<-hf,hz];rfl,<-hq];obtain⟨n,hn⟩:=xe (f/z);have hni:(f:Int)/(z:Int)=n:=by rw[hn];rfl
 have hnb:n<=4096:=by rw[hn];exact Nat.le_trans (Nat.div_le_self _ _) (by omega)
 rw[<-hn];rw[Bool.and_eq_true,decide_eq_true_iff,decide_eq_true_iff] at hB;obtain⟨hB1,hB2⟩:=hB;have HB1:=aA (show(q.kd != 4)=false from by rw[hB1];rfl);have hm0:(f:Int)%(z:Int)=0:=by rw[<-Int.natCast_emod,hB2];rfl
 have HC:=aA hc;clear hc;have HT:=aA s.tab;have TB:=aA (show ∀ W',Kt nO W W'->W'.cell? ⟨0,c,none⟩=some (.int .u64 z)from fun W' k=>by rw[hz];exact k.cell id (HT.out c hc8));clear s hd hg hf hq hr hz hcn hbb ok hn hB1 hB2 hp;obtain⟨c0,c1⟩:=S0.out.c0;go_enter func192,ntmps192;go_upto_region 1 with fail;obtain⟨y,hy⟩:=xe (W.heap.size);have HY:=aA (show W.heap.size<=y from Nat.le_of_eq hy.symm);rw[<-hy] at X0;rw[<-hy];clear hy;generalize W.alloc gW=W0 at *;go_wp2_with fail;refine PG.out.mono ?_;rintro e w1 ⟨rfl,h1⟩;replace h1:=h1.symm;subst h1;have MP:=aA (bZ S0.out.pl);go_wp2_with fail;refine MP.out.mono ?_;rintro e w2 ⟨rfl,h2⟩;replace h2:=h2.symm;subst h2;go_wp2_with fail;refine(HA.out _ S0.out.pl.bd.mp).mono ?_;rintro e w3 ⟨rfl,hk⟩;have K3:=aA (hk.alloc (aM q));have X3:=aA (nH w3 (aM q));have S3:=aA (S0.out.keep K3.out);have Y3:=aA ((K3.out.block _ (lH X0.out) id).trans X0.out);have KW:=aA (nT K0.out K3.out);have ct:=TB.out _ KW.out;clear hk c0 c1;go_upto_region 3 with fail;generalize w3.heap.size=u at *;generalize w3.alloc (aM q)=W3 at *;obtain⟨c0,c1⟩:=S3.out.c0;have hb1:=HB1.out;obtain⟨p0,p1,p2,p3,p4,p5,p6,p7,p8,p9,p10⟩:=fO X3.out;rw[HC.out] at p2;obtain⟨x0,x1,x2,x3,x4,x5,x6,x7,x8,x9,x10,x11,x12⟩:=dN Y3.out;have xf:=kP Y3.out;go_wp2_with fail;go_region
 all_goals
  have HYY:=aA (show y<W.heap.size->nO y from fun e=>absurd e (Nat.not_lt.2 HY.out));have X8:=aA (wC (W:=W3) (y:=y) Y3.out (v0:=.int .i64 g) (v1:=.int .i64 n) (v2:=.int .i64 q.kd) (v3:=.int .i64 q.od) (v4:=.int .i64 c) (v5:=.int .i64 q.lv) (v6:=.int .i64 q.nx) (v7:=.int .i64 q.pv) (v8:=.int .i64 q.fs) (v9:=.int .u64 q.b0) (v10:=.int .u64 q.b1) (v11:=.int .u64 q.b2) (v12:=.int .u64 q.b3));have K8:=aA (((((((((((((KW.out.setNew (p:=⟨y,0,none⟩) HYY.out (.int .i64 g)).setNew (p:=⟨y,1,none⟩) HYY.out (.int .i64 n)).setNew (p:=⟨y,2,none⟩) HYY.out (.int .i64 q.kd)).setNew (p:=⟨y,3,none⟩) HYY.out (.int .i64 q.od)).setNew (p:=⟨y,4,none⟩) HYY.out (.int .i64 c)).setNew (p:=⟨y,5,none⟩) HYY.out (.int .i64 q.lv)).setNew (p:=⟨y,6,none⟩) HYY.out (.int .i64 q.nx)).setNew (p:=⟨y,7,none⟩) HYY.out (.int .i64 q.pv)).setNew (p:=⟨y,8,none⟩) HYY.out (.int .i64 q.fs)).setNew (p:=⟨y,9,none⟩) HYY.out (.int .u64 q.b0)).setNew (p:=⟨y,10,none⟩) HYY.out (.int .u64 q.b1)).setNew (p:=⟨y,11,none⟩) HYY.out (.int .u64 q.b2)).setNew (p:=⟨y,12,none⟩) HYY.out (.int .u64 q.b3));generalize (((((((((((((W3.setCell ⟨y,0,none⟩ (.int .i64 g)).setCell ⟨y,1,none⟩ (.int .i64 n)).setCell ⟨y,2,none⟩ (.int .i64 q.kd)).setCell ⟨y,3,none⟩ (.int .i64 q.od)).setCell ⟨y,4,none⟩ (.int .i64 c)).setCell ⟨y,5,none⟩ (.int .i64 q.lv)).setCell ⟨y,6,none⟩ (.int .i64 q.nx)).setCell ⟨y,7,none⟩ (.int .i64 q.pv)).setCell ⟨y,8,none⟩ (.int .i64 q.fs)).setCell ⟨y,9,none⟩ (.int .u64 q.b0)).setCell ⟨y,10,none⟩ (.int .u64 q.b1)).setCell ⟨y,11,none⟩ (.int .u64 q.b2)).setCell ⟨y,12,none⟩ (.int .u64 q.b3))=W8 at *;have K9:=aA (show Kt nO W W8.drew from K8.out.drew);have X9:=aA (show W8.drew.heap[y]?=some (eL (g:Int) (n:Int) q)from by
   have:=X8.out;rw[<-HC.out] at this;exact this)
  generalize W8.drew=W9 at *;clear p0 p1 p2 p3 p4 p5 p6 p7 p8 p9 p10 x0 x1 x2 x3 x4 x5 x6 x7 x8 x9 x10 x11 x12;obtain⟨x0,x1,x2,x3,x4,x5,x6,x7,x8,x9,x10,x11,x12⟩:=dN X9.out;go_wp2_with fail;exact⟨rfl,_,by simp[results,results192,go_sem,x0,x1,x2,x3,x4,x5,x6,x7,x8,x9,x10,x11,x12],rfl,K9.out⟩
theorem JG{w W sb lw x t h}(s:SW w W sb lw x t h)(p:Nat)(hp:p<18446744073709551616)(hB:jH x t p=false):
  Calls prog 192 #[.pointer (some ⟨sb,0,none⟩),.int .u64 p] W fun e w'=>e=.returned (.tuple #[oY 0 0 aQ,.bool false])/\Kt nO W w':=by
 have K0:=aA ((Kt.refl nO W).alloc gW);have S0:=aA (s.keep K0.out);have X0:=aA (show(W.alloc gW).heap[W.heap.size]?=some (eL 0 0 aQ)from nH W gW);have PG:=aA (uC S0.out p hp);obtain⟨d,hd⟩:=xe (bF x p);obtain⟨g,hg⟩:=xe (d/4096);obtain⟨f,hf⟩:=xe (d%4096);obtain⟨q,hq⟩:=xe (dH x t p);have ok:PgOk q:=by rw[hq];exact rL s.pl.bd.mp _
 obtain⟨c,hc⟩:=Int.eq_ofNat_of_zero_le ok.c0;have hc8:c<8:=by have:=ok.c7;omega
 have hcn:(dH x t p).cl.toNat=c:=by rw[<-hq,hc];rfl
 have hbb:x.bS<18446744073709551616:=by have:=s.pl.bd.sp.cfg.be;omega
 have hw:=wA p x.bS hp hbb;rw[show(p+18446744073709551616-x.bS)%18446744073709551616=d from hd.symm] at hw;have hdb:d<18446744073709551616:=by rw[hd];exact Nat.mod_lt _ (by decide)
 have hdi:(d:Int)%4096=(f:Int):=by omega
 have hfb:f<4096:=by omega
 have hgb:g<4503599627370496:=by omega
 rw[<-hd,<-hg] at PG;obtain⟨r,hr⟩:=xe (aB t.m.n (g:Int));have HA:=aA (show ∀ W',MpA W' x.m x.B t.m->Calls prog 72 #[.pointer (some ⟨x.m,0,none⟩),.int .i64 g] W' fun e w'=>e=.returned (.tuple #[cE q,.bool r])/\Kt nO W' w' from fun W' hW=>by
  rw[hr,show q=cK t.m (g:Int)by rw[hq,hg,hd];rfl];exact jP x.m x.B t.m (g:Int) W' hW)
 obtain⟨z,hz⟩:=xe (16*2 ^ c);have hzb:=eH hc8;unfold aH at hzb;rw[<-hz] at hzb;have hz0:¬(z:Int)=0:=by omega
 have hz1:((z:Int) == 0)=false:=by rw[beq_eq_false_iff_ne];exact hz0
 have hci:(c:Int)<8:=by omega
 unfold jH at hB;rw[hcn,<-hq,<-hd,<-hf,show aH c=z from hz.symm] at hB;have hBB:q.kd≠4\/(q.kd=4/\f%z≠0):=by
  by_cases e:q.kd=4
  ·right
   refine⟨e,fun e2=>?_⟩;rw[decide_eq_true e,decide_eq_true e2] at hB
   cases hB
  ·exact .inl e
 have HC:=aA hc;clear hc;have HT:=aA s.tab;have TB:=aA (show ∀ W',Kt nO W W'->W'.cell? ⟨0,c,none⟩=some (.int .u64 z)from fun W' k=>by rw[hz];exact k.cell id (HT.out c hc8));clear s hd hg hf hq hr hz hcn hbb ok hB hp;obtain⟨c0,c1⟩:=S0.out.c0;go_enter func192,ntmps192;go_upto_region 1 with fail;obtain⟨y,hy⟩:=xe (W.heap.size);have HY:=aA (show W.heap.size<=y from Nat.le_of_eq hy.symm);rw[<-hy] at X0;rw[<-hy];clear hy;generalize W.alloc gW=W0 at *;have zz:aQ.kd=0:=rfl;rcases hBB with hB1|⟨hB1,hB2⟩
 ·have HB1:=aA (show(q.kd != 4)=true from bne_iff_ne.2 hB1);clear hB1;go_wp2_with fail;refine PG.out.mono ?_;rintro e w1 ⟨rfl,h1⟩;replace h1:=h1.symm;subst h1;have MP:=aA (bZ S0.out.pl);go_wp2_with fail;refine MP.out.mono ?_;rintro e w2 ⟨rfl,h2⟩;replace h2:=h2.symm;subst h2;go_wp2_with fail;refine(HA.out _ S0.out.pl.bd.mp).mono ?_;rintro e w3 ⟨rfl,hk⟩;have K3:=aA (hk.alloc (aM q));have X3:=aA (nH w3 (aM q));have S3:=aA (S0.out.keep K3.out);have Y3:=aA ((K3.out.block _ (lH X0.out) id).trans X0.out);have KW:=aA (nT K0.out K3.out);have ct:=TB.out _ KW.out;clear hk c0 c1;go_upto_region 3 with fail;generalize w3.heap.size=u at *;generalize w3.alloc (aM q)=W3 at *;obtain⟨c0,c1⟩:=S3.out.c0;have hb1:=HB1.out;obtain⟨p0,p1,p2,p3,p4,p5,p6,p7,p8,p9,p10⟩:=fO X3.out;rw[HC.out] at p2;obtain⟨x0,x1,x2,x3,x4,x5,x6,x7,x8,x9,x10,x11,x12⟩:=dN Y3.out;have xf:=kP Y3.out;go_wp2_with fail;exact⟨rfl,_,by simp[results,results192,go_sem,aQ,x0,x1,x2,x3,x4,x5,x6,x7,x8,x9,x10,x11,x12],rfl,FK (p:=0) (n:=0) (q:=aQ) KW.out (fun e=>absurd e (Nat.not_lt.2 HY.out))⟩
 ·have HB1:=aA (show(q.kd != 4)=false from by rw[hB1];rfl);clear hB1;have hm0:¬(f:Int)%(z:Int)=0:=by
   rw[<-Int.natCast_emod];omega
  have hm1:((f:Int)%(z:Int) != 0)=true:=bne_iff_ne.2 hm0;go_wp2_with fail;refine PG.out.mono ?_;rintro e w1 ⟨rfl,h1⟩;replace h1:=h1.symm;subst h1;have MP:=aA (bZ S0.out.pl);go_wp2_with fail;refine MP.out.mono ?_;rintro e w2 ⟨rfl,h2⟩;replace h2:=h2.symm;subst h2;go_wp2_with fail;refine(HA.out _ S0.out.pl.bd.mp).mono ?_;rintro e w3 ⟨rfl,hk⟩;have K3:=aA (hk.alloc (aM q));have X3:=aA (nH w3 (aM q));have S3:=aA (S0.out.keep K3.out);have Y3:=aA ((K3.out.block _ (lH X0.out) id).trans X0.out);have KW:=aA (nT K0.out K3.out);have ct:=TB.out _ KW.out;clear hk c0 c1;go_upto_region 3 with fail;generalize w3.heap.size=u at *;generalize w3.alloc (aM q)=W3 at *;obtain⟨c0,c1⟩:=S3.out.c0;have hb1:=HB1.out;obtain⟨p0,p1,p2,p3,p4,p5,p6,p7,p8,p9,p10⟩:=fO X3.out;rw[HC.out] at p2;obtain⟨x0,x1,x2,x3,x4,x5,x6,x7,x8,x9,x10,x11,x12⟩:=dN Y3.out;have xf:=kP Y3.out;go_wp2_with fail;exact⟨rfl,_,by simp[results,results192,go_sem,aQ,x0,x1,x2,x3,x4,x5,x6,x7,x8,x9,x10,x11,x12],rfl,FK (p:=0) (n:=0) (q:=aQ) KW.out (fun e=>absurd e (Nat.not_lt.2 HY.out))⟩
end Go.Proofs.YtkfmheelhinjdaaGreatDoor
