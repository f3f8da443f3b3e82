import Derived.Test.YtkfmheelhinjdaaGreatDoorWg
import Derived.Test.YtkfmheelhinjdaaGreatDoorWm
import Derived.Test.YtkfmheelhinjdaaGreatDoorWk
set_option maxRecDepth 1000000
set_option maxHeartbeats 80000000
namespace Go.Proofs.YtkfmheelhinjdaaGreatDoor
open Tryz
open Go.RowKit
set_option linter.unusedVariables false
theorem qL{W:World}{b:Nat}{e:TypeId}{size:Nat}{v:Value}{n:Nat}{xs:List Value}(h:W.ownsRow b e size v n xs):∃ va vc,v=.slice va n vc:=by
 rcases h.2 with ⟨h0,h1⟩|⟨g,cap,cur,h0,_⟩
 ·exact⟨none,0,by rw[h0,h1]⟩
 ·exact⟨_,_,h0⟩
theorem rU{W:World}{b:Nat}{e:TypeId}{size:Nat}{v:Value}{n:Nat}{xs:List Value}(h:W.ownsRow b e size v n xs){y:Nat}(hy:v.ownBlock=some y):∃ cs,W.heap[y]?=some (.cells cs e (0,0)):=by
 rcases h.2 with ⟨h0,_⟩|⟨g,cap,cur,h0,hb,hg,h3⟩
 ·rw[h0] at hy;simp[Value.ownBlock] at hy
 ·rw[h0] at hy;simp[Value.ownBlock] at hy;subst hy;exact⟨_,hg⟩
theorem xX{m:Mp}{p i:Nat}{l:Bool}(hp:p<m.n)(hk:(m.pg p).kd=4)(hi:i<eL (m.pg p).cl)(hl:aH (m.pg p) i=!l):dV m (p:Int) (i:Int) l=0/\cQ m (p:Int) (i:Int) l={ m with pg:=aJ m.pg p (bT (m.pg p) i) }:=by
 have hc:iT m (p:Int) (i:Int) l=true:=by
  unfold iT mX;rw[Int.toNat_natCast,Int.toNat_natCast,dH hp,decide_eq_true hk,dH hi,hl]
  cases l <;> rfl
 unfold dV cQ;rw[if_pos hc,if_pos hc,Int.toNat_natCast,Int.toNat_natCast];exact⟨rfl,rfl⟩
theorem AC{m:Mp}{p:Nat}{c:Int}(hp:p<m.n)(hk:(m.pg p).kd=4)(hc:c = -1\/∃ j:Nat,c=(j:Int)/\j<eL (m.pg p).cl):fL m (p:Int) c={ m with pg:=aJ m.pg p { m.pg p with fs:=c } }:=by
 have h:kB m (p:Int) c=true:=by
  unfold kB;rw[Int.toNat_natCast,dH hp,decide_eq_true hk];rcases hc with rfl|⟨j,rfl,hj⟩
  ·rfl
  ·rw[dH hj,Bool.or_true];rfl
 unfold fL;rw[if_pos h,Int.toNat_natCast]
def lS(m:Mp)(p i:Nat)(r:List Nat):Mp:=fL (cQ m (p:Int) (i:Int) true) (p:Int) (bD r)
def dQ(m:Mp)(p i:Nat)(r:List Nat):Mp:=if r=[] then iA (lS m p i r) (p:Int) else lS m p i r
def fG(m:Mp)(h:Nat->Int)(p k i:Nat)(r:List Nat):Nat->Int:=if r=[] then iE (lS m p i r) h (p:Int) k else h
theorem wG{w W sb lw x t fr ls S h}(o:SO w W sb lw x t fr ls S h)(p k i:Nat)(r:List Nat)(hc:S.c p=some k)(hf:S.fl p=i :: r):
  Calls prog 162 #[.pointer (some ⟨sb,0,none⟩),.int .i64 p,.int .i64 k] W fun e w'=>e=.returned (.tuple #[.int .u64 ((aP x p k i:Nat):Int),.int .i64 0])/\SE w W sb lw x t (dQ t.m p i r) (fG t.m h p k i r) w':=by
 obtain⟨hk,sp⟩:=o.si.pg p k hc;obtain⟨nd,lt,lk⟩:=o.si.fl p k hc;have hlv:=o.si.lv p k hc;obtain⟨hls,hpn,hp1,hpb⟩:=o.mem hc;have n4:=o.po.nums.2.2.2.1;rw[hf] at nd lt lk hlv;have hib:i<aG k:=lt i List.mem_cons_self;have hnb:=dL hk;have hoff:=kC (x:=x) (p:=p) hk hib (by omega);have hin:M.In x.bS x.n (aP x p k i) 8:=by
  have hz:=dT hk;unfold M.In;have e:aP x p k i=x.bS+4096*p+i*aE k:=rfl;omega
 have hao:aP x p k i-x.bS=4096*p+i*aE k:=by
  have e:aP x p k i=x.bS+4096*p+i*aE k:=rfl;omega
 have hcn:eL (t.m.pg p).cl=aG k:=by rw[sp.cl];rfl
 have hlit:aH (t.m.pg p) i=!true:=by
  rw[sp.bt i (by omega),hf];exact decide_eq_false (fun e=>e.2 List.mem_cons_self)
 obtain⟨hoE,hoM⟩:=xX hpn sp.kd (by rw[hcn];exact hib) hlit;have hnx:∃ nx:Int,nx=bD r/\∀ W',Kt nO W W'->Calls prog 199 #[.pointer (some ⟨sb,0,none⟩),.int .u64 ((aP x p k i:Nat):Int),.int .i64 p] W' fun e w'=>e=.returned (.tuple #[.int .i64 nx,.bool true])/\Kt nO W' w':=by
  cases r with
  | nil=>exact⟨-1,rfl,fun W' kk=>UK (o.sw.keep kk) _ _ hin (by rw[hao];exact lk.1)⟩
  | cons j r'=>
   have hjb:j<aG k:=lt j (List.mem_cons_of_mem _ List.mem_cons_self);have hj3:=kC (x:=x) (p:=p) hk hjb (by omega);obtain⟨a1,a2,a3,a4⟩:=sH (x:=x) (t:=t) hk hjb (by omega) hpn sp.kd sp.cl;refine⟨(j:Int),rfl,fun W' kk=>?_⟩;have:=UJ (o.sw.keep kk) (aP x p k i) p (aP x p k j) hin (by rw[hao];exact lk.1) (by
    have e:aP x p k j=x.bS+4096*p+j*aE k:=rfl;have:=o.sw.pl.bd.sp.cfg.b1;omega) hj3.2.2 a1 a2
   rw[a4] at this;exact this
 obtain⟨nx,hnx1,hnx2⟩:=hnx;have NX:=aA hnx2;obtain⟨q,hq⟩:=xe (t.m.pg p);have HA:=aA (show Calls prog 72 #[.pointer (some ⟨x.m,0,none⟩),.int .i64 p] W fun e w'=>e=.returned (.tuple #[cA q,.bool true])/\Kt nO W w' from by rw[hq];exact lR x.m x.B t.m p W o.sw.pl.bd.mp hpn);have HM:=aA (bX o.sw.pl);have HC:=aA (show q.cl=(k:Int)from by rw[hq];exact sp.cl);have HF:=aA (show q.fs=(i:Int)from by rw[hq,sp.fs,hf];rfl);obtain⟨lv,hlv2⟩:∃ lv:Nat,q.lv=(lv:Int):=⟨_,by rw[hq];exact sp.lv⟩;have hlvr:lv=aG k-(r.length+1):=by
  have:=sp.lv;rw[<-hq,hlv2,hf] at this;have:=Int.ofNat.inj this;rw[this];rfl
 have HL:=aA hlv2;obtain⟨a,ha⟩:=xe (aP x p k i);have AD:=aA (show ∀ W',Kt nO W W'->Calls prog 198 #[.pointer (some ⟨sb,0,none⟩),.int .i64 p,.int .i64 k,.int .i64 i] W' fun e w'=>e=.returned (.int .u64 a)/\Kt nO W' w' from fun W' kk=>by
  rw[ha];exact RJ (o.sw.keep kk) p k i (by omega) hk (by omega))
 rw[<-ha] at NX ⊢;obtain⟨m1,hm1⟩:=xe (cQ t.m (p:Int) (i:Int) true);have OW:=aA (show ∀ W',Kt nO W W'->Calls prog 200 #[.pointer (some ⟨x.m,0,none⟩),.int .i64 p,.int .i64 i,.bool true] W' fun e w'=>e=.returned (.int .i64 0)/\SD w W' sb lw x t h m1 w' from fun W' kk=>by
  have:=DJ (o.sw.keep kk) (p:Int) (i:Int) true;rw[hoE,<-hm1] at this;exact this)
 have FR:=aA (show ∀ W',SW w W' sb lw x { t with m:=m1 } h->Calls prog 196 #[.pointer (some ⟨x.m,0,none⟩),.int .i64 p,.int .i64 nx] W' fun e w'=>e=.returned (.int .i64 (jF m1 (p:Int) nx))/\SD w W' sb lw x { t with m:=m1 } h (fL m1 (p:Int) nx) w' from fun W' s=>xF s (p:Int) nx);obtain⟨m2,hm2⟩:=xe (fL m1 (p:Int) nx);have hM2:lS t.m p i r=m2:=by unfold lS;rw[hm2,hm1,hnx1]
 rw[<-hm2] at FR;generalize jF m1 (p:Int) nx=fe at *;obtain⟨mF,hmF⟩:=xe (dQ t.m p i r);obtain⟨hF,hhF⟩:=xe (fG t.m h p k i r);rw[<-hmF,<-hhF];unfold dQ at hmF;unfold fG at hhF;rw[hM2] at hmF hhF;have HMF:=aA hmF;have HHF:=aA hhF;have HO:=aA o.sw;obtain⟨c0,c1⟩:=o.sw.c0;have hnl2:=hnb.2.2;have CLS:=aA (show ∀ W' tt,SW w W' sb lw x tt h->Calls prog 201 #[.int .i64 k] W' fun e w'=>e=.returned (.int .i64 ((aG k:Nat):Int))/\w'=W' from fun W' tt s=>LB s k hk);obtain⟨N,hN⟩:=xe (aG k);rw[<-hN] at CLS;have HLR:=aA (show lv+1=N↔r=[] from by
  have h9:r.length+1<=aG k:=hlv;have h8:=hnb.2.1;rw[hlvr,hN];constructor
  ·intro e
   cases r with
   | nil=>rfl
   | cons j r'=>
    exfalso
    rw[List.length_cons] at e h9;omega
  ·intro e;rw[e,List.length_nil];omega)
 have hNb:N<=256:=by rw[hN];exact hnl2
 have hlvb:lv<=256:=by omega
 clear o sp nd lt lk hlv hls hpb n4 hf hib hnb hoff hin hao hcn hlit hoE hoM hnx2 hq hlv2 ha hm1 hm2 hM2 hmF hhF hlvr hN hnl2 hpn hc hnx1;go_enter func162,ntmps162;go_wp2_with fail;refine HM.out.mono ?_;rintro e w1 ⟨rfl,h1⟩;replace h1:=h1.symm;subst h1;go_wp2_with fail;refine HA.out.mono ?_;rintro e w2 ⟨rfl,hk2⟩;have K2:=aA (hk2.alloc (aI q));have X2:=aA (nH w2 (aI q));have S2:=aA (HO.out.keep K2.out);have NY:=aA (show ¬(aC x w2.heap.size\/w2.heap.size=sb)from fun e=>by
  rcases e with e|e
  ·exact absurd ((HO.out.keep hk2).pl.lt _ (.inl e)) (Nat.lt_irrefl _)
  ·have:=lH (HO.out.keep hk2).bx;omega)
 clear hk2 c0 c1;go_upto_region 2 with fail;generalize w2.heap.size=y at *;generalize w2.alloc (aI q)=W2 at *;have PQ:=aA (show ∀ W':World,W'.heap[y]?=some (aI q)->W'.cell? ⟨y,2,none⟩=some (.int .i64 k)/\W'.cell? ⟨y,3,none⟩=some (.int .i64 lv)/\W'.cell? ⟨y,6,none⟩=some (.int .i64 i)from fun W' hW=>by
  obtain⟨_,_,p2,p3,_,_,p6,_⟩:=fE hW;rw[HC.out] at p2;rw[HL.out] at p3;rw[HF.out] at p6;exact⟨p2,p3,p6⟩)
 obtain⟨p2,p3,p6⟩:=PQ.out _ X2.out;obtain⟨c0,c1⟩:=S2.out.c0;go_wp2_with fail;refine(AD.out _ K2.out).mono ?_;rintro e w3 ⟨rfl,hk3⟩;have K3:=aA (nT K2.out hk3);have X3:=aA ((hk3.block _ (lH X2.out) id).trans X2.out);clear hk3 c0 c1 p2 p3 p6;go_wp2_with fail;refine(NX.out _ K3.out).mono ?_;rintro e w4 ⟨rfl,hk4⟩;have K4:=aA (nT K3.out hk4);have X4:=aA ((hk4.block _ (lH X3.out) id).trans X3.out);have S4:=aA (HO.out.keep K4.out);clear hk4;go_upto_region 6 with fail;have KD:=aA ((Kt.refl nO w4).drew);have K5:=aA (nT K4.out KD.out);have S5:=aA (HO.out.keep K5.out);have X5:=aA ((KD.out.block _ (lH X4.out) id).trans X4.out);have MP:=aA (bX S5.out.pl);obtain⟨p2,p3,p6⟩:=PQ.out _ X5.out;obtain⟨c0,c1⟩:=S5.out.c0;go_region_held3 (fun w'=>w'.cell? ⟨sb,0,none⟩=some (.pointer (some ⟨lw,0,none⟩))/\w'.cell? ⟨y,6,none⟩=some (.int .i64 i)) ((refine⟨?_,?_⟩ <;> first|with_reducible assumption|fail)) (first
  | (go_at_call 200;(with_reducible refine(OW.out _ K5.out).mono ?_);rintro e w6 ⟨rfl,hs6,hk6⟩;obtain⟨f0,f1⟩:=hs6.c0;have X6:=aA ((hk6.block _ (lH X5.out) (fun e=>NY.out (.inl e))).trans X5.out);obtain⟨f2,f3,f6⟩:=PQ.out _ X6.out;have S6:=aA hs6;have K6:=aA (K5.out.trans hk6 (fun _ _ e=>e.elim) (fun _ _ e=>e));clear hs6 hk6)
  | (go_at_call 45;(with_reducible refine MP.out.mono ?_);rintro e w5 ⟨rfl,h5⟩;replace h5:=h5.symm;subst h5)
  | fail)
 all_goals
  clear p2 p3 p6 c0 c1 f2 f3 f6;have MP6:=aA (bX S6.out.pl);go_wp2_with fail;refine MP6.out.mono ?_;rintro e w7 ⟨rfl,h7⟩;replace h7:=h7.symm;subst h7;go_wp2_with fail;refine(FR.out _ S6.out).mono ?_;rintro e w7 ⟨rfl,hs7,hk7⟩;have S7:=aA hs7;have K7:=aA (K6.out.trans hk7 (fun _ _ e=>e) (fun _ _ e=>e));have X7:=aA ((hk7.block _ (lH X6.out) (fun e=>NY.out (.inl e))).trans X6.out);clear hs7 hk7 f0 f1;go_upto_region 9 with fail;obtain⟨p2,p3,p6⟩:=PQ.out _ X7.out;have KD7:=aA ((Kt.refl nO w7).drew);have X8:=aA ((KD7.out.block _ (lH X7.out) id).trans X7.out);obtain⟨q2,q3,q6⟩:=PQ.out _ X8.out;obtain⟨l1,hl1⟩:=xe (lv+1);have hl1i:(lv:Int)+1=(l1:Int):=by omega
  have hl1b:l1<=257:=by omega
  have hlw:IntKind.i64.wrap (l1:Int)=l1:=by rw[IntKind.wrap_i64];omega
  have HL1:=aA hl1;clear hl1;have CL:=aA (CLS.out _ _ (S7.out.keep KD7.out));go_region_held3 (fun w'=>w'.cell? ⟨y,3,none⟩=some (.int .i64 lv)) (first|with_reducible assumption|fail) (first
   | (go_at_call 201;(with_reducible refine CL.out.mono ?_);rintro e w8 ⟨rfl,h8⟩;replace h8:=h8.symm;subst h8)
   | fail)
  all_goals
   have S8:=aA (S7.out.keep KD7.out);have K8:=aA (K7.out.trans KD7.out (fun _ _ e=>e) (fun _ _ e=>e.elim));clear p2 p3 p6 q2 q3 q6 CL;by_cases hr:r=[]
   ·have hb:((l1:Int) == (N:Int))=true:=by
     rw[beq_iff_eq,HL1.out];have:=HLR.out.2 hr;omega
    have UL:=aA (show Calls prog 202 #[.pointer (some ⟨sb,0,none⟩),.int .i64 p,.int .i64 k] w7.drew fun e w'=>e=.returned (.tuple #[])/\SE w w7.drew sb lw x t mF hF w' from by
     have:=LW S8.out (p:Int) k hk;rw[HMF.out,HHF.out,if_pos hr,if_pos hr];exact this)
    generalize w7.drew=W8 at *;as_aux_lemma=>
     go_wp2_with fail;refine UL.out.mono ?_;rintro e w9 ⟨rfl,hs9,hk9⟩;have D:=aA (show SE w W sb lw x t mF hF w9 from⟨hs9,(K8.out.mono (fun _ _ e=>.inl e)).trans hk9 (fun _ _ e=>e) (fun _ _ e=>e)⟩);clear hs9 hk9;go_wp2_with fail;exact⟨rfl,.tuple #[.int .u64 a,.int .i64 0],by simp[results,results162,go_sem],rfl,D.out⟩
   ·have hb:((l1:Int) == (N:Int))=false:=by
     rw[beq_eq_false_iff_ne,HL1.out];intro e;exact hr (HLR.out.1 (by omega))
    have D:=aA (show SE w W sb lw x t mF hF w7.drew from by
     rw[HMF.out,HHF.out,if_neg hr,if_neg hr];exact⟨S8.out,K8.out.mono (fun _ _ e=>.inl e)⟩)
    generalize w7.drew=W8 at *;as_aux_lemma=>
     go_wp2_with fail;exact⟨rfl,.tuple #[.int .u64 a,.int .i64 0],by simp[results,results162,go_sem],rfl,D.out⟩
theorem rQ(x r:Nat):(x/2 ^ r%2 == 1)=x.testBit r:=by
 rw[Nat.testBit_eq_decide_div_mod_eq];rfl
theorem TV(p:Pg)(c j:Nat)(hc:c<256)(hj:j<256):aH (dR p c) j=(if j=c then !aH p c else aH p j):=by
 have key:∀ x:Nat,∀ s r:Nat,(x ^^^ 2 ^ r).testBit s=(if s=r then !x.testBit s else x.testBit s):=fun x s r=>by
  rw[Nat.testBit_xor,Nat.testBit_two_pow];by_cases e:s=r
  ·subst e;simp
  ·have e':¬r=s:=fun h=>e h.symm
   simp[e,e']
 have two:∀ a b:Nat,a/64=b/64->(a%64=b%64↔a=b):=fun a b h=>by omega
 unfold aH;rw[rQ,rQ,rQ];rcases rN hc with h|h|h|h <;> rcases rN hj with g|g|g|g <;> simp only[dR,h,g,wP] <;> first
  |(
   rw[key];by_cases e:j=c
   ·subst e;simp
   ·have e2:¬j%64=c%64:=fun e3=>e ((two j c (by omega)).1 e3)
    simp[e,e2])
  | (rw[if_neg (by omega)])
theorem IS(p:Pg)(c j:Nat)(hc:c<256)(hj:j<256):aH (bT p c) j=(if j=c then !aH p c else aH p j):=by
 rw[<-TV p c j hc hj];unfold aH bT;unfold wP;rfl
def aX{α : Type}(f:Nat->α)(p:Nat)(v : α):Nat->α:=fun r=>if r=p then v else f r
theorem cV{α : Type}(f:Nat->α)(p:Nat)(v : α):aX f p v p=v:=if_pos rfl
theorem cT{α : Type}(f:Nat->α){p r:Nat}(v : α)(h:r≠p):aX f p v r=f r:=if_neg h
structure SlQ(S:Sb)(p k:Nat)(q:Pg):Prop where
 kd:q.kd=4
 od:q.od=0
 cl:q.cl=(k:Int)
 lv:q.lv=((aG k-(S.fl p).length:Nat):Int)
 fs:q.fs=bD (S.fl p)
 bt:∀ i,i<256->aH q i=decide (i<aG k/\i ∉ S.fl p)
theorem SlP.q{S p k q}(h:SlP S p k q):SlQ S p k q:=⟨h.kd,h.od,h.cl,h.lv,h.fs,h.bt⟩
theorem SlQ.p{S p k q}(h:SlQ S p k q)(n:q.nx=bC (S.pl k) p)(v:q.pv=bG (S.pl k) p):SlP S p k q:=⟨h.kd,h.od,h.cl,h.lv,n,v,h.fs,h.bt⟩
theorem zG{q q':Pg}(h0:q'.b0=q.b0)(h1:q'.b1=q.b1)(h2:q'.b2=q.b2)(h3:q'.b3=q.b3)(i:Nat):aH q' i=aH q i:=by
 unfold aH;have:wP q' (i/64)=wP q (i/64):=by
  unfold wP;split <;> assumption
 rw[this]
theorem SlQ.rst{S p k q q'}(h:SlQ S p k q)(r:vA q q'):SlQ S p k q':=by
 obtain⟨a,b,rfl⟩:=r;exact⟨h.kd,h.od,h.cl,h.lv,h.fs,fun i hi=>(zG rfl rfl rfl rfl i).trans (h.bt i hi)⟩
theorem SlQ.congr{S S' p k q}(h:SlQ S p k q)(e:S'.fl p=S.fl p):SlQ S' p k q:=⟨h.kd,h.od,h.cl,by rw[e];exact h.lv,by rw[e];exact h.fs,fun i hi=>by rw[e];exact h.bt i hi⟩
theorem oL{x:Bx}{P:Nat->Option Pg}{f:Nat->Nat}{p k:Nat} : ∀ {l:List Nat},lQ x f p k l->lQ { x with P:=P } f p k l
 | [],_=>trivial
 | i :: l,h=>⟨by
   rw[h.1]
   cases l <;> rfl,oL h.2⟩
theorem yI{pg:Nat->Pg}{l:List Nat}{p r:Nat}(hd:l.Nodup)(hr:r≠p)(hl:r ∉ l):fB pg l p r=pg r:=by
 unfold fB;rw[if_neg hr,if_neg,if_neg]
 ·intro e;rcases lJ l p hd with h|⟨b,h,hb,_⟩
  ·omega
  ·exact hl (by rw[show r=b by omega];exact hb)
 ·intro e;rcases lZ l p hd with h|⟨b,h,hb,_⟩
  ·omega
  ·exact hl (by rw[show r=b by omega];exact hb)
theorem tQ{pg:Nat->Pg}{l:List Nat}{p r:Nat}(hr:r≠p)(hl:r ∉ l):dU pg l p r=pg r:=by
 unfold dU;rw[if_neg hr,if_neg (fun e=>hl (mY e.symm))]
def aO(S:Sb)(p k:Nat)(r:List Nat):Sb:={ S with fl:=aX S.fl p r,pl:=if r=[] then aX S.pl k (M.dropL (S.pl k) p) else S.pl }
theorem TU{S:Sb}{p k i:Nat}{r:List Nat}{q:Pg}(hk:k<8)(h:SlP S p k q)(hf:S.fl p=i :: r)(nd:(S.fl p).Nodup)(hi:i<aG k)(hl:(S.fl p).length<=aG k):
  SlQ (aO S p k r) p k { bT q i with fs:=bD r }/\({ bT q i with fs:=bD r } : Pg).nx=q.nx/\({ bT q i with fs:=bD r } : Pg).pv=q.pv:=by
 obtain⟨t1,t2,t3,t4,t5,t6,t7⟩:=tG q i;have hnb:=dL hk;have hlit:aH q i=false:=by
  rw[h.bt i (by omega),hf];exact decide_eq_false (fun e=>e.2 List.mem_cons_self)
 rw[hf] at nd hl;have hni:i ∉ r:=(List.nodup_cons.1 nd).1;have hfl:(aO S p k r).fl p=r:=cV _ _ _;rw[List.length_cons] at hl;refine⟨⟨t1.trans h.kd,t2.trans h.od,t3.trans h.cl,?_,by rw[hfl],fun j hj=>?_⟩,t5,t6⟩
 ·show wrap64 (if aH q i=true then q.lv-1 else q.lv+1)=_
  rw[hlit,if_neg (by decide),h.lv,hfl,hf,List.length_cons];unfold wrap64;omega
 ·have e1:aH { bT q i with fs:=bD r } j=aH (bT q i) j:=zG rfl rfl rfl rfl j;rw[e1,IS q i j (by omega) hj,hfl];by_cases e:j=i
  ·rw[if_pos e,hlit];symm;exact decide_eq_true ⟨by omega,by rw[e];exact hni⟩
  ·rw[if_neg e,h.bt j hj,hf];apply decide_eq_decide.2
   rw[List.mem_cons,not_or];exact⟨fun h=>⟨h.1,h.2.2⟩,fun h=>⟨h.1,e,h.2⟩⟩
theorem TT{m:Mp}{p i k:Nat}{r:List Nat}(hp:p<m.n)(hkd:(m.pg p).kd=4)(hcl:(m.pg p).cl=(k:Int))(hi:i<aG k)(hlit:aH (m.pg p) i=false)(hr:∀ j∈r,j<aG k):lS m p i r={ m with pg:=aJ m.pg p { bT (m.pg p) i with fs:=bD r } }:=by
 have hcn:eL (m.pg p).cl=aG k:=by rw[hcl];rfl
 unfold lS;rw[(xX hp hkd (by rw[hcn];exact hi) (by rw[hlit];rfl)).2];obtain⟨t1,t2,t3,_⟩:=tG (m.pg p) i;have e1:aJ m.pg p (bT (m.pg p) i) p=bT (m.pg p) i:=if_pos rfl;rw[AC (m:={ m with pg:=aJ m.pg p (bT (m.pg p) i) }) hp (by show(aJ m.pg p _ p).kd=4;rw[e1];exact t1.trans hkd) (by
  rcases oP r with e|⟨j,e,hj⟩
  ·exact .inl e
  ·refine .inr ⟨j,e,?_⟩;show j<eL (aJ m.pg p _ p).cl
   rw[e1,show(bT (m.pg p) i).cl=(m.pg p).cl from t3,hcn];exact hr j hj)]
 show({ m with pg:=aJ (aJ m.pg p (bT (m.pg p) i)) p { aJ m.pg p (bT (m.pg p) i) p with fs:=bD r } } : Mp)=_
 rw[e1];refine congrArg (fun g=>({ m with pg:=g } : Mp)) (funext fun a=>?_);unfold aJ;by_cases e:a=p
 ·rw[if_pos e,if_pos e]
 ·rw[if_neg e,if_neg e,if_neg e]
theorem SO.hand{w W sb lw x t fr ls S h w'}(o:SO w W sb lw x t fr ls S h){p k i:Nat}{r:List Nat}(hc:S.c p=some k)(hf:S.fl p=i :: r)(se:SE w W sb lw x t (dQ t.m p i r) (fG t.m h p k i r) w'):
  SO w w' sb lw { x with P:=iY (aO S p k r) (dQ t.m p i r) } { t with m:=dQ t.m p i r } fr ls (aO S p k r) (fG t.m h p k i r):=by
 obtain⟨hk,sp⟩:=o.si.pg p k hc;obtain⟨nd,lt,lk⟩:=o.si.fl p k hc;have hlv:=o.si.lv p k hc;obtain⟨hls,hpn,_⟩:=o.mem hc;have hnb:=dL hk;have hib:i<aG k:=lt i (by rw[hf];exact List.mem_cons_self);have hlit:aH (t.m.pg p) i=false:=by
  rw[sp.bt i (by omega),hf];exact decide_eq_false (fun e=>e.2 List.mem_cons_self)
 have e2:=TT (r:=r) hpn sp.kd sp.cl hib hlit (fun j hj=>lt j (by rw[hf];exact List.mem_cons_of_mem _ hj));obtain⟨q2,q2n,q2v⟩:=TU hk sp hf nd hib hlv;generalize hq2:({ bT (t.m.pg p) i with fs:=bD r } : Pg)=Q2 at *;have hpl:p∈S.pl k:=(o.si.pm k hk p).2 ⟨hc,by rw[hf];exact List.cons_ne_nil _ _⟩;have hln:(S.pl k).Nodup:=o.si.pn k hk
 have pg2:∀ a c,S.c a=some c->SlQ (aO S p k r) a c (aJ t.m.pg p Q2 a)/\(aJ t.m.pg p Q2 a).nx=bC (S.pl c) a/\(aJ t.m.pg p Q2 a).pv=bG (S.pl c) a:=fun a c ha=>by
  obtain⟨hc8,sa⟩:=o.si.pg a c ha;unfold aJ;by_cases e:a=p
  ·subst e;rw[hc] at ha
   cases ha
   rw[if_pos rfl,q2n,q2v];exact⟨q2,sp.nx,sp.pv⟩
  ·rw[if_neg e];exact⟨sa.q.congr (cT _ _ e),sa.nx,sa.pv⟩
 have hout2:∀ a,S.c a=none->aJ t.m.pg p Q2 a=t.m.pg a:=fun a ha=>by
  unfold aJ;rw[if_neg];intro e;rw[e,hc] at ha
  cases ha
 -- the pages in the end
 obtain⟨pgF,hpgF,hF1,hF2,hF3,hF4⟩:∃ pgF:Nat->Pg,dQ t.m p i r={ t.m with pg:=pgF }/\(∀ a,S.c a=none->pgF a=t.m.pg a)/\(∀ a c,S.c a=some c->SlQ (aO S p k r) a c (pgF a)/\(pgF a).nx=bC ((aO S p k r).pl c) a/\(pgF a).pv=bG ((aO S p k r).pl c) a)/\(∀ c,c<8->fG t.m h p k i r c=bD ((aO S p k r).pl c))/\True:=by
  by_cases hr:r=[]
  ·have hU:=CI (m:={ t.m with pg:=aJ t.m.pg p Q2 }) (h:=h) (c:=k) hln hpl (fun a ha=>by
    have hca:=((o.si.pm k hk a).1 ha).1;obtain⟨h1,h2,h3⟩:=pg2 a k hca;exact⟨(o.mem hca).2.1,h1.kd,h2,h3⟩)
   have ePl:(aO S p k r).pl=aX S.pl k (M.dropL (S.pl k) p):=(by unfold aO;rw[if_pos hr]);have np:NP (aJ t.m.pg p Q2) S k (S.pl k):=fun a ha=>(pg2 a k ha).2
   have np2:=CD np hln hpl;refine⟨fB (aJ t.m.pg p Q2) (S.pl k) p,?_,fun a ha=>?_,fun a c ha=>?_,fun c hc8=>?_,trivial⟩
   ·unfold dQ;rw[if_pos hr,e2,hU.1]
   ·have hap:a≠p:=fun e=>by rw[e,hc] at ha;cases ha
    have hal:a ∉ S.pl k:=fun e=>by rw[((o.si.pm k hk a).1 e).1] at ha;cases ha
    rw[yI hln hap hal];exact hout2 a ha
   ·obtain⟨h1,h2,h3⟩:=pg2 a c ha;refine⟨h1.rst (LZ _ _ _ _),?_⟩;rw[ePl];by_cases e:c=k
    ·subst e;rw[cV];exact np2 a ha
    ·rw[cT _ _ e];have hap:a≠p:=fun e3=>by rw[e3,hc] at ha;cases ha;exact e rfl
     have hal:a ∉ S.pl k:=fun e3=>by rw[((o.si.pm k hk a).1 e3).1] at ha;cases ha;exact e rfl
     rw[yI hln hap hal];exact⟨h2,h3⟩
   ·unfold fG;rw[if_pos hr,e2,hU.2,ePl];by_cases e:c=k
    ·subst e;rw[cV,tO hln hpl];by_cases e3:bG (S.pl c) p = -1
     ·rw[if_pos e3,if_pos e3];exact if_pos rfl
     ·rw[if_neg e3,if_neg e3];exact o.hd c hc8
    ·rw[cT _ _ e];by_cases e3:bG (S.pl k) p = -1
     ·rw[if_pos e3];exact(if_neg e).trans (o.hd c hc8)
     ·rw[if_neg e3];exact o.hd c hc8
  ·have ePl:(aO S p k r).pl=S.pl:=(by unfold aO;rw[if_neg hr]);refine⟨aJ t.m.pg p Q2,?_,hout2,fun a c ha=>?_,fun c hc8=>?_,trivial⟩
   ·unfold dQ;rw[if_neg hr,e2]
   ·rw[ePl];exact pg2 a c ha
   ·unfold fG;rw[if_neg hr,ePl];exact o.hd c hc8
 have hsw:=se.1;rw[hpgF] at hsw ⊢;have hfl:∀ a c,S.c a=some c->((aO S p k r).fl a=r/\a=p)\/((aO S p k r).fl a=S.fl a/\a≠p):=fun a c ha=>by
  by_cases e:a=p
  ·exact .inl ⟨by rw[e];exact cV _ _ _,e⟩
  ·exact .inr ⟨cT _ _ e,e⟩
 refine⟨hsw.reP _,o.sf.repaint S (aO S p k r) o.si.eP { t.m with pg:=pgF } rfl rfl rfl (fun a ha=>?_) (fun a c ha=>⟨(hF2 a c ha).1.kd,(o.mem ha).1⟩),o.st,o.bm,⟨rfl,fun a c ha=>⟨(o.si.pg a c ha).1,(hF2 a c ha).1.p (hF2 a c ha).2.1 (hF2 a c ha).2.2⟩,fun a c ha=>?_,fun a c ha=>?_,fun c hc8=>?_,fun c hc8 a=>?_⟩,hF3⟩
 ·have ha:S.c a=none:=ha;rw[if_pos ha];exact hF1 a ha
 ·replace ha:S.c a=some c:=ha;obtain⟨n1,n2,n3⟩:=o.si.fl a c ha;rcases hfl a c ha with ⟨e,rfl⟩|⟨e,_⟩
  ·rw[e];rw[hc] at ha
   cases ha
   rw[hf] at n1 n2 n3;exact⟨(List.nodup_cons.1 n1).2,fun j hj=>n2 j (List.mem_cons_of_mem _ hj),oL n3.2⟩
  ·rw[e];exact⟨n1,n2,oL n3⟩
 ·have hl:=o.si.lv a c ha;rcases hfl a c ha with ⟨e,rfl⟩|⟨e,_⟩
  ·rw[e];rw[hf,List.length_cons] at hl;omega
  ·rw[e];exact hl
 ·have:=o.si.pn c hc8;unfold aO;by_cases hr:r=[]
  ·rw[if_pos hr];show(aX S.pl k _ c).Nodup
   by_cases e:c=k
   ·subst e;rw[cV];exact OM this p
   ·rw[cT _ _ e];exact this
  ·rw[if_neg hr];exact this
 ·have hpm:=o.si.pm c hc8 a;show a∈(aO S p k r).pl c↔(S.c a=some c/\aX S.fl p r a≠[])
  by_cases hr:r=[]
  ·have ePl:(aO S p k r).pl=aX S.pl k (M.dropL (S.pl k) p):=(by unfold aO;rw[if_pos hr]);rw[ePl];by_cases ea:a=p
   ·subst ea;rw[cV];constructor
    ·intro hm;exfalso
     by_cases e:c=k
     ·subst e;rw[cV,kA] at hm;exact hm.2 rfl
     ·rw[cT _ _ e,hpm,hc] at hm
      cases hm.1
      exact e rfl
    ·exact fun hm=>absurd hr hm.2
   ·rw[cT _ _ ea];by_cases e:c=k
    ·subst e;rw[cV,kA,hpm];exact⟨fun hm=>hm.1,fun hm=>⟨hm,ea⟩⟩
    ·rw[cT _ _ e];exact hpm
  ·have ePl:(aO S p k r).pl=S.pl:=(by unfold aO;rw[if_neg hr]);rw[ePl,hpm];by_cases ea:a=p
   ·subst ea;rw[cV,hf];exact⟨fun hm=>⟨hm.1,hr⟩,fun hm=>⟨hm.1,List.cons_ne_nil _ _⟩⟩
   ·rw[cT _ _ ea]
theorem vR{x x':Bx}(h:x'.bS=x.bS)(p k n:Nat):aP x' p k n=aP x p k n:=by unfold aP;rw[h]
theorem tU{x x':Bx}{f f':Nat->Nat}{p k:Nat}(hb:x'.bS=x.bS):∀ {l:List Nat},(∀ i∈l,M.word f' (4096*p+i*aE k)=M.word f (4096*p+i*aE k))->lQ x f p k l->lQ x' f' p k l
 | [],_,_=>trivial
 | i :: l,hf,h=>⟨by
   rw[hf i List.mem_cons_self,h.1]
   cases l with
   | nil=>rfl
   | cons j l=>exact(vR hb p k j).symm,tU hb (fun j hj=>hf j (List.mem_cons_of_mem _ hj)) h.2⟩
theorem AH{f g:Nat->Nat}{o:Nat}(h:∀ i,i<8->g (o+i)=f (o+i)):M.word g o=M.word f o:=by
 unfold M.word;exact wordTo_congr _ _ 8 h
theorem SO.pool{w W W' sb lw x t fr ls S h x1 t1 fr1 ls1}(o:SO w W sb lw x t fr ls S h)(po:PO w W' lw x1 t1 fr1 ls1)(sm:Sm x x1)(bk:BK t t1 ls ls1)(sub:∀ p k,S.c p=some k->(p,0)∈ls1)(kp:Kt (aC x) W W'):SO w W' sb lw x1 t1 fr1 ls1 S h:=by
 have hpage:∀ p k,S.c p=some k->t1.m.pg p=t.m.pg p:=fun p k hp=>
  (po.sf.pslab (p:=p) (q:=t.m.pg p) (by rw[sm.P,o.si.eP];exact iW hp)).2.2.2
 refine⟨⟨po.pl,?_,o.sw.nw,o.sw.tb⟩,po.sf,po.st,po.bm,⟨?_,fun p k hp=>?_,fun p k hp=>?_,o.si.lv,o.si.pn,o.si.pm⟩,o.hd⟩
 ·rw[sm.bS];exact(kp.block _ (lH o.sw.bx) (fun e=>o.sw.nsb (.inl e))).trans o.sw.bx
 ·rw[sm.P,o.si.eP];funext p
  cases e:S.c p with
  | none=>rw[gY e,gY e]
  | some k=>rw[iW e,iW e,hpage p k e]
 ·obtain⟨h1,h2⟩:=o.si.pg p k hp;rw[hpage p k hp];exact⟨h1,h2⟩
 ·obtain⟨n1,n2,n3⟩:=o.si.fl p k hp;have hk:=(o.si.pg p k hp).1;have hnb:=dL hk;have hz:=dT hk;refine⟨n1,n2,tU sm.bS (fun i hi=>AH fun j hj=>?_) n3⟩;have hib:=n2 i hi;have h2:(i+1)*aE k<=aG k*aE k:=Nat.mul_le_mul_right _ hib;rw[Nat.add_mul,Nat.one_mul,hnb.1] at h2;have hd:(4096*p+i*aE k+j)/4096=p:=by omega
  refine bk _ ?_ ?_
  ·rw[hd];exact⟨p,0,(o.mem hp).1,Nat.le_refl _,by omega⟩
  ·rw[hd];exact⟨p,0,sub p k hp,Nat.le_refl _,by omega⟩
theorem yV(f:Nat->Nat)(P off z:Nat)(hz : 8<=z):∀ k i,i<k->P+k*z<18446744073709551616->M.word (jP f P off z k) (off+i*z)=P+(i+1)*z
 | 0,i,h,_=>absurd h (Nat.not_lt_zero _)
 | k+1,i,h,h64=>by
  rw[jP];by_cases e:i=k
  ·subst e;rw[M.word_upd _ _ _ h64]
  ·have hl:i<k:=(by omega);have h1:(i+1)*z<=k*z:=Nat.mul_le_mul_right _ hl;rw[Nat.add_mul,Nat.one_mul] at h1;have h2:k*z<=(k+1)*z:=Nat.mul_le_mul_right _ (by omega);rw[M.word_far _ _ _ _ (.inr (by omega))];exact yV f P off z hz k i hl (by omega)
theorem xC(f:Nat->Nat)(P off z:Nat):∀ k j,(∀ i,i<k->¬(off+i*z<=j/\j<off+i*z+8))->jP f P off z k j=f j
 | 0,j,_=>rfl
 | k+1,j,h=>by
  rw[jP];unfold M.upd;rw[if_neg (h k (by omega))];exact xC f P off z k j (fun i hi=>h i (by omega))
theorem sD(f:Nat->Nat)(x:Bx)(p k:Nat)(hk:k<8)(j:Nat)(hj:¬(4096*p<=j/\j<4096*p+4096)):iJ f (ad x p) (4096*p) (aE k) (aG k) j=f j:=by
 have hnb:=dL hk;have hz:=dT hk;have hin:∀ i,i<aG k->i*aE k+aE k<=4096:=fun i hi=>by
  have h2:(i+1)*aE k<=aG k*aE k:=Nat.mul_le_mul_right _ hi;rw[Nat.add_mul,Nat.one_mul,hnb.1] at h2;exact h2
 unfold iJ;have h1:=hin (aG k-1) (by omega);unfold M.upd;rw[if_neg (by omega)];refine xC _ _ _ _ _ _ fun i hi=>?_
 have:=hin i (by omega);omega
theorem zE(x:Bx)(f:Nat->Nat)(p k:Nat)(hk:k<8)(hb:x.bS+4096*p+4096<=9223372036854775808):∀ n a,a+n=aG k->lQ x (iJ f (ad x p) (4096*p) (aE k) (aG k)) p k (List.range' a n)
 | 0,a,_=>trivial
 | n+1,a,h=>by
  have hnb:=dL hk;have hz:=dT hk;obtain⟨M1,hM⟩:∃ M1,aG k=M1+1:=⟨aG k-1,by omega⟩;have hMz:M1*aE k+aE k=4096:=by
   have:=hnb.1;rw[hM,Nat.add_mul,Nat.one_mul] at this;exact this
  refine⟨?_,zE x f p k hk hb n (a+1) (by omega)⟩;unfold iJ;rw[show aG k-1=M1 by omega]
  cases n with
  | zero=>
   have ea:a=M1:=(by omega);subst ea;rw[M.word_upd _ _ _ (by decide)];rfl
  | succ n=>
   have hl:a<M1:=(by omega);have h1:(a+1)*aE k<=M1*aE k:=Nat.mul_le_mul_right _ hl;rw[Nat.add_mul,Nat.one_mul] at h1;rw[M.word_far _ _ _ _ (.inr (by omega)),yV _ _ _ _ (by omega) M1 a hl (by unfold ad;omega)];show _=aP x p k (a+1)
   unfold aP ad;rfl
def aW(S:Sb)(p k:Nat):Sb:=⟨aX S.c p (some k),aX S.fl p (List.range' 0 (aG k)),aX S.pl k (p :: S.pl k)⟩
def fH(m:Mp)(h:Nat->Int)(p k:Nat):Mp:=fC (fL (iQ m (p:Int) (k:Int)) (p:Int) 0) h (p:Int) k
theorem OI{q:Pg}(h0:q.b0=0)(h1:q.b1=0)(h2:q.b2=0)(h3:q.b3=0)(i:Nat):aH q i=false:=by
 unfold aH;have:wP q (i/64)=0:=by
  unfold wP;split <;> assumption
 rw[this];simp
theorem IJ{m:Mp}{h:Nat->Int}{p k:Nat}{l:List Nat}(hp:p<m.n)(hk:k<8)(hh:h k=bD l)(hl:∀ r∈l,r<m.n/\(m.pg r).kd=4/\cH m.n (m.pg r).nx=true)(hpl:p ∉ l):fH m h p k={ m with pg:=dU (aJ m.pg p { dE (k:Int)with fs:=0 }) l p }:=by
 have hnb:=dL hk;have e1:iQ m (p:Int) (k:Int)={ m with pg:=aJ m.pg p (dE (k:Int)) }:=by
  unfold iQ;rw[if_pos ⟨dH hp,by omega,by omega⟩,Int.toNat_natCast]
 have e2:aJ m.pg p (dE (k:Int)) p=dE (k:Int):=if_pos rfl;have e3:fL { m with pg:=aJ m.pg p (dE (k:Int)) } (p:Int) 0={ m with pg:=aJ m.pg p { dE (k:Int)with fs:=0 } }:=by
  rw[AC (m:={ m with pg:=aJ m.pg p (dE (k:Int)) }) (c:=(0:Int)) hp (by show(aJ m.pg p _ p).kd=4;rw[e2];rfl) (.inr ⟨0,rfl,by
   show 0<eL (aJ m.pg p _ p).cl
   rw[e2];show 0<aG k
   omega⟩)]
  show({ m with pg:=aJ (aJ m.pg p (dE (k:Int))) p { aJ m.pg p (dE (k:Int)) p with fs:=0 } } : Mp)=_
  rw[e2];refine congrArg (fun g=>({ m with pg:=g } : Mp)) (funext fun a=>?_);unfold aJ;by_cases e:a=p
  ·rw[if_pos e,if_pos e]
  ·rw[if_neg e,if_neg e,if_neg e]
 unfold fH;rw[e1,e3];have e4:aJ m.pg p { dE (k:Int)with fs:=0 } p={ dE (k:Int)with fs:=0 }:=if_pos rfl;exact CJ (m:={ m with pg:=aJ m.pg p { dE (k:Int)with fs:=0 } }) hp (by show(aJ m.pg p _ p).kd=4;rw[e4];rfl) hh (fun r hr=>by
  have hrp:r≠p:=fun e=>hpl (e▸hr)
  have e5:aJ m.pg p { dE (k:Int)with fs:=0 } r=m.pg r:=if_neg hrp;show r<m.n/\(aJ m.pg p _ r).kd=4/\cH m.n (aJ m.pg p _ r).nx=true
  rw[e5];exact hl r hr) hpl
theorem UO{n:Nat}(h : 0<n):bD (List.range' 0 n)=0:=by
 obtain⟨m,rfl⟩:∃ m,n=m+1:=⟨n-1,by omega⟩;rfl
theorem SO.fresh{w W W' sb lw x t fr ls S h}(o:SO w W sb lw x t fr ls S h){p k:Nat}(hk:k<8)(hls:(p,0)∈ls)(hc:S.c p=none)
  (sw:SW w W' sb lw x ⟨iJ t.f (ad x p) (4096*p) (aE k) (aG k),fH t.m h p k,t.hd⟩ (cU h k (p:Int))):
  SO w W' sb lw { x with P:=iY (aW S p k) (fH t.m h p k) } ⟨iJ t.f (ad x p) (4096*p) (aE k) (aG k),fH t.m h p k,t.hd⟩ fr ls (aW S p k) (cU h k (p:Int)):=by
 have hnb:=dL hk;have hz:=dT hk;have hpn:p<t.m.n:=by
  have:=(o.sf.sn.al hls).2.2;omega
 have n4:=o.po.nums.2.2.2.1;have hst:=o.st;have hpb:x.bS+4096*p+4096<=9223372036854775808:=by
  have h5:(p+1)*4096<=t.m.n*4096:=Nat.mul_le_mul_right _ hpn;omega
 have hpl:p ∉ S.pl k:=fun e=>by
  rw[((o.si.pm k hk p).1 e).1] at hc
  cases hc
 have hln:=o.si.pn k hk;have eM:=IJ (m:=t.m) (h:=h) hpn hk (o.hd k hk) (fun r hr=>by
  have hcr:=((o.si.pm k hk r).1 hr).1;have sr:=(o.si.pg r k hcr).2;refine⟨(o.mem hcr).2.1,sr.kd,?_⟩;rw[sr.nx];rcases lJ (S.pl k) r hln with e|⟨b,e,hb,_⟩
  ·rw[e];exact lE _
  ·rw[e];exact oA (o.mem ((o.si.pm k hk b).1 hb).1).2.1) hpl
 rw[eM] at sw ⊢;generalize hpgF:dU (aJ t.m.pg p { dE (k:Int)with fs:=0 }) (S.pl k) p=pgF at *;have hne:∀ a,a≠p->(aW S p k).c a=S.c a/\(aW S p k).fl a=S.fl a:=fun a ha=>⟨cT _ _ ha,cT _ _ ha⟩
 have hcp:(aW S p k).c p=some k:=cV _ _ _;have hfp:(aW S p k).fl p=List.range' 0 (aG k):=cV _ _ _;have hup:∀ a,a≠p->aJ t.m.pg p { dE (k:Int)with fs:=0 } a=t.m.pg a:=fun a ha=>if_neg ha
 have huq:aJ t.m.pg p { dE (k:Int)with fs:=0 } p={ dE (k:Int)with fs:=0 }:=if_pos rfl;have F0:∀ a,S.c a=none->a≠p->pgF a=t.m.pg a:=fun a ha hap=>by
  have hal:a ∉ S.pl k:=fun e=>by
   rw[((o.si.pm k hk a).1 e).1] at ha
   cases ha
  rw[<-hpgF,tQ hap hal];exact hup a hap
 have Q0:SlQ (aW S p k) p k { dE (k:Int)with fs:=0 }:=by
  refine⟨rfl,rfl,rfl,?_,?_,fun i hi=>?_⟩
  ·rw[hfp,List.length_range',Nat.sub_self];rfl
  ·rw[hfp,UO (by omega)]
  ·rw[OI rfl rfl rfl rfl,hfp];symm;refine decide_eq_false fun e=>e.2 (List.mem_range'_1.2 ⟨Nat.zero_le _,by omega⟩)
 have NP0:NP (aJ t.m.pg p { dE (k:Int)with fs:=0 }) (aW S p k) k (S.pl k):=fun a ha=>by
  by_cases e:a=p
  ·subst e;rw[huq,sE hpl,oK hpl];exact⟨rfl,rfl⟩
  ·rw[(hne a e).1] at ha;rw[hup a e];exact⟨(o.si.pg a k ha).2.nx,(o.si.pg a k ha).2.pv⟩
 have NP1:=CG NP0 hln hpl;have F2:∀ a c,(aW S p k).c a=some c->c<8/\SlP (aW S p k) a c (pgF a):=fun a c ha=>by
  have hq:SlQ (aW S p k) a c (aJ t.m.pg p { dE (k:Int)with fs:=0 } a)/\c<8:=by
   by_cases e:a=p
   ·subst e;rw[hcp] at ha
    cases ha
    rw[huq];exact⟨Q0,hk⟩
   ·rw[(hne a e).1] at ha;rw[hup a e];exact⟨(o.si.pg a c ha).2.q.congr (hne a e).2,(o.si.pg a c ha).1⟩
  refine⟨hq.2,(hq.1.rst (by rw[<-hpgF];exact MA _ _ _ _)).p ?_ ?_⟩
  ·show(pgF a).nx=bC (aX S.pl k (p :: S.pl k) c) a
   by_cases e:c=k
   ·subst e;rw[cV,<-hpgF];exact(NP1 a ha).1
   ·have hap:a≠p:=fun e2=>by rw[e2,hcp] at ha;cases ha;exact e rfl
    rw[cT _ _ e];rw[(hne a hap).1] at ha;have hal:a ∉ S.pl k:=fun e2=>by rw[((o.si.pm k hk a).1 e2).1] at ha;cases ha;exact e rfl
    rw[<-hpgF,tQ hap hal,hup a hap];exact(o.si.pg a c ha).2.nx
  ·show(pgF a).pv=bG (aX S.pl k (p :: S.pl k) c) a
   by_cases e:c=k
   ·subst e;rw[cV,<-hpgF];exact(NP1 a ha).2
   ·have hap:a≠p:=fun e2=>by rw[e2,hcp] at ha;cases ha;exact e rfl
    rw[cT _ _ e];rw[(hne a hap).1] at ha;have hal:a ∉ S.pl k:=fun e2=>by rw[((o.si.pm k hk a).1 e2).1] at ha;cases ha;exact e rfl
    rw[<-hpgF,tQ hap hal,hup a hap];exact(o.si.pg a c ha).2.pv
 have sf1:=o.sf.fill (p:=p) (k:=0) hls (f':=iJ t.f (ad x p) (4096*p) (aE k) (aG k)) (fun j hj=>sD t.f x p k hk j (by omega));refine⟨sw.reP _,sf1.repaint S (aW S p k) o.si.eP { t.m with pg:=pgF } rfl rfl rfl (fun a ha=>?_) (fun a c ha=>⟨(F2 a c ha).2.kd,?_⟩),o.st,o.bm,⟨rfl,F2,fun a c ha=>?_,fun a c ha=>?_,fun c hc8=>?_,fun c hc8 a=>?_⟩,fun c hc8=>?_⟩
 ·have hap:a≠p:=fun e=>by rw[e,hcp] at ha;cases ha
  rw[(hne a hap).1] at ha;rw[if_pos ha];exact F0 a ha hap
 ·by_cases e:a=p
  ·rw[e];exact hls
  ·rw[(hne a e).1] at ha;exact(o.mem ha).1
 ·by_cases e:a=p
  ·subst e;rw[hcp] at ha
   cases ha
   rw[hfp];refine⟨List.nodup_range',fun i hi=>?_,oL (zE x t.f a k hk hpb (aG k) 0 (by omega))⟩;have:=(List.mem_range'_1.1 hi).2;omega
  ·rw[(hne a e).1] at ha;rw[(hne a e).2];obtain⟨n1,n2,n3⟩:=o.si.fl a c ha;have hc8:=(o.si.pg a c ha).1;have hnb2:=dL hc8;have hz2:=dT hc8;refine⟨n1,n2,oL (tU rfl (fun i hi=>AH fun j hj=>?_) n3)⟩;have hib:=n2 i hi;have h2:(i+1)*aE c<=aG c*aE c:=Nat.mul_le_mul_right _ hib;rw[Nat.add_mul,Nat.one_mul,hnb2.1] at h2;exact sD t.f x p k hk _ (by omega)
 ·by_cases e:a=p
  ·subst e;rw[hcp] at ha
   cases ha
   rw[hfp,List.length_range'];exact Nat.le_refl _
  ·rw[(hne a e).1] at ha;rw[(hne a e).2];exact o.si.lv a c ha
 ·show(aX S.pl k (p :: S.pl k) c).Nodup
  by_cases e:c=k
  ·subst e;rw[cV];exact List.nodup_cons.2 ⟨hpl,hln⟩
  ·rw[cT _ _ e];exact o.si.pn c hc8
 ·show a∈aX S.pl k (p :: S.pl k) c↔((aW S p k).c a=some c/\(aW S p k).fl a≠[])
  have hpm:=o.si.pm c hc8 a;by_cases ea:a=p
  ·subst ea;rw[hcp,hfp];have hrn:List.range' 0 (aG k)≠[]:=by
    intro e;have:=congrArg List.length e;rw[List.length_range',List.length_nil] at this;omega
   by_cases e:c=k
   ·subst e;rw[cV];exact⟨fun _=>⟨rfl,hrn⟩,fun _=>List.mem_cons_self⟩
   ·rw[cT _ _ e,hpm,hc];constructor
    ·rintro ⟨e2,_⟩;cases e2
    ·rintro ⟨e2,_⟩;cases e2;exact absurd rfl e
  ·rw[(hne a ea).1,(hne a ea).2];by_cases e:c=k
   ·subst e;rw[cV,List.mem_cons,hpm];exact⟨fun h=>h.resolve_left ea,fun h=>.inr h⟩
   ·rw[cT _ _ e];exact hpm
 ·show cU h k (p:Int) c=bD (aX S.pl k (p :: S.pl k) c)
  by_cases e:c=k
  ·subst e;rw[cV];exact if_pos rfl
  ·rw[cT _ _ e];exact(if_neg e).trans (o.hd c hc8)
inductive Ned(x:Bx)(t:Bt)(fr:Nat->List Nat)(d:Bool)(p:Nat)(b:Bool)(fr':Nat->List Nat):Prop where
 | here (j:Nat) (l:List Nat) (hj:j<=x.o) (hz:∀ a,a<j->fr a=[]) (hp:fr j=p :: l) (hb:b=false) (hf:fr'=cI (cB fr j (M.dropL (fr j) p)) p j 0)
 | grew (hz:∀ a,a<=x.o->fr a=[]) (hd:d=false) (hl:x.n+x.R<=x.lim*x.R) (hb:b=true) (hp:p=t.m.n) (hf:fr'=cI fr t.m.n x.o 0)
structure FrO(w W:World)(sb lw:Nat)(x:Bx)(t:Bt)(fr:Nat->List Nat)(ls:List (Nat×Nat))(S:Sb)(h:Nat->Int)(k:Nat)(d:Bool)(p:Nat)(b:Bool)(w':World):Prop where
 ex:∃ x' t' fr',Ned x t fr d p b fr'/\SO w w' sb lw x' t' fr' (ls ++ [(p,0)]) (aW S p k) (cU h k (p:Int))/\Sm x { x' with P:=x.P }/\(∀ i,Lv ls (i/4096)->t'.f i=t.f i)/\Nb W x x'/\t'.m.n=(if b=true then t.m.n + 2 ^ x.o else t.m.n)/\x'.n=(if b=true then x.n + x.R else x.n)
 hc:S.c p=none
 nl:∀ i,(p,i) ∉ ls
 kp:Kt (cW x sb) W w'
inductive FrP(w W:World)(sb lw:Nat)(x:Bx)(t:Bt)(fr:Nat->List Nat)(ls:List (Nat×Nat))(S:Sb)(h:Nat->Int)(k:Nat)(d:Bool)(e:Ending)(w':World):Prop where
 | stuck (hz:∀ a,a<=x.o->fr a=[]) (hd:d=true\/x.n=x.lim*x.R) (he:e=.returned (.tuple #[.bool false,.int .i64 2])) (kp:Kt nO W w')
 | got (p:Nat) (b:Bool) (he:e=.returned (.tuple #[.bool b,.int .i64 0])) (fo:FrO w W sb lw x t fr ls S h k d p b w')
theorem DI{w W lw x t fr ls}(po:PO w W lw x t fr ls)(d:Bool):
  Calls prog 130 #[.pointer (some ⟨lw,0,none⟩),.int .i64 0,.bool d] W fun e w'=>
   ((∀ a,a<=x.o->fr a=[])/\(d=true\/x.n=x.lim*x.R)/\e=.returned (.tuple #[.int .u64 0,.bool false,.int .i64 2])/\Kt nO W w')\/
   (∃ p b fr' x' t',e=.returned (.tuple #[.int .u64 ((ad x p:Nat):Int),.bool b,.int .i64 0])/\Ned x t fr d p b fr'/\PO w w' lw x' t' fr' (ls ++ [(p,0)])/\Sm x x'/\BK t t' ls (ls ++ [(p,0)])/\Nb W x x'/\Kt (aC x) W w'/\x.P p=none/\(∀ i,(p,i) ∉ ls)/\t'.m.n=(if b=true then t.m.n + 2 ^ x.o else t.m.n)/\x'.n=(if b=true then x.n + x.R else x.n)):=by
 refine(K.Need_any po 0 d).mono fun e w' hN=>?_
 cases hN with
 | bad hk he kp=>
  exfalso
  have:=of_decide_eq_false hk;omega
 | stuck i hk hi hz hd he kp=>
  obtain rfl:i=0:=by omega
  exact .inl ⟨fun a ha=>hz a (Nat.zero_le _) ha,hd,he,kp⟩
 | here i j p l hk hi hij hj hz hp he hs kp=>
  obtain rfl:i=0:=by omega
  obtain⟨t',h1,h2,h3⟩:=hs;refine .inr ⟨p,false,_,x,t',he,.here j l hj (fun a ha=>hz a (Nat.zero_le _) ha) hp rfl rfl,h1,Sm.refl x,h3,fun y e=>.inl e,kp,po.sf.pfree hj (by rw[hp];exact List.mem_cons_self),fun i hm=>?_,by rw[if_neg (by decide)];exact h2,by rw[if_neg (by decide)]⟩;have h0:=po.sf.apart0 hj (show p∈fr j by rw[hp];exact List.mem_cons_self) hm;have hz1 : 0<2 ^ i:=Nat.pow_pos (by decide);have hz2 : 0<2 ^ j:=Nat.pow_pos (by decide);omega
 | grew i hk hi hz hd hl he hs kp=>
  obtain rfl:i=0:=by omega
  obtain⟨x',t',h1,h2,h3,h4,h5,h6⟩:=hs;refine .inr ⟨t.m.n,true,_,x',t',he,.grew (fun a ha=>hz a (Nat.zero_le _) ha) hd hl rfl rfl rfl,h1,h2,h6,h5,kp,po.sf.pout (Nat.le_refl _),fun i hm=>?_,by rw[if_pos rfl];exact h4,by rw[if_pos rfl];exact h3⟩;have:=(po.sf.sn.al hm).2.2;have hz1 : 0<2 ^ i:=Nat.pow_pos (by decide);omega
theorem KY{w W sb lw x t fr ls S h}(o:SO w W sb lw x t fr ls S h)(k:Nat)(hk:k<8)(d:Bool):
  Calls prog 161 #[.pointer (some ⟨sb,0,none⟩),.int .i64 k,.bool d] W fun e w'=>FrP w W sb lw x t fr ls S h k d e w':=by
 have ND:=aA (DI o.po d);obtain⟨c0,c1⟩:=o.sw.c0;have HO:=aA o;clear o;go_enter func161,ntmps161;go_wp2_with fail;refine ND.out.mono ?_;rintro e w1 (⟨hz,hd,rfl,kp⟩|⟨p,b,fr1,x1,t1,rfl,hned,hpo,hsm,hbk,hnb,hk1,hPp,hnl,htn,hxn⟩)
 ·have D:=aA (show FrP w W sb lw x t fr ls S h k d (.returned (.tuple #[.bool false,.int .i64 2])) w1 from .stuck hz hd rfl kp);clear hz hd kp ND c0 c1;go_wp2_with fail;exact⟨rfl,.tuple #[.bool false,.int .i64 2],by simp[results,results161,go_sem],D.out⟩
 ·have hc:S.c p=none:=by
   cases e:S.c p with
   | none=>rfl
   | some c=>
    rw[HO.out.si.eP,iW e] at hPp
    cases hPp
  have o1:=HO.out.pool hpo hsm hbk (fun a c ha=>List.mem_append_left _ (HO.out.mem ha).1) hk1;have hls:(p,0)∈ls ++ [(p,0)]:=List.mem_append_right _ (List.mem_singleton.2 rfl);have hpn:=(o1.sf.sn.al hls).2.2;have n4:=o1.po.nums.2.2.2.1;have n2:=o1.po.nums.2.1;have hst:=o1.st;have hpb : 4096*p+4096<=x1.n:=by
   have h5:(p+1)*4096<=t1.m.n*4096:=Nat.mul_le_mul_right _ hpn;omega
  have had:ad x p=ad x1 p:=by unfold ad;rw[hsm.bS]
  rw[had];have hoff:bF x1 (ad x1 p)/4096=p:=by unfold bF ad;omega
  obtain⟨A,hA⟩:=xe (ad x1 p);have hA64:A<18446744073709551616:=by rw[hA];unfold ad;omega
  have PG:=aA (show Calls prog 193 #[.pointer (some ⟨sb,0,none⟩),.int .u64 A] w1 fun e w'=>e=.returned (.int .i64 p)/\w'=w1 from by
   have:=rZ o1.sw A hA64;rw[hA,hoff] at this;rw[hA];exact this)
  have SL:=aA (FP o1.sw (p:Int) (k:Int));obtain⟨m1,hm1⟩:=xe (iQ t1.m (p:Int) (k:Int));rw[<-hm1] at SL;generalize nS t1.m (p:Int) (k:Int)=se1 at *;have CH:=aA (show ∀ W',SW w W' sb lw x1 { t1 with m:=m1 } h->Calls prog 195 #[.pointer (some ⟨sb,0,none⟩),.int .u64 A,.int .i64 k] W' fun e w'=>e=.returned (.tuple #[])/\SW w w' sb lw x1 ⟨iJ t1.f (ad x1 p) (4096*p) (aE k) (aG k),m1,t1.hd⟩ h/\Kt (aC x1) W' w' from fun W' s=>by
   rw[hA];exact JQ s p k hk hpb)
  obtain⟨f2,hf2⟩:=xe (iJ t1.f (ad x1 p) (4096*p) (aE k) (aG k));rw[<-hf2] at CH;obtain⟨m2,hm2⟩:=xe (fL m1 (p:Int) 0);have FR:=aA (show ∀ W',SW w W' sb lw x1 ⟨f2,m1,t1.hd⟩ h->Calls prog 196 #[.pointer (some ⟨x1.m,0,none⟩),.int .i64 p,.int .i64 0] W' fun e w'=>e=.returned (.int .i64 (jF m1 (p:Int) 0))/\SD w W' sb lw x1 ⟨f2,m1,t1.hd⟩ h m2 w' from fun W' s=>by
   rw[hm2];exact xF s (p:Int) 0)
  generalize jF m1 (p:Int) 0=fe1 at *;have PT:=aA (show ∀ W',SW w W' sb lw x1 ⟨f2,m2,t1.hd⟩ h->Calls prog 197 #[.pointer (some ⟨sb,0,none⟩),.int .i64 p,.int .i64 k] W' fun e w'=>e=.returned (.tuple #[])/\SE w W' sb lw x1 ⟨f2,m2,t1.hd⟩ (fC m2 h (p:Int) k) (cU h k (p:Int)) w' from fun W' s=>CU s (p:Int) k hk);have FIN:=aA (show ∀ w',SW w w' sb lw x1 ⟨f2,fC m2 h (p:Int) k,t1.hd⟩ (cU h k (p:Int))->Kt (cW x1 sb) w1 w'->FrP w W sb lw x t fr ls S h k d (.returned (.tuple #[.bool b,.int .i64 0])) w' from fun w' s kk=>by
   have e1:fC m2 h (p:Int) k=fH t1.m h p k:=(by unfold fH;rw[hm2,hm1]);rw[e1,hf2] at s;have so:=o1.fresh hk hls hc s;refine .got p b rfl ⟨⟨_,_,fr1,hned,so,⟨hsm.bS,hsm.R,hsm.lim,hsm.o,hsm.b,hsm.s,hsm.m,hsm.l,rfl⟩,fun i hi=>?_,hnb,?_,hxn⟩,hc,hnl,?_⟩
   ·have h2:t1.f i=t.f i:=hbk i hi (K.Lv.more hi);show iJ t1.f (ad x1 p) (4096*p) (aE k) (aG k) i=t.f i
    rw[<-h2];refine sD t1.f x1 p k hk i (fun e=>?_);obtain⟨q,c,h3,h4,h5⟩:=hi;have hq:=hpo.sf.sn.apart (List.mem_append_left _ h3) hls;have hip:i/4096=p:=(by omega);rw[hip] at h4 h5;rcases hq with ⟨e2,e3⟩|e2|e2
    ·rw[e2] at h3;exact hnl c h3
    ·omega
    ·omega
   ·show(fH t1.m h p k).n=_
    rw[<-htn];unfold fH fC gU;rw[xW,xW];unfold fL;split <;> exact NA _ _ _
   ·refine(hk1.mono (fun _ _ e=>.inl e)).trans kk (fun _ _ e=>e) (fun y hy e=>?_);rcases e with e|e
    ·rcases hnb y e with e|e
     ·exact .inl e
     ·omega
    ·exact .inr e)
  have O1:=aA o1.sw;rw[<-hA];clear hned hpo hsm hbk hnb hk1 hPp hnl htn hxn hc o1 hls hpn n4 n2 hst hpb had hoff hA hm1 hf2 hm2 c0 c1 ND;obtain⟨c0,c1⟩:=O1.out.c0;go_wp2_with fail;refine PG.out.mono ?_;rintro e w2 ⟨rfl,h2⟩;replace h2:=h2.symm;subst h2;have MP:=aA (bX O1.out.pl);go_wp2_with fail;refine MP.out.mono ?_;rintro e w2 ⟨rfl,h2⟩;replace h2:=h2.symm;subst h2;go_wp2_with fail;refine SL.out.mono ?_;rintro e w3 ⟨rfl,hs3,hk3⟩;have S3:=aA hs3;have K3:=aA hk3;clear hs3 hk3 c0 c1 MP;go_wp2_with fail;refine(CH.out _ S3.out).mono ?_;rintro e w4 ⟨rfl,hs4,hk4⟩;have S4:=aA hs4;have K4:=aA (K3.out.trans hk4 (fun _ _ e=>e) (fun _ _ e=>e));have MP:=aA (bX hs4.pl);obtain⟨c0,c1⟩:=hs4.c0;clear hs4 hk4;go_wp2_with fail;refine MP.out.mono ?_;rintro e w5 ⟨rfl,h5⟩;replace h5:=h5.symm;subst h5;go_wp2_with fail;refine(FR.out _ S4.out).mono ?_;rintro e w5 ⟨rfl,hs5,hk5⟩;have S5:=aA hs5;have K5:=aA (K4.out.trans hk5 (fun _ _ e=>e) (fun _ _ e=>e));clear hs5 hk5 c0 c1;go_wp2_with fail;refine(PT.out _ S5.out).mono ?_;rintro e w6 ⟨rfl,hs6,hk6⟩;have D:=aA (FIN.out w6 hs6 ((K5.out.mono (fun _ _ e=>.inl e)).trans hk6 (fun _ _ e=>e) (fun _ _ e=>e)));clear hs6 hk6;go_wp2_with fail;exact⟨rfl,.tuple #[.bool b,.int .i64 0],by simp[results,results161,go_sem],D.out⟩
inductive TkP(w W:World)(sb lw:Nat)(x:Bx)(t:Bt)(fr:Nat->List Nat)(ls:List (Nat×Nat))(S:Sb)(h:Nat->Int)(c:Int)(d:Bool)(e:Ending)(w':World):Prop where
 | bad (hc:¬(0<=c/\c<8)) (he:e=.returned (.tuple #[.int .u64 0,.bool false,.int .i64 1])) (kp:Kt nO W w')
 | stuck (k:Nat) (hk:k<8) (hc:c=(k:Int)) (hl:S.pl k=[]) (hz:∀ a,a<=x.o->fr a=[]) (hd:d=true\/x.n=x.lim*x.R) (he:e=.returned (.tuple #[.int .u64 0,.bool false,.int .i64 2])) (kp:Kt nO W w')
 | old (k p i:Nat) (l r:List Nat) (hk:k<8) (hc:c=(k:Int)) (hl:S.pl k=p :: l) (hf:S.fl p=i :: r) (he:e=.returned (.tuple #[.int .u64 ((aP x p k i:Nat):Int),.bool false,.int .i64 0])) (so:∃ P m' h',SO w w' sb lw { x with P:=P } { t with m:=m' } fr ls (aO S p k r) h'/\m'.n=t.m.n) (kp:Kt (cW x sb) W w')
 | new (k p:Nat) (b:Bool) (hk:k<8) (hc:c=(k:Int)) (hl:S.pl k=[]) (he:e=.returned (.tuple #[.int .u64 ((aP x p k 0:Nat):Int),.bool b,.int .i64 0])) (so:∃ x' t' fr' h',Ned x t fr d p b fr'/\SO w w' sb lw x' t' fr' (ls ++ [(p,0)]) (aO (aW S p k) p k (List.range' 1 (aG k-1))) h'/\Sm x { x' with P:=x.P }/\(∀ i,Lv ls (i/4096)->t'.f i=t.f i)/\Nb W x x'/\t'.m.n=(if b=true then t.m.n + 2 ^ x.o else t.m.n)/\x'.n=(if b=true then x.n + x.R else x.n)) (hcp:S.c p=none) (nl:∀ i,(p,i) ∉ ls) (kp:Kt (cW x sb) W w')
theorem wE{w W sb lw x t fr ls S h w'}(o:SO w W sb lw x t fr ls S h){p k i:Nat}{r:List Nat}(hc:S.c p=some k)(hf:S.fl p=i :: r)(se:SE w W sb lw x t (dQ t.m p i r) (fG t.m h p k i r) w'):(dQ t.m p i r).n=t.m.n:=by
 have h1:=(o.hand hc hf se).st;have h2:=o.st;have h3:(dQ t.m p i r).n*4096=x.n:=h1;omega
theorem PN{w W sb lw x t fr ls S h}(o:SO w W sb lw x t fr ls S h)(c:Int)(hc:¬(0<=c/\c<8))(d:Bool):
  Calls prog 128 #[.pointer (some ⟨sb,0,none⟩),.int .i64 c,.bool d] W fun e w'=>TkP w W sb lw x t fr ls S h c d e w':=by
 have D:=aA (show TkP w W sb lw x t fr ls S h c d (.returned (.tuple #[.int .u64 0,.bool false,.int .i64 1])) W from .bad hc rfl (Kt.refl _ _));clear o;by_cases h0:c<0
 ·clear hc;go_enter func128,ntmps128;go_wp2_with fail;exact⟨rfl,.tuple #[.int .u64 0,.bool false,.int .i64 1],by simp[results,results128,go_sem],D.out⟩
 ·have h8 : 8<=c:=by omega
  clear hc;go_enter func128,ntmps128;go_wp2_with fail;exact⟨rfl,.tuple #[.int .u64 0,.bool false,.int .i64 1],by simp[results,results128,go_sem],D.out⟩
theorem GY{w W sb lw x t fr ls S h}(o:SO w W sb lw x t fr ls S h)(k:Nat)(hk:k<8)(d:Bool):
  Calls prog 128 #[.pointer (some ⟨sb,0,none⟩),.int .i64 k,.bool d] W fun e w'=>TkP w W sb lw x t fr ls S h (k:Int) d e w':=by
 have ch:=o.sw.hd k hk;have hki:(k:Int)<8:=by omega
 have hk0:¬(k:Int)<0:=by omega
 have hk8:¬ 8<=(k:Int):=by omega
 have HO:=aA o;have HD:=o.hd k hk
 cases hl:S.pl k with
 | nil=>
  rw[hl] at HD;have hz:h k = -1:=HD;rw[hz] at ch;have FR:=aA (KY o k hk d);have HL:=aA hl;clear o HD hz hl;go_enter func128,ntmps128;go_wp2_with fail;refine FR.out.mono ?_;intro e w1 hF
  cases hF with
  | stuck hz hd he kp=>
   subst he;have D:=aA (show TkP w W sb lw x t fr ls S h (k:Int) d (.returned (.tuple #[.int .u64 0,.bool false,.int .i64 2])) w1 from .stuck k hk rfl HL.out hz hd rfl kp);clear hz hd kp FR ch;go_wp2_with fail;exact⟨rfl,.tuple #[.int .u64 0,.bool false,.int .i64 2],by simp[results,results128,go_sem],D.out⟩
  | got p b he fo=>
   subst he;obtain⟨⟨x1,t1,fr1,hned,o1,hsm,hf1,hnb,htn,hxn⟩,hc,nl,kp⟩:=fo;have hnl:=dL hk;have hfp:(aW S p k).fl p=0 :: List.range' 1 (aG k-1):=by
    have:(aW S p k).fl p=List.range' 0 (aG k):=cV _ _ _;rw[this];obtain⟨m,hm⟩:∃ m,aG k=m+1:=⟨aG k-1,by omega⟩;rw[hm];rfl
   have hcp:(aW S p k).c p=some k:=cV _ _ _;have c1:w1.cell? ⟨sb,2+k,none⟩=some (.int .i64 p):=by
    have:=o1.sw.hd k hk;rw[show cU h k (p:Int) k=(p:Int)from if_pos rfl] at this;exact this
   have hca:aP x1 p k 0=aP x p k 0:=vR hsm.bS p k 0;have HA:=aA (show Calls prog 162 #[.pointer (some ⟨sb,0,none⟩),.int .i64 p,.int .i64 k] w1 fun e w'=>e=.returned (.tuple #[.int .u64 ((aP x p k 0:Nat):Int),.int .i64 0])/\TkP w W sb lw x t fr ls S h (k:Int) d (.returned (.tuple #[.int .u64 ((aP x p k 0:Nat):Int),.bool b,.int .i64 0])) w' from by
    refine(wG o1 p k 0 _ hcp hfp).mono ?_;rintro e w2 ⟨rfl,se⟩;refine⟨by rw[hca],.new k p b hk rfl HL.out rfl ⟨_,_,fr1,_,hned,o1.hand hcp hfp se,hsm,hf1,hnb,?_,hxn⟩ hc nl ?_⟩
    ·rw[<-htn];exact wE o1 hcp hfp se
    ·refine kp.trans se.2 (fun _ _ e=>e) (fun y hy e=>?_);rcases e with e|e
     ·rcases hnb y e with e|e
      ·exact .inl e
      ·omega
     ·exact .inr e)
   obtain⟨a,ha⟩:=xe (aP x p k 0);rw[<-ha] at HA;have hpn:(p:Int) ≠ -1:=(by omega);clear hned o1 hsm hf1 hnb htn hxn hc nl kp hnl hfp hcp hca ha FR ch;go_wp2_with fail;refine HA.out.mono ?_;rintro e w2 ⟨rfl,h2⟩;have D:=aA h2;clear h2;go_wp2_with fail;exact⟨rfl,.tuple #[.int .u64 a,.bool b,.int .i64 0],by simp[results,results128,go_sem],D.out⟩
 | cons p l=>
  rw[hl] at HD;have hz:h k=(p:Int):=HD;rw[hz] at ch;obtain⟨hc,hne⟩:=(o.si.pm k hk p).1 (by rw[hl];exact List.mem_cons_self);obtain⟨i,r,hf⟩:∃ i r,S.fl p=i :: r:=by
   cases e:S.fl p with
   | nil=>exact absurd e hne
   | cons i r=>exact⟨i,r,rfl⟩
  have HA:=aA (show Calls prog 162 #[.pointer (some ⟨sb,0,none⟩),.int .i64 p,.int .i64 k] W fun e w'=>e=.returned (.tuple #[.int .u64 ((aP x p k i:Nat):Int),.int .i64 0])/\TkP w W sb lw x t fr ls S h (k:Int) d (.returned (.tuple #[.int .u64 ((aP x p k i:Nat):Int),.bool false,.int .i64 0])) w' from by
   refine(wG o p k i r hc hf).mono ?_;rintro e w2 ⟨rfl,se⟩;exact⟨rfl,.old k p i l r hk rfl hl hf rfl ⟨_,_,_,o.hand hc hf se,wE o hc hf se⟩ se.2⟩)
  obtain⟨a,ha⟩:=xe (aP x p k i);rw[<-ha] at HA;have hpn:(p:Int) ≠ -1:=by omega
  clear o HD hz hl hc hne hf ha;go_enter func128,ntmps128;go_wp2_with fail;refine HA.out.mono ?_;rintro e w2 ⟨rfl,h2⟩;have D:=aA h2;clear h2;go_wp2_with fail;exact⟨rfl,.tuple #[.int .u64 a,.bool false,.int .i64 0],by simp[results,results128,go_sem],D.out⟩
theorem PM{w W sb lw x t fr ls S h}(o:SO w W sb lw x t fr ls S h)(c:Int)(d:Bool):
  Calls prog 128 #[.pointer (some ⟨sb,0,none⟩),.int .i64 c,.bool d] W fun e w'=>TkP w W sb lw x t fr ls S h c d e w':=by
 by_cases hc : 0<=c/\c<8
 ·obtain⟨k,rfl⟩:∃ k:Nat,c=(k:Int):=⟨c.toNat,by omega⟩;exact GY o k (by omega) d
 ·exact PN o c hc d
def bJ(x:Bx)(t:Bt)(S:Sb)(L:Nat):W.Img:=⟨x.bS,(L:Int),(x.o:Int),((t.m.n/2 ^ x.o:Nat):Int),x.n,t.f,t.m.n,t.m.pg,x.o,t.m.wd,(List.range (x.o+1)).map t.hd,(List.range 8).map fun k=>bD (S.pl k)⟩
structure St0(x:Bx)(t:Bt)(fr:Nat->List Nat)(B:Nat->Nat->Nat->Prop)(S:Sb)(L:Nat):Prop where
 sd:Sd x t fr B
 n9:∀ q i,¬B 9 q i
 st:t.m.n*4096=x.n
 si:SI x t S
 lv:gE S
 may:M.mayB x.bS (L:Int) (x.o:Int)=true
 le:t.m.n/2 ^ x.o<=L
 hz:∀ k,k<x.o->∀ j,t.m.n/2 ^ (k+1)<=j->aF (t.m.wd k) j=false
 pin:∀ i,i<t.m.n->W.PgIn (t.m.pg i)
section
variable {x:Bx} {t:Bt} {fr:Nat->List Nat} {B:Nat->Nat->Nat->Prop} {S:Sb} {L:Nat}
theorem St0.tag(h:St0 x t fr B S L){g p k:Nat}(hb:B g p k):(g=0\/g=2)/\g≠9:=by
 rcases h.sd.tg g p k hb with e|e|e
 ·exact⟨.inl e,by omega⟩
 ·exact⟨.inr e,by omega⟩
 ·subst e;exact absurd hb (h.n9 p k)
theorem St0.page(h:St0 x t fr B S L){i:Nat}(hi:i<t.m.n):(∃ k,S.c i=some k/\k<8/\SlP S i k (t.m.pg i)/\B 2 i 0)\/(S.c i=none/\∃ g p k,B g p k/\p<=i/\i<p+2 ^ k/\(g=0\/g=2)/\t.m.pg i=aN (if i=p then (g:Int) else (g:Int)+1) (k:Int)):=by
 cases e:S.c i with
 | some k=>
  obtain⟨h1,h2⟩:=h.si.pg i k e;exact .inl ⟨k,rfl,h1,h2,(h.sd.vs i (t.m.pg i) (by rw[h.si.eP];exact iW e)).1⟩
 | none=>
  obtain⟨g,p,k,hb,h1,h2⟩:=h.sd.cv i hi;have hp:=h.sd.pg g p k hb (h.tag hb).2 i h1 h2;rw[h.si.eP,gY e,Option.getD_none] at hp;exact .inr ⟨rfl,g,p,k,hb,h1,h2,(h.tag hb).1,hp⟩
theorem St0.first(h:St0 x t fr B S L){g i k:Nat}(hb:B g i k)(hc:S.c i=none):t.m.pg i=aN (g:Int) (k:Int):=by
 have hp:=h.sd.pg g i k hb (h.tag hb).2 i (Nat.le_refl _) (by have:=Nat.two_pow_pos k;omega);rwa [h.si.eP,gY hc,Option.getD_none,if_pos rfl] at hp
theorem St0.slabB(h:St0 x t fr B S L){i k:Nat}(hc:S.c i=some k):B 2 i 0:=(h.sd.vs i (t.m.pg i) (by rw[h.si.eP];exact iW hc)).1
theorem St0.one(h:St0 x t fr B S L){g i k g' k':Nat}(h1:B g i k)(h2:B g' i k'):g=g'/\k=k':=by
 rcases h.sd.ds _ _ _ _ _ _ h1 h2 with ⟨e1,-,e2⟩|e|e
 ·exact⟨e1,e2⟩
 ·have:=Nat.two_pow_pos k;omega
 ·have:=Nat.two_pow_pos k';omega
theorem St0.isF_iff(h:St0 x t fr B S L){i j:Nat}(hi:i<t.m.n):W.isF (t.m.pg i) (j:Int)=true↔B 0 i j:=by
 constructor
 ·intro hf;unfold W.isF at hf;rw[Bool.and_eq_true,decide_eq_true_eq,decide_eq_true_eq] at hf;rcases h.page hi with ⟨k,h1,h2,h3,h4⟩|⟨h1,g,p,k,hb,h2,h3,h4,h5⟩
  ·rw[h3.kd] at hf;omega
  ·rw[h5] at hf;obtain⟨f1,f2⟩:=hf;have f1:(if i=p then (g:Int) else (g:Int)+1)=0:=f1;have f2:(k:Int)=j:=f2;by_cases e:i=p
   ·rw[if_pos e] at f1;have e1:g=0:=(by omega);have e2:k=j:=(by omega);rw[e,<-e2,<-e1];exact hb
   ·rw[if_neg e] at f1;omega
 ·intro hb;have hc:S.c i=none:=by
   cases e:S.c i with
   | none=>rfl
   | some k=>have:=(h.one hb (h.slabB e)).1;omega
  rw[h.first hb hc];simp[W.isF,aN]
theorem St0.isF_mem(h:St0 x t fr B S L){i j:Nat}(hi:i<t.m.n)(hj:j<=x.o):W.isF (t.m.pg i) (j:Int)=decide (i∈fr j):=by
 rw[Bool.eq_iff_iff,h.isF_iff hi,h.sd.fi,decide_eq_true_eq];exact⟨fun e=>e.2,fun e=>⟨hj,e⟩⟩
theorem St0.np(h:St0 x t fr B S L):t.m.n/2 ^ x.o*2 ^ x.o=t.m.n:=by
 obtain⟨r,hr⟩:=h.sd.dv;rw[hr,Nat.mul_div_cancel _ (Nat.two_pow_pos _)]
theorem St0.rl0(h:St0 x t fr B S L):W.rl (bJ x t S L) 0=none:=by
 show(if _ then _ else _)=_
 exact if_pos h.may
theorem St0.rl1(h:St0 x t fr B S L):W.rl (bJ x t S L) 1=none:=by
 show W.r2 (bJ x t S L) (x.o:Int).toNat=none
 rw[Int.toNat_natCast];unfold W.r2;have e1:(bJ x t S L).reg.toNat*2 ^ x.o=t.m.n:=by
  show((t.m.n/2 ^ x.o:Nat):Int).toNat*2 ^ x.o=_
  rw[Int.toNat_natCast];exact h.np
 have e2:W.wiB (bJ x t S L).reg 0 (bJ x t S L).lim=true:=by
  unfold W.wiB;have hq:=h.le;show decide ((0:Int)<=((t.m.n/2 ^ x.o:Nat):Int)/\((t.m.n/2 ^ x.o:Nat):Int)<=(L:Int))=true
  generalize t.m.n/2 ^ x.o=q at hq;exact decide_eq_true ⟨by omega,by omega⟩
 rw[e1,if_neg (by rw[e2];simp),if_neg (not_not_intro (show(bJ x t S L).nm=t.m.n*4096 from h.st.symm)),if_neg (not_not_intro (show(bJ x t S L).np=t.m.n from rfl)),if_neg (not_not_intro (show(bJ x t S L).no=x.o from rfl)),if_neg,if_neg (not_not_intro (show(bJ x t S L).hd.length=x.o+1 by simp[bJ])),if_neg (not_not_intro (show(bJ x t S L).pt.length=8 by simp[bJ]))];exact not_not_intro (W.fst1_ok fun j hj=>decide_eq_true (h.sd.wl j hj))
theorem St0.rl2(h:St0 x t fr B S L):W.rl (bJ x t S L) 2=none:=by
 refine W.fst1_ok fun i hi=>?_
 have hi:i<t.m.n:=hi;show W.rngB (x.o:Int) (t.m.n:Int) (t.m.pg i)=true
 have n1:=h.sd.n1;simp only[W.rngB,W.wiB,Bool.and_eq_true,decide_eq_true_eq];rcases h.page hi with ⟨k,h1,h2,h3,h4⟩|⟨h1,g,p,k,hb,h2,h3,h4,h5⟩
 ·have hn:=dL h2;have hm:∀ r,r∈S.pl k->r<t.m.n:=fun r hr=>by
   have:=h.sd.al _ _ _ (h.slabB ((h.si.pm k h2 r).1 hr).1);simp at this;omega
  have hf:(-1:Int)<=bD (S.fl i)/\bD (S.fl i)<=255:=by
   rcases oP (S.fl i)with e|⟨r,e,hr⟩
   ·omega
   ·have:=(h.si.fl i k h1).2.1 r hr;omega
  have hx:(-1:Int)<=bC (S.pl k) i/\bC (S.pl k) i<=(t.m.n:Int)-1:=by
   rcases lJ (S.pl k) i (h.si.pn k h2)with e|⟨r,e,hr,-⟩
   ·omega
   ·have:=hm r hr;omega
  have hy:(-1:Int)<=bG (S.pl k) i/\bG (S.pl k) i<=(t.m.n:Int)-1:=by
   rcases lZ (S.pl k) i (h.si.pn k h2)with e|⟨r,e,hr,-⟩
   ·omega
   ·have:=hm r hr;omega
  rw[h3.kd,h3.od,h3.cl,h3.lv,h3.nx,h3.pv,h3.fs];refine⟨?_,?_,?_,?_,hx,hy,hf⟩ <;> omega
 ·have hk:=(h.sd.al _ _ _ hb).1;rw[h5];simp only[aN];refine⟨?_,?_,?_,?_,?_,?_,?_⟩ <;> (try split) <;> omega
theorem St0.starts(h:St0 x t fr B S L){a:Nat}(ha:a<t.m.n)(hs:a=0\/∃ g p k,B g p k/\p+2 ^ k=a):∃ g k,B g a k:=by
 obtain⟨g,p,k,hb,h1,h2⟩:=h.sd.cv a ha;by_cases e:p=a
 ·exact⟨g,k,by rw[<-e];exact hb⟩
 rcases hs with e0|⟨g',p',k',hb',e'⟩
 ·omega
 ·exfalso
  rcases h.sd.ds _ _ _ _ _ _ hb hb' with ⟨-,e1,e2⟩|e1|e1
  ·rw[e1,e2] at h2;omega
  ·have:=Nat.two_pow_pos k';omega
  ·omega
theorem St0.r4(h:St0 x t fr B S L):∀ m a,t.m.n-a<m->(a=t.m.n\/∃ g k,B g a k)->W.r4F (bJ x t S L) m a=none
 | 0,a,hm,_=>by omega
 | m+1,a,hm,hs=>by
  by_cases e:a=t.m.n
  ·subst e;exact W.r4F_end
  rcases hs with e'|⟨g,k,hb⟩
  ·exact absurd e' e
  have hal:=h.sd.al _ _ _ hb;have hp:=Nat.two_pow_pos k;have ha:a<t.m.n:=by omega
  have next:a+2 ^ k=t.m.n\/∃ g' k',B g' (a+2 ^ k) k':=by
   by_cases e2:a+2 ^ k=t.m.n
   ·exact .inl e2
   ·exact .inr (h.starts (by omega) (.inr ⟨g,a,k,hb,rfl⟩))
  cases hc:S.c a with
  | some c=>
   obtain⟨-,h3⟩:=h.si.pg a c hc;obtain⟨-,e0⟩:=h.one hb (h.slabB hc);subst e0;have hd:W.hdOk ((bJ x t S L).pg a) a=true:=by
    show W.hdOk (t.m.pg a) a=true
    unfold W.hdOk;rw[if_pos h3.kd,h3.od];rfl
   rw[W.r4F_ok (o:=0) ha (by show(t.m.pg a).od=_;rw[h3.od];rfl) hd (fun x hx=>by simp at hx)];exact h.r4 m (a+2 ^ 0) (by omega) next
  | none=>
   have hf:=h.first hb hc
   have hd:W.hdOk ((bJ x t S L).pg a) a=true:=by
    show W.hdOk (t.m.pg a) a=true
    rw[hf];unfold W.hdOk;have hg:=(h.tag hb).1;rw[if_neg (by show ¬(g:Int)=4;omega),if_pos (by show(g:Int)=0\/(g:Int)=2;omega)];show(decide (a%2 ^ (k:Int).toNat=0) && W.pgE (aN (g:Int) (k:Int)) (aN (g:Int) (k:Int)))=true
    rw[Int.toNat_natCast,decide_eq_true hal.2.1,Bool.true_and];exact decide_eq_true rfl
   rw[W.r4F_ok (o:=k) ha (by show(t.m.pg a).od=_;rw[hf];rfl) hd]
   ·exact h.r4 m (a+2 ^ k) (by omega) next
   ·intro y hy;show W.rsOk (t.m.pg a) (t.m.pg (a+1+y))=true
    have hn:S.c (a+1+y)=none:=by
     cases e3:S.c (a+1+y)with
     | none=>rfl
     | some c=>
      rcases h.sd.ds _ _ _ _ _ _ hb (h.slabB e3)with ⟨-,e1,-⟩|e1|e1
      ·omega
      ·omega
      ·simp at e1;omega
    have hq:=h.sd.pg g a k hb (h.tag hb).2 (a+1+y) (by omega) (by omega);rw[h.si.eP,gY hn,Option.getD_none,if_neg (by omega)] at hq;rw[hq,hf];show W.pgE (aN ((g:Int)+1) (k:Int)) (aN ((g:Int)+1) (k:Int))=true
    simp[W.pgE]
theorem St0.rl3(h:St0 x t fr B S L):W.rl (bJ x t S L) 3=none:=by
 show W.r4F (bJ x t S L) (t.m.n+1) 0=none
 refine h.r4 _ 0 (by omega) ?_;by_cases e:t.m.n=0
 ·exact .inl e.symm
 ·exact .inr (h.starts (by omega) (.inl rfl))
theorem St0.rl5(h:St0 x t fr B S L):W.rl (bJ x t S L) 5=none:=by
 show W.fst1 t.m.n (W.ok6 (bJ x t S L) (x.o:Int).toNat)=none
 rw[Int.toNat_natCast];refine W.fst1_ok fun a ha=>?_
 unfold W.ok6;show(!(W.isF (t.m.pg a) (t.m.pg a).od && decide ((t.m.pg a).od<(x.o:Int)) && decide (a%(2*2 ^ (t.m.pg a).od.toNat)=0)) || !W.isF (t.m.pg (a+2 ^ (t.m.pg a).od.toNat)) (t.m.pg a).od)=true
 cases hf:W.isF (t.m.pg a) (t.m.pg a).od with
 | false=>rfl
 | true=>
  have:∃ j:Nat,(t.m.pg a).od=(j:Int):=by
   rcases h.page ha with ⟨k,h1,h2,h3,h4⟩|⟨h1,g,p,k,hb,h2,h3,h4,h5⟩
   ·exact⟨0,h3.od⟩
   ·exact⟨k,by rw[h5];rfl⟩
  obtain⟨j,hj⟩:=this;rw[hj] at hf ⊢;rw[Int.toNat_natCast];have hb:=(h.isF_iff ha).1 hf;obtain⟨hjo,hfr⟩:=(h.sd.fi _ _).1 hb;by_cases hjk:j<x.o
  ·by_cases hal:a%(2*2 ^ j)=0
   ·rw[decide_eq_true (show(j:Int)<x.o by omega),decide_eq_true hal];obtain⟨i,hi⟩:=Nat.dvd_of_mod_eq_zero hal;have hfit:a+2 ^ j<t.m.n:=by
     have hd : 2*2 ^ j ∣ t.m.n:=by
      rw[<-h.np,show 2*2 ^ j=2 ^ (j+1)by rw[Nat.pow_succ,Nat.mul_comm]];exact Nat.dvd_trans (Nat.pow_dvd_pow 2 hjk) (Nat.dvd_mul_left _ _)
     have:=W.mul_fits hd hal ha;have:=Nat.two_pow_pos j;omega
    rw[h.isF_mem hfit hjo,decide_eq_false]
    ·rfl
    ·intro hm;refine h.sd.nm j hjk i ⟨?_,?_⟩
     ·rw[show 2*i*2 ^ j=a by rw[hi,Nat.mul_right_comm]];exact hfr
     ·rw[show(2*i+1)*2 ^ j=a+2 ^ j by rw[Nat.add_mul,Nat.one_mul,hi,Nat.mul_right_comm]];exact hm
   ·rw[decide_eq_false hal];simp
  ·rw[decide_eq_false (show ¬(j:Int)<x.o by omega)];simp
theorem St0.rl6(h:St0 x t fr B S L):W.rl (bJ x t S L) 6=none:=by
 show W.fstO x.o (W.r7k (bJ x t S L))=none
 refine W.fstO_ok fun a ha=>W.r7k_good (fun i hi=>?_) (fun i hi _=>h.hz a ha i hi)
 have hi:i<t.m.n/2 ^ (a+1):=hi;show aF (t.m.wd a) i=(W.isF (t.m.pg (i*2 ^ (a+1))) (a:Int) != W.isF (t.m.pg (i*2 ^ (a+1)+2 ^ a)) (a:Int))
 have hl:=W.half_lt hi;have hp:=Nat.two_pow_pos a;rw[h.sd.bt a ha i hi,h.isF_mem (by omega) (by omega),h.isF_mem hl (by omega)];rw[show i*2 ^ (a+1)=2*i*2 ^ a by rw[Nat.pow_succ,Nat.mul_comm 2 i,Nat.mul_assoc,Nat.mul_comm 2],show(2*i+1)*2 ^ a=2*i*2 ^ a+2 ^ a by rw[Nat.add_mul,Nat.one_mul]]
end
theorem IW(p:Pg){i:Nat}(hi:i<256):aF (W.wsP p) i=aH p i:=by
 unfold aF aH;have:(W.wsP p).getD (i/64) 0=wP p (i/64):=by
  obtain⟨q,hq⟩:=xe (i/64);rw[<-hq];match q,(show q<4 by omega)with
  | 0,_=>rfl
  | 1,_=>rfl
  | 2,_=>rfl
  | 3,_=>rfl
  | _+4,h=>omega
 rw[this]
theorem IT(l:List Nat):∀ n,l.Nodup->(∀ i∈l,i<n)->aK (fun i=>decide (i ∉ l)) n+l.length=n:=by
 intro n hd hl;have key:∀ n,aK (fun i=>decide (i ∉ l)) n+((List.range n).filter fun i=>decide (i∈l)).length=n:=by
  intro n;induction n with
  | zero=>rfl
  | succ n ih=>
   rw[List.range_succ,List.filter_append,List.length_append];by_cases h:n∈l
   ·have e1 : [n].filter (fun i=>decide (i∈l))=[n]:=(by simp[h]);rw[oT _ _ (decide_eq_false (not_not_intro h)),e1,<-Nat.add_assoc,ih];rfl
   ·have e1 : [n].filter (fun i=>decide (i∈l))=[]:=(by simp[h]);rw[qS _ _ (decide_eq_true h),e1,List.length_nil];omega
 have hp:((List.range n).filter fun i=>decide (i∈l)).length=l.length:=by
  refine List.Perm.length_eq ((List.perm_ext_iff_of_nodup (List.nodup_range.filter _) hd).2 fun i=>?_);simp only[List.mem_filter,List.mem_range,decide_eq_true_eq];exact⟨fun h=>h.2,fun h=>⟨hl i h,h⟩⟩
 have:=key n;omega
section
variable {x:Bx} {t:Bt} {fr:Nat->List Nat} {B:Nat->Nat->Nat->Prop} {S:Sb} {L:Nat}
theorem St0.bits(h:St0 x t fr B S L){i k:Nat}(hc:S.c i=some k)(j:Nat)(hj:j<256):aF (W.wsP (t.m.pg i)) j=decide (j<aG k/\j ∉ S.fl i):=by
 rw[IW _ hj];exact(h.si.pg i k hc).2.bt j hj
theorem St0.cnt(h:St0 x t fr B S L){i k:Nat}(hc:S.c i=some k):aK (aF (W.wsP (t.m.pg i))) 256=aG k-(S.fl i).length:=by
 obtain⟨hk,-⟩:=h.si.pg i k hc;have hn:=dL hk;have e:=IT (S.fl i) (aG k) (h.si.fl i k hc).1 (h.si.fl i k hc).2.1;have e2:aK (aF (W.wsP (t.m.pg i))) (aG k+(256-aG k))=aK (aF (W.wsP (t.m.pg i))) (aG k):=W.cntB_cut _ _ _ fun j h1 h2=>by
  rw[h.bits hc j (by omega),decide_eq_false];omega
 rw[show aG k+(256-aG k)=256 by omega] at e2;rw[e2,rB _ (fun i'=>decide (i' ∉ S.fl i)) (aG k) fun j hj=>by rw[h.bits hc j (by omega)];simp[hj]];omega
theorem St0.rule5(h:St0 x t fr B S L){i:Nat}(hi:i<t.m.n):W.ok5 (t.m.pg i)=true:=by
 rcases h.page hi with ⟨k,h1,h2,h3,h4⟩|⟨h1,g,p,k,hb,h2,h3,h4,h5⟩
 ·rw[W.ok5_iff (t.m.pg i) (h.pin i hi) k h3.cl h3.kd,h3.lv,h.cnt h1];have:=h.lv i k h1;refine⟨⟨by omega,rfl⟩,fun j h6 h7=>?_⟩;rw[h.bits h1 j h7,decide_eq_false];have:aG k<=j:=h6;omega
 ·unfold W.ok5;rw[h5,decide_eq_false]
  ·rfl
  ·show ¬(if i=p then (g:Int) else (g:Int)+1)=4
   split <;> omega
theorem St0.rl4(h:St0 x t fr B S L):W.rl (bJ x t S L) 4=none:=W.fst1_ok fun i hi=>h.rule5 hi
theorem St0.sn9(h:St0 x t fr B S L):∃ r,W.Sn9 (bJ x t S L) x.o r:=by
 have:=W.sn9_of h.rl0 h.rl1 h.rl2;rwa [show(bJ x t S L).ord.toNat=x.o from Int.toNat_natCast _] at this
theorem St0.rl10(h:St0 x t fr B S L):W.rl (bJ x t S L) 10=none:=by
 refine W.fst1_ok fun i hi=>?_
 have hi:i<t.m.n:=hi;unfold W.ok11;show(!(decide ((t.m.pg i).kd=4) && decide ((t.m.pg i).lv=(W.celN9 (t.m.pg i).cl.toNat:Int))) || (decide ((t.m.pg i).nx = -1) && decide ((t.m.pg i).pv = -1)))=true
 rcases h.page hi with ⟨k,h1,h2,h3,h4⟩|⟨h1,g,p,k,hb,h2,h3,h4,h5⟩
 ·by_cases e:S.fl i=[]
  ·have hn:i ∉ S.pl k:=fun hm=>((h.si.pm k h2 i).1 hm).2 e
   rw[h3.nx,h3.pv,sE hn,oK hn];simp
  ·have hl : 0<(S.fl i).length:=List.length_pos_iff.2 e;have hle:=h.si.lv i k h1;have hn:=dL h2;rw[h3.lv,h3.cl,Int.toNat_natCast,decide_eq_false (show ¬((aG k-(S.fl i).length:Nat):Int)=((W.celN9 k:Nat):Int)from fun e=>by
    have e:aG k-(S.fl i).length=aG k:=Int.ofNat.inj e;omega)]
   simp
 ·rw[h5,decide_eq_false]
  ·rfl
  ·show ¬(if i=p then (g:Int) else (g:Int)+1)=4
   split <;> omega
theorem UC{α : Type}[DecidableEq α]{dec : α->Option Nat}{nil : α}{nxt bk:Nat->α}{S:Nat->Bool}{n i:Nat}{p b : α}(h:dec p=some i):W.refL dec nil nxt bk S (n+1) p b=(S i && (decide (bk i=b) && W.refL dec nil nxt bk S n (nxt i) p)):=by rw[W.refL,h]
theorem uD{α : Type}[DecidableEq α]{dec : α->Option Nat}{nil : α}{nxt bk:Nat->α}{P:Nat->Bool}(cod:Nat->α)(xs:List Nat)(hdec:∀ i∈xs,dec (cod i)=some i)(hP:∀ i∈xs,P i=true)
  (hn:∀ j,j<xs.length->nxt (xs.getD j 0)=if j+1<xs.length then cod (xs.getD (j+1) 0) else nil) (hb:∀ j,j<xs.length->bk (xs.getD j 0)=if j=0 then nil else cod (xs.getD (j-1) 0)):
  ∀ d j,j+d=xs.length->W.refL dec nil nxt bk P d (if j<xs.length then cod (xs.getD j 0) else nil) (if j=0 then nil else cod (xs.getD (j-1) 0))=true
 | 0,j,hj=>by
  rw[if_neg (by omega)];exact decide_eq_true rfl
 | d+1,j,hj=>by
  have hm:xs.getD j 0∈xs:=by
   rw[List.getD_eq_getElem?_getD,List.getElem?_eq_getElem (by omega)];exact List.getElem_mem _
  rw[if_pos (by omega),UC (hdec _ hm),hP _ hm,hb j (by omega),decide_eq_true rfl,hn j (by omega),Bool.true_and,Bool.true_and];have:=uD cod xs hdec hP hn hb d (j+1) (by omega);rwa [if_neg (by omega:¬j+1=0),Nat.add_sub_cancel] at this
theorem wU{I:W.Img}{P:Pg->Bool}{xs:List Nat}(hd:xs.Nodup)(h:∀ i,i∈xs↔i<I.np/\P (I.pg i)=true):(W.pgL I P).length=xs.length:=
 List.Perm.length_eq ((List.perm_ext_iff_of_nodup (W.pgL_nodup I P) hd).2 fun i=>by rw[W.pgL_mem];exact(h i).symm)
theorem oQ(f:Nat->Nat)(l:List Nat)(j:Nat)(hj:j<l.length):(l.map f).getD j 0=f (l.getD j 0):=by
 simp[List.getElem?_eq_getElem hj]
theorem St0.rl7(h:St0 x t fr B S L):W.rl (bJ x t S L) 7=none:=by
 show W.fst1 ((x.o:Int).toNat+1) (W.ok8 (bJ x t S L))=none
 rw[Int.toNat_natCast];refine W.fst1_ok fun k hk=>?_
 obtain⟨r,hS⟩:=h.sn9;have hk:k<=x.o:=by omega
 have hc:=h.sd.ch k hk;have hlt:∀ i∈fr k,i<t.m.n:=fun i hi=>by
  have:=h.sd.al _ _ _ ((h.sd.fi i k).2 ⟨hk,hi⟩);have:=Nat.two_pow_pos k;omega
 have hmem:∀ i,i∈fr k↔i<t.m.n/\W.isF (t.m.pg i) (k:Int)=true:=fun i=>by
  constructor
  ·intro hi;exact⟨hlt i hi,by rw[h.isF_mem (hlt i hi) hk];exact decide_eq_true hi⟩
  ·rintro ⟨h1,h2⟩;rw[h.isF_mem h1 hk] at h2;exact of_decide_eq_true h2
 have hnd:(fr k).Nodup:=(List.pairwise_map.1 hc.nodup).imp fun hne e=>hne (by rw[e])
 rw[W.ok8_eq hS,wU (I:=bJ x t S L) (P:=fun p=>W.isF p (k:Int)) hnd hmem];have hln:((fr k).map (ad x)).length=(fr k).length:=List.length_map _;have key:=uD (dec:=W.decP (bJ x t S L)) (nil:=0) (nxt:=fun i=>M.word t.f (4096*i)) (bk:=fun i=>M.word t.f (4096*i+8)) (P:=fun i=>W.isF (t.m.pg i) (k:Int)) (ad x) (fr k) ?_ ?_ ?_ ?_ (fr k).length 0 (by omega)
 ·rw[if_pos rfl] at key;show W.refL _ 0 _ _ _ _ (((List.range (x.o+1)).map t.hd).getD k 0) 0=true
  have hh:((List.range (x.o+1)).map t.hd).getD k 0=t.hd k:=by
   simp[show k<x.o+1 by omega]
  rw[hh,hc.head];by_cases e : 0<(fr k).length
  ·rw[if_pos e] at key;rw[oQ _ _ 0 e];exact key
  ·rw[if_neg e] at key;have:fr k=[]:=List.eq_nil_of_length_eq_zero (by omega);rw[this] at key ⊢;exact key
 ·intro i hi;have hl:=hlt i hi;have hst:=h.st;unfold W.decP;show(if x.bS<=ad x i/\ad x i-x.bS<x.n/\(ad x i-x.bS)%4096=0 then some ((ad x i-x.bS)/4096) else none)=some i
  unfold ad;rw[if_pos ⟨by omega,by omega,by omega⟩];congr 1
  omega
 ·intro i hi;exact((hmem i).1 hi).2
 ·intro j hj;have:=hc.nxt j (by rw[hln];exact hj);rw[oQ _ _ j hj] at this;unfold M.nx ad at this;rw[Nat.add_sub_cancel_left] at this;rw[this];by_cases e:j+1<(fr k).length
  ·rw[if_pos e];exact oQ _ _ _ e
  ·rw[if_neg e,List.getD_eq_getElem?_getD,List.getElem?_eq_none (by rw[List.length_map];omega)];rfl
 ·intro j hj;have:=hc.prv j (by rw[hln];exact hj);rw[oQ _ _ j hj] at this;unfold M.pv ad at this;rw[show x.bS+4096*(fr k).getD j 0+8-x.bS=4096*(fr k).getD j 0+8 by omega] at this;rw[this];by_cases e:j=0
  ·rw[if_pos e,if_pos e]
  ·rw[if_neg e,if_neg e];exact oQ _ _ _ (by omega)
end
theorem vY:∀ (l:List Nat),l.Nodup->∀ j,j<l.length->bC l (l.getD j 0)=if j+1<l.length then ((l.getD (j+1) 0:Nat):Int) else -1
 | [],_,j,hj=>by simp at hj
 | a :: l,hd,0,_=>by
  show(if a=a then bD l else _)=_
  rw[if_pos rfl]
  cases l with
  | nil=>rfl
  | cons b l=>rw[if_pos (by simp)];rfl
 | a :: l,hd,j+1,hj=>by
  rw[List.nodup_cons] at hd;have hj:j<l.length:=by simpa using hj
  have hm:l.getD j 0∈l:=by rw[List.getD_eq_getElem?_getD,List.getElem?_eq_getElem hj];exact List.getElem_mem _
  show(if a=l.getD j 0 then bD l else bC l (l.getD j 0))=if j+1+1<l.length+1 then ((l.getD (j+1) 0:Nat):Int) else -1
  rw[if_neg (fun e=>hd.1 (by rw[e];exact hm)),vY l hd.2 j hj];by_cases e:j+1<l.length
  ·rw[if_pos e,if_pos (by omega)]
  ·rw[if_neg e,if_neg (by omega)]
theorem vX:∀ (l:List Nat),l.Nodup->∀ j,j<l.length->bG l (l.getD j 0)=if j=0 then -1 else ((l.getD (j-1) 0:Nat):Int)
 | [],_,j,hj=>by simp at hj
 | a :: l,hd,0,_=>by
  rw[List.nodup_cons] at hd;show(if bD l=(a:Int) then (a:Int) else bG l a)=_
  rw[if_neg (fun e=>hd.1 (mY e)),if_pos rfl];exact oK hd.1
 | a :: l,hd,j+1,hj=>by
  rw[List.nodup_cons] at hd;have hj:j<l.length:=by simpa using hj
  show(if bD l=((l.getD j 0:Nat):Int) then (a:Int) else bG l (l.getD j 0))=_
  rw[if_neg (by omega:¬j+1=0),Nat.add_sub_cancel]
  cases j with
  | zero=>
   cases l with
   | nil=>simp at hj
   | cons b l=>exact if_pos rfl
  | succ j=>
   rw[if_neg,vX l hd.2 (j+1) hj,if_neg (by omega),Nat.add_sub_cancel]
   ·rfl
   ·intro e
    cases l with
    | nil=>simp at hj
    | cons b l=>
     have e:(b:Int)=((l.getD j 0:Nat):Int):=e;have hd2:=(List.nodup_cons.1 hd.2).1;have hj:j<l.length:=(by simpa using hj);apply hd2
     rw[show b=l.getD j 0 by omega,List.getD_eq_getElem?_getD,List.getElem?_eq_getElem hj];exact List.getElem_mem _
def vD(nx:Nat->Option Int):List Nat->Prop
 | []=>True
 | i :: r=>nx i=some (bD r)/\vD nx r
theorem zK{nx:Nat->Option Int} : ∀ (fl l:List Nat),l.Nodup->fl.Nodup->(∀ i,i∈l↔i∈fl)->vD nx fl->W.prg9 nx (l.length+1) l (bD fl)=true
 | [],l,_,_,hm,_=>by
  have:l=[]:=List.eq_nil_iff_forall_not_mem.2 fun i hi=>by simpa using (hm i).1 hi
  subst this;exact W.prg9_end
 | i :: r,l,hd,hf,hm,hl=>by
  rw[List.nodup_cons] at hf;have hi:i∈l:=(hm i).2 List.mem_cons_self;show W.prg9 nx (l.length+1) l (i:Int)=true
  rw[W.prg9_yes hi hl.1];refine zK r (l.erase i) (hd.erase i) hf.2 (fun j=>?_) hl.2;rw[hd.mem_erase_iff,hm j,List.mem_cons];constructor
  ·rintro ⟨h1,h2|h2⟩
   ·exact absurd h2 h1
   ·exact h2
  ·intro h2;exact⟨fun e=>hf.1 (by rw[<-e];exact h2),.inr h2⟩
section
variable {x:Bx} {t:Bt} {fr:Nat->List Nat} {B:Nat->Nat->Nat->Prop} {S:Sb} {L:Nat}
theorem St0.rl9(h:St0 x t fr B S L):W.rl (bJ x t S L) 9=none:=by
 refine W.fst1_ok fun k hk=>?_
 have hnd:=h.si.pn k hk;have hmem:∀ i,i∈S.pl k↔i<t.m.n/\W.prS (k:Int) (t.m.pg i)=true:=fun i=>by
  rw[h.si.pm k hk i];unfold W.prS;constructor
  ·rintro ⟨h1,h2⟩;obtain⟨-,h3⟩:=h.si.pg i k h1;have:=h.sd.al _ _ _ (h.slabB h1);have hl : 0<(S.fl i).length:=List.length_pos_iff.2 h2;have hle:=h.si.lv i k h1;refine⟨by simp at this;omega,?_⟩;rw[h3.kd,h3.cl,h3.lv,Int.toNat_natCast,decide_eq_false (show ¬((aG k-(S.fl i).length:Nat):Int)=((W.celN9 k:Nat):Int)from fun e=>by
    have e:aG k-(S.fl i).length=aG k:=Int.ofNat.inj e;have hn:=dL hk;omega)]
   simp
  ·rintro ⟨hi,hp⟩;simp only[Bool.and_eq_true,decide_eq_true_eq,Bool.not_eq_true'] at hp;obtain⟨p1,p2,p3⟩:=hp;rcases h.page hi with ⟨c,h1,h2,h3,h4⟩|⟨h1,g,p,k',hb,h2,h3,h4,h5⟩
   ·rw[h3.cl] at p2;have:c=k:=by omega
    subst this;refine⟨h1,fun e=>?_⟩;rw[h3.lv,h3.cl,e,Int.toNat_natCast] at p3;exact of_decide_eq_false p3 rfl
   ·rw[h5] at p1;have p1:(if i=p then (g:Int) else (g:Int)+1)=4:=p1;split at p1 <;> omega
 rw[W.ok10_eq,wU (I:=bJ x t S L) (P:=W.prS (k:Int)) hnd hmem];have hpg:∀ j,j<(S.pl k).length->SlP S ((S.pl k).getD j 0) k (t.m.pg ((S.pl k).getD j 0)):=fun j hj=>by
  have hm:(S.pl k).getD j 0∈S.pl k:=by rw[List.getD_eq_getElem?_getD,List.getElem?_eq_getElem hj];exact List.getElem_mem _
  exact(h.si.pg _ k ((h.si.pm k hk _).1 hm).1).2
 have key:=uD (dec:=W.dec10 (bJ x t S L)) (nil:=(-1:Int)) (nxt:=fun i=>(t.m.pg i).nx) (bk:=fun i=>(t.m.pg i).pv) (P:=fun i=>W.prS (k:Int) (t.m.pg i)) (fun i=>(i:Int)) (S.pl k) ?_ ?_ ?_ ?_ (S.pl k).length 0 (by omega)
 ·rw[if_pos rfl] at key;show W.refL _ (-1) _ _ _ _ (((List.range 8).map fun k=>bD (S.pl k)).getD k 0) (-1)=true
  have hh:((List.range 8).map fun k=>bD (S.pl k)).getD k 0=bD (S.pl k):=by
   simp[hk]
  rw[hh];have e3:bD (S.pl k)=if 0<(S.pl k).length then (((S.pl k).getD 0 0:Nat):Int) else -1:=by
   cases S.pl k with
   | nil=>rfl
   | cons a l=>rw[if_pos (by simp)];rfl
  rw[e3];exact key
 ·intro i hi;unfold W.dec10;have hl:=((hmem i).1 hi).1;show(if 0<=(i:Int)/\(i:Int)<t.m.n then some (i:Int).toNat else none)=some i
  rw[if_pos ⟨by omega,by omega⟩,Int.toNat_natCast]
 ·intro i hi;exact((hmem i).1 hi).2
 ·intro j hj;show(t.m.pg ((S.pl k).getD j 0)).nx=_
  rw[(hpg j hj).nx];exact vY _ hnd j hj
 ·intro j hj;show(t.m.pg ((S.pl k).getD j 0)).pv=_
  rw[(hpg j hj).pv];exact vX _ hnd j hj
theorem St0.lp9(h:St0 x t fr B S L){g k:Nat}(hk:k<8):∀ l:List Nat,(∀ i∈l,i<aG k)->lQ x t.f g k l->vD (W.nx9 (bJ x t S L) g k) l
 | [],_,_=>trivial
 | i :: r,hl,hn=>by
  refine⟨?_,h.lp9 hk r (fun j hj=>hl j (List.mem_cons_of_mem _ hj)) hn.2⟩;have e:=hn.1;have hb:=h.sd.b1;have hc:=dL hk;unfold W.nx9;show(if M.word t.f (4096*g+i*aE k)=0 then some (-1) else if x.bS+g*4096<=M.word t.f (4096*g+i*aE k)/\M.word t.f (4096*g+i*aE k)-(x.bS+g*4096)<4096/\(M.word t.f (4096*g+i*aE k)-(x.bS+g*4096))%aE k=0 then some (((M.word t.f (4096*g+i*aE k)-(x.bS+g*4096))/aE k:Nat):Int) else none)=some (bD r)
  rw[e]
  cases r with
  | nil=>exact if_pos rfl
  | cons j r'=>
   have hj:=hl j (by simp);have hm:(j+1)*aE k<=aG k*aE k:=Nat.mul_le_mul_right _ hj;rw[hc.1,Nat.add_mul,Nat.one_mul] at hm;have hs : 0<aE k:=Nat.mul_pos (by decide) (Nat.two_pow_pos k);show(if aP x g k j=0 then _ else if x.bS+g*4096<=aP x g k j/\aP x g k j-(x.bS+g*4096)<4096/\(aP x g k j-(x.bS+g*4096))%aE k=0 then some (((aP x g k j-(x.bS+g*4096))/aE k:Nat):Int) else none)=some (j:Int)
   have e2:aP x g k j-(x.bS+g*4096)=j*aE k:=(by unfold aP;omega);have e3:x.bS+g*4096<=aP x g k j:=(by unfold aP;omega);rw[e2,if_neg (by omega),if_pos ⟨e3,by omega,Nat.mul_mod_left _ _⟩,Nat.mul_div_cancel _ hs]
theorem St0.rl8(h:St0 x t fr B S L):W.rl (bJ x t S L) 8=none:=by
 refine W.fst1_ok fun i hi=>?_
 have hi:i<t.m.n:=hi;unfold W.ok9;rcases h.page hi with ⟨k,h1,h2,h3,h4⟩|⟨h1,g,p,k,hb,h2,h3,h4,h5⟩
 ·show(!decide ((t.m.pg i).kd=4) || W.ok9c (bJ x t S L) i (t.m.pg i).cl.toNat)=true
  rw[h3.cl,Int.toNat_natCast];have:W.ok9c (bJ x t S L) i k=true:=by
   unfold W.ok9c;show W.prg9 (W.nx9 (bJ x t S L) i k) ((W.frL (t.m.pg i) (aG k)).length+1) (W.frL (t.m.pg i) (aG k)) (t.m.pg i).fs=true
   rw[h3.fs];obtain⟨f1,f2,f3⟩:=h.si.fl i k h1;have hn:=dL h2;refine zK (S.fl i) _ (List.nodup_range.filter _) f1 (fun j=>?_) (h.lp9 h2 _ f2 f3);simp only[W.frL,List.mem_filter,List.mem_range,Bool.not_eq_true'];constructor
   ·rintro ⟨g1,g2⟩;rw[h.bits h1 j (by omega)] at g2;exact Decidable.not_not.1 fun hne=>of_decide_eq_false g2 ⟨g1,hne⟩
   ·intro hj;refine⟨f2 j hj,?_⟩;rw[h.bits h1 j (by have:=f2 j hj;omega)];exact decide_eq_false fun e=>e.2 hj
  rw[this];simp
 ·show(!decide ((t.m.pg i).kd=4) || _)=true
  rw[h5,decide_eq_false]
  ·rfl
  ·show ¬(if i=p then (g:Int) else (g:Int)+1)=4
   split <;> omega
theorem St0.sound(h:St0 x t fr B S L):W.chk (bJ x t S L)=(0,0):=by
 refine W.chk_ok fun a ha=>?_
 match a,ha with
 | 0,_=>exact h.rl0
 | 1,_=>exact h.rl1
 | 2,_=>exact h.rl2
 | 3,_=>exact h.rl3
 | 4,_=>exact h.rl4
 | 5,_=>exact h.rl5
 | 6,_=>exact h.rl6
 | 7,_=>exact h.rl7
 | 8,_=>exact h.rl8
 | 9,_=>exact h.rl9
 | 10,_=>exact h.rl10
end
section
variable {α : Type} [DecidableEq α] {dec : α->Option Nat} {nil : α} {nxt bk:Nat->α}
end
section
variable {I:W.Img} {k r:Nat} (hS:W.Sn9 I k r) (h4:W.rl I 3=none)
include hS h4
omit hS in
end
end Go.Proofs.YtkfmheelhinjdaaGreatDoor
namespace Go.Proofs.YtkfmheelhinjdaaGreatDoor.W
open Tryz
open Go.RowKit
set_option linter.unusedVariables false
set_option maxHeartbeats 8000000
set_option maxRecDepth 6000
end Go.Proofs.YtkfmheelhinjdaaGreatDoor.W
