import Derived.Test.YtbgbfpklgfpepaaGreatDoorXi
import Derived.Test.YtbgbfpklgfpepaaGreatDoorXg
set_option maxRecDepth 1000000
set_option maxHeartbeats 80000000
namespace Go.Proofs.YtbgbfpklgfpepaaGreatDoor
open Tryz
open Go.RowKit
set_option linter.unusedVariables false
theorem uR{m:Mp}{p i:Nat}{l:Bool}(hp:p<m.n)(hk:(m.pg p).kd=4)(hi:i<fD (m.pg p).cl)(hl:aN (m.pg p) i=!l):eW m (p:Int) (i:Int) l=0/\cG m (p:Int) (i:Int) l={ m with pg:=aI m.pg p (aW (m.pg p) i) }:=by
 have hc:kS m (p:Int) (i:Int) l=true:=by
  unfold kS pI;rw[Int.toNat_natCast,Int.toNat_natCast,dQ hp,decide_eq_true hk,dQ hi,hl]
  cases l <;> rfl
 unfold eW cG;rw[if_pos hc,if_pos hc,Int.toNat_natCast,Int.toNat_natCast];exact⟨rfl,rfl⟩
theorem uZ{m:Mp}{p:Nat}{c:Int}(hp:p<m.n)(hk:(m.pg p).kd=4)(hc:c = -1\/∃ j:Nat,c=(j:Int)/\j<fD (m.pg p).cl):gR m (p:Int) c={ m with pg:=aI m.pg p { m.pg p with fs:=c } }:=by
 have h:mA m (p:Int) c=true:=by
  unfold mA;rw[Int.toNat_natCast,dQ hp,decide_eq_true hk];rcases hc with rfl|⟨j,rfl,hj⟩
  ·rfl
  ·rw[dQ hj,Bool.or_true];rfl
 unfold gR;rw[if_pos h,Int.toNat_natCast]
def oD(m:Mp)(p i:Nat)(r:List Nat):Mp:=gR (cG m (p:Int) (i:Int) true) (p:Int) (cQ r)
def fO(m:Mp)(p i:Nat)(r:List Nat):Mp:=if r=[] then iP (oD m p i r) (p:Int) else oD m p i r
def iA(m:Mp)(h:Nat->Int)(p k i:Nat)(r:List Nat):Nat->Int:=if r=[] then iQ (oD m p i r) h (p:Int) k else h
theorem zY{w W sb lw x t fr ls S h}(o:SO w W sb lw x t fr ls S h)(p k i:Nat)(r:List Nat)(hc:S.c p=some k)(hf:S.fl p=i :: r):
  Calls prog 144 #[.pointer (some ⟨sb,0,none⟩),.int .i64 p,.int .i64 k] W fun e w'=>e=.returned (.tuple #[.int .u64 ((aO x p k i:Nat):Int),.int .i64 0])/\SE w W sb lw x t (fO t.m p i r) (iA t.m h p k i r) w':=by
 obtain⟨hk,sp⟩:=o.si.pg p k hc;obtain⟨nd,lt,lk⟩:=o.si.fl p k hc;have hlv:=o.si.lv p k hc;obtain⟨hls,hpn,hp1,hpb⟩:=o.mem hc;have n4:=o.po.nums.2.2.2.1;rw[hf] at nd lt lk hlv;have hib:i<aH k:=lt i List.mem_cons_self;have hnb:=dV hk;have hoff:=fQ (x:=x) (p:=p) hk hib (by omega);have hin:M.In x.bS x.n (aO x p k i) 8:=by
  have hz:=bU hk;unfold M.In;have e:aO x p k i=x.bS+4096*p+i*aC k:=rfl;omega
 have hao:aO x p k i-x.bS=4096*p+i*aC k:=by
  have e:aO x p k i=x.bS+4096*p+i*aC k:=rfl;omega
 have hcn:fD (t.m.pg p).cl=aH k:=by rw[sp.cl];rfl
 have hlit:aN (t.m.pg p) i=!true:=by
  rw[sp.bt i (by omega),hf];exact decide_eq_false (fun e=>e.2 List.mem_cons_self)
 obtain⟨hoE,hoM⟩:=uR hpn sp.kd (by rw[hcn];exact hib) hlit;have hnx:∃ nx:Int,nx=cQ r/\∀ W',Kt nO W W'->Calls prog 194 #[.pointer (some ⟨sb,0,none⟩),.int .u64 ((aO x p k i:Nat):Int),.int .i64 p] W' fun e w'=>e=.returned (.tuple #[.int .i64 nx,.bool true])/\Kt nO W' w':=by
  cases r with
  | nil=>exact⟨-1,rfl,fun W' kk=>zjB (o.sw.keep kk) _ _ hin (by rw[hao];exact lk.1)⟩
  | cons j r'=>
   have hjb:j<aH k:=lt j (List.mem_cons_of_mem _ List.mem_cons_self);have hj3:=fQ (x:=x) (p:=p) hk hjb (by omega);obtain⟨a1,a2,a3,a4⟩:=uC (x:=x) (t:=t) hk hjb (by omega) hpn sp.kd sp.cl;refine⟨(j:Int),rfl,fun W' kk=>?_⟩;have:=zjC (o.sw.keep kk) (aO x p k i) p (aO x p k j) hin (by rw[hao];exact lk.1) (by
    have e:aO x p k j=x.bS+4096*p+j*aC k:=rfl;have:=o.sw.pl.bd.sp.cfg.b1;omega) hj3.2.2 a1 a2
   rw[a4] at this;exact this
 obtain⟨nx,hnx1,hnx2⟩:=hnx;have NX:=aA hnx2;obtain⟨q,hq⟩:=xe (t.m.pg p);have HA:=aA (show Calls prog 42 #[.pointer (some ⟨x.m,0,none⟩),.int .i64 p] W fun e w'=>e=.returned (.tuple #[cW q,.bool true])/\Kt nO W w' from by rw[hq];exact kR x.m x.B t.m p W o.sw.pl.bd.mp hpn);have HM:=aA (bT o.sw.pl);have HC:=aA (show q.cl=(k:Int)from by rw[hq];exact sp.cl);have HF:=aA (show q.fs=(i:Int)from by rw[hq,sp.fs,hf];rfl);obtain⟨lv,hlv2⟩:∃ lv:Nat,q.lv=(lv:Int):=⟨_,by rw[hq];exact sp.lv⟩;have hlvr:lv=aH k-(r.length+1):=by
  have:=sp.lv;rw[<-hq,hlv2,hf] at this;have:=Int.ofNat.inj this;rw[this];rfl
 have HL:=aA hlv2;obtain⟨a,ha⟩:=xe (aO x p k i);have AD:=aA (show ∀ W',Kt nO W W'->Calls prog 176 #[.pointer (some ⟨sb,0,none⟩),.int .i64 p,.int .i64 k,.int .i64 i] W' fun e w'=>e=.returned (.int .u64 a)/\Kt nO W' w' from fun W' kk=>by
  rw[ha];exact xV (o.sw.keep kk) p k i (by omega) hk (by omega))
 rw[<-ha] at NX ⊢;obtain⟨m1,hm1⟩:=xe (cG t.m (p:Int) (i:Int) true);have OW:=aA (show ∀ W',Kt nO W W'->Calls prog 128 #[.pointer (some ⟨x.m,0,none⟩),.int .i64 p,.int .i64 i,.bool true] W' fun e w'=>e=.returned (.int .i64 0)/\SD w W' sb lw x t h m1 w' from fun W' kk=>by
  have:=zP (o.sw.keep kk) (p:Int) (i:Int) true;rw[hoE,<-hm1] at this;exact this)
 have FR:=aA (show ∀ W',SW w W' sb lw x { t with m:=m1 } h->Calls prog 179 #[.pointer (some ⟨x.m,0,none⟩),.int .i64 p,.int .i64 nx] W' fun e w'=>e=.returned (.int .i64 (lG m1 (p:Int) nx))/\SD w W' sb lw x { t with m:=m1 } h (gR m1 (p:Int) nx) w' from fun W' s=>tS s (p:Int) nx);obtain⟨m2,hm2⟩:=xe (gR m1 (p:Int) nx);have hM2:oD t.m p i r=m2:=by unfold oD;rw[hm2,hm1,hnx1]
 rw[<-hm2] at FR;generalize lG m1 (p:Int) nx=fe at *;obtain⟨mF,hmF⟩:=xe (fO t.m p i r);obtain⟨hF,hhF⟩:=xe (iA t.m h p k i r);rw[<-hmF,<-hhF];unfold fO at hmF;unfold iA at hhF;rw[hM2] at hmF hhF;have HMF:=aA hmF;have HHF:=aA hhF;have HO:=aA o.sw;obtain⟨c0,c1⟩:=o.sw.c0;have hnl2:=hnb.2.2;have CLS:=aA (show ∀ W' tt,SW w W' sb lw x tt h->Calls prog 130 #[.int .i64 k] W' fun e w'=>e=.returned (.int .i64 ((aH k:Nat):Int))/\w'=W' from fun W' tt s=>CX s k hk);obtain⟨N,hN⟩:=xe (aH k);rw[<-hN] at CLS;have HLR:=aA (show lv+1=N↔r=[] from by
  have h9:r.length+1<=aH k:=hlv;have h8:=hnb.2.1;rw[hlvr,hN];constructor
  ·intro e
   cases r with
   | nil=>rfl
   | cons j r'=>
    exfalso
    rw[List.length_cons] at e h9;omega
  ·intro e;rw[e,List.length_nil];omega)
 have hNb:N<=256:=by rw[hN];exact hnl2
 have hlvb:lv<=256:=by omega
 clear o sp nd lt lk hlv hls hpb n4 hf hib hnb hoff hin hao hcn hlit hoE hoM hnx2 hq hlv2 ha hm1 hm2 hM2 hmF hhF hlvr hN hnl2 hpn hc hnx1;go_enter func144,ntmps144;go_wp2_with fail;refine HM.out.mono ?_;rintro e w1 ⟨rfl,h1⟩;replace h1:=h1.symm;subst h1;go_wp2_with fail;refine HA.out.mono ?_;rintro e w2 ⟨rfl,hk2⟩;have K2:=aA (hk2.alloc (aT q));have X2:=aA (nH w2 (aT q));have S2:=aA (HO.out.keep K2.out);have NY:=aA (show ¬(aE x w2.heap.size\/w2.heap.size=sb)from fun e=>by
  rcases e with e|e
  ·exact absurd ((HO.out.keep hk2).pl.lt _ (.inl e)) (Nat.lt_irrefl _)
  ·have:=lH (HO.out.keep hk2).bx;omega)
 clear hk2 c0 c1;go_upto_region 2 with fail;generalize w2.heap.size=y at *;generalize w2.alloc (aT q)=W2 at *;have PQ:=aA (show ∀ W':World,W'.heap[y]?=some (aT q)->W'.cell? ⟨y,2,none⟩=some (.int .i64 k)/\W'.cell? ⟨y,3,none⟩=some (.int .i64 lv)/\W'.cell? ⟨y,6,none⟩=some (.int .i64 i)from fun W' hW=>by
  obtain⟨_,_,p2,p3,_,_,p6,_⟩:=hX hW;rw[HC.out] at p2;rw[HL.out] at p3;rw[HF.out] at p6;exact⟨p2,p3,p6⟩)
 obtain⟨p2,p3,p6⟩:=PQ.out _ X2.out;obtain⟨c0,c1⟩:=S2.out.c0;go_wp2_with fail;refine(AD.out _ K2.out).mono ?_;rintro e w3 ⟨rfl,hk3⟩;have K3:=aA (nT K2.out hk3);have X3:=aA ((hk3.block _ (lH X2.out) id).trans X2.out);clear hk3 c0 c1 p2 p3 p6;go_wp2_with fail;refine(NX.out _ K3.out).mono ?_;rintro e w4 ⟨rfl,hk4⟩;have K4:=aA (nT K3.out hk4);have X4:=aA ((hk4.block _ (lH X3.out) id).trans X3.out);have S4:=aA (HO.out.keep K4.out);clear hk4;go_upto_region 6 with fail;have KD:=aA ((Kt.refl nO w4).drew);have K5:=aA (nT K4.out KD.out);have S5:=aA (HO.out.keep K5.out);have X5:=aA ((KD.out.block _ (lH X4.out) id).trans X4.out);have MP:=aA (bT S5.out.pl);obtain⟨p2,p3,p6⟩:=PQ.out _ X5.out;obtain⟨c0,c1⟩:=S5.out.c0;go_region_held3 (fun w'=>w'.cell? ⟨sb,0,none⟩=some (.pointer (some ⟨lw,0,none⟩))/\w'.cell? ⟨y,6,none⟩=some (.int .i64 i)) ((refine⟨?_,?_⟩ <;> first|with_reducible assumption|fail)) (first
  | (go_at_call 128;(with_reducible refine(OW.out _ K5.out).mono ?_);rintro e w6 ⟨rfl,hs6,hk6⟩;obtain⟨f0,f1⟩:=hs6.c0;have X6:=aA ((hk6.block _ (lH X5.out) (fun e=>NY.out (.inl e))).trans X5.out);obtain⟨f2,f3,f6⟩:=PQ.out _ X6.out;have S6:=aA hs6;have K6:=aA (K5.out.trans hk6 (fun _ _ e=>e.elim) (fun _ _ e=>e));clear hs6 hk6)
  | (go_at_call 40;(with_reducible refine MP.out.mono ?_);rintro e w5 ⟨rfl,h5⟩;replace h5:=h5.symm;subst h5)
  | fail)
 all_goals
  clear p2 p3 p6 c0 c1 f2 f3 f6;have MP6:=aA (bT S6.out.pl);go_wp2_with fail;refine MP6.out.mono ?_;rintro e w7 ⟨rfl,h7⟩;replace h7:=h7.symm;subst h7;go_wp2_with fail;refine(FR.out _ S6.out).mono ?_;rintro e w7 ⟨rfl,hs7,hk7⟩;have S7:=aA hs7;have K7:=aA (K6.out.trans hk7 (fun _ _ e=>e) (fun _ _ e=>e));have X7:=aA ((hk7.block _ (lH X6.out) (fun e=>NY.out (.inl e))).trans X6.out);clear hs7 hk7 f0 f1;go_upto_region 9 with fail;obtain⟨p2,p3,p6⟩:=PQ.out _ X7.out;have KD7:=aA ((Kt.refl nO w7).drew);have X8:=aA ((KD7.out.block _ (lH X7.out) id).trans X7.out);obtain⟨q2,q3,q6⟩:=PQ.out _ X8.out;obtain⟨l1,hl1⟩:=xe (lv+1);have hl1i:(lv:Int)+1=(l1:Int):=by omega
  have hl1b:l1<=257:=by omega
  have hlw:IntKind.i64.wrap (l1:Int)=l1:=by rw[IntKind.wrap_i64];omega
  have HL1:=aA hl1;clear hl1;have CL:=aA (CLS.out _ _ (S7.out.keep KD7.out));go_region_held3 (fun w'=>w'.cell? ⟨y,3,none⟩=some (.int .i64 lv)) (first|with_reducible assumption|fail) (first
   | (go_at_call 130;(with_reducible refine CL.out.mono ?_);rintro e w8 ⟨rfl,h8⟩;replace h8:=h8.symm;subst h8)
   | fail)
  all_goals
   have S8:=aA (S7.out.keep KD7.out);have K8:=aA (K7.out.trans KD7.out (fun _ _ e=>e) (fun _ _ e=>e.elim));clear p2 p3 p6 q2 q3 q6 CL;by_cases hr:r=[]
   ·have hb:((l1:Int) == (N:Int))=true:=by
     rw[beq_iff_eq,HL1.out];have:=HLR.out.2 hr;omega
    have UL:=aA (show Calls prog 175 #[.pointer (some ⟨sb,0,none⟩),.int .i64 p,.int .i64 k] w7.drew fun e w'=>e=.returned (.tuple #[])/\SE w w7.drew sb lw x t mF hF w' from by
     have:=DW S8.out (p:Int) k hk;rw[HMF.out,HHF.out,if_pos hr,if_pos hr];exact this)
    generalize w7.drew=W8 at *;as_aux_lemma=>
     go_wp2_with fail;refine UL.out.mono ?_;rintro e w9 ⟨rfl,hs9,hk9⟩;have D:=aA (show SE w W sb lw x t mF hF w9 from⟨hs9,(K8.out.mono (fun _ _ e=>.inl e)).trans hk9 (fun _ _ e=>e) (fun _ _ e=>e)⟩);clear hs9 hk9;go_wp2_with fail;exact⟨rfl,.tuple #[.int .u64 a,.int .i64 0],by simp[results,results144,go_sem],rfl,D.out⟩
   ·have hb:((l1:Int) == (N:Int))=false:=by
     rw[beq_eq_false_iff_ne,HL1.out];intro e;exact hr (HLR.out.1 (by omega))
    have D:=aA (show SE w W sb lw x t mF hF w7.drew from by
     rw[HMF.out,HHF.out,if_neg hr,if_neg hr];exact⟨S8.out,K8.out.mono (fun _ _ e=>.inl e)⟩)
    generalize w7.drew=W8 at *;as_aux_lemma=>
     go_wp2_with fail;exact⟨rfl,.tuple #[.int .u64 a,.int .i64 0],by simp[results,results144,go_sem],rfl,D.out⟩
theorem vI(x r:Nat):(x/2 ^ r%2 == 1)=x.testBit r:=by
 rw[Nat.testBit_eq_decide_div_mod_eq];rfl
theorem VQ(p:Pg)(c j:Nat)(hc:c<256)(hj:j<256):aN (fS p c) j=(if j=c then !aN p c else aN p j):=by
 have key:∀ x:Nat,∀ s r:Nat,(x ^^^ 2 ^ r).testBit s=(if s=r then !x.testBit s else x.testBit s):=fun x s r=>by
  rw[Nat.testBit_xor,Nat.testBit_two_pow];by_cases e:s=r
  ·subst e;simp
  ·have e':¬r=s:=fun h=>e h.symm
   simp[e,e']
 have two:∀ a b:Nat,a/64=b/64->(a%64=b%64↔a=b):=fun a b h=>by omega
 unfold aN;rw[vI,vI,vI];rcases vE hc with h|h|h|h <;> rcases vE hj with g|g|g|g <;> simp only[fS,h,g,wP] <;> first
  |(
   rw[key];by_cases e:j=c
   ·subst e;simp
   ·have e2:¬j%64=c%64:=fun e3=>e ((two j c (by omega)).1 e3)
    simp[e,e2])
  | (rw[if_neg (by omega)])
theorem CV(p:Pg)(c j:Nat)(hc:c<256)(hj:j<256):aN (aW p c) j=(if j=c then !aN p c else aN p j):=by
 rw[<-VQ p c j hc hj];unfold aN aW;unfold wP;rfl
def aV{α : Type}(f:Nat->α)(p:Nat)(v : α):Nat->α:=fun r=>if r=p then v else f r
theorem bX{α : Type}(f:Nat->α)(p:Nat)(v : α):aV f p v p=v:=if_pos rfl
theorem bY{α : Type}(f:Nat->α){p r:Nat}(v : α)(h:r≠p):aV f p v r=f r:=if_neg h
structure SlQ(S:Sb)(p k:Nat)(q:Pg):Prop where
 kd:q.kd=4
 od:q.od=0
 cl:q.cl=(k:Int)
 lv:q.lv=((aH k-(S.fl p).length:Nat):Int)
 fs:q.fs=cQ (S.fl p)
 bt:∀ i,i<256->aN q i=decide (i<aH k/\i ∉ S.fl p)
theorem SlP.q{S p k q}(h:SlP S p k q):SlQ S p k q:=⟨h.kd,h.od,h.cl,h.lv,h.fs,h.bt⟩
theorem SlQ.p{S p k q}(h:SlQ S p k q)(n:q.nx=bN (S.pl k) p)(v:q.pv=bV (S.pl k) p):SlP S p k q:=⟨h.kd,h.od,h.cl,h.lv,n,v,h.fs,h.bt⟩
theorem yA{q q':Pg}(h0:q'.b0=q.b0)(h1:q'.b1=q.b1)(h2:q'.b2=q.b2)(h3:q'.b3=q.b3)(i:Nat):aN q' i=aN q i:=by
 unfold aN;have:wP q' (i/64)=wP q (i/64):=by
  unfold wP;split <;> assumption
 rw[this]
theorem SlQ.rst{S p k q q'}(h:SlQ S p k q)(r:zI q q'):SlQ S p k q':=by
 obtain⟨a,b,rfl⟩:=r;exact⟨h.kd,h.od,h.cl,h.lv,h.fs,fun i hi=>(yA rfl rfl rfl rfl i).trans (h.bt i hi)⟩
theorem SlQ.congr{S S' p k q}(h:SlQ S p k q)(e:S'.fl p=S.fl p):SlQ S' p k q:=⟨h.kd,h.od,h.cl,by rw[e];exact h.lv,by rw[e];exact h.fs,fun i hi=>by rw[e];exact h.bt i hi⟩
theorem nP{x:Bx}{P:Nat->Option Pg}{f:Nat->Nat}{p k:Nat} : ∀ {l:List Nat},pD x f p k l->pD { x with P:=P } f p k l
 | [],_=>trivial
 | i :: l,h=>⟨by
   rw[h.1]
   cases l <;> rfl,nP h.2⟩
theorem rB{pg:Nat->Pg}{l:List Nat}{p r:Nat}(hd:l.Nodup)(hr:r≠p)(hl:r ∉ l):dO pg l p r=pg r:=by
 unfold dO;rw[if_neg hr,if_neg,if_neg]
 ·intro e;rcases oK l p hd with h|⟨b,h,hb,_⟩
  ·omega
  ·exact hl (by rw[show r=b by omega];exact hb)
 ·intro e;rcases rU l p hd with h|⟨b,h,hb,_⟩
  ·omega
  ·exact hl (by rw[show r=b by omega];exact hb)
theorem rL{pg:Nat->Pg}{l:List Nat}{p r:Nat}(hr:r≠p)(hl:r ∉ l):cO pg l p r=pg r:=by
 unfold cO;rw[if_neg hr,if_neg (fun e=>hl (qX e.symm))]
def bC(S:Sb)(p k:Nat)(r:List Nat):Sb:={ S with fl:=aV S.fl p r,pl:=if r=[] then aV S.pl k (M.dropL (S.pl k) p) else S.pl }
theorem VP{S:Sb}{p k i:Nat}{r:List Nat}{q:Pg}(hk:k<8)(h:SlP S p k q)(hf:S.fl p=i :: r)(nd:(S.fl p).Nodup)(hi:i<aH k)(hl:(S.fl p).length<=aH k):
  SlQ (bC S p k r) p k { aW q i with fs:=cQ r }/\({ aW q i with fs:=cQ r } : Pg).nx=q.nx/\({ aW q i with fs:=cQ r } : Pg).pv=q.pv:=by
 obtain⟨t1,t2,t3,t4,t5,t6,t7⟩:=nS q i;have hnb:=dV hk;have hlit:aN q i=false:=by
  rw[h.bt i (by omega),hf];exact decide_eq_false (fun e=>e.2 List.mem_cons_self)
 rw[hf] at nd hl;have hni:i ∉ r:=(List.nodup_cons.1 nd).1;have hfl:(bC S p k r).fl p=r:=bX _ _ _;rw[List.length_cons] at hl;refine⟨⟨t1.trans h.kd,t2.trans h.od,t3.trans h.cl,?_,by rw[hfl],fun j hj=>?_⟩,t5,t6⟩
 ·show wrap64 (if aN q i=true then q.lv-1 else q.lv+1)=_
  rw[hlit,if_neg (by decide),h.lv,hfl,hf,List.length_cons];unfold wrap64;omega
 ·have e1:aN { aW q i with fs:=cQ r } j=aN (aW q i) j:=yA rfl rfl rfl rfl j;rw[e1,CV q i j (by omega) hj,hfl];by_cases e:j=i
  ·rw[if_pos e,hlit];symm;exact decide_eq_true ⟨by omega,by rw[e];exact hni⟩
  ·rw[if_neg e,h.bt j hj,hf];apply decide_eq_decide.2
   rw[List.mem_cons,not_or];exact⟨fun h=>⟨h.1,h.2.2⟩,fun h=>⟨h.1,e,h.2⟩⟩
theorem VO{m:Mp}{p i k:Nat}{r:List Nat}(hp:p<m.n)(hkd:(m.pg p).kd=4)(hcl:(m.pg p).cl=(k:Int))(hi:i<aH k)(hlit:aN (m.pg p) i=false)(hr:∀ j∈r,j<aH k):oD m p i r={ m with pg:=aI m.pg p { aW (m.pg p) i with fs:=cQ r } }:=by
 have hcn:fD (m.pg p).cl=aH k:=by rw[hcl];rfl
 unfold oD;rw[(uR hp hkd (by rw[hcn];exact hi) (by rw[hlit];rfl)).2];obtain⟨t1,t2,t3,_⟩:=nS (m.pg p) i;have e1:aI m.pg p (aW (m.pg p) i) p=aW (m.pg p) i:=if_pos rfl;rw[uZ (m:={ m with pg:=aI m.pg p (aW (m.pg p) i) }) hp (by show(aI m.pg p _ p).kd=4;rw[e1];exact t1.trans hkd) (by
  rcases xR r with e|⟨j,e,hj⟩
  ·exact .inl e
  ·refine .inr ⟨j,e,?_⟩;show j<fD (aI m.pg p _ p).cl
   rw[e1,show(aW (m.pg p) i).cl=(m.pg p).cl from t3,hcn];exact hr j hj)]
 show({ m with pg:=aI (aI m.pg p (aW (m.pg p) i)) p { aI m.pg p (aW (m.pg p) i) p with fs:=cQ r } } : Mp)=_
 rw[e1];refine congrArg (fun g=>({ m with pg:=g } : Mp)) (funext fun a=>?_);unfold aI;by_cases e:a=p
 ·rw[if_pos e,if_pos e]
 ·rw[if_neg e,if_neg e,if_neg e]
theorem SO.hand{w W sb lw x t fr ls S h w'}(o:SO w W sb lw x t fr ls S h){p k i:Nat}{r:List Nat}(hc:S.c p=some k)(hf:S.fl p=i :: r)(se:SE w W sb lw x t (fO t.m p i r) (iA t.m h p k i r) w'):
  SO w w' sb lw { x with P:=iG (bC S p k r) (fO t.m p i r) } { t with m:=fO t.m p i r } fr ls (bC S p k r) (iA t.m h p k i r):=by
 obtain⟨hk,sp⟩:=o.si.pg p k hc;obtain⟨nd,lt,lk⟩:=o.si.fl p k hc;have hlv:=o.si.lv p k hc;obtain⟨hls,hpn,_⟩:=o.mem hc;have hnb:=dV hk;have hib:i<aH k:=lt i (by rw[hf];exact List.mem_cons_self);have hlit:aN (t.m.pg p) i=false:=by
  rw[sp.bt i (by omega),hf];exact decide_eq_false (fun e=>e.2 List.mem_cons_self)
 have e2:=VO (r:=r) hpn sp.kd sp.cl hib hlit (fun j hj=>lt j (by rw[hf];exact List.mem_cons_of_mem _ hj));obtain⟨q2,q2n,q2v⟩:=VP hk sp hf nd hib hlv;generalize hq2:({ aW (t.m.pg p) i with fs:=cQ r } : Pg)=Q2 at *;have hpl:p∈S.pl k:=(o.si.pm k hk p).2 ⟨hc,by rw[hf];exact List.cons_ne_nil _ _⟩;have hln:(S.pl k).Nodup:=o.si.pn k hk
 have pg2:∀ a c,S.c a=some c->SlQ (bC S p k r) a c (aI t.m.pg p Q2 a)/\(aI t.m.pg p Q2 a).nx=bN (S.pl c) a/\(aI t.m.pg p Q2 a).pv=bV (S.pl c) a:=fun a c ha=>by
  obtain⟨hc8,sa⟩:=o.si.pg a c ha;unfold aI;by_cases e:a=p
  ·subst e;rw[hc] at ha
   cases ha
   rw[if_pos rfl,q2n,q2v];exact⟨q2,sp.nx,sp.pv⟩
  ·rw[if_neg e];exact⟨sa.q.congr (bY _ _ e),sa.nx,sa.pv⟩
 have hout2:∀ a,S.c a=none->aI t.m.pg p Q2 a=t.m.pg a:=fun a ha=>by
  unfold aI;rw[if_neg];intro e;rw[e,hc] at ha
  cases ha
 -- the pages in the end
 obtain⟨pgF,hpgF,hF1,hF2,hF3,hF4⟩:∃ pgF:Nat->Pg,fO t.m p i r={ t.m with pg:=pgF }/\(∀ a,S.c a=none->pgF a=t.m.pg a)/\(∀ a c,S.c a=some c->SlQ (bC S p k r) a c (pgF a)/\(pgF a).nx=bN ((bC S p k r).pl c) a/\(pgF a).pv=bV ((bC S p k r).pl c) a)/\(∀ c,c<8->iA t.m h p k i r c=cQ ((bC S p k r).pl c))/\True:=by
  by_cases hr:r=[]
  ·have hU:=AX (m:={ t.m with pg:=aI t.m.pg p Q2 }) (h:=h) (c:=k) hln hpl (fun a ha=>by
    have hca:=((o.si.pm k hk a).1 ha).1;obtain⟨h1,h2,h3⟩:=pg2 a k hca;exact⟨(o.mem hca).2.1,h1.kd,h2,h3⟩)
   have ePl:(bC S p k r).pl=aV S.pl k (M.dropL (S.pl k) p):=(by unfold bC;rw[if_pos hr]);have np:NP (aI t.m.pg p Q2) S k (S.pl k):=fun a ha=>(pg2 a k ha).2
   have np2:=zW np hln hpl;refine⟨dO (aI t.m.pg p Q2) (S.pl k) p,?_,fun a ha=>?_,fun a c ha=>?_,fun c hc8=>?_,trivial⟩
   ·unfold fO;rw[if_pos hr,e2,hU.1]
   ·have hap:a≠p:=fun e=>by rw[e,hc] at ha;cases ha
    have hal:a ∉ S.pl k:=fun e=>by rw[((o.si.pm k hk a).1 e).1] at ha;cases ha
    rw[rB hln hap hal];exact hout2 a ha
   ·obtain⟨h1,h2,h3⟩:=pg2 a c ha;refine⟨h1.rst (EQ _ _ _ _),?_⟩;rw[ePl];by_cases e:c=k
    ·subst e;rw[bX];exact np2 a ha
    ·rw[bY _ _ e];have hap:a≠p:=fun e3=>by rw[e3,hc] at ha;cases ha;exact e rfl
     have hal:a ∉ S.pl k:=fun e3=>by rw[((o.si.pm k hk a).1 e3).1] at ha;cases ha;exact e rfl
     rw[rB hln hap hal];exact⟨h2,h3⟩
   ·unfold iA;rw[if_pos hr,e2,hU.2,ePl];by_cases e:c=k
    ·subst e;rw[bX,uS hln hpl];by_cases e3:bV (S.pl c) p = -1
     ·rw[if_pos e3,if_pos e3];exact if_pos rfl
     ·rw[if_neg e3,if_neg e3];exact o.hd c hc8
    ·rw[bY _ _ e];by_cases e3:bV (S.pl k) p = -1
     ·rw[if_pos e3];exact(if_neg e).trans (o.hd c hc8)
     ·rw[if_neg e3];exact o.hd c hc8
  ·have ePl:(bC S p k r).pl=S.pl:=(by unfold bC;rw[if_neg hr]);refine⟨aI t.m.pg p Q2,?_,hout2,fun a c ha=>?_,fun c hc8=>?_,trivial⟩
   ·unfold fO;rw[if_neg hr,e2]
   ·rw[ePl];exact pg2 a c ha
   ·unfold iA;rw[if_neg hr,ePl];exact o.hd c hc8
 have hsw:=se.1;rw[hpgF] at hsw ⊢;have hfl:∀ a c,S.c a=some c->((bC S p k r).fl a=r/\a=p)\/((bC S p k r).fl a=S.fl a/\a≠p):=fun a c ha=>by
  by_cases e:a=p
  ·exact .inl ⟨by rw[e];exact bX _ _ _,e⟩
  ·exact .inr ⟨bY _ _ e,e⟩
 refine⟨hsw.reP _,o.sf.repaint S (bC S p k r) o.si.eP { t.m with pg:=pgF } rfl rfl rfl (fun a ha=>?_) (fun a c ha=>⟨(hF2 a c ha).1.kd,(o.mem ha).1⟩),o.st,o.bm,⟨rfl,fun a c ha=>⟨(o.si.pg a c ha).1,(hF2 a c ha).1.p (hF2 a c ha).2.1 (hF2 a c ha).2.2⟩,fun a c ha=>?_,fun a c ha=>?_,fun c hc8=>?_,fun c hc8 a=>?_⟩,hF3⟩
 ·have ha:S.c a=none:=ha;rw[if_pos ha];exact hF1 a ha
 ·replace ha:S.c a=some c:=ha;obtain⟨n1,n2,n3⟩:=o.si.fl a c ha;rcases hfl a c ha with ⟨e,rfl⟩|⟨e,_⟩
  ·rw[e];rw[hc] at ha
   cases ha
   rw[hf] at n1 n2 n3;exact⟨(List.nodup_cons.1 n1).2,fun j hj=>n2 j (List.mem_cons_of_mem _ hj),nP n3.2⟩
  ·rw[e];exact⟨n1,n2,nP n3⟩
 ·have hl:=o.si.lv a c ha;rcases hfl a c ha with ⟨e,rfl⟩|⟨e,_⟩
  ·rw[e];rw[hf,List.length_cons] at hl;omega
  ·rw[e];exact hl
 ·have:=o.si.pn c hc8;unfold bC;by_cases hr:r=[]
  ·rw[if_pos hr];show(aV S.pl k _ c).Nodup
   by_cases e:c=k
   ·subst e;rw[bX];exact FV this p
   ·rw[bY _ _ e];exact this
  ·rw[if_neg hr];exact this
 ·have hpm:=o.si.pm c hc8 a;show a∈(bC S p k r).pl c↔(S.c a=some c/\aV S.fl p r a≠[])
  by_cases hr:r=[]
  ·have ePl:(bC S p k r).pl=aV S.pl k (M.dropL (S.pl k) p):=(by unfold bC;rw[if_pos hr]);rw[ePl];by_cases ea:a=p
   ·subst ea;rw[bX];constructor
    ·intro hm;exfalso
     by_cases e:c=k
     ·subst e;rw[bX,kU] at hm;exact hm.2 rfl
     ·rw[bY _ _ e,hpm,hc] at hm
      cases hm.1
      exact e rfl
    ·exact fun hm=>absurd hr hm.2
   ·rw[bY _ _ ea];by_cases e:c=k
    ·subst e;rw[bX,kU,hpm];exact⟨fun hm=>hm.1,fun hm=>⟨hm,ea⟩⟩
    ·rw[bY _ _ e];exact hpm
  ·have ePl:(bC S p k r).pl=S.pl:=(by unfold bC;rw[if_neg hr]);rw[ePl,hpm];by_cases ea:a=p
   ·subst ea;rw[bX,hf];exact⟨fun hm=>⟨hm.1,hr⟩,fun hm=>⟨hm.1,List.cons_ne_nil _ _⟩⟩
   ·rw[bY _ _ ea]
theorem AG{x x':Bx}(h:x'.bS=x.bS)(p k n:Nat):aO x' p k n=aO x p k n:=by unfold aO;rw[h]
theorem pY{x x':Bx}{f f':Nat->Nat}{p k:Nat}(hb:x'.bS=x.bS):∀ {l:List Nat},(∀ i∈l,M.word f' (4096*p+i*aC k)=M.word f (4096*p+i*aC k))->pD x f p k l->pD x' f' p k l
 | [],_,_=>trivial
 | i :: l,hf,h=>⟨by
   rw[hf i List.mem_cons_self,h.1]
   cases l with
   | nil=>rfl
   | cons j l=>exact(AG hb p k j).symm,pY hb (fun j hj=>hf j (List.mem_cons_of_mem _ hj)) h.2⟩
theorem yH{f g:Nat->Nat}{o:Nat}(h:∀ i,i<8->g (o+i)=f (o+i)):M.word g o=M.word f o:=by
 unfold M.word;exact wordTo_congr _ _ 8 h
theorem SO.pool{w W W' sb lw x t fr ls S h x1 t1 fr1 ls1}(o:SO w W sb lw x t fr ls S h)(po:PO w W' lw x1 t1 fr1 ls1)(sm:Sm x x1)(bk:BK t t1 ls ls1)(sub:∀ p k,S.c p=some k->(p,0)∈ls1)(kp:Kt (aE x) W W'):SO w W' sb lw x1 t1 fr1 ls1 S h:=by
 have hpage:∀ p k,S.c p=some k->t1.m.pg p=t.m.pg p:=fun p k hp=>
  (po.sf.pslab (p:=p) (q:=t.m.pg p) (by rw[sm.P,o.si.eP];exact lY hp)).2.2.2
 refine⟨⟨po.pl,?_,o.sw.nw,o.sw.tb⟩,po.sf,po.st,po.bm,⟨?_,fun p k hp=>?_,fun p k hp=>?_,o.si.lv,o.si.pn,o.si.pm⟩,o.hd⟩
 ·rw[sm.bS];exact(kp.block _ (lH o.sw.bx) (fun e=>o.sw.nsb (.inl e))).trans o.sw.bx
 ·rw[sm.P,o.si.eP];funext p
  cases e:S.c p with
  | none=>rw[lZ e,lZ e]
  | some k=>rw[lY e,lY e,hpage p k e]
 ·obtain⟨h1,h2⟩:=o.si.pg p k hp;rw[hpage p k hp];exact⟨h1,h2⟩
 ·obtain⟨n1,n2,n3⟩:=o.si.fl p k hp;have hk:=(o.si.pg p k hp).1;have hnb:=dV hk;have hz:=bU hk;refine⟨n1,n2,pY sm.bS (fun i hi=>yH fun j hj=>?_) n3⟩;have hib:=n2 i hi;have h2:(i+1)*aC k<=aH k*aC k:=Nat.mul_le_mul_right _ hib;rw[Nat.add_mul,Nat.one_mul,hnb.1] at h2;have hd:(4096*p+i*aC k+j)/4096=p:=by omega
  refine bk _ ?_ ?_
  ·rw[hd];exact⟨p,0,(o.mem hp).1,Nat.le_refl _,by omega⟩
  ·rw[hd];exact⟨p,0,sub p k hp,Nat.le_refl _,by omega⟩
theorem DY(f:Nat->Nat)(P off z:Nat)(hz : 8<=z):∀ k i,i<k->P+k*z<18446744073709551616->M.word (lP f P off z k) (off+i*z)=P+(i+1)*z
 | 0,i,h,_=>absurd h (Nat.not_lt_zero _)
 | k+1,i,h,h64=>by
  rw[lP];by_cases e:i=k
  ·subst e;rw[M.word_upd _ _ _ h64]
  ·have hl:i<k:=(by omega);have h1:(i+1)*z<=k*z:=Nat.mul_le_mul_right _ hl;rw[Nat.add_mul,Nat.one_mul] at h1;have h2:k*z<=(k+1)*z:=Nat.mul_le_mul_right _ (by omega);rw[M.word_far _ _ _ _ (.inr (by omega))];exact DY f P off z hz k i hl (by omega)
theorem CZ(f:Nat->Nat)(P off z:Nat):∀ k j,(∀ i,i<k->¬(off+i*z<=j/\j<off+i*z+8))->lP f P off z k j=f j
 | 0,j,_=>rfl
 | k+1,j,h=>by
  rw[lP];unfold M.upd;rw[if_neg (h k (by omega))];exact CZ f P off z k j (fun i hi=>h i (by omega))
theorem wO(f:Nat->Nat)(x:Bx)(p k:Nat)(hk:k<8)(j:Nat)(hj:¬(4096*p<=j/\j<4096*p+4096)):kK f (ad x p) (4096*p) (aC k) (aH k) j=f j:=by
 have hnb:=dV hk;have hz:=bU hk;have hin:∀ i,i<aH k->i*aC k+aC k<=4096:=fun i hi=>by
  have h2:(i+1)*aC k<=aH k*aC k:=Nat.mul_le_mul_right _ hi;rw[Nat.add_mul,Nat.one_mul,hnb.1] at h2;exact h2
 unfold kK;have h1:=hin (aH k-1) (by omega);unfold M.upd;rw[if_neg (by omega)];refine CZ _ _ _ _ _ _ fun i hi=>?_
 have:=hin i (by omega);omega
theorem HU(x:Bx)(f:Nat->Nat)(p k:Nat)(hk:k<8)(hb:x.bS+4096*p+4096<=9223372036854775808):∀ n a,a+n=aH k->pD x (kK f (ad x p) (4096*p) (aC k) (aH k)) p k (List.range' a n)
 | 0,a,_=>trivial
 | n+1,a,h=>by
  have hnb:=dV hk;have hz:=bU hk;obtain⟨M1,hM⟩:∃ M1,aH k=M1+1:=⟨aH k-1,by omega⟩;have hMz:M1*aC k+aC k=4096:=by
   have:=hnb.1;rw[hM,Nat.add_mul,Nat.one_mul] at this;exact this
  refine⟨?_,HU x f p k hk hb n (a+1) (by omega)⟩;unfold kK;rw[show aH k-1=M1 by omega]
  cases n with
  | zero=>
   have ea:a=M1:=(by omega);subst ea;rw[M.word_upd _ _ _ (by decide)];rfl
  | succ n=>
   have hl:a<M1:=(by omega);have h1:(a+1)*aC k<=M1*aC k:=Nat.mul_le_mul_right _ hl;rw[Nat.add_mul,Nat.one_mul] at h1;rw[M.word_far _ _ _ _ (.inr (by omega)),DY _ _ _ _ (by omega) M1 a hl (by unfold ad;omega)];show _=aO x p k (a+1)
   unfold aO ad;rfl
def bL(S:Sb)(p k:Nat):Sb:=⟨aV S.c p (some k),aV S.fl p (List.range' 0 (aH k)),aV S.pl k (p :: S.pl k)⟩
def iD(m:Mp)(h:Nat->Int)(p k:Nat):Mp:=eV (gR (kQ m (p:Int) (k:Int)) (p:Int) 0) h (p:Int) k
theorem YZ{q:Pg}(h0:q.b0=0)(h1:q.b1=0)(h2:q.b2=0)(h3:q.b3=0)(i:Nat):aN q i=false:=by
 unfold aN;have:wP q (i/64)=0:=by
  unfold wP;split <;> assumption
 rw[this];simp
theorem UV{m:Mp}{h:Nat->Int}{p k:Nat}{l:List Nat}(hp:p<m.n)(hk:k<8)(hh:h k=cQ l)(hl:∀ r∈l,r<m.n/\(m.pg r).kd=4/\dF m.n (m.pg r).nx=true)(hpl:p ∉ l):iD m h p k={ m with pg:=cO (aI m.pg p { eK (k:Int)with fs:=0 }) l p }:=by
 have hnb:=dV hk;have e1:kQ m (p:Int) (k:Int)={ m with pg:=aI m.pg p (eK (k:Int)) }:=by
  unfold kQ;rw[if_pos ⟨dQ hp,by omega,by omega⟩,Int.toNat_natCast]
 have e2:aI m.pg p (eK (k:Int)) p=eK (k:Int):=if_pos rfl;have e3:gR { m with pg:=aI m.pg p (eK (k:Int)) } (p:Int) 0={ m with pg:=aI m.pg p { eK (k:Int)with fs:=0 } }:=by
  rw[uZ (m:={ m with pg:=aI m.pg p (eK (k:Int)) }) (c:=(0:Int)) hp (by show(aI m.pg p _ p).kd=4;rw[e2];rfl) (.inr ⟨0,rfl,by
   show 0<fD (aI m.pg p _ p).cl
   rw[e2];show 0<aH k
   omega⟩)]
  show({ m with pg:=aI (aI m.pg p (eK (k:Int))) p { aI m.pg p (eK (k:Int)) p with fs:=0 } } : Mp)=_
  rw[e2];refine congrArg (fun g=>({ m with pg:=g } : Mp)) (funext fun a=>?_);unfold aI;by_cases e:a=p
  ·rw[if_pos e,if_pos e]
  ·rw[if_neg e,if_neg e,if_neg e]
 unfold iD;rw[e1,e3];have e4:aI m.pg p { eK (k:Int)with fs:=0 } p={ eK (k:Int)with fs:=0 }:=if_pos rfl;exact AY (m:={ m with pg:=aI m.pg p { eK (k:Int)with fs:=0 } }) hp (by show(aI m.pg p _ p).kd=4;rw[e4];rfl) hh (fun r hr=>by
  have hrp:r≠p:=fun e=>hpl (e▸hr)
  have e5:aI m.pg p { eK (k:Int)with fs:=0 } r=m.pg r:=if_neg hrp;show r<m.n/\(aI m.pg p _ r).kd=4/\dF m.n (aI m.pg p _ r).nx=true
  rw[e5];exact hl r hr) hpl
theorem zi5{n:Nat}(h : 0<n):cQ (List.range' 0 n)=0:=by
 obtain⟨m,rfl⟩:∃ m,n=m+1:=⟨n-1,by omega⟩;rfl
theorem SO.fresh{w W W' sb lw x t fr ls S h}(o:SO w W sb lw x t fr ls S h){p k:Nat}(hk:k<8)(hls:(p,0)∈ls)(hc:S.c p=none)
  (sw:SW w W' sb lw x ⟨kK t.f (ad x p) (4096*p) (aC k) (aH k),iD t.m h p k,t.hd⟩ (cU h k (p:Int))):
  SO w W' sb lw { x with P:=iG (bL S p k) (iD t.m h p k) } ⟨kK t.f (ad x p) (4096*p) (aC k) (aH k),iD t.m h p k,t.hd⟩ fr ls (bL S p k) (cU h k (p:Int)):=by
 have hnb:=dV hk;have hz:=bU hk;have hpn:p<t.m.n:=by
  have:=(o.sf.sn.al hls).2.2;omega
 have n4:=o.po.nums.2.2.2.1;have hst:=o.st;have hpb:x.bS+4096*p+4096<=9223372036854775808:=by
  have h5:(p+1)*4096<=t.m.n*4096:=Nat.mul_le_mul_right _ hpn;omega
 have hpl:p ∉ S.pl k:=fun e=>by
  rw[((o.si.pm k hk p).1 e).1] at hc
  cases hc
 have hln:=o.si.pn k hk;have eM:=UV (m:=t.m) (h:=h) hpn hk (o.hd k hk) (fun r hr=>by
  have hcr:=((o.si.pm k hk r).1 hr).1;have sr:=(o.si.pg r k hcr).2;refine⟨(o.mem hcr).2.1,sr.kd,?_⟩;rw[sr.nx];rcases oK (S.pl k) r hln with e|⟨b,e,hb,_⟩
  ·rw[e];exact mP _
  ·rw[e];exact pR (o.mem ((o.si.pm k hk b).1 hb).1).2.1) hpl
 rw[eM] at sw ⊢;generalize hpgF:cO (aI t.m.pg p { eK (k:Int)with fs:=0 }) (S.pl k) p=pgF at *;have hne:∀ a,a≠p->(bL S p k).c a=S.c a/\(bL S p k).fl a=S.fl a:=fun a ha=>⟨bY _ _ ha,bY _ _ ha⟩
 have hcp:(bL S p k).c p=some k:=bX _ _ _;have hfp:(bL S p k).fl p=List.range' 0 (aH k):=bX _ _ _;have hup:∀ a,a≠p->aI t.m.pg p { eK (k:Int)with fs:=0 } a=t.m.pg a:=fun a ha=>if_neg ha
 have huq:aI t.m.pg p { eK (k:Int)with fs:=0 } p={ eK (k:Int)with fs:=0 }:=if_pos rfl;have F0:∀ a,S.c a=none->a≠p->pgF a=t.m.pg a:=fun a ha hap=>by
  have hal:a ∉ S.pl k:=fun e=>by
   rw[((o.si.pm k hk a).1 e).1] at ha
   cases ha
  rw[<-hpgF,rL hap hal];exact hup a hap
 have Q0:SlQ (bL S p k) p k { eK (k:Int)with fs:=0 }:=by
  refine⟨rfl,rfl,rfl,?_,?_,fun i hi=>?_⟩
  ·rw[hfp,List.length_range',Nat.sub_self];rfl
  ·rw[hfp,zi5 (by omega)]
  ·rw[YZ rfl rfl rfl rfl,hfp];symm;refine decide_eq_false fun e=>e.2 (List.mem_range'_1.2 ⟨Nat.zero_le _,by omega⟩)
 have NP0:NP (aI t.m.pg p { eK (k:Int)with fs:=0 }) (bL S p k) k (S.pl k):=fun a ha=>by
  by_cases e:a=p
  ·subst e;rw[huq,DR hpl,wL hpl];exact⟨rfl,rfl⟩
  ·rw[(hne a e).1] at ha;rw[hup a e];exact⟨(o.si.pg a k ha).2.nx,(o.si.pg a k ha).2.pv⟩
 have NP1:=AU NP0 hln hpl;have F2:∀ a c,(bL S p k).c a=some c->c<8/\SlP (bL S p k) a c (pgF a):=fun a c ha=>by
  have hq:SlQ (bL S p k) a c (aI t.m.pg p { eK (k:Int)with fs:=0 } a)/\c<8:=by
   by_cases e:a=p
   ·subst e;rw[hcp] at ha
    cases ha
    rw[huq];exact⟨Q0,hk⟩
   ·rw[(hne a e).1] at ha;rw[hup a e];exact⟨(o.si.pg a c ha).2.q.congr (hne a e).2,(o.si.pg a c ha).1⟩
  refine⟨hq.2,(hq.1.rst (by rw[<-hpgF];exact ER _ _ _ _)).p ?_ ?_⟩
  ·show(pgF a).nx=bN (aV S.pl k (p :: S.pl k) c) a
   by_cases e:c=k
   ·subst e;rw[bX,<-hpgF];exact(NP1 a ha).1
   ·have hap:a≠p:=fun e2=>by rw[e2,hcp] at ha;cases ha;exact e rfl
    rw[bY _ _ e];rw[(hne a hap).1] at ha;have hal:a ∉ S.pl k:=fun e2=>by rw[((o.si.pm k hk a).1 e2).1] at ha;cases ha;exact e rfl
    rw[<-hpgF,rL hap hal,hup a hap];exact(o.si.pg a c ha).2.nx
  ·show(pgF a).pv=bV (aV S.pl k (p :: S.pl k) c) a
   by_cases e:c=k
   ·subst e;rw[bX,<-hpgF];exact(NP1 a ha).2
   ·have hap:a≠p:=fun e2=>by rw[e2,hcp] at ha;cases ha;exact e rfl
    rw[bY _ _ e];rw[(hne a hap).1] at ha;have hal:a ∉ S.pl k:=fun e2=>by rw[((o.si.pm k hk a).1 e2).1] at ha;cases ha;exact e rfl
    rw[<-hpgF,rL hap hal,hup a hap];exact(o.si.pg a c ha).2.pv
 have sf1:=o.sf.fill (p:=p) (k:=0) hls (f':=kK t.f (ad x p) (4096*p) (aC k) (aH k)) (fun j hj=>wO t.f x p k hk j (by omega));refine⟨sw.reP _,sf1.repaint S (bL S p k) o.si.eP { t.m with pg:=pgF } rfl rfl rfl (fun a ha=>?_) (fun a c ha=>⟨(F2 a c ha).2.kd,?_⟩),o.st,o.bm,⟨rfl,F2,fun a c ha=>?_,fun a c ha=>?_,fun c hc8=>?_,fun c hc8 a=>?_⟩,fun c hc8=>?_⟩
 ·have hap:a≠p:=fun e=>by rw[e,hcp] at ha;cases ha
  rw[(hne a hap).1] at ha;rw[if_pos ha];exact F0 a ha hap
 ·by_cases e:a=p
  ·rw[e];exact hls
  ·rw[(hne a e).1] at ha;exact(o.mem ha).1
 ·by_cases e:a=p
  ·subst e;rw[hcp] at ha
   cases ha
   rw[hfp];refine⟨List.nodup_range',fun i hi=>?_,nP (HU x t.f a k hk hpb (aH k) 0 (by omega))⟩;have:=(List.mem_range'_1.1 hi).2;omega
  ·rw[(hne a e).1] at ha;rw[(hne a e).2];obtain⟨n1,n2,n3⟩:=o.si.fl a c ha;have hc8:=(o.si.pg a c ha).1;have hnb2:=dV hc8;have hz2:=bU hc8;refine⟨n1,n2,nP (pY rfl (fun i hi=>yH fun j hj=>?_) n3)⟩;have hib:=n2 i hi;have h2:(i+1)*aC c<=aH c*aC c:=Nat.mul_le_mul_right _ hib;rw[Nat.add_mul,Nat.one_mul,hnb2.1] at h2;exact wO t.f x p k hk _ (by omega)
 ·by_cases e:a=p
  ·subst e;rw[hcp] at ha
   cases ha
   rw[hfp,List.length_range'];exact Nat.le_refl _
  ·rw[(hne a e).1] at ha;rw[(hne a e).2];exact o.si.lv a c ha
 ·show(aV S.pl k (p :: S.pl k) c).Nodup
  by_cases e:c=k
  ·subst e;rw[bX];exact List.nodup_cons.2 ⟨hpl,hln⟩
  ·rw[bY _ _ e];exact o.si.pn c hc8
 ·show a∈aV S.pl k (p :: S.pl k) c↔((bL S p k).c a=some c/\(bL S p k).fl a≠[])
  have hpm:=o.si.pm c hc8 a;by_cases ea:a=p
  ·subst ea;rw[hcp,hfp];have hrn:List.range' 0 (aH k)≠[]:=by
    intro e;have:=congrArg List.length e;rw[List.length_range',List.length_nil] at this;omega
   by_cases e:c=k
   ·subst e;rw[bX];exact⟨fun _=>⟨rfl,hrn⟩,fun _=>List.mem_cons_self⟩
   ·rw[bY _ _ e,hpm,hc];constructor
    ·rintro ⟨e2,_⟩;cases e2
    ·rintro ⟨e2,_⟩;cases e2;exact absurd rfl e
  ·rw[(hne a ea).1,(hne a ea).2];by_cases e:c=k
   ·subst e;rw[bX,List.mem_cons,hpm];exact⟨fun h=>h.resolve_left ea,fun h=>.inr h⟩
   ·rw[bY _ _ e];exact hpm
 ·show cU h k (p:Int) c=cQ (aV S.pl k (p :: S.pl k) c)
  by_cases e:c=k
  ·subst e;rw[bX];exact if_pos rfl
  ·rw[bY _ _ e];exact(if_neg e).trans (o.hd c hc8)
inductive Ned(x:Bx)(t:Bt)(fr:Nat->List Nat)(d:Bool)(p:Nat)(b:Bool)(fr':Nat->List Nat):Prop where
 | here (j:Nat) (l:List Nat) (hj:j<=x.o) (hz:∀ a,a<j->fr a=[]) (hp:fr j=p :: l) (hb:b=false) (hf:fr'=dA (cI fr j (M.dropL (fr j) p)) p j 0)
 | grew (hz:∀ a,a<=x.o->fr a=[]) (hd:d=false) (hl:x.n+x.R<=x.lim*x.R) (hb:b=true) (hp:p=t.m.n) (hf:fr'=dA fr t.m.n x.o 0)
structure FrO(w W:World)(sb lw:Nat)(x:Bx)(t:Bt)(fr:Nat->List Nat)(ls:List (Nat×Nat))(S:Sb)(h:Nat->Int)(k:Nat)(d:Bool)(p:Nat)(b:Bool)(w':World):Prop where
 ex:∃ x' t' fr',Ned x t fr d p b fr'/\SO w w' sb lw x' t' fr' (ls ++ [(p,0)]) (bL S p k) (cU h k (p:Int))/\Sm x { x' with P:=x.P }/\(∀ i,Lv ls (i/4096)->t'.f i=t.f i)/\Nb W x x'/\t'.m.n=(if b=true then t.m.n + 2 ^ x.o else t.m.n)/\x'.n=(if b=true then x.n + x.R else x.n)
 hc:S.c p=none
 nl:∀ i,(p,i) ∉ ls
 kp:Kt (bG x sb) W w'
inductive FrP(w W:World)(sb lw:Nat)(x:Bx)(t:Bt)(fr:Nat->List Nat)(ls:List (Nat×Nat))(S:Sb)(h:Nat->Int)(k:Nat)(d:Bool)(e:Ending)(w':World):Prop where
 | stuck (hz:∀ a,a<=x.o->fr a=[]) (hd:d=true\/x.n=x.lim*x.R) (he:e=.returned (.tuple #[.bool false,.int .i64 2])) (kp:Kt nO W w')
 | got (p:Nat) (b:Bool) (he:e=.returned (.tuple #[.bool b,.int .i64 0])) (fo:FrO w W sb lw x t fr ls S h k d p b w')
theorem MS{w W lw x t fr ls}(po:PO w W lw x t fr ls)(d:Bool):
  Calls prog 94 #[.pointer (some ⟨lw,0,none⟩),.int .i64 0,.bool d] W fun e w'=>
   ((∀ a,a<=x.o->fr a=[])/\(d=true\/x.n=x.lim*x.R)/\e=.returned (.tuple #[.int .u64 0,.bool false,.int .i64 2])/\Kt nO W w')\/
   (∃ p b fr' x' t',e=.returned (.tuple #[.int .u64 ((ad x p:Nat):Int),.bool b,.int .i64 0])/\Ned x t fr d p b fr'/\PO w w' lw x' t' fr' (ls ++ [(p,0)])/\Sm x x'/\BK t t' ls (ls ++ [(p,0)])/\Nb W x x'/\Kt (aE x) W w'/\x.P p=none/\(∀ i,(p,i) ∉ ls)/\t'.m.n=(if b=true then t.m.n + 2 ^ x.o else t.m.n)/\x'.n=(if b=true then x.n + x.R else x.n)):=by
 refine(K.Need_any po 0 d).mono fun e w' hN=>?_
 cases hN with
 | bad hk he kp=>
  exfalso
  have:=of_decide_eq_false hk;omega
 | stuck i hk hi hz hd he kp=>
  obtain rfl:i=0:=by omega
  exact .inl ⟨fun a ha=>hz a (Nat.zero_le _) ha,hd,he,kp⟩
 | here i j p l hk hi hij hj hz hp he hs kp=>
  obtain rfl:i=0:=by omega
  obtain⟨t',h1,h2,h3⟩:=hs;refine .inr ⟨p,false,_,x,t',he,.here j l hj (fun a ha=>hz a (Nat.zero_le _) ha) hp rfl rfl,h1,Sm.refl x,h3,fun y e=>.inl e,kp,po.sf.pfree hj (by rw[hp];exact List.mem_cons_self),fun i hm=>?_,by rw[if_neg (by decide)];exact h2,by rw[if_neg (by decide)]⟩;have h0:=po.sf.apart0 hj (show p∈fr j by rw[hp];exact List.mem_cons_self) hm;have hz1 : 0<2 ^ i:=Nat.pow_pos (by decide);have hz2 : 0<2 ^ j:=Nat.pow_pos (by decide);omega
 | grew i hk hi hz hd hl he hs kp=>
  obtain rfl:i=0:=by omega
  obtain⟨x',t',h1,h2,h3,h4,h5,h6⟩:=hs;refine .inr ⟨t.m.n,true,_,x',t',he,.grew (fun a ha=>hz a (Nat.zero_le _) ha) hd hl rfl rfl rfl,h1,h2,h6,h5,kp,po.sf.pout (Nat.le_refl _),fun i hm=>?_,by rw[if_pos rfl];exact h4,by rw[if_pos rfl];exact h3⟩;have:=(po.sf.sn.al hm).2.2;have hz1 : 0<2 ^ i:=Nat.pow_pos (by decide);omega
theorem US{w W sb lw x t fr ls S h}(o:SO w W sb lw x t fr ls S h)(k:Nat)(hk:k<8)(d:Bool):
  Calls prog 143 #[.pointer (some ⟨sb,0,none⟩),.int .i64 k,.bool d] W fun e w'=>FrP w W sb lw x t fr ls S h k d e w':=by
 have ND:=aA (MS o.po d);obtain⟨c0,c1⟩:=o.sw.c0;have HO:=aA o;clear o;go_enter func143,ntmps143;go_wp2_with fail;refine ND.out.mono ?_;rintro e w1 (⟨hz,hd,rfl,kp⟩|⟨p,b,fr1,x1,t1,rfl,hned,hpo,hsm,hbk,hnb,hk1,hPp,hnl,htn,hxn⟩)
 ·have D:=aA (show FrP w W sb lw x t fr ls S h k d (.returned (.tuple #[.bool false,.int .i64 2])) w1 from .stuck hz hd rfl kp);clear hz hd kp ND c0 c1;go_wp2_with fail;exact⟨rfl,.tuple #[.bool false,.int .i64 2],by simp[results,results143,go_sem],D.out⟩
 ·have hc:S.c p=none:=by
   cases e:S.c p with
   | none=>rfl
   | some c=>
    rw[HO.out.si.eP,lY e] at hPp
    cases hPp
  have o1:=HO.out.pool hpo hsm hbk (fun a c ha=>List.mem_append_left _ (HO.out.mem ha).1) hk1;have hls:(p,0)∈ls ++ [(p,0)]:=List.mem_append_right _ (List.mem_singleton.2 rfl);have hpn:=(o1.sf.sn.al hls).2.2;have n4:=o1.po.nums.2.2.2.1;have n2:=o1.po.nums.2.1;have hst:=o1.st;have hpb : 4096*p+4096<=x1.n:=by
   have h5:(p+1)*4096<=t1.m.n*4096:=Nat.mul_le_mul_right _ hpn;omega
  have had:ad x p=ad x1 p:=by unfold ad;rw[hsm.bS]
  rw[had];have hoff:aP x1 (ad x1 p)/4096=p:=by unfold aP ad;omega
  obtain⟨A,hA⟩:=xe (ad x1 p);have hA64:A<18446744073709551616:=by rw[hA];unfold ad;omega
  have PG:=aA (show Calls prog 191 #[.pointer (some ⟨sb,0,none⟩),.int .u64 A] w1 fun e w'=>e=.returned (.int .i64 p)/\w'=w1 from by
   have:=vV o1.sw A hA64;rw[hA,hoff] at this;rw[hA];exact this)
  have SL:=aA (QN o1.sw (p:Int) (k:Int));obtain⟨m1,hm1⟩:=xe (kQ t1.m (p:Int) (k:Int));rw[<-hm1] at SL;generalize qP t1.m (p:Int) (k:Int)=se1 at *;have CH:=aA (show ∀ W',SW w W' sb lw x1 { t1 with m:=m1 } h->Calls prog 193 #[.pointer (some ⟨sb,0,none⟩),.int .u64 A,.int .i64 k] W' fun e w'=>e=.returned (.tuple #[])/\SW w w' sb lw x1 ⟨kK t1.f (ad x1 p) (4096*p) (aC k) (aH k),m1,t1.hd⟩ h/\Kt (aE x1) W' w' from fun W' s=>by
   rw[hA];exact TD s p k hk hpb)
  obtain⟨f2,hf2⟩:=xe (kK t1.f (ad x1 p) (4096*p) (aC k) (aH k));rw[<-hf2] at CH;obtain⟨m2,hm2⟩:=xe (gR m1 (p:Int) 0);have FR:=aA (show ∀ W',SW w W' sb lw x1 ⟨f2,m1,t1.hd⟩ h->Calls prog 179 #[.pointer (some ⟨x1.m,0,none⟩),.int .i64 p,.int .i64 0] W' fun e w'=>e=.returned (.int .i64 (lG m1 (p:Int) 0))/\SD w W' sb lw x1 ⟨f2,m1,t1.hd⟩ h m2 w' from fun W' s=>by
   rw[hm2];exact tS s (p:Int) 0)
  generalize lG m1 (p:Int) 0=fe1 at *;have PT:=aA (show ∀ W',SW w W' sb lw x1 ⟨f2,m2,t1.hd⟩ h->Calls prog 131 #[.pointer (some ⟨sb,0,none⟩),.int .i64 p,.int .i64 k] W' fun e w'=>e=.returned (.tuple #[])/\SE w W' sb lw x1 ⟨f2,m2,t1.hd⟩ (eV m2 h (p:Int) k) (cU h k (p:Int)) w' from fun W' s=>zO s (p:Int) k hk);have FIN:=aA (show ∀ w',SW w w' sb lw x1 ⟨f2,eV m2 h (p:Int) k,t1.hd⟩ (cU h k (p:Int))->Kt (bG x1 sb) w1 w'->FrP w W sb lw x t fr ls S h k d (.returned (.tuple #[.bool b,.int .i64 0])) w' from fun w' s kk=>by
   have e1:eV m2 h (p:Int) k=iD t1.m h p k:=(by unfold iD;rw[hm2,hm1]);rw[e1,hf2] at s;have so:=o1.fresh hk hls hc s;refine .got p b rfl ⟨⟨_,_,fr1,hned,so,⟨hsm.bS,hsm.R,hsm.lim,hsm.o,hsm.b,hsm.s,hsm.m,hsm.l,rfl⟩,fun i hi=>?_,hnb,?_,hxn⟩,hc,hnl,?_⟩
   ·have h2:t1.f i=t.f i:=hbk i hi (K.Lv.more hi);show kK t1.f (ad x1 p) (4096*p) (aC k) (aH k) i=t.f i
    rw[<-h2];refine wO t1.f x1 p k hk i (fun e=>?_);obtain⟨q,c,h3,h4,h5⟩:=hi;have hq:=hpo.sf.sn.apart (List.mem_append_left _ h3) hls;have hip:i/4096=p:=(by omega);rw[hip] at h4 h5;rcases hq with ⟨e2,e3⟩|e2|e2
    ·rw[e2] at h3;exact hnl c h3
    ·omega
    ·omega
   ·show(iD t1.m h p k).n=_
    rw[<-htn];unfold iD eV jS;rw[EI,EI];unfold gR;split <;> exact TV _ _ _
   ·refine(hk1.mono (fun _ _ e=>.inl e)).trans kk (fun _ _ e=>e) (fun y hy e=>?_);rcases e with e|e
    ·rcases hnb y e with e|e
     ·exact .inl e
     ·omega
    ·exact .inr e)
  have O1:=aA o1.sw;rw[<-hA];clear hned hpo hsm hbk hnb hk1 hPp hnl htn hxn hc o1 hls hpn n4 n2 hst hpb had hoff hA hm1 hf2 hm2 c0 c1 ND;obtain⟨c0,c1⟩:=O1.out.c0;go_wp2_with fail;refine PG.out.mono ?_;rintro e w2 ⟨rfl,h2⟩;replace h2:=h2.symm;subst h2;have MP:=aA (bT O1.out.pl);go_wp2_with fail;refine MP.out.mono ?_;rintro e w2 ⟨rfl,h2⟩;replace h2:=h2.symm;subst h2;go_wp2_with fail;refine SL.out.mono ?_;rintro e w3 ⟨rfl,hs3,hk3⟩;have S3:=aA hs3;have K3:=aA hk3;clear hs3 hk3 c0 c1 MP;go_wp2_with fail;refine(CH.out _ S3.out).mono ?_;rintro e w4 ⟨rfl,hs4,hk4⟩;have S4:=aA hs4;have K4:=aA (K3.out.trans hk4 (fun _ _ e=>e) (fun _ _ e=>e));have MP:=aA (bT hs4.pl);obtain⟨c0,c1⟩:=hs4.c0;clear hs4 hk4;go_wp2_with fail;refine MP.out.mono ?_;rintro e w5 ⟨rfl,h5⟩;replace h5:=h5.symm;subst h5;go_wp2_with fail;refine(FR.out _ S4.out).mono ?_;rintro e w5 ⟨rfl,hs5,hk5⟩;have S5:=aA hs5;have K5:=aA (K4.out.trans hk5 (fun _ _ e=>e) (fun _ _ e=>e));clear hs5 hk5 c0 c1;go_wp2_with fail;refine(PT.out _ S5.out).mono ?_;rintro e w6 ⟨rfl,hs6,hk6⟩;have D:=aA (FIN.out w6 hs6 ((K5.out.mono (fun _ _ e=>.inl e)).trans hk6 (fun _ _ e=>e) (fun _ _ e=>e)));clear hs6 hk6;go_wp2_with fail;exact⟨rfl,.tuple #[.bool b,.int .i64 0],by simp[results,results143,go_sem],D.out⟩
inductive TkP(w W:World)(sb lw:Nat)(x:Bx)(t:Bt)(fr:Nat->List Nat)(ls:List (Nat×Nat))(S:Sb)(h:Nat->Int)(c:Int)(d:Bool)(e:Ending)(w':World):Prop where
 | bad (hc:¬(0<=c/\c<8)) (he:e=.returned (.tuple #[.int .u64 0,.bool false,.int .i64 1])) (kp:Kt nO W w')
 | stuck (k:Nat) (hk:k<8) (hc:c=(k:Int)) (hl:S.pl k=[]) (hz:∀ a,a<=x.o->fr a=[]) (hd:d=true\/x.n=x.lim*x.R) (he:e=.returned (.tuple #[.int .u64 0,.bool false,.int .i64 2])) (kp:Kt nO W w')
 | old (k p i:Nat) (l r:List Nat) (hk:k<8) (hc:c=(k:Int)) (hl:S.pl k=p :: l) (hf:S.fl p=i :: r) (he:e=.returned (.tuple #[.int .u64 ((aO x p k i:Nat):Int),.bool false,.int .i64 0])) (so:∃ P m' h',SO w w' sb lw { x with P:=P } { t with m:=m' } fr ls (bC S p k r) h'/\m'.n=t.m.n) (kp:Kt (bG x sb) W w')
 | new (k p:Nat) (b:Bool) (hk:k<8) (hc:c=(k:Int)) (hl:S.pl k=[]) (he:e=.returned (.tuple #[.int .u64 ((aO x p k 0:Nat):Int),.bool b,.int .i64 0])) (so:∃ x' t' fr' h',Ned x t fr d p b fr'/\SO w w' sb lw x' t' fr' (ls ++ [(p,0)]) (bC (bL S p k) p k (List.range' 1 (aH k-1))) h'/\Sm x { x' with P:=x.P }/\(∀ i,Lv ls (i/4096)->t'.f i=t.f i)/\Nb W x x'/\t'.m.n=(if b=true then t.m.n + 2 ^ x.o else t.m.n)/\x'.n=(if b=true then x.n + x.R else x.n)) (hcp:S.c p=none) (nl:∀ i,(p,i) ∉ ls) (kp:Kt (bG x sb) W w')
theorem AI{w W sb lw x t fr ls S h w'}(o:SO w W sb lw x t fr ls S h){p k i:Nat}{r:List Nat}(hc:S.c p=some k)(hf:S.fl p=i :: r)(se:SE w W sb lw x t (fO t.m p i r) (iA t.m h p k i r) w'):(fO t.m p i r).n=t.m.n:=by
 have h1:=(o.hand hc hf se).st;have h2:=o.st;have h3:(fO t.m p i r).n*4096=x.n:=h1;omega
theorem ZF{w W sb lw x t fr ls S h}(o:SO w W sb lw x t fr ls S h)(c:Int)(hc:¬(0<=c/\c<8))(d:Bool):
  Calls prog 92 #[.pointer (some ⟨sb,0,none⟩),.int .i64 c,.bool d] W fun e w'=>TkP w W sb lw x t fr ls S h c d e w':=by
 have D:=aA (show TkP w W sb lw x t fr ls S h c d (.returned (.tuple #[.int .u64 0,.bool false,.int .i64 1])) W from .bad hc rfl (Kt.refl _ _));clear o;by_cases h0:c<0
 ·clear hc;go_enter func92,ntmps92;go_wp2_with fail;exact⟨rfl,.tuple #[.int .u64 0,.bool false,.int .i64 1],by simp[results,results92,go_sem],D.out⟩
 ·have h8 : 8<=c:=by omega
  clear hc;go_enter func92,ntmps92;go_wp2_with fail;exact⟨rfl,.tuple #[.int .u64 0,.bool false,.int .i64 1],by simp[results,results92,go_sem],D.out⟩
theorem SJ{w W sb lw x t fr ls S h}(o:SO w W sb lw x t fr ls S h)(k:Nat)(hk:k<8)(d:Bool):
  Calls prog 92 #[.pointer (some ⟨sb,0,none⟩),.int .i64 k,.bool d] W fun e w'=>TkP w W sb lw x t fr ls S h (k:Int) d e w':=by
 have ch:=o.sw.hd k hk;have hki:(k:Int)<8:=by omega
 have hk0:¬(k:Int)<0:=by omega
 have hk8:¬ 8<=(k:Int):=by omega
 have HO:=aA o;have HD:=o.hd k hk
 cases hl:S.pl k with
 | nil=>
  rw[hl] at HD;have hz:h k = -1:=HD;rw[hz] at ch;have FR:=aA (US o k hk d);have HL:=aA hl;clear o HD hz hl;go_enter func92,ntmps92;go_wp2_with fail;refine FR.out.mono ?_;intro e w1 hF
  cases hF with
  | stuck hz hd he kp=>
   subst he;have D:=aA (show TkP w W sb lw x t fr ls S h (k:Int) d (.returned (.tuple #[.int .u64 0,.bool false,.int .i64 2])) w1 from .stuck k hk rfl HL.out hz hd rfl kp);clear hz hd kp FR ch;go_wp2_with fail;exact⟨rfl,.tuple #[.int .u64 0,.bool false,.int .i64 2],by simp[results,results92,go_sem],D.out⟩
  | got p b he fo=>
   subst he;obtain⟨⟨x1,t1,fr1,hned,o1,hsm,hf1,hnb,htn,hxn⟩,hc,nl,kp⟩:=fo;have hnl:=dV hk;have hfp:(bL S p k).fl p=0 :: List.range' 1 (aH k-1):=by
    have:(bL S p k).fl p=List.range' 0 (aH k):=bX _ _ _;rw[this];obtain⟨m,hm⟩:∃ m,aH k=m+1:=⟨aH k-1,by omega⟩;rw[hm];rfl
   have hcp:(bL S p k).c p=some k:=bX _ _ _;have c1:w1.cell? ⟨sb,2+k,none⟩=some (.int .i64 p):=by
    have:=o1.sw.hd k hk;rw[show cU h k (p:Int) k=(p:Int)from if_pos rfl] at this;exact this
   have hca:aO x1 p k 0=aO x p k 0:=AG hsm.bS p k 0;have HA:=aA (show Calls prog 144 #[.pointer (some ⟨sb,0,none⟩),.int .i64 p,.int .i64 k] w1 fun e w'=>e=.returned (.tuple #[.int .u64 ((aO x p k 0:Nat):Int),.int .i64 0])/\TkP w W sb lw x t fr ls S h (k:Int) d (.returned (.tuple #[.int .u64 ((aO x p k 0:Nat):Int),.bool b,.int .i64 0])) w' from by
    refine(zY o1 p k 0 _ hcp hfp).mono ?_;rintro e w2 ⟨rfl,se⟩;refine⟨by rw[hca],.new k p b hk rfl HL.out rfl ⟨_,_,fr1,_,hned,o1.hand hcp hfp se,hsm,hf1,hnb,?_,hxn⟩ hc nl ?_⟩
    ·rw[<-htn];exact AI o1 hcp hfp se
    ·refine kp.trans se.2 (fun _ _ e=>e) (fun y hy e=>?_);rcases e with e|e
     ·rcases hnb y e with e|e
      ·exact .inl e
      ·omega
     ·exact .inr e)
   obtain⟨a,ha⟩:=xe (aO x p k 0);rw[<-ha] at HA;have hpn:(p:Int) ≠ -1:=(by omega);clear hned o1 hsm hf1 hnb htn hxn hc nl kp hnl hfp hcp hca ha FR ch;go_wp2_with fail;refine HA.out.mono ?_;rintro e w2 ⟨rfl,h2⟩;have D:=aA h2;clear h2;go_wp2_with fail;exact⟨rfl,.tuple #[.int .u64 a,.bool b,.int .i64 0],by simp[results,results92,go_sem],D.out⟩
 | cons p l=>
  rw[hl] at HD;have hz:h k=(p:Int):=HD;rw[hz] at ch;obtain⟨hc,hne⟩:=(o.si.pm k hk p).1 (by rw[hl];exact List.mem_cons_self);obtain⟨i,r,hf⟩:∃ i r,S.fl p=i :: r:=by
   cases e:S.fl p with
   | nil=>exact absurd e hne
   | cons i r=>exact⟨i,r,rfl⟩
  have HA:=aA (show Calls prog 144 #[.pointer (some ⟨sb,0,none⟩),.int .i64 p,.int .i64 k] W fun e w'=>e=.returned (.tuple #[.int .u64 ((aO x p k i:Nat):Int),.int .i64 0])/\TkP w W sb lw x t fr ls S h (k:Int) d (.returned (.tuple #[.int .u64 ((aO x p k i:Nat):Int),.bool false,.int .i64 0])) w' from by
   refine(zY o p k i r hc hf).mono ?_;rintro e w2 ⟨rfl,se⟩;exact⟨rfl,.old k p i l r hk rfl hl hf rfl ⟨_,_,_,o.hand hc hf se,AI o hc hf se⟩ se.2⟩)
  obtain⟨a,ha⟩:=xe (aO x p k i);rw[<-ha] at HA;have hpn:(p:Int) ≠ -1:=by omega
  clear o HD hz hl hc hne hf ha;go_enter func92,ntmps92;go_wp2_with fail;refine HA.out.mono ?_;rintro e w2 ⟨rfl,h2⟩;have D:=aA h2;clear h2;go_wp2_with fail;exact⟨rfl,.tuple #[.int .u64 a,.bool false,.int .i64 0],by simp[results,results92,go_sem],D.out⟩
theorem ZE{w W sb lw x t fr ls S h}(o:SO w W sb lw x t fr ls S h)(c:Int)(d:Bool):
  Calls prog 92 #[.pointer (some ⟨sb,0,none⟩),.int .i64 c,.bool d] W fun e w'=>TkP w W sb lw x t fr ls S h c d e w':=by
 by_cases hc : 0<=c/\c<8
 ·obtain⟨k,rfl⟩:∃ k:Nat,c=(k:Int):=⟨c.toNat,by omega⟩;exact SJ o k (by omega) d
 ·exact ZF o c hc d
def bH(S:Sb)(p k i:Nat):Sb:={ S with fl:=aV S.fl p (i :: S.fl p),pl:=if S.fl p=[] then aV S.pl k (p :: S.pl k) else S.pl }
def lM(m:Mp)(h:Nat->Int)(p k i:Nat)(f:List Nat):Mp:=if f=[] then eV (cG m (p:Int) (i:Int) false) h (p:Int) k else cG m (p:Int) (i:Int) false
def jO(m:Mp)(h:Nat->Int)(p k i:Nat)(f:List Nat):Mp:=gR (lM m h p k i f) (p:Int) (i:Int)
def iB(h:Nat->Int)(p k:Nat)(f:List Nat):Nat->Int:=if f=[] then cU h k (p:Int) else h
theorem kE(pg:Nat->Pg)(p:Nat)(q:Pg):aI pg p q p=q:=if_pos rfl
theorem iM(pg:Nat->Pg){p a:Nat}(q:Pg)(h:a≠p):aI pg p q a=pg a:=if_neg h
theorem PM(pg:Nat->Pg)(p:Nat)(q q':Pg):aI (aI pg p q) p q'=aI pg p q':=by
 funext a
 by_cases e:a=p
 ·subst e;rw[kE,kE]
 ·rw[iM _ _ e,iM _ _ e,iM _ _ e]
theorem LJ(x:Bx)(p k:Nat)(l:List Nat):nX x p k (cQ l)=oU x p k l:=by
 cases l with
 | nil=>rfl
 | cons j l=>
  unfold nX;rw[if_neg (by show ¬((j:Int) = -1);omega)];rfl
theorem zjD{S:Sb}{p k i:Nat}{q:Pg}(hk:k<8)(h:SlP S p k q)(hi:i<aH k)(hn:i ∉ S.fl p)(hl:(S.fl p).length<aH k):
  SlQ (bH S p k i) p k { aW q i with fs:=(i:Int) }:=by
 obtain⟨t1,t2,t3,t4,t5,t6,t7⟩:=nS q i;have hnb:=dV hk;have hlit:aN q i=true:=by
  rw[h.bt i (by omega)];exact decide_eq_true ⟨hi,hn⟩
 have hfl:(bH S p k i).fl p=i :: S.fl p:=bX _ _ _;refine⟨t1.trans h.kd,t2.trans h.od,t3.trans h.cl,?_,by rw[hfl];rfl,fun j hj=>?_⟩
 ·show wrap64 (if aN q i=true then q.lv-1 else q.lv+1)=_
  rw[hlit,if_pos rfl,h.lv,hfl,List.length_cons];unfold wrap64;omega
 ·have e1:aN { aW q i with fs:=(i:Int) } j=aN (aW q i) j:=yA rfl rfl rfl rfl j;rw[e1,CV q i j (by omega) hj,hfl];by_cases e:j=i
  ·rw[if_pos e,hlit];symm;exact decide_eq_false (fun e2=>e2.2 (by rw[e];exact List.mem_cons_self))
  ·rw[if_neg e,h.bt j hj];apply decide_eq_decide.2
   rw[List.mem_cons,not_or];exact⟨fun h=>⟨h.1,e,h.2⟩,fun h=>⟨h.1,h.2.2⟩⟩
theorem SO.nxt{w W sb lw x t fr ls S h}(o:SO w W sb lw x t fr ls S h){k:Nat}(hk:k<8)(r:Nat)(hr:r∈S.pl k):r<t.m.n/\(t.m.pg r).kd=4/\dF t.m.n (t.m.pg r).nx=true:=by
 have hcr:=((o.si.pm k hk r).1 hr).1;have sr:=(o.si.pg r k hcr).2;refine⟨(o.mem hcr).2.1,sr.kd,?_⟩;rw[sr.nx];rcases oK (S.pl k) r (o.si.pn k hk)with e|⟨b,e,hb,_⟩
 ·rw[e];exact mP _
 ·rw[e];exact pR (o.mem ((o.si.pm k hk b).1 hb).1).2.1
theorem PK{w W sb lw x t fr ls S h}(o:SO w W sb lw x t fr ls S h){p k i:Nat}(hc:S.c p=some k)(hi:i<aH k)(hn:i ∉ S.fl p):
  jO t.m h p k i (S.fl p)={ t.m with pg:=if S.fl p=[] then cO (aI t.m.pg p { aW (t.m.pg p) i with fs:=(i:Int) }) (S.pl k) p else aI t.m.pg p { aW (t.m.pg p) i with fs:=(i:Int) } }:=by
 obtain⟨hk,sp⟩:=o.si.pg p k hc;obtain⟨hls,hpn,_⟩:=o.mem hc;have hnb:=dV hk;have hcn:fD (t.m.pg p).cl=aH k:=by rw[sp.cl];rfl
 have hlit:aN (t.m.pg p) i=!false:=by
  rw[sp.bt i (by omega)];exact decide_eq_true ⟨hi,hn⟩
 obtain⟨t1,t2,t3,_⟩:=nS (t.m.pg p) i;have eO:=(uR hpn sp.kd (by rw[hcn];exact hi) hlit).2;have hQk:(aW (t.m.pg p) i).kd=4:=t1.trans sp.kd;have hQc:(aW (t.m.pg p) i).cl=(k:Int):=t3.trans sp.cl;unfold jO lM;by_cases hf:S.fl p=[]
 ·rw[if_pos hf,if_pos hf,eO];have hpl:p ∉ S.pl k:=fun e=>((o.si.pm k hk p).1 e).2 hf
  rw[AY (m:={ t.m with pg:=aI t.m.pg p (aW (t.m.pg p) i) }) (l:=S.pl k) hpn (by show(aI t.m.pg p _ p).kd=4;rw[kE];exact hQk) (o.hd k hk) (fun r hr=>by
   have hrp:r≠p:=fun e=>hpl (by rw[<-e];exact hr)
   show r<t.m.n/\(aI t.m.pg p _ r).kd=4/\dF t.m.n (aI t.m.pg p _ r).nx=true
   rw[iM _ _ hrp];exact o.nxt hk r hr) hpl]
  have e1:cO (aI t.m.pg p (aW (t.m.pg p) i)) (S.pl k) p p={ aW (t.m.pg p) i with nx:=cQ (S.pl k),pv := -1 }:=by
   unfold cO;rw[if_pos rfl,kE]
  rw[uZ (m:={ t.m with pg:=cO (aI t.m.pg p (aW (t.m.pg p) i)) (S.pl k) p }) hpn (by show(cO _ _ p p).kd=4;rw[e1];exact hQk) (.inr ⟨i,rfl,by show i<fD (cO _ _ p p).cl;rw[e1];show i<fD (aW (t.m.pg p) i).cl;rw[hQc];exact hi⟩)];refine congrArg (fun g=>({ t.m with pg:=g } : Mp)) (funext fun a=>?_);show aI (cO (aI t.m.pg p (aW (t.m.pg p) i)) (S.pl k) p) p { cO (aI t.m.pg p (aW (t.m.pg p) i)) (S.pl k) p p with fs:=(i:Int) } a=_
  rw[e1];by_cases e:a=p
  ·subst e;rw[kE];unfold cO;rw[if_pos rfl,kE]
  ·rw[iM _ _ e];unfold cO;rw[if_neg e,if_neg e,iM _ _ e,iM _ _ e]
 ·rw[if_neg hf,if_neg hf,eO];rw[uZ (m:={ t.m with pg:=aI t.m.pg p (aW (t.m.pg p) i) }) hpn (by show(aI t.m.pg p _ p).kd=4;rw[kE];exact hQk) (.inr ⟨i,rfl,by show i<fD (aI t.m.pg p _ p).cl;rw[kE,hQc];exact hi⟩)];show({ t.m with pg:=aI (aI t.m.pg p (aW (t.m.pg p) i)) p { aI t.m.pg p (aW (t.m.pg p) i) p with fs:=(i:Int) } } : Mp)=_
  rw[kE,PM]
theorem SO.give{w W W' sb lw x t fr ls S h}(o:SO w W sb lw x t fr ls S h){p k i:Nat}(hc:S.c p=some k)(hi:i<aH k)(hn:i ∉ S.fl p)(hl:(S.fl p).length<aH k)
  (sw:SW w W' sb lw x ⟨M.upd t.f (4096*p+i*aC k) 8 (M.byteOf (oU x p k (S.fl p))),jO t.m h p k i (S.fl p),t.hd⟩ (iB h p k (S.fl p))):
  SO w W' sb lw { x with P:=iG (bH S p k i) (jO t.m h p k i (S.fl p)) } ⟨M.upd t.f (4096*p+i*aC k) 8 (M.byteOf (oU x p k (S.fl p))),jO t.m h p k i (S.fl p),t.hd⟩ fr ls (bH S p k i) (iB h p k (S.fl p)):=by
 obtain⟨hk,sp⟩:=o.si.pg p k hc;obtain⟨nd,lt,lk⟩:=o.si.fl p k hc;obtain⟨hls,hpn,hp1,hpb⟩:=o.mem hc;have hnb:=dV hk;have hz:=bU hk;have n4:=o.po.nums.2.2.2.1;have eM:=PK o hc hi hn;have Q3:=zjD hk sp hi hn hl;have hq3n:({ aW (t.m.pg p) i with fs:=(i:Int) } : Pg).nx=(t.m.pg p).nx:=(nS (t.m.pg p) i).2.2.2.2.1;have hq3v:({ aW (t.m.pg p) i with fs:=(i:Int) } : Pg).pv=(t.m.pg p).pv:=(nS (t.m.pg p) i).2.2.2.2.2.1;have hln:(S.pl k).Nodup:=o.si.pn k hk;generalize ({ aW (t.m.pg p) i with fs:=(i:Int) } : Pg)=Q at *;rw[eM] at sw ⊢;clear eM;have hfl:(bH S p k i).fl p=i :: S.fl p:=bX _ _ _;have hfn:∀ a,a≠p->(bH S p k i).fl a=S.fl a:=fun a ha=>bY _ _ ha
 have pg2:∀ a c,S.c a=some c->SlQ (bH S p k i) a c (aI t.m.pg p Q a)/\(aI t.m.pg p Q a).nx=bN (S.pl c) a/\(aI t.m.pg p Q a).pv=bV (S.pl c) a:=fun a c ha=>by
  obtain⟨hc8,sa⟩:=o.si.pg a c ha;by_cases e:a=p
  ·subst e;rw[hc] at ha
   cases ha
   rw[kE,hq3n,hq3v];exact⟨Q3,sp.nx,sp.pv⟩
  ·rw[iM _ _ e];exact⟨sa.q.congr (hfn a e),sa.nx,sa.pv⟩
 have hout2:∀ a,S.c a=none->aI t.m.pg p Q a=t.m.pg a:=fun a ha=>iM _ _ (fun e=>by rw[e,hc] at ha;cases ha)
 have hPl:S.fl p=[]->p ∉ S.pl k:=fun hf e=>((o.si.pm k hk p).1 e).2 hf
 -- the pages in the end
 obtain⟨pgF,hpgF⟩:=xe ((if S.fl p=[] then cO (aI t.m.pg p Q) (S.pl k) p else aI t.m.pg p Q));rw[<-hpgF] at sw ⊢;have hF1:∀ a,S.c a=none->pgF a=t.m.pg a:=fun a ha=>by
  rw[hpgF];by_cases hf:S.fl p=[]
  ·rw[if_pos hf];have hap:a≠p:=fun e=>by rw[e,hc] at ha;cases ha
   have hal:a ∉ S.pl k:=fun e=>by rw[((o.si.pm k hk a).1 e).1] at ha;cases ha
   rw[rL hap hal];exact hout2 a ha
  ·rw[if_neg hf];exact hout2 a ha
 have hF2:∀ a c,S.c a=some c->SlQ (bH S p k i) a c (pgF a)/\(pgF a).nx=bN ((bH S p k i).pl c) a/\(pgF a).pv=bV ((bH S p k i).pl c) a:=fun a c ha=>by
  obtain⟨h1,h2,h3⟩:=pg2 a c ha;rw[hpgF];by_cases hf:S.fl p=[]
  ·have ePl:(bH S p k i).pl=aV S.pl k (p :: S.pl k):=(by unfold bH;rw[if_pos hf]);rw[if_pos hf,ePl];refine⟨h1.rst (ER _ _ _ _),?_⟩;by_cases e:c=k
   ·subst e;rw[bX];exact AU (fun a ha=>(pg2 a c ha).2) hln (hPl hf) a ha
   ·rw[bY _ _ e];have hap:a≠p:=fun e3=>by rw[e3,hc] at ha;cases ha;exact e rfl
    have hal:a ∉ S.pl k:=fun e3=>by rw[((o.si.pm k hk a).1 e3).1] at ha;cases ha;exact e rfl
    rw[rL hap hal];exact⟨h2,h3⟩
  ·have ePl:(bH S p k i).pl=S.pl:=(by unfold bH;rw[if_neg hf]);rw[if_neg hf,ePl];exact⟨h1,h2,h3⟩
 have hF3:∀ c,c<8->iB h p k (S.fl p) c=cQ ((bH S p k i).pl c):=fun c hc8=>by
  unfold iB;by_cases hf:S.fl p=[]
  ·have ePl:(bH S p k i).pl=aV S.pl k (p :: S.pl k):=(by unfold bH;rw[if_pos hf]);rw[if_pos hf,ePl];by_cases e:c=k
   ·subst e;rw[bX];exact if_pos rfl
   ·rw[bY _ _ e];exact(if_neg e).trans (o.hd c hc8)
  ·have ePl:(bH S p k i).pl=S.pl:=(by unfold bH;rw[if_neg hf]);rw[if_neg hf,ePl];exact o.hd c hc8
 have hiz:(i+1)*aC k<=aH k*aC k:=Nat.mul_le_mul_right _ hi;rw[Nat.add_mul,Nat.one_mul,hnb.1] at hiz;have sf1:=o.sf.fill (p:=p) (k:=0) hls (f':=M.upd t.f (4096*p+i*aC k) 8 (M.byteOf (oU x p k (S.fl p)))) (fun j hj=>M.upd_out _ _ _ _ _ (by omega));refine⟨sw.reP _,sf1.repaint S (bH S p k i) o.si.eP { t.m with pg:=pgF } rfl rfl rfl (fun a ha=>?_) (fun a c ha=>⟨(hF2 a c ha).1.kd,(o.mem ha).1⟩),o.st,o.bm,⟨rfl,fun a c ha=>⟨(o.si.pg a c ha).1,(hF2 a c ha).1.p (hF2 a c ha).2.1 (hF2 a c ha).2.2⟩,fun a c ha=>?_,fun a c ha=>?_,fun c hc8=>?_,fun c hc8 a=>?_⟩,hF3⟩
 ·have ha:S.c a=none:=ha;rw[if_pos ha];exact hF1 a ha
 ·replace ha:S.c a=some c:=ha;obtain⟨n1,n2,n3⟩:=o.si.fl a c ha;by_cases e:a=p
  ·subst e;rw[hc] at ha
   cases ha
   rw[hfl];refine⟨List.nodup_cons.2 ⟨hn,n1⟩,fun j hj=>?_,?_,?_⟩
   ·rcases List.mem_cons.1 hj with rfl|hj
    ·exact hi
    ·exact n2 j hj
   ·have hb:oU x a k (S.fl a)<18446744073709551616:=by
     cases e:S.fl a with
     | nil=>show 0<_;decide
     | cons j l=>
      have hj:=n2 j (by rw[e];exact List.mem_cons_self);exact(fQ (x:=x) (p:=a) hk hj (by omega)).2.2
    show M.word (M.upd t.f _ 8 _) _=oU { x with P:=_ } a k (S.fl a)
    rw[M.word_upd _ _ _ hb]
    cases S.fl a <;> rfl
   ·refine nP (pY (x:=x) rfl (fun j hj=>?_) n3);have hji:j≠i:=fun e=>hn (by rw[<-e];exact hj)
    refine M.word_far _ _ _ _ ?_;rcases Nat.lt_or_gt_of_ne hji with hlt|hlt
    ·have:(j+1)*aC k<=i*aC k:=Nat.mul_le_mul_right _ hlt;rw[Nat.add_mul,Nat.one_mul] at this;omega
    ·have:(i+1)*aC k<=j*aC k:=Nat.mul_le_mul_right _ hlt;rw[Nat.add_mul,Nat.one_mul] at this;omega
  ·rw[hfn a e];have hc8:=(o.si.pg a c ha).1;have hnb2:=dV hc8;have hz2:=bU hc8;refine⟨n1,n2,nP (pY (x:=x) rfl (fun j hj=>?_) n3)⟩;have hjb:=n2 j hj;have h2:(j+1)*aC c<=aH c*aC c:=Nat.mul_le_mul_right _ hjb;rw[Nat.add_mul,Nat.one_mul,hnb2.1] at h2;refine M.word_far _ _ _ _ ?_;omega
 ·replace ha:S.c a=some c:=ha;by_cases e:a=p
  ·subst e;rw[hc] at ha
   cases ha
   rw[hfl,List.length_cons];omega
  ·rw[hfn a e];exact o.si.lv a c ha
 ·have:=o.si.pn c hc8;unfold bH;by_cases hf:S.fl p=[]
  ·rw[if_pos hf];show(aV S.pl k _ c).Nodup
   by_cases e:c=k
   ·subst e;rw[bX];exact List.nodup_cons.2 ⟨hPl hf,this⟩
   ·rw[bY _ _ e];exact this
  ·rw[if_neg hf];exact this
 ·have hpm:=o.si.pm c hc8 a;show a∈(bH S p k i).pl c↔(S.c a=some c/\(bH S p k i).fl a≠[])
  by_cases hf:S.fl p=[]
  ·have ePl:(bH S p k i).pl=aV S.pl k (p :: S.pl k):=(by unfold bH;rw[if_pos hf]);rw[ePl];by_cases ea:a=p
   ·subst ea;rw[hfl,hc];by_cases e:c=k
    ·subst e;rw[bX];exact⟨fun _=>⟨rfl,List.cons_ne_nil _ _⟩,fun _=>List.mem_cons_self⟩
    ·rw[bY _ _ e,hpm,hc];constructor
     ·rintro ⟨e2,_⟩;cases e2;exact absurd rfl e
     ·rintro ⟨e2,_⟩;cases e2;exact absurd rfl e
   ·rw[hfn a ea];by_cases e:c=k
    ·subst e;rw[bX,List.mem_cons,hpm];exact⟨fun h=>h.resolve_left ea,fun h=>.inr h⟩
    ·rw[bY _ _ e];exact hpm
  ·have ePl:(bH S p k i).pl=S.pl:=(by unfold bH;rw[if_neg hf]);rw[ePl,hpm];by_cases ea:a=p
   ·subst ea;rw[hfl];exact⟨fun hm=>⟨hm.1,List.cons_ne_nil _ _⟩,fun hm=>⟨hm.1,hf⟩⟩
   ·rw[hfn a ea]
def cK(S:Sb)(p k:Nat):Sb:=⟨aV S.c p none,S.fl,aV S.pl k (M.dropL (S.pl k) p)⟩
def dS(m:Mp)(p i:Nat):Mp:=cN (iP (cG m (p:Int) (i:Int) false) (p:Int)) (p:Int) 0 2
def iU(m:Mp)(h:Nat->Int)(p k i:Nat):Nat->Int:=iQ (cG m (p:Int) (i:Int) false) h (p:Int) k
theorem VN{m:Mp}{p:Nat}(hp:p<m.n):cN m (p:Int) 0 2={ m with pg:=aI m.pg p (bR 2 0) }:=by
 have h:kT m (p:Int) 0 2=true:=by
  unfold kT;rw[dQ hp,Bool.and_eq_true,Bool.and_eq_true];refine⟨decide_eq_true ⟨.inr rfl,by omega,by omega⟩,rfl,decide_eq_true ?_⟩;rw[show(2:Int) ^ (0:Int).toNat=1 from rfl];omega
 unfold cN;rw[if_pos h,Int.toNat_natCast];refine congrArg (fun g=>({ m with pg:=g } : Mp)) (funext fun a=>?_);unfold fU aI;by_cases e:a=p
 ·rw[if_pos e,if_pos e];rfl
 ·rw[if_neg e,if_neg e,if_neg];rw[show(2:Nat) ^ (0:Int).toNat=1 from rfl];omega
theorem PH{w W sb lw x t fr ls S h}(o:SO w W sb lw x t fr ls S h){p k i:Nat}(hc:S.c p=some k)(hi:i<aH k)(hn:i ∉ S.fl p)(hf:S.fl p≠[]):
  dS t.m p i={ t.m with pg:=aI (dO (aI t.m.pg p (aW (t.m.pg p) i)) (S.pl k) p) p (bR 2 0) }/\iU t.m h p k i=(if bV (S.pl k) p = -1 then cU h k (bN (S.pl k) p) else h)/\NP (aI t.m.pg p (aW (t.m.pg p) i)) S k (S.pl k):=by
 obtain⟨hk,sp⟩:=o.si.pg p k hc;obtain⟨hls,hpn,_⟩:=o.mem hc;have hnb:=dV hk;have hcn:fD (t.m.pg p).cl=aH k:=by rw[sp.cl];rfl
 have hlit:aN (t.m.pg p) i=!false:=by
  rw[sp.bt i (by omega)];exact decide_eq_true ⟨hi,hn⟩
 obtain⟨t1,t2,t3,t4,t5,t6,t7⟩:=nS (t.m.pg p) i;have eO:=(uR hpn sp.kd (by rw[hcn];exact hi) hlit).2;have hpl:p∈S.pl k:=(o.si.pm k hk p).2 ⟨hc,hf⟩;have np:NP (aI t.m.pg p (aW (t.m.pg p) i)) S k (S.pl k):=fun a ha=>by
  by_cases e:a=p
  ·subst e;rw[kE];exact⟨t5.trans sp.nx,t6.trans sp.pv⟩
  ·rw[iM _ _ e];exact⟨(o.si.pg a k ha).2.nx,(o.si.pg a k ha).2.pv⟩
 have hU:=AX (m:={ t.m with pg:=aI t.m.pg p (aW (t.m.pg p) i) }) (h:=h) (c:=k) (o.si.pn k hk) hpl (fun a ha=>by
  have hca:=((o.si.pm k hk a).1 ha).1;refine⟨(o.mem hca).2.1,?_,np a hca⟩;show(aI t.m.pg p _ a).kd=4
  by_cases e:a=p
  ·rw[e,kE];exact t1.trans sp.kd
  ·rw[iM _ _ e];exact(o.si.pg a k hca).2.kd)
 unfold dS iU;rw[eO];refine⟨?_,hU.2,np⟩;rw[hU.1,VN (m:={ t.m with pg:=dO (aI t.m.pg p (aW (t.m.pg p) i)) (S.pl k) p }) hpn]
theorem SO.rel{w W W' sb lw x t fr ls S h}(o:SO w W sb lw x t fr ls S h){p k i:Nat}(hc:S.c p=some k)(hi:i<aH k)(hn:i ∉ S.fl p)(hf:S.fl p≠[])
  (sw:SW w W' sb lw x { t with m:=dS t.m p i } (iU t.m h p k i)):
  SO w W' sb lw { x with P:=iG (cK S p k) (dS t.m p i) } { t with m:=dS t.m p i } fr ls (cK S p k) (iU t.m h p k i):=by
 obtain⟨hk,sp⟩:=o.si.pg p k hc;obtain⟨hls,hpn,hp1,hpb⟩:=o.mem hc;have hln:(S.pl k).Nodup:=o.si.pn k hk;have hpl:p∈S.pl k:=(o.si.pm k hk p).2 ⟨hc,hf⟩;obtain⟨eM,eH,np⟩:=PH o hc hi hn hf;rw[eM,eH] at sw ⊢;have np2:=zW np hln hpl;have hcp:(cK S p k).c p=none:=bX _ _ _;have hcn:∀ a,a≠p->(cK S p k).c a=S.c a:=fun a ha=>bY _ _ ha
 have hap:∀ a c,(cK S p k).c a=some c->a≠p/\S.c a=some c:=fun a c ha=>by
  have hne:a≠p:=fun e=>by rw[e,hcp] at ha;cases ha
  exact⟨hne,by rw[<-hcn a hne];exact ha⟩
 generalize hq2:aW (t.m.pg p) i=Q2 at *;have hF1:∀ a,S.c a=none->aI (dO (aI t.m.pg p Q2) (S.pl k) p) p (bR 2 0) a=t.m.pg a:=fun a ha=>by
  have hne:a≠p:=fun e=>by rw[e,hc] at ha;cases ha
  have hal:a ∉ S.pl k:=fun e=>by rw[((o.si.pm k hk a).1 e).1] at ha;cases ha
  rw[iM _ _ hne,rB hln hne hal,iM _ _ hne]
 have hF2:∀ a c,(cK S p k).c a=some c->c<8/\SlP (cK S p k) a c (aI (dO (aI t.m.pg p Q2) (S.pl k) p) p (bR 2 0) a):=fun a c ha=>by
  have hb:=hap a c ha;clear ha;obtain⟨hne,ha⟩:=hb;obtain⟨hc8,sa⟩:=o.si.pg a c ha;rw[iM _ _ hne];have hq:SlQ (cK S p k) a c (aI t.m.pg p Q2 a):=by
   rw[iM _ _ hne];exact sa.q.congr rfl
  refine⟨hc8,(hq.rst (EQ _ _ _ _)).p ?_ ?_⟩
  ·show(dO _ _ _ a).nx=bN (aV S.pl k _ c) a
   by_cases e:c=k
   ·subst e;rw[bX];exact(np2 a ha).1
   ·rw[bY _ _ e];have hal:a ∉ S.pl k:=fun e3=>by rw[((o.si.pm k hk a).1 e3).1] at ha;cases ha;exact e rfl
    rw[rB hln hne hal,iM _ _ hne];exact sa.nx
  ·show(dO _ _ _ a).pv=bV (aV S.pl k _ c) a
   by_cases e:c=k
   ·subst e;rw[bX];exact(np2 a ha).2
   ·rw[bY _ _ e];have hal:a ∉ S.pl k:=fun e3=>by rw[((o.si.pm k hk a).1 e3).1] at ha;cases ha;exact e rfl
    rw[rB hln hne hal,iM _ _ hne];exact sa.pv
 refine⟨sw.reP _,o.sf.repaint S (cK S p k) o.si.eP { t.m with pg:=aI (dO (aI t.m.pg p Q2) (S.pl k) p) p (bR 2 0) } rfl rfl rfl (fun a ha=>?_) (fun a c ha=>⟨(hF2 a c ha).2.kd,(o.mem (hap a c ha).2).1⟩),o.st,o.bm,⟨rfl,hF2,fun a c ha=>?_,fun a c ha=>o.si.lv a c (hap a c ha).2,fun c hc8=>?_,fun c hc8 a=>?_⟩,fun c hc8=>?_⟩
 ·show aI _ p _ a=_
  by_cases e:a=p
  ·subst e;rw[kE,hc,if_neg (by rintro ⟨⟩)]
  ·rw[hcn a e] at ha;rw[if_pos ha];exact hF1 a ha
 ·obtain⟨n1,n2,n3⟩:=o.si.fl a c (hap a c ha).2;exact⟨n1,n2,nP n3⟩
 ·have:=o.si.pn c hc8;show(aV S.pl k _ c).Nodup
  by_cases e:c=k
  ·subst e;rw[bX];exact FV this p
  ·rw[bY _ _ e];exact this
 ·have hpm:=o.si.pm c hc8 a;show a∈aV S.pl k _ c↔((cK S p k).c a=some c/\S.fl a≠[])
  by_cases ea:a=p
  ·subst ea;rw[hcp];constructor
   ·intro hm;exfalso
    by_cases e:c=k
    ·subst e;rw[bX,kU] at hm;exact hm.2 rfl
    ·rw[bY _ _ e,hpm,hc] at hm
     cases hm.1
     exact e rfl
   ·rintro ⟨e,_⟩;cases e
  ·rw[hcn a ea];by_cases e:c=k
   ·subst e;rw[bX,kU,hpm];exact⟨fun hm=>hm.1,fun hm=>⟨hm,ea⟩⟩
   ·rw[bY _ _ e];exact hpm
 ·show(if bV (S.pl k) p = -1 then cU h k (bN (S.pl k) p) else h) c=cQ (aV S.pl k _ c)
  by_cases e:c=k
  ·subst e;rw[bX,uS hln hpl];by_cases e3:bV (S.pl c) p = -1
   ·rw[if_pos e3,if_pos e3];exact if_pos rfl
   ·rw[if_neg e3,if_neg e3];exact o.hd c hc8
  ·rw[bY _ _ e];by_cases e3:bV (S.pl k) p = -1
   ·rw[if_pos e3];exact(if_neg e).trans (o.hd c hc8)
   ·rw[if_neg e3];exact o.hd c hc8
def zJ(w W1:World)(sb lw:Nat)(x:Bx)(t:Bt)(fr:Nat->List Nat)(ls:List (Nat×Nat))(S:Sb)(p k:Nat)(w':World):Prop:=∃ P t' h',SO w w' sb lw { x with P:=P } t' (lT x.o fr p 0) (dW ls p) (cK S p k) h'/\t'.m.n=t.m.n/\BK t t' ls (dW ls p)/\Kt (bG x sb) W1 w'
theorem zjF{w W W1 sb lw x t fr ls S h}(o:SO w W sb lw x t fr ls S h)(p k i:Nat)(hc:S.c p=some k)(hi:i<aH k)(hn:i ∉ S.fl p)(hf:S.fl p≠[])(s1:SW w W1 sb lw x { t with m:=cG t.m (p:Int) (i:Int) false } h):
  Calls prog 129 #[.pointer (some ⟨sb,0,none⟩),.int .i64 p,.int .i64 k] W1 fun e w'=>e=.returned (.int .i64 0)/\zJ w W1 sb lw x t fr ls S p k w':=by
 obtain⟨hk,sp⟩:=o.si.pg p k hc;obtain⟨hls,hpn,hp1,hpb⟩:=o.mem hc;have hnb:=dV hk;have UL:=aA (DW s1 (p:Int) k hk);obtain⟨m2,hm2⟩:=xe (iP (cG t.m (p:Int) (i:Int) false) (p:Int));obtain⟨h2,hh2⟩:=xe (iQ (cG t.m (p:Int) (i:Int) false) h (p:Int) k);rw[<-hm2,<-hh2] at UL;have RN:=aA (show ∀ W',SW w W' sb lw x { t with m:=m2 } h2->Calls prog 138 #[.pointer (some ⟨x.m,0,none⟩),.int .i64 p,.int .i64 0,.int .i64 2] W' fun e w'=>e=.returned (.int .i64 (gL m2 (p:Int) 0 2))/\SO w w' sb lw { x with P:=iG (cK S p k) (dS t.m p i) } { t with m:=dS t.m p i } fr ls (cK S p k) (iU t.m h p k i)/\Kt (aE x) W' w' from fun W' s=>by
  refine(NH s (p:Int) 0 2).mono ?_;rintro e w' ⟨rfl,s',k'⟩;refine⟨rfl,o.rel hc hi hn hf ?_,k'⟩;unfold dS iU;rw[<-hm2,<-hh2];exact s')
 generalize gL m2 (p:Int) 0 2=re at *;have hP:iG (cK S p k) (dS t.m p i) p=none:=lZ (bX _ _ _);have had:aO x p k 0=ad x p:=by unfold aO ad;omega
 obtain⟨A,hA⟩:=xe (aO x p k 0);have AD:=aA (show ∀ t' h' P W',SW w W' sb lw { x with P:=P } t' h'->Calls prog 176 #[.pointer (some ⟨sb,0,none⟩),.int .i64 p,.int .i64 k,.int .i64 0] W' fun e w'=>e=.returned (.int .u64 A)/\Kt nO W' w' from fun t' h' P W' s=>by
  rw[hA];exact xV s p k 0 (by omega) hk (by omega))
 have GV:=aA (show ∀ W',SO w W' sb lw { x with P:=iG (cK S p k) (dS t.m p i) } { t with m:=dS t.m p i } fr ls (cK S p k) (iU t.m h p k i)->Kt (bG x sb) W1 W'->Calls prog 80 #[.pointer (some ⟨lw,0,none⟩),.int .u64 A,.int .i64 0] W' fun e w'=>e=.returned (.int .i64 0)/\zJ w W1 sb lw x t fr ls S p k w' from fun W' o2 k2=>by
  refine(K.Give6_yes o2.po p 0 hls hP A (hA.trans had)).mono ?_;rintro e w' ⟨rfl,t',po',hn',kk,bk⟩;refine⟨rfl,_,t',_,o2.pool po' (Sm.refl _) bk (fun a c ha=>?_) kk,?_,?_,k2.trans (kk.mono (fun _ _ e=>.inl e)) (fun _ _ e=>e) (fun _ _ e=>e)⟩
  ·refine List.mem_filter.2 ⟨(o2.mem ha).1,decide_eq_true fun e=>?_⟩;have e:a=p:=e;rw[e] at ha;rw[show(cK S p k).c p=none from bX _ _ _] at ha
   cases ha
  ·rw[hn'];have h1:=o2.st;have h2:=o.st;have h3:(dS t.m p i).n*4096=x.n:=h1;show(dS t.m p i).n=t.m.n
   omega
  ·exact bk)
 generalize iG (cK S p k) (dS t.m p i)=PP at *;generalize dS t.m p i=mm at *;generalize iU t.m h p k i=hh at *;obtain⟨c0,c1⟩:=s1.c0;have S1:=aA s1;clear o s1 hc hi hn hf sp hls hpn hp1 hpb hm2 hh2 hP had hA hnb;go_enter func129,ntmps129;go_wp2_with fail;refine UL.out.mono ?_;rintro e w2 ⟨rfl,hs2,hk2⟩;have S2:=aA hs2;have K2:=aA hk2;have MP:=aA (bT hs2.pl);clear c0 c1;obtain⟨c0,c1⟩:=hs2.c0;clear hs2 hk2;go_wp2_with fail;refine MP.out.mono ?_;rintro e w3 ⟨rfl,h3⟩;replace h3:=h3.symm;subst h3;go_wp2_with fail;refine(RN.out _ S2.out).mono ?_;rintro e w3 ⟨rfl,ho3,hk3⟩;have O3:=aA ho3;have K3:=aA (K2.out.trans (hk3.mono (fun _ _ e=>.inl e)) (fun _ _ e=>e) (fun _ _ e=>e));clear c0 c1 ho3 hk3;go_upto_region 3 with fail;have KD:=aA ((Kt.refl nO w3).drew);have O4:=aA (O3.out.keep KD.out);have K4:=aA (K3.out.trans KD.out (fun _ _ e=>e) (fun _ _ e=>e.elim));obtain⟨c0,c1⟩:=O4.out.sw.c0;go_region_held3 (fun w'=>w'.cell? ⟨sb,0,none⟩=some (.pointer (some ⟨lw,0,none⟩))) (first|with_reducible assumption|fail) (first
  | (go_at_call 80;(with_reducible refine(GV.out _ O5.out K5.out).mono ?_);rintro e w6 ⟨rfl,hr6⟩;have D6:=aA hr6;obtain⟨_,_,_,so6,_⟩:=hr6;obtain⟨f0,f1⟩:=so6.sw.c0;clear so6)
  | (go_at_call 176;(with_reducible refine(AD.out _ _ _ _ O4.out.sw).mono ?_);rintro e w5 ⟨rfl,hk5⟩;have O5:=aA (O4.out.keep hk5);have K5:=aA (K4.out.trans hk5 (fun _ _ e=>e) (fun _ _ e=>e.elim));obtain⟨f0,f1⟩:=O5.out.sw.c0;clear hk5)
  | fail)
 all_goals
  go_wp2_with fail;exact⟨rfl,.int .i64 0,by simp[results,results129,go_sem],rfl,D6.out⟩
theorem SO.four{w W sb lw x t fr ls S h}(o:SO w W sb lw x t fr ls S h){g:Nat}(hg:g<t.m.n)(hk:(t.m.pg g).kd=4):∃ k,S.c g=some k:=by
 cases e:S.c g with
 | some k=>exact⟨k,rfl⟩
 | none=>
  exfalso
  obtain⟨B,s,hN,hL⟩:=o.sf;obtain⟨a,p,k,hb,h1,h2⟩:=s.cv g hg;have h9:a≠9:=fun e=>hN p k (e▸hb)
  have hp:=s.pg a p k hb h9 g h1 h2;rw[o.si.eP,lZ e,Option.getD_none] at hp;rw[hp] at hk;have hk:(if g=p then (a:Int) else (a:Int)+1)=4:=hk;rcases s.tg a p k hb with rfl|rfl|rfl
  ·split at hk <;> omega
  ·split at hk <;> omega
  ·exact h9 rfl
def jB(x:Bx)(S:Sb)(p g k i:Nat):Prop:=S.c g=some k/\i<aH k/\i ∉ S.fl g/\p=aO x g k i
theorem SO.liv_of{w W sb lw x t fr ls S h}(o:SO w W sb lw x t fr ls S h){p:Nat}(hp:p<18446744073709551616)(hl:fX x t p=true):∃ g k i,jB x S p g k i:=by
 unfold fX kM at hl;rw[Bool.and_eq_true,Bool.and_eq_true] at hl;obtain⟨⟨h1,h2⟩,h3⟩:=hl;have h1:=of_decide_eq_true h1;have h2:=of_decide_eq_true h2;obtain⟨g,hg⟩:=xe (aP x p/4096);have hgn:g<t.m.n:=by
  refine Nat.lt_of_not_le fun hle=>?_
  unfold eB cP at h1;rw[<-hg,if_neg] at h1
  ·exact absurd h1 (by decide)
  ·intro e;obtain⟨k,e1,e2⟩:=iO e;omega
 have hQ:eB x t p=t.m.pg g:=by
  unfold eB;rw[<-hg];exact qS hgn
 rw[hQ] at h1;obtain⟨k,hc⟩:=o.four hgn h1;obtain⟨hk,sp⟩:=o.si.pg g k hc;have hnb:=dV hk;have hz:=bU hk;have ek:(eB x t p).cl.toNat=k:=by rw[hQ,sp.cl];rfl
 rw[ek] at h2;obtain⟨i,hi⟩:=xe (aP x p%4096/aC k);have hN:iH x t p=i:=by unfold iH;rw[ek,hi]
 have him:i*aC k=aP x p%4096:=by
  have:=Nat.div_add_mod (aP x p%4096) (aC k);rw[h2,Nat.add_zero,Nat.mul_comm,<-hi] at this;exact this
 have hib:i<aH k:=by
  refine Nat.lt_of_not_le fun hle=>?_
  have:=Nat.mul_le_mul_right (aC k) hle;rw[hnb.1,him] at this;have:=Nat.mod_lt (aP x p) (show 0<4096 by decide);omega
 rw[hQ,hN,sp.bt i (by omega)] at h3;have h3:=of_decide_eq_true h3;refine⟨g,k,i,hc,hib,h3.2,?_⟩;obtain⟨_,hpn,hp1,hpb⟩:=o.mem hc;have n4:=o.po.nums.2.2.2.1;have e:aO x g k i=x.bS+4096*g+i*aC k:=rfl;rw[e,him,hg];have hd:=Nat.div_add_mod (aP x p) 4096;have ho:aP x p=(p+18446744073709551616-x.bS)%18446744073709551616:=rfl;omega
theorem SO.of_liv{w W sb lw x t fr ls S h}(o:SO w W sb lw x t fr ls S h){p g k i:Nat}(hl:jB x S p g k i):fX x t p=true/\kM x t p=true/\aP x p/4096=g/\eB x t p=t.m.pg g/\iH x t p=i/\p<18446744073709551616:=by
 obtain⟨hc,hi,hn,rfl⟩:=hl;obtain⟨hk,sp⟩:=o.si.pg g k hc;have hnb:=dV hk;obtain⟨_,hpn,hp1,hpb⟩:=o.mem hc;have n4:=o.po.nums.2.2.2.1;obtain⟨h1,h2,h3,h4⟩:=uC (x:=x) (t:=t) hk hi (by omega) hpn sp.kd sp.cl;refine⟨?_,h1,h2,h3,h4,(fQ (x:=x) (p:=g) hk hi (by omega)).2.2⟩;unfold fX;rw[h1,h3,h4,sp.bt i (by omega),decide_eq_true ⟨hi,hn⟩];rfl
theorem NQ{n L lv N l1 N1:Nat}(h:L<n)(h2 : 2<=n)(e1:lv=n-L)(e2:l1=lv-1)(eN:N=n)(e3:N1=N-1):(l1=0↔L+1=n)/\(l1=N1↔L=0)/\(L+1=n\/L+1<n):=by omega
inductive GvP(w W:World)(sb lw:Nat)(x:Bx)(t:Bt)(fr:Nat->List Nat)(ls:List (Nat×Nat))(S:Sb)(g k i:Nat)(w':World):Prop where
 | back (hl:(S.fl g).length+1<aH k) (so:∃ P t' h',SO w w' sb lw { x with P:=P } t' fr ls (bH S g k i) h'/\(∀ j,¬(4096*g+i*aC k<=j/\j<4096*g+i*aC k+8)->t'.f j=t.f j)/\t'.m.n=t.m.n) (kp:Kt (bG x sb) W w')
 | rel (hl:(S.fl g).length+1=aH k) (so:zJ w W sb lw x t fr ls S g k w')
theorem zhX{w W sb lw x t fr ls S h}(o:SO w W sb lw x t fr ls S h)(hv:fI S)(p g k i:Nat)(hl:jB x S p g k i):
  Calls prog 79 #[.pointer (some ⟨sb,0,none⟩),.int .u64 p] W fun e w'=>e=.returned (.int .i64 0)/\GvP w W sb lw x t fr ls S g k i w':=by
 obtain⟨hlv,hB,hg,hQ,hN,hp⟩:=o.of_liv hl;obtain⟨hc,hi,hn,hpa⟩:=hl;obtain⟨hk,sp⟩:=o.si.pg g k hc;have hnb:=dV hk;have hlen:=hv g k hc;obtain⟨hls,hpn,hp1,hpb⟩:=o.mem hc;have n4:=o.po.nums.2.2.2.1;have hoc:=fQ (x:=x) (p:=g) hk hi (by omega);have LV:=aA (show Calls prog 127 #[.pointer (some ⟨sb,0,none⟩),.int .u64 p] W fun e w'=>e=.returned (.tuple #[lO (g:Int) (i:Int) (t.m.pg g),.bool true])/\Kt nO W w' from by
  have:=xD o.sw p hp hB;unfold fX at hlv;rw[hB,Bool.true_and] at hlv;rw[hlv,hg,hN,hQ] at this;exact this)
 obtain⟨q,hq⟩:=xe (t.m.pg g);have HC:=aA (show q.cl=(k:Int)from by rw[hq];exact sp.cl);obtain⟨lv,hlv2⟩:=xe (aH k-(S.fl g).length);have HL:=aA (show q.lv=(lv:Int)from by rw[hq,hlv2];exact sp.lv);have HF:=aA (show q.fs=cQ (S.fl g)from by rw[hq];exact sp.fs);have hfsb:q.fs = -1\/∃ j:Nat,j<=256/\q.fs=(j:Int):=by
  rw[HF.out];rcases xR (S.fl g)with e|⟨r,e,hr⟩
  ·exact .inl e
  ·refine .inr ⟨r,?_,e⟩;have:=(o.si.fl g k hc).2.1 r hr;omega
 rw[<-hq] at LV;have OW:=aA (show ∀ W',SW w W' sb lw x t h->Calls prog 128 #[.pointer (some ⟨x.m,0,none⟩),.int .i64 g,.int .i64 i,.bool false] W' fun e w'=>e=.returned (.int .i64 (eW t.m (g:Int) (i:Int) false))/\SW w w' sb lw x { t with m:=cG t.m (g:Int) (i:Int) false } h/\Kt (aE x) W' w' from fun W' s=>zP s (g:Int) (i:Int) false);generalize eW t.m (g:Int) (i:Int) false=oe at *;obtain⟨m1,hm1⟩:=xe (cG t.m (g:Int) (i:Int) false);have RL:=aA (show ∀ W',SW w W' sb lw x { t with m:=m1 } h->Kt (aE x) W W'->(S.fl g).length+1=aH k->Calls prog 129 #[.pointer (some ⟨sb,0,none⟩),.int .i64 g,.int .i64 k] W' fun e w'=>e=.returned (.int .i64 0)/\GvP w W sb lw x t fr ls S g k i w' from fun W' s kk hl=>by
  rw[hm1] at s;refine(zjF o g k i hc hi hn (fun e=>by rw[e,List.length_nil] at hl;omega) s).mono ?_;rintro e w' ⟨rfl,P,t',h',h1,h2,h3,h4⟩;exact⟨rfl,.rel hl ⟨P,t',h',h1,h2,h3,(kk.mono (fun _ _ e=>.inl e)).trans h4 (fun _ _ e=>e) (fun _ _ e=>e)⟩⟩)
 have PT:=aA (show ∀ W',SW w W' sb lw x { t with m:=m1 } h->Calls prog 131 #[.pointer (some ⟨sb,0,none⟩),.int .i64 g,.int .i64 k] W' fun e w'=>e=.returned (.tuple #[])/\SW w w' sb lw x { t with m:=eV m1 h (g:Int) k } (cU h k (g:Int))/\Kt (bG x sb) W' w' from fun W' s=>zO s (g:Int) k hk);have EN:=aA (show ∀ W',SW w W' sb lw x { t with m:=lM t.m h g k i (S.fl g) } (iB h g k (S.fl g))->Kt (bG x sb) W W'->(S.fl g).length+1<aH k->Calls prog 132 #[.pointer (some ⟨sb,0,none⟩),lO (g:Int) (i:Int) q,.int .u64 p] W' fun e w'=>e=.returned (.tuple #[])/\GvP w W sb lw x t fr ls S g k i w' from fun W' s kk hl=>by
  have hin:M.In x.bS x.n p 8:=by
   have hz:=bU hk;unfold M.In;have e:aO x g k i=x.bS+4096*g+i*aC k:=rfl;omega
  refine(PS s g i k p q (by omega) hk HC.out hfsb hp hin).mono ?_;rintro e w' ⟨rfl,h1,h2⟩;have hpo:p-x.bS=4096*g+i*aC k:=by
   have e:aO x g k i=x.bS+4096*g+i*aC k:=rfl;omega
  rw[hpo,HF.out,LJ] at h1;have so:=o.give hc hi hn hlen h1;refine⟨rfl,.back hl ⟨_,_,_,so,fun j hj=>M.upd_out _ _ _ _ _ hj,?_⟩ (kk.trans (h2.mono (fun _ _ e=>.inl e)) (fun _ _ e=>e) (fun _ _ e=>e))⟩;have h3:=so.st;have h4:=o.st;have h5:(jO t.m h g k i (S.fl g)).n*4096=x.n:=h3;show(jO t.m h g k i (S.fl g)).n=t.m.n
  omega)
 have CLS:=aA (show ∀ W',SW w W' sb lw x { t with m:=m1 } h->Calls prog 130 #[.int .i64 k] W' fun e w'=>e=.returned (.int .i64 ((aH k:Nat):Int))/\w'=W' from fun W' s=>CX s k hk);obtain⟨N,hNk⟩:=xe (aH k);rw[<-hNk] at CLS;obtain⟨l1,hl1⟩:=xe (lv-1);obtain⟨N1,hN1⟩:=xe (N-1);have hl1i:(lv:Int)-1=(l1:Int):=by omega
 have hl1b:l1<=256:=by omega
 have hN1i:(N:Int)-1=(N1:Int):=by omega
 have hN1b:N1<=256:=by omega
 have hNb:N<=256:=by omega
 have hlvb:lv<=256:=by omega
 have hx:=NQ hlen hnb.2.1 hlv2 hl1 hNk hN1;have X1:=aA hx.1;have X2:=aA hx.2.1;have X3:=aA hx.2.2;clear hx;have X4:=aA hnb.2.1;have GN:=aA (show lM t.m h g k i (S.fl g)=(if S.fl g=[] then eV m1 h (g:Int) k else m1)from by unfold lM;rw[hm1]);have HS:=aA o.sw;rw[<-hm1] at OW;clear o hv hlv hB hg hQ hN hp hc hi hn hpa sp hlen hls hpn hp1 hpb n4 hoc hq hlv2 hfsb hm1 hNk hl1 hN1 hnb;go_enter func79,ntmps79;go_wp2_with fail;refine LV.out.mono ?_;rintro e w1 ⟨rfl,hk1⟩;have K1:=aA (hk1.alloc (eA (g:Int) (i:Int) q));have Y1:=aA (nH w1 (eA (g:Int) (i:Int) q));have S1:=aA (HS.out.keep K1.out);have NY:=aA (show ¬(aE x w1.heap.size\/w1.heap.size=sb)from fun e=>by
  rcases e with e|e
  ·exact absurd ((HS.out.keep hk1).pl.lt _ (.inl e)) (Nat.lt_irrefl _)
  ·have:=lH (HS.out.keep hk1).bx;omega)
 clear hk1;go_upto_region 4 with fail;generalize w1.heap.size=y at *;generalize w1.alloc (eA (g:Int) (i:Int) q)=W1 at *;have CQ:=aA (show ∀ W':World,W'.heap[y]?=some (eA (g:Int) (i:Int) q)->W'.cell? ⟨y,0,none⟩=some (.int .i64 g)/\W'.cell? ⟨y,1,none⟩=some (.int .i64 i)/\W'.cell? ⟨y,4,none⟩=some (.int .i64 k)/\W'.cell? ⟨y,5,none⟩=some (.int .i64 lv)from fun W' hW=>by
  obtain⟨a0,a1,a2,a3,a4,a5,_⟩:=cZ hW;rw[HC.out] at a4;rw[HL.out] at a5;exact⟨a0,a1,a4,a5⟩)
 have KD:=aA ((Kt.refl nO W1).drew);have K2:=aA (nT K1.out KD.out);have S2:=aA (HS.out.keep K2.out);have Y2:=aA ((KD.out.block _ (lH Y1.out) id).trans Y1.out);have MP:=aA (bT S2.out.pl);obtain⟨p0,p1,p4,p5⟩:=CQ.out _ Y2.out;obtain⟨c0,c1⟩:=S2.out.c0;go_region_held3 (fun w'=>w'.cell? ⟨sb,0,none⟩=some (.pointer (some ⟨lw,0,none⟩))/\w'.cell? ⟨y,0,none⟩=some (.int .i64 g)/\w'.cell? ⟨y,1,none⟩=some (.int .i64 i)) ((refine⟨?_,?_,?_⟩ <;> first|with_reducible assumption|fail)) (first
  | (go_at_call 128;(with_reducible refine(OW.out _ S2.out).mono ?_);rintro e w3 ⟨rfl,hs3,hk3⟩;obtain⟨f0,f1⟩:=hs3.c0;have Y3:=aA ((hk3.block _ (lH Y2.out) (fun e=>NY.out (.inl e))).trans Y2.out);obtain⟨g0,g1,g4,g5⟩:=CQ.out _ Y3.out;have S3:=aA hs3;have K3:=aA (K2.out.trans hk3 (fun _ _ e=>e.elim) (fun _ _ e=>e));clear hs3 hk3)
  | (go_at_call 40;(with_reducible refine MP.out.mono ?_);rintro e w3 ⟨rfl,h3⟩;replace h3:=h3.symm;subst h3)
  | fail)
 all_goals
  clear p0 p1 p4 p5 c0 c1 MP;by_cases hz:l1=0
  ·have hb:((l1:Int) == 0)=true:=(by rw[beq_iff_eq];omega);have hlz:=aA (X1.out.1 hz);have RR:=aA (RL.out _ S3.out K3.out hlz.out);subst hz;as_aux_lemma=>
    go_wp2_with fail;refine RR.out.mono ?_;rintro e w4 ⟨rfl,h4⟩;have D:=aA h4;clear h4;go_wp2_with fail;exact⟨rfl,.int .i64 0,by simp[results,results79,go_sem],rfl,D.out⟩
  ·have hb:((l1:Int) == 0)=false:=(by rw[beq_eq_false_iff_ne];omega);have hb':¬(l1:Int)=0:=(by omega);have hlt:=aA (X3.out.resolve_left (fun e=>hz (X1.out.2 e)));have CL:=aA (CLS.out _ S3.out);clear hz;by_cases hn1:l1=N1
   ·have hf0:S.fl g=[]:=List.length_eq_zero_iff.1 (X2.out.1 hn1);have PP:=aA (PT.out _ S3.out);have EE:=aA (show ∀ W',SW w W' sb lw x { t with m:=eV m1 h (g:Int) k } (cU h k (g:Int))->Kt (bG x sb) W W'->Calls prog 132 #[.pointer (some ⟨sb,0,none⟩),lO (g:Int) (i:Int) q,.int .u64 p] W' fun e w'=>e=.returned (.tuple #[])/\GvP w W sb lw x t fr ls S g k i w' from fun W' s kk=>by
     refine EN.out W' ?_ kk hlt.out;rw[GN.out,if_pos hf0,show iB h g k (S.fl g)=cU h k (g:Int)from by unfold iB;rw[if_pos hf0]];exact s)
    have hb2:((l1:Int) == (N1:Int))=true:=(by rw[beq_iff_eq];omega);have HN1:=aA hn1;clear hn1 hf0;as_aux_lemma=>
     go_wp2_with fail;refine CL.out.mono ?_;rintro e w4 ⟨rfl,h4⟩;replace h4:=h4.symm;subst h4;go_wp2_with fail;refine PP.out.mono ?_;rintro e w5 ⟨rfl,hs5,hk5⟩;have E5:=aA (EE.out _ hs5 ((K3.out.mono (fun _ _ e=>.inl e)).trans hk5 (fun _ _ e=>e) (fun _ _ e=>e)));have Y5:=aA ((hk5.block _ (lH Y3.out) NY.out).trans Y3.out);clear hs5 hk5 g0 g1 g4 g5 f0 f1 CL PP;obtain⟨b0,b1,b2,b3,b4,b5,b6,b7,b8,b9,b10,b11,b12⟩:=cZ Y5.out;go_wp2_with fail;refine E5.out.mono ?_;rintro e w6 ⟨rfl,h6⟩;have D:=aA h6;clear h6 b0 b1 b2 b3 b4 b5 b6 b7 b8 b9 b10 b11 b12;go_wp2_with fail;exact⟨rfl,.int .i64 0,by simp[results,results79,go_sem],rfl,D.out⟩
   ·have hf0:S.fl g≠[]:=fun e=>hn1 (X2.out.2 (by rw[e];rfl))
    have EE:=aA (show Calls prog 132 #[.pointer (some ⟨sb,0,none⟩),lO (g:Int) (i:Int) q,.int .u64 p] _ fun e w'=>e=.returned (.tuple #[])/\GvP w W sb lw x t fr ls S g k i w' from by
     refine EN.out _ ?_ (K3.out.mono (fun _ _ e=>.inl e)) hlt.out;rw[GN.out,if_neg hf0,show iB h g k (S.fl g)=h from by unfold iB;rw[if_neg hf0]];exact S3.out)
    have hb2:((l1:Int) == (N1:Int))=false:=(by rw[beq_eq_false_iff_ne];omega);have hb3:¬(l1:Int)=N1:=(by omega);clear hn1 hf0;as_aux_lemma=>
     go_wp2_with fail;refine CL.out.mono ?_;rintro e w4 ⟨rfl,h4⟩;replace h4:=h4.symm;subst h4;clear g0 g1 g4 g5;obtain⟨b0,b1,b2,b3,b4,b5,b6,b7,b8,b9,b10,b11,b12⟩:=cZ Y3.out;go_wp2_with fail;refine EE.out.mono ?_;rintro e w6 ⟨rfl,h6⟩;have D:=aA h6;clear h6 b0 b1 b2 b3 b4 b5 b6 b7 b8 b9 b10 b11 b12;go_wp2_with fail;exact⟨rfl,.int .i64 0,by simp[results,results79,go_sem],rfl,D.out⟩
theorem fI.tak{S:Sb}{p k i:Nat}{r:List Nat}(h:∀ a c,a≠p->S.c a=some c->(S.fl a).length<aH c)(hc:S.c p=some k)(hf:S.fl p=i :: r)(hl:(S.fl p).length<=aH k):fI (bC S p k r):=by
 intro a c ha;replace ha:S.c a=some c:=ha;show(aV S.fl p r a).length<aH c
 by_cases e:a=p
 ·subst e;rw[hc] at ha
  cases ha
  rw[bX];rw[hf,List.length_cons] at hl;omega
 ·rw[bY _ _ e];exact h a c e ha
theorem fI.old{w W sb lw x t fr ls S h}(o:SO w W sb lw x t fr ls S h)(v:fI S){p k i:Nat}{l r:List Nat}(hk:k<8)(hl:S.pl k=p :: l)(hf:S.fl p=i :: r):fI (bC S p k r):=by
 have hc:=((o.si.pm k hk p).1 (by rw[hl];exact List.mem_cons_self)).1;exact fI.tak (fun a c _ ha=>v a c ha) hc hf (o.si.lv p k hc)
theorem fI.new{S:Sb}(v:fI S){p k:Nat}(hk:k<8):fI (bC (bL S p k) p k (List.range' 1 (aH k-1))):=by
 have hnl:=dV hk;have e:(bL S p k).fl p=List.range' 0 (aH k):=bX _ _ _;refine fI.tak (i:=0) (fun a c ha hc=>?_) (bX _ _ _) ?_ ?_
 ·rw[show(bL S p k).c a=S.c a from bY _ _ ha] at hc;rw[show(bL S p k).fl a=S.fl a from bY _ _ ha];exact v a c hc
 ·rw[e];obtain⟨m,hm⟩:∃ m,aH k=m+1:=⟨aH k-1,by omega⟩;rw[hm];rfl
 ·rw[e,List.length_range'];exact Nat.le_refl _
theorem fI.back{S:Sb}(v:fI S){p k i:Nat}(hc:S.c p=some k)(hl:(S.fl p).length+1<aH k):fI (bH S p k i):=by
 intro a c ha;replace ha:S.c a=some c:=ha;show(aV S.fl p (i :: S.fl p) a).length<aH c
 by_cases e:a=p
 ·subst e;rw[hc] at ha
  cases ha
  rw[bX,List.length_cons];exact hl
 ·rw[bY _ _ e];exact v a c ha
theorem fI.rel{S:Sb}(v:fI S)(p k:Nat):fI (cK S p k):=by
 intro a c ha;replace ha:aV S.c p none a=some c:=ha;by_cases e:a=p
 ·rw[e,bX] at ha
  cases ha
 ·rw[bY _ _ e] at ha;exact v a c ha
theorem SO.new{w W sb lw x t}(po:PO w W lw x t (fun _=>[]) [])(sw:SW w W sb lw x t (fun _ => -1))(hP:x.P=fun _=>none):SO w W sb lw x t (fun _=>[]) [] ⟨fun _=>none,fun _=>[],fun _=>[]⟩ (fun _ => -1):=by
 refine⟨sw,po.sf,po.st,po.bm,⟨?_,fun p k h=>?_,fun p k h=>?_,fun p k h=>?_,fun k hk=>List.nodup_nil,fun k hk p=>?_⟩,fun k hk=>rfl⟩
 ·rw[hP];funext p
  exact(lZ rfl).symm
 ·cases h
 ·cases h
 ·cases h
 ·constructor
  ·intro h;cases h
  ·rintro ⟨h,_⟩;cases h
theorem fI.none:fI ⟨fun _=>Option.none,fun _=>[],fun _=>[]⟩:=fun p k h=>by cases h
def aG(x:Bx)(ls:List (Nat×Nat))(S:Sb)(p s:Nat):Prop:=(∃ g k i,jB x S p g k i/\s=aC k)\/(∃ q k,(q,k)∈ls/\S.c q=none/\p=ad x q/\s=4096*2 ^ k)
theorem wB:∀ (n:Nat) (l:List Nat),l.length<n->∃ i,i<n/\i ∉ l
 | 0,l,h=>absurd h (Nat.not_lt_zero _)
 | n+1,l,h=>by
  by_cases hn:n∈l
  ·have hl:(l.erase n).length<n:=by
    rw[List.length_erase_of_mem hn];have:=List.length_pos_of_mem hn;omega
   obtain⟨i,hi,hm⟩:=wB n (l.erase n) hl;refine⟨i,by omega,fun e=>hm ?_⟩;exact(List.mem_erase_of_ne (by omega)).2 e
  ·exact⟨n,by omega,hn⟩
theorem oJ:∀ (n:Nat) (l:List Nat),l.Nodup->(∀ i∈l,i<n)->l.length<=n
 | 0,l,hd,h=>by
  cases l with
  | nil=>exact Nat.le_refl _
  | cons a l=>exact absurd (h a List.mem_cons_self) (Nat.not_lt_zero _)
 | n+1,l,hd,h=>by
  by_cases hn:n∈l
  ·have:=oJ n (l.erase n) (hd.erase n) (fun i hi=>by
    have h1:=(hd.mem_erase_iff).1 hi;have:=h i h1.2;have:=h1.1;omega)
   rw[List.length_erase_of_mem hn] at this;omega
  ·have:=oJ n l hd (fun i hi=>by
    have:=h i hi;have:i≠n:=fun e=>hn (e▸hi)
    omega)
   omega
section
variable {w W:World} {sb lw:Nat} {x:Bx} {t:Bt} {fr:Nat->List Nat} {ls:List (Nat×Nat)} {S:Sb} {h:Nat->Int}
theorem SO.apart(o:SO w W sb lw x t fr ls S h){p k q j:Nat}(hp:(p,k)∈ls)(hq:(q,j)∈ls):(p=q/\k=j)\/p+2 ^ k<=q\/q+2 ^ j<=p:=by
 obtain⟨B,s,hN,hL⟩:=o.sf;rcases s.ds _ _ _ _ _ _ ((hL p k).2 hp) ((hL q j).2 hq)with ⟨_,e1,e2⟩|e|e
 ·exact .inl ⟨e1,e2⟩
 ·exact .inr (.inl e)
 ·exact .inr (.inr e)
theorem SO.al(o:SO w W sb lw x t fr ls S h){p k:Nat}(hp:(p,k)∈ls):k<=x.o/\p%2 ^ k=0/\p+2 ^ k<=t.m.n:=o.sf.sn.al hp
theorem SO.span(o:SO w W sb lw x t fr ls S h){p s:Nat}(hl:aG x ls S p s) : 0<s/\∃ q k,(q,k)∈ls/\ad x q<=p/\p+s<=ad x q+4096*2 ^ k:=by
 rcases hl with ⟨g,k,i,⟨h1,h2,h3,rfl⟩,rfl⟩|⟨q,k,h1,h2,rfl,rfl⟩
 ·have hk:=(o.si.pg g k h1).1;have hz:=bU hk;have hm:=o.mem h1;have n4:=o.po.nums.2.2.2.1;have hc:=fQ (x:=x) (p:=g) hk h2 (by omega);refine⟨by omega,g,0,hm.1,?_,?_⟩
  ·unfold aO ad;omega
  ·unfold aO ad;rw[Nat.pow_zero];omega
 ·have : 0<2 ^ k:=Nat.pow_pos (by decide);exact⟨by omega,q,k,h1,Nat.le_refl _,Nat.le_refl _⟩
theorem SO.inside(o:SO w W sb lw x t fr ls S h){p s:Nat}(hl:aG x ls S p s):x.bS<=p/\p+s<=x.bS+x.n:=by
 obtain⟨_,q,k,h1,h2,h3⟩:=o.span hl;have h4:=(o.al h1).2.2;have hst:=o.st;have:(q+2 ^ k)*4096<=t.m.n*4096:=Nat.mul_le_mul_right _ h4;unfold ad at h2 h3;omega
theorem SO.two(o:SO w W sb lw x t fr ls S h){p s p' s':Nat}(h1:aG x ls S p s)(h2:aG x ls S p' s'):(p=p'/\s=s')\/p+s<=p'\/p'+s'<=p:=by
 have cb:∀ {g k i q j:Nat},jB x S (aO x g k i) g k i->(q,j)∈ls->S.c q=none->aO x g k i+aC k<=ad x q\/ad x q+4096*2 ^ j<=aO x g k i:=by
  intro g k i q j hl hq hn;obtain⟨a1,a2,a3,_⟩:=hl;have hk:=(o.si.pg g k a1).1;have hm:=o.mem a1;have n4:=o.po.nums.2.2.2.1;have hc:=fQ (x:=x) (p:=g) hk a2 (by omega);rcases o.apart hm.1 hq with ⟨rfl,_⟩|e|e
  ·rw[a1] at hn;cases hn
  ·left;unfold aO ad;omega
  ·right;unfold aO ad;omega
 rcases h1 with ⟨g,k,i,l1,rfl⟩|⟨q,k,b1,b2,rfl,rfl⟩
 ·have e1:p=aO x g k i:=l1.2.2.2;subst e1;rcases h2 with ⟨g',k',i',l2,rfl⟩|⟨q,j,b1,b2,rfl,rfl⟩
  ·have e2:p'=aO x g' k' i':=l2.2.2.2;subst e2;by_cases e:g=g'
   ·subst e;obtain⟨a1,a2,a3,_⟩:=l1;obtain⟨c1,c2,c3,_⟩:=l2;rw[a1] at c1;injection c1 with c1
    subst c1;rcases Nat.lt_trichotomy i i' with e|rfl|e
    ·right;left
     have:(i+1)*aC k<=i'*aC k:=Nat.mul_le_mul_right _ e;rw[Nat.add_mul,Nat.one_mul] at this;unfold aO;omega
    ·exact .inl ⟨rfl,rfl⟩
    ·right;right
     have:(i'+1)*aC k<=i*aC k:=Nat.mul_le_mul_right _ e;rw[Nat.add_mul,Nat.one_mul] at this;unfold aO;omega
   ·obtain⟨a1,a2,a3,_⟩:=l1;obtain⟨c1,c2,c3,_⟩:=l2;have hk:=(o.si.pg g k a1).1;have hk':=(o.si.pg g' k' c1).1;have hm:=o.mem a1;have hm':=o.mem c1;have n4:=o.po.nums.2.2.2.1;have hc:=fQ (x:=x) (p:=g) hk a2 (by omega);have hc':=fQ (x:=x) (p:=g') hk' c2 (by omega);unfold aO;rcases Nat.lt_or_gt_of_ne e with e|e
    ·right;left;omega
    ·right;right;omega
  ·exact .inr (cb l1 b1 b2)
 ·rcases h2 with ⟨g',k',i',l2,rfl⟩|⟨q',j,c1,c2,rfl,rfl⟩
  ·have e2:p'=aO x g' k' i':=l2.2.2.2;subst e2;exact .inr (cb l2 b1 b2).symm
  ·rcases o.apart b1 c1 with ⟨rfl,rfl⟩|e|e
   ·exact .inl ⟨rfl,rfl⟩
   ·right;left;unfold ad;omega
   ·right;right;unfold ad;omega
theorem SO.thing(o:SO w W sb lw x t fr ls S h)(v:fI S){q k:Nat}(hq:(q,k)∈ls):∃ p s,aG x ls S p s/\ad x q<=p/\p+s<=ad x q+4096*2 ^ k:=by
 cases e:S.c q with
 | none=>exact⟨ad x q,4096*2 ^ k,.inr ⟨q,k,hq,e,rfl,rfl⟩,Nat.le_refl _,Nat.le_refl _⟩
 | some c=>
  obtain⟨i,h1,h2⟩:=wB _ _ (v q c e);have hk:=(o.si.pg q c e).1;have hm:=o.mem e;have n4:=o.po.nums.2.2.2.1;have hc:=fQ (x:=x) (p:=q) hk h1 (by omega);have hz : 0<2 ^ k:=Nat.pow_pos (by decide);refine⟨aO x q c i,aC c,.inl ⟨q,c,i,⟨e,h1,h2,rfl⟩,rfl⟩,?_,?_⟩
  ·unfold aO ad;omega
  ·unfold aO ad;omega
theorem SO.meets_iff(o:SO w W sb lw x t fr ls S h)(v:fI S)(q j:Nat):(∃ p s,aG x ls S p s/\p<ad x q+4096*2 ^ j/\ad x q<p+s)↔jV ls q j=true:=by
 rw[pU];constructor
 ·rintro ⟨p,s,h1,h2,h3⟩;obtain⟨_,a,k,h4,h5,h6⟩:=o.span h1;unfold ad at *;exact⟨a,k,h4,by omega,by omega⟩
 ·rintro ⟨a,k,h1,h2,h3⟩
  cases e:S.c a with
  | none=>
   refine⟨ad x a,4096*2 ^ k,.inr ⟨a,k,h1,e,rfl,rfl⟩,?_,?_⟩ <;> (unfold ad;omega)
  | some c=>
   obtain⟨p,s,h4,h5,h6⟩:=o.thing v h1;have hm:=o.mem e;have hs:=(o.span h4).1;have hz : 0<2 ^ k:=Nat.pow_pos (by decide);have hk : 2 ^ k=1:=by
    rcases o.apart hm.1 h1 with ⟨_,e2⟩|e2|e2
    ·rw[<-e2]
    ·omega
    ·omega
   unfold ad at *;rw[hk] at h6 h2;exact⟨p,s,h4,by omega,by omega⟩
theorem SO.cells_of(o:SO w W sb lw x t fr ls S h){g k:Nat}(hc:S.c g=some k)(l:List Nat)(hd:l.Nodup)(hm:∀ i,i∈l↔(i<aH k/\i ∉ S.fl g)):l.length=aH k-(S.fl g).length:=by
 obtain⟨n1,n2,_⟩:=o.si.fl g k hc;have nd:(l ++ S.fl g).Nodup:=List.nodup_append.2 ⟨hd,n1,fun a ha b hb e=>((hm a).1 ha).2 (e▸hb)⟩;have h1:=oJ (aH k) _ nd (fun i hi=>by
  rcases List.mem_append.1 hi with e|e
  ·exact((hm i).1 e).1
  ·exact n2 i e)
 have h2:aH k<=(l ++ S.fl g).length:=by
  refine Nat.le_of_not_lt fun e=>?_
  obtain⟨i,hi,hn⟩:=wB _ _ e;rw[List.mem_append,not_or] at hn;exact hn.1 ((hm i).2 ⟨hi,hn.2⟩)
 rw[List.length_append] at h1 h2;omega
end
structure BI(x:Bx)(ls:List (Nat×Nat))(S:Sb)(R:Nat->Bk)(n:Nat):Prop where
 th:∀ i,i<n->aG x ls S (R i).p (R i).s
 ex:∀ p s,aG x ls S p s->∃ i,i<n/\(R i).p=p/\(R i).s=s
 nd:∀ i j,i<n->j<n->(R i).p=(R j).p->i=j
theorem JU{f:Nat->Nat} : ∀ {l:List Nat},l.Nodup->(∀ a,a∈l->∀ b,b∈l->f a=f b->a=b)->(l.map f).Nodup
 | [],_,_=>List.nodup_nil
 | a :: l,hd,h=>by
  rw[List.nodup_cons] at hd;rw[List.map_cons,List.nodup_cons];refine⟨fun hm=>?_,JU hd.2 (fun b hb c hc e=>h b (List.mem_cons_of_mem _ hb) c (List.mem_cons_of_mem _ hc) e)⟩;obtain⟨b,hb,e⟩:=List.mem_map.1 hm;have:=h a List.mem_cons_self b (List.mem_cons_of_mem _ hb) e.symm;exact hd.1 (this▸hb)
theorem RE{k j:Nat}(hk:k<8)(hj:j<8)(h:aC k=aC j):k=j:=by
 have key:∀ k,k<8->∀ j,j<8->aC k=aC j->k=j:=by unfold aC;decide
 exact key k hk j hj h
section
variable {w W:World} {sb lw:Nat} {x:Bx} {t:Bt} {fr:Nat->List Nat} {ls:List (Nat×Nat)} {S:Sb} {h:Nat->Int} {R:Nat->Bk} {n:Nat}
theorem SO.small(o:SO w W sb lw x t fr ls S h){p s g k:Nat}(hk:k<8)(hl:aG x ls S p s)(hs:s=aC k)(h1:ad x g<=p)(h2:p<ad x g+4096):∃ i,jB x S p g k i:=by
 have hz:=bU hk;rcases hl with ⟨g',k',i,hv,e⟩|⟨q,j,h3,h4,h5,h6⟩
 ·obtain⟨a1,a2,a3,a4⟩:=hv;have hk':=(o.si.pg g' k' a1).1;obtain rfl:=RE hk hk' (hs.symm.trans e);have hm:=o.mem a1;have n4:=o.po.nums.2.2.2.1;have hc:=fQ (x:=x) (p:=g') hk' a2 (by omega);have hg:g'=g:=by
   unfold ad at h1 h2;unfold aO at a4;omega
  subst hg;exact⟨i,a1,a2,a3,a4⟩
 ·exfalso
  have : 0<2 ^ j:=Nat.pow_pos (by decide);omega
theorem BI.count(b:BI x ls S R n)(o:SO w W sb lw x t fr ls S h){g k:Nat}(hk:k<8):kJ R (ad x g) (aC k) n=if S.c g=some k then aH k-(S.fl g).length else 0:=by
 have hz:=bU hk;rw[wK];obtain⟨L,hL⟩:=xe ((List.range n).filter fun i=>decide ((R i).s=aC k/\ad x g<=(R i).p/\(R i).p<ad x g+4096));rw[<-hL];have hm:∀ i,i∈L↔i<n/\(R i).s=aC k/\ad x g<=(R i).p/\(R i).p<ad x g+4096:=fun i=>by
  rw[hL,List.mem_filter,List.mem_range,decide_eq_true_iff]
 have hc:∀ i,i∈L->∃ c,jB x S (R i).p g k c:=fun i hi=>by
  obtain⟨h1,h2,h3,h4⟩:=(hm i).1 hi;exact o.small hk (b.th i h1) h2 h3 h4
 by_cases e:S.c g=some k
 ·rw[if_pos e];have hnum:∀ i c,jB x S (R i).p g k c->((R i).p-ad x g)/aC k=c:=fun i c hv=>by
   rw[hv.2.2.2,show aO x g k c-ad x g=c*aC k by unfold aO ad;omega,Nat.mul_div_cancel _ (by omega)]
  have h1:=o.cells_of e (L.map fun i=>((R i).p-ad x g)/aC k) ?_ ?_
  ·rw[List.length_map] at h1;exact h1
  ·have hnd:L.Nodup:=(by rw[hL];exact(List.nodup_range).filter _);refine JU hnd (fun i hi j hj e2=>?_);obtain⟨c,hv⟩:=hc i hi;obtain⟨d,hv2⟩:=hc j hj;rw[hnum i c hv,hnum j d hv2] at e2;refine b.nd i j ((hm i).1 hi).1 ((hm j).1 hj).1 ?_;rw[hv.2.2.2,hv2.2.2.2,e2]
  ·intro c;rw[List.mem_map];constructor
   ·rintro ⟨i,hi,rfl⟩;obtain⟨c,hv⟩:=hc i hi;rw[hnum i c hv];exact⟨hv.2.1,hv.2.2.1⟩
   ·rintro ⟨h2,h3⟩;obtain⟨i,h4,h5,h6⟩:=b.ex (aO x g k c) (aC k) (.inl ⟨g,k,c,⟨e,h2,h3,rfl⟩,rfl⟩);have hmm:=o.mem e;have n4:=o.po.nums.2.2.2.1;have hcc:=fQ (x:=x) (p:=g) hk h2 (by omega);refine⟨i,(hm i).2 ⟨h4,h6,?_,?_⟩,hnum i c ⟨e,h2,h3,h5⟩⟩
    ·rw[h5];unfold aO ad;omega
    ·rw[h5];unfold aO ad;omega
 ·rw[if_neg e]
  cases hL2:L with
  | nil=>rfl
  | cons i l=>
   exfalso
   obtain⟨c,hv⟩:=hc i (by rw[hL2];exact List.mem_cons_self);exact e hv.1
def vD(R:Nat->Bk)(n bS z:Nat):Nat->Bool
 | 0=>true
 | g+1=>vD R n bS z g && !(decide (0<kJ R (bS+4096*g) z n*z) && decide (kJ R (bS+4096*g) z n*z<4096))
theorem wS(R:Nat->Bk)(n bS z:Nat):∀ m,vD R n bS z m=true↔∀ g,g<m->¬(0<kJ R (bS+4096*g) z n*z/\kJ R (bS+4096*g) z n*z<4096)
 | 0=>⟨fun _ g hg=>by omega,fun _=>rfl⟩
 | m+1=>by
  rw[vD,Bool.and_eq_true,wS R n bS z m,Bool.not_eq_true',Bool.and_eq_false_iff,decide_eq_false_iff_not,decide_eq_false_iff_not];constructor
  ·rintro ⟨h1,h2⟩ g hg;by_cases e:g=m
   ·subst e;omega
   ·exact h1 g (by omega)
  ·intro hh;refine⟨fun g hg=>hh g (by omega),?_⟩;have:=hh m (by omega);omega
theorem BI.pg(b:BI x ls S R n)(o:SO w W sb lw x t fr ls S h)(v:fI S){k:Nat}(hk:k<8):vD R n x.bS (aC k) t.m.n=true↔S.pl k=[]:=by
 rw[wS];have hz:=bU hk;have hnb:=dV hk;constructor
 ·intro hh
  cases e:S.pl k with
  | nil=>rfl
  | cons g l=>
   exfalso
   obtain⟨h1,h2⟩:=(o.si.pm k hk g).1 (by rw[e];exact List.mem_cons_self);have h3:=hh g (o.mem h1).2.1;have h4:=b.count o (g:=g) hk;rw[if_pos h1] at h4;have h5 : 0<(S.fl g).length:=List.length_pos_iff.2 h2;have h6:=v g k h1;rw[show x.bS+4096*g=ad x g from rfl,h4] at h3;refine h3 ⟨Nat.mul_pos (by omega) (by omega),?_⟩;have h7:(aH k-(S.fl g).length+1)*aC k<=aH k*aC k:=Nat.mul_le_mul_right _ (by omega);rw[hnb.1,Nat.add_mul,Nat.one_mul] at h7;omega
 ·rintro hp g hg ⟨h1,h2⟩;have h4:=b.count o (g:=g) hk;rw[show x.bS+4096*g=ad x g from rfl,h4] at h1 h2;by_cases e:S.c g=some k
  ·rw[if_pos e] at h1 h2;have h3:S.fl g≠[]:=fun e2=>by
    rw[e2,List.length_nil,Nat.sub_zero,hnb.1] at h2;omega
   have:=(o.si.pm k hk g).2 ⟨e,h3⟩;rw[hp] at this
   cases this
  ·rw[if_neg e] at h1;omega
end
theorem qE{x x':Bx}(hb:x'.bS=x.bS){ls:List (Nat×Nat)}{S:Sb}{p s:Nat} : aG x' ls S p s↔aG x ls S p s:=by
 unfold aG jB aO ad;rw[hb]
section
variable {w W:World} {sb lw:Nat} {x:Bx} {t:Bt} {fr:Nat->List Nat} {ls:List (Nat×Nat)} {S:Sb} {h:Nat->Int} {R:Nat->Bk} {n:Nat}
variable {w2 W2:World} {sb2 lw2:Nat} {x':Bx} {t':Bt} {fr':Nat->List Nat} {ls':List (Nat×Nat)} {S':Sb} {h':Nat->Int}
theorem SO.cell_ne(o:SO w W sb lw x t fr ls S h){g k i g' k' i':Nat}(h1:S.c g=some k)(h2:i<aH k)(h3:S.c g'=some k')(h4:i'<aH k')(e:aO x g k i=aO x g' k' i'):g=g'/\k=k'/\i=i':=by
 have hk:=(o.si.pg g k h1).1;have hk':=(o.si.pg g' k' h3).1;have hm:=o.mem h1;have hm':=o.mem h3;have n4:=o.po.nums.2.2.2.1;have hc:=fQ (x:=x) (p:=g) hk h2 (by omega);have hc':=fQ (x:=x) (p:=g') hk' h4 (by omega);have hz:=bU hk;have hz':=bU hk';unfold aO at e;have e1:g=g':=by omega
 subst e1;rw[h1] at h3;injection h3 with h3
 subst h3;refine⟨rfl,rfl,?_⟩;have:i*aC k=i'*aC k:=by omega
 exact Nat.eq_of_mul_eq_mul_right (by omega) this
theorem SO.free_no(o:SO w W sb lw x t fr ls S h){p k i:Nat}(hc:S.c p=some k)(hi:i∈S.fl p)(s:Nat):¬aG x ls S (aO x p k i) s:=by
 have hib:=(o.si.fl p k hc).2.1 i hi;rintro (⟨g,k',i',⟨h1,h2,h3,h4⟩,_⟩|⟨q,j,h1,h2,h3,_⟩)
 ·obtain⟨rfl,rfl,rfl⟩:=o.cell_ne hc hib h1 h2 h4;exact h3 hi
 ·have hk:=(o.si.pg p k hc).1;have hm:=o.mem hc;have n4:=o.po.nums.2.2.2.1;have hcc:=fQ (x:=x) (p:=p) hk hib (by omega);have hz:=bU hk;have hzz : 0<2 ^ j:=Nat.pow_pos (by decide);unfold aO ad at h3;rcases o.apart hm.1 h1 with ⟨e,_⟩|e|e
  ·rw[<-e,hc] at h2;cases h2
  ·omega
  ·omega
theorem VA(o:SO w W sb lw x t fr ls S h){p k i:Nat}{r:List Nat}(hc:S.c p=some k)(hf:S.fl p=i :: r)(a s:Nat):aG x ls (bC S p k r) a s↔aG x ls S a s\/(a=aO x p k i/\s=aC k):=by
 obtain⟨n1,n2,_⟩:=o.si.fl p k hc;rw[hf,List.nodup_cons] at n1;have hib:=n2 i (by rw[hf];exact List.mem_cons_self);constructor
 ·rintro (⟨g,k',i',⟨h1,h2,h3,h4⟩,h5⟩|⟨q,j,h1,h2,h3,h4⟩)
  ·replace h1:S.c g=some k':=h1;replace h3:i' ∉ aV S.fl p r g:=h3;by_cases e:g=p
   ·subst e;rw[hc] at h1;injection h1 with h1
    subst h1;rw[bX] at h3;by_cases e2:i'=i
    ·subst e2;exact .inr ⟨h4,h5⟩
    ·refine .inl (.inl ⟨g,k,i',⟨hc,h2,?_,h4⟩,h5⟩);rw[hf,List.mem_cons,not_or];exact⟨e2,h3⟩
   ·rw[bY _ _ e] at h3;exact .inl (.inl ⟨g,k',i',⟨h1,h2,h3,h4⟩,h5⟩)
  ·exact .inl (.inr ⟨q,j,h1,h2,h3,h4⟩)
 ·rintro ((⟨g,k',i',⟨h1,h2,h3,h4⟩,h5⟩|⟨q,j,h1,h2,h3,h4⟩)|⟨rfl,rfl⟩)
  ·refine .inl ⟨g,k',i',⟨h1,h2,?_,h4⟩,h5⟩;show i' ∉ aV S.fl p r g
   by_cases e:g=p
   ·subst e;rw[bX];rw[hf,List.mem_cons,not_or] at h3;exact h3.2
   ·rw[bY _ _ e];exact h3
  ·exact .inr ⟨q,j,h1,h2,h3,h4⟩
  ·refine .inl ⟨p,k,i,⟨hc,hib,?_,rfl⟩,rfl⟩;show i ∉ aV S.fl p r p
   rw[bX];exact n1.1
theorem UZ{p k:Nat}(hk:k<8)(hc:S.c p=none)(hn:∀ i,(p,i) ∉ ls)(a s:Nat):aG x (ls ++ [(p,0)]) (bC (bL S p k) p k (List.range' 1 (aH k-1))) a s↔aG x ls S a s\/(a=aO x p k 0/\s=aC k):=by
 have hnb:=dV hk;constructor
 ·rintro (⟨g,k',i',⟨h1,h2,h3,h4⟩,h5⟩|⟨q,j,h1,h2,h3,h4⟩)
  ·replace h1:aV S.c p (some k) g=some k':=h1;replace h3:i' ∉ aV (aV S.fl p (List.range' 0 (aH k))) p (List.range' 1 (aH k-1)) g:=h3;by_cases e:g=p
   ·subst e;rw[bX] at h1 h3;injection h1 with h1
    subst h1;have e2:i'=0:=by
     rcases Nat.eq_zero_or_pos i' with e2|e2
     ·exact e2
     ·exact absurd (List.mem_range'_1.2 ⟨e2,by omega⟩) h3
    subst e2;exact .inr ⟨h4,h5⟩
   ·rw[bY _ _ e] at h1;rw[bY _ _ e,bY _ _ e] at h3;exact .inl (.inl ⟨g,k',i',⟨h1,h2,h3,h4⟩,h5⟩)
  ·replace h2:aV S.c p (some k) q=none:=h2;have e:q≠p:=fun e=>by rw[e,bX] at h2;cases h2
   rw[bY _ _ e] at h2;refine .inl (.inr ⟨q,j,?_,h2,h3,h4⟩);rcases List.mem_append.1 h1 with h1|h1
   ·exact h1
   ·rw[List.mem_singleton] at h1;injection h1 with h1
    exact absurd h1 e
 ·rintro ((⟨g,k',i',⟨h1,h2,h3,h4⟩,h5⟩|⟨q,j,h1,h2,h3,h4⟩)|⟨rfl,rfl⟩)
  ·have e:g≠p:=fun e=>by rw[e,hc] at h1;cases h1
   refine .inl ⟨g,k',i',⟨?_,h2,?_,h4⟩,h5⟩
   ·show aV S.c p (some k) g=some k'
    rw[bY _ _ e];exact h1
   ·show i' ∉ aV (aV S.fl p (List.range' 0 (aH k))) p (List.range' 1 (aH k-1)) g
    rw[bY _ _ e,bY _ _ e];exact h3
  ·have e:q≠p:=fun e=>hn j (e▸h1)
   refine .inr ⟨q,j,List.mem_append_left _ h1,?_,h3,h4⟩;show aV S.c p (some k) q=none
   rw[bY _ _ e];exact h2
  ·refine .inl ⟨p,k,0,⟨bX _ _ _,by omega,?_,rfl⟩,rfl⟩;show 0 ∉ aV (aV S.fl p (List.range' 0 (aH k))) p (List.range' 1 (aH k-1)) p
   rw[bX,List.mem_range'_1];omega
theorem ZJ(o:SO w W sb lw x t fr ls S h){p k i:Nat}(hv:jB x S (aO x p k i) p k i)(a s:Nat):aG x ls (bH S p k i) a s↔aG x ls S a s/\a≠aO x p k i:=by
 obtain⟨hc,hi,hn,_⟩:=hv;constructor
 ·rintro (⟨g,k',i',⟨h1,h2,h3,h4⟩,h5⟩|⟨q,j,h1,h2,h3,h4⟩)
  ·replace h1:S.c g=some k':=h1;replace h3:i' ∉ aV S.fl p (i :: S.fl p) g:=h3;have h6:i' ∉ S.fl g:=by
    by_cases e:g=p
    ·subst e;rw[bX,List.mem_cons,not_or] at h3;exact h3.2
    ·rw[bY _ _ e] at h3;exact h3
   refine⟨.inl ⟨g,k',i',⟨h1,h2,h6,h4⟩,h5⟩,fun e=>?_⟩;rw[h4] at e;obtain⟨rfl,rfl,rfl⟩:=o.cell_ne h1 h2 hc hi e;rw[bX,List.mem_cons,not_or] at h3;exact h3.1 rfl
  ·have hl:aG x ls S a s:=.inr ⟨q,j,h1,h2,h3,h4⟩;refine⟨hl,fun e=>?_⟩;have hk:=(o.si.pg p k hc).1;have hz:=bU hk;have hj : 0<2 ^ j:=Nat.pow_pos (by decide);rcases o.two hl (.inl ⟨p,k,i,⟨hc,hi,hn,rfl⟩,rfl⟩)with ⟨_,e2⟩|e2|e2 <;> omega
 ·rintro ⟨⟨g,k',i',⟨h1,h2,h3,h4⟩,h5⟩|⟨q,j,h1,h2,h3,h4⟩,h6⟩
  ·refine .inl ⟨g,k',i',⟨h1,h2,?_,h4⟩,h5⟩;show i' ∉ aV S.fl p (i :: S.fl p) g
   by_cases e:g=p
   ·subst e;rw[hc] at h1;injection h1 with h1
    subst h1;rw[bX,List.mem_cons,not_or];exact⟨fun e=>h6 (by rw[h4,e]),h3⟩
   ·rw[bY _ _ e];exact h3
  ·exact .inr ⟨q,j,h1,h2,h3,h4⟩
theorem UY(o:SO w W sb lw x t fr ls S h){p k i:Nat}(hv:jB x S (aO x p k i) p k i)(hl:(S.fl p).length+1=aH k)(a s:Nat):aG x (dW ls p) (cK S p k) a s↔aG x ls S a s/\a≠aO x p k i:=by
 obtain⟨hc,hi,hn,_⟩:=hv;obtain⟨n1,n2,_⟩:=o.si.fl p k hc;constructor
 ·rintro (⟨g,k',i',⟨h1,h2,h3,h4⟩,h5⟩|⟨q,j,h1,h2,h3,h4⟩)
  ·replace h1:aV S.c p none g=some k':=h1;have e:g≠p:=fun e=>by rw[e,bX] at h1;cases h1
   rw[bY _ _ e] at h1;refine⟨.inl ⟨g,k',i',⟨h1,h2,h3,h4⟩,h5⟩,fun e2=>?_⟩;rw[h4] at e2;exact e (o.cell_ne h1 h2 hc hi e2).1
  ·obtain⟨h1,h7⟩:=List.mem_filter.1 h1;have h7:q≠p:=of_decide_eq_true h7;replace h2:aV S.c p none q=none:=h2;rw[bY _ _ h7] at h2;have hl2:aG x ls S a s:=.inr ⟨q,j,h1,h2,h3,h4⟩;refine⟨hl2,fun e=>?_⟩;have hk:=(o.si.pg p k hc).1;have hz:=bU hk;have hj : 0<2 ^ j:=Nat.pow_pos (by decide);rcases o.two hl2 (.inl ⟨p,k,i,⟨hc,hi,hn,rfl⟩,rfl⟩)with ⟨_,e2⟩|e2|e2 <;> omega
 ·rintro ⟨⟨g,k',i',⟨h1,h2,h3,h4⟩,h5⟩|⟨q,j,h1,h2,h3,h4⟩,h6⟩
  ·have e:g≠p:=fun e=>by
    subst e;rw[hc] at h1;injection h1 with h1
    subst h1;have e2:i'≠i:=fun e=>h6 (by rw[h4,e])
    have h7:=oJ (aH k) (i' :: i :: S.fl g) (by
     rw[List.nodup_cons,List.nodup_cons,List.mem_cons,not_or];exact⟨⟨e2,h3⟩,hn,n1⟩) (fun c hcc=>by
     rcases List.mem_cons.1 hcc with rfl|hcc
     ·exact h2
     ·rcases List.mem_cons.1 hcc with rfl|hcc
      ·exact hi
      ·exact n2 c hcc)
    rw[List.length_cons,List.length_cons] at h7;omega
   refine .inl ⟨g,k',i',⟨?_,h2,h3,h4⟩,h5⟩;show aV S.c p none g=some k'
   rw[bY _ _ e];exact h1
  ·have e:q≠p:=fun e=>by rw[e,hc] at h2;cases h2
   refine .inr ⟨q,j,List.mem_filter.2 ⟨h1,decide_eq_true e⟩,?_,h3,h4⟩;show aV S.c p none q=none
   rw[bY _ _ e];exact h2
theorem FU{p k:Nat}(hc:S.c p=none)(a s:Nat):aG x (ls ++ [(p,k)]) S a s↔aG x ls S a s\/(a=ad x p/\s=4096*2 ^ k):=by
 constructor
 ·rintro (h1|⟨q,j,h1,h2,h3,h4⟩)
  ·exact .inl (.inl h1)
  ·rcases List.mem_append.1 h1 with h1|h1
   ·exact .inl (.inr ⟨q,j,h1,h2,h3,h4⟩)
   ·rw[List.mem_singleton] at h1;injection h1 with e1 e2
    subst e1 e2;exact .inr ⟨h3,h4⟩
 ·rintro ((h1|⟨q,j,h1,h2,h3,h4⟩)|⟨h3,h4⟩)
  ·exact .inl h1
  ·exact .inr ⟨q,j,List.mem_append_left _ h1,h2,h3,h4⟩
  ·exact .inr ⟨p,k,List.mem_append_right _ (List.mem_singleton.2 rfl),hc,h3,h4⟩
theorem DQ(o:SO w W sb lw x t fr ls S h){p k:Nat}(hp:(p,k)∈ls)(hc:S.c p=none)(a s:Nat):aG x (dW ls p) S a s↔aG x ls S a s/\a≠ad x p:=by
 constructor
 ·rintro (⟨g,k',i',hv,h5⟩|⟨q,j,h1,h2,h3,h4⟩)
  ·refine⟨.inl ⟨g,k',i',hv,h5⟩,fun e=>?_⟩;have hz:=bU (o.si.pg g k' hv.1).1;have hj : 0<2 ^ k:=Nat.pow_pos (by decide);rcases o.two (.inl ⟨g,k',i',hv,h5⟩) (.inr ⟨p,k,hp,hc,rfl,rfl⟩)with ⟨_,e2⟩|e2|e2 <;> omega
  ·obtain⟨h1,h7⟩:=List.mem_filter.1 h1;have h7:q≠p:=of_decide_eq_true h7;refine⟨.inr ⟨q,j,h1,h2,h3,h4⟩,fun e=>h7 ?_⟩;rw[h3] at e;unfold ad at e;omega
 ·rintro ⟨h1|⟨q,j,h1,h2,h3,h4⟩,h6⟩
  ·exact .inl h1
  ·refine .inr ⟨q,j,List.mem_filter.2 ⟨h1,decide_eq_true fun e=>h6 ?_⟩,h2,h3,h4⟩;have e:q=p:=e;rw[h3,e]
def oA(x:Bx)(ls:List (Nat×Nat))(S:Sb)(j:Nat):Prop:=∃ p s,aG x ls S p s/\p<=x.bS+j/\x.bS+j<p+s
theorem SO.byte(o:SO w W sb lw x t fr ls S h){j:Nat}(hj:oA x ls S j):Lv ls (j/4096):=by
 obtain⟨p,s,h1,h2,h3⟩:=hj;obtain⟨_,q,k,h4,h5,h6⟩:=o.span h1;unfold ad at h5 h6;refine⟨q,k,h4,?_,?_⟩
 ·exact(Nat.le_div_iff_mul_le (by decide)).2 (by omega)
 ·exact(Nat.div_lt_iff_lt_mul (by decide)).2 (by omega)
structure Ch(x:Bx)(t:Bt)(ls:List (Nat×Nat))(S:Sb)(x':Bx)(t':Bt)(ls':List (Nat×Nat))(S':Sb):Prop where
 bS:x'.bS=x.bS
 R:x'.R=x.R
 lim:x'.lim=x.lim
 o:x'.o=x.o
 kb:∀ j,oA x ls S j->oA x' ls' S' j->t'.f j=t.f j
end
end Go.Proofs.YtbgbfpklgfpepaaGreatDoor
