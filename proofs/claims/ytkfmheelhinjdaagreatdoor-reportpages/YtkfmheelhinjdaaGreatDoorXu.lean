import Derived.Test.YtkfmheelhinjdaaGreatDoorXt
import Derived.Test.YtkfmheelhinjdaaGreatDoorXr
import Derived.Conc.MuLone
import Derived.Maps.RangeWalk
set_option maxRecDepth 1000000
set_option maxHeartbeats 80000000
namespace Go.Proofs.YtkfmheelhinjdaaGreatDoor
open Tryz
open Go.RowKit
set_option linter.unusedVariables false
theorem yR{m:Mp}{p i:Nat}{l:Bool}(hp:p<m.n)(hk:(m.pg p).kd=4)(hi:i<eX (m.pg p).cl)(hl:aJ (m.pg p) i=!l):eH m (p:Int) (i:Int) l=0/\cW m (p:Int) (i:Int) l={ m with pg:=aK m.pg p (bY (m.pg p) i) }:=by
 have hc:jA m (p:Int) (i:Int) l=true:=by
  unfold jA nM;rw[Int.toNat_natCast,Int.toNat_natCast,dM hp,decide_eq_true hk,dM hi,hl]
  cases l <;> rfl
 unfold eH cW;rw[if_pos hc,if_pos hc,Int.toNat_natCast,Int.toNat_natCast];exact⟨rfl,rfl⟩
theorem CX{m:Mp}{p:Nat}{c:Int}(hp:p<m.n)(hk:(m.pg p).kd=4)(hc:c = -1\/∃ j:Nat,c=(j:Int)/\j<eX (m.pg p).cl):fO m (p:Int) c={ m with pg:=aK m.pg p { m.pg p with fs:=c } }:=by
 have h:kL m (p:Int) c=true:=by
  unfold kL;rw[Int.toNat_natCast,dM hp,decide_eq_true hk];rcases hc with rfl|⟨j,rfl,hj⟩
  ·rfl
  ·rw[dM hj,Bool.or_true];rfl
 unfold fO;rw[if_pos h,Int.toNat_natCast]
def mD(m:Mp)(p i:Nat)(r:List Nat):Mp:=fO (cW m (p:Int) (i:Int) true) (p:Int) (bE r)
def dW(m:Mp)(p i:Nat)(r:List Nat):Mp:=if r=[] then iJ (mD m p i r) (p:Int) else mD m p i r
def fJ(m:Mp)(h:Nat->Int)(p k i:Nat)(r:List Nat):Nat->Int:=if r=[] then iK (mD m p i r) h (p:Int) k else h
theorem xC{w W sb lw x t fr ls S h}(o:SO w W sb lw x t fr ls S h)(p k i:Nat)(r:List Nat)(hc:S.c p=some k)(hf:S.fl p=i :: r):
  Calls prog 162 #[.pointer (some ⟨sb,0,none⟩),.int .i64 p,.int .i64 k] W fun e w'=>e=.returned (.tuple #[.int .u64 ((aS x p k i:Nat):Int),.int .i64 0])/\SE w W sb lw x t (dW t.m p i r) (fJ t.m h p k i r) w':=by
 obtain⟨hk,sp⟩:=o.si.pg p k hc;obtain⟨nd,lt,lk⟩:=o.si.fl p k hc;have hlv:=o.si.lv p k hc;obtain⟨hls,hpn,hp1,hpb⟩:=o.mem hc;have n4:=o.po.nums.2.2.2.1;rw[hf] at nd lt lk hlv;have hib:i<aI k:=lt i List.mem_cons_self;have hnb:=dQ hk;have hoff:=kM (x:=x) (p:=p) hk hib (by omega);have hin:M.In x.bS x.n (aS x p k i) 8:=by
  have hz:=eC hk;unfold M.In;have e:aS x p k i=x.bS+4096*p+i*aH k:=rfl;omega
 have hao:aS x p k i-x.bS=4096*p+i*aH k:=by
  have e:aS x p k i=x.bS+4096*p+i*aH k:=rfl;omega
 have hcn:eX (t.m.pg p).cl=aI k:=by rw[sp.cl];rfl
 have hlit:aJ (t.m.pg p) i=!true:=by
  rw[sp.bt i (by omega),hf];exact decide_eq_false (fun e=>e.2 List.mem_cons_self)
 obtain⟨hoE,hoM⟩:=yR hpn sp.kd (by rw[hcn];exact hib) hlit;have hnx:∃ nx:Int,nx=bE r/\∀ W',Kt nO W W'->Calls prog 199 #[.pointer (some ⟨sb,0,none⟩),.int .u64 ((aS x p k i:Nat):Int),.int .i64 p] W' fun e w'=>e=.returned (.tuple #[.int .i64 nx,.bool true])/\Kt nO W' w':=by
  cases r with
  | nil=>exact⟨-1,rfl,fun W' kk=>zhN (o.sw.keep kk) _ _ hin (by rw[hao];exact lk.1)⟩
  | cons j r'=>
   have hjb:j<aI k:=lt j (List.mem_cons_of_mem _ List.mem_cons_self);have hj3:=kM (x:=x) (p:=p) hk hjb (by omega);obtain⟨a1,a2,a3,a4⟩:=tL (x:=x) (t:=t) hk hjb (by omega) hpn sp.kd sp.cl;refine⟨(j:Int),rfl,fun W' kk=>?_⟩;have:=zhO (o.sw.keep kk) (aS x p k i) p (aS x p k j) hin (by rw[hao];exact lk.1) (by
    have e:aS x p k j=x.bS+4096*p+j*aH k:=rfl;have:=o.sw.pl.bd.sp.cfg.b1;omega) hj3.2.2 a1 a2
   rw[a4] at this;exact this
 obtain⟨nx,hnx1,hnx2⟩:=hnx;have NX:=aA hnx2;obtain⟨q,hq⟩:=xe (t.m.pg p);have HA:=aA (show Calls prog 72 #[.pointer (some ⟨x.m,0,none⟩),.int .i64 p] W fun e w'=>e=.returned (.tuple #[cE q,.bool true])/\Kt nO W w' from by rw[hq];exact mE x.m x.B t.m p W o.sw.pl.bd.mp hpn);have HM:=aA (cB o.sw.pl);have HC:=aA (show q.cl=(k:Int)from by rw[hq];exact sp.cl);have HF:=aA (show q.fs=(i:Int)from by rw[hq,sp.fs,hf];rfl);obtain⟨lv,hlv2⟩:∃ lv:Nat,q.lv=(lv:Int):=⟨_,by rw[hq];exact sp.lv⟩;have hlvr:lv=aI k-(r.length+1):=by
  have:=sp.lv;rw[<-hq,hlv2,hf] at this;have:=Int.ofNat.inj this;rw[this];rfl
 have HL:=aA hlv2;obtain⟨a,ha⟩:=xe (aS x p k i);have AD:=aA (show ∀ W',Kt nO W W'->Calls prog 198 #[.pointer (some ⟨sb,0,none⟩),.int .i64 p,.int .i64 k,.int .i64 i] W' fun e w'=>e=.returned (.int .u64 a)/\Kt nO W' w' from fun W' kk=>by
  rw[ha];exact YR (o.sw.keep kk) p k i (by omega) hk (by omega))
 rw[<-ha] at NX ⊢;obtain⟨m1,hm1⟩:=xe (cW t.m (p:Int) (i:Int) true);have OW:=aA (show ∀ W',Kt nO W W'->Calls prog 200 #[.pointer (some ⟨x.m,0,none⟩),.int .i64 p,.int .i64 i,.bool true] W' fun e w'=>e=.returned (.int .i64 0)/\SD w W' sb lw x t h m1 w' from fun W' kk=>by
  have:=GM (o.sw.keep kk) (p:Int) (i:Int) true;rw[hoE,<-hm1] at this;exact this)
 have FR:=aA (show ∀ W',SW w W' sb lw x { t with m:=m1 } h->Calls prog 196 #[.pointer (some ⟨x.m,0,none⟩),.int .i64 p,.int .i64 nx] W' fun e w'=>e=.returned (.int .i64 (jQ m1 (p:Int) nx))/\SD w W' sb lw x { t with m:=m1 } h (fO m1 (p:Int) nx) w' from fun W' s=>xU s (p:Int) nx);obtain⟨m2,hm2⟩:=xe (fO m1 (p:Int) nx);have hM2:mD t.m p i r=m2:=by unfold mD;rw[hm2,hm1,hnx1]
 rw[<-hm2] at FR;generalize jQ m1 (p:Int) nx=fe at *;obtain⟨mF,hmF⟩:=xe (dW t.m p i r);obtain⟨hF,hhF⟩:=xe (fJ t.m h p k i r);rw[<-hmF,<-hhF];unfold dW at hmF;unfold fJ at hhF;rw[hM2] at hmF hhF;have HMF:=aA hmF;have HHF:=aA hhF;have HO:=aA o.sw;obtain⟨c0,c1⟩:=o.sw.c0;have hnl2:=hnb.2.2;have CLS:=aA (show ∀ W' tt,SW w W' sb lw x tt h->Calls prog 201 #[.int .i64 k] W' fun e w'=>e=.returned (.int .i64 ((aI k:Nat):Int))/\w'=W' from fun W' tt s=>PR s k hk);obtain⟨N,hN⟩:=xe (aI k);rw[<-hN] at CLS;have HLR:=aA (show lv+1=N↔r=[] from by
  have h9:r.length+1<=aI k:=hlv;have h8:=hnb.2.1;rw[hlvr,hN];constructor
  ·intro e
   cases r with
   | nil=>rfl
   | cons j r'=>
    exfalso
    rw[List.length_cons] at e h9;omega
  ·intro e;rw[e,List.length_nil];omega)
 have hNb:N<=256:=by rw[hN];exact hnl2
 have hlvb:lv<=256:=by omega
 clear o sp nd lt lk hlv hls hpb n4 hf hib hnb hoff hin hao hcn hlit hoE hoM hnx2 hq hlv2 ha hm1 hm2 hM2 hmF hhF hlvr hN hnl2 hpn hc hnx1;go_enter func162,ntmps162;go_wp2_with fail;refine HM.out.mono ?_;rintro e w1 ⟨rfl,h1⟩;replace h1:=h1.symm;subst h1;go_wp2_with fail;refine HA.out.mono ?_;rintro e w2 ⟨rfl,hk2⟩;have K2:=aA (hk2.alloc (aM q));have X2:=aA (nH w2 (aM q));have S2:=aA (HO.out.keep K2.out);have NY:=aA (show ¬(aC x w2.heap.size\/w2.heap.size=sb)from fun e=>by
  rcases e with e|e
  ·exact absurd ((HO.out.keep hk2).pl.lt _ (.inl e)) (Nat.lt_irrefl _)
  ·have:=lH (HO.out.keep hk2).bx;omega)
 clear hk2 c0 c1;go_upto_region 2 with fail;generalize w2.heap.size=y at *;generalize w2.alloc (aM q)=W2 at *;have PQ:=aA (show ∀ W':World,W'.heap[y]?=some (aM q)->W'.cell? ⟨y,2,none⟩=some (.int .i64 k)/\W'.cell? ⟨y,3,none⟩=some (.int .i64 lv)/\W'.cell? ⟨y,6,none⟩=some (.int .i64 i)from fun W' hW=>by
  obtain⟨_,_,p2,p3,_,_,p6,_⟩:=fI hW;rw[HC.out] at p2;rw[HL.out] at p3;rw[HF.out] at p6;exact⟨p2,p3,p6⟩)
 obtain⟨p2,p3,p6⟩:=PQ.out _ X2.out;obtain⟨c0,c1⟩:=S2.out.c0;go_wp2_with fail;refine(AD.out _ K2.out).mono ?_;rintro e w3 ⟨rfl,hk3⟩;have K3:=aA (nT K2.out hk3);have X3:=aA ((hk3.block _ (lH X2.out) id).trans X2.out);clear hk3 c0 c1 p2 p3 p6;go_wp2_with fail;refine(NX.out _ K3.out).mono ?_;rintro e w4 ⟨rfl,hk4⟩;have K4:=aA (nT K3.out hk4);have X4:=aA ((hk4.block _ (lH X3.out) id).trans X3.out);have S4:=aA (HO.out.keep K4.out);clear hk4;go_upto_region 6 with fail;have KD:=aA ((Kt.refl nO w4).drew);have K5:=aA (nT K4.out KD.out);have S5:=aA (HO.out.keep K5.out);have X5:=aA ((KD.out.block _ (lH X4.out) id).trans X4.out);have MP:=aA (cB S5.out.pl);obtain⟨p2,p3,p6⟩:=PQ.out _ X5.out;obtain⟨c0,c1⟩:=S5.out.c0;go_region_held3 (fun w'=>w'.cell? ⟨sb,0,none⟩=some (.pointer (some ⟨lw,0,none⟩))/\w'.cell? ⟨y,6,none⟩=some (.int .i64 i)) ((refine⟨?_,?_⟩ <;> first|with_reducible assumption|fail)) (first
  | (go_at_call 200;(with_reducible refine(OW.out _ K5.out).mono ?_);rintro e w6 ⟨rfl,hs6,hk6⟩;obtain⟨f0,f1⟩:=hs6.c0;have X6:=aA ((hk6.block _ (lH X5.out) (fun e=>NY.out (.inl e))).trans X5.out);obtain⟨f2,f3,f6⟩:=PQ.out _ X6.out;have S6:=aA hs6;have K6:=aA (K5.out.trans hk6 (fun _ _ e=>e.elim) (fun _ _ e=>e));clear hs6 hk6)
  | (go_at_call 45;(with_reducible refine MP.out.mono ?_);rintro e w5 ⟨rfl,h5⟩;replace h5:=h5.symm;subst h5)
  | fail)
 all_goals
  clear p2 p3 p6 c0 c1 f2 f3 f6;have MP6:=aA (cB S6.out.pl);go_wp2_with fail;refine MP6.out.mono ?_;rintro e w7 ⟨rfl,h7⟩;replace h7:=h7.symm;subst h7;go_wp2_with fail;refine(FR.out _ S6.out).mono ?_;rintro e w7 ⟨rfl,hs7,hk7⟩;have S7:=aA hs7;have K7:=aA (K6.out.trans hk7 (fun _ _ e=>e) (fun _ _ e=>e));have X7:=aA ((hk7.block _ (lH X6.out) (fun e=>NY.out (.inl e))).trans X6.out);clear hs7 hk7 f0 f1;go_upto_region 9 with fail;obtain⟨p2,p3,p6⟩:=PQ.out _ X7.out;have KD7:=aA ((Kt.refl nO w7).drew);have X8:=aA ((KD7.out.block _ (lH X7.out) id).trans X7.out);obtain⟨q2,q3,q6⟩:=PQ.out _ X8.out;obtain⟨l1,hl1⟩:=xe (lv+1);have hl1i:(lv:Int)+1=(l1:Int):=by omega
  have hl1b:l1<=257:=by omega
  have hlw:IntKind.i64.wrap (l1:Int)=l1:=by rw[IntKind.wrap_i64];omega
  have HL1:=aA hl1;clear hl1;have CL:=aA (CLS.out _ _ (S7.out.keep KD7.out));go_region_held3 (fun w'=>w'.cell? ⟨y,3,none⟩=some (.int .i64 lv)) (first|with_reducible assumption|fail) (first
   | (go_at_call 201;(with_reducible refine CL.out.mono ?_);rintro e w8 ⟨rfl,h8⟩;replace h8:=h8.symm;subst h8)
   | fail)
  all_goals
   have S8:=aA (S7.out.keep KD7.out);have K8:=aA (K7.out.trans KD7.out (fun _ _ e=>e) (fun _ _ e=>e.elim));clear p2 p3 p6 q2 q3 q6 CL;by_cases hr:r=[]
   ·have hb:((l1:Int) == (N:Int))=true:=by
     rw[beq_iff_eq,HL1.out];have:=HLR.out.2 hr;omega
    have UL:=aA (show Calls prog 202 #[.pointer (some ⟨sb,0,none⟩),.int .i64 p,.int .i64 k] w7.drew fun e w'=>e=.returned (.tuple #[])/\SE w w7.drew sb lw x t mF hF w' from by
     have:=VB S8.out (p:Int) k hk;rw[HMF.out,HHF.out,if_pos hr,if_pos hr];exact this)
    generalize w7.drew=W8 at *;as_aux_lemma=>
     go_wp2_with fail;refine UL.out.mono ?_;rintro e w9 ⟨rfl,hs9,hk9⟩;have D:=aA (show SE w W sb lw x t mF hF w9 from⟨hs9,(K8.out.mono (fun _ _ e=>.inl e)).trans hk9 (fun _ _ e=>e) (fun _ _ e=>e)⟩);clear hs9 hk9;go_wp2_with fail;exact⟨rfl,.tuple #[.int .u64 a,.int .i64 0],by simp[results,results162,go_sem],rfl,D.out⟩
   ·have hb:((l1:Int) == (N:Int))=false:=by
     rw[beq_eq_false_iff_ne,HL1.out];intro e;exact hr (HLR.out.1 (by omega))
    have D:=aA (show SE w W sb lw x t mF hF w7.drew from by
     rw[HMF.out,HHF.out,if_neg hr,if_neg hr];exact⟨S8.out,K8.out.mono (fun _ _ e=>.inl e)⟩)
    generalize w7.drew=W8 at *;as_aux_lemma=>
     go_wp2_with fail;exact⟨rfl,.tuple #[.int .u64 a,.int .i64 0],by simp[results,results162,go_sem],rfl,D.out⟩
theorem sT(x r:Nat):(x/2 ^ r%2 == 1)=x.testBit r:=by
 rw[Nat.testBit_eq_decide_div_mod_eq];rfl
theorem VV(p:Pg)(c j:Nat)(hc:c<256)(hj:j<256):aJ (dY p c) j=(if j=c then !aJ p c else aJ p j):=by
 have key:∀ x:Nat,∀ s r:Nat,(x ^^^ 2 ^ r).testBit s=(if s=r then !x.testBit s else x.testBit s):=fun x s r=>by
  rw[Nat.testBit_xor,Nat.testBit_two_pow];by_cases e:s=r
  ·subst e;simp
  ·have e':¬r=s:=fun h=>e h.symm
   simp[e,e']
 have two:∀ a b:Nat,a/64=b/64->(a%64=b%64↔a=b):=fun a b h=>by omega
 unfold aJ;rw[sT,sT,sT];rcases sN hc with h|h|h|h <;> rcases sN hj with g|g|g|g <;> simp only[dY,h,g,wP] <;> first
  |(
   rw[key];by_cases e:j=c
   ·subst e;simp
   ·have e2:¬j%64=c%64:=fun e3=>e ((two j c (by omega)).1 e3)
    simp[e,e2])
  | (rw[if_neg (by omega)])
theorem QX(p:Pg)(c j:Nat)(hc:c<256)(hj:j<256):aJ (bY p c) j=(if j=c then !aJ p c else aJ p j):=by
 rw[<-VV p c j hc hj];unfold aJ bY;unfold wP;rfl
def aX{α : Type}(f:Nat->α)(p:Nat)(v : α):Nat->α:=fun r=>if r=p then v else f r
theorem dA{α : Type}(f:Nat->α)(p:Nat)(v : α):aX f p v p=v:=if_pos rfl
theorem cY{α : Type}(f:Nat->α){p r:Nat}(v : α)(h:r≠p):aX f p v r=f r:=if_neg h
structure SlQ(S:Sb)(p k:Nat)(q:Pg):Prop where
 kd:q.kd=4
 od:q.od=0
 cl:q.cl=(k:Int)
 lv:q.lv=((aI k-(S.fl p).length:Nat):Int)
 fs:q.fs=bE (S.fl p)
 bt:∀ i,i<256->aJ q i=decide (i<aI k/\i ∉ S.fl p)
theorem SlP.q{S p k q}(h:SlP S p k q):SlQ S p k q:=⟨h.kd,h.od,h.cl,h.lv,h.fs,h.bt⟩
theorem SlQ.p{S p k q}(h:SlQ S p k q)(n:q.nx=bD (S.pl k) p)(v:q.pv=bI (S.pl k) p):SlP S p k q:=⟨h.kd,h.od,h.cl,h.lv,n,v,h.fs,h.bt⟩
theorem BG{q q':Pg}(h0:q'.b0=q.b0)(h1:q'.b1=q.b1)(h2:q'.b2=q.b2)(h3:q'.b3=q.b3)(i:Nat):aJ q' i=aJ q i:=by
 unfold aJ;have:wP q' (i/64)=wP q (i/64):=by
  unfold wP;split <;> assumption
 rw[this]
theorem SlQ.rst{S p k q q'}(h:SlQ S p k q)(r:vZ q q'):SlQ S p k q':=by
 obtain⟨a,b,rfl⟩:=r;exact⟨h.kd,h.od,h.cl,h.lv,h.fs,fun i hi=>(BG rfl rfl rfl rfl i).trans (h.bt i hi)⟩
theorem SlQ.congr{S S' p k q}(h:SlQ S p k q)(e:S'.fl p=S.fl p):SlQ S' p k q:=⟨h.kd,h.od,h.cl,by rw[e];exact h.lv,by rw[e];exact h.fs,fun i hi=>by rw[e];exact h.bt i hi⟩
theorem oZ{x:Bx}{P:Nat->Option Pg}{f:Nat->Nat}{p k:Nat} : ∀ {l:List Nat},mC x f p k l->mC { x with P:=P } f p k l
 | [],_=>trivial
 | i :: l,h=>⟨by
   rw[h.1]
   cases l <;> rfl,oZ h.2⟩
theorem zC{pg:Nat->Pg}{l:List Nat}{p r:Nat}(hd:l.Nodup)(hr:r≠p)(hl:r ∉ l):fG pg l p r=pg r:=by
 unfold fG;rw[if_neg hr,if_neg,if_neg]
 ·intro e;rcases lV l p hd with h|⟨b,h,hb,_⟩
  ·omega
  ·exact hl (by rw[show r=b by omega];exact hb)
 ·intro e;rcases mP l p hd with h|⟨b,h,hb,_⟩
  ·omega
  ·exact hl (by rw[show r=b by omega];exact hb)
theorem uW{pg:Nat->Pg}{l:List Nat}{p r:Nat}(hr:r≠p)(hl:r ∉ l):eG pg l p r=pg r:=by
 unfold eG;rw[if_neg hr,if_neg (fun e=>hl (nP e.symm))]
def aR(S:Sb)(p k:Nat)(r:List Nat):Sb:={ S with fl:=aX S.fl p r,pl:=if r=[] then aX S.pl k (M.dropL (S.pl k) p) else S.pl }
theorem YB{S:Sb}{p k i:Nat}{r:List Nat}{q:Pg}(hk:k<8)(h:SlP S p k q)(hf:S.fl p=i :: r)(nd:(S.fl p).Nodup)(hi:i<aI k)(hl:(S.fl p).length<=aI k):
  SlQ (aR S p k r) p k { bY q i with fs:=bE r }/\({ bY q i with fs:=bE r } : Pg).nx=q.nx/\({ bY q i with fs:=bE r } : Pg).pv=q.pv:=by
 obtain⟨t1,t2,t3,t4,t5,t6,t7⟩:=uU q i;have hnb:=dQ hk;have hlit:aJ q i=false:=by
  rw[h.bt i (by omega),hf];exact decide_eq_false (fun e=>e.2 List.mem_cons_self)
 rw[hf] at nd hl;have hni:i ∉ r:=(List.nodup_cons.1 nd).1;have hfl:(aR S p k r).fl p=r:=dA _ _ _;rw[List.length_cons] at hl;refine⟨⟨t1.trans h.kd,t2.trans h.od,t3.trans h.cl,?_,by rw[hfl],fun j hj=>?_⟩,t5,t6⟩
 ·show wrap64 (if aJ q i=true then q.lv-1 else q.lv+1)=_
  rw[hlit,if_neg (by decide),h.lv,hfl,hf,List.length_cons];unfold wrap64;omega
 ·have e1:aJ { bY q i with fs:=bE r } j=aJ (bY q i) j:=BG rfl rfl rfl rfl j;rw[e1,QX q i j (by omega) hj,hfl];by_cases e:j=i
  ·rw[if_pos e,hlit];symm;exact decide_eq_true ⟨by omega,by rw[e];exact hni⟩
  ·rw[if_neg e,h.bt j hj,hf];apply decide_eq_decide.2
   rw[List.mem_cons,not_or];exact⟨fun h=>⟨h.1,h.2.2⟩,fun h=>⟨h.1,e,h.2⟩⟩
theorem YA{m:Mp}{p i k:Nat}{r:List Nat}(hp:p<m.n)(hkd:(m.pg p).kd=4)(hcl:(m.pg p).cl=(k:Int))(hi:i<aI k)(hlit:aJ (m.pg p) i=false)(hr:∀ j∈r,j<aI k):mD m p i r={ m with pg:=aK m.pg p { bY (m.pg p) i with fs:=bE r } }:=by
 have hcn:eX (m.pg p).cl=aI k:=by rw[hcl];rfl
 unfold mD;rw[(yR hp hkd (by rw[hcn];exact hi) (by rw[hlit];rfl)).2];obtain⟨t1,t2,t3,_⟩:=uU (m.pg p) i;have e1:aK m.pg p (bY (m.pg p) i) p=bY (m.pg p) i:=if_pos rfl;rw[CX (m:={ m with pg:=aK m.pg p (bY (m.pg p) i) }) hp (by show(aK m.pg p _ p).kd=4;rw[e1];exact t1.trans hkd) (by
  rcases pT r with e|⟨j,e,hj⟩
  ·exact .inl e
  ·refine .inr ⟨j,e,?_⟩;show j<eX (aK m.pg p _ p).cl
   rw[e1,show(bY (m.pg p) i).cl=(m.pg p).cl from t3,hcn];exact hr j hj)]
 show({ m with pg:=aK (aK m.pg p (bY (m.pg p) i)) p { aK m.pg p (bY (m.pg p) i) p with fs:=bE r } } : Mp)=_
 rw[e1];refine congrArg (fun g=>({ m with pg:=g } : Mp)) (funext fun a=>?_);unfold aK;by_cases e:a=p
 ·rw[if_pos e,if_pos e]
 ·rw[if_neg e,if_neg e,if_neg e]
theorem SO.hand{w W sb lw x t fr ls S h w'}(o:SO w W sb lw x t fr ls S h){p k i:Nat}{r:List Nat}(hc:S.c p=some k)(hf:S.fl p=i :: r)(se:SE w W sb lw x t (dW t.m p i r) (fJ t.m h p k i r) w'):
  SO w w' sb lw { x with P:=jG (aR S p k r) (dW t.m p i r) } { t with m:=dW t.m p i r } fr ls (aR S p k r) (fJ t.m h p k i r):=by
 obtain⟨hk,sp⟩:=o.si.pg p k hc;obtain⟨nd,lt,lk⟩:=o.si.fl p k hc;have hlv:=o.si.lv p k hc;obtain⟨hls,hpn,_⟩:=o.mem hc;have hnb:=dQ hk;have hib:i<aI k:=lt i (by rw[hf];exact List.mem_cons_self);have hlit:aJ (t.m.pg p) i=false:=by
  rw[sp.bt i (by omega),hf];exact decide_eq_false (fun e=>e.2 List.mem_cons_self)
 have e2:=YA (r:=r) hpn sp.kd sp.cl hib hlit (fun j hj=>lt j (by rw[hf];exact List.mem_cons_of_mem _ hj));obtain⟨q2,q2n,q2v⟩:=YB hk sp hf nd hib hlv;generalize hq2:({ bY (t.m.pg p) i with fs:=bE r } : Pg)=Q2 at *;have hpl:p∈S.pl k:=(o.si.pm k hk p).2 ⟨hc,by rw[hf];exact List.cons_ne_nil _ _⟩;have hln:(S.pl k).Nodup:=o.si.pn k hk
 have pg2:∀ a c,S.c a=some c->SlQ (aR S p k r) a c (aK t.m.pg p Q2 a)/\(aK t.m.pg p Q2 a).nx=bD (S.pl c) a/\(aK t.m.pg p Q2 a).pv=bI (S.pl c) a:=fun a c ha=>by
  obtain⟨hc8,sa⟩:=o.si.pg a c ha;unfold aK;by_cases e:a=p
  ·subst e;rw[hc] at ha
   cases ha
   rw[if_pos rfl,q2n,q2v];exact⟨q2,sp.nx,sp.pv⟩
  ·rw[if_neg e];exact⟨sa.q.congr (cY _ _ e),sa.nx,sa.pv⟩
 have hout2:∀ a,S.c a=none->aK t.m.pg p Q2 a=t.m.pg a:=fun a ha=>by
  unfold aK;rw[if_neg];intro e;rw[e,hc] at ha
  cases ha
 -- the pages in the end
 obtain⟨pgF,hpgF,hF1,hF2,hF3,hF4⟩:∃ pgF:Nat->Pg,dW t.m p i r={ t.m with pg:=pgF }/\(∀ a,S.c a=none->pgF a=t.m.pg a)/\(∀ a c,S.c a=some c->SlQ (aR S p k r) a c (pgF a)/\(pgF a).nx=bD ((aR S p k r).pl c) a/\(pgF a).pv=bI ((aR S p k r).pl c) a)/\(∀ c,c<8->fJ t.m h p k i r c=bE ((aR S p k r).pl c))/\True:=by
  by_cases hr:r=[]
  ·have hU:=FN (m:={ t.m with pg:=aK t.m.pg p Q2 }) (h:=h) (c:=k) hln hpl (fun a ha=>by
    have hca:=((o.si.pm k hk a).1 ha).1;obtain⟨h1,h2,h3⟩:=pg2 a k hca;exact⟨(o.mem hca).2.1,h1.kd,h2,h3⟩)
   have ePl:(aR S p k r).pl=aX S.pl k (M.dropL (S.pl k) p):=(by unfold aR;rw[if_pos hr]);have np:NP (aK t.m.pg p Q2) S k (S.pl k):=fun a ha=>(pg2 a k ha).2
   have np2:=FK np hln hpl;refine⟨fG (aK t.m.pg p Q2) (S.pl k) p,?_,fun a ha=>?_,fun a c ha=>?_,fun c hc8=>?_,trivial⟩
   ·unfold dW;rw[if_pos hr,e2,hU.1]
   ·have hap:a≠p:=fun e=>by rw[e,hc] at ha;cases ha
    have hal:a ∉ S.pl k:=fun e=>by rw[((o.si.pm k hk a).1 e).1] at ha;cases ha
    rw[zC hln hap hal];exact hout2 a ha
   ·obtain⟨h1,h2,h3⟩:=pg2 a c ha;refine⟨h1.rst (VC _ _ _ _),?_⟩;rw[ePl];by_cases e:c=k
    ·subst e;rw[dA];exact np2 a ha
    ·rw[cY _ _ e];have hap:a≠p:=fun e3=>by rw[e3,hc] at ha;cases ha;exact e rfl
     have hal:a ∉ S.pl k:=fun e3=>by rw[((o.si.pm k hk a).1 e3).1] at ha;cases ha;exact e rfl
     rw[zC hln hap hal];exact⟨h2,h3⟩
   ·unfold fJ;rw[if_pos hr,e2,hU.2,ePl];by_cases e:c=k
    ·subst e;rw[dA,uE hln hpl];by_cases e3:bI (S.pl c) p = -1
     ·rw[if_pos e3,if_pos e3];exact if_pos rfl
     ·rw[if_neg e3,if_neg e3];exact o.hd c hc8
    ·rw[cY _ _ e];by_cases e3:bI (S.pl k) p = -1
     ·rw[if_pos e3];exact(if_neg e).trans (o.hd c hc8)
     ·rw[if_neg e3];exact o.hd c hc8
  ·have ePl:(aR S p k r).pl=S.pl:=(by unfold aR;rw[if_neg hr]);refine⟨aK t.m.pg p Q2,?_,hout2,fun a c ha=>?_,fun c hc8=>?_,trivial⟩
   ·unfold dW;rw[if_neg hr,e2]
   ·rw[ePl];exact pg2 a c ha
   ·unfold fJ;rw[if_neg hr,ePl];exact o.hd c hc8
 have hsw:=se.1;rw[hpgF] at hsw ⊢;have hfl:∀ a c,S.c a=some c->((aR S p k r).fl a=r/\a=p)\/((aR S p k r).fl a=S.fl a/\a≠p):=fun a c ha=>by
  by_cases e:a=p
  ·exact .inl ⟨by rw[e];exact dA _ _ _,e⟩
  ·exact .inr ⟨cY _ _ e,e⟩
 refine⟨hsw.reP _,o.sf.repaint S (aR S p k r) o.si.eP { t.m with pg:=pgF } rfl rfl rfl (fun a ha=>?_) (fun a c ha=>⟨(hF2 a c ha).1.kd,(o.mem ha).1⟩),o.st,o.bm,⟨rfl,fun a c ha=>⟨(o.si.pg a c ha).1,(hF2 a c ha).1.p (hF2 a c ha).2.1 (hF2 a c ha).2.2⟩,fun a c ha=>?_,fun a c ha=>?_,fun c hc8=>?_,fun c hc8 a=>?_⟩,hF3⟩
 ·have ha:S.c a=none:=ha;rw[if_pos ha];exact hF1 a ha
 ·replace ha:S.c a=some c:=ha;obtain⟨n1,n2,n3⟩:=o.si.fl a c ha;rcases hfl a c ha with ⟨e,rfl⟩|⟨e,_⟩
  ·rw[e];rw[hc] at ha
   cases ha
   rw[hf] at n1 n2 n3;exact⟨(List.nodup_cons.1 n1).2,fun j hj=>n2 j (List.mem_cons_of_mem _ hj),oZ n3.2⟩
  ·rw[e];exact⟨n1,n2,oZ n3⟩
 ·have hl:=o.si.lv a c ha;rcases hfl a c ha with ⟨e,rfl⟩|⟨e,_⟩
  ·rw[e];rw[hf,List.length_cons] at hl;omega
  ·rw[e];exact hl
 ·have:=o.si.pn c hc8;unfold aR;by_cases hr:r=[]
  ·rw[if_pos hr];show(aX S.pl k _ c).Nodup
   by_cases e:c=k
   ·subst e;rw[dA];exact XS this p
   ·rw[cY _ _ e];exact this
  ·rw[if_neg hr];exact this
 ·have hpm:=o.si.pm c hc8 a;show a∈(aR S p k r).pl c↔(S.c a=some c/\aX S.fl p r a≠[])
  by_cases hr:r=[]
  ·have ePl:(aR S p k r).pl=aX S.pl k (M.dropL (S.pl k) p):=(by unfold aR;rw[if_pos hr]);rw[ePl];by_cases ea:a=p
   ·subst ea;rw[dA];constructor
    ·intro hm;exfalso
     by_cases e:c=k
     ·subst e;rw[dA,kK] at hm;exact hm.2 rfl
     ·rw[cY _ _ e,hpm,hc] at hm
      cases hm.1
      exact e rfl
    ·exact fun hm=>absurd hr hm.2
   ·rw[cY _ _ ea];by_cases e:c=k
    ·subst e;rw[dA,kK,hpm];exact⟨fun hm=>hm.1,fun hm=>⟨hm,ea⟩⟩
    ·rw[cY _ _ e];exact hpm
  ·have ePl:(aR S p k r).pl=S.pl:=(by unfold aR;rw[if_neg hr]);rw[ePl,hpm];by_cases ea:a=p
   ·subst ea;rw[dA,hf];exact⟨fun hm=>⟨hm.1,hr⟩,fun hm=>⟨hm.1,List.cons_ne_nil _ _⟩⟩
   ·rw[cY _ _ ea]
theorem xM{x x':Bx}(h:x'.bS=x.bS)(p k n:Nat):aS x' p k n=aS x p k n:=by unfold aS;rw[h]
theorem uD{x x':Bx}{f f':Nat->Nat}{p k:Nat}(hb:x'.bS=x.bS):∀ {l:List Nat},(∀ i∈l,M.word f' (4096*p+i*aH k)=M.word f (4096*p+i*aH k))->mC x f p k l->mC x' f' p k l
 | [],_,_=>trivial
 | i :: l,hf,h=>⟨by
   rw[hf i List.mem_cons_self,h.1]
   cases l with
   | nil=>rfl
   | cons j l=>exact(xM hb p k j).symm,uD hb (fun j hj=>hf j (List.mem_cons_of_mem _ hj)) h.2⟩
theorem DA{f g:Nat->Nat}{o:Nat}(h:∀ i,i<8->g (o+i)=f (o+i)):M.word g o=M.word f o:=by
 unfold M.word;exact wordTo_congr _ _ 8 h
theorem SO.pool{w W W' sb lw x t fr ls S h x1 t1 fr1 ls1}(o:SO w W sb lw x t fr ls S h)(po:PO w W' lw x1 t1 fr1 ls1)(sm:Sm x x1)(bk:BK t t1 ls ls1)(sub:∀ p k,S.c p=some k->(p,0)∈ls1)(kp:Kt (aC x) W W'):SO w W' sb lw x1 t1 fr1 ls1 S h:=by
 have hpage:∀ p k,S.c p=some k->t1.m.pg p=t.m.pg p:=fun p k hp=>
  (po.sf.pslab (p:=p) (q:=t.m.pg p) (by rw[sm.P,o.si.eP];exact jD hp)).2.2.2
 refine⟨⟨po.pl,?_,o.sw.nw,o.sw.tb⟩,po.sf,po.st,po.bm,⟨?_,fun p k hp=>?_,fun p k hp=>?_,o.si.lv,o.si.pn,o.si.pm⟩,o.hd⟩
 ·rw[sm.bS];exact(kp.block _ (lH o.sw.bx) (fun e=>o.sw.nsb (.inl e))).trans o.sw.bx
 ·rw[sm.P,o.si.eP];funext p
  cases e:S.c p with
  | none=>rw[iG e,iG e]
  | some k=>rw[jD e,jD e,hpage p k e]
 ·obtain⟨h1,h2⟩:=o.si.pg p k hp;rw[hpage p k hp];exact⟨h1,h2⟩
 ·obtain⟨n1,n2,n3⟩:=o.si.fl p k hp;have hk:=(o.si.pg p k hp).1;have hnb:=dQ hk;have hz:=eC hk;refine⟨n1,n2,uD sm.bS (fun i hi=>DA fun j hj=>?_) n3⟩;have hib:=n2 i hi;have h2:(i+1)*aH k<=aI k*aH k:=Nat.mul_le_mul_right _ hib;rw[Nat.add_mul,Nat.one_mul,hnb.1] at h2;have hd:(4096*p+i*aH k+j)/4096=p:=by omega
  refine bk _ ?_ ?_
  ·rw[hd];exact⟨p,0,(o.mem hp).1,Nat.le_refl _,by omega⟩
  ·rw[hd];exact⟨p,0,sub p k hp,Nat.le_refl _,by omega⟩
theorem zA(f:Nat->Nat)(P off z:Nat)(hz : 8<=z):∀ k i,i<k->P+k*z<18446744073709551616->M.word (jX f P off z k) (off+i*z)=P+(i+1)*z
 | 0,i,h,_=>absurd h (Nat.not_lt_zero _)
 | k+1,i,h,h64=>by
  rw[jX];by_cases e:i=k
  ·subst e;rw[M.word_upd _ _ _ h64]
  ·have hl:i<k:=(by omega);have h1:(i+1)*z<=k*z:=Nat.mul_le_mul_right _ hl;rw[Nat.add_mul,Nat.one_mul] at h1;have h2:k*z<=(k+1)*z:=Nat.mul_le_mul_right _ (by omega);rw[M.word_far _ _ _ _ (.inr (by omega))];exact zA f P off z hz k i hl (by omega)
theorem yP(f:Nat->Nat)(P off z:Nat):∀ k j,(∀ i,i<k->¬(off+i*z<=j/\j<off+i*z+8))->jX f P off z k j=f j
 | 0,j,_=>rfl
 | k+1,j,h=>by
  rw[jX];unfold M.upd;rw[if_neg (h k (by omega))];exact yP f P off z k j (fun i hi=>h i (by omega))
theorem tH(f:Nat->Nat)(x:Bx)(p k:Nat)(hk:k<8)(j:Nat)(hj:¬(4096*p<=j/\j<4096*p+4096)):iQ f (ad x p) (4096*p) (aH k) (aI k) j=f j:=by
 have hnb:=dQ hk;have hz:=eC hk;have hin:∀ i,i<aI k->i*aH k+aH k<=4096:=fun i hi=>by
  have h2:(i+1)*aH k<=aI k*aH k:=Nat.mul_le_mul_right _ hi;rw[Nat.add_mul,Nat.one_mul,hnb.1] at h2;exact h2
 unfold iQ;have h1:=hin (aI k-1) (by omega);unfold M.upd;rw[if_neg (by omega)];refine yP _ _ _ _ _ _ fun i hi=>?_
 have:=hin i (by omega);omega
theorem CI(x:Bx)(f:Nat->Nat)(p k:Nat)(hk:k<8)(hb:x.bS+4096*p+4096<=9223372036854775808):∀ n a,a+n=aI k->mC x (iQ f (ad x p) (4096*p) (aH k) (aI k)) p k (List.range' a n)
 | 0,a,_=>trivial
 | n+1,a,h=>by
  have hnb:=dQ hk;have hz:=eC hk;obtain⟨M1,hM⟩:∃ M1,aI k=M1+1:=⟨aI k-1,by omega⟩;have hMz:M1*aH k+aH k=4096:=by
   have:=hnb.1;rw[hM,Nat.add_mul,Nat.one_mul] at this;exact this
  refine⟨?_,CI x f p k hk hb n (a+1) (by omega)⟩;unfold iQ;rw[show aI k-1=M1 by omega]
  cases n with
  | zero=>
   have ea:a=M1:=(by omega);subst ea;rw[M.word_upd _ _ _ (by decide)];rfl
  | succ n=>
   have hl:a<M1:=(by omega);have h1:(a+1)*aH k<=M1*aH k:=Nat.mul_le_mul_right _ hl;rw[Nat.add_mul,Nat.one_mul] at h1;rw[M.word_far _ _ _ _ (.inr (by omega)),zA _ _ _ _ (by omega) M1 a hl (by unfold ad;omega)];show _=aS x p k (a+1)
   unfold aS ad;rfl
def aW(S:Sb)(p k:Nat):Sb:=⟨aX S.c p (some k),aX S.fl p (List.range' 0 (aI k)),aX S.pl k (p :: S.pl k)⟩
def fK(m:Mp)(h:Nat->Int)(p k:Nat):Mp:=fH (fO (iY m (p:Int) (k:Int)) (p:Int) 0) h (p:Int) k
theorem XO{q:Pg}(h0:q.b0=0)(h1:q.b1=0)(h2:q.b2=0)(h3:q.b3=0)(i:Nat):aJ q i=false:=by
 unfold aJ;have:wP q (i/64)=0:=by
  unfold wP;split <;> assumption
 rw[this];simp
theorem TI{m:Mp}{h:Nat->Int}{p k:Nat}{l:List Nat}(hp:p<m.n)(hk:k<8)(hh:h k=bE l)(hl:∀ r∈l,r<m.n/\(m.pg r).kd=4/\cN m.n (m.pg r).nx=true)(hpl:p ∉ l):fK m h p k={ m with pg:=eG (aK m.pg p { dJ (k:Int)with fs:=0 }) l p }:=by
 have hnb:=dQ hk;have e1:iY m (p:Int) (k:Int)={ m with pg:=aK m.pg p (dJ (k:Int)) }:=by
  unfold iY;rw[if_pos ⟨dM hp,by omega,by omega⟩,Int.toNat_natCast]
 have e2:aK m.pg p (dJ (k:Int)) p=dJ (k:Int):=if_pos rfl;have e3:fO { m with pg:=aK m.pg p (dJ (k:Int)) } (p:Int) 0={ m with pg:=aK m.pg p { dJ (k:Int)with fs:=0 } }:=by
  rw[CX (m:={ m with pg:=aK m.pg p (dJ (k:Int)) }) (c:=(0:Int)) hp (by show(aK m.pg p _ p).kd=4;rw[e2];rfl) (.inr ⟨0,rfl,by
   show 0<eX (aK m.pg p _ p).cl
   rw[e2];show 0<aI k
   omega⟩)]
  show({ m with pg:=aK (aK m.pg p (dJ (k:Int))) p { aK m.pg p (dJ (k:Int)) p with fs:=0 } } : Mp)=_
  rw[e2];refine congrArg (fun g=>({ m with pg:=g } : Mp)) (funext fun a=>?_);unfold aK;by_cases e:a=p
  ·rw[if_pos e,if_pos e]
  ·rw[if_neg e,if_neg e,if_neg e]
 unfold fK;rw[e1,e3];have e4:aK m.pg p { dJ (k:Int)with fs:=0 } p={ dJ (k:Int)with fs:=0 }:=if_pos rfl;exact FP (m:={ m with pg:=aK m.pg p { dJ (k:Int)with fs:=0 } }) hp (by show(aK m.pg p _ p).kd=4;rw[e4];rfl) hh (fun r hr=>by
  have hrp:r≠p:=fun e=>hpl (e▸hr)
  have e5:aK m.pg p { dJ (k:Int)with fs:=0 } r=m.pg r:=if_neg hrp;show r<m.n/\(aK m.pg p _ r).kd=4/\cN m.n (aK m.pg p _ r).nx=true
  rw[e5];exact hl r hr) hpl
theorem zhH{n:Nat}(h : 0<n):bE (List.range' 0 n)=0:=by
 obtain⟨m,rfl⟩:∃ m,n=m+1:=⟨n-1,by omega⟩;rfl
theorem SO.fresh{w W W' sb lw x t fr ls S h}(o:SO w W sb lw x t fr ls S h){p k:Nat}(hk:k<8)(hls:(p,0)∈ls)(hc:S.c p=none)
  (sw:SW w W' sb lw x ⟨iQ t.f (ad x p) (4096*p) (aH k) (aI k),fK t.m h p k,t.hd⟩ (cZ h k (p:Int))):
  SO w W' sb lw { x with P:=jG (aW S p k) (fK t.m h p k) } ⟨iQ t.f (ad x p) (4096*p) (aH k) (aI k),fK t.m h p k,t.hd⟩ fr ls (aW S p k) (cZ h k (p:Int)):=by
 have hnb:=dQ hk;have hz:=eC hk;have hpn:p<t.m.n:=by
  have:=(o.sf.sn.al hls).2.2;omega
 have n4:=o.po.nums.2.2.2.1;have hst:=o.st;have hpb:x.bS+4096*p+4096<=9223372036854775808:=by
  have h5:(p+1)*4096<=t.m.n*4096:=Nat.mul_le_mul_right _ hpn;omega
 have hpl:p ∉ S.pl k:=fun e=>by
  rw[((o.si.pm k hk p).1 e).1] at hc
  cases hc
 have hln:=o.si.pn k hk;have eM:=TI (m:=t.m) (h:=h) hpn hk (o.hd k hk) (fun r hr=>by
  have hcr:=((o.si.pm k hk r).1 hr).1;have sr:=(o.si.pg r k hcr).2;refine⟨(o.mem hcr).2.1,sr.kd,?_⟩;rw[sr.nx];rcases lV (S.pl k) r hln with e|⟨b,e,hb,_⟩
  ·rw[e];exact lO _
  ·rw[e];exact pB (o.mem ((o.si.pm k hk b).1 hb).1).2.1) hpl
 rw[eM] at sw ⊢;generalize hpgF:eG (aK t.m.pg p { dJ (k:Int)with fs:=0 }) (S.pl k) p=pgF at *;have hne:∀ a,a≠p->(aW S p k).c a=S.c a/\(aW S p k).fl a=S.fl a:=fun a ha=>⟨cY _ _ ha,cY _ _ ha⟩
 have hcp:(aW S p k).c p=some k:=dA _ _ _;have hfp:(aW S p k).fl p=List.range' 0 (aI k):=dA _ _ _;have hup:∀ a,a≠p->aK t.m.pg p { dJ (k:Int)with fs:=0 } a=t.m.pg a:=fun a ha=>if_neg ha
 have huq:aK t.m.pg p { dJ (k:Int)with fs:=0 } p={ dJ (k:Int)with fs:=0 }:=if_pos rfl;have F0:∀ a,S.c a=none->a≠p->pgF a=t.m.pg a:=fun a ha hap=>by
  have hal:a ∉ S.pl k:=fun e=>by
   rw[((o.si.pm k hk a).1 e).1] at ha
   cases ha
  rw[<-hpgF,uW hap hal];exact hup a hap
 have Q0:SlQ (aW S p k) p k { dJ (k:Int)with fs:=0 }:=by
  refine⟨rfl,rfl,rfl,?_,?_,fun i hi=>?_⟩
  ·rw[hfp,List.length_range',Nat.sub_self];rfl
  ·rw[hfp,zhH (by omega)]
  ·rw[XO rfl rfl rfl rfl,hfp];symm;refine decide_eq_false fun e=>e.2 (List.mem_range'_1.2 ⟨Nat.zero_le _,by omega⟩)
 have NP0:NP (aK t.m.pg p { dJ (k:Int)with fs:=0 }) (aW S p k) k (S.pl k):=fun a ha=>by
  by_cases e:a=p
  ·subst e;rw[huq,tI hpl,oY hpl];exact⟨rfl,rfl⟩
  ·rw[(hne a e).1] at ha;rw[hup a e];exact⟨(o.si.pg a k ha).2.nx,(o.si.pg a k ha).2.pv⟩
 have NP1:=FM NP0 hln hpl;have F2:∀ a c,(aW S p k).c a=some c->c<8/\SlP (aW S p k) a c (pgF a):=fun a c ha=>by
  have hq:SlQ (aW S p k) a c (aK t.m.pg p { dJ (k:Int)with fs:=0 } a)/\c<8:=by
   by_cases e:a=p
   ·subst e;rw[hcp] at ha
    cases ha
    rw[huq];exact⟨Q0,hk⟩
   ·rw[(hne a e).1] at ha;rw[hup a e];exact⟨(o.si.pg a c ha).2.q.congr (hne a e).2,(o.si.pg a c ha).1⟩
  refine⟨hq.2,(hq.1.rst (by rw[<-hpgF];exact VD _ _ _ _)).p ?_ ?_⟩
  ·show(pgF a).nx=bD (aX S.pl k (p :: S.pl k) c) a
   by_cases e:c=k
   ·subst e;rw[dA,<-hpgF];exact(NP1 a ha).1
   ·have hap:a≠p:=fun e2=>by rw[e2,hcp] at ha;cases ha;exact e rfl
    rw[cY _ _ e];rw[(hne a hap).1] at ha;have hal:a ∉ S.pl k:=fun e2=>by rw[((o.si.pm k hk a).1 e2).1] at ha;cases ha;exact e rfl
    rw[<-hpgF,uW hap hal,hup a hap];exact(o.si.pg a c ha).2.nx
  ·show(pgF a).pv=bI (aX S.pl k (p :: S.pl k) c) a
   by_cases e:c=k
   ·subst e;rw[dA,<-hpgF];exact(NP1 a ha).2
   ·have hap:a≠p:=fun e2=>by rw[e2,hcp] at ha;cases ha;exact e rfl
    rw[cY _ _ e];rw[(hne a hap).1] at ha;have hal:a ∉ S.pl k:=fun e2=>by rw[((o.si.pm k hk a).1 e2).1] at ha;cases ha;exact e rfl
    rw[<-hpgF,uW hap hal,hup a hap];exact(o.si.pg a c ha).2.pv
 have sf1:=o.sf.fill (p:=p) (k:=0) hls (f':=iQ t.f (ad x p) (4096*p) (aH k) (aI k)) (fun j hj=>tH t.f x p k hk j (by omega));refine⟨sw.reP _,sf1.repaint S (aW S p k) o.si.eP { t.m with pg:=pgF } rfl rfl rfl (fun a ha=>?_) (fun a c ha=>⟨(F2 a c ha).2.kd,?_⟩),o.st,o.bm,⟨rfl,F2,fun a c ha=>?_,fun a c ha=>?_,fun c hc8=>?_,fun c hc8 a=>?_⟩,fun c hc8=>?_⟩
 ·have hap:a≠p:=fun e=>by rw[e,hcp] at ha;cases ha
  rw[(hne a hap).1] at ha;rw[if_pos ha];exact F0 a ha hap
 ·by_cases e:a=p
  ·rw[e];exact hls
  ·rw[(hne a e).1] at ha;exact(o.mem ha).1
 ·by_cases e:a=p
  ·subst e;rw[hcp] at ha
   cases ha
   rw[hfp];refine⟨List.nodup_range',fun i hi=>?_,oZ (CI x t.f a k hk hpb (aI k) 0 (by omega))⟩;have:=(List.mem_range'_1.1 hi).2;omega
  ·rw[(hne a e).1] at ha;rw[(hne a e).2];obtain⟨n1,n2,n3⟩:=o.si.fl a c ha;have hc8:=(o.si.pg a c ha).1;have hnb2:=dQ hc8;have hz2:=eC hc8;refine⟨n1,n2,oZ (uD rfl (fun i hi=>DA fun j hj=>?_) n3)⟩;have hib:=n2 i hi;have h2:(i+1)*aH c<=aI c*aH c:=Nat.mul_le_mul_right _ hib;rw[Nat.add_mul,Nat.one_mul,hnb2.1] at h2;exact tH t.f x p k hk _ (by omega)
 ·by_cases e:a=p
  ·subst e;rw[hcp] at ha
   cases ha
   rw[hfp,List.length_range'];exact Nat.le_refl _
  ·rw[(hne a e).1] at ha;rw[(hne a e).2];exact o.si.lv a c ha
 ·show(aX S.pl k (p :: S.pl k) c).Nodup
  by_cases e:c=k
  ·subst e;rw[dA];exact List.nodup_cons.2 ⟨hpl,hln⟩
  ·rw[cY _ _ e];exact o.si.pn c hc8
 ·show a∈aX S.pl k (p :: S.pl k) c↔((aW S p k).c a=some c/\(aW S p k).fl a≠[])
  have hpm:=o.si.pm c hc8 a;by_cases ea:a=p
  ·subst ea;rw[hcp,hfp];have hrn:List.range' 0 (aI k)≠[]:=by
    intro e;have:=congrArg List.length e;rw[List.length_range',List.length_nil] at this;omega
   by_cases e:c=k
   ·subst e;rw[dA];exact⟨fun _=>⟨rfl,hrn⟩,fun _=>List.mem_cons_self⟩
   ·rw[cY _ _ e,hpm,hc];constructor
    ·rintro ⟨e2,_⟩;cases e2
    ·rintro ⟨e2,_⟩;cases e2;exact absurd rfl e
  ·rw[(hne a ea).1,(hne a ea).2];by_cases e:c=k
   ·subst e;rw[dA,List.mem_cons,hpm];exact⟨fun h=>h.resolve_left ea,fun h=>.inr h⟩
   ·rw[cY _ _ e];exact hpm
 ·show cZ h k (p:Int) c=bE (aX S.pl k (p :: S.pl k) c)
  by_cases e:c=k
  ·subst e;rw[dA];exact if_pos rfl
  ·rw[cY _ _ e];exact(if_neg e).trans (o.hd c hc8)
inductive Ned(x:Bx)(t:Bt)(fr:Nat->List Nat)(d:Bool)(p:Nat)(b:Bool)(fr':Nat->List Nat):Prop where
 | here (j:Nat) (l:List Nat) (hj:j<=x.o) (hz:∀ a,a<j->fr a=[]) (hp:fr j=p :: l) (hb:b=false) (hf:fr'=cO (cF fr j (M.dropL (fr j) p)) p j 0)
 | grew (hz:∀ a,a<=x.o->fr a=[]) (hd:d=false) (hl:x.n+x.R<=x.lim*x.R) (hb:b=true) (hp:p=t.m.n) (hf:fr'=cO fr t.m.n x.o 0)
structure FrO(w W:World)(sb lw:Nat)(x:Bx)(t:Bt)(fr:Nat->List Nat)(ls:List (Nat×Nat))(S:Sb)(h:Nat->Int)(k:Nat)(d:Bool)(p:Nat)(b:Bool)(w':World):Prop where
 ex:∃ x' t' fr',Ned x t fr d p b fr'/\SO w w' sb lw x' t' fr' (ls ++ [(p,0)]) (aW S p k) (cZ h k (p:Int))/\Sm x { x' with P:=x.P }/\(∀ i,Lv ls (i/4096)->t'.f i=t.f i)/\Nb W x x'/\t'.m.n=(if b=true then t.m.n + 2 ^ x.o else t.m.n)/\x'.n=(if b=true then x.n + x.R else x.n)
 hc:S.c p=none
 nl:∀ i,(p,i) ∉ ls
 kp:Kt (dB x sb) W w'
inductive FrP(w W:World)(sb lw:Nat)(x:Bx)(t:Bt)(fr:Nat->List Nat)(ls:List (Nat×Nat))(S:Sb)(h:Nat->Int)(k:Nat)(d:Bool)(e:Ending)(w':World):Prop where
 | stuck (hz:∀ a,a<=x.o->fr a=[]) (hd:d=true\/x.n=x.lim*x.R) (he:e=.returned (.tuple #[.bool false,.int .i64 2])) (kp:Kt nO W w')
 | got (p:Nat) (b:Bool) (he:e=.returned (.tuple #[.bool b,.int .i64 0])) (fo:FrO w W sb lw x t fr ls S h k d p b w')
theorem GK{w W lw x t fr ls}(po:PO w W lw x t fr ls)(d:Bool):
  Calls prog 130 #[.pointer (some ⟨lw,0,none⟩),.int .i64 0,.bool d] W fun e w'=>
   ((∀ a,a<=x.o->fr a=[])/\(d=true\/x.n=x.lim*x.R)/\e=.returned (.tuple #[.int .u64 0,.bool false,.int .i64 2])/\Kt nO W w')\/
   (∃ p b fr' x' t',e=.returned (.tuple #[.int .u64 ((ad x p:Nat):Int),.bool b,.int .i64 0])/\Ned x t fr d p b fr'/\PO w w' lw x' t' fr' (ls ++ [(p,0)])/\Sm x x'/\BK t t' ls (ls ++ [(p,0)])/\Nb W x x'/\Kt (aC x) W w'/\x.P p=none/\(∀ i,(p,i) ∉ ls)/\t'.m.n=(if b=true then t.m.n + 2 ^ x.o else t.m.n)/\x'.n=(if b=true then x.n + x.R else x.n)):=by
 refine(K.Need_any po 0 d).mono fun e w' hN=>?_
 cases hN with
 | bad hk he kp=>
  exfalso
  have:=of_decide_eq_false hk;omega
 | stuck i hk hi hz hd he kp=>
  obtain rfl:i=0:=by omega
  exact .inl ⟨fun a ha=>hz a (Nat.zero_le _) ha,hd,he,kp⟩
 | here i j p l hk hi hij hj hz hp he hs kp=>
  obtain rfl:i=0:=by omega
  obtain⟨t',h1,h2,h3⟩:=hs;refine .inr ⟨p,false,_,x,t',he,.here j l hj (fun a ha=>hz a (Nat.zero_le _) ha) hp rfl rfl,h1,Sm.refl x,h3,fun y e=>.inl e,kp,po.sf.pfree hj (by rw[hp];exact List.mem_cons_self),fun i hm=>?_,by rw[if_neg (by decide)];exact h2,by rw[if_neg (by decide)]⟩;have h0:=po.sf.apart0 hj (show p∈fr j by rw[hp];exact List.mem_cons_self) hm;have hz1 : 0<2 ^ i:=Nat.pow_pos (by decide);have hz2 : 0<2 ^ j:=Nat.pow_pos (by decide);omega
 | grew i hk hi hz hd hl he hs kp=>
  obtain rfl:i=0:=by omega
  obtain⟨x',t',h1,h2,h3,h4,h5,h6⟩:=hs;refine .inr ⟨t.m.n,true,_,x',t',he,.grew (fun a ha=>hz a (Nat.zero_le _) ha) hd hl rfl rfl rfl,h1,h2,h6,h5,kp,po.sf.pout (Nat.le_refl _),fun i hm=>?_,by rw[if_pos rfl];exact h4,by rw[if_pos rfl];exact h3⟩;have:=(po.sf.sn.al hm).2.2;have hz1 : 0<2 ^ i:=Nat.pow_pos (by decide);omega
theorem OZ{w W sb lw x t fr ls S h}(o:SO w W sb lw x t fr ls S h)(k:Nat)(hk:k<8)(d:Bool):
  Calls prog 161 #[.pointer (some ⟨sb,0,none⟩),.int .i64 k,.bool d] W fun e w'=>FrP w W sb lw x t fr ls S h k d e w':=by
 have ND:=aA (GK o.po d);obtain⟨c0,c1⟩:=o.sw.c0;have HO:=aA o;clear o;go_enter func161,ntmps161;go_wp2_with fail;refine ND.out.mono ?_;rintro e w1 (⟨hz,hd,rfl,kp⟩|⟨p,b,fr1,x1,t1,rfl,hned,hpo,hsm,hbk,hnb,hk1,hPp,hnl,htn,hxn⟩)
 ·have D:=aA (show FrP w W sb lw x t fr ls S h k d (.returned (.tuple #[.bool false,.int .i64 2])) w1 from .stuck hz hd rfl kp);clear hz hd kp ND c0 c1;go_wp2_with fail;exact⟨rfl,.tuple #[.bool false,.int .i64 2],by simp[results,results161,go_sem],D.out⟩
 ·have hc:S.c p=none:=by
   cases e:S.c p with
   | none=>rfl
   | some c=>
    rw[HO.out.si.eP,jD e] at hPp
    cases hPp
  have o1:=HO.out.pool hpo hsm hbk (fun a c ha=>List.mem_append_left _ (HO.out.mem ha).1) hk1;have hls:(p,0)∈ls ++ [(p,0)]:=List.mem_append_right _ (List.mem_singleton.2 rfl);have hpn:=(o1.sf.sn.al hls).2.2;have n4:=o1.po.nums.2.2.2.1;have n2:=o1.po.nums.2.1;have hst:=o1.st;have hpb : 4096*p+4096<=x1.n:=by
   have h5:(p+1)*4096<=t1.m.n*4096:=Nat.mul_le_mul_right _ hpn;omega
  have had:ad x p=ad x1 p:=by unfold ad;rw[hsm.bS]
  rw[had];have hoff:bG x1 (ad x1 p)/4096=p:=by unfold bG ad;omega
  obtain⟨A,hA⟩:=xe (ad x1 p);have hA64:A<18446744073709551616:=by rw[hA];unfold ad;omega
  have PG:=aA (show Calls prog 193 #[.pointer (some ⟨sb,0,none⟩),.int .u64 A] w1 fun e w'=>e=.returned (.int .i64 p)/\w'=w1 from by
   have:=tC o1.sw A hA64;rw[hA,hoff] at this;rw[hA];exact this)
  have SL:=aA (KU o1.sw (p:Int) (k:Int));obtain⟨m1,hm1⟩:=xe (iY t1.m (p:Int) (k:Int));rw[<-hm1] at SL;generalize oJ t1.m (p:Int) (k:Int)=se1 at *;have CH:=aA (show ∀ W',SW w W' sb lw x1 { t1 with m:=m1 } h->Calls prog 195 #[.pointer (some ⟨sb,0,none⟩),.int .u64 A,.int .i64 k] W' fun e w'=>e=.returned (.tuple #[])/\SW w w' sb lw x1 ⟨iQ t1.f (ad x1 p) (4096*p) (aH k) (aI k),m1,t1.hd⟩ h/\Kt (aC x1) W' w' from fun W' s=>by
   rw[hA];exact MV s p k hk hpb)
  obtain⟨f2,hf2⟩:=xe (iQ t1.f (ad x1 p) (4096*p) (aH k) (aI k));rw[<-hf2] at CH;obtain⟨m2,hm2⟩:=xe (fO m1 (p:Int) 0);have FR:=aA (show ∀ W',SW w W' sb lw x1 ⟨f2,m1,t1.hd⟩ h->Calls prog 196 #[.pointer (some ⟨x1.m,0,none⟩),.int .i64 p,.int .i64 0] W' fun e w'=>e=.returned (.int .i64 (jQ m1 (p:Int) 0))/\SD w W' sb lw x1 ⟨f2,m1,t1.hd⟩ h m2 w' from fun W' s=>by
   rw[hm2];exact xU s (p:Int) 0)
  generalize jQ m1 (p:Int) 0=fe1 at *;have PT:=aA (show ∀ W',SW w W' sb lw x1 ⟨f2,m2,t1.hd⟩ h->Calls prog 197 #[.pointer (some ⟨sb,0,none⟩),.int .i64 p,.int .i64 k] W' fun e w'=>e=.returned (.tuple #[])/\SE w W' sb lw x1 ⟨f2,m2,t1.hd⟩ (fH m2 h (p:Int) k) (cZ h k (p:Int)) w' from fun W' s=>EH s (p:Int) k hk);have FIN:=aA (show ∀ w',SW w w' sb lw x1 ⟨f2,fH m2 h (p:Int) k,t1.hd⟩ (cZ h k (p:Int))->Kt (dB x1 sb) w1 w'->FrP w W sb lw x t fr ls S h k d (.returned (.tuple #[.bool b,.int .i64 0])) w' from fun w' s kk=>by
   have e1:fH m2 h (p:Int) k=fK t1.m h p k:=(by unfold fK;rw[hm2,hm1]);rw[e1,hf2] at s;have so:=o1.fresh hk hls hc s;refine .got p b rfl ⟨⟨_,_,fr1,hned,so,⟨hsm.bS,hsm.R,hsm.lim,hsm.o,hsm.b,hsm.s,hsm.m,hsm.l,rfl⟩,fun i hi=>?_,hnb,?_,hxn⟩,hc,hnl,?_⟩
   ·have h2:t1.f i=t.f i:=hbk i hi (K.Lv.more hi);show iQ t1.f (ad x1 p) (4096*p) (aH k) (aI k) i=t.f i
    rw[<-h2];refine tH t1.f x1 p k hk i (fun e=>?_);obtain⟨q,c,h3,h4,h5⟩:=hi;have hq:=hpo.sf.sn.apart (List.mem_append_left _ h3) hls;have hip:i/4096=p:=(by omega);rw[hip] at h4 h5;rcases hq with ⟨e2,e3⟩|e2|e2
    ·rw[e2] at h3;exact hnl c h3
    ·omega
    ·omega
   ·show(fK t1.m h p k).n=_
    rw[<-htn];unfold fK fH gZ;rw[yQ,yQ];unfold fO;split <;> exact SG _ _ _
   ·refine(hk1.mono (fun _ _ e=>.inl e)).trans kk (fun _ _ e=>e) (fun y hy e=>?_);rcases e with e|e
    ·rcases hnb y e with e|e
     ·exact .inl e
     ·omega
    ·exact .inr e)
  have O1:=aA o1.sw;rw[<-hA];clear hned hpo hsm hbk hnb hk1 hPp hnl htn hxn hc o1 hls hpn n4 n2 hst hpb had hoff hA hm1 hf2 hm2 c0 c1 ND;obtain⟨c0,c1⟩:=O1.out.c0;go_wp2_with fail;refine PG.out.mono ?_;rintro e w2 ⟨rfl,h2⟩;replace h2:=h2.symm;subst h2;have MP:=aA (cB O1.out.pl);go_wp2_with fail;refine MP.out.mono ?_;rintro e w2 ⟨rfl,h2⟩;replace h2:=h2.symm;subst h2;go_wp2_with fail;refine SL.out.mono ?_;rintro e w3 ⟨rfl,hs3,hk3⟩;have S3:=aA hs3;have K3:=aA hk3;clear hs3 hk3 c0 c1 MP;go_wp2_with fail;refine(CH.out _ S3.out).mono ?_;rintro e w4 ⟨rfl,hs4,hk4⟩;have S4:=aA hs4;have K4:=aA (K3.out.trans hk4 (fun _ _ e=>e) (fun _ _ e=>e));have MP:=aA (cB hs4.pl);obtain⟨c0,c1⟩:=hs4.c0;clear hs4 hk4;go_wp2_with fail;refine MP.out.mono ?_;rintro e w5 ⟨rfl,h5⟩;replace h5:=h5.symm;subst h5;go_wp2_with fail;refine(FR.out _ S4.out).mono ?_;rintro e w5 ⟨rfl,hs5,hk5⟩;have S5:=aA hs5;have K5:=aA (K4.out.trans hk5 (fun _ _ e=>e) (fun _ _ e=>e));clear hs5 hk5 c0 c1;go_wp2_with fail;refine(PT.out _ S5.out).mono ?_;rintro e w6 ⟨rfl,hs6,hk6⟩;have D:=aA (FIN.out w6 hs6 ((K5.out.mono (fun _ _ e=>.inl e)).trans hk6 (fun _ _ e=>e) (fun _ _ e=>e)));clear hs6 hk6;go_wp2_with fail;exact⟨rfl,.tuple #[.bool b,.int .i64 0],by simp[results,results161,go_sem],D.out⟩
inductive TkP(w W:World)(sb lw:Nat)(x:Bx)(t:Bt)(fr:Nat->List Nat)(ls:List (Nat×Nat))(S:Sb)(h:Nat->Int)(c:Int)(d:Bool)(e:Ending)(w':World):Prop where
 | bad (hc:¬(0<=c/\c<8)) (he:e=.returned (.tuple #[.int .u64 0,.bool false,.int .i64 1])) (kp:Kt nO W w')
 | stuck (k:Nat) (hk:k<8) (hc:c=(k:Int)) (hl:S.pl k=[]) (hz:∀ a,a<=x.o->fr a=[]) (hd:d=true\/x.n=x.lim*x.R) (he:e=.returned (.tuple #[.int .u64 0,.bool false,.int .i64 2])) (kp:Kt nO W w')
 | old (k p i:Nat) (l r:List Nat) (hk:k<8) (hc:c=(k:Int)) (hl:S.pl k=p :: l) (hf:S.fl p=i :: r) (he:e=.returned (.tuple #[.int .u64 ((aS x p k i:Nat):Int),.bool false,.int .i64 0])) (so:∃ P m' h',SO w w' sb lw { x with P:=P } { t with m:=m' } fr ls (aR S p k r) h'/\m'.n=t.m.n) (kp:Kt (dB x sb) W w')
 | new (k p:Nat) (b:Bool) (hk:k<8) (hc:c=(k:Int)) (hl:S.pl k=[]) (he:e=.returned (.tuple #[.int .u64 ((aS x p k 0:Nat):Int),.bool b,.int .i64 0])) (so:∃ x' t' fr' h',Ned x t fr d p b fr'/\SO w w' sb lw x' t' fr' (ls ++ [(p,0)]) (aR (aW S p k) p k (List.range' 1 (aI k-1))) h'/\Sm x { x' with P:=x.P }/\(∀ i,Lv ls (i/4096)->t'.f i=t.f i)/\Nb W x x'/\t'.m.n=(if b=true then t.m.n + 2 ^ x.o else t.m.n)/\x'.n=(if b=true then x.n + x.R else x.n)) (hcp:S.c p=none) (nl:∀ i,(p,i) ∉ ls) (kp:Kt (dB x sb) W w')
theorem wV{w W sb lw x t fr ls S h w'}(o:SO w W sb lw x t fr ls S h){p k i:Nat}{r:List Nat}(hc:S.c p=some k)(hf:S.fl p=i :: r)(se:SE w W sb lw x t (dW t.m p i r) (fJ t.m h p k i r) w'):(dW t.m p i r).n=t.m.n:=by
 have h1:=(o.hand hc hf se).st;have h2:=o.st;have h3:(dW t.m p i r).n*4096=x.n:=h1;omega
theorem UJ{w W sb lw x t fr ls S h}(o:SO w W sb lw x t fr ls S h)(c:Int)(hc:¬(0<=c/\c<8))(d:Bool):
  Calls prog 128 #[.pointer (some ⟨sb,0,none⟩),.int .i64 c,.bool d] W fun e w'=>TkP w W sb lw x t fr ls S h c d e w':=by
 have D:=aA (show TkP w W sb lw x t fr ls S h c d (.returned (.tuple #[.int .u64 0,.bool false,.int .i64 1])) W from .bad hc rfl (Kt.refl _ _));clear o;by_cases h0:c<0
 ·clear hc;go_enter func128,ntmps128;go_wp2_with fail;exact⟨rfl,.tuple #[.int .u64 0,.bool false,.int .i64 1],by simp[results,results128,go_sem],D.out⟩
 ·have h8 : 8<=c:=by omega
  clear hc;go_enter func128,ntmps128;go_wp2_with fail;exact⟨rfl,.tuple #[.int .u64 0,.bool false,.int .i64 1],by simp[results,results128,go_sem],D.out⟩
theorem MJ{w W sb lw x t fr ls S h}(o:SO w W sb lw x t fr ls S h)(k:Nat)(hk:k<8)(d:Bool):
  Calls prog 128 #[.pointer (some ⟨sb,0,none⟩),.int .i64 k,.bool d] W fun e w'=>TkP w W sb lw x t fr ls S h (k:Int) d e w':=by
 have ch:=o.sw.hd k hk;have hki:(k:Int)<8:=by omega
 have hk0:¬(k:Int)<0:=by omega
 have hk8:¬ 8<=(k:Int):=by omega
 have HO:=aA o;have HD:=o.hd k hk
 cases hl:S.pl k with
 | nil=>
  rw[hl] at HD;have hz:h k = -1:=HD;rw[hz] at ch;have FR:=aA (OZ o k hk d);have HL:=aA hl;clear o HD hz hl;go_enter func128,ntmps128;go_wp2_with fail;refine FR.out.mono ?_;intro e w1 hF
  cases hF with
  | stuck hz hd he kp=>
   subst he;have D:=aA (show TkP w W sb lw x t fr ls S h (k:Int) d (.returned (.tuple #[.int .u64 0,.bool false,.int .i64 2])) w1 from .stuck k hk rfl HL.out hz hd rfl kp);clear hz hd kp FR ch;go_wp2_with fail;exact⟨rfl,.tuple #[.int .u64 0,.bool false,.int .i64 2],by simp[results,results128,go_sem],D.out⟩
  | got p b he fo=>
   subst he;obtain⟨⟨x1,t1,fr1,hned,o1,hsm,hf1,hnb,htn,hxn⟩,hc,nl,kp⟩:=fo;have hnl:=dQ hk;have hfp:(aW S p k).fl p=0 :: List.range' 1 (aI k-1):=by
    have:(aW S p k).fl p=List.range' 0 (aI k):=dA _ _ _;rw[this];obtain⟨m,hm⟩:∃ m,aI k=m+1:=⟨aI k-1,by omega⟩;rw[hm];rfl
   have hcp:(aW S p k).c p=some k:=dA _ _ _;have c1:w1.cell? ⟨sb,2+k,none⟩=some (.int .i64 p):=by
    have:=o1.sw.hd k hk;rw[show cZ h k (p:Int) k=(p:Int)from if_pos rfl] at this;exact this
   have hca:aS x1 p k 0=aS x p k 0:=xM hsm.bS p k 0;have HA:=aA (show Calls prog 162 #[.pointer (some ⟨sb,0,none⟩),.int .i64 p,.int .i64 k] w1 fun e w'=>e=.returned (.tuple #[.int .u64 ((aS x p k 0:Nat):Int),.int .i64 0])/\TkP w W sb lw x t fr ls S h (k:Int) d (.returned (.tuple #[.int .u64 ((aS x p k 0:Nat):Int),.bool b,.int .i64 0])) w' from by
    refine(xC o1 p k 0 _ hcp hfp).mono ?_;rintro e w2 ⟨rfl,se⟩;refine⟨by rw[hca],.new k p b hk rfl HL.out rfl ⟨_,_,fr1,_,hned,o1.hand hcp hfp se,hsm,hf1,hnb,?_,hxn⟩ hc nl ?_⟩
    ·rw[<-htn];exact wV o1 hcp hfp se
    ·refine kp.trans se.2 (fun _ _ e=>e) (fun y hy e=>?_);rcases e with e|e
     ·rcases hnb y e with e|e
      ·exact .inl e
      ·omega
     ·exact .inr e)
   obtain⟨a,ha⟩:=xe (aS x p k 0);rw[<-ha] at HA;have hpn:(p:Int) ≠ -1:=(by omega);clear hned o1 hsm hf1 hnb htn hxn hc nl kp hnl hfp hcp hca ha FR ch;go_wp2_with fail;refine HA.out.mono ?_;rintro e w2 ⟨rfl,h2⟩;have D:=aA h2;clear h2;go_wp2_with fail;exact⟨rfl,.tuple #[.int .u64 a,.bool b,.int .i64 0],by simp[results,results128,go_sem],D.out⟩
 | cons p l=>
  rw[hl] at HD;have hz:h k=(p:Int):=HD;rw[hz] at ch;obtain⟨hc,hne⟩:=(o.si.pm k hk p).1 (by rw[hl];exact List.mem_cons_self);obtain⟨i,r,hf⟩:∃ i r,S.fl p=i :: r:=by
   cases e:S.fl p with
   | nil=>exact absurd e hne
   | cons i r=>exact⟨i,r,rfl⟩
  have HA:=aA (show Calls prog 162 #[.pointer (some ⟨sb,0,none⟩),.int .i64 p,.int .i64 k] W fun e w'=>e=.returned (.tuple #[.int .u64 ((aS x p k i:Nat):Int),.int .i64 0])/\TkP w W sb lw x t fr ls S h (k:Int) d (.returned (.tuple #[.int .u64 ((aS x p k i:Nat):Int),.bool false,.int .i64 0])) w' from by
   refine(xC o p k i r hc hf).mono ?_;rintro e w2 ⟨rfl,se⟩;exact⟨rfl,.old k p i l r hk rfl hl hf rfl ⟨_,_,_,o.hand hc hf se,wV o hc hf se⟩ se.2⟩)
  obtain⟨a,ha⟩:=xe (aS x p k i);rw[<-ha] at HA;have hpn:(p:Int) ≠ -1:=by omega
  clear o HD hz hl hc hne hf ha;go_enter func128,ntmps128;go_wp2_with fail;refine HA.out.mono ?_;rintro e w2 ⟨rfl,h2⟩;have D:=aA h2;clear h2;go_wp2_with fail;exact⟨rfl,.tuple #[.int .u64 a,.bool false,.int .i64 0],by simp[results,results128,go_sem],D.out⟩
theorem UI{w W sb lw x t fr ls S h}(o:SO w W sb lw x t fr ls S h)(c:Int)(d:Bool):
  Calls prog 128 #[.pointer (some ⟨sb,0,none⟩),.int .i64 c,.bool d] W fun e w'=>TkP w W sb lw x t fr ls S h c d e w':=by
 by_cases hc : 0<=c/\c<8
 ·obtain⟨k,rfl⟩:∃ k:Nat,c=(k:Int):=⟨c.toNat,by omega⟩;exact MJ o k (by omega) d
 ·exact UJ o c hc d
theorem SO.four{w W sb lw x t fr ls S h}(o:SO w W sb lw x t fr ls S h){g:Nat}(hg:g<t.m.n)(hk:(t.m.pg g).kd=4):∃ k,S.c g=some k:=by
 cases e:S.c g with
 | some k=>exact⟨k,rfl⟩
 | none=>
  exfalso
  obtain⟨B,s,hN,hL⟩:=o.sf;obtain⟨a,p,k,hb,h1,h2⟩:=s.cv g hg;have h9:a≠9:=fun e=>hN p k (e▸hb)
  have hp:=s.pg a p k hb h9 g h1 h2;rw[o.si.eP,iG e,Option.getD_none] at hp;rw[hp] at hk;have hk:(if g=p then (a:Int) else (a:Int)+1)=4:=hk;rcases s.tg a p k hb with rfl|rfl|rfl
  ·split at hk <;> omega
  ·split at hk <;> omega
  ·exact h9 rfl
def sO(x:Bx)(S:Sb)(p g k i:Nat):Prop:=S.c g=some k/\i<aI k/\i ∉ S.fl g/\p=aS x g k i
theorem SO.liv_of{w W sb lw x t fr ls S h}(o:SO w W sb lw x t fr ls S h){p:Nat}(hp:p<18446744073709551616)(hl:fD x t p=true):∃ g k i,sO x S p g k i:=by
 unfold fD iT at hl;rw[Bool.and_eq_true,Bool.and_eq_true] at hl;obtain⟨⟨h1,h2⟩,h3⟩:=hl;have h1:=of_decide_eq_true h1;have h2:=of_decide_eq_true h2;obtain⟨g,hg⟩:=xe (bG x p/4096);have hgn:g<t.m.n:=by
  refine Nat.lt_of_not_le fun hle=>?_
  unfold dG cJ at h1;rw[<-hg,if_neg] at h1
  ·exact absurd h1 (by decide)
  ·intro e;obtain⟨k,e1,e2⟩:=gL e;omega
 have hQ:dG x t p=t.m.pg g:=by
  unfold dG;rw[<-hg];exact oL hgn
 rw[hQ] at h1;obtain⟨k,hc⟩:=o.four hgn h1;obtain⟨hk,sp⟩:=o.si.pg g k hc;have hnb:=dQ hk;have hz:=eC hk;have ek:(dG x t p).cl.toNat=k:=by rw[hQ,sp.cl];rfl
 rw[ek] at h2;obtain⟨i,hi⟩:=xe (bG x p%4096/aH k);have hN:fR x t p=i:=by unfold fR;rw[ek,hi]
 have him:i*aH k=bG x p%4096:=by
  have:=Nat.div_add_mod (bG x p%4096) (aH k);rw[h2,Nat.add_zero,Nat.mul_comm,<-hi] at this;exact this
 have hib:i<aI k:=by
  refine Nat.lt_of_not_le fun hle=>?_
  have:=Nat.mul_le_mul_right (aH k) hle;rw[hnb.1,him] at this;have:=Nat.mod_lt (bG x p) (show 0<4096 by decide);omega
 rw[hQ,hN,sp.bt i (by omega)] at h3;have h3:=of_decide_eq_true h3;refine⟨g,k,i,hc,hib,h3.2,?_⟩;obtain⟨_,hpn,hp1,hpb⟩:=o.mem hc;have n4:=o.po.nums.2.2.2.1;have e:aS x g k i=x.bS+4096*g+i*aH k:=rfl;rw[e,him,hg];have hd:=Nat.div_add_mod (bG x p) 4096;have ho:bG x p=(p+18446744073709551616-x.bS)%18446744073709551616:=rfl;omega
theorem SO.of_liv{w W sb lw x t fr ls S h}(o:SO w W sb lw x t fr ls S h){p g k i:Nat}(hl:sO x S p g k i):fD x t p=true/\iT x t p=true/\bG x p/4096=g/\dG x t p=t.m.pg g/\fR x t p=i/\p<18446744073709551616:=by
 obtain⟨hc,hi,hn,rfl⟩:=hl;obtain⟨hk,sp⟩:=o.si.pg g k hc;have hnb:=dQ hk;obtain⟨_,hpn,hp1,hpb⟩:=o.mem hc;have n4:=o.po.nums.2.2.2.1;obtain⟨h1,h2,h3,h4⟩:=tL (x:=x) (t:=t) hk hi (by omega) hpn sp.kd sp.cl;refine⟨?_,h1,h2,h3,h4,(kM (x:=x) (p:=g) hk hi (by omega)).2.2⟩;unfold fD;rw[h1,h3,h4,sp.bt i (by omega),decide_eq_true ⟨hi,hn⟩];rfl
theorem gJ.tak{S:Sb}{p k i:Nat}{r:List Nat}(h:∀ a c,a≠p->S.c a=some c->(S.fl a).length<aI c)(hc:S.c p=some k)(hf:S.fl p=i :: r)(hl:(S.fl p).length<=aI k):gJ (aR S p k r):=by
 intro a c ha;replace ha:S.c a=some c:=ha;show(aX S.fl p r a).length<aI c
 by_cases e:a=p
 ·subst e;rw[hc] at ha
  cases ha
  rw[dA];rw[hf,List.length_cons] at hl;omega
 ·rw[cY _ _ e];exact h a c e ha
theorem gJ.old{w W sb lw x t fr ls S h}(o:SO w W sb lw x t fr ls S h)(v:gJ S){p k i:Nat}{l r:List Nat}(hk:k<8)(hl:S.pl k=p :: l)(hf:S.fl p=i :: r):gJ (aR S p k r):=by
 have hc:=((o.si.pm k hk p).1 (by rw[hl];exact List.mem_cons_self)).1;exact gJ.tak (fun a c _ ha=>v a c ha) hc hf (o.si.lv p k hc)
theorem gJ.new{S:Sb}(v:gJ S){p k:Nat}(hk:k<8):gJ (aR (aW S p k) p k (List.range' 1 (aI k-1))):=by
 have hnl:=dQ hk;have e:(aW S p k).fl p=List.range' 0 (aI k):=dA _ _ _;refine gJ.tak (i:=0) (fun a c ha hc=>?_) (dA _ _ _) ?_ ?_
 ·rw[show(aW S p k).c a=S.c a from cY _ _ ha] at hc;rw[show(aW S p k).fl a=S.fl a from cY _ _ ha];exact v a c hc
 ·rw[e];obtain⟨m,hm⟩:∃ m,aI k=m+1:=⟨aI k-1,by omega⟩;rw[hm];rfl
 ·rw[e,List.length_range'];exact Nat.le_refl _
theorem SO.new{w W sb lw x t}(po:PO w W lw x t (fun _=>[]) [])(sw:SW w W sb lw x t (fun _ => -1))(hP:x.P=fun _=>none):SO w W sb lw x t (fun _=>[]) [] ⟨fun _=>none,fun _=>[],fun _=>[]⟩ (fun _ => -1):=by
 refine⟨sw,po.sf,po.st,po.bm,⟨?_,fun p k h=>?_,fun p k h=>?_,fun p k h=>?_,fun k hk=>List.nodup_nil,fun k hk p=>?_⟩,fun k hk=>rfl⟩
 ·rw[hP];funext p
  exact(iG rfl).symm
 ·cases h
 ·cases h
 ·cases h
 ·constructor
  ·intro h;cases h
  ·rintro ⟨h,_⟩;cases h
theorem gJ.none:gJ ⟨fun _=>Option.none,fun _=>[],fun _=>[]⟩:=fun p k h=>by cases h
def eO(x:Bx)(ls:List (Nat×Nat))(S:Sb)(p s:Nat):Prop:=(∃ g k i,sO x S p g k i/\s=aH k)\/(∃ q k,(q,k)∈ls/\S.c q=none/\p=ad x q/\s=4096*2 ^ k)
section
variable {w W:World} {sb lw:Nat} {x:Bx} {t:Bt} {fr:Nat->List Nat} {ls:List (Nat×Nat)} {S:Sb} {h:Nat->Int}
theorem SO.apart(o:SO w W sb lw x t fr ls S h){p k q j:Nat}(hp:(p,k)∈ls)(hq:(q,j)∈ls):(p=q/\k=j)\/p+2 ^ k<=q\/q+2 ^ j<=p:=by
 obtain⟨B,s,hN,hL⟩:=o.sf;rcases s.ds _ _ _ _ _ _ ((hL p k).2 hp) ((hL q j).2 hq)with ⟨_,e1,e2⟩|e|e
 ·exact .inl ⟨e1,e2⟩
 ·exact .inr (.inl e)
 ·exact .inr (.inr e)
theorem SO.al(o:SO w W sb lw x t fr ls S h){p k:Nat}(hp:(p,k)∈ls):k<=x.o/\p%2 ^ k=0/\p+2 ^ k<=t.m.n:=o.sf.sn.al hp
theorem SO.span(o:SO w W sb lw x t fr ls S h){p s:Nat}(hl:eO x ls S p s) : 0<s/\∃ q k,(q,k)∈ls/\ad x q<=p/\p+s<=ad x q+4096*2 ^ k:=by
 rcases hl with ⟨g,k,i,⟨h1,h2,h3,rfl⟩,rfl⟩|⟨q,k,h1,h2,rfl,rfl⟩
 ·have hk:=(o.si.pg g k h1).1;have hz:=eC hk;have hm:=o.mem h1;have n4:=o.po.nums.2.2.2.1;have hc:=kM (x:=x) (p:=g) hk h2 (by omega);refine⟨by omega,g,0,hm.1,?_,?_⟩
  ·unfold aS ad;omega
  ·unfold aS ad;rw[Nat.pow_zero];omega
 ·have : 0<2 ^ k:=Nat.pow_pos (by decide);exact⟨by omega,q,k,h1,Nat.le_refl _,Nat.le_refl _⟩
end
section
variable {w W:World} {sb lw:Nat} {x:Bx} {t:Bt} {fr:Nat->List Nat} {ls:List (Nat×Nat)} {S:Sb} {h:Nat->Int} {n:Nat}
end
theorem tW{x x':Bx}(hb:x'.bS=x.bS){ls:List (Nat×Nat)}{S:Sb}{p s:Nat} : eO x' ls S p s↔eO x ls S p s:=by
 unfold eO sO aS ad;rw[hb]
section
variable {w W:World} {sb lw:Nat} {x:Bx} {t:Bt} {fr:Nat->List Nat} {ls:List (Nat×Nat)} {S:Sb} {h:Nat->Int} {n:Nat}
variable {w2 W2:World} {sb2 lw2:Nat} {x':Bx} {t':Bt} {fr':Nat->List Nat} {ls':List (Nat×Nat)} {S':Sb} {h':Nat->Int}
theorem SO.cell_ne(o:SO w W sb lw x t fr ls S h){g k i g' k' i':Nat}(h1:S.c g=some k)(h2:i<aI k)(h3:S.c g'=some k')(h4:i'<aI k')(e:aS x g k i=aS x g' k' i'):g=g'/\k=k'/\i=i':=by
 have hk:=(o.si.pg g k h1).1;have hk':=(o.si.pg g' k' h3).1;have hm:=o.mem h1;have hm':=o.mem h3;have n4:=o.po.nums.2.2.2.1;have hc:=kM (x:=x) (p:=g) hk h2 (by omega);have hc':=kM (x:=x) (p:=g') hk' h4 (by omega);have hz:=eC hk;have hz':=eC hk';unfold aS at e;have e1:g=g':=by omega
 subst e1;rw[h1] at h3;injection h3 with h3
 subst h3;refine⟨rfl,rfl,?_⟩;have:i*aH k=i'*aH k:=by omega
 exact Nat.eq_of_mul_eq_mul_right (by omega) this
theorem SO.free_no(o:SO w W sb lw x t fr ls S h){p k i:Nat}(hc:S.c p=some k)(hi:i∈S.fl p)(s:Nat):¬eO x ls S (aS x p k i) s:=by
 have hib:=(o.si.fl p k hc).2.1 i hi;rintro (⟨g,k',i',⟨h1,h2,h3,h4⟩,_⟩|⟨q,j,h1,h2,h3,_⟩)
 ·obtain⟨rfl,rfl,rfl⟩:=o.cell_ne hc hib h1 h2 h4;exact h3 hi
 ·have hk:=(o.si.pg p k hc).1;have hm:=o.mem hc;have n4:=o.po.nums.2.2.2.1;have hcc:=kM (x:=x) (p:=p) hk hib (by omega);have hz:=eC hk;have hzz : 0<2 ^ j:=Nat.pow_pos (by decide);unfold aS ad at h3;rcases o.apart hm.1 h1 with ⟨e,_⟩|e|e
  ·rw[<-e,hc] at h2;cases h2
  ·omega
  ·omega
theorem PM(o:SO w W sb lw x t fr ls S h){p k i:Nat}{r:List Nat}(hc:S.c p=some k)(hf:S.fl p=i :: r)(a s:Nat):eO x ls (aR S p k r) a s↔eO x ls S a s\/(a=aS x p k i/\s=aH k):=by
 obtain⟨n1,n2,_⟩:=o.si.fl p k hc;rw[hf,List.nodup_cons] at n1;have hib:=n2 i (by rw[hf];exact List.mem_cons_self);constructor
 ·rintro (⟨g,k',i',⟨h1,h2,h3,h4⟩,h5⟩|⟨q,j,h1,h2,h3,h4⟩)
  ·replace h1:S.c g=some k':=h1;replace h3:i' ∉ aX S.fl p r g:=h3;by_cases e:g=p
   ·subst e;rw[hc] at h1;injection h1 with h1
    subst h1;rw[dA] at h3;by_cases e2:i'=i
    ·subst e2;exact .inr ⟨h4,h5⟩
    ·refine .inl (.inl ⟨g,k,i',⟨hc,h2,?_,h4⟩,h5⟩);rw[hf,List.mem_cons,not_or];exact⟨e2,h3⟩
   ·rw[cY _ _ e] at h3;exact .inl (.inl ⟨g,k',i',⟨h1,h2,h3,h4⟩,h5⟩)
  ·exact .inl (.inr ⟨q,j,h1,h2,h3,h4⟩)
 ·rintro ((⟨g,k',i',⟨h1,h2,h3,h4⟩,h5⟩|⟨q,j,h1,h2,h3,h4⟩)|⟨rfl,rfl⟩)
  ·refine .inl ⟨g,k',i',⟨h1,h2,?_,h4⟩,h5⟩;show i' ∉ aX S.fl p r g
   by_cases e:g=p
   ·subst e;rw[dA];rw[hf,List.mem_cons,not_or] at h3;exact h3.2
   ·rw[cY _ _ e];exact h3
  ·exact .inr ⟨q,j,h1,h2,h3,h4⟩
  ·refine .inl ⟨p,k,i,⟨hc,hib,?_,rfl⟩,rfl⟩;show i ∉ aX S.fl p r p
   rw[dA];exact n1.1
theorem PK{p k:Nat}(hk:k<8)(hc:S.c p=none)(hn:∀ i,(p,i) ∉ ls)(a s:Nat):eO x (ls ++ [(p,0)]) (aR (aW S p k) p k (List.range' 1 (aI k-1))) a s↔eO x ls S a s\/(a=aS x p k 0/\s=aH k):=by
 have hnb:=dQ hk;constructor
 ·rintro (⟨g,k',i',⟨h1,h2,h3,h4⟩,h5⟩|⟨q,j,h1,h2,h3,h4⟩)
  ·replace h1:aX S.c p (some k) g=some k':=h1;replace h3:i' ∉ aX (aX S.fl p (List.range' 0 (aI k))) p (List.range' 1 (aI k-1)) g:=h3;by_cases e:g=p
   ·subst e;rw[dA] at h1 h3;injection h1 with h1
    subst h1;have e2:i'=0:=by
     rcases Nat.eq_zero_or_pos i' with e2|e2
     ·exact e2
     ·exact absurd (List.mem_range'_1.2 ⟨e2,by omega⟩) h3
    subst e2;exact .inr ⟨h4,h5⟩
   ·rw[cY _ _ e] at h1;rw[cY _ _ e,cY _ _ e] at h3;exact .inl (.inl ⟨g,k',i',⟨h1,h2,h3,h4⟩,h5⟩)
  ·replace h2:aX S.c p (some k) q=none:=h2;have e:q≠p:=fun e=>by rw[e,dA] at h2;cases h2
   rw[cY _ _ e] at h2;refine .inl (.inr ⟨q,j,?_,h2,h3,h4⟩);rcases List.mem_append.1 h1 with h1|h1
   ·exact h1
   ·rw[List.mem_singleton] at h1;injection h1 with h1
    exact absurd h1 e
 ·rintro ((⟨g,k',i',⟨h1,h2,h3,h4⟩,h5⟩|⟨q,j,h1,h2,h3,h4⟩)|⟨rfl,rfl⟩)
  ·have e:g≠p:=fun e=>by rw[e,hc] at h1;cases h1
   refine .inl ⟨g,k',i',⟨?_,h2,?_,h4⟩,h5⟩
   ·show aX S.c p (some k) g=some k'
    rw[cY _ _ e];exact h1
   ·show i' ∉ aX (aX S.fl p (List.range' 0 (aI k))) p (List.range' 1 (aI k-1)) g
    rw[cY _ _ e,cY _ _ e];exact h3
  ·have e:q≠p:=fun e=>hn j (e▸h1)
   refine .inr ⟨q,j,List.mem_append_left _ h1,?_,h3,h4⟩;show aX S.c p (some k) q=none
   rw[cY _ _ e];exact h2
  ·refine .inl ⟨p,k,0,⟨dA _ _ _,by omega,?_,rfl⟩,rfl⟩;show 0 ∉ aX (aX S.fl p (List.range' 0 (aI k))) p (List.range' 1 (aI k-1)) p
   rw[dA,List.mem_range'_1];omega
theorem UQ{p k:Nat}(hc:S.c p=none)(a s:Nat):eO x (ls ++ [(p,k)]) S a s↔eO x ls S a s\/(a=ad x p/\s=4096*2 ^ k):=by
 constructor
 ·rintro (h1|⟨q,j,h1,h2,h3,h4⟩)
  ·exact .inl (.inl h1)
  ·rcases List.mem_append.1 h1 with h1|h1
   ·exact .inl (.inr ⟨q,j,h1,h2,h3,h4⟩)
   ·rw[List.mem_singleton] at h1;injection h1 with e1 e2
    subst e1 e2;exact .inr ⟨h3,h4⟩
 ·rintro ((h1|⟨q,j,h1,h2,h3,h4⟩)|⟨h3,h4⟩)
  ·exact .inl h1
  ·exact .inr ⟨q,j,List.mem_append_left _ h1,h2,h3,h4⟩
  ·exact .inr ⟨p,k,List.mem_append_right _ (List.mem_singleton.2 rfl),hc,h3,h4⟩
def wB(x:Bx)(ls:List (Nat×Nat))(S:Sb)(j:Nat):Prop:=∃ p s,eO x ls S p s/\p<=x.bS+j/\x.bS+j<p+s
theorem SO.byte(o:SO w W sb lw x t fr ls S h){j:Nat}(hj:wB x ls S j):Lv ls (j/4096):=by
 obtain⟨p,s,h1,h2,h3⟩:=hj;obtain⟨_,q,k,h4,h5,h6⟩:=o.span h1;unfold ad at h5 h6;refine⟨q,k,h4,?_,?_⟩
 ·exact(Nat.le_div_iff_mul_le (by decide)).2 (by omega)
 ·exact(Nat.div_lt_iff_lt_mul (by decide)).2 (by omega)
structure Ch(x:Bx)(t:Bt)(ls:List (Nat×Nat))(S:Sb)(x':Bx)(t':Bt)(ls':List (Nat×Nat))(S':Sb):Prop where
 bS:x'.bS=x.bS
 R:x'.R=x.R
 lim:x'.lim=x.lim
 o:x'.o=x.o
 kb:∀ j,wB x ls S j->wB x' ls' S' j->t'.f j=t.f j
end
open Go.MuLone
def KW(w:World):Type:={ W:World // Kt nO w W }
def KW.v{w:World}(x:KW w):World:=x.1
theorem KW.k{w:World}(x:KW w):Kt nO w x.v:=x.2
instance (w:World):Nonempty (KW w):=⟨⟨w,Kt.refl _ _⟩⟩
theorem bR{P:Program}{id:Nat}{Q:Exit->Act->World->Prop}{a:Act}{w:World}{l:List Oper}(hm:P.follows .mixedOrders=true)(hB:Region.lexB .any l.toArray=true)
  (h:wpQuiet P l.toArray (fun w'=>∃ x:KW w,w'=x.v) (fun a'=>∀ x:KW w,Q .normal a' x.v) l a):(Code.region id l.toArray true).wp P Q a w:=by
 refine wp_region_quiet (C:=fun w'=>∃ x:KW w,w'=x.v) hm hB ⟨⟨w.drew,(Kt.refl _ w).drew⟩,rfl⟩ ?_;have e:(fun a'=>∀ w',(∃ x:KW w,w'=x.v)->Q .normal a' w')=(fun a'=>∀ x:KW w,Q .normal a' x.v):=by
  funext a'
  exact propext ⟨fun h x=>h _ ⟨x,rfl⟩,fun h w' ⟨x,hx⟩=>hx▸h x⟩
 rw[e];simpa using h
theorem Calls.kept_of{P:Program}{f:FuncId}{args:Array Value}{w:World}{x:KW w}{v:Value}
  (h:Calls P f args x.v fun e w'=>e=.returned v/\Kt nO x.v w'):Calls P f args x.v fun e w''=>e=.returned v/\∃ y:KW w,w''=y.v:=
 h.mono fun _ w1 ⟨he,hk⟩=>⟨he,⟨w1,nT x.k hk⟩,rfl⟩
abbrev muK:Go.Conc.Locks.MuLink:={ lock:=35,unlock:=36,ilock:=80,iunlock:=81,lockSlow:=123,unlockSlow:=126,disable:=119,enable:=121,acquire:=122,relMerge:=124,cas32:=120,add32:=125,tMutex:=73,tIMutex:=71,tPMutex:=136,tPIMutex:=166,tPI32:=168,tUP:=170,tNoCopy:=68,tU32:=69 }
theorem EC:Go.Conc.Locks.MuLib prog muK:=
 ⟨func35,func36,func80,func81,func119,func121,func122,func124,func120,func125,
 Tryz.underlying71,Tryz.runUnderlying71,Tryz.sizeOf71,Tryz.isAgg71,Tryz.zeroValue71,
 Tryz.underlying73,Tryz.runUnderlying73,Tryz.sizeOf73,Tryz.isAgg73,Tryz.zeroValue73,
 Tryz.underlying136,Tryz.runUnderlying136,Tryz.sizeOf136,Tryz.isAgg136,Tryz.zeroValue136,
 Tryz.underlying166,Tryz.runUnderlying166,Tryz.sizeOf166,Tryz.isAgg166,Tryz.zeroValue166,
 Tryz.underlying168,Tryz.runUnderlying168,Tryz.sizeOf168,Tryz.isAgg168,Tryz.zeroValue168,
 Tryz.underlying170,Tryz.runUnderlying170,Tryz.sizeOf170,Tryz.isAgg170,Tryz.zeroValue170,
 Tryz.underlying68,Tryz.runUnderlying68,Tryz.sizeOf68,Tryz.isAgg68,Tryz.zeroValue68,
 Tryz.underlying21,Tryz.runUnderlying21,Tryz.sizeOf21,Tryz.isAgg21,Tryz.zeroValue21,
 (by kernel_rfl)⟩
abbrev vS(s:Int)(lw sb bS lim o:Nat):Obj:=.cells #[.int .i32 s,.int .u32 0,.int .u64 bS,.int .i64 lim,.int .i64 o,.pointer (some ⟨lw,0,none⟩),.pointer (some ⟨sb,0,none⟩)] 75
structure HW(w W:World)(hb sb lw:Nat)(x:Bx)(t:Bt)(fr:Nat->List Nat)(ls:List (Nat×Nat))(S:Sb)(s:Int):Prop where
 so:∃ h,SO w W sb lw x t fr ls S h
 lv:gJ S
 bx:W.heap[hb]?=some (vS s lw sb x.bS x.lim x.o)
 nw:w.heap.size<=hb
 br:x.bS%x.R=0
theorem SO.hty{w W sb lw x t fr ls S h}(s:SO w W sb lw x t fr ls S h){y:Nat}{cs:Array Value}{z:Nat×Nat}(hy:W.heap[y]?=some (.cells cs 75 z)):¬dB x sb y:=by
 rintro (e|e)
 ·exact absurd (s.sw.pl.pty hy (.inl e)) (by unfold Go.Proofs.YtkfmheelhinjdaaGreatDoor.pty;decide)
 ·subst e;exact absurd (kI hy s.sw.bx) (by decide)
section
variable {w W W':World} {hb sb lw:Nat} {x:Bx} {t:Bt} {fr:Nat->List Nat} {ls:List (Nat×Nat)} {S:Sb} {s:Int}
theorem HW.nhb(H:HW w W hb sb lw x t fr ls S s):¬dB x sb hb:=by
 obtain⟨h,o⟩:=H.so;exact o.hty H.bx
theorem HW.po(H:HW w W hb sb lw x t fr ls S s):PO w W lw x t fr ls:=by
 obtain⟨h,o⟩:=H.so;exact o.po
theorem HW.keep(H:HW w W hb sb lw x t fr ls S s)(k:Kt nO W W'):HW w W' hb sb lw x t fr ls S s:=by
 obtain⟨h,o⟩:=H.so;exact⟨⟨h,o.keep k⟩,H.lv,(k.block _ (lH H.bx) id).trans H.bx,H.nw,H.br⟩
theorem HW.c(H:HW w W hb sb lw x t fr ls S s):W.cell? ⟨hb,0,none⟩=some (.int .i32 s)/\W.cell? ⟨hb,2,none⟩=some (.int .u64 x.bS)/\W.cell? ⟨hb,3,none⟩=some (.int .i64 x.lim)/\W.cell? ⟨hb,4,none⟩=some (.int .i64 x.o)/\W.cell? ⟨hb,5,none⟩=some (.pointer (some ⟨lw,0,none⟩))/\W.cell? ⟨hb,6,none⟩=some (.pointer (some ⟨sb,0,none⟩)):=by
 refine⟨?_,?_,?_,?_,?_,?_⟩ <;> simp[World.cell?,H.bx]
theorem HW.fz(H:HW w W hb sb lw x t fr ls S s)(j:Nat):W.frozen? ⟨hb,j,none⟩=false:=by simp[World.frozen?,H.bx]
theorem HW.call{x':Bx}{t':Bt}{fr':Nat->List Nat}{ls':List (Nat×Nat)}{S':Sb}{h':Nat->Int}(H:HW w W hb sb lw x t fr ls S s)(o:SO w W' sb lw x' t' fr' ls' S' h')(v:gJ S')(c:Ch x t ls S x' t' ls' S')(k:Kt (dB x sb) W W'):HW w W' hb sb lw x' t' fr' ls' S' s:=
 ⟨⟨h',o⟩,v,by rw[c.bS,c.lim,c.o];exact(k.block _ (lH H.bx) H.nhb).trans H.bx,H.nw,by rw[c.bS,c.R];exact H.br⟩
theorem HW.set(H:HW w W hb sb lw x t fr ls S s)(v:Int):HW w (W.setCell ⟨hb,0,none⟩ (.int .i32 v)) hb sb lw x t fr ls S v/\Kt (fun y=>y=hb) W (W.setCell ⟨hb,0,none⟩ (.int .i32 v)):=by
 have kp:Kt (fun y=>y=hb) W (W.setCell ⟨hb,0,none⟩ (.int .i32 v)):=(Kt.refl (fun y=>y=hb) W).setCell (p:=⟨hb,0,none⟩) rfl _;refine⟨⟨?_,H.lv,?_,H.nw,H.br⟩,kp⟩
 ·obtain⟨h,o⟩:=H.so;have nl:∀ {y cs e z},W.heap[y]?=some (.cells cs e z)->e≠75->y≠hb:=fun hy he e=>he (kI (e▸hy) H.bx)
  have hpty:∀ y,(aC x y\/y=x.b\/y=x.l\/y=lw)->y≠hb:=fun y hy e=>by
   subst e;exact absurd (o.sw.pl.pty H.bx hy) (by unfold Go.Proofs.YtkfmheelhinjdaaGreatDoor.pty;decide)
  refine⟨h,⟨⟨⟨(kp.block _ (lH o.sw.pl.box) (hpty _ (.inr (.inr (.inr rfl))))).trans o.sw.pl.box,o.sw.pl.bd.kept kp (fun y hy=>hpty y ?_),o.sw.pl.nw,o.sw.pl.kp.setNew (p:=⟨hb,0,none⟩) (fun e=>absurd H.nw (Nat.not_le.2 e)) _⟩,(kp.block _ (lH o.sw.bx) (nl o.sw.bx (by decide))).trans o.sw.bx,o.sw.nw,o.sw.tb⟩,o.sf,o.st,o.bm,o.si,o.hd⟩⟩;rcases hy with hy|hy|hy
  ·exact .inl hy
  ·exact .inr (.inl hy)
  ·exact .inr (.inr (.inl hy))
 ·rw[bQ H.bx];simp
theorem HW.lock(H:HW w W hb sb lw x t fr ls S 0):
  Calls prog 35 #[.pointer (some ⟨hb,0,none⟩)] W fun e w'=>e=.returned (.tuple #[])/\w'=W.setCell ⟨hb,0,none⟩ (.int .i32 1):=lock_free EC ⟨hb,0,none⟩ W H.c.1 (H.fz 0)
theorem HW.unlock(H:HW w W hb sb lw x t fr ls S 1)(u:FrameMode):
  CallsD prog 36 #[.pointer (some ⟨hb,0,none⟩)] u W fun e u' w'=>u'=u/\(e=.returned (.tuple #[])/\w'=W.setCell ⟨hb,0,none⟩ (.int .i32 0)):=unlock_deferred EC ⟨hb,0,none⟩ u W H.c.1 (H.fz 0)
theorem HW.round{K:Nat->Prop}{w2:World}{x2:Bx}{t2:Bt}{fr2:Nat->List Nat}{ls2:List (Nat×Nat)}{S2:Sb}(H:HW w W hb sb lw x t fr ls S 0)(hK:¬K hb)(k:Kt K (W.setCell ⟨hb,0,none⟩ (.int .i32 1)) w2)(H2:HW w w2 hb sb lw x2 t2 fr2 ls2 S2 1)(e1:x2.bS=x.bS)(e2:x2.lim=x.lim)(e3:x2.o=x.o):Kt K W (w2.setCell ⟨hb,0,none⟩ (.int .i32 0)):=by
 have k1:=(H.set 1).2;refine⟨k.os.trans k1.os,k.tape.trans k1.tape,k.output.trans k1.output,?_,fun i hi hU=>?_⟩
 ·have h1:=k1.size;have h2:=k.size;simp
  omega
 ·by_cases e:i=hb
  ·subst e;rw[bQ H2.bx,H.bx,e1,e2,e3];simp
  ·rw[Below.heap_setCell w2 ⟨hb,0,none⟩ _ i (fun e2=>e e2),k.block i (Nat.lt_of_lt_of_le hi k1.size) hU];exact k1.block i hi e
end
inductive Pk(x:Bx)(t:Bt)(fr:Nat->List Nat)(ls:List (Nat×Nat))(S:Sb)(g:Nat):Prop where
 | slab (k:Nat) (hc:S.c g=some k)
 | big (q k:Nat) (hm:(q,k)∈ls) (hc:S.c q=none) (hg:S.c g=none) (h1:q<=g) (h2:g<q+2 ^ k) (hp:t.m.pg g=aN (if g=q then 2 else 3) (k:Int))
 | free (q j:Nat) (hm:q∈fr j) (hj:j<=x.o) (hg:S.c g=none) (h1:q<=g) (h2:g<q+2 ^ j) (hp:t.m.pg g=aN (if g=q then 0 else 1) (j:Int))
section
variable {w W:World} {sb lw:Nat} {x:Bx} {t:Bt} {fr:Nat->List Nat} {ls:List (Nat×Nat)} {S:Sb} {h:Nat->Int}
theorem SO.kind(o:SO w W sb lw x t fr ls S h){g:Nat}(hg:g<t.m.n):Pk x t fr ls S g:=by
 cases e:S.c g with
 | some k=>exact .slab k e
 | none=>
  have hap:=fun {p k q j:Nat}=>o.apart (p:=p) (k:=k) (q:=q) (j:=j)
  have hme:=fun {p k:Nat}=>o.mem (p:=p) (k:=k)
  have heP:=o.si.eP;obtain⟨B,s,hN,hL⟩:=o.sf;obtain⟨a,p,k,hb,h1,h2⟩:=s.cv g hg;have h9:a≠9:=fun e=>hN p k (e▸hb)
  have hp:=s.pg a p k hb h9 g h1 h2;rw[heP,iG e,Option.getD_none] at hp;rcases s.tg a p k hb with rfl|rfl|rfl
  ·obtain⟨f1,f2⟩:=(s.fi p k).1 hb;exact .free p k f2 f1 e h1 h2 hp
  ·have hm:=(hL p k).1 hb;refine .big p k hm ?_ e h1 h2 hp
   cases e2:S.c p with
   | none=>rfl
   | some c=>
    exfalso
    have hz : 0<2 ^ k:=Nat.pow_pos (by decide);rcases hap (hme e2).1 hm with ⟨_,e3⟩|e3|e3
    ·subst e3;rw[Nat.pow_zero] at h2;obtain rfl:p=g:=(by omega);rw[e] at e2
     cases e2
    ·rw[Nat.pow_zero] at e3;omega
    ·omega
  ·exact absurd rfl h9
theorem SO.cell_liv(o:SO w W sb lw x t fr ls S h){g k i:Nat}(hc:S.c g=some k)(hi:i<aI k):fD x t (aS x g k i)=decide (i ∉ S.fl g):=by
 by_cases hf:i∈S.fl g
 ·rw[decide_eq_false (fun e=>e hf)]
  cases e:fD x t (aS x g k i)with
  | false=>rfl
  | true=>
   exfalso
   have hk:=(o.si.pg g k hc).1;have hme:=o.mem hc;have n4:=o.po.nums.2.2.2.1;obtain⟨g2,k2,i2,v1,v2,v3,v4⟩:=o.liv_of (kM (x:=x) (p:=g) hk hi (by omega)).2.2 e;obtain⟨e1,e2,e3⟩:=o.cell_ne hc hi v1 v2 v4;subst e1 e2 e3;exact v3 hf
 ·rw[decide_eq_true hf];exact(o.of_liv ⟨hc,hi,hf,rfl⟩).1
end
abbrev vV(a s:Nat):Obj:=.cells #[.int .u64 a,.int .u64 s] 45
theorem le8{P:Nat->Prop}(h0:P 0)(h1:P 1)(h2:P 2)(h3:P 3)(h4:P 4)(h5:P 5)(h6:P 6)(h7:P 7)(h8:P 8):∀ k,k<=8->P k:=fun k hk=>by
 rcases Nat.lt_or_ge k 8 with h|h
 ·exact sM h0 h1 h2 h3 h4 h5 h6 h7 k h
 ·obtain rfl:k=8:=by omega
  exact h8
theorem GY:∀ k:Nat,k<=8->∀ (q:Pg) (hq:q.od=(k:Int)) (W:World),
  Calls prog 74 #[cE q] W fun e w'=>e=.returned (.int .u64 ((4096*2 ^ k:Nat):Int))/\Kt nO W w':=by
 apply le8 <;>
 ·intro q hq W;have K0:=aA ((Kt.refl nO W).alloc (aM q));have X0:=aA (nH W (aM q));obtain⟨_,x1,_⟩:=kV X0.out;rw[hq] at x1;clear hq X0;go_enter func74,ntmps74;go_wp2_with fail;go_ret;exact⟨rfl,K0.out⟩
theorem KZ:∀ k:Nat,k<8->∀ (q:Pg) (hq:q.cl=(k:Int)) (W:World),
  Calls prog 112 #[cE q] W fun e w'=>e=.returned (.int .u64 ((aH k:Nat):Int))/\Kt nO W w':=by
 apply sM <;>
 ·intro q hq W;have K0:=aA ((Kt.refl nO W).alloc (aM q));have X0:=aA (nH W (aM q));obtain⟨_,_,x2,_⟩:=kV X0.out;rw[hq] at x2;clear hq X0;go_enter func112,ntmps112;go_wp2_with fail;go_ret;exact⟨rfl,K0.out⟩
section
variable {w W W':World} {hb sb lw:Nat} {x:Bx} {t:Bt} {fr:Nat->List Nat} {ls:List (Nat×Nat)} {S:Sb} {s:Int}
theorem uQ(H:HW w W hb sb lw x t fr ls S s)(n:Nat)(hn:n<=1024):
  Calls prog 73 #[.pointer (some ⟨hb,0,none⟩),.int .i64 n] W fun e w'=>e=.returned (.int .u64 ((x.bS+4096*n:Nat):Int))/\w'=W:=by
 obtain⟨c0,c2,c3,c4,c5,c6⟩:=H.c;have n4:=H.po.nums.2.2.2.1;have hbb:x.bS<=9223372036854775808:=by omega
 clear H;generalize x.bS=b at c2 n4 hbb ⊢;obtain⟨a,ha⟩:=xe (b+4096*n);rw[<-ha];have e1:IntKind.u64.wrap (n:Int)=n:=by rw[wrap_u64];omega
 have e2:IntKind.u64.wrap ((n:Int)*4096)=(n:Int)*4096:=by rw[wrap_u64];omega
 have e3:IntKind.u64.wrap ((b:Int)+(n:Int)*4096)=(a:Int):=by rw[wrap_u64];omega
 have e4:(b:Int)+(n:Int)*4096=(a:Int):=by omega
 clear n4;go_enter func73,ntmps73;go_wp2_with fail;go_ret;exact⟨dX (by omega),rfl⟩
theorem zfW(H:HW w W hb sb lw x t fr ls S s):
  Calls prog 44 #[.pointer (some ⟨hb,0,none⟩)] W fun e w'=>e=.returned (.int .u64 x.n)/\Kt nO W w':=by
 obtain⟨c0,c2,c3,c4,c5,c6⟩:=H.c;have n4:=H.po.nums.2.2.2.1;obtain⟨l0,l1,l2⟩:=H.po.pl.c;have SP:=aA (fun W' (k:Kt nO W W')=>lP (H.keep k).po.pl);have EN:=aA (fun W' (k:Kt nO W W')=>qG (H.keep k).po);obtain⟨b,hb2⟩:=xe (x.bS);obtain⟨en,hen⟩:=xe (x.bS+x.n);rw[<-hen] at EN;obtain⟨n,hn⟩:=xe (x.n);have hbb:b<=9223372036854775808:=by omega
 have e3:(en:Int)-(b:Int)=n:=by omega
 have hnb:n<=9223372036854775808:=by omega
 have heb:en<=9223372036854775808:=by omega
 rw[<-hb2] at c2;rw[<-hn];clear H n4 hb2 hen hn;have C5:=aA (fun W' (k:Kt nO W W')=>(k.cell id c5));have C2:=aA (fun W' (k:Kt nO W W')=>(k.cell id c2));go_enter func44,ntmps44;go_wp2_with fail;have c5':=fun y:KW W=>C5.out y.v y.k
 have c2':=fun y:KW W=>C2.out y.v y.k
 refine bR (by kernel_rfl) (by kernel_rfl) ?_;repeat (go_big_quiet_step (first|(go_at_call 38;exact Calls.kept_of ((SP.out _ (KW.k _)).mono fun e w' h=>⟨h.1,by rw[h.2];exact Kt.refl _ _⟩))|(go_at_call 88;exact Calls.kept_of (EN.out _ (KW.k _)))))
 refine wpQuiet_nil ?_;intro y;have D:=aA y.k;go_wp2_with fail;go_ret;exact⟨by simp,D.out⟩
end
def NF(x:Bx)(fr:Nat->List Nat)(S:Sb)(r:Nat):Prop:=(∃ k,k<8/\r=aH k/\S.pl k=[]/\∀ a,a<=x.o->fr a=[])\/(∃ k,k<=x.o/\r=4096*2 ^ k/\∀ a,k<=a->a<=x.o->fr a=[])
inductive Td(x:Bx)(t:Bt)(fr:Nat->List Nat)(ls:List (Nat×Nat))(S:Sb)(r:Nat)(d:Bool)(p:Nat)(b:Bool)(fr':Nat->List Nat)(ls':List (Nat×Nat))(S':Sb):Prop where
 | old (k g i:Nat) (l rr:List Nat) (hk:k<8) (hr:r=aH k) (hl:S.pl k=g :: l) (hf:S.fl g=i :: rr) (hp:p=aS x g k i) (hb:b=false) (e1:fr'=fr) (e2:ls'=ls) (e3:S'=aR S g k rr)
 | new (k g:Nat) (hk:k<8) (hr:r=aH k) (hl:S.pl k=[]) (hp:p=aS x g k 0) (nd:Ned x t fr d g b fr') (e2:ls'=ls ++ [(g,0)]) (e3:S'=aR (aW S g k) g k (List.range' 1 (aI k-1)))
 | here (k g j:Nat) (l:List Nat) (hk:k<=x.o) (hr:r=4096*2 ^ k) (hkj:k<=j) (hj:j<=x.o) (hz:∀ a,k<=a->a<j->fr a=[]) (hl:fr j=g :: l) (hp:p=ad x g) (hb:b=false) (e1:fr'=cO (cF fr j (M.dropL (fr j) g)) g j k) (e2:ls'=ls ++ [(g,k)]) (e3:S'=S)
 | grew (k:Nat) (hk:k<=x.o) (hr:r=4096*2 ^ k) (hz:∀ a,k<=a->a<=x.o->fr a=[]) (hp:p=ad x t.m.n) (hb:b=true) (e1:fr'=cO fr t.m.n x.o k) (e2:ls'=ls ++ [(t.m.n,k)]) (e3:S'=S)
structure Nx(w W W':World)(hb sb lw:Nat)(x:Bx)(t:Bt)(ls:List (Nat×Nat))(S:Sb)(s:Int)(x':Bx)(t':Bt)(fr':Nat->List Nat)(ls':List (Nat×Nat))(S':Sb):Prop where
 H:HW w W' hb sb lw x' t' fr' ls' S' s
 ch:Ch x t ls S x' t' ls' S'
 kp:Kt (dB x sb) W W'
 ns:∀ y,dB x' sb y->dB x sb y\/W.heap.size<=y
inductive Tq(w W:World)(hb sb lw:Nat)(x:Bx)(t:Bt)(fr:Nat->List Nat)(ls:List (Nat×Nat))(S:Sb)(s:Int)(r:Nat)(d:Bool)(p:Nat)(er:Int)(w':World):Prop where
 | no (hp:p=0) (he:er=2) (nf:NF x fr S r) (hd:d=true\/x.n=x.lim*x.R) (kp:Kt nO W w')
 | yes (x':Bx) (t':Bt) (fr':Nat->List Nat) (ls':List (Nat×Nat)) (S':Sb) (b:Bool) (he:er=0) (td:Td x t fr ls S r d p b fr' ls' S') (nx:Nx w W w' hb sb lw x t ls S s x' t' fr' ls' S') (hL:∀ a z,eO x' ls' S' a z↔eO x ls S a z\/(a=p/\z=r)) (hN:∀ z,¬eO x ls S p z) (hn:x'.n=(if b=true then x.n+x.R else x.n)) (hm:p%r=0) (hb1:b=true->NF x fr S r/\d=false/\x.n+x.R<=x.lim*x.R) (hb2:b=false->¬NF x fr S r)
abbrev qA(p:Nat)(g:Bool)(er:Int):Ending:=.returned (.tuple #[.int .u64 p,.bool g,.int .i64 er])
theorem pE{k j:Nat}(h:aH k=aH j):k=j:=by
 unfold aH at h;exact yC _ _ (Nat.eq_of_mul_eq_mul_left (show 0<16 by decide) h)
theorem tQ{k j:Nat}(h : 4096*2 ^ k=4096*2 ^ j):k=j:=yC _ _ (Nat.eq_of_mul_eq_mul_left (show 0<4096 by decide) h)
theorem lR{k j:Nat}(hk:k<8):aH k≠4096*2 ^ j:=fun e=>by
 have:=(eC hk).2;have : 0<2 ^ j:=Nat.pow_pos (by decide);omega
theorem NF.cell{x fr S k}(hk:k<8):NF x fr S (aH k)↔S.pl k=[]/\∀ a,a<=x.o->fr a=[]:=by
 constructor
 ·rintro (⟨j,h1,h2,h3⟩|⟨j,h1,h2,h3⟩)
  ·obtain rfl:=pE h2;exact h3
  ·exact absurd h2 (lR hk)
 ·exact fun h=>.inl ⟨k,hk,rfl,h⟩
theorem NF.page{x:Bx}{fr S k}(hk:k<=x.o):NF x fr S (4096*2 ^ k)↔∀ a,k<=a->a<=x.o->fr a=[]:=by
 constructor
 ·rintro (⟨j,h1,h2,h3⟩|⟨j,h1,h2,h3⟩)
  ·exact absurd h2.symm (lR h1)
  ·obtain rfl:=tQ h2;exact h3
 ·exact fun h=>.inr ⟨k,hk,rfl,h⟩
theorem zX{b k i p:Nat}(hk:k<8)(hb:b%4096=0):(b+4096*p+i*aH k)%aH k=0:=by
 have hc:=(dQ hk).1;have h1:b=b/4096*(aI k*aH k):=by rw[hc];omega
 rw[h1,show 4096*p=p*(aI k*aH k)by rw[hc];omega,<-Nat.mul_assoc,<-Nat.mul_assoc,<-Nat.add_mul,<-Nat.add_mul];exact Nat.mul_mod_left _ _
section
variable {w W W':World} {hb sb lw:Nat} {x:Bx} {t:Bt} {fr:Nat->List Nat} {ls:List (Nat×Nat)} {S:Sb} {s:Int}
theorem HW.take_small(H:HW w W hb sb lw x t fr ls S s){k:Nat}(hk:k<8)(d:Bool):
  Calls prog 128 #[.pointer (some ⟨sb,0,none⟩),.int .i64 k,.bool d] W fun e w'=>∃ p g er,e=qA p g er/\Tq w W hb sb lw x t fr ls S s (aH k) d p er w':=by
 obtain⟨h,o⟩:=H.so;have hz:=eC hk;refine(UI o (k:Int) d).mono fun e w' hT=>?_
 cases hT with
 | bad hc=>exact absurd ⟨by omega,by omega⟩ hc
 | stuck k2 hk2 hc hl hz2 hd he kp=>
  obtain rfl:k=k2:=by omega
  exact⟨0,false,2,he,.no rfl rfl ((NF.cell hk).2 ⟨hl,hz2⟩) hd kp⟩
 | old k2 p i l r hk2 hc hl hf he so kp=>
  obtain rfl:k=k2:=by omega
  obtain⟨P,m',h',so',hn⟩:=so;have hcp:=((o.si.pm k hk p).1 (by rw[hl];exact List.mem_cons_self)).1;have hL:∀ a z,eO { x with P:=P } ls (aR S p k r) a z↔eO x ls S a z\/(a=aS x p k i/\z=aH k):=fun a z=>by
   rw[tW (x:=x) (x':={ x with P:=P }) rfl];exact PM o hcp hf a z
  have ch:Ch x t ls S { x with P:=P } { t with m:=m' } ls (aR S p k r):=⟨rfl,rfl,rfl,rfl,fun j _ _=>rfl⟩;refine⟨aS x p k i,false,0,he,.yes _ _ _ _ _ false rfl (.old k p i l r hk rfl hl hf rfl rfl rfl rfl rfl) ⟨H.call so' (gJ.old o H.lv hk hl hf) ch kp,ch,kp,fun y e=>.inl e⟩ hL (o.free_no hcp (by rw[hf];exact List.mem_cons_self)) rfl (zX hk o.bm) (fun e=>by cases e) (fun _ e=>?_)⟩;have:=((NF.cell hk).1 e).1;rw[hl] at this
  cases this
 | new k2 p b hk2 hc hl he so hcp nl kp=>
  obtain rfl:k=k2:=by omega
  obtain⟨x',t',fr',h',hN,so',sm,hfb,nb,htn,hxn'⟩:=so;have hL:∀ a z,eO x' (ls ++ [(p,0)]) (aR (aW S p k) p k (List.range' 1 (aI k-1))) a z↔eO x ls S a z\/(a=aS x p k 0/\z=aH k):=fun a z=>by
   rw[tW (x:=x) (x':=x') sm.bS];exact PK hk hcp nl a z
  have hno:∀ z,¬eO x ls S (aS x p k 0) z:=fun z e=>by
   have h0 : 0<z:=(o.span e).1;obtain⟨_,q,j,q1,q2,q3⟩:=o.span e;have hz2 : 0<2 ^ j:=Nat.pow_pos (by decide);unfold aS at q2 q3;unfold ad at q2 q3;rcases so'.apart (List.mem_append_left _ q1) (List.mem_append_right ls (List.mem_singleton.2 rfl))with ⟨e3,e4⟩|e3|e3
   ·subst e3;exact nl _ q1
   ·omega
   ·rw[Nat.pow_zero] at e3;omega
  have ch:Ch x t ls S x' t' (ls ++ [(p,0)]) (aR (aW S p k) p k (List.range' 1 (aI k-1))):=⟨sm.bS,sm.R,sm.lim,sm.o,fun j h1 _=>hfb j (o.byte h1)⟩;refine⟨aS x p k 0,b,0,he,.yes _ _ _ _ _ b rfl (.new k p hk rfl hl rfl hN rfl rfl) ⟨H.call so' (H.lv.new hk) ch kp,ch,kp,fun y e=>e.elim (fun e=>(nb y e).imp (fun e=>.inl e) id) (fun e=>.inl (.inr e))⟩ hL hno hxn' (zX hk o.bm) (fun e=>?_) (fun e hf=>?_)⟩
  ·cases hN with
   | here j l2 hj hz2 hp hb=>rw[hb] at e;cases e
   | grew hz2 hd hle hb hp=>exact⟨(NF.cell hk).2 ⟨hl,hz2⟩,hd,hle⟩
  ·cases hN with
   | here j l2 hj hz2 hp hb=>
    have:=((NF.cell hk).1 hf).2 j hj;rw[hp] at this
    cases this
   | grew hz2 hd hle hb hp=>rw[hb] at e;cases e
theorem HW.need_big(H:HW w W hb sb lw x t fr ls S s){k:Nat}(hk:k<=x.o)(d:Bool):
  Calls prog 130 #[.pointer (some ⟨lw,0,none⟩),.int .i64 k,.bool d] W fun e w'=>∃ p g er,e=qA p g er/\Tq w W hb sb lw x t fr ls S s (4096*2 ^ k) d p er w':=by
 obtain⟨h,o⟩:=H.so;have hz : 0<2 ^ k:=Nat.pow_pos (by decide);have key:∀ (p:Nat) (b:Bool) (x':Bx) (t':Bt) (fr':Nat->List Nat) (e:Ending) (w':World),e=.returned (.tuple #[.int .u64 ((ad x p:Nat):Int),.bool b,.int .i64 0])->PO w w' lw x' t' fr' (ls ++ [(p,k)])->Sm x x'->BK t t' ls (ls ++ [(p,k)])->Nb W x x'->Kt (aC x) W w'->S.c p=none->(∀ i,(p,i) ∉ ls)->x'.n=(if b=true then x.n + x.R else x.n)->Td x t fr ls S (4096*2 ^ k) d (ad x p) b fr' (ls ++ [(p,k)]) S->(b=true->NF x fr S (4096*2 ^ k)/\d=false/\x.n + x.R<=x.lim*x.R)->(b=false->¬NF x fr S (4096*2 ^ k))->∃ p g er,e=qA p g er/\Tq w W hb sb lw x t fr ls S s (4096*2 ^ k) d p er w':=by
  rintro p b x' t' fr' e w' he po' sm bk nb kp hcp nl hxn td h1 h2;have o':=o.pool po' sm bk (fun a c ha=>List.mem_append_left _ (o.mem ha).1) kp;have hL:∀ a z,eO x' (ls ++ [(p,k)]) S a z↔eO x ls S a z\/(a=ad x p/\z=4096*2 ^ k):=fun a z=>by
   rw[tW (x:=x) (x':=x') sm.bS];exact UQ hcp a z
  have hal:p%2 ^ k=0:=(o'.al (List.mem_append_right ls (List.mem_singleton.2 rfl))).2.1;have hno:∀ z,¬eO x ls S (ad x p) z:=fun z e=>by
   have h0 : 0<z:=(o.span e).1;obtain⟨_,q,j,q1,q2,q3⟩:=o.span e;have hz2 : 0<2 ^ j:=Nat.pow_pos (by decide);unfold ad at q2 q3;rcases o'.apart (List.mem_append_left _ q1) (List.mem_append_right ls (List.mem_singleton.2 rfl))with ⟨e3,e4⟩|e3|e3
   ·subst e3;exact nl _ q1
   ·omega
   ·omega
  have ch:Ch x t ls S x' t' (ls ++ [(p,k)]) S:=⟨sm.bS,sm.R,sm.lim,sm.o,fun j h1 h2=>bk j (o.byte h1) (o'.byte h2)⟩;have kp2:Kt (dB x sb) W w':=kp.mono (fun _ _ e=>.inl e);refine⟨ad x p,b,0,he,.yes x' t' fr' _ S b rfl td ⟨H.call o' H.lv ch kp2,ch,kp2,fun y e=>e.elim (fun e=>(nb y e).imp (fun e=>.inl e) id) (fun e=>.inl (.inr e))⟩ hL hno hxn ?_ h1 h2⟩;have hR:=o.sw.pl.bd.hR;have h1 : 4096*2 ^ k ∣ x.bS:=Nat.dvd_trans (by rw[hR];exact Nat.mul_dvd_mul_left _ (Nat.pow_dvd_pow 2 hk)) (Nat.dvd_of_mod_eq_zero H.br);have h2 : 4096*2 ^ k ∣ 4096*p:=Nat.mul_dvd_mul_left _ (Nat.dvd_of_mod_eq_zero hal);exact Nat.mod_eq_zero_of_dvd (Nat.dvd_add h1 h2)
 refine(K.Need_any o.po (k:Int) d).mono fun e w' hN=>?_
 cases hN with
 | bad hb he kp=>
  exfalso
  rw[FH hk] at hb
  cases hb
 | stuck i hi hi2 hz2 hd he kp=>
  obtain rfl:k=i:=by omega
  exact⟨0,false,2,he,.no rfl rfl ((NF.page hk).2 hz2) hd kp⟩
 | here i j p l hi hi2 hij hj hz2 hp he hs kp=>
  obtain rfl:k=i:=by omega
  obtain⟨t',po',hn,bk⟩:=hs;have hcp:S.c p=none:=by
   have h1:=o.sf.pfree hj (show p∈fr j by rw[hp];exact List.mem_cons_self)
   cases e:S.c p with
   | none=>rfl
   | some c=>
    rw[o.si.eP,jD e] at h1
    cases h1
  refine key p false x t' _ e w' he po' (Sm.refl x) bk (fun y e=>.inl e) kp hcp (fun i hm2=>?_) rfl (.here k p j l hk rfl hij hj hz2 hp rfl rfl rfl rfl rfl) (fun e=>by cases e) (fun _ e=>?_)
  ·have h0:=o.sf.apart0 hj (show p∈fr j by rw[hp];exact List.mem_cons_self) hm2;have hz1 : 0<2 ^ i:=Nat.pow_pos (by decide);have hz2 : 0<2 ^ j:=Nat.pow_pos (by decide);omega
  ·have:=(NF.page hk).1 e j hij hj;rw[hp] at this
   cases this
 | grew i hi hi2 hz2 hd hle he hs kp=>
  obtain rfl:k=i:=by omega
  obtain⟨x',t',po',sm,hn,htn,nb,bk⟩:=hs;have hcp:S.c t.m.n=none:=by
   have h1:=o.sf.pout (Nat.le_refl t.m.n)
   cases e:S.c t.m.n with
   | none=>rfl
   | some c=>
    rw[o.si.eP,jD e] at h1
    cases h1
  refine key t.m.n true x' t' _ e w' he po' sm bk nb kp hcp (fun i hm2=>?_) (by rw[if_pos rfl];exact hn) (.grew k hk rfl hz2 rfl rfl rfl rfl rfl) (fun _=>⟨(NF.page hk).2 hz2,hd,hle⟩) (fun e=>by cases e);have:=(o.al hm2).2.2;have hz1 : 0<2 ^ i:=Nat.pow_pos (by decide);omega
end
open Go.RowKit Go.MapKept
open Go.ChangeMaps (setBlock heap_setBlock_same heap_setBlock_other)
open Go.Maps (Keyed)
structure KT(k:TypeId){α : Type}(enc : α->Value)(ok : α->Prop):Prop where
 K:Keyed prog k
 key:∀ a,ok a->∃ l,keyOf prog k (enc a)=some l
 inj:∀ a b,ok a->ok b->enc a=enc b->a=b
abbrev eB(n:Nat):Value:=.int .i64 n
def fL(e:MapEntry):Value×Value:=(e.key,e.val)
section
variable {α : Type} {enc : α->Value} {ok : α->Prop} {k e t:TypeId} {w w':World} {b r:Nat} {D rest:List α} {c : α->Nat}
def eK(enc : α->Value)(c : α->Nat)(a : α):Value×Value:=(enc a,eB (c a))
structure MC(enc : α->Value)(ok : α->Prop)(w:World)(b:Nat)(D:List α)(c : α->Nat):Prop where
 ex:∃ es clock,w.heap[b]?=some (.map es clock)/\Stamped es clock/\es.toList.map fL=D.map (eK enc c)
 lt:∀ a∈D,ok a
 z:∀ a,a ∉ D->c a=0
theorem MC.nodup(h:MC enc ok w b D c):D.Nodup:=by
 obtain⟨⟨es,clock,hb,hst,hL⟩,hlt,_⟩:=h;have h3:=((stamped_iff es clock).1 hst).2.2;have h4:(es.toList.map fL).Pairwise (fun x y=>x.1≠y.1):=List.pairwise_map.2 h3;rw[hL] at h4;exact(List.pairwise_map.1 h4).imp fun {p q} hne e=>hne (by rw[e])
theorem MC.ltsz(h:MC enc ok w b D c):b<w.heap.size:=by
 obtain⟨⟨es,clock,hb,_⟩,_⟩:=h;exact(Array.getElem?_eq_some_iff.1 hb).1
theorem MC.kept{S:Nat->Prop}(h:MC enc ok w b D c)(k:Kt S w w')(hb:¬S b):MC enc ok w' b D c:=by
 have hl:=h.ltsz;obtain⟨⟨es,clock,h1,h2⟩,h3,h4⟩:=h;exact⟨⟨es,clock,(k.block b hl hb).trans h1,h2⟩,h3,h4⟩
theorem MC.made(w:World):MC enc ok (w.alloc (.map #[] 0)) w.heap.size [] (fun _=>0):=
 ⟨⟨#[],0,nH w _,stamped_empty 0,rfl⟩,(fun p hp=>by cases hp),fun _ _=>rfl⟩
theorem MC.find(T:KT k enc ok)(h:MC enc ok w b D c){es:Array MapEntry}(hL:es.toList.map fL=D.map (eK enc c))(a : α)(ha:ok a):
  ((Instr.findKey k (enc a) es.toList).run prog w=.ok none w/\a ∉ D/\∀ x∈es.toList,x.key≠enc a)\/
  ∃ j e0,(Instr.findKey k (enc a) es.toList).run prog w=.ok (some (j,e0.val)) w/\es.toList[j]?=some e0/\e0.key=enc a/\D[j]?=some a/\e0.val=eB (c a):=by
 obtain⟨l,hl⟩:=T.key a ha;rcases T.K.find w hl es.toList (fun x hx=>by
   have:fL x∈D.map (eK enc c):=by rw[<-hL];exact List.mem_map.2 ⟨x,hx,rfl⟩
   obtain⟨p,hp,e1⟩:=List.mem_map.1 this;obtain⟨m,hm⟩:=T.key p (h.lt p hp);exact⟨m,by rw[<-hm];exact congrArg _ (congrArg Prod.fst e1).symm⟩)with ⟨h1,h2⟩|⟨j,e0,h1,h2,h3⟩
 ·refine .inl ⟨h1,fun hD=>?_,h2⟩;have:eK enc c a∈es.toList.map fL:=by rw[hL];exact List.mem_map.2 ⟨a,hD,rfl⟩
  obtain⟨x,hx,e2⟩:=List.mem_map.1 this;exact h2 x hx (congrArg Prod.fst e2)
 ·refine .inr ⟨j,e0,h1,h2,h3,?_⟩;have e1:=congrArg (fun l=>l[j]?) hL;simp only[List.getElem?_map,h2,Option.map_some] at e1
  cases hD:D[j]? with
  | none=>rw[hD] at e1;cases e1
  | some p=>
   rw[hD] at e1;have e2:fL e0=eK enc c p:=Option.some.inj e1;have e3:p=a:=T.inj p a (h.lt p (List.mem_of_getElem? hD)) ha ((congrArg Prod.fst e2).symm.trans h3);subst e3;exact⟨rfl,congrArg Prod.snd e2⟩
theorem MC.look(T:KT k enc ok)(h:MC enc ok w b D c)(ht:prog.underlying t=some (.map k e))(hz:(zeroValue e).run prog w=.ok (.int .i64 0) w)(a : α)(ha:ok a):
  (Instr.lookup t (.map (some b)) (enc a) false).run prog w=.ok (eB (c a)) w:=by
 have h0:=h;obtain⟨⟨es,clock,hb,hst,hL⟩,hlt,h9⟩:=h;obtain⟨l,hl⟩:=T.key a ha;rcases h0.find T hL a ha with ⟨h1,h2,h3⟩|⟨j,e0,h1,h2,h3,h4,h5⟩
 ·simp[Instr.lookup,run_underlying ht,MapKept.run_getObj_map hb,T.K.check w _ hl,h1,hz,h9 a h2,Result.andThen]
 ·simp[Instr.lookup,run_underlying ht,MapKept.run_getObj_map hb,T.K.check w _ hl,h1,h5,Result.andThen]
theorem nX{w:World}{b:Nat}{o:Obj}(hb:b<w.heap.size):Kt (fun x=>x=b) w (setBlock w b o):=
 ⟨rfl,rfl,rfl,by simp[setBlock],fun i hi hne=>by simp[setBlock,Ne.symm hne]⟩
open Classical in
noncomputable def bA(D:List α)(a : α):List α:=if a∈D then D else D ++ [a]
theorem nU(a x : α):x∈bA D a↔x∈D\/x=a:=by
 unfold bA;split
 ·rename_i h;exact⟨.inl,fun h2=>h2.elim id (fun e=>e▸h)⟩
 ·simp
theorem UV(a : α):(bA D a).length<=D.length+1:=by
 unfold bA;split <;> simp
theorem MC.store(T:KT k enc ok)(h:MC enc ok w b D c)(ht:prog.underlying t=some (.map k e))(hm:D.length<maxLen)(a : α)(ha:ok a)(v:Nat)(c' : α->Nat)(hc:c' a=v)(hc2:∀ x,x≠a->c' x=c x):
  ∃ w',(Instr.mapUpdate t (.map (some b)) (enc a) (eB v)).run prog w=.ok () w'/\MC enc ok w' b (bA D a) c'/\Kt (fun x=>x=b) w w'/\w'.heap.size=w.heap.size:=by
 have h0:=h;have hnd:=h.nodup;obtain⟨⟨es,clock,hb,hst,hL⟩,hlt,h9⟩:=h;obtain⟨l,hl⟩:=T.key a ha;have hbl:=h0.ltsz;have hlen:es.size<maxLen:=by
  have:=congrArg List.length hL;simp at this;omega
 have hlt':∀ x∈bA D a,ok x:=fun x hx=>((nU a x).1 hx).elim (hlt x) (fun e=>e▸ha)
 have hz':∀ x,x ∉ bA D a->c' x=0:=fun x hx=>by
  have h1:¬(x∈D\/x=a):=fun h2=>hx ((nU a x).2 h2)
  rw[hc2 x (fun e=>h1 (.inr e))];exact h9 x (fun e=>h1 (.inl e))
 rcases h0.find T hL a ha with ⟨h1,h2,h3⟩|⟨j,e0,h1,h2,h3,h4,h5⟩
 ·have eD:bA D a=D ++ [a]:=by unfold bA;rw[if_neg h2]
  refine⟨setBlock w b (.map (es.push ⟨enc a,eB v,clock⟩) (clock+1)),?_,⟨⟨_,_,heap_setBlock_same hb _,stamped_push hst h3,?_⟩,hlt',hz'⟩,nX hbl,by simp[setBlock]⟩
  ·simp[Instr.mapUpdate,run_underlying ht,MapKept.run_getObj_map hb,T.K.check w false hl,h1,MapKept.run_setObj_map _ hb,Result.andThen,setBlock]
  ·have e1:D.map (eK enc c)=D.map (eK enc c'):=List.map_congr_left fun x hx=>by
    unfold eK;rw[hc2 x (fun e=>h2 (e▸hx))]
   have e2:fL ⟨enc a,eB v,clock⟩=eK enc c' a:=by
    unfold fL eK;rw[hc]
   rw[eD,Array.toList_push,List.map_append,List.map_append,hL,e1,List.map_singleton,List.map_singleton,e2]
 ·have eD:bA D a=D:=by unfold bA;rw[if_pos (List.mem_of_getElem? h4)]
  have hj:es[j]?=some e0:=by simpa using h2
  have hkeyf:∀ e'∈es.toList,es[j]?=some e'->({ e' with key:=enc a,val:=eB v } : MapEntry).key=e'.key:=fun e' _ he'=>by rw[hj] at he';cases he';exact h3.symm
  refine⟨setBlock w b (.map (es.modify j (fun e'=>{ e' with key:=enc a,val:=eB v })) clock),?_,⟨⟨_,_,heap_setBlock_same hb _,stamped_modify hst _ _ (fun _ _=>rfl) hkeyf,?_⟩,hlt',hz'⟩,nX hbl,by simp[setBlock]⟩
  ·simp[Instr.mapUpdate,run_underlying ht,MapKept.run_getObj_map hb,T.K.check w false hl,h1,hj,h3,T.K.stays w hl,MapKept.run_setObj_map _ hb,Result.andThen,setBlock]
  ·rw[eD];apply List.ext_getElem?
   intro i;have hi:=congrArg (fun l=>l[i]?) hL;simp only[List.getElem?_map] at hi;simp only[List.getElem?_map,Array.getElem?_toList,Array.getElem?_modify];simp only[Array.getElem?_toList] at hi
   cases hD:D[i]? with
   | none=>
    rw[hD] at hi
    cases he:es[i]? with
    | none=>split <;> simp
    | some x=>rw[he] at hi;cases hi
   | some p=>
    rw[hD] at hi
    cases he:es[i]? with
    | none=>rw[he] at hi;cases hi
    | some x=>
     rw[he] at hi;have hxe:fL x=eK enc c p:=Option.some.inj hi;by_cases hij:j=i
     ·subst hij;rw[h4] at hD
      cases hD
      simp[fL,eK,hc]
     ·have hpn:p≠a:=fun e1=>by
       obtain⟨q1,q1'⟩:=List.getElem?_eq_some_iff.1 h4;obtain⟨q2,q2'⟩:=List.getElem?_eq_some_iff.1 hD;rcases Nat.lt_or_gt_of_ne hij with hlt'|hlt'
       ·exact List.pairwise_iff_getElem.1 hnd j i q1 q2 hlt' (q1'.trans (e1.symm.trans q2'.symm))
       ·exact List.pairwise_iff_getElem.1 hnd i j q2 q1 hlt' (q2'.trans (e1.trans q1'.symm))
      simp only[hij,if_false,Option.map_some,hxe];unfold eK;rw[hc2 p hpn]
theorem MC.len(h:MC enc ok w b D c)(ht:prog.underlying t=some (.map k e))(ty:TypeId):(Builtin.len_ #[t] ty #[.map (some b)]).run prog w=.ok (.int .i64 D.length) w:=by
 obtain⟨⟨es,clock,hb,hst,hL⟩,hlt⟩:=h;have:=congrArg List.length hL;simp at this;simp[Builtin.len_,run_underlying ht,MapKept.run_getObj_map hb,goInt,Result.andThen,this]
def RC(enc : α->Value)(w:World)(b r:Nat)(D:List α)(c : α->Nat)(rest:List α):Prop:=
 ∃ es clock since seen c0,w.heap[b]?=some (.map es clock)/\Stamped es clock/\es.toList.map fL=D.map (eK enc c)/\w.heap[r]?=some (.mapIter (some b) since seen c0)/\(∀ x∈es.toList,x.born<since)/\since<=c0/\since<=clock/\((leftOf es seen).toList.map fL).Perm (rest.map (eK enc c))
theorem RC.left_eq(h:RC enc w b r D c rest):w.rangeLeft b r=rest.length:=by
 obtain⟨es,clock,since,seen,c0,hb,hst,hL,hr,h1,h2,h3,hp⟩:=h;simp only[World.rangeLeft,hb,hr];simpa using hp.length_eq
theorem RC.ne(h:RC enc w b r D c rest):r≠b:=by
 obtain⟨es,clock,since,seen,c0,hb,hst,hL,hr,h1,h2,h3,hp⟩:=h;intro e;rw[e,hb] at hr
 cases hr
theorem RC.lts(h:RC enc w b r D c rest):b<w.heap.size/\r<w.heap.size:=by
 obtain⟨es,clock,since,seen,c0,hb,hst,hL,hr,h1,h2,h3,hp⟩:=h;exact⟨(Array.getElem?_eq_some_iff.1 hb).1,(Array.getElem?_eq_some_iff.1 hr).1⟩
theorem RC.kept{S:Nat->Prop}(h:RC enc w b r D c rest)(k:Kt S w w')(hb:¬S b)(hr:¬S r):RC enc w' b r D c rest:=by
 have hl:=h.lts;obtain⟨es,clock,since,seen,c0,h1,h2,h3,h4,h5⟩:=h;exact⟨es,clock,since,seen,c0,(k.block b hl.1 hb).trans h1,h2,h3,(k.block r hl.2 hr).trans h4,h5⟩
theorem MC.range(h:MC enc ok w b D c)(ht:prog.underlying t=some (.map k e)):
  ∃ w',(Instr.range t (.map (some b))).run prog w=.ok (.pointer (some ⟨w.heap.size,0,none⟩)) w'/\RC enc w' b w.heap.size D c D/\Kt (fun _=>False) w w'/\w'.heap.size=w.heap.size+1:=by
 have hl:=h.ltsz;obtain⟨⟨es,clock,hb,hst,hL⟩,hlt⟩:=h;refine⟨_,run_range_map w t k e b es clock ht hb,⟨es,clock,clock,#[],clock,?_,hst,hL,nH w _,((stamped_iff es clock).1 hst).1,Nat.le_refl _,Nat.le_refl _,?_⟩,(Kt.refl _ w).alloc _,by simp⟩
 ·rw[Below.heap_alloc _ _ _ hl];exact hb
 ·have:leftOf es #[]=es:=by simp[leftOf]
  rw[this,hL]
theorem AY(e:MapEntry)(seen:Array Nat):∀ (l:List MapEntry),(l.map (·.born)).Nodup->e∈l->seen.contains e.born=false->
  (l.filter (fun x=>!seen.contains x.born)).Perm (e :: l.filter (fun x=>!(seen.push e.born).contains x.born))
 | [],_,h,_=>by cases h
 | a :: l,hn,h,hs=>by
  obtain⟨h1,h2⟩:=List.nodup_cons.1 (by simpa using hn:(a.born :: l.map (·.born)).Nodup);have hcp:∀ x:MapEntry,(seen.push e.born).contains x.born=(seen.contains x.born || x.born == e.born):=fun x=>contains_push _ _ _
  rcases List.mem_cons.1 h with rfl|h'
  ·have e1:l.filter (fun x=>!(seen.push e.born).contains x.born)=l.filter (fun x=>!seen.contains x.born):=by
    refine List.filter_congr fun x hx=>?_
    have hxe:(x.born == e.born)=false:=by
     rw[beq_eq_false_iff_ne];exact fun e2=>h1 (List.mem_map.2 ⟨x,hx,e2⟩)
    rw[hcp,hxe,Bool.or_false]
   simp only[List.filter_cons,hs,hcp,beq_self_eq_true,Bool.or_true,Bool.not_false,Bool.not_true,if_true,Bool.false_eq_true,if_false];simp only[hcp] at e1;rw[e1]
  ·have ih:=AY e seen l h2 h' hs;have hae:(a.born == e.born)=false:=by
    rw[beq_eq_false_iff_ne];exact fun e2=>h1 (List.mem_map.2 ⟨e,h',e2.symm⟩)
   simp only[List.filter_cons,hcp,hae,Bool.or_false];simp only[hcp] at ih
   cases hc:seen.contains a.born
   ·simp only[Bool.not_false,if_true];exact(ih.cons a).trans (List.Perm.swap e a _)
   ·simp only[Bool.not_true,Bool.false_eq_true,if_false];exact ih
theorem RC.next(h:RC enc w b r D c rest)(ty:TypeId):
  (rest=[]/\(Instr.next (.pointer (some ⟨r,0,none⟩)) false ty).run prog w=.ok (.tuple #[.bool false]) w)\/
  ∃ a rest' w',rest.Perm (a :: rest')/\(Instr.next (.pointer (some ⟨r,0,none⟩)) false ty).run prog w=.ok (.tuple #[.bool true,enc a,eB (c a)]) w'/\RC enc w' b r D c rest'/\Kt (fun x=>x=r) w w'/\w'.heap.size=w.heap.size/\
   (Instr.entry (.pointer (some ⟨r,0,none⟩))).run prog w'=.ok (.tuple #[enc a,eB (c a)]) w':=by
 have hne:=h.ne;have hlts:=h.lts;obtain⟨es,clock,since,seen,c0,hb,hst,hL,hr,h1,h2,h3,hp⟩:=h;have hborn:=((stamped_iff es clock).1 hst).2.1;rcases run_next_at (P:=prog) w ty r b since c0 seen es clock hr hb h1 h2 with ⟨h0,hrun⟩|⟨e,he,w1,hal,hrun⟩
 ·refine Or.inl ⟨?_,hrun⟩;have:=hp.length_eq;simp at this;have h0':rest.length=0:=by omega
  exact List.length_eq_zero_iff.1 h0'
 ·obtain⟨hem,hes⟩:=mem_left he;have hin:fL e∈rest.map (eK enc c):=hp.mem_iff.1 (List.mem_map.2 ⟨e,he,rfl⟩);obtain⟨p,hpr,hpe⟩:=List.mem_map.1 hin;obtain⟨s,t',hst'⟩:=List.append_of_mem hpr;have hk1:e.key=enc p:=(congrArg Prod.fst hpe).symm;have hk2:e.val=eB (c p):=(congrArg Prod.snd hpe).symm;rw[hk1,hk2] at hrun;have hr1:w1.heap[r]?=some (.mapIter (some b) since seen c0):=by rcases hal with rfl|rfl <;> exact hr
  have hb1:w1.heap[b]?=some (.map es clock):=by rcases hal with rfl|rfl <;> exact hb
  have hset:=Go.MapKept.heap_set (o':=.mapIter (some b) since (seen.push e.born) clock) hr1;have hb':(setBlock w1 r (.mapIter (some b) since (seen.push e.born) clock)).heap[b]?=some (.map es clock):=(hset.2 b (fun e1=>hne e1.symm)).trans hb1;have hperm:rest.Perm (p :: (s ++ t')):=by rw[hst'];exact List.perm_middle
  refine Or.inr ⟨p,s ++ t',_,hperm,hrun,⟨es,clock,since,seen.push e.born,clock,hb',hst,hL,hset.1,h1,h3,h3,?_⟩,?_,?_,?_⟩
  ·have hlp:(leftOf es seen).toList.Perm (e :: (leftOf es (seen.push e.born)).toList):=by
    simp only[leftOf,Array.toList_filter];exact AY e seen es.toList hborn hem hes
   have h7:=(hlp.map fL).symm.trans (hp.trans (hperm.map (eK enc c)));simp only[List.map_cons,hpe] at h7;exact h7.cons_inv
  ·have hl1:r<w1.heap.size:=by rcases hal with rfl|rfl <;> exact hlts.2
   have k1:Kt (fun x=>x=r) w w1:=by
    rcases hal with rfl|rfl
    ·exact Kt.refl _ _
    ·exact(Kt.refl _ _).drew
   exact k1.trans (nX hl1) (fun _ _ h=>h) (fun _ _ h=>h)
  ·rcases hal with rfl|rfl <;> simp[setBlock]
  ·have:=run_entry_at (P:=prog) _ r b since seen es clock e hset.1 hb' hem hborn;rw[hk1,hk2] at this;exact this
end
section
variable {α : Type} {enc : α->Value} {ok : α->Prop} (w:World) {ops:Array Oper} {rest:List Oper} {o:Oper} {a:Act} {Q:Exit->Act->World->Prop} {D:List α} {c : α->Nat}
theorem uI(hg:o.guard=none)(m x:Operand)(t:TypeId)(hop:o.op=Op.lookup t m x false)(k e:TypeId)(T:KT k enc ok)(ht:prog.underlying t=some (.map k e))(hz:(zeroValue e).run prog w=.ok (.int .i64 0) w)
  (b:Nat) (hm:a.eval m=.map (some b)) (h:MC enc ok w b D c) (n : α) (hn:ok n) (hx:a.eval x=enc n) (v:Nat) (hv:c n=v)
  (hK:wpList prog ops Q rest (a.put o.dst (eB v)) w):wpList prog ops Q (o :: rest) a w:=by
 refine wpList_plain hg fun K' hK'=>?_
 have hrun:=h.look T ht hz n hn;rw[hv] at hrun;unfold Oper.wp;simp[execOp,hop,hm,hx,hrun,Result.andThen];exact hK' _ _ hK
theorem WT(hg:o.guard=none)(m x v:Operand)(t:TypeId)(hop:o.op=Op.mapUpdate t m x v)(k e:TypeId)(T:KT k enc ok)(ht:prog.underlying t=some (.map k e))
  (b:Nat) (hm:a.eval m=.map (some b)) (h:MC enc ok w b D c) (hl:D.length<maxLen) (n : α) (hn:ok n) (hx:a.eval x=enc n) (val:Nat) (c' : α->Nat) (hc:c' n=val) (hc2:∀ x,x≠n->c' x=c x) (hv:a.eval v=eB val)
  (hK:∀ w',MC enc ok w' b (bA D n) c'->Kt (fun x=>x=b) w w'->w'.heap.size=w.heap.size->wpList prog ops Q rest (a.put o.dst undef) w'):wpList prog ops Q (o :: rest) a w:=by
 refine wpList_plain hg fun K' hK'=>?_
 obtain⟨w',hrun,r1,r2,r3⟩:=h.store T ht hl n hn val c' hc hc2;unfold Oper.wp;simp[execOp,hop,hm,hx,hv,hrun,Result.andThen];exact hK' _ _ (hK w' r1 r2 r3)
theorem AX(hg:o.guard=none)(m:Operand)(t:TypeId)(hop:o.op=Op.range t m)(k e:TypeId)(ht:prog.underlying t=some (.map k e))(b:Nat)(hm:a.eval m=.map (some b))(h:MC enc ok w b D c)
  (hK:∀ w',RC enc w' b w.heap.size D c D->Kt (fun _=>False) w w'->w'.heap.size=w.heap.size+1->wpList prog ops Q rest (a.put o.dst (.pointer (some ⟨w.heap.size,0,none⟩))) w'):wpList prog ops Q (o :: rest) a w:=by
 refine wpList_plain hg fun K' hK'=>?_
 obtain⟨w',hrun,r1,r2,r3⟩:=h.range ht;unfold Oper.wp;simp[execOp,hop,hm,hrun,Result.andThen];exact hK' _ _ (hK w' r1 r2 r3)
theorem zI(hg:o.guard=none)(it:Operand)(hop:o.op=Op.next it false)(b r:Nat)(left:List α)(hit:a.eval it=.pointer (some ⟨r,0,none⟩))(h:RC enc w b r D c left)
  (hDone:left=[]->wpList prog ops Q rest (a.put o.dst (.tuple #[.bool false])) w)
  (hMore:∀ (n : α) (left':List α) (w':World),left.Perm (n :: left')->RC enc w' b r D c left'->Kt (fun x=>x=r) w w'->w'.heap.size=w.heap.size->
   (Instr.entry (.pointer (some ⟨r,0,none⟩))).run prog w'=.ok (.tuple #[enc n,eB (c n)]) w'->wpList prog ops Q rest (a.put o.dst (.tuple #[.bool true,enc n,eB (c n)])) w'):
  wpList prog ops Q (o :: rest) a w:=by
 refine wpList_plain hg fun K' hK'=>?_
 unfold Oper.wp;rcases h.next o.type with ⟨h0,hrun⟩|⟨p,left',w',hp,hrun,h1,h2,h3,h4⟩
 ·simp[execOp,hop,hit,hrun,Result.andThen];exact hK' _ _ (hDone h0)
 ·simp[execOp,hop,hit,hrun,Result.andThen];exact hK' _ _ (hMore p left' w' hp h1 h2 h3 h4)
end
end Go.Proofs.YtkfmheelhinjdaaGreatDoor
