import Derived.Test.YtfmgnljlkdmndaaGreatDoorWc
set_option maxRecDepth 1000000
set_option maxHeartbeats 80000000
namespace Go.Proofs.YtfmgnljlkdmndaaGreatDoor
open Tryz
open Go.RowKit
set_option linter.unusedVariables false
theorem tJ{m:Mp}{p i:Nat}{l:Bool}(hp:p<m.n)(a:(m.pg p).kd=4)(hi:i<eJ (m.pg p).cl)(hl:aI (m.pg p) i=!l):eD m (p:Int) (i:Int) l=0/\bX m (p:Int) (i:Int) l={ m with pg:=aG m.pg p (aT (m.pg p) i) }:=by
 have hc:jQ m (p:Int) (i:Int) l=true:=by
  unfold jQ oO;rw[aa,aa,dQ hp,af a,dQ hi,hl]
  cases l <;> rfl
 unfold eD bX;rw[ae hc,ae hc,aa,aa];exact⟨rfl,rfl⟩
theorem uF{m:Mp}{p:Nat}{c:Int}(hp:p<m.n)(a:(m.pg p).kd=4)(hc:c = -1\/∃ j:Nat,c=(j:Int)/\j<eJ (m.pg p).cl):fW m (p:Int) c={ m with pg:=aG m.pg p { m.pg p with fs:=c } }:=by
 have h:lN m (p:Int) c=true:=by
  unfold lN;rw[aa,dQ hp,af a];rcases hc with rfl|⟨j,rfl,b⟩
  ·rfl
  ·rw[dQ b,Bool.or_true];rfl
 unfold fW;rw[ae h,aa]
def nE(m:Mp)(p i:Nat)(r:List Nat):Mp:=fW (bX m (p:Int) (i:Int) true) (p:Int) (bC r)
def eZ(m:Mp)(p i:Nat)(r:List Nat):Mp:=if r=[] then gU (nE m p i r) (p:Int) else nE m p i r
def gE(m:Mp)(h:Nat->Int)(p k i:Nat)(r:List Nat):Nat->Int:=if r=[] then gV (nE m p i r) h (p:Int) k else h
theorem BC{w W sb lw x t fr ls S h}(o:SO w W sb lw x t fr ls S h)(p k i:Nat)(r:List Nat)(hc:S.c p=some k)(hf:S.fl p=i :: r):
  Calls prog 160 #[.pointer (some ⟨sb,0,none⟩),.int .i64 p,.int .i64 k] W fun e b=>e=.returned (.tuple #[.int .u64 ((aK x p k i:Nat):Int),.int .i64 0])/\SE w W sb lw x t (eZ t.m p i r) (gE t.m h p k i r) b:=by
 obtain⟨z,sp⟩:=o.si.pg p k hc;obtain⟨nd,lt,lk⟩:=o.si.fl p k hc;have a5:=o.si.lv p k hc;obtain⟨c6,l,d4,c5⟩:=o.mem hc;have n4:=o.po.nums.2.2.2.1;rw[hf] at nd lt lk a5;have R:i<aF k:=lt i aw;have a7:=cW z;have a8:=fV (x:=x) (p:=p) z R (by omega);have Y:M.In x.bS x.n (aK x p k i) 8:=by have hz:=cN z;unfold M.In;have e:aK x p k i=x.bS+4096*p+i*aB k:=rfl;omega
 have V:aK x p k i-x.bS=4096*p+i*aB k:=by have e:aK x p k i=x.bS+4096*p+i*aB k:=rfl;omega
 have c4:eJ (t.m.pg p).cl=aF k:=by rw[sp.cl];rfl
 have C:aI (t.m.pg p) i=!true:=by rw[sp.bt i (by omega),hf];exact ah (fun e=>e.2 aw)
 obtain⟨b5,c8⟩:=tJ l sp.kd (by rw[c4];exact R) C;have c9:∃ nx:Int,nx=bC r/\∀ W',Kt nO W W'->Calls prog 216 #[.pointer (some ⟨sb,0,none⟩),.int .u64 ((aK x p k i:Nat):Int),.int .i64 p] W' fun e b=>e=.returned (.tuple #[.int .i64 nx,.bool true])/\Kt nO W' b:=by
  cases r with
  | nil=>exact⟨-1,rfl,fun W' kk=>ziD (o.sw.keep kk) _ _ Y (by rw[V];exact lk.1)⟩
  | cons j r'=>
   have b9:j<aF k:=lt j (List.mem_cons_of_mem _ aw);have c7:=fV (x:=x) (p:=p) z b9 (by omega);obtain⟨a1,a2,a3,a4⟩:=sO (x:=x) (t:=t) z b9 (by omega) l sp.kd sp.cl;refine⟨(j:Int),rfl,fun W' kk=>?_⟩;have:=ziE (o.sw.keep kk) (aK x p k i) p (aK x p k j) Y (by rw[V];exact lk.1) (by have e:aK x p k j=x.bS+4096*p+j*aB k:=rfl;have:=o.sw.pl.bd.sp.cfg.b1;omega) c7.2.2 a1 a2
   rw[a4] at this;exact this
 obtain⟨nx,G,K⟩:=c9;have NX:=aA K;obtain⟨q,hq⟩:=xe (t.m.pg p);have HA:=aA (show Calls prog 45 #[.pointer (some ⟨x.m,0,none⟩),.int .i64 p] W fun e b=>e=.returned (.tuple #[cD q,.bool true])/\Kt nO W b from by rw[hq];exact kH x.m x.B t.m p W o.sw.pl.bd.mp l);have HM:=aA (bT o.sw.pl);have HC:=aA (show q.cl=(k:Int)from by rw[hq];exact sp.cl);have HF:=aA (show q.fs=(i:Int)from by rw[hq,sp.fs,hf];rfl);obtain⟨lv,g⟩:∃ lv:Nat,q.lv=(lv:Int):=⟨_,by rw[hq];exact sp.lv⟩;have I:lv=aF k-(r.length+1):=by have:=sp.lv;rw[<-hq,g,hf] at this;have:=Int.ofNat.inj this;rw[this];rfl
 have HL:=aA g;obtain⟨a,ha⟩:=xe (aK x p k i);have AD:=aA (show ∀ W',Kt nO W W'->Calls prog 215 #[.pointer (some ⟨sb,0,none⟩),.int .i64 p,.int .i64 k,.int .i64 i] W' fun e b=>e=.returned (.int .u64 a)/\Kt nO W' b from fun W' kk=>by rw[ha];exact xG (o.sw.keep kk) p k i (by omega) z (by omega))
 rw[<-ha] at NX ⊢;obtain⟨L,Z⟩:=xe (bX t.m (p:Int) (i:Int) true);have OW:=aA (show ∀ W',Kt nO W W'->Calls prog 165 #[.pointer (some ⟨x.m,0,none⟩),.int .i64 p,.int .i64 i,.bool true] W' fun e b=>e=.returned (.int .i64 0)/\SD w W' sb lw x t h L b from fun W' kk=>by have:=zP (o.sw.keep kk) (p:Int) (i:Int) true;rw[b5,<-Z] at this;exact this)
 have FR:=aA (show ∀ W',SW w W' sb lw x { t with m:=L } h->Calls prog 214 #[.pointer (some ⟨x.m,0,none⟩),.int .i64 p,.int .i64 nx] W' fun e b=>e=.returned (.int .i64 (kO L (p:Int) nx))/\SD w W' sb lw x { t with m:=L } h (fW L (p:Int) nx) b from fun W' s=>tA s (p:Int) nx);obtain⟨m2,X⟩:=xe (fW L (p:Int) nx);have b7:nE t.m p i r=m2:=by unfold nE;rw[X,Z,G]
 rw[<-X] at FR;generalize kO L (p:Int) nx=fe at *;obtain⟨mF,f⟩:=xe (eZ t.m p i r);obtain⟨hF,d⟩:=xe (gE t.m h p k i r);rw[<-f,<-d];unfold eZ at f;unfold gE at d;rw[b7] at f d;have b3:=aA f;have b8:=aA d;have HO:=aA o.sw;obtain⟨c0,c1⟩:=o.sw.c0;have F:=a7.2.2;have b2:=aA (show ∀ W' tt,SW w W' sb lw x tt h->Calls prog 167 #[.int .i64 k] W' fun e b=>e=.returned (.int .i64 ((aF k:Nat):Int))/\b=W' from fun W' tt s=>EA s k z);obtain⟨N,hN⟩:=xe (aF k);rw[<-hN] at b2;have a9:=aA (show lv+1=N↔r=[] from by
  have h9:r.length+1<=aF k:=a5;have h8:=a7.2.1;rw[I,hN];constructor
  ·intro e
   cases r with
   | nil=>rfl
   | cons j r'=>
    exfalso
    rw[List.length_cons] at e h9;omega
  ·intro e;rw[e,List.length_nil];omega)
 have d5:N<=256:=by rw[hN];exact F
 have d3:lv<=256:=by omega
 clear o sp nd lt lk a5 c6 c5 n4 hf R a7 a8 Y V c4 C b5 c8 K hq g ha Z X b7 f d I hN F l hc G;go_enter func160,ntmps160;go_wp2_with fail;refine HM.o.mono ?_;rintro e w1 ⟨rfl,h1⟩;replace h1:=h1.symm;subst h1;go_wp2_with fail;refine HA.o.mono ?_;rintro e w2 ⟨rfl,v⟩;have K2:=aA (v.alloc (aN q));have X2:=aA (nH w2 (aN q));have S2:=aA (HO.o.keep K2.o);have NY:=aA (show ¬(aC x w2.heap.size\/w2.heap.size=sb)from fun e=>by
  rcases e with e|e
  ·exact absurd ((HO.o.keep v).pl.lt _ (.inl e)) (dc _)
  ·have:=lH (HO.o.keep v).bx;omega)
 clear v c0 c1;go_upto_region 2 with fail;generalize w2.heap.size=y at *;generalize w2.alloc (aN q)=W2 at *;have PQ:=aA (show ∀ W':World,W'.heap[y]?=some (aN q)->W'.cell? ⟨y,2,none⟩=some (.int .i64 k)/\W'.cell? ⟨y,3,none⟩=some (.int .i64 lv)/\W'.cell? ⟨y,6,none⟩=some (.int .i64 i)from fun W' hW=>by obtain⟨_,_,A,J,_,_,E,_⟩:=gD hW;rw[HC.o] at A;rw[HL.o] at J;rw[HF.o] at E;exact⟨A,J,E⟩)
 obtain⟨A,J,E⟩:=PQ.o _ X2.o;obtain⟨c0,c1⟩:=S2.o.c0;go_wp2_with fail;refine(AD.o _ K2.o).mono ?_;rintro e w3 ⟨rfl,P⟩;have K3:=aA (nT K2.o P);have X3:=aA ((P.block _ (lH X2.o) id).trans X2.o);clear P c0 c1 A J E;go_wp2_with fail;refine(NX.o _ K3.o).mono ?_;rintro e w4 ⟨rfl,a6⟩;have K4:=aA (nT K3.o a6);have X4:=aA ((a6.block _ (lH X3.o) id).trans X3.o);have S4:=aA (HO.o.keep K4.o);clear a6;go_upto_region 6 with fail;have KD:=aA ((Kt.refl nO w4).drew);have K5:=aA (nT K4.o KD.o);have S5:=aA (HO.o.keep K5.o);have X5:=aA ((KD.o.block _ (lH X4.o) id).trans X4.o);have MP:=aA (bT S5.o.pl);obtain⟨A,J,E⟩:=PQ.o _ X5.o;obtain⟨c0,c1⟩:=S5.o.c0;go_region_held3 (fun b=>b.cell? ⟨sb,0,none⟩=some (.pointer (some ⟨lw,0,none⟩))/\b.cell? ⟨y,6,none⟩=some (.int .i64 i)) ((refine⟨?_,?_⟩ <;> first|with_reducible assumption|fail)) (first
  | (go_at_call 165;(with_reducible refine(OW.o _ K5.o).mono ?_);rintro e w6 ⟨rfl,a0,Q⟩;obtain⟨f0,f1⟩:=a0.c0;have X6:=aA ((Q.block _ (lH X5.o) (fun e=>NY.o (.inl e))).trans X5.o);obtain⟨f2,f3,f6⟩:=PQ.o _ X6.o;have S6:=aA a0;have K6:=aA (K5.o.trans Q (fun _ _ e=>e.elim) (fun _ _ e=>e));clear a0 Q)
  | (go_at_call 38;(with_reducible refine MP.o.mono ?_);rintro e w5 ⟨rfl,h5⟩;replace h5:=h5.symm;subst h5)
  | fail)
 all_goals
  clear A J E c0 c1 f2 f3 f6;have d0:=aA (bT S6.o.pl);go_wp2_with fail;refine d0.o.mono ?_;rintro e T ⟨rfl,h7⟩;replace h7:=h7.symm;subst h7;go_wp2_with fail;refine(FR.o _ S6.o).mono ?_;rintro e T ⟨rfl,c3,U⟩;have S7:=aA c3;have K7:=aA (K6.o.trans U (fun _ _ e=>e) (fun _ _ e=>e));have X7:=aA ((U.block _ (lH X6.o) (fun e=>NY.o (.inl e))).trans X6.o);clear c3 U f0 f1;go_upto_region 9 with fail;obtain⟨A,J,E⟩:=PQ.o _ X7.o;have u:=aA ((Kt.refl nO T).drew);have X8:=aA ((u.o.block _ (lH X7.o) id).trans X7.o);obtain⟨q2,q3,q6⟩:=PQ.o _ X8.o;obtain⟨l1,b4⟩:=xe (lv+1);have d1:(lv:Int)+1=(l1:Int):=by omega
  have d2:l1<=257:=by omega
  have d6:IntKind.i64.wrap (l1:Int)=l1:=by rw[IntKind.wrap_i64];omega
  have c2:=aA b4;clear b4;have CL:=aA (b2.o _ _ (S7.o.keep u.o));go_region_held3 (fun b=>b.cell? ⟨y,3,none⟩=some (.int .i64 lv)) (first|with_reducible assumption|fail) (first
   | (go_at_call 167;(with_reducible refine CL.o.mono ?_);rintro e w8 ⟨rfl,h8⟩;replace h8:=h8.symm;subst h8)
   | fail)
  all_goals
   have S8:=aA (S7.o.keep u.o);have K8:=aA (K7.o.trans u.o (fun _ _ e=>e) (fun _ _ e=>e.elim));clear A J E q2 q3 q6 CL;by_cases hr:r=[]
   ·have hb:((l1:Int) == (N:Int))=true:=by
     rw[co,c2.o];have:=a9.o.2 hr;omega
    have UL:=aA (show Calls prog 217 #[.pointer (some ⟨sb,0,none⟩),.int .i64 p,.int .i64 k] T.drew fun e b=>e=.returned (.tuple #[])/\SE w T.drew sb lw x t mF hF b from by have:=IK S8.o (p:Int) k z;rw[b3.o,b8.o,ae hr,ae hr];exact this)
    generalize T.drew=W8 at *;as_aux_lemma=>
     go_wp2_with fail;refine UL.o.mono ?_;rintro e w9 ⟨rfl,b6,b0⟩;have D:=aA (show SE w W sb lw x t mF hF w9 from⟨b6,(K8.o.mono (fun _ _ e=>.inl e)).trans b0 (fun _ _ e=>e) (fun _ _ e=>e)⟩);clear b6 b0;go_wp2_with fail;exact⟨rfl,.tuple #[.int .u64 a,.int .i64 0],by simp[results,results160,go_sem],rfl,D.o⟩
   ·have hb:((l1:Int) == (N:Int))=false:=by
     rw[ag,c2.o];intro e;exact hr (a9.o.1 (by omega))
    have D:=aA (show SE w W sb lw x t mF hF T.drew from by rw[b3.o,b8.o,ac hr,ac hr];exact⟨S8.o,K8.o.mono (fun _ _ e=>.inl e)⟩)
    generalize T.drew=W8 at *;as_aux_lemma=>
     go_wp2_with fail;exact⟨rfl,.tuple #[.int .u64 a,.int .i64 0],by simp[results,results160,go_sem],rfl,D.o⟩
theorem uT(x r:Nat):(x/2 ^ r%2 == 1)=x.testBit r:=by rw[Nat.testBit_eq_decide_div_mod_eq];rfl
theorem zks(p:Pg)(c j:Nat)(hc:c<256)(m:j<256):aI (fC p c) j=(if j=c then !aI p c else aI p j):=by
 have d:∀ x:Nat,∀ s r:Nat,(x ^^^ 2 ^ r).testBit s=(if s=r then !x.testBit s else x.testBit s):=fun x s r=>by
  rw[Nat.testBit_xor,Nat.testBit_two_pow];by_cases e:s=r
  ·subst e;simp
  ·have k:¬r=s:=fun h=>e h.symm
   simp[e,k]
 have f:∀ a b:Nat,a/64=b/64->(a%64=b%64↔a=b):=fun a b h=>by omega
 unfold aI;rw[uT,uT,uT];rcases uK hc with h|h|h|h <;> rcases uK m with g|g|g|g <;> simp only[fC,h,g,wP] <;> first
  |(
   rw[d];by_cases e:j=c
   ·subst e;simp
   ·have l:¬j%64=c%64:=fun i=>e ((f j c (by omega)).1 i)
    simp[e,l])
  | (rw[ac (by omega)])
theorem DV(p:Pg)(c j:Nat)(hc:c<256)(a:j<256):aI (aT p c) j=(if j=c then !aI p c else aI p j):=by rw[<-zks p c j hc a];unfold aI aT;unfold wP;rfl
def aR{α : Type}(f:Nat->α)(p:Nat)(v : α):Nat->α:=fun r=>if r=p then v else f r
theorem bQ{α : Type}(f:Nat->α)(p:Nat)(v : α):aR f p v p=v:=ae rfl
theorem bR{α : Type}(f:Nat->α){p r:Nat}(v : α)(h:r≠p):aR f p v r=f r:=ac h
structure SlQ(S:Sb)(p k:Nat)(q:Pg):Prop where
 kd:q.kd=4
 od:q.od=0
 cl:q.cl=(k:Int)
 lv:q.lv=((aF k-(S.fl p).length:Nat):Int)
 fs:q.fs=bC (S.fl p)
 bt:∀ i,i<256->aI q i=decide (i<aF k/\i ∉ S.fl p)
theorem SlP.q{S p k q}(h:SlP S p k q):SlQ S p k q:=⟨h.kd,h.od,h.cl,h.lv,h.fs,h.bt⟩
theorem SlQ.p{S p k q}(h:SlQ S p k q)(n:q.nx=bE (S.pl k) p)(v:q.pv=bH (S.pl k) p):SlP S p k q:=⟨h.kd,h.od,h.cl,h.lv,n,v,h.fs,h.bt⟩
theorem wZ{q a:Pg}(h0:a.b0=q.b0)(b:a.b1=q.b1)(d:a.b2=q.b2)(c:a.b3=q.b3)(i:Nat):aI a i=aI q i:=by
 unfold aI;have:wP a (i/64)=wP q (i/64):=by unfold wP;split <;> assumption
 rw[this]
theorem SlQ.rst{S p k q q'}(h:SlQ S p k q)(r:zH q q'):SlQ S p k q':=by obtain⟨a,b,rfl⟩:=r;exact⟨h.kd,h.od,h.cl,h.lv,h.fs,fun i hi=>(wZ rfl rfl rfl rfl i).trans (h.bt i hi)⟩
theorem SlQ.congr{S S' p k q}(h:SlQ S p k q)(e:S'.fl p=S.fl p):SlQ S' p k q:=⟨h.kd,h.od,h.cl,by rw[e];exact h.lv,by rw[e];exact h.fs,fun i hi=>by rw[e];exact h.bt i hi⟩
theorem mR{x:Bx}{P:Nat->Option Pg}{f:Nat->Nat}{p k:Nat} : ∀ {l:List Nat},mI x f p k l->mI { x with P:=P } f p k l
 | [],_=>trivial
 | i :: l,h=>⟨by
   rw[h.1]
   cases l <;> rfl,mR h.2⟩
theorem qE{pg:Nat->Pg}{l:List Nat}{p r:Nat}(hd:l.Nodup)(a:r≠p)(hl:r ∉ l):dK pg l p r=pg r:=by
 unfold dK;rw[ac a,ac,ac]
 ·intro e;rcases mA l p hd with h|⟨b,h,hb,_⟩
  ·omega
  ·exact hl (by rw[show r=b by omega];exact hb)
 ·intro e;rcases nQ l p hd with h|⟨b,h,hb,_⟩
  ·omega
  ·exact hl (by rw[show r=b by omega];exact hb)
theorem qD{pg:Nat->Pg}{l:List Nat}{p r:Nat}(a:r≠p)(hl:r ∉ l):cI pg l p r=pg r:=by unfold cI;rw[ac a,ac (fun e=>hl (oR e.symm))]
def bB(S:Sb)(p k:Nat)(r:List Nat):Sb:={ S with fl:=aR S.fl p r,pl:=if r=[] then aR S.pl k (M.dropL (S.pl k) p) else S.pl }
theorem zkt{S:Sb}{p k i:Nat}{r:List Nat}{q:Pg}(m:k<8)(h:SlP S p k q)(hf:S.fl p=i :: r)(nd:(S.fl p).Nodup)(hi:i<aF k)(hl:(S.fl p).length<=aF k):
  SlQ (bB S p k r) p k { aT q i with fs:=bC r }/\({ aT q i with fs:=bC r } : Pg).nx=q.nx/\({ aT q i with fs:=bC r } : Pg).pv=q.pv:=by
 obtain⟨o,g,s,v,n,f,u⟩:=mT q i;have t:=cW m;have a:aI q i=false:=by rw[h.bt i (by omega),hf];exact ah (fun e=>e.2 aw)
 rw[hf] at nd hl;have c:i ∉ r:=(List.nodup_cons.1 nd).1;have b:(bB S p k r).fl p=r:=bQ _ _ _;rw[List.length_cons] at hl;refine⟨⟨o.trans h.kd,g.trans h.od,s.trans h.cl,?_,by rw[b],fun j d=>?_⟩,n,f⟩
 ·show wrap64 (if aI q i=true then q.lv-1 else q.lv+1)=_
  rw[a,ac (by decide),h.lv,b,hf,List.length_cons];unfold wrap64;omega
 ·have l:aI { aT q i with fs:=bC r } j=aI (aT q i) j:=wZ rfl rfl rfl rfl j;rw[l,DV q i j (by omega) d,b];by_cases e:j=i
  ·rw[ae e,a];symm;exact af ⟨by omega,by rw[e];exact c⟩
  ·rw[ac e,h.bt j d,hf];apply decide_eq_decide.2
   rw[List.mem_cons,not_or];exact⟨fun h=>⟨h.1,h.2.2⟩,fun h=>⟨h.1,e,h.2⟩⟩
theorem zku{m:Mp}{p i k:Nat}{r:List Nat}(hp:p<m.n)(c:(m.pg p).kd=4)(f:(m.pg p).cl=(k:Int))(hi:i<aF k)(b:aI (m.pg p) i=false)(l:∀ j∈r,j<aF k):nE m p i r={ m with pg:=aG m.pg p { aT (m.pg p) i with fs:=bC r } }:=by
 have d:eJ (m.pg p).cl=aF k:=by rw[f];rfl
 unfold nE;rw[(tJ hp c (by rw[d];exact hi) (by rw[b];rfl)).2];obtain⟨q,t,s,_⟩:=mT (m.pg p) i;have h:aG m.pg p (aT (m.pg p) i) p=aT (m.pg p) i:=ae rfl;rw[uF (m:={ m with pg:=aG m.pg p (aT (m.pg p) i) }) hp (by show(aG m.pg p _ p).kd=4;rw[h];exact q.trans c) (by
  rcases oV r with e|⟨j,e,o⟩
  ·exact .inl e
  ·refine .inr ⟨j,e,?_⟩;show j<eJ (aG m.pg p _ p).cl
   rw[h,show(aT (m.pg p) i).cl=(m.pg p).cl from s,d];exact l j o)]
 show({ m with pg:=aG (aG m.pg p (aT (m.pg p) i)) p { aG m.pg p (aT (m.pg p) i) p with fs:=bC r } } : Mp)=_
 rw[h];refine congrArg (fun g=>({ m with pg:=g } : Mp)) (funext fun a=>?_);unfold aG;by_cases e:a=p
 ·rw[ae e,ae e]
 ·rw[ac e,ac e,ac e]
theorem SO.hand{w W sb lw x t fr ls S h w'}(o:SO w W sb lw x t fr ls S h){p k i:Nat}{r:List Nat}(hc:S.c p=some k)(hf:S.fl p=i :: r)(se:SE w W sb lw x t (eZ t.m p i r) (gE t.m h p k i r) w'):
  SO w w' sb lw { x with P:=fK (bB S p k r) (eZ t.m p i r) } { t with m:=eZ t.m p i r } fr ls (bB S p k r) (gE t.m h p k i r):=by
 obtain⟨C,sp⟩:=o.si.pg p k hc;obtain⟨nd,lt,lk⟩:=o.si.fl p k hc;have N:=o.si.lv p k hc;obtain⟨a4,Q,_⟩:=o.mem hc;have a5:=cW C;have K:i<aF k:=lt i (by rw[hf];exact aw);have I:aI (t.m.pg p) i=false:=by rw[sp.bt i (by omega),hf];exact ah (fun e=>e.2 aw)
 have e2:=zku (r:=r) Q sp.kd sp.cl K I (fun j Z=>lt j (by rw[hf];exact List.mem_cons_of_mem _ Z));obtain⟨q2,V,a0⟩:=zkt C sp hf nd K N;generalize a6:({ aT (t.m.pg p) i with fs:=bC r } : Pg)=A at *;have D:p∈S.pl k:=(o.si.pm k C p).2 ⟨hc,by rw[hf];exact da _ _⟩;have n:(S.pl k).Nodup:=o.si.pn k C
 have v:∀ a c,S.c a=some c->SlQ (bB S p k r) a c (aG t.m.pg p A a)/\(aG t.m.pg p A a).nx=bE (S.pl c) a/\(aG t.m.pg p A a).pv=bH (S.pl c) a:=fun a c ha=>by
  obtain⟨b,sa⟩:=o.si.pg a c ha;unfold aG;by_cases e:a=p
  ·subst e;rw[hc] at ha
   cases ha
   rw[ae rfl,V,a0];exact⟨q2,sp.nx,sp.pv⟩
  ·rw[ac e];exact⟨sa.q.congr (bR _ _ e),sa.nx,sa.pv⟩
 have u:∀ a,S.c a=none->aG t.m.pg p A a=t.m.pg a:=fun a ha=>by
  unfold aG;rw[ac];intro e;rw[e,hc] at ha
  cases ha
 -- the pages in the end
 obtain⟨f,G,R,y,a1,a3⟩:∃ f:Nat->Pg,eZ t.m p i r={ t.m with pg:=f }/\(∀ a,S.c a=none->f a=t.m.pg a)/\(∀ a c,S.c a=some c->SlQ (bB S p k r) a c (f a)/\(f a).nx=bE ((bB S p k r).pl c) a/\(f a).pv=bH ((bB S p k r).pl c) a)/\(∀ c,c<8->gE t.m h p k i r c=bC ((bB S p k r).pl c))/\True:=by
  by_cases l:r=[]
  ·have hU:=BX (m:={ t.m with pg:=aG t.m.pg p A }) (h:=h) (c:=k) n D (fun a ha=>by
    have L:=((o.si.pm k C a).1 ha).1;obtain⟨X,T,Y⟩:=v a k L;exact⟨(o.mem L).2.1,X.kd,T,Y⟩)
   have d:(bB S p k r).pl=aR S.pl k (M.dropL (S.pl k) p):=(by unfold bB;rw[ae l]);have np:NP (aG t.m.pg p A) S k (S.pl k):=fun a ha=>(v a k ha).2
   have a2:=BU np n D;refine⟨dK (aG t.m.pg p A) (S.pl k) p,?_,fun a ha=>?_,fun a c ha=>?_,fun c b=>?_,trivial⟩
   ·unfold eZ;rw[ae l,e2,hU.1]
   ·have E:a≠p:=fun e=>by rw[e,hc] at ha;cases ha
    have B:a ∉ S.pl k:=fun e=>by rw[((o.si.pm k C a).1 e).1] at ha;cases ha
    rw[qE n E B];exact u a ha
   ·obtain⟨X,T,Y⟩:=v a c ha;refine⟨X.rst (FV _ _ _ _),?_⟩;rw[d];by_cases e:c=k
    ·subst e;rw[bQ];exact a2 a ha
    ·rw[bR _ _ e];have E:a≠p:=fun s=>by rw[s,hc] at ha;cases ha;exact e rfl
     have B:a ∉ S.pl k:=fun s=>by rw[((o.si.pm k C a).1 s).1] at ha;cases ha;exact e rfl
     rw[qE n E B];exact⟨T,Y⟩
   ·unfold gE;rw[ae l,e2,hU.2,d];by_cases e:c=k
    ·subst e;rw[bQ,tH n D];by_cases s:bH (S.pl c) p = -1
     ·rw[ae s,ae s];exact ae rfl
     ·rw[ac s,ac s];exact o.hd c b
    ·rw[bR _ _ e];by_cases s:bH (S.pl k) p = -1
     ·rw[ae s];exact(ac e).trans (o.hd c b)
     ·rw[ac s];exact o.hd c b
  ·have d:(bB S p k r).pl=S.pl:=(by unfold bB;rw[ac l]);refine⟨aG t.m.pg p A,?_,u,fun a c ha=>?_,fun c b=>?_,trivial⟩
   ·unfold eZ;rw[ac l,e2]
   ·rw[d];exact v a c ha
   ·unfold gE;rw[ac l,d];exact o.hd c b
 have J:=se.1;rw[G] at J ⊢;have F:∀ a c,S.c a=some c->((bB S p k r).fl a=r/\a=p)\/((bB S p k r).fl a=S.fl a/\a≠p):=fun a c ha=>by
  by_cases e:a=p
  ·exact .inl ⟨by rw[e];exact bQ _ _ _,e⟩
  ·exact .inr ⟨bR _ _ e,e⟩
 refine⟨J.reP _,o.sf.repaint S (bB S p k r) o.si.eP { t.m with pg:=f } rfl rfl rfl (fun a ha=>?_) (fun a c ha=>⟨(y a c ha).1.kd,(o.mem ha).1⟩),o.st,o.bm,⟨rfl,fun a c ha=>⟨(o.si.pg a c ha).1,(y a c ha).1.p (y a c ha).2.1 (y a c ha).2.2⟩,fun a c ha=>?_,fun a c ha=>?_,fun c b=>?_,fun c b a=>?_⟩,a1⟩
 ·have ha:S.c a=none:=ha;rw[ae ha];exact R a ha
 ·replace ha:S.c a=some c:=ha;obtain⟨n1,n2,U⟩:=o.si.fl a c ha;rcases F a c ha with ⟨e,rfl⟩|⟨e,_⟩
  ·rw[e];rw[hc] at ha
   cases ha
   rw[hf] at n1 n2 U;exact⟨(List.nodup_cons.1 n1).2,fun j Z=>n2 j (List.mem_cons_of_mem _ Z),mR U.2⟩
  ·rw[e];exact⟨n1,n2,mR U⟩
 ·have hl:=o.si.lv a c ha;rcases F a c ha with ⟨e,rfl⟩|⟨e,_⟩
  ·rw[e];rw[hf,List.length_cons] at hl;omega
  ·rw[e];exact hl
 ·have:=o.si.pn c b;unfold bB;by_cases l:r=[]
  ·rw[ae l];show(aR S.pl k _ c).Nodup
   by_cases e:c=k
   ·subst e;rw[bQ];exact EK this p
   ·rw[bR _ _ e];exact this
  ·rw[ac l];exact this
 ·have z:=o.si.pm c b a;show a∈(bB S p k r).pl c↔(S.c a=some c/\aR S.fl p r a≠[])
  by_cases l:r=[]
  ·have d:(bB S p k r).pl=aR S.pl k (M.dropL (S.pl k) p):=(by unfold bB;rw[ae l]);rw[d];by_cases ea:a=p
   ·subst ea;rw[bQ];constructor
    ·intro g;exfalso
     by_cases e:c=k
     ·subst e;rw[bQ,jT] at g;exact g.2 rfl
     ·rw[bR _ _ e,z,hc] at g
      cases g.1
      exact e rfl
    ·exact fun g=>absurd l g.2
   ·rw[bR _ _ ea];by_cases e:c=k
    ·subst e;rw[bQ,jT,z];exact⟨fun g=>g.1,fun g=>⟨g,ea⟩⟩
    ·rw[bR _ _ e];exact z
  ·have d:(bB S p k r).pl=S.pl:=(by unfold bB;rw[ac l]);rw[d,z];by_cases ea:a=p
   ·subst ea;rw[bQ,hf];exact⟨fun g=>⟨g.1,l⟩,fun g=>⟨g.1,da _ _⟩⟩
   ·rw[bR _ _ ea]
theorem AN{x x':Bx}(h:x'.bS=x.bS)(p k n:Nat):aK x' p k n=aK x p k n:=by unfold aK;rw[h]
theorem oQ{x x':Bx}{f f':Nat->Nat}{p k:Nat}(hb:x'.bS=x.bS):∀ {l:List Nat},(∀ i∈l,M.word f' (4096*p+i*aB k)=M.word f (4096*p+i*aB k))->mI x f p k l->mI x' f' p k l
 | [],_,_=>trivial
 | i :: l,hf,h=>⟨by
   rw[hf i aw,h.1]
   cases l with
   | nil=>rfl
   | cons j l=>exact(AN hb p k j).symm,oQ hb (fun j a=>hf j (List.mem_cons_of_mem _ a)) h.2⟩
theorem xX{f g:Nat->Nat}{o:Nat}(h:∀ i,i<8->g (o+i)=f (o+i)):M.word g o=M.word f o:=by unfold M.word;exact wordTo_congr _ _ 8 h
theorem SO.pool{w W W' sb lw x t fr ls S h x1 t1 fr1 ls1}(o:SO w W sb lw x t fr ls S h)(b:PO w W' lw x1 t1 fr1 ls1)(d:Sm x x1)(bk:BK t t1 ls ls1)(g:∀ p k,S.c p=some k->(p,0)∈ls1)(kp:Kt (aC x) W W'):SO w W' sb lw x1 t1 fr1 ls1 S h:=by
 have a:∀ p k,S.c p=some k->t1.m.pg p=t.m.pg p:=fun p k hp=>
  (b.sf.pslab (p:=p) (q:=t.m.pg p) (by rw[d.P,o.si.eP];exact jS hp)).2.2.2
 refine⟨⟨b.pl,?_,o.sw.nw,o.sw.tb⟩,b.sf,b.st,b.bm,⟨?_,fun p k hp=>?_,fun p k hp=>?_,o.si.lv,o.si.pn,o.si.pm⟩,o.hd⟩
 ·rw[d.bS];exact(kp.block _ (lH o.sw.bx) (fun e=>o.sw.nsb (.inl e))).trans o.sw.bx
 ·rw[d.P,o.si.eP];funext p
  cases e:S.c p with
  | none=>rw[iW e,iW e]
  | some k=>rw[jS e,jS e,a p k e]
 ·obtain⟨v,f⟩:=o.si.pg p k hp;rw[a p k hp];exact⟨v,f⟩
 ·obtain⟨n1,s,u⟩:=o.si.fl p k hp;have r:=(o.si.pg p k hp).1;have l:=cW r;have hz:=cN r;refine⟨n1,s,oQ d.bS (fun i hi=>xX fun j y=>?_) u⟩;have n:=s i hi;have f:(i+1)*aB k<=aF k*aB k:=ak _ n;rw[av,aL,l.1] at f;have hd:(4096*p+i*aB k+j)/4096=p:=by omega
  refine bk _ ?_ ?_
  ·rw[hd];exact⟨p,0,(o.mem hp).1,aj _,by omega⟩
  ·rw[hd];exact⟨p,0,g p k hp,aj _,by omega⟩
theorem EJ(f:Nat->Nat)(P a z:Nat)(hz : 8<=z):∀ k i,i<k->P+k*z<18446744073709551616->M.word (lA f P a z k) (a+i*z)=P+(i+1)*z
 | 0,i,h,_=>absurd h (Nat.not_lt_zero _)
 | k+1,i,h,h64=>by
  rw[lA];by_cases e:i=k
  ·subst e;rw[M.word_upd _ _ _ h64]
  ·have hl:i<k:=(by omega);have b:(i+1)*z<=k*z:=ak _ hl;rw[av,aL] at b;have c:k*z<=(k+1)*z:=ak _ (by omega);rw[M.word_far _ _ _ _ (.inr (by omega))];exact EJ f P a z hz k i hl (by omega)
theorem DK(f:Nat->Nat)(P a z:Nat):∀ k j,(∀ i,i<k->¬(a+i*z<=j/\j<a+i*z+8))->lA f P a z k j=f j
 | 0,j,_=>rfl
 | k+1,j,h=>by rw[lA];unfold M.upd;rw[ac (h k (by omega))];exact DK f P a z k j (fun i hi=>h i (by omega))
theorem vG(f:Nat->Nat)(x:Bx)(p k:Nat)(c:k<8)(j:Nat)(g:¬(4096*p<=j/\j<4096*p+4096)):jJ f (ad x p) (4096*p) (aB k) (aF k) j=f j:=by
 have b:=cW c;have hz:=cN c;have a:∀ i,i<aF k->i*aB k+aB k<=4096:=fun i hi=>by have d:(i+1)*aB k<=aF k*aB k:=ak _ hi;rw[av,aL,b.1] at d;exact d
 unfold jJ;have e:=a (aF k-1) (by omega);unfold M.upd;rw[ac (by omega)];refine DK _ _ _ _ _ _ fun i hi=>?_
 have:=a i (by omega);omega
theorem JA(x:Bx)(f:Nat->Nat)(p k:Nat)(c:k<8)(hb:x.bS+4096*p+4096<=9223372036854775808):∀ n a,a+n=aF k->mI x (jJ f (ad x p) (4096*p) (aB k) (aF k)) p k (List.range' a n)
 | 0,a,_=>trivial
 | n+1,a,h=>by
  have d:=cW c;have hz:=cN c;obtain⟨b,g⟩:∃ b,aF k=b+1:=⟨aF k-1,by omega⟩;have i:b*aB k+aB k=4096:=by have:=d.1;rw[g,av,aL] at this;exact this
  refine⟨?_,JA x f p k c hb n (a+1) (by omega)⟩;unfold jJ;rw[show aF k-1=b by omega]
  cases n with
  | zero=>
   have ea:a=b:=(by omega);subst ea;rw[M.word_upd _ _ _ (by decide)];rfl
  | succ n=>
   have hl:a<b:=(by omega);have e:(a+1)*aB k<=b*aB k:=ak _ hl;rw[av,aL] at e;rw[M.word_far _ _ _ _ (.inr (by omega)),EJ _ _ _ _ (by omega) b a hl (by unfold ad;omega)];show _=aK x p k (a+1)
   unfold aK ad;rfl
def bK(S:Sb)(p k:Nat):Sb:=⟨aR S.c p (some k),aR S.fl p (List.range' 0 (aF k)),aR S.pl k (p :: S.pl k)⟩
def gG(m:Mp)(h:Nat->Int)(p k:Nat):Mp:=eC (fW (jO m (p:Int) (k:Int)) (p:Int) 0) h (p:Int) k
theorem YR{q:Pg}(h0:q.b0=0)(a:q.b1=0)(c:q.b2=0)(b:q.b3=0)(i:Nat):aI q i=false:=by
 unfold aI;have:wP q (i/64)=0:=by unfold wP;split <;> assumption
 rw[this];simp
theorem VU{m:Mp}{h:Nat->Int}{p k:Nat}{l:List Nat}(hp:p<m.n)(q:k<8)(u:h k=bC l)(hl:∀ r∈l,r<m.n/\(m.pg r).kd=4/\cV m.n (m.pg r).nx=true)(b:p ∉ l):gG m h p k={ m with pg:=cI (aG m.pg p { eA (k:Int)with fs:=0 }) l p }:=by
 have t:=cW q;have j:jO m (p:Int) (k:Int)={ m with pg:=aG m.pg p (eA (k:Int)) }:=by unfold jO;rw[ae ⟨dQ hp,by omega,by omega⟩,aa]
 have f:aG m.pg p (eA (k:Int)) p=eA (k:Int):=ae rfl;have o:fW { m with pg:=aG m.pg p (eA (k:Int)) } (p:Int) 0={ m with pg:=aG m.pg p { eA (k:Int)with fs:=0 } }:=by
  rw[uF (m:={ m with pg:=aG m.pg p (eA (k:Int)) }) (c:=(0:Int)) hp (by show(aG m.pg p _ p).kd=4;rw[f];rfl) (.inr ⟨0,rfl,by
   show 0<eJ (aG m.pg p _ p).cl
   rw[f];show 0<aF k
   omega⟩)]
  show({ m with pg:=aG (aG m.pg p (eA (k:Int))) p { aG m.pg p (eA (k:Int)) p with fs:=0 } } : Mp)=_
  rw[f];refine congrArg (fun g=>({ m with pg:=g } : Mp)) (funext fun a=>?_);unfold aG;by_cases e:a=p
  ·rw[ae e,ae e]
  ·rw[ac e,ac e,ac e]
 unfold gG;rw[j,o];have v:aG m.pg p { eA (k:Int)with fs:=0 } p={ eA (k:Int)with fs:=0 }:=ae rfl;exact BZ (m:={ m with pg:=aG m.pg p { eA (k:Int)with fs:=0 } }) hp (by show(aG m.pg p _ p).kd=4;rw[v];rfl) u (fun r i=>by
  have d:r≠p:=fun e=>b (e▸i)
  have s:aG m.pg p { eA (k:Int)with fs:=0 } r=m.pg r:=ac d;show r<m.n/\(aG m.pg p _ r).kd=4/\cV m.n (aG m.pg p _ r).nx=true
  rw[s];exact hl r i) b
theorem ziZ{n:Nat}(h : 0<n):bC (List.range' 0 n)=0:=by obtain⟨m,rfl⟩:∃ m,n=m+1:=⟨n-1,by omega⟩;rfl
theorem SO.fresh{w W W' sb lw x t fr ls S h}(o:SO w W sb lw x t fr ls S h){p k:Nat}(u:k<8)(G:(p,0)∈ls)(hc:S.c p=none)
  (sw:SW w W' sb lw x ⟨jJ t.f (ad x p) (4096*p) (aB k) (aF k),gG t.m h p k,t.hd⟩ (cP h k (p:Int))):
  SO w W' sb lw { x with P:=fK (bK S p k) (gG t.m h p k) } ⟨jJ t.f (ad x p) (4096*p) (aB k) (aF k),gG t.m h p k,t.hd⟩ fr ls (bK S p k) (cP h k (p:Int)):=by
 have a1:=cW u;have hz:=cN u;have I:p<t.m.n:=by have:=(o.sf.sn.al G).2.2;omega
 have n4:=o.po.nums.2.2.2.1;have a2:=o.st;have R:x.bS+4096*p+4096<=9223372036854775808:=by have h5:(p+1)*4096<=t.m.n*4096:=ak _ I;omega
 have C:p ∉ S.pl k:=fun e=>by
  rw[((o.si.pm k u p).1 e).1] at hc
  cases hc
 have E:=o.si.pn k u;have eM:=VU (m:=t.m) (h:=h) I u (o.hd k u) (fun r hr=>by
  have L:=((o.si.pm k u r).1 hr).1;have X:=(o.si.pg r k L).2;refine⟨(o.mem L).2.1,X.kd,?_⟩;rw[X.nx];rcases mA (S.pl k) r E with e|⟨b,e,hb,_⟩
  ·rw[e];exact lV _
  ·rw[e];exact oT (o.mem ((o.si.pm k u b).1 hb).1).2.1) C
 rw[eM] at sw ⊢;generalize l:cI (aG t.m.pg p { eA (k:Int)with fs:=0 }) (S.pl k) p=B at *;have d:∀ a,a≠p->(bK S p k).c a=S.c a/\(bK S p k).fl a=S.fl a:=fun a ha=>⟨bR _ _ ha,bR _ _ ha⟩
 have v:(bK S p k).c p=some k:=bQ _ _ _;have y:(bK S p k).fl p=List.range' 0 (aF k):=bQ _ _ _;have z:∀ a,a≠p->aG t.m.pg p { eA (k:Int)with fs:=0 } a=t.m.pg a:=fun a ha=>ac ha
 have K:aG t.m.pg p { eA (k:Int)with fs:=0 } p={ eA (k:Int)with fs:=0 }:=ae rfl;have F0:∀ a,S.c a=none->a≠p->B a=t.m.pg a:=fun a ha g=>by
  have A:a ∉ S.pl k:=fun e=>by
   rw[((o.si.pm k u a).1 e).1] at ha
   cases ha
  rw[<-l,qD g A];exact z a g
 have Q0:SlQ (bK S p k) p k { eA (k:Int)with fs:=0 }:=by
  refine⟨rfl,rfl,rfl,?_,?_,fun i hi=>?_⟩
  ·rw[y,List.length_range',Nat.sub_self];rfl
  ·rw[y,ziZ (by omega)]
  ·rw[YR rfl rfl rfl rfl,y];symm;refine ah fun e=>e.2 (List.mem_range'_1.2 ⟨az _,by omega⟩)
 have Q:NP (aG t.m.pg p { eA (k:Int)with fs:=0 }) (bK S p k) k (S.pl k):=fun a ha=>by
  by_cases e:a=p
  ·subst e;rw[K,sT C,oU C];exact⟨rfl,rfl⟩
  ·rw[(d a e).1] at ha;rw[z a e];exact⟨(o.si.pg a k ha).2.nx,(o.si.pg a k ha).2.pv⟩
 have N:=BW Q E C;have Z:∀ a c,(bK S p k).c a=some c->c<8/\SlP (bK S p k) a c (B a):=fun a c ha=>by
  have hq:SlQ (bK S p k) a c (aG t.m.pg p { eA (k:Int)with fs:=0 } a)/\c<8:=by
   by_cases e:a=p
   ·subst e;rw[v] at ha
    cases ha
    rw[K];exact⟨Q0,u⟩
   ·rw[(d a e).1] at ha;rw[z a e];exact⟨(o.si.pg a c ha).2.q.congr (d a e).2,(o.si.pg a c ha).1⟩
  refine⟨hq.2,(hq.1.rst (by rw[<-l];exact FW _ _ _ _)).p ?_ ?_⟩
  ·show(B a).nx=bE (aR S.pl k (p :: S.pl k) c) a
   by_cases e:c=k
   ·subst e;rw[bQ,<-l];exact(N a ha).1
   ·have g:a≠p:=fun D=>by rw[D,v] at ha;cases ha;exact e rfl
    rw[bR _ _ e];rw[(d a g).1] at ha;have A:a ∉ S.pl k:=fun D=>by rw[((o.si.pm k u a).1 D).1] at ha;cases ha;exact e rfl
    rw[<-l,qD g A,z a g];exact(o.si.pg a c ha).2.nx
  ·show(B a).pv=bH (aR S.pl k (p :: S.pl k) c) a
   by_cases e:c=k
   ·subst e;rw[bQ,<-l];exact(N a ha).2
   ·have g:a≠p:=fun D=>by rw[D,v] at ha;cases ha;exact e rfl
    rw[bR _ _ e];rw[(d a g).1] at ha;have A:a ∉ S.pl k:=fun D=>by rw[((o.si.pm k u a).1 D).1] at ha;cases ha;exact e rfl
    rw[<-l,qD g A,z a g];exact(o.si.pg a c ha).2.pv
 have T:=o.sf.fill (p:=p) (k:=0) G (f':=jJ t.f (ad x p) (4096*p) (aB k) (aF k)) (fun j hj=>vG t.f x p k u j (by omega));refine⟨sw.reP _,T.repaint S (bK S p k) o.si.eP { t.m with pg:=B } rfl rfl rfl (fun a ha=>?_) (fun a c ha=>⟨(Z a c ha).2.kd,?_⟩),o.st,o.bm,⟨rfl,Z,fun a c ha=>?_,fun a c ha=>?_,fun c s=>?_,fun c s a=>?_⟩,fun c s=>?_⟩
 ·have g:a≠p:=fun e=>by rw[e,v] at ha;cases ha
  rw[(d a g).1] at ha;rw[ae ha];exact F0 a ha g
 ·by_cases e:a=p
  ·rw[e];exact G
  ·rw[(d a e).1] at ha;exact(o.mem ha).1
 ·by_cases e:a=p
  ·subst e;rw[v] at ha
   cases ha
   rw[y];refine⟨List.nodup_range',fun i hi=>?_,mR (JA x t.f a k u R (aF k) 0 (by omega))⟩;have:=(List.mem_range'_1.1 hi).2;omega
  ·rw[(d a e).1] at ha;rw[(d a e).2];obtain⟨n1,Y,n3⟩:=o.si.fl a c ha;have s:=(o.si.pg a c ha).1;have J:=cW s;have a0:=cN s;refine⟨n1,Y,mR (oQ rfl (fun i hi=>xX fun j hj=>?_) n3)⟩;have V:=Y i hi;have h2:(i+1)*aB c<=aF c*aB c:=ak _ V;rw[av,aL,J.1] at h2;exact vG t.f x p k u _ (by omega)
 ·by_cases e:a=p
  ·subst e;rw[v] at ha
   cases ha
   rw[y,List.length_range'];exact aj _
  ·rw[(d a e).1] at ha;rw[(d a e).2];exact o.si.lv a c ha
 ·show(aR S.pl k (p :: S.pl k) c).Nodup
  by_cases e:c=k
  ·subst e;rw[bQ];exact List.nodup_cons.2 ⟨C,E⟩
  ·rw[bR _ _ e];exact o.si.pn c s
 ·show a∈aR S.pl k (p :: S.pl k) c↔((bK S p k).c a=some c/\(bK S p k).fl a≠[])
  have F:=o.si.pm c s a;by_cases ea:a=p
  ·subst ea;rw[v,y];have U:List.range' 0 (aF k)≠[]:=by
    intro e;have:=congrArg List.length e;rw[List.length_range',List.length_nil] at this;omega
   by_cases e:c=k
   ·subst e;rw[bQ];exact⟨fun _=>⟨rfl,U⟩,fun _=>aw⟩
   ·rw[bR _ _ e,F,hc];constructor
    ·rintro ⟨D,_⟩;cases D
    ·rintro ⟨D,_⟩;cases D;exact absurd rfl e
  ·rw[(d a ea).1,(d a ea).2];by_cases e:c=k
   ·subst e;rw[bQ,List.mem_cons,F];exact⟨fun h=>h.resolve_left ea,fun h=>.inr h⟩
   ·rw[bR _ _ e];exact F
 ·show cP h k (p:Int) c=bC (aR S.pl k (p :: S.pl k) c)
  by_cases e:c=k
  ·subst e;rw[bQ];exact ae rfl
  ·rw[bR _ _ e];exact(ac e).trans (o.hd c s)
inductive Ned(x:Bx)(t:Bt)(fr:Nat->List Nat)(d:Bool)(p:Nat)(b:Bool)(fr':Nat->List Nat):Prop where
 | here (j:Nat) (l:List Nat) (hj:j<=x.o) (hz:∀ a,a<j->fr a=[]) (hp:fr j=p :: l) (hb:b=false) (hf:fr'=dL (cK fr j (M.dropL (fr j) p)) p j 0)
 | grew (hz:∀ a,a<=x.o->fr a=[]) (hd:d=false) (hl:x.n+x.R<=x.lim*x.R) (hb:b=true) (hp:p=t.m.n) (hf:fr'=dL fr t.m.n x.o 0)
structure FrO(w W:World)(sb lw:Nat)(x:Bx)(t:Bt)(fr:Nat->List Nat)(ls:List (Nat×Nat))(S:Sb)(h:Nat->Int)(k:Nat)(d:Bool)(p:Nat)(b:Bool)(w':World):Prop where
 ex:∃ x' t' fr',Ned x t fr d p b fr'/\SO w w' sb lw x' t' fr' (ls ++ [(p,0)]) (bK S p k) (cP h k (p:Int))/\Sm x { x' with P:=x.P }/\(∀ i,Lv ls (i/4096)->t'.f i=t.f i)/\Nb W x x'/\t'.m.n=(if b=true then t.m.n + 2 ^ x.o else t.m.n)/\x'.n=(if b=true then x.n + x.R else x.n)
 hc:S.c p=none
 nl:∀ i,(p,i) ∉ ls
 kp:Kt (bN x sb) W w'
inductive FrP(w W:World)(sb lw:Nat)(x:Bx)(t:Bt)(fr:Nat->List Nat)(ls:List (Nat×Nat))(S:Sb)(h:Nat->Int)(k:Nat)(d:Bool)(e:Ending)(w':World):Prop where
 | stuck (hz:∀ a,a<=x.o->fr a=[]) (hd:d=true\/x.n=x.lim*x.R) (he:e=.returned (.tuple #[.bool false,.int .i64 2])) (kp:Kt nO W w')
 | got (p:Nat) (b:Bool) (he:e=.returned (.tuple #[.bool b,.int .i64 0])) (fo:FrO w W sb lw x t fr ls S h k d p b w')
theorem PR{w W lw x t fr ls}(f:PO w W lw x t fr ls)(d:Bool):
  Calls prog 109 #[.pointer (some ⟨lw,0,none⟩),.int .i64 0,.bool d] W fun e k=>
   ((∀ a,a<=x.o->fr a=[])/\(d=true\/x.n=x.lim*x.R)/\e=.returned (.tuple #[.int .u64 0,.bool false,.int .i64 2])/\Kt nO W k)\/
   (∃ p b g x' c,e=.returned (.tuple #[.int .u64 ((ad x p:Nat):Int),.bool b,.int .i64 0])/\Ned x t fr d p b g/\PO w k lw x' c g (ls ++ [(p,0)])/\Sm x x'/\BK t c ls (ls ++ [(p,0)])/\Nb W x x'/\Kt (aC x) W k/\x.P p=none/\(∀ i,(p,i) ∉ ls)/\c.m.n=(if b=true then t.m.n + 2 ^ x.o else t.m.n)/\x'.n=(if b=true then x.n + x.R else x.n)):=by
 refine(K.Need_any f 0 d).mono fun e k D=>?_
 cases D with
 | bad h he kp=>
  exfalso
  have:=of_decide_eq_false h;omega
 | stuck i h hi hz hd he kp=>
  obtain rfl:i=0:=by omega
  exact .inl ⟨fun a ha=>hz a (az _) ha,hd,he,kp⟩
 | here i j p l h hi A z hz hp he hs kp=>
  obtain rfl:i=0:=by omega
  obtain⟨c,u,s,v⟩:=hs;refine .inr ⟨p,false,_,x,c,he,.here j l z (fun a ha=>hz a (az _) ha) hp rfl rfl,u,Sm.refl x,v,fun y e=>.inl e,kp,f.sf.pfree z (by rw[hp];exact aw),fun i r=>?_,by rw[ac (by decide)];exact s,by rw[ac (by decide)]⟩;have h0:=f.sf.apart0 z (show p∈fr j by rw[hp];exact aw) r;have q : 0<2 ^ i:=ap (by decide);have B : 0<2 ^ j:=ap (by decide);omega
 | grew i h hi hz hd hl he hs kp=>
  obtain rfl:i=0:=by omega
  obtain⟨x',c,u,s,v,E,F,C⟩:=hs;refine .inr ⟨t.m.n,true,_,x',c,he,.grew (fun a ha=>hz a (az _) ha) hd hl rfl rfl rfl,u,s,C,F,kp,f.sf.pout (aj _),fun i r=>?_,by rw[ae rfl];exact E,by rw[ae rfl];exact v⟩;have:=(f.sf.sn.al r).2.2;have q : 0<2 ^ i:=ap (by decide);omega
theorem UH{w W sb lw x t fr ls S h}(o:SO w W sb lw x t fr ls S h)(k:Nat)(hk:k<8)(d:Bool):
  Calls prog 159 #[.pointer (some ⟨sb,0,none⟩),.int .i64 k,.bool d] W fun e u=>FrP w W sb lw x t fr ls S h k d e u:=by
 have ND:=aA (PR o.po d);obtain⟨c0,c1⟩:=o.sw.c0;have HO:=aA o;clear o;go_enter func159,ntmps159;go_wp2_with fail;refine ND.o.mono ?_;rintro e w1 (⟨hz,hd,rfl,kp⟩|⟨p,b,b5,j,r,rfl,F,U,g,I,V,L,Q,T,b1,b2⟩)
 ·have D:=aA (show FrP w W sb lw x t fr ls S h k d (.returned (.tuple #[.bool false,.int .i64 2])) w1 from .stuck hz hd rfl kp);clear hz hd kp ND c0 c1;go_wp2_with fail;exact⟨rfl,.tuple #[.bool false,.int .i64 2],by simp[results,results159,go_sem],D.o⟩
 ·have hc:S.c p=none:=by
   cases e:S.c p with
   | none=>rfl
   | some c=>
    rw[HO.o.si.eP,jS e] at Q
    cases Q
  have z:=HO.o.pool U g I (fun a c ha=>List.mem_append_left _ (HO.o.mem ha).1) L;have v:(p,0)∈ls ++ [(p,0)]:=List.mem_append_right _ (List.mem_singleton.2 rfl);have a5:=(z.sf.sn.al v).2.2;have n4:=z.po.nums.2.2.2.1;have n2:=z.po.nums.2.1;have b6:=z.st;have a0 : 4096*p+4096<=j.n:=by have Z:(p+1)*4096<=r.m.n*4096:=ak _ a5;omega
  have a3:ad x p=ad j p:=by unfold ad;rw[g.bS]
  rw[a3];have E:aJ j (ad j p)/4096=p:=by unfold aJ ad;omega
  obtain⟨A,X⟩:=xe (ad j p);have a4:A<18446744073709551616:=by rw[X];unfold ad;omega
  have PG:=aA (show Calls prog 211 #[.pointer (some ⟨sb,0,none⟩),.int .u64 A] w1 fun e u=>e=.returned (.int .i64 p)/\u=w1 from by have:=vE z.sw A a4;rw[X,E] at this;rw[X];exact this)
  have SL:=aA (RJ z.sw (p:Int) (k:Int));obtain⟨G,P⟩:=xe (jO r.m (p:Int) (k:Int));rw[<-P] at SL;generalize pO r.m (p:Int) (k:Int)=b7 at *;have CH:=aA (show ∀ W',SW w W' sb lw j { r with m:=G } h->Calls prog 213 #[.pointer (some ⟨sb,0,none⟩),.int .u64 A,.int .i64 k] W' fun e u=>e=.returned (.tuple #[])/\SW w u sb lw j ⟨jJ r.f (ad j p) (4096*p) (aB k) (aF k),G,r.hd⟩ h/\Kt (aC j) W' u from fun W' s=>by rw[X];exact UR s p k hk a0)
  obtain⟨f2,J⟩:=xe (jJ r.f (ad j p) (4096*p) (aB k) (aF k));rw[<-J] at CH;obtain⟨Y,N⟩:=xe (fW G (p:Int) 0);have FR:=aA (show ∀ W',SW w W' sb lw j ⟨f2,G,r.hd⟩ h->Calls prog 214 #[.pointer (some ⟨j.m,0,none⟩),.int .i64 p,.int .i64 0] W' fun e u=>e=.returned (.int .i64 (kO G (p:Int) 0))/\SD w W' sb lw j ⟨f2,G,r.hd⟩ h Y u from fun W' s=>by rw[N];exact tA s (p:Int) 0)
  generalize kO G (p:Int) 0=b8 at *;have PT:=aA (show ∀ W',SW w W' sb lw j ⟨f2,Y,r.hd⟩ h->Calls prog 168 #[.pointer (some ⟨sb,0,none⟩),.int .i64 p,.int .i64 k] W' fun e u=>e=.returned (.tuple #[])/\SE w W' sb lw j ⟨f2,Y,r.hd⟩ (eC Y h (p:Int) k) (cP h k (p:Int)) u from fun W' s=>zO s (p:Int) k hk);have b3:=aA (show ∀ u,SW w u sb lw j ⟨f2,eC Y h (p:Int) k,r.hd⟩ (cP h k (p:Int))->Kt (bN j sb) w1 u->FrP w W sb lw x t fr ls S h k d (.returned (.tuple #[.bool b,.int .i64 0])) u from fun u s kk=>by
   have e1:eC Y h (p:Int) k=gG r.m h p k:=(by unfold gG;rw[N,P]);rw[e1,J] at s;have so:=z.fresh hk v hc s;refine .got p b rfl ⟨⟨_,_,b5,F,so,⟨g.bS,g.R,g.lim,g.o,g.b,g.s,g.m,g.l,rfl⟩,fun i hi=>?_,V,?_,b2⟩,hc,T,?_⟩
   ·have B:r.f i=t.f i:=I i hi (K.Lv.more hi);show jJ r.f (ad j p) (4096*p) (aB k) (aF k) i=t.f i
    rw[<-B];refine vG r.f j p k hk i (fun e=>?_);obtain⟨q,c,h3,h4,Z⟩:=hi;have hq:=U.sf.sn.apart (List.mem_append_left _ h3) v;have b4:i/4096=p:=(by omega);rw[b4] at h4 Z;rcases hq with ⟨e2,e3⟩|e2|e2
    ·rw[e2] at h3;exact T c h3
    ·omega
    ·omega
   ·show(gG r.m h p k).n=_
    rw[<-b1];unfold gG eC iY;rw[IP,IP];unfold fW;split <;> exact XZ _ _ _
   ·refine(L.mono (fun _ _ e=>.inl e)).trans kk (fun _ _ e=>e) (fun y hy e=>?_);rcases e with e|e
    ·rcases V y e with e|e
     ·exact .inl e
     ·omega
    ·exact .inr e)
  have O1:=aA z.sw;rw[<-X];clear F U g I V L Q T b1 b2 hc z v a5 n4 n2 b6 a0 a3 E X P J N c0 c1 ND;obtain⟨c0,c1⟩:=O1.o.c0;go_wp2_with fail;refine PG.o.mono ?_;rintro e w2 ⟨rfl,B⟩;replace B:=B.symm;subst B;have MP:=aA (bT O1.o.pl);go_wp2_with fail;refine MP.o.mono ?_;rintro e w2 ⟨rfl,B⟩;replace B:=B.symm;subst B;go_wp2_with fail;refine SL.o.mono ?_;rintro e w3 ⟨rfl,a9,a1⟩;have S3:=aA a9;have K3:=aA a1;clear a9 a1 c0 c1 MP;go_wp2_with fail;refine(CH.o _ S3.o).mono ?_;rintro e w4 ⟨rfl,C,b0⟩;have S4:=aA C;have K4:=aA (K3.o.trans b0 (fun _ _ e=>e) (fun _ _ e=>e));have MP:=aA (bT C.pl);obtain⟨c0,c1⟩:=C.c0;clear C b0;go_wp2_with fail;refine MP.o.mono ?_;rintro e w5 ⟨rfl,Z⟩;replace Z:=Z.symm;subst Z;go_wp2_with fail;refine(FR.o _ S4.o).mono ?_;rintro e w5 ⟨rfl,a6,a7⟩;have S5:=aA a6;have K5:=aA (K4.o.trans a7 (fun _ _ e=>e) (fun _ _ e=>e));clear a6 a7 c0 c1;go_wp2_with fail;refine(PT.o _ S5.o).mono ?_;rintro e w6 ⟨rfl,a8,a2⟩;have D:=aA (b3.o w6 a8 ((K5.o.mono (fun _ _ e=>.inl e)).trans a2 (fun _ _ e=>e) (fun _ _ e=>e)));clear a8 a2;go_wp2_with fail;exact⟨rfl,.tuple #[.bool b,.int .i64 0],by simp[results,results159,go_sem],D.o⟩
inductive TkP(w W:World)(sb lw:Nat)(x:Bx)(t:Bt)(fr:Nat->List Nat)(ls:List (Nat×Nat))(S:Sb)(h:Nat->Int)(c:Int)(d:Bool)(e:Ending)(w':World):Prop where
 | bad (hc:¬(0<=c/\c<8)) (he:e=.returned (.tuple #[.int .u64 0,.bool false,.int .i64 1])) (kp:Kt nO W w')
 | stuck (k:Nat) (hk:k<8) (hc:c=(k:Int)) (hl:S.pl k=[]) (hz:∀ a,a<=x.o->fr a=[]) (hd:d=true\/x.n=x.lim*x.R) (he:e=.returned (.tuple #[.int .u64 0,.bool false,.int .i64 2])) (kp:Kt nO W w')
 | old (k p i:Nat) (l r:List Nat) (hk:k<8) (hc:c=(k:Int)) (hl:S.pl k=p :: l) (hf:S.fl p=i :: r) (he:e=.returned (.tuple #[.int .u64 ((aK x p k i:Nat):Int),.bool false,.int .i64 0])) (so:∃ P m' h',SO w w' sb lw { x with P:=P } { t with m:=m' } fr ls (bB S p k r) h'/\m'.n=t.m.n) (kp:Kt (bN x sb) W w')
 | new (k p:Nat) (b:Bool) (hk:k<8) (hc:c=(k:Int)) (hl:S.pl k=[]) (he:e=.returned (.tuple #[.int .u64 ((aK x p k 0:Nat):Int),.bool b,.int .i64 0])) (so:∃ x' t' fr' h',Ned x t fr d p b fr'/\SO w w' sb lw x' t' fr' (ls ++ [(p,0)]) (bB (bK S p k) p k (List.range' 1 (aF k-1))) h'/\Sm x { x' with P:=x.P }/\(∀ i,Lv ls (i/4096)->t'.f i=t.f i)/\Nb W x x'/\t'.m.n=(if b=true then t.m.n + 2 ^ x.o else t.m.n)/\x'.n=(if b=true then x.n + x.R else x.n)) (hcp:S.c p=none) (nl:∀ i,(p,i) ∉ ls) (kp:Kt (bN x sb) W w')
theorem CI{w W sb lw x t fr ls S h w'}(o:SO w W sb lw x t fr ls S h){p k i:Nat}{r:List Nat}(hc:S.c p=some k)(hf:S.fl p=i :: r)(b:SE w W sb lw x t (eZ t.m p i r) (gE t.m h p k i r) w'):(eZ t.m p i r).n=t.m.n:=by have a:=(o.hand hc hf b).st;have e:=o.st;have d:(eZ t.m p i r).n*4096=x.n:=a;omega
theorem zkH{w W sb lw x t fr ls S h}(o:SO w W sb lw x t fr ls S h)(c:Int)(hc:¬(0<=c/\c<8))(d:Bool):
  Calls prog 107 #[.pointer (some ⟨sb,0,none⟩),.int .i64 c,.bool d] W fun e a=>TkP w W sb lw x t fr ls S h c d e a:=by
 have D:=aA (show TkP w W sb lw x t fr ls S h c d (.returned (.tuple #[.int .u64 0,.bool false,.int .i64 1])) W from .bad hc rfl (Kt.refl _ _));clear o;by_cases h0:c<0
 ·clear hc;go_enter func107,ntmps107;go_wp2_with fail;exact⟨rfl,.tuple #[.int .u64 0,.bool false,.int .i64 1],by simp[results,results107,go_sem],D.o⟩
 ·have b : 8<=c:=by omega
  clear hc;go_enter func107,ntmps107;go_wp2_with fail;exact⟨rfl,.tuple #[.int .u64 0,.bool false,.int .i64 1],by simp[results,results107,go_sem],D.o⟩
theorem QS{w W sb lw x t fr ls S h}(o:SO w W sb lw x t fr ls S h)(k:Nat)(f:k<8)(d:Bool):
  Calls prog 107 #[.pointer (some ⟨sb,0,none⟩),.int .i64 k,.bool d] W fun e E=>TkP w W sb lw x t fr ls S h (k:Int) d e E:=by
 have ch:=o.sw.hd k f;have a0:(k:Int)<8:=by omega
 have X:¬(k:Int)<0:=by omega
 have Z:¬ 8<=(k:Int):=by omega
 have HO:=aA o;have v:=o.hd k f
 cases hl:S.pl k with
 | nil=>
  rw[hl] at v;have hz:h k = -1:=v;rw[hz] at ch;have K:=aA (UH o k f d);have T:=aA hl;clear o v hz hl;go_enter func107,ntmps107;go_wp2_with fail;refine K.o.mono ?_;intro e N Y
  cases Y with
  | stuck hz hd he kp=>
   subst he;have D:=aA (show TkP w W sb lw x t fr ls S h (k:Int) d (.returned (.tuple #[.int .u64 0,.bool false,.int .i64 2])) N from .stuck k f rfl T.o hz hd rfl kp);clear hz hd kp K ch;go_wp2_with fail;exact⟨rfl,.tuple #[.int .u64 0,.bool false,.int .i64 2],by simp[results,results107,go_sem],D.o⟩
  | got p b he fo=>
   subst he;obtain⟨⟨U,t1,Q,n,z,q,B,u,G,I⟩,hc,nl,kp⟩:=fo;have P:=cW f;have j:(bK S p k).fl p=0 :: List.range' 1 (aF k-1):=by have:(bK S p k).fl p=List.range' 0 (aF k):=bQ _ _ _;rw[this];obtain⟨m,V⟩:∃ m,aF k=m+1:=⟨aF k-1,by omega⟩;rw[V];rfl
   have g:(bK S p k).c p=some k:=bQ _ _ _;have c1:N.cell? ⟨sb,2+k,none⟩=some (.int .i64 p):=by have:=z.sw.hd k f;rw[show cP h k (p:Int) k=(p:Int)from ae rfl] at this;exact this
   have J:aK U p k 0=aK x p k 0:=AN q.bS p k 0;have F:=aA (show Calls prog 160 #[.pointer (some ⟨sb,0,none⟩),.int .i64 p,.int .i64 k] N fun e E=>e=.returned (.tuple #[.int .u64 ((aK x p k 0:Nat):Int),.int .i64 0])/\TkP w W sb lw x t fr ls S h (k:Int) d (.returned (.tuple #[.int .u64 ((aK x p k 0:Nat):Int),.bool b,.int .i64 0])) E from by
    refine(BC z p k 0 _ g j).mono ?_;rintro e R ⟨rfl,s⟩;refine⟨by rw[J],.new k p b f rfl T.o rfl ⟨_,_,Q,_,n,z.hand g j s,q,B,u,?_,I⟩ hc nl ?_⟩
    ·rw[<-G];exact CI z g j s
    ·refine kp.trans s.2 (fun _ _ e=>e) (fun y hy e=>?_);rcases e with e|e
     ·rcases u y e with e|e
      ·exact .inl e
      ·omega
     ·exact .inr e)
   obtain⟨a,ha⟩:=xe (aK x p k 0);rw[<-ha] at F;have L:(p:Int) ≠ -1:=(by omega);clear n z q B u G I hc nl kp P j g J ha K ch;go_wp2_with fail;refine F.o.mono ?_;rintro e R ⟨rfl,A⟩;have D:=aA A;clear A;go_wp2_with fail;exact⟨rfl,.tuple #[.int .u64 a,.bool b,.int .i64 0],by simp[results,results107,go_sem],D.o⟩
 | cons p l=>
  rw[hl] at v;have hz:h k=(p:Int):=v;rw[hz] at ch;obtain⟨hc,C⟩:=(o.si.pm k f p).1 (by rw[hl];exact aw);obtain⟨i,r,hf⟩:∃ i r,S.fl p=i :: r:=by
   cases e:S.fl p with
   | nil=>exact absurd e C
   | cons i r=>exact⟨i,r,rfl⟩
  have F:=aA (show Calls prog 160 #[.pointer (some ⟨sb,0,none⟩),.int .i64 p,.int .i64 k] W fun e E=>e=.returned (.tuple #[.int .u64 ((aK x p k i:Nat):Int),.int .i64 0])/\TkP w W sb lw x t fr ls S h (k:Int) d (.returned (.tuple #[.int .u64 ((aK x p k i:Nat):Int),.bool false,.int .i64 0])) E from by refine(BC o p k i r hc hf).mono ?_;rintro e R ⟨rfl,s⟩;exact⟨rfl,.old k p i l r f rfl hl hf rfl ⟨_,_,_,o.hand hc hf s,CI o hc hf s⟩ s.2⟩)
  obtain⟨a,ha⟩:=xe (aK x p k i);rw[<-ha] at F;have L:(p:Int) ≠ -1:=by omega
  clear o v hz hl hc C hf ha;go_enter func107,ntmps107;go_wp2_with fail;refine F.o.mono ?_;rintro e R ⟨rfl,A⟩;have D:=aA A;clear A;go_wp2_with fail;exact⟨rfl,.tuple #[.int .u64 a,.bool false,.int .i64 0],by simp[results,results107,go_sem],D.o⟩
theorem zkI{w W sb lw x t fr ls S h}(o:SO w W sb lw x t fr ls S h)(c:Int)(d:Bool):
  Calls prog 107 #[.pointer (some ⟨sb,0,none⟩),.int .i64 c,.bool d] W fun e a=>TkP w W sb lw x t fr ls S h c d e a:=by
 by_cases hc : 0<=c/\c<8
 ·obtain⟨k,rfl⟩:∃ k:Nat,c=(k:Int):=⟨c.toNat,by omega⟩;exact QS o k (by omega) d
 ·exact zkH o c hc d
def bD(S:Sb)(p k i:Nat):Sb:={ S with fl:=aR S.fl p (i :: S.fl p),pl:=if S.fl p=[] then aR S.pl k (p :: S.pl k) else S.pl }
def kX(m:Mp)(h:Nat->Int)(p k i:Nat)(f:List Nat):Mp:=if f=[] then eC (bX m (p:Int) (i:Int) false) h (p:Int) k else bX m (p:Int) (i:Int) false
def iQ(m:Mp)(h:Nat->Int)(p k i:Nat)(f:List Nat):Mp:=fW (kX m h p k i f) (p:Int) (i:Int)
def gF(h:Nat->Int)(p k:Nat)(f:List Nat):Nat->Int:=if f=[] then cP h k (p:Int) else h
theorem jF(pg:Nat->Pg)(p:Nat)(q:Pg):aG pg p q p=q:=ae rfl
theorem gS(pg:Nat->Pg){p a:Nat}(q:Pg)(h:a≠p):aG pg p q a=pg a:=ac h
theorem VC(pg:Nat->Pg)(p:Nat)(q b:Pg):aG (aG pg p q) p b=aG pg p b:=by
 funext a
 by_cases e:a=p
 ·subst e;rw[jF,jF]
 ·rw[gS _ _ e,gS _ _ e,gS _ _ e]
theorem TH(x:Bx)(p k:Nat)(l:List Nat):mW x p k (bC l)=oC x p k l:=by
 cases l with
 | nil=>rfl
 | cons j l=>
  unfold mW;rw[ac (by show ¬((j:Int) = -1);omega)];rfl
theorem zi8{S:Sb}{p k i:Nat}{q:Pg}(g:k<8)(h:SlP S p k q)(hi:i<aF k)(l:i ∉ S.fl p)(hl:(S.fl p).length<aF k):
  SlQ (bD S p k i) p k { aT q i with fs:=(i:Int) }:=by
 obtain⟨m,d,n,v,u,s,t⟩:=mT q i;have o:=cW g;have a:aI q i=true:=by rw[h.bt i (by omega)];exact af ⟨hi,l⟩
 have b:(bD S p k i).fl p=i :: S.fl p:=bQ _ _ _;refine⟨m.trans h.kd,d.trans h.od,n.trans h.cl,?_,by rw[b];rfl,fun j c=>?_⟩
 ·show wrap64 (if aI q i=true then q.lv-1 else q.lv+1)=_
  rw[a,ae rfl,h.lv,b,List.length_cons];unfold wrap64;omega
 ·have f:aI { aT q i with fs:=(i:Int) } j=aI (aT q i) j:=wZ rfl rfl rfl rfl j;rw[f,DV q i j (by omega) c,b];by_cases e:j=i
  ·rw[ae e,a];symm;exact ah (fun r=>r.2 (by rw[e];exact aw))
  ·rw[ac e,h.bt j c];apply decide_eq_decide.2
   rw[List.mem_cons,not_or];exact⟨fun h=>⟨h.1,e,h.2⟩,fun h=>⟨h.1,h.2.2⟩⟩
theorem SO.nxt{w W sb lw x t fr ls S h}(o:SO w W sb lw x t fr ls S h){k:Nat}(c:k<8)(r:Nat)(f:r∈S.pl k):r<t.m.n/\(t.m.pg r).kd=4/\cV t.m.n (t.m.pg r).nx=true:=by
 have a:=((o.si.pm k c r).1 f).1;have d:=(o.si.pg r k a).2;refine⟨(o.mem a).2.1,d.kd,?_⟩;rw[d.nx];rcases mA (S.pl k) r (o.si.pn k c)with e|⟨b,e,hb,_⟩
 ·rw[e];exact lV _
 ·rw[e];exact oT (o.mem ((o.si.pm k c b).1 hb).1).2.1
theorem VB{w W sb lw x t fr ls S h}(o:SO w W sb lw x t fr ls S h){p k i:Nat}(hc:S.c p=some k)(hi:i<aF k)(C:i ∉ S.fl p):
  iQ t.m h p k i (S.fl p)={ t.m with pg:=if S.fl p=[] then cI (aG t.m.pg p { aT (t.m.pg p) i with fs:=(i:Int) }) (S.pl k) p else aG t.m.pg p { aT (t.m.pg p) i with fs:=(i:Int) } }:=by
 obtain⟨s,sp⟩:=o.si.pg p k hc;obtain⟨B,b,_⟩:=o.mem hc;have F:=cW s;have y:eJ (t.m.pg p).cl=aF k:=by rw[sp.cl];rfl
 have j:aI (t.m.pg p) i=!false:=by rw[sp.bt i (by omega)];exact af ⟨hi,C⟩
 obtain⟨D,G,E,_⟩:=mT (t.m.pg p) i;have z:=(tJ b sp.kd (by rw[y];exact hi) j).2;have d:(aT (t.m.pg p) i).kd=4:=D.trans sp.kd;have f:(aT (t.m.pg p) i).cl=(k:Int):=E.trans sp.cl;unfold iQ kX;by_cases hf:S.fl p=[]
 ·rw[ae hf,ae hf,z];have q:p ∉ S.pl k:=fun e=>((o.si.pm k s p).1 e).2 hf
  rw[BZ (m:={ t.m with pg:=aG t.m.pg p (aT (t.m.pg p) i) }) (l:=S.pl k) b (by show(aG t.m.pg p _ p).kd=4;rw[jF];exact d) (o.hd k s) (fun r A=>by
   have u:r≠p:=fun e=>q (by rw[<-e];exact A)
   show r<t.m.n/\(aG t.m.pg p _ r).kd=4/\cV t.m.n (aG t.m.pg p _ r).nx=true
   rw[gS _ _ u];exact o.nxt s r A) q]
  have v:cI (aG t.m.pg p (aT (t.m.pg p) i)) (S.pl k) p p={ aT (t.m.pg p) i with nx:=bC (S.pl k),pv := -1 }:=by unfold cI;rw[ae rfl,jF]
  rw[uF (m:={ t.m with pg:=cI (aG t.m.pg p (aT (t.m.pg p) i)) (S.pl k) p }) b (by show(cI _ _ p p).kd=4;rw[v];exact d) (.inr ⟨i,rfl,by show i<eJ (cI _ _ p p).cl;rw[v];show i<eJ (aT (t.m.pg p) i).cl;rw[f];exact hi⟩)];refine congrArg (fun g=>({ t.m with pg:=g } : Mp)) (funext fun a=>?_);show aG (cI (aG t.m.pg p (aT (t.m.pg p) i)) (S.pl k) p) p { cI (aG t.m.pg p (aT (t.m.pg p) i)) (S.pl k) p p with fs:=(i:Int) } a=_
  rw[v];by_cases e:a=p
  ·subst e;rw[jF];unfold cI;rw[ae rfl,jF]
  ·rw[gS _ _ e];unfold cI;rw[ac e,ac e,gS _ _ e,gS _ _ e]
 ·rw[ac hf,ac hf,z];rw[uF (m:={ t.m with pg:=aG t.m.pg p (aT (t.m.pg p) i) }) b (by show(aG t.m.pg p _ p).kd=4;rw[jF];exact d) (.inr ⟨i,rfl,by show i<eJ (aG t.m.pg p _ p).cl;rw[jF,f];exact hi⟩)];show({ t.m with pg:=aG (aG t.m.pg p (aT (t.m.pg p) i)) p { aG t.m.pg p (aT (t.m.pg p) i) p with fs:=(i:Int) } } : Mp)=_
  rw[jF,VC]
theorem SO.give{w W W' sb lw x t fr ls S h}(o:SO w W sb lw x t fr ls S h){p k i:Nat}(hc:S.c p=some k)(hi:i<aF k)(L:i ∉ S.fl p)(hl:(S.fl p).length<aF k)
  (sw:SW w W' sb lw x ⟨M.upd t.f (4096*p+i*aB k) 8 (M.byteOf (oC x p k (S.fl p))),iQ t.m h p k i (S.fl p),t.hd⟩ (gF h p k (S.fl p))):
  SO w W' sb lw { x with P:=fK (bD S p k i) (iQ t.m h p k i (S.fl p)) } ⟨M.upd t.f (4096*p+i*aB k) 8 (M.byteOf (oC x p k (S.fl p))),iQ t.m h p k i (S.fl p),t.hd⟩ fr ls (bD S p k i) (gF h p k (S.fl p)):=by
 obtain⟨A,sp⟩:=o.si.pg p k hc;obtain⟨nd,lt,lk⟩:=o.si.fl p k hc;obtain⟨a0,a4,a6,a7⟩:=o.mem hc;have a1:=cW A;have hz:=cN A;have n4:=o.po.nums.2.2.2.1;have eM:=VB o hc hi L;have Q3:=zi8 A sp hi L hl;have J:({ aT (t.m.pg p) i with fs:=(i:Int) } : Pg).nx=(t.m.pg p).nx:=(mT (t.m.pg p) i).2.2.2.2.1;have F:({ aT (t.m.pg p) i with fs:=(i:Int) } : Pg).pv=(t.m.pg p).pv:=(mT (t.m.pg p) i).2.2.2.2.2.1;have R:(S.pl k).Nodup:=o.si.pn k A;generalize ({ aT (t.m.pg p) i with fs:=(i:Int) } : Pg)=Q at *;rw[eM] at sw ⊢;clear eM;have v:(bD S p k i).fl p=i :: S.fl p:=bQ _ _ _;have r:∀ a,a≠p->(bD S p k i).fl a=S.fl a:=fun a ha=>bR _ _ ha
 have E:∀ a c,S.c a=some c->SlQ (bD S p k i) a c (aG t.m.pg p Q a)/\(aG t.m.pg p Q a).nx=bE (S.pl c) a/\(aG t.m.pg p Q a).pv=bH (S.pl c) a:=fun a c ha=>by
  obtain⟨d,sa⟩:=o.si.pg a c ha;by_cases e:a=p
  ·subst e;rw[hc] at ha
   cases ha
   rw[jF,J,F];exact⟨Q3,sp.nx,sp.pv⟩
  ·rw[gS _ _ e];exact⟨sa.q.congr (r a e),sa.nx,sa.pv⟩
 have n:∀ a,S.c a=none->aG t.m.pg p Q a=t.m.pg a:=fun a ha=>gS _ _ (fun e=>by rw[e,hc] at ha;cases ha)
 have I:S.fl p=[]->p ∉ S.pl k:=fun hf e=>((o.si.pm k A p).1 e).2 hf
 -- the pages in the end
 obtain⟨s,g⟩:=xe ((if S.fl p=[] then cI (aG t.m.pg p Q) (S.pl k) p else aG t.m.pg p Q));rw[<-g] at sw ⊢;have T:∀ a,S.c a=none->s a=t.m.pg a:=fun a ha=>by
  rw[g];by_cases hf:S.fl p=[]
  ·rw[ae hf];have C:a≠p:=fun e=>by rw[e,hc] at ha;cases ha
   have B:a ∉ S.pl k:=fun e=>by rw[((o.si.pm k A a).1 e).1] at ha;cases ha
   rw[qD C B];exact n a ha
  ·rw[ac hf];exact n a ha
 have y:∀ a c,S.c a=some c->SlQ (bD S p k i) a c (s a)/\(s a).nx=bE ((bD S p k i).pl c) a/\(s a).pv=bH ((bD S p k i).pl c) a:=fun a c ha=>by
  obtain⟨h1,K,h3⟩:=E a c ha;rw[g];by_cases hf:S.fl p=[]
  ·have b:(bD S p k i).pl=aR S.pl k (p :: S.pl k):=(by unfold bD;rw[ae hf]);rw[ae hf,b];refine⟨h1.rst (FW _ _ _ _),?_⟩;by_cases e:c=k
   ·subst e;rw[bQ];exact BW (fun a ha=>(E a c ha).2) R (I hf) a ha
   ·rw[bR _ _ e];have C:a≠p:=fun V=>by rw[V,hc] at ha;cases ha;exact e rfl
    have B:a ∉ S.pl k:=fun V=>by rw[((o.si.pm k A a).1 V).1] at ha;cases ha;exact e rfl
    rw[qD C B];exact⟨K,h3⟩
  ·have b:(bD S p k i).pl=S.pl:=(by unfold bD;rw[ac hf]);rw[ac hf,b];exact⟨h1,K,h3⟩
 have a3:∀ c,c<8->gF h p k (S.fl p) c=bC ((bD S p k i).pl c):=fun c d=>by
  unfold gF;by_cases hf:S.fl p=[]
  ·have b:(bD S p k i).pl=aR S.pl k (p :: S.pl k):=(by unfold bD;rw[ae hf]);rw[ae hf,b];by_cases e:c=k
   ·subst e;rw[bQ];exact ae rfl
   ·rw[bR _ _ e];exact(ac e).trans (o.hd c d)
  ·have b:(bD S p k i).pl=S.pl:=(by unfold bD;rw[ac hf]);rw[ac hf,b];exact o.hd c d
 have a2:(i+1)*aB k<=aF k*aB k:=ak _ hi;rw[av,aL,a1.1] at a2;have Z:=o.sf.fill (p:=p) (k:=0) a0 (f':=M.upd t.f (4096*p+i*aB k) 8 (M.byteOf (oC x p k (S.fl p)))) (fun j u=>M.upd_out _ _ _ _ _ (by omega));refine⟨sw.reP _,Z.repaint S (bD S p k i) o.si.eP { t.m with pg:=s } rfl rfl rfl (fun a ha=>?_) (fun a c ha=>⟨(y a c ha).1.kd,(o.mem ha).1⟩),o.st,o.bm,⟨rfl,fun a c ha=>⟨(o.si.pg a c ha).1,(y a c ha).1.p (y a c ha).2.1 (y a c ha).2.2⟩,fun a c ha=>?_,fun a c ha=>?_,fun c d=>?_,fun c d a=>?_⟩,a3⟩
 ·have ha:S.c a=none:=ha;rw[ae ha];exact T a ha
 ·replace ha:S.c a=some c:=ha;obtain⟨n1,N,n3⟩:=o.si.fl a c ha;by_cases e:a=p
  ·subst e;rw[hc] at ha
   cases ha
   rw[v];refine⟨List.nodup_cons.2 ⟨L,n1⟩,fun j u=>?_,?_,?_⟩
   ·rcases List.mem_cons.1 u with rfl|u
    ·exact hi
    ·exact N j u
   ·have hb:oC x a k (S.fl a)<18446744073709551616:=by
     cases e:S.fl a with
     | nil=>show 0<_;decide
     | cons j l=>
      have u:=N j (by rw[e];exact aw);exact(fV (x:=x) (p:=a) A u (by omega)).2.2
    show M.word (M.upd t.f _ 8 _) _=oC { x with P:=_ } a k (S.fl a)
    rw[M.word_upd _ _ _ hb]
    cases S.fl a <;> rfl
   ·refine mR (oQ (x:=x) rfl (fun j u=>?_) n3);have Y:j≠i:=fun e=>L (by rw[<-e];exact u)
    refine M.word_far _ _ _ _ ?_;rcases Nat.lt_or_gt_of_ne Y with D|D
    ·have:(j+1)*aB k<=i*aB k:=ak _ D;rw[av,aL] at this;omega
    ·have:(i+1)*aB k<=j*aB k:=ak _ D;rw[av,aL] at this;omega
  ·rw[r a e];have d:=(o.si.pg a c ha).1;have G:=cW d;have a5:=cN d;refine⟨n1,N,mR (oQ (x:=x) rfl (fun j u=>?_) n3)⟩;have X:=N j u;have K:(j+1)*aB c<=aF c*aB c:=ak _ X;rw[av,aL,G.1] at K;refine M.word_far _ _ _ _ ?_;omega
 ·replace ha:S.c a=some c:=ha;by_cases e:a=p
  ·subst e;rw[hc] at ha
   cases ha
   rw[v,List.length_cons];omega
  ·rw[r a e];exact o.si.lv a c ha
 ·have:=o.si.pn c d;unfold bD;by_cases hf:S.fl p=[]
  ·rw[ae hf];show(aR S.pl k _ c).Nodup
   by_cases e:c=k
   ·subst e;rw[bQ];exact List.nodup_cons.2 ⟨I hf,this⟩
   ·rw[bR _ _ e];exact this
  ·rw[ac hf];exact this
 ·have z:=o.si.pm c d a;show a∈(bD S p k i).pl c↔(S.c a=some c/\(bD S p k i).fl a≠[])
  by_cases hf:S.fl p=[]
  ·have b:(bD S p k i).pl=aR S.pl k (p :: S.pl k):=(by unfold bD;rw[ae hf]);rw[b];by_cases ea:a=p
   ·subst ea;rw[v,hc];by_cases e:c=k
    ·subst e;rw[bQ];exact⟨fun _=>⟨rfl,da _ _⟩,fun _=>aw⟩
    ·rw[bR _ _ e,z,hc];constructor
     ·rintro ⟨e2,_⟩;cases e2;exact absurd rfl e
     ·rintro ⟨e2,_⟩;cases e2;exact absurd rfl e
   ·rw[r a ea];by_cases e:c=k
    ·subst e;rw[bQ,List.mem_cons,z];exact⟨fun h=>h.resolve_left ea,fun h=>.inr h⟩
    ·rw[bR _ _ e];exact z
  ·have b:(bD S p k i).pl=S.pl:=(by unfold bD;rw[ac hf]);rw[b,z];by_cases ea:a=p
   ·subst ea;rw[v];exact⟨fun U=>⟨U.1,da _ _⟩,fun U=>⟨U.1,hf⟩⟩
   ·rw[r a ea]
def cC(S:Sb)(p k:Nat):Sb:=⟨aR S.c p none,S.fl,aR S.pl k (M.dropL (S.pl k) p)⟩
def dP(m:Mp)(p i:Nat):Mp:=cH (gU (bX m (p:Int) (i:Int) false) (p:Int)) (p:Int) 0 2
def gW(m:Mp)(h:Nat->Int)(p k i:Nat):Nat->Int:=gV (bX m (p:Int) (i:Int) false) h (p:Int) k
theorem YV{m:Mp}{p:Nat}(hp:p<m.n):cH m (p:Int) 0 2={ m with pg:=aG m.pg p (aU 2 0) }:=by
 have h:jR m (p:Int) 0 2=true:=by unfold jR;rw[dQ hp,bu,bu];refine⟨af ⟨.inr rfl,by omega,by omega⟩,rfl,af ?_⟩;rw[show(2:Int) ^ (0:Int).toNat=1 from rfl];omega
 unfold cH;rw[ae h,aa];refine congrArg (fun g=>({ m with pg:=g } : Mp)) (funext fun a=>?_);unfold fG aG;by_cases e:a=p
 ·rw[ae e,ae e];rfl
 ·rw[ac e,ac e,ac];rw[show(2:Nat) ^ (0:Int).toNat=1 from rfl];omega
theorem VX{w W sb lw x t fr ls S h}(o:SO w W sb lw x t fr ls S h){p k i:Nat}(hc:S.c p=some k)(hi:i<aF k)(v:i ∉ S.fl p)(hf:S.fl p≠[]):
  dP t.m p i={ t.m with pg:=aG (dK (aG t.m.pg p (aT (t.m.pg p) i)) (S.pl k) p) p (aU 2 0) }/\gW t.m h p k i=(if bH (S.pl k) p = -1 then cP h k (bE (S.pl k) p) else h)/\NP (aG t.m.pg p (aT (t.m.pg p) i)) S k (S.pl k):=by
 obtain⟨g,sp⟩:=o.si.pg p k hc;obtain⟨u,d,_⟩:=o.mem hc;have z:=cW g;have l:eJ (t.m.pg p).cl=aF k:=by rw[sp.cl];rfl
 have f:aI (t.m.pg p) i=!false:=by rw[sp.bt i (by omega)];exact af ⟨hi,v⟩
 obtain⟨y,A,C,D,r,q,B⟩:=mT (t.m.pg p) i;have s:=(tJ d sp.kd (by rw[l];exact hi) f).2;have j:p∈S.pl k:=(o.si.pm k g p).2 ⟨hc,hf⟩;have np:NP (aG t.m.pg p (aT (t.m.pg p) i)) S k (S.pl k):=fun a ha=>by
  by_cases e:a=p
  ·subst e;rw[jF];exact⟨r.trans sp.nx,q.trans sp.pv⟩
  ·rw[gS _ _ e];exact⟨(o.si.pg a k ha).2.nx,(o.si.pg a k ha).2.pv⟩
 have n:=BX (m:={ t.m with pg:=aG t.m.pg p (aT (t.m.pg p) i) }) (h:=h) (c:=k) (o.si.pn k g) j (fun a ha=>by
  have b:=((o.si.pm k g a).1 ha).1;refine⟨(o.mem b).2.1,?_,np a b⟩;show(aG t.m.pg p _ a).kd=4
  by_cases e:a=p
  ·rw[e,jF];exact y.trans sp.kd
  ·rw[gS _ _ e];exact(o.si.pg a k b).2.kd)
 unfold dP gW;rw[s];refine⟨?_,n.2,np⟩;rw[n.1,YV (m:={ t.m with pg:=dK (aG t.m.pg p (aT (t.m.pg p) i)) (S.pl k) p }) d]
theorem SO.rel{w W W' sb lw x t fr ls S h}(o:SO w W sb lw x t fr ls S h){p k i:Nat}(hc:S.c p=some k)(hi:i<aF k)(K:i ∉ S.fl p)(hf:S.fl p≠[])
  (sw:SW w W' sb lw x { t with m:=dP t.m p i } (gW t.m h p k i)):
  SO w W' sb lw { x with P:=fK (cC S p k) (dP t.m p i) } { t with m:=dP t.m p i } fr ls (cC S p k) (gW t.m h p k i):=by
 obtain⟨u,sp⟩:=o.si.pg p k hc;obtain⟨J,D,G,I⟩:=o.mem hc;have f:(S.pl k).Nodup:=o.si.pn k u;have z:p∈S.pl k:=(o.si.pm k u p).2 ⟨hc,hf⟩;obtain⟨L,F,np⟩:=VX o hc hi K hf;rw[L,F] at sw ⊢;have A:=BU np f z;have y:(cC S p k).c p=none:=bQ _ _ _;have s:∀ a,a≠p->(cC S p k).c a=S.c a:=fun a ha=>bR _ _ ha
 have l:∀ a c,(cC S p k).c a=some c->a≠p/\S.c a=some c:=fun a c ha=>by
  have b:a≠p:=fun e=>by rw[e,y] at ha;cases ha
  exact⟨b,by rw[<-s a b];exact ha⟩
 generalize N:aT (t.m.pg p) i=B at *;have C:∀ a,S.c a=none->aG (dK (aG t.m.pg p B) (S.pl k) p) p (aU 2 0) a=t.m.pg a:=fun a ha=>by
  have b:a≠p:=fun e=>by rw[e,hc] at ha;cases ha
  have g:a ∉ S.pl k:=fun e=>by rw[((o.si.pm k u a).1 e).1] at ha;cases ha
  rw[gS _ _ b,qE f b g,gS _ _ b]
 have v:∀ a c,(cC S p k).c a=some c->c<8/\SlP (cC S p k) a c (aG (dK (aG t.m.pg p B) (S.pl k) p) p (aU 2 0) a):=fun a c ha=>by
  have hb:=l a c ha;clear ha;obtain⟨b,ha⟩:=hb;obtain⟨d,sa⟩:=o.si.pg a c ha;rw[gS _ _ b];have hq:SlQ (cC S p k) a c (aG t.m.pg p B a):=by rw[gS _ _ b];exact sa.q.congr rfl
  refine⟨d,(hq.rst (FV _ _ _ _)).p ?_ ?_⟩
  ·show(dK _ _ _ a).nx=bE (aR S.pl k _ c) a
   by_cases e:c=k
   ·subst e;rw[bQ];exact(A a ha).1
   ·rw[bR _ _ e];have g:a ∉ S.pl k:=fun j=>by rw[((o.si.pm k u a).1 j).1] at ha;cases ha;exact e rfl
    rw[qE f b g,gS _ _ b];exact sa.nx
  ·show(dK _ _ _ a).pv=bH (aR S.pl k _ c) a
   by_cases e:c=k
   ·subst e;rw[bQ];exact(A a ha).2
   ·rw[bR _ _ e];have g:a ∉ S.pl k:=fun j=>by rw[((o.si.pm k u a).1 j).1] at ha;cases ha;exact e rfl
    rw[qE f b g,gS _ _ b];exact sa.pv
 refine⟨sw.reP _,o.sf.repaint S (cC S p k) o.si.eP { t.m with pg:=aG (dK (aG t.m.pg p B) (S.pl k) p) p (aU 2 0) } rfl rfl rfl (fun a ha=>?_) (fun a c ha=>⟨(v a c ha).2.kd,(o.mem (l a c ha).2).1⟩),o.st,o.bm,⟨rfl,v,fun a c ha=>?_,fun a c ha=>o.si.lv a c (l a c ha).2,fun c d=>?_,fun c d a=>?_⟩,fun c d=>?_⟩
 ·show aG _ p _ a=_
  by_cases e:a=p
  ·subst e;rw[jF,hc,ac (by rintro ⟨⟩)]
  ·rw[s a e] at ha;rw[ae ha];exact C a ha
 ·obtain⟨n1,Q,E⟩:=o.si.fl a c (l a c ha).2;exact⟨n1,Q,mR E⟩
 ·have:=o.si.pn c d;show(aR S.pl k _ c).Nodup
  by_cases e:c=k
  ·subst e;rw[bQ];exact EK this p
  ·rw[bR _ _ e];exact this
 ·have r:=o.si.pm c d a;show a∈aR S.pl k _ c↔((cC S p k).c a=some c/\S.fl a≠[])
  by_cases ea:a=p
  ·subst ea;rw[y];constructor
   ·intro n;exfalso
    by_cases e:c=k
    ·subst e;rw[bQ,jT] at n;exact n.2 rfl
    ·rw[bR _ _ e,r,hc] at n
     cases n.1
     exact e rfl
   ·rintro ⟨e,_⟩;cases e
  ·rw[s a ea];by_cases e:c=k
   ·subst e;rw[bQ,jT,r];exact⟨fun n=>n.1,fun n=>⟨n,ea⟩⟩
   ·rw[bR _ _ e];exact r
 ·show(if bH (S.pl k) p = -1 then cP h k (bE (S.pl k) p) else h) c=bC (aR S.pl k _ c)
  by_cases e:c=k
  ·subst e;rw[bQ,tH f z];by_cases j:bH (S.pl c) p = -1
   ·rw[ae j,ae j];exact ae rfl
   ·rw[ac j,ac j];exact o.hd c d
  ·rw[bR _ _ e];by_cases j:bH (S.pl k) p = -1
   ·rw[ae j];exact(ac e).trans (o.hd c d)
   ·rw[ac j];exact o.hd c d
def zI(w W1:World)(sb lw:Nat)(x:Bx)(t:Bt)(fr:Nat->List Nat)(ls:List (Nat×Nat))(S:Sb)(p k:Nat)(w':World):Prop:=∃ P t' h',SO w w' sb lw { x with P:=P } t' (lF x.o fr p 0) (dU ls p) (cC S p k) h'/\t'.m.n=t.m.n/\BK t t' ls (dU ls p)/\Kt (bN x sb) W1 w'
theorem zjE{w W W1 sb lw x t fr ls S h}(o:SO w W sb lw x t fr ls S h)(p k i:Nat)(hc:S.c p=some k)(hi:i<aF k)(V:i ∉ S.fl p)(hf:S.fl p≠[])(s1:SW w W1 sb lw x { t with m:=bX t.m (p:Int) (i:Int) false } h):
  Calls prog 166 #[.pointer (some ⟨sb,0,none⟩),.int .i64 p,.int .i64 k] W1 fun e b=>e=.returned (.int .i64 0)/\zI w W1 sb lw x t fr ls S p k b:=by
 obtain⟨E,sp⟩:=o.si.pg p k hc;obtain⟨r,J,L,G⟩:=o.mem hc;have T:=cW E;have Z:=aA (IK s1 (p:Int) k E);obtain⟨N,g⟩:=xe (gU (bX t.m (p:Int) (i:Int) false) (p:Int));obtain⟨Y,j⟩:=xe (gV (bX t.m (p:Int) (i:Int) false) h (p:Int) k);rw[<-g,<-j] at Z;have RN:=aA (show ∀ W',SW w W' sb lw x { t with m:=N } Y->Calls prog 175 #[.pointer (some ⟨x.m,0,none⟩),.int .i64 p,.int .i64 0,.int .i64 2] W' fun e b=>e=.returned (.int .i64 (fO N (p:Int) 0 2))/\SO w b sb lw { x with P:=fK (cC S p k) (dP t.m p i) } { t with m:=dP t.m p i } fr ls (cC S p k) (gW t.m h p k i)/\Kt (aC x) W' b from fun W' s=>by refine(NK s (p:Int) 0 2).mono ?_;rintro e b ⟨rfl,s',k'⟩;refine⟨rfl,o.rel hc hi V hf ?_,k'⟩;unfold dP gW;rw[<-g,<-j];exact s')
 generalize fO N (p:Int) 0 2=re at *;have U:fK (cC S p k) (dP t.m p i) p=none:=iW (bQ _ _ _);have v:aK x p k 0=ad x p:=by unfold aK ad;omega
 obtain⟨A,I⟩:=xe (aK x p k 0);have AD:=aA (show ∀ C h' P W',SW w W' sb lw { x with P:=P } C h'->Calls prog 215 #[.pointer (some ⟨sb,0,none⟩),.int .i64 p,.int .i64 k,.int .i64 0] W' fun e b=>e=.returned (.int .u64 A)/\Kt nO W' b from fun C h' P W' s=>by rw[I];exact xG s p k 0 (by omega) E (by omega))
 have GV:=aA (show ∀ W',SO w W' sb lw { x with P:=fK (cC S p k) (dP t.m p i) } { t with m:=dP t.m p i } fr ls (cC S p k) (gW t.m h p k i)->Kt (bN x sb) W1 W'->Calls prog 113 #[.pointer (some ⟨lw,0,none⟩),.int .u64 A,.int .i64 0] W' fun e b=>e=.returned (.int .i64 0)/\zI w W1 sb lw x t fr ls S p k b from fun W' B k2=>by
  refine(K.Give6_yes B.po p 0 r U A (I.trans v)).mono ?_;rintro e b ⟨rfl,C,R,Q,kk,bk⟩;refine⟨rfl,_,C,_,B.pool R (Sm.refl _) bk (fun a c ha=>?_) kk,?_,?_,k2.trans (kk.mono (fun _ _ e=>.inl e)) (fun _ _ e=>e) (fun _ _ e=>e)⟩
  ·refine List.mem_filter.2 ⟨(B.mem ha).1,af fun e=>?_⟩;have e:a=p:=e;rw[e] at ha;rw[show(cC S p k).c p=none from bQ _ _ _] at ha
   cases ha
  ·rw[Q];have h1:=B.st;have Y:=o.st;have D:(dP t.m p i).n*4096=x.n:=h1;show(dP t.m p i).n=t.m.n
   omega
  ·exact bk)
 generalize fK (cC S p k) (dP t.m p i)=PP at *;generalize dP t.m p i=mm at *;generalize gW t.m h p k i=hh at *;obtain⟨c0,c1⟩:=s1.c0;have S1:=aA s1;clear o s1 hc hi V hf sp r J L G g j U v I T;go_enter func166,ntmps166;go_wp2_with fail;refine Z.o.mono ?_;rintro e w2 ⟨rfl,d,z⟩;have S2:=aA d;have K2:=aA z;have MP:=aA (bT d.pl);clear c0 c1;obtain⟨c0,c1⟩:=d.c0;clear d z;go_wp2_with fail;refine MP.o.mono ?_;rintro e X ⟨rfl,D⟩;replace D:=D.symm;subst D;go_wp2_with fail;refine(RN.o _ S2.o).mono ?_;rintro e X ⟨rfl,u,q⟩;have O3:=aA u;have K3:=aA (K2.o.trans (q.mono (fun _ _ e=>.inl e)) (fun _ _ e=>e) (fun _ _ e=>e));clear c0 c1 u q;go_upto_region 3 with fail;have KD:=aA ((Kt.refl nO X).drew);have F:=aA (O3.o.keep KD.o);have K4:=aA (K3.o.trans KD.o (fun _ _ e=>e) (fun _ _ e=>e.elim));obtain⟨c0,c1⟩:=F.o.sw.c0;go_region_held3 (fun b=>b.cell? ⟨sb,0,none⟩=some (.pointer (some ⟨lw,0,none⟩))) (first|with_reducible assumption|fail) (first
  | (go_at_call 113;(with_reducible refine(GV.o _ O5.o K5.o).mono ?_);rintro e w6 ⟨rfl,l⟩;have D6:=aA l;obtain⟨_,_,_,y,_⟩:=l;obtain⟨f0,f1⟩:=y.sw.c0;clear y)
  | (go_at_call 215;(with_reducible refine(AD.o _ _ _ _ F.o.sw).mono ?_);rintro e w5 ⟨rfl,f⟩;have O5:=aA (F.o.keep f);have K5:=aA (K4.o.trans f (fun _ _ e=>e) (fun _ _ e=>e.elim));obtain⟨f0,f1⟩:=O5.o.sw.c0;clear f)
  | fail)
 all_goals
  go_wp2_with fail;exact⟨rfl,.int .i64 0,by simp[results,results166,go_sem],rfl,D6.o⟩
end Go.Proofs.YtfmgnljlkdmndaaGreatDoor
