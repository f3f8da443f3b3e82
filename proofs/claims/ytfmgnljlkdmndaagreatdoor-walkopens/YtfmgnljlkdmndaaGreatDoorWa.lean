import Derived.Test.YtfmgnljlkdmndaaGreatDoorXz
set_option maxRecDepth 1000000
set_option maxHeartbeats 0
namespace Go.Proofs.YtfmgnljlkdmndaaGreatDoor
open Tryz RowKit
set_option linter.unusedVariables false
theorem tJ{m:Mp}{p i:Nat}{l:Bool}(hp:p<m.n)(a:(m.pg p).kd=4)(hi:i<eD (m.pg p).cl)(hl:aJ (m.pg p) i=!l):eB m (p:Int) (i:Int) l=0/\bU m (p:Int) (i:Int) l={ m with pg:=aH m.pg p (aS (m.pg p) i) }:=by
 have hc:jQ m (p:Int) (i:Int) l=true:=by
  unfold jQ oO;rw[aa,aa,dN hp,af a,dN hi,hl]
  cases l <;> rfl
 unfold eB bU;rw[ae hc,ae hc,aa,aa];exact⟨rfl,rfl⟩
theorem uI{m:Mp}{p:Nat}{c:Int}(hp:p<m.n)(b:(m.pg p).kd=4)(hc:c = -1\/∃ j:Nat,c=(j:Int)/\j<eD (m.pg p).cl):fU m (p:Int) c={ m with pg:=aH m.pg p { m.pg p with fs:=c } }:=by
 have h:lM m (p:Int) c=true:=by
  unfold lM;rw[aa,dN hp,af b];rcases hc with rfl|⟨j,rfl,a⟩
  ·rfl
  ·rw[dN a,Bool.or_true];rfl
 unfold fU;rw[ae h,aa]
def nC(m:Mp)(p i:Nat)(r:List Nat):Mp:=fU (bU m (p:Int) (i:Int) true) (p:Int) (bB r)
def eW(m:Mp)(p i:Nat)(r:List Nat):Mp:=if r=[] then gS (nC m p i r) (p:Int) else nC m p i r
def gC(m:Mp)(h:Nat->Int)(p k i:Nat)(r:List Nat):Nat->Int:=if r=[] then gT (nC m p i r) h (p:Int) k else h
theorem BS{w W sb lw x t fr ls S h}(o:SO w W sb lw x t fr ls S h)(p k i:Nat)(r:List Nat)(hc:S.c p=some k)(hf:S.fl p=i :: r):Calls prog 160 #[.pointer (some ⟨sb,0,none⟩),.int .i64 p,.int .i64 k] W fun e b=>e=.returned (.tuple #[.int .u64 ((aM x p k i:Nat):Int),.int .i64 0])/\SE w W sb lw x t (eW t.m p i r) (gC t.m h p k i r) b:=by
 obtain⟨K,sp⟩:=o.si.pg p k hc;obtain⟨nd,lt,lk⟩:=o.si.fl p k hc;have a5:=o.si.lv p k hc;obtain⟨c6,u,d5,d0⟩:=o.mem hc;have n4:=o.po.en.2.2.2.1;rw[hf] at nd lt lk a5;have U:i<aF k:=lt i aw;have Q:=cV K;have c4:=fT (x:=x) (p:=p) K U (by omega);have L:M.In x.bS x.n (aM x p k i) 8:=by have hz:=cM K;unfold M.In;have e:aM x p k i=x.bS+4096*p+i*aB k:=rfl;omega
 have X:aM x p k i-x.bS=4096*p+i*aB k:=by have e:aM x p k i=x.bS+4096*p+i*aB k:=rfl;omega
 have c3:eD (t.m.pg p).cl=aF k:=by rw[sp.cl];rfl
 have E:aJ (t.m.pg p) i=!true:=by rw[sp.bt i (by omega),hf];exact ah (fun e=>e.2 aw)
 obtain⟨b4,c8⟩:=tJ u sp.kd (by rw[c3];exact U) E;have c7:∃ nx:Int,nx=bB r/\∀ W',Kt nO W W'->Calls prog 216 #[.pointer (some ⟨sb,0,none⟩),.int .u64 ((aM x p k i:Nat):Int),.int .i64 p] W' fun e b=>e=.returned (.tuple #[.int .i64 nx,.bool true])/\Kt nO W' b:=by
  cases r with
  | nil=>exact⟨-1,rfl,fun W' Y=>ziL (o.sw.dk Y) _ _ L (by rw[X];exact lk.1)⟩
  | cons j r'=>
   have c2:j<aF k:=lt j (dq _ aw);have d1:=fT (x:=x) (p:=p) K c2 (by omega);obtain⟨a1,a2,a3,a4⟩:=sO (x:=x) (t:=t) K c2 (by omega) u sp.kd sp.cl;refine⟨(j:Int),rfl,fun W' Y=>?_⟩;have:=ziM (o.sw.dk Y) (aM x p k i) p (aM x p k j) L (by rw[X];exact lk.1) (by have e:aM x p k j=x.bS+4096*p+j*aB k:=rfl;have:=o.sw.pl.bd.sp.cfg.b1;omega) d1.2.2 a1 a2
   rw[a4] at this;exact this
 obtain⟨nx,G,C⟩:=c7;have NX:=aA C;obtain⟨q,hq⟩:=xe (t.m.pg p);have HA:=aA (show Calls prog 45 #[.pointer (some ⟨x.m,0,none⟩),.int .i64 p] W fun e b=>e=.returned (.tuple #[cA q,.bool true])/\Kt nO W b from by rw[hq];exact kH x.m x.B t.m p W o.sw.pl.bd.mp u);have HM:=aA (bR o.sw.pl);have HC:=aA (show q.cl=(k:Int)from by rw[hq];exact sp.cl);have HF:=aA (show q.fs=(i:Int)from by rw[hq,sp.fs,hf];rfl);obtain⟨lv,d⟩:∃ lv:Nat,q.lv=(lv:Int):=⟨_,by rw[hq];exact sp.lv⟩;have z:lv=aF k-(r.length+1):=by have:=sp.lv;rw[<-hq,d,hf] at this;have:=Int.ofNat.inj this;rw[this];rfl
 have HL:=aA d;obtain⟨a,ha⟩:=xe (aM x p k i);have AD:=aA (show ∀ W',Kt nO W W'->Calls prog 215 #[.pointer (some ⟨sb,0,none⟩),.int .i64 p,.int .i64 k,.int .i64 i] W' fun e b=>e=.returned (.int .u64 a)/\Kt nO W' b from fun W' Y=>by rw[ha];exact xH (o.sw.dk Y) p k i (by omega) K (by omega))
 rw[<-ha] at NX ⊢;obtain⟨Z,a6⟩:=xe (bU t.m (p:Int) (i:Int) true);have OW:=aA (show ∀ W',Kt nO W W'->Calls prog 165 #[.pointer (some ⟨x.m,0,none⟩),.int .i64 p,.int .i64 i,.bool true] W' fun e b=>e=.returned (.int .i64 0)/\SD w W' sb lw x t h Z b from fun W' Y=>by have:=AM (o.sw.dk Y) (p:Int) (i:Int) true;rw[b4,<-a6] at this;exact this)
 have FR:=aA (show ∀ W',SW w W' sb lw x { t with m:=Z } h->Calls prog 214 #[.pointer (some ⟨x.m,0,none⟩),.int .i64 p,.int .i64 nx] W' fun e b=>e=.returned (.int .i64 (kN Z (p:Int) nx))/\SD w W' sb lw x { t with m:=Z } h (fU Z (p:Int) nx) b from fun W' s=>sZ s (p:Int) nx);obtain⟨m2,P⟩:=xe (fU Z (p:Int) nx);have b2:nC t.m p i r=m2:=by unfold nC;rw[P,a6,G]
 rw[<-P] at FR;generalize kN Z (p:Int) nx=fe at *;obtain⟨mF,f⟩:=xe (eW t.m p i r);obtain⟨hF,g⟩:=xe (gC t.m h p k i r);rw[<-f,<-g];unfold eW at f;unfold gC at g;rw[b2] at f g;have c5:=aA f;have b9:=aA g;have HO:=aA o.sw;obtain⟨c0,c1⟩:=o.sw.c0;have A:=Q.2.2;have b8:=aA (show ∀ W' tt,SW w W' sb lw x tt h->Calls prog 167 #[.int .i64 k] W' fun e b=>e=.returned (.int .i64 ((aF k:Nat):Int))/\b=W' from fun W' tt s=>EK s k K);obtain⟨N,hN⟩:=xe (aF k);rw[<-hN] at b8;have a9:=aA (show lv+1=N↔r=[] from by
  have h9:r.length+1<=aF k:=a5;have h8:=Q.2.1;rw[z,hN];constructor
  ·intro e
   cases r with
   | nil=>rfl
   | cons j r'=>
    exfalso
    rw[ee] at e h9;omega
  ·intro e;rw[e,List.length_nil];omega)
 have d6:N<=256:=by rw[hN];exact A
 have d2:lv<=256:=by omega
 clear o sp nd lt lk a5 c6 d0 n4 hf U Q c4 L X c3 E b4 c8 C hq d ha a6 P b2 f g z hN A u hc G;go_enter func160,ntmps160;go_wp2_with fail;refine HM.o.mono ?_;rintro e w1 ⟨rfl,h1⟩;replace h1:=h1.symm;subst h1;go_wp2_with fail;refine HA.o.mono ?_;rintro e w2 ⟨rfl,l⟩;have K2:=aA (l.alloc (aO q));have X2:=aA (nH w2 (aO q));have S2:=aA (HO.o.dk K2.o);have NY:=aA (show ¬(aC x w2.heap.size\/w2.heap.size=sb)from fun e=>by
  rcases e with e|e
  ·exact absurd ((HO.o.dk l).pl.lt _ (.inl e)) (de _)
  ·have:=lH (HO.o.dk l).bx;omega)
 clear l c0 c1;go_upto_region 2 with fail;generalize w2.heap.size=y at *;generalize w2.alloc (aO q)=W2 at *;have PQ:=aA (show ∀ W':Wd,W'.heap[y]?=some (aO q)->W'.cell? ⟨y,2,none⟩=some (.int .i64 k)/\W'.cell? ⟨y,3,none⟩=some (.int .i64 lv)/\W'.cell? ⟨y,6,none⟩=some (.int .i64 i)from fun W' hW=>by obtain⟨_,_,I,F,_,_,J,_⟩:=gB hW;rw[HC.o] at I;rw[HL.o] at F;rw[HF.o] at J;exact⟨I,F,J⟩)
 obtain⟨I,F,J⟩:=PQ.o _ X2.o;obtain⟨c0,c1⟩:=S2.o.c0;go_wp2_with fail;refine(AD.o _ K2.o).mono ?_;rintro e w3 ⟨rfl,a8⟩;have K3:=aA (nT K2.o a8);have X3:=aA ((a8.block _ (lH X2.o) id).trans X2.o);clear a8 c0 c1 I F J;go_wp2_with fail;refine(NX.o _ K3.o).mono ?_;rintro e w4 ⟨rfl,V⟩;have K4:=aA (nT K3.o V);have X4:=aA ((V.block _ (lH X3.o) id).trans X3.o);have S4:=aA (HO.o.dk K4.o);clear V;go_upto_region 6 with fail;have KD:=aA ((kz w4).drew);have K5:=aA (nT K4.o KD.o);have S5:=aA (HO.o.dk K5.o);have X5:=aA ((KD.o.block _ (lH X4.o) id).trans X4.o);have MP:=aA (bR S5.o.pl);obtain⟨I,F,J⟩:=PQ.o _ X5.o;obtain⟨c0,c1⟩:=S5.o.c0;go_region_held3 (fun b=>b.cell? ⟨sb,0,none⟩=some (.pointer (some ⟨lw,0,none⟩))/\b.cell? ⟨y,6,none⟩=some (.int .i64 i)) ((refine⟨?_,?_⟩ <;> first|with_reducible assumption|fail)) (first
  | (go_at_call 165;(with_reducible refine(OW.o _ K5.o).mono ?_);rintro e w6 ⟨rfl,R,a0⟩;obtain⟨f0,f1⟩:=R.c0;have X6:=aA ((a0.block _ (lH X5.o) (fun e=>NY.o (.inl e))).trans X5.o);obtain⟨f2,f3,f6⟩:=PQ.o _ X6.o;have S6:=aA R;have K6:=aA (K5.o.trans a0 (fun _ _ e=>e.elim) (fun _ _ e=>e));clear R a0)
  | (go_at_call 38;(with_reducible refine MP.o.mono ?_);rintro e w5 ⟨rfl,h5⟩;replace h5:=h5.symm;subst h5)
  | fail)
 all_goals
  clear I F J c0 c1 f2 f3 f6;have c9:=aA (bR S6.o.pl);go_wp2_with fail;refine c9.o.mono ?_;rintro e T ⟨rfl,h7⟩;replace h7:=h7.symm;subst h7;go_wp2_with fail;refine(FR.o _ S6.o).mono ?_;rintro e T ⟨rfl,b6,a7⟩;have S7:=aA b6;have K7:=aA (K6.o.trans a7 (fun _ _ e=>e) (fun _ _ e=>e));have X7:=aA ((a7.block _ (lH X6.o) (fun e=>NY.o (.inl e))).trans X6.o);clear b6 a7 f0 f1;go_upto_region 9 with fail;obtain⟨I,F,J⟩:=PQ.o _ X7.o;have v:=aA ((kz T).drew);have X8:=aA ((v.o.block _ (lH X7.o) id).trans X7.o);obtain⟨q2,q3,q6⟩:=PQ.o _ X8.o;obtain⟨l1,b0⟩:=xe (lv+1);have d3:(lv:Int)+1=(l1:Int):=by omega
  have d4:l1<=257:=by omega
  have d7:IntKind.i64.wrap (l1:Int)=l1:=by rw[cz];omega
  have b3:=aA b0;clear b0;have CL:=aA (b8.o _ _ (S7.o.dk v.o));go_region_held3 (fun b=>b.cell? ⟨y,3,none⟩=some (.int .i64 lv)) (first|with_reducible assumption|fail) (first
   | (go_at_call 167;(with_reducible refine CL.o.mono ?_);rintro e w8 ⟨rfl,h8⟩;replace h8:=h8.symm;subst h8)
   | fail)
  all_goals
   have S8:=aA (S7.o.dk v.o);have K8:=aA (K7.o.trans v.o (fun _ _ e=>e) (fun _ _ e=>e.elim));clear I F J q2 q3 q6 CL;by_cases hr:r=[]
   ·have hb:((l1:Int) == (N:Int))=true:=by
     rw[cu,b3.o];have:=a9.o.2 hr;omega
    have UL:=aA (show Calls prog 217 #[.pointer (some ⟨sb,0,none⟩),.int .i64 p,.int .i64 k] T.drew fun e b=>e=.returned (.tuple #[])/\SE w T.drew sb lw x t mF hF b from by have:=JD S8.o (p:Int) k K;rw[c5.o,b9.o,ae hr,ae hr];exact this)
    generalize T.drew=W8 at *;as_aux_lemma=>go_wp2_with fail;refine UL.o.mono ?_;rintro e w9 ⟨rfl,b7,b5⟩;have D:=aA (show SE w W sb lw x t mF hF w9 from⟨b7,(K8.o.mono (fun _ _ e=>.inl e)).trans b5 (fun _ _ e=>e) (fun _ _ e=>e)⟩);clear b7 b5;go_wp2_with fail;exact⟨rfl,.tuple #[.int .u64 a,.int .i64 0],by simp[results,results160,go_sem],rfl,D.o⟩
   ·have hb:((l1:Int) == (N:Int))=false:=by
     rw[ag,b3.o];intro e;exact hr (a9.o.1 (by omega))
    have D:=aA (show SE w W sb lw x t mF hF T.drew from by rw[c5.o,b9.o,ac hr,ac hr];exact⟨S8.o,K8.o.mono (fun _ _ e=>.inl e)⟩)
    generalize T.drew=W8 at *;as_aux_lemma=>go_wp2_with fail;exact⟨rfl,.tuple #[.int .u64 a,.int .i64 0],by simp[results,results160,go_sem],rfl,D.o⟩
theorem uV(x r:Nat):(x/2 ^ r%2 == 1)=x.testBit r:=by rw[dn];rfl
theorem zkH(p:Pg)(c j:Nat)(hc:c<256)(k:j<256):aJ (eZ p c) j=(if j=c then !aJ p c else aJ p j):=by
 have f:∀ x:Nat,∀ s r:Nat,(x ^^^ 2 ^ r).testBit s=(if s=r then !x.testBit s else x.testBit s):=fun x s r=>by
  rw[Nat.testBit_xor,Nat.testBit_two_pow];by_cases e:s=r;·subst e;simp
  ·have l:¬r=s:=fun h=>e h.symm
   simp[e,l]
 have d:∀ a b:Nat,a/64=b/64->(a%64=b%64↔a=b):=fun a b h=>by omega
 unfold aJ;rw[uV,uV,uV];rcases uN hc with h|h|h|h <;> rcases uN k with g|g|g|g <;> simp only[eZ,h,g,wP] <;> first
  |(
   rw[f];by_cases e:j=c;·subst e;simp
   ·have i:¬j%64=c%64:=fun m=>e ((d j c (by omega)).1 m)
    simp[e,i])
  | (rw[ac (by omega)])
theorem EU(p:Pg)(c j:Nat)(hc:c<256)(a:j<256):aJ (aS p c) j=(if j=c then !aJ p c else aJ p j):=by rw[<-zkH p c j hc a];unfold aJ aS;unfold wP;rfl
def aQ{α : Type}(f:Nat->α)(p:Nat)(v : α):Nat->α:=fun r=>if r=p then v else f r
theorem bP{α : Type}(f:Nat->α)(p:Nat)(v : α):aQ f p v p=v:=ae rfl
theorem bQ{α : Type}(f:Nat->α){p r:Nat}(v : α)(h:r≠p):aQ f p v r=f r:=ac h
structure SlQ(S:Sb)(p k:Nat)(q:Pg):Prop where
 kd:q.kd=4
 od:q.od=0
 cl:q.cl=(k:Int)
 lv:q.lv=((aF k-(S.fl p).length:Nat):Int)
 fs:q.fs=bB (S.fl p)
 bt:∀ i,i<256->aJ q i=decide (i<aF k/\i ∉ S.fl p)
theorem SlP.q{S p k q}(h:SlP S p k q):SlQ S p k q:=⟨h.kd,h.od,h.cl,h.lv,h.fs,h.bt⟩
theorem SlQ.p{S p k q}(h:SlQ S p k q)(n:q.nx=bE (S.pl k) p)(v:q.pv=bH (S.pl k) p):SlP S p k q:=⟨h.kd,h.od,h.cl,h.lv,n,v,h.fs,h.bt⟩
theorem xM{q a:Pg}(h0:a.b0=q.b0)(b:a.b1=q.b1)(d:a.b2=q.b2)(c:a.b3=q.b3)(i:Nat):aJ a i=aJ q i:=by
 unfold aJ;have:wP a (i/64)=wP q (i/64):=by unfold wP;split <;> assumption
 rw[this]
theorem SlQ.mt{S p k q q'}(h:SlQ S p k q)(r:zM q q'):SlQ S p k q':=by obtain⟨a,b,rfl⟩:=r;exact⟨h.kd,h.od,h.cl,h.lv,h.fs,fun i hi=>(xM rfl rfl rfl rfl i).trans (h.bt i hi)⟩
theorem SlQ.congr{S S' p k q}(h:SlQ S p k q)(e:S'.fl p=S.fl p):SlQ S' p k q:=⟨h.kd,h.od,h.cl,by rw[e];exact h.lv,by rw[e];exact h.fs,fun i hi=>by rw[e];exact h.bt i hi⟩
theorem mR{x:Bx}{P:Nat->Option Pg}{f:Nat->Nat}{p k:Nat} : ∀ {l:List Nat},mI x f p k l->mI { x with P:=P } f p k l
 | [],_=>trivial
 | i :: l,h=>⟨by
   rw[h.1]
   cases l <;> rfl,mR h.2⟩
theorem qG{pg:Nat->Pg}{l:List Nat}{p r:Nat}(hd:l.Nodup)(a:r≠p)(hl:r ∉ l):dH pg l p r=pg r:=by
 unfold dH;rw[ac a,ac,ac]
 ·intro e;rcases lZ l p hd with h|⟨b,h,hb,_⟩
  ·omega
  ·exact hl (by rw[show r=b by omega];exact hb)
 ·intro e;rcases nN l p hd with h|⟨b,h,hb,_⟩
  ·omega
  ·exact hl (by rw[show r=b by omega];exact hb)
theorem qF{pg:Nat->Pg}{l:List Nat}{p r:Nat}(a:r≠p)(hl:r ∉ l):cG pg l p r=pg r:=by unfold cG;rw[ac a,ac (fun e=>hl (oS e.symm))]
def bA(S:Sb)(p k:Nat)(r:List Nat):Sb:={ S with fl:=aQ S.fl p r,pl:=if r=[] then aQ S.pl k (M.dropL (S.pl k) p) else S.pl }
theorem zkI{S:Sb}{p k i:Nat}{r:List Nat}{q:Pg}(t:k<8)(h:SlP S p k q)(hf:S.fl p=i :: r)(nd:(S.fl p).Nodup)(hi:i<aF k)(hl:(S.fl p).length<=aF k):SlQ (bA S p k r) p k { aS q i with fs:=bB r }/\({ aS q i with fs:=bB r } : Pg).nx=q.nx/\({ aS q i with fs:=bB r } : Pg).pv=q.pv:=by
 obtain⟨f,m,o,u,n,g,v⟩:=mT q i;have s:=cV t;have a:aJ q i=false:=by rw[h.bt i (by omega),hf];exact ah (fun e=>e.2 aw)
 rw[hf] at nd hl;have c:i ∉ r:=(dr.1 nd).1;have b:(bA S p k r).fl p=r:=bP _ _ _;rw[ee] at hl;refine⟨⟨f.trans h.kd,m.trans h.od,o.trans h.cl,?_,by rw[b],fun j d=>?_⟩,n,g⟩
 ·show wrap64 (if aJ q i=true then q.lv-1 else q.lv+1)=_
  rw[a,ac (by decide),h.lv,b,hf,ee];unfold wrap64;omega
 ·have l:aJ { aS q i with fs:=bB r } j=aJ (aS q i) j:=xM rfl rfl rfl rfl j;rw[l,EU q i j (by omega) d,b];by_cases e:j=i
  ·rw[ae e,a];symm;exact af ⟨by omega,by rw[e];exact c⟩
  ·rw[ac e,h.bt j d,hf];apply decide_eq_decide.2
   rw[eg,not_or];exact⟨fun h=>⟨h.1,h.2.2⟩,fun h=>⟨h.1,e,h.2⟩⟩
theorem zkJ{m:Mp}{p i k:Nat}{r:List Nat}(hp:p<m.n)(b:(m.pg p).kd=4)(f:(m.pg p).cl=(k:Int))(hi:i<aF k)(d:aJ (m.pg p) i=false)(s:∀ j∈r,j<aF k):nC m p i r={ m with pg:=aH m.pg p { aS (m.pg p) i with fs:=bB r } }:=by
 have c:eD (m.pg p).cl=aF k:=by rw[f];rfl
 unfold nC;rw[(tJ hp b (by rw[c];exact hi) (by rw[d];rfl)).2];obtain⟨o,t,q,_⟩:=mT (m.pg p) i;have h:aH m.pg p (aS (m.pg p) i) p=aS (m.pg p) i:=ae rfl;rw[uI (m:={ m with pg:=aH m.pg p (aS (m.pg p) i) }) hp (by show(aH m.pg p _ p).kd=4;rw[h];exact o.trans b) (by
  rcases pA r with e|⟨j,e,l⟩
  ·exact .inl e
  ·refine .inr ⟨j,e,?_⟩;show j<eD (aH m.pg p _ p).cl
   rw[h,show(aS (m.pg p) i).cl=(m.pg p).cl from q,c];exact s j l)]
 show({ m with pg:=aH (aH m.pg p (aS (m.pg p) i)) p { aH m.pg p (aS (m.pg p) i) p with fs:=bB r } } : Mp)=_
 rw[h];refine congrArg (fun g=>({ m with pg:=g } : Mp)) (funext fun a=>?_);unfold aH;by_cases e:a=p;·rw[ae e,ae e]
 ·rw[ac e,ac e,ac e]
theorem SO.hand{w W sb lw x t fr ls S h w'}(o:SO w W sb lw x t fr ls S h){p k i:Nat}{r:List Nat}(hc:S.c p=some k)(hf:S.fl p=i :: r)(se:SE w W sb lw x t (eW t.m p i r) (gC t.m h p k i r) w'):SO w w' sb lw { x with P:=fI (bA S p k r) (eW t.m p i r) } { t with m:=eW t.m p i r } fr ls (bA S p k r) (gC t.m h p k i r):=by
 obtain⟨B,sp⟩:=o.si.pg p k hc;obtain⟨nd,lt,lk⟩:=o.si.fl p k hc;have V:=o.si.lv p k hc;obtain⟨a5,a1,_⟩:=o.mem hc;have a7:=cV B;have F:i<aF k:=lt i (by rw[hf];exact aw);have K:aJ (t.m.pg p) i=false:=by rw[sp.bt i (by omega),hf];exact ah (fun e=>e.2 aw)
 have Q:=zkJ (r:=r) a1 sp.kd sp.cl F K (fun j R=>lt j (by rw[hf];exact dq _ R));obtain⟨q2,a0,X⟩:=zkI B sp hf nd F V;generalize a4:({ aS (t.m.pg p) i with fs:=bB r } : Pg)=A at *;have E:p∈S.pl k:=(o.si.pm k B p).2 ⟨hc,by rw[hf];exact db _ _⟩;have n:(S.pl k).Nodup:=o.si.pn k B
 have y:∀ a c,S.c a=some c->SlQ (bA S p k r) a c (aH t.m.pg p A a)/\(aH t.m.pg p A a).nx=bE (S.pl c) a/\(aH t.m.pg p A a).pv=bH (S.pl c) a:=fun a c ha=>by
  obtain⟨b,sa⟩:=o.si.pg a c ha;unfold aH;by_cases e:a=p
  ·subst e;rw[hc] at ha
   cases ha
   rw[ae rfl,a0,X];exact⟨q2,sp.nx,sp.pv⟩
  ·rw[ac e];exact⟨sa.q.congr (bQ _ _ e),sa.nx,sa.pv⟩
 have s:∀ a,S.c a=none->aH t.m.pg p A a=t.m.pg a:=fun a ha=>by
  unfold aH;rw[ac];intro e;rw[e,hc] at ha
  cases ha
 -- the fh in the end
 obtain⟨f,L,T,z,a3,a6⟩:∃ f:Nat->Pg,eW t.m p i r={ t.m with pg:=f }/\(∀ a,S.c a=none->f a=t.m.pg a)/\(∀ a c,S.c a=some c->SlQ (bA S p k r) a c (f a)/\(f a).nx=bE ((bA S p k r).pl c) a/\(f a).pv=bH ((bA S p k r).pl c) a)/\(∀ c,c<8->gC t.m h p k i r c=bB ((bA S p k r).pl c))/\True:=by
  by_cases l:r=[]
  ·have hU:=BC (m:={ t.m with pg:=aH t.m.pg p A }) (h:=h) (c:=k) n E (fun a ha=>by
    have I:=((o.si.pm k B a).1 ha).1;obtain⟨N,U,Y⟩:=y a k I;exact⟨(o.mem I).2.1,N.kd,U,Y⟩)
   have d:(bA S p k r).pl=aQ S.pl k (M.dropL (S.pl k) p):=(by unfold bA;rw[ae l]);have np:NP (aH t.m.pg p A) S k (S.pl k):=fun a ha=>(y a k ha).2
   have a2:=AZ np n E;refine⟨dH (aH t.m.pg p A) (S.pl k) p,?_,fun a ha=>?_,fun a c ha=>?_,fun c b=>?_,trivial⟩;·unfold eW;rw[ae l,Q,hU.1]
   ·have C:a≠p:=fun e=>by rw[e,hc] at ha;cases ha
    have D:a ∉ S.pl k:=fun e=>by rw[((o.si.pm k B a).1 e).1] at ha;cases ha
    rw[qG n C D];exact s a ha
   ·obtain⟨N,U,Y⟩:=y a c ha;refine⟨N.mt (GF _ _ _ _),?_⟩;rw[d];by_cases e:c=k
    ·subst e;rw[bP];exact a2 a ha
    ·rw[bQ _ _ e];have C:a≠p:=fun u=>by rw[u,hc] at ha;cases ha;exact e rfl
     have D:a ∉ S.pl k:=fun u=>by rw[((o.si.pm k B a).1 u).1] at ha;cases ha;exact e rfl
     rw[qG n C D];exact⟨U,Y⟩
   ·unfold gC;rw[ae l,Q,hU.2,d];by_cases e:c=k
    ·subst e;rw[bP,tH n E];by_cases u:bH (S.pl c) p = -1
     ·rw[ae u,ae u];exact ae rfl
     ·rw[ac u,ac u];exact o.hd c b
    ·rw[bQ _ _ e];by_cases u:bH (S.pl k) p = -1
     ·rw[ae u];exact(ac e).trans (o.hd c b)
     ·rw[ac u];exact o.hd c b
  ·have d:(bA S p k r).pl=S.pl:=(by unfold bA;rw[ac l]);refine⟨aH t.m.pg p A,?_,s,fun a c ha=>?_,fun c b=>?_,trivial⟩
   ·unfold eW;rw[ac l,Q]
   ·rw[d];exact y a c ha
   ·unfold gC;rw[ac l,d];exact o.hd c b
 have G:=se.1;rw[L] at G ⊢;have J:∀ a c,S.c a=some c->((bA S p k r).fl a=r/\a=p)\/((bA S p k r).fl a=S.fl a/\a≠p):=fun a c ha=>by
  by_cases e:a=p;·exact .inl ⟨by rw[e];exact bP _ _ _,e⟩
  ·exact .inr ⟨bQ _ _ e,e⟩
 refine⟨G.fx _,o.sf.gw S (bA S p k r) o.si.eP { t.m with pg:=f } rfl rfl rfl (fun a ha=>?_) (fun a c ha=>⟨(z a c ha).1.kd,(o.mem ha).1⟩),o.st,o.bm,⟨rfl,fun a c ha=>⟨(o.si.pg a c ha).1,(z a c ha).1.p (z a c ha).2.1 (z a c ha).2.2⟩,fun a c ha=>?_,fun a c ha=>?_,fun c b=>?_,fun c b a=>?_⟩,a3⟩;·have ha:S.c a=none:=ha;rw[ae ha];exact T a ha
 ·replace ha:S.c a=some c:=ha;obtain⟨n1,Z,n3⟩:=o.si.fl a c ha;rcases J a c ha with ⟨e,rfl⟩|⟨e,_⟩
  ·rw[e];rw[hc] at ha
   cases ha
   rw[hf] at n1 Z n3;exact⟨(dr.1 n1).2,fun j R=>Z j (dq _ R),mR n3.2⟩
  ·rw[e];exact⟨n1,Z,mR n3⟩
 ·have hl:=o.si.lv a c ha;rcases J a c ha with ⟨e,rfl⟩|⟨e,_⟩
  ·rw[e];rw[hf,ee] at hl;omega
  ·rw[e];exact hl
 ·have:=o.si.pn c b;unfold bA;by_cases l:r=[]
  ·rw[ae l];show(aQ S.pl k _ c).Nodup
   by_cases e:c=k;·subst e;rw[bP];exact IG this p
   ·rw[bQ _ _ e];exact this
  ·rw[ac l];exact this
 ·have v:=o.si.pm c b a;show a∈(bA S p k r).pl c↔(S.c a=some c/\aQ S.fl p r a≠[])
  by_cases l:r=[]
  ·have d:(bA S p k r).pl=aQ S.pl k (M.dropL (S.pl k) p):=(by unfold bA;rw[ae l]);rw[d];by_cases ea:a=p
   ·subst ea;rw[bP];constructor
    ·intro g;exfalso
     by_cases e:c=k;·subst e;rw[bP,jT] at g;exact g.2 rfl
     ·rw[bQ _ _ e,v,hc] at g
      cases g.1
      exact e rfl
    ·exact fun g=>absurd l g.2
   ·rw[bQ _ _ ea];by_cases e:c=k
    ·subst e;rw[bP,jT,v];exact⟨fun g=>g.1,fun g=>⟨g,ea⟩⟩
    ·rw[bQ _ _ e];exact v
  ·have d:(bA S p k r).pl=S.pl:=(by unfold bA;rw[ac l]);rw[d,v];by_cases ea:a=p
   ·subst ea;rw[bP,hf];exact⟨fun g=>⟨g.1,l⟩,fun g=>⟨g.1,db _ _⟩⟩
   ·rw[bQ _ _ ea]
theorem DA{x x':Bx}(h:x'.bS=x.bS)(p k n:Nat):aM x' p k n=aM x p k n:=by unfold aM;rw[h]
theorem oQ{x x':Bx}{f f':Nat->Nat}{p k:Nat}(hb:x'.bS=x.bS):∀ {l:List Nat},(∀ i∈l,M.word f' (4096*p+i*aB k)=M.word f (4096*p+i*aB k))->mI x f p k l->mI x' f' p k l
 | [],_,_=>trivial
 | i :: l,hf,h=>⟨by
   rw[hf i aw,h.1]
   cases l with
   | nil=>rfl
   | cons j l=>exact(DA hb p k j).symm,oQ hb (fun j a=>hf j (dq _ a)) h.2⟩
theorem yA{f g:Nat->Nat}{o:Nat}(h:∀ i,i<8->g (o+i)=f (o+i)):M.word g o=M.word f o:=by unfold M.word;exact wordTo_congr _ _ 8 h
theorem SO.iz{w W W' sb lw x t fr ls S h x1 t1 fr1 ls1}(o:SO w W sb lw x t fr ls S h)(b:PO w W' lw x1 t1 fr1 ls1)(d:Sm x x1)(bk:BK t t1 ls ls1)(l:∀ p k,S.c p=some k->(p,0)∈ls1)(kp:Kt (aC x) W W'):SO w W' sb lw x1 t1 fr1 ls1 S h:=by
 have a:∀ p k,S.c p=some k->t1.m.pg p=t.m.pg p:=fun p k hp=>(b.sf.ki (p:=p) (q:=t.m.pg p) (by rw[d.P,o.si.eP];exact jS hp)).2.2.2
 refine⟨⟨b.pl,?_,o.sw.nw,o.sw.tb⟩,b.sf,b.st,b.bm,⟨?_,fun p k hp=>?_,fun p k hp=>?_,o.si.lv,o.si.pn,o.si.pm⟩,o.hd⟩;·rw[d.bS];exact(kp.block _ (lH o.sw.bx) (fun e=>o.sw.mg (.inl e))).trans o.sw.bx
 ·rw[d.P,o.si.eP];funext p
  cases e:S.c p with
  | none=>rw[iU e,iU e]
  | some k=>rw[jS e,jS e,a p k e]
 ·obtain⟨u,g⟩:=o.si.pg p k hp;rw[a p k hp];exact⟨u,g⟩
 ·obtain⟨n1,r,v⟩:=o.si.fl p k hp;have s:=(o.si.pg p k hp).1;have n:=cV s;have hz:=cM s;refine⟨n1,r,oQ d.bS (fun i hi=>yA fun j y=>?_) v⟩;have f:=r i hi;have g:(i+1)*aB k<=aF k*aB k:=ak _ f;rw[av,aL,n.1] at g;have hd:(4096*p+i*aB k+j)/4096=p:=by omega
  refine bk _ ?_ ?_;·rw[hd];exact⟨p,0,(o.mem hp).1,aj _,by omega⟩
  ·rw[hd];exact⟨p,0,l p k hp,aj _,by omega⟩
theorem IF(f:Nat->Nat)(P a z:Nat)(hz : 8<=z):∀ k i,i<k->P+k*z<18446744073709551616->M.word (kY f P a z k) (a+i*z)=P+(i+1)*z
 | 0,i,h,_=>absurd h (Nat.not_lt_zero _)
 | k+1,i,h,eN=>by
  rw[kY];by_cases e:i=k;·subst e;rw[M.word_upd _ _ _ eN]
  ·have hl:i<k:=(by omega);have b:(i+1)*z<=k*z:=ak _ hl;rw[av,aL] at b;have c:k*z<=(k+1)*z:=ak _ (by omega);rw[M.word_far _ _ _ _ (.inr (by omega))];exact IF f P a z hz k i hl (by omega)
theorem DX(f:Nat->Nat)(P a z:Nat):∀ k j,(∀ i,i<k->¬(a+i*z<=j/\j<a+i*z+8))->kY f P a z k j=f j
 | 0,j,_=>rfl
 | k+1,j,h=>by rw[kY];unfold M.upd;rw[ac (h k (by omega))];exact DX f P a z k j (fun i hi=>h i (by omega))
theorem vZ(f:Nat->Nat)(x:Bx)(p k:Nat)(c:k<8)(j:Nat)(g:¬(4096*p<=j/\j<4096*p+4096)):jI f (ad x p) (4096*p) (aB k) (aF k) j=f j:=by
 have b:=cV c;have hz:=cM c;have a:∀ i,i<aF k->i*aB k+aB k<=4096:=fun i hi=>by have d:(i+1)*aB k<=aF k*aB k:=ak _ hi;rw[av,aL,b.1] at d;exact d
 unfold jI;have e:=a (aF k-1) (by omega);unfold M.upd;rw[ac (by omega)];refine DX _ _ _ _ _ _ fun i hi=>?_
 have:=a i (by omega);omega
theorem LA(x:Bx)(f:Nat->Nat)(p k:Nat)(d:k<8)(hb:x.bS+4096*p+4096<=9223372036854775808):∀ n a,a+n=aF k->mI x (jI f (ad x p) (4096*p) (aB k) (aF k)) p k (List.range' a n)
 | 0,a,_=>trivial
 | n+1,a,h=>by
  have c:=cV d;have hz:=cM d;obtain⟨b,e⟩:∃ b,aF k=b+1:=⟨aF k-1,by omega⟩;have i:b*aB k+aB k=4096:=by have:=c.1;rw[e,av,aL] at this;exact this
  refine⟨?_,LA x f p k d hb n (a+1) (by omega)⟩;unfold jI;rw[show aF k-1=b by omega]
  cases n with
  | zero=>have ea:a=b:=(by omega);subst ea;rw[M.word_upd _ _ _ (by decide)];rfl
  | succ n=>
   have hl:a<b:=(by omega);have g:(a+1)*aB k<=b*aB k:=ak _ hl;rw[av,aL] at g;rw[M.word_far _ _ _ _ (.inr (by omega)),IF _ _ _ _ (by omega) b a hl (by unfold ad;omega)];show _=aM x p k (a+1)
   unfold aM ad;rfl
def bJ(S:Sb)(p k:Nat):Sb:=⟨aQ S.c p (some k),aQ S.fl p (List.range' 0 (aF k)),aQ S.pl k (p :: S.pl k)⟩
def gE(m:Mp)(h:Nat->Int)(p k:Nat):Mp:=eA (fU (jN m (p:Int) (k:Int)) (p:Int) 0) h (p:Int) k
theorem zlN{q:Pg}(h0:q.b0=0)(a:q.b1=0)(c:q.b2=0)(b:q.b3=0)(i:Nat):aJ q i=false:=by
 unfold aJ;have:wP q (i/64)=0:=by unfold wP;split <;> assumption
 rw[this];simp
theorem YD{m:Mp}{h:Nat->Int}{p k:Nat}{l:List Nat}(hp:p<m.n)(t:k<8)(u:h k=bB l)(hl:∀ r∈l,r<m.n/\(m.pg r).kd=4/\cU m.n (m.pg r).nx=true)(b:p ∉ l):gE m h p k={ m with pg:=cG (aH m.pg p { dY (k:Int)with fs:=0 }) l p }:=by
 have s:=cV t;have o:jN m (p:Int) (k:Int)={ m with pg:=aH m.pg p (dY (k:Int)) }:=by unfold jN;rw[ae ⟨dN hp,by omega,by omega⟩,aa]
 have d:aH m.pg p (dY (k:Int)) p=dY (k:Int):=ae rfl;have v:fU { m with pg:=aH m.pg p (dY (k:Int)) } (p:Int) 0={ m with pg:=aH m.pg p { dY (k:Int)with fs:=0 } }:=by
  rw[uI (m:={ m with pg:=aH m.pg p (dY (k:Int)) }) (c:=(0:Int)) hp (by show(aH m.pg p _ p).kd=4;rw[d];rfl) (.inr ⟨0,rfl,by
   show 0<eD (aH m.pg p _ p).cl
   rw[d];show 0<aF k
   omega⟩)]
  show({ m with pg:=aH (aH m.pg p (dY (k:Int))) p { aH m.pg p (dY (k:Int)) p with fs:=0 } } : Mp)=_
  rw[d];refine congrArg (fun g=>({ m with pg:=g } : Mp)) (funext fun a=>?_);unfold aH;by_cases e:a=p;·rw[ae e,ae e]
  ·rw[ac e,ac e,ac e]
 unfold gE;rw[o,v];have j:aH m.pg p { dY (k:Int)with fs:=0 } p={ dY (k:Int)with fs:=0 }:=ae rfl;exact BF (m:={ m with pg:=aH m.pg p { dY (k:Int)with fs:=0 } }) hp (by show(aH m.pg p _ p).kd=4;rw[j];rfl) u (fun r i=>by
  have f:r≠p:=fun e=>b (e▸i)
  have q:aH m.pg p { dY (k:Int)with fs:=0 } r=m.pg r:=ac f;show r<m.n/\(aH m.pg p _ r).kd=4/\cU m.n (aH m.pg p _ r).nx=true
  rw[q];exact hl r i) b
theorem zi7{n:Nat}(h : 0<n):bB (List.range' 0 n)=0:=by obtain⟨m,rfl⟩:∃ m,n=m+1:=⟨n-1,by omega⟩;rfl
theorem SO.fresh{w W W' sb lw x t fr ls S h}(o:SO w W sb lw x t fr ls S h){p k:Nat}(v:k<8)(F:(p,0)∈ls)(hc:S.c p=none)(sw:SW w W' sb lw x ⟨jI t.f (ad x p) (4096*p) (aB k) (aF k),gE t.m h p k,t.hd⟩ (cO h k (p:Int))):SO w W' sb lw { x with P:=fI (bJ S p k) (gE t.m h p k) } ⟨jI t.f (ad x p) (4096*p) (aB k) (aF k),gE t.m h p k,t.hd⟩ fr ls (bJ S p k) (cO h k (p:Int)):=by
 have a2:=cV v;have hz:=cM v;have K:p<t.m.n:=by have:=(o.sf.sn.al F).2.2;omega
 have n4:=o.po.en.2.2.2.1;have a1:=o.st;have U:x.bS+4096*p+4096<=9223372036854775808:=by have h5:(p+1)*4096<=t.m.n*4096:=ak _ K;omega
 have D:p ∉ S.pl k:=fun e=>by
  rw[((o.si.pm k v p).1 e).1] at hc
  cases hc
 have E:=o.si.pn k v;have eM:=YD (m:=t.m) (h:=h) K v (o.hd k v) (fun r hr=>by
  have L:=((o.si.pm k v r).1 hr).1;have Y:=(o.si.pg r k L).2;refine⟨(o.mem L).2.1,Y.kd,?_⟩;rw[Y.nx];rcases lZ (S.pl k) r E with e|⟨b,e,hb,_⟩
  ·rw[e];exact lU _
  ·rw[e];exact oU (o.mem ((o.si.pm k v b).1 hb).1).2.1) D
 rw[eM] at sw ⊢;generalize l:cG (aH t.m.pg p { dY (k:Int)with fs:=0 }) (S.pl k) p=B at *;have d:∀ a,a≠p->(bJ S p k).c a=S.c a/\(bJ S p k).fl a=S.fl a:=fun a ha=>⟨bQ _ _ ha,bQ _ _ ha⟩
 have u:(bJ S p k).c p=some k:=bP _ _ _;have y:(bJ S p k).fl p=List.range' 0 (aF k):=bP _ _ _;have z:∀ a,a≠p->aH t.m.pg p { dY (k:Int)with fs:=0 } a=t.m.pg a:=fun a ha=>ac ha
 have I:aH t.m.pg p { dY (k:Int)with fs:=0 } p={ dY (k:Int)with fs:=0 }:=ae rfl;have F0:∀ a,S.c a=none->a≠p->B a=t.m.pg a:=fun a ha g=>by
  have C:a ∉ S.pl k:=fun e=>by
   rw[((o.si.pm k v a).1 e).1] at ha
   cases ha
  rw[<-l,qF g C];exact z a g
 have Q0:SlQ (bJ S p k) p k { dY (k:Int)with fs:=0 }:=by
  refine⟨rfl,rfl,rfl,?_,?_,fun i hi=>?_⟩;·rw[y,List.length_range',Nat.sub_self];rfl
  ·rw[y,zi7 (by omega)]
  ·rw[zlN rfl rfl rfl rfl,y];symm;refine ah fun e=>e.2 (List.mem_range'_1.2 ⟨az _,by omega⟩)
 have T:NP (aH t.m.pg p { dY (k:Int)with fs:=0 }) (bJ S p k) k (S.pl k):=fun a ha=>by
  by_cases e:a=p;·subst e;rw[I,sT D,oR D];exact⟨rfl,rfl⟩
  ·rw[(d a e).1] at ha;rw[z a e];exact⟨(o.si.pg a k ha).2.nx,(o.si.pg a k ha).2.pv⟩
 have J:=BA T E D;have Z:∀ a c,(bJ S p k).c a=some c->c<8/\SlP (bJ S p k) a c (B a):=fun a c ha=>by
  have hq:SlQ (bJ S p k) a c (aH t.m.pg p { dY (k:Int)with fs:=0 } a)/\c<8:=by
   by_cases e:a=p
   ·subst e;rw[u] at ha
    cases ha
    rw[I];exact⟨Q0,v⟩
   ·rw[(d a e).1] at ha;rw[z a e];exact⟨(o.si.pg a c ha).2.q.congr (d a e).2,(o.si.pg a c ha).1⟩
  refine⟨hq.2,(hq.1.mt (by rw[<-l];exact GG _ _ _ _)).p ?_ ?_⟩
  ·show(B a).nx=bE (aQ S.pl k (p :: S.pl k) c) a
   by_cases e:c=k;·subst e;rw[bP,<-l];exact(J a ha).1
   ·have g:a≠p:=fun A=>by rw[A,u] at ha;cases ha;exact e rfl
    rw[bQ _ _ e];rw[(d a g).1] at ha;have C:a ∉ S.pl k:=fun A=>by rw[((o.si.pm k v a).1 A).1] at ha;cases ha;exact e rfl
    rw[<-l,qF g C,z a g];exact(o.si.pg a c ha).2.nx
  ·show(B a).pv=bH (aQ S.pl k (p :: S.pl k) c) a
   by_cases e:c=k;·subst e;rw[bP,<-l];exact(J a ha).2
   ·have g:a≠p:=fun A=>by rw[A,u] at ha;cases ha;exact e rfl
    rw[bQ _ _ e];rw[(d a g).1] at ha;have C:a ∉ S.pl k:=fun A=>by rw[((o.si.pm k v a).1 A).1] at ha;cases ha;exact e rfl
    rw[<-l,qF g C,z a g];exact(o.si.pg a c ha).2.pv
 have V:=o.sf.fill (p:=p) (k:=0) F (f':=jI t.f (ad x p) (4096*p) (aB k) (aF k)) (fun j hj=>vZ t.f x p k v j (by omega));refine⟨sw.fx _,V.gw S (bJ S p k) o.si.eP { t.m with pg:=B } rfl rfl rfl (fun a ha=>?_) (fun a c ha=>⟨(Z a c ha).2.kd,?_⟩),o.st,o.bm,⟨rfl,Z,fun a c ha=>?_,fun a c ha=>?_,fun c s=>?_,fun c s a=>?_⟩,fun c s=>?_⟩
 ·have g:a≠p:=fun e=>by rw[e,u] at ha;cases ha
  rw[(d a g).1] at ha;rw[ae ha];exact F0 a ha g
 ·by_cases e:a=p
  ·rw[e];exact F
  ·rw[(d a e).1] at ha;exact(o.mem ha).1
 ·by_cases e:a=p
  ·subst e;rw[u] at ha
   cases ha
   rw[y];refine⟨List.nodup_range',fun i hi=>?_,mR (LA x t.f a k v U (aF k) 0 (by omega))⟩;have:=(List.mem_range'_1.1 hi).2;omega
  ·rw[(d a e).1] at ha;rw[(d a e).2];obtain⟨n1,X,n3⟩:=o.si.fl a c ha;have s:=(o.si.pg a c ha).1;have N:=cV s;have a0:=cM s;refine⟨n1,X,mR (oQ rfl (fun i hi=>yA fun j hj=>?_) n3)⟩;have Q:=X i hi;have h2:(i+1)*aB c<=aF c*aB c:=ak _ Q;rw[av,aL,N.1] at h2;exact vZ t.f x p k v _ (by omega)
 ·by_cases e:a=p
  ·subst e;rw[u] at ha
   cases ha
   rw[y,List.length_range'];exact aj _
  ·rw[(d a e).1] at ha;rw[(d a e).2];exact o.si.lv a c ha
 ·show(aQ S.pl k (p :: S.pl k) c).Nodup
  by_cases e:c=k;·subst e;rw[bP];exact dr.2 ⟨D,E⟩
  ·rw[bQ _ _ e];exact o.si.pn c s
 ·show a∈aQ S.pl k (p :: S.pl k) c↔((bJ S p k).c a=some c/\(bJ S p k).fl a≠[])
  have G:=o.si.pm c s a;by_cases ea:a=p
  ·subst ea;rw[u,y];have R:List.range' 0 (aF k)≠[]:=by
    intro e;have:=congrArg List.length e;rw[List.length_range',List.length_nil] at this;omega
   by_cases e:c=k;·subst e;rw[bP];exact⟨fun _=>⟨rfl,R⟩,fun _=>aw⟩
   ·rw[bQ _ _ e,G,hc];constructor
    ·rintro ⟨A,_⟩;cases A
    ·rintro ⟨A,_⟩;cases A;exact absurd rfl e
  ·rw[(d a ea).1,(d a ea).2];by_cases e:c=k
   ·subst e;rw[bP,eg,G];exact⟨fun h=>h.resolve_left ea,fun h=>.inr h⟩
   ·rw[bQ _ _ e];exact G
 ·show cO h k (p:Int) c=bB (aQ S.pl k (p :: S.pl k) c)
  by_cases e:c=k;·subst e;rw[bP];exact ae rfl
  ·rw[bQ _ _ e];exact(ac e).trans (o.hd c s)
inductive Ned(x:Bx)(t:Bt)(fr:Nat->List Nat)(d:Bool)(p:Nat)(b:Bool)(fr':Nat->List Nat):Prop where
 | here (j:Nat) (l:List Nat) (hj:j<=x.o) (hz:∀ a,a<j->fr a=[]) (hp:fr j=p :: l) (hb:b=false) (hf:fr'=dJ (cI fr j (M.dropL (fr j) p)) p j 0)
 | grew (hz:∀ a,a<=x.o->fr a=[]) (hd:d=false) (hl:x.n+x.R<=x.dl*x.R) (hb:b=true) (hp:p=t.m.n) (hf:fr'=dJ fr t.m.n x.o 0)
structure FrO(w W:Wd)(sb lw:Nat)(x:Bx)(t:Bt)(fr:Nat->List Nat)(ls:List (Nat×Nat))(S:Sb)(h:Nat->Int)(k:Nat)(d:Bool)(p:Nat)(b:Bool)(w':Wd):Prop where
 ex:∃ x' t' fr',Ned x t fr d p b fr'/\SO w w' sb lw x' t' fr' (ls ++ [(p,0)]) (bJ S p k) (cO h k (p:Int))/\Sm x { x' with P:=x.P }/\(∀ i,Lv ls (i/4096)->t'.f i=t.f i)/\Nb W x x'/\t'.m.n=(if b=true then t.m.n + 2 ^ x.o else t.m.n)/\x'.n=(if b=true then x.n + x.R else x.n)
 hc:S.c p=none
 nl:∀ i,(p,i) ∉ ls
 kp:Kt (bM x sb) W w'
inductive FrP(w W:Wd)(sb lw:Nat)(x:Bx)(t:Bt)(fr:Nat->List Nat)(ls:List (Nat×Nat))(S:Sb)(h:Nat->Int)(k:Nat)(d:Bool)(e:Ending)(w':Wd):Prop where
 | stuck (hz:∀ a,a<=x.o->fr a=[]) (hd:d=true\/x.n=x.dl*x.R) (he:e=.returned (.tuple #[.bool false,.int .i64 2])) (kp:Kt nO W w')
 | got (p:Nat) (b:Bool) (he:e=.returned (.tuple #[.bool b,.int .i64 0])) (fo:FrO w W sb lw x t fr ls S h k d p b w')
theorem SX{w W lw x t fr ls}(g:PO w W lw x t fr ls)(d:Bool):Calls prog 109 #[.pointer (some ⟨lw,0,none⟩),.int .i64 0,.bool d] W fun e h=>
   ((∀ a,a<=x.o->fr a=[])/\(d=true\/x.n=x.dl*x.R)/\e=.returned (.tuple #[.int .u64 0,.bool false,.int .i64 2])/\Kt nO W h)\/
   (∃ p b f x' c,e=.returned (.tuple #[.int .u64 ((ad x p:Nat):Int),.bool b,.int .i64 0])/\Ned x t fr d p b f/\PO w h lw x' c f (ls ++ [(p,0)])/\Sm x x'/\BK t c ls (ls ++ [(p,0)])/\Nb W x x'/\Kt (aC x) W h/\x.P p=none/\(∀ i,(p,i) ∉ ls)/\c.m.n=(if b=true then t.m.n + 2 ^ x.o else t.m.n)/\x'.n=(if b=true then x.n + x.R else x.n)):=by
 refine(K.Need_any g 0 d).mono fun e h C=>?_
 cases C with
 | bad k he kp=>
  exfalso
  have:=of_decide_eq_false k;omega
 | stuck i k hi hz hd he kp=>
  obtain rfl:i=0:=by omega
  exact .inl ⟨fun a ha=>hz a (az _) ha,hd,he,kp⟩
 | here i j p l k hi B s hz hp he hs kp=>
  obtain rfl:i=0:=by omega
  obtain⟨c,q,u,v⟩:=hs;refine .inr ⟨p,false,_,x,c,he,.here j l s (fun a ha=>hz a (az _) ha) hp rfl rfl,q,Sm.refl x,v,fun y e=>.inl e,kp,g.sf.jj s (by rw[hp];exact aw),fun i r=>?_,by rw[ac (by decide)];exact u,by rw[ac (by decide)]⟩;have h0:=g.sf.iw s (show p∈fr j by rw[hp];exact aw) r;have z : 0<2 ^ i:=ap (by decide);have E : 0<2 ^ j:=ap (by decide);omega
 | grew i k hi hz hd hl he hs kp=>
  obtain rfl:i=0:=by omega
  obtain⟨x',c,q,u,v,A,D,F⟩:=hs;refine .inr ⟨t.m.n,true,_,x',c,he,.grew (fun a ha=>hz a (az _) ha) hd hl rfl rfl rfl,q,u,F,D,kp,g.sf.li (aj _),fun i r=>?_,by rw[ae rfl];exact A,by rw[ae rfl];exact v⟩;have:=(g.sf.sn.al r).2.2;have z : 0<2 ^ i:=ap (by decide);omega
theorem XB{w W sb lw x t fr ls S h}(o:SO w W sb lw x t fr ls S h)(k:Nat)(hk:k<8)(d:Bool):Calls prog 159 #[.pointer (some ⟨sb,0,none⟩),.int .i64 k,.bool d] W fun e u=>FrP w W sb lw x t fr ls S h k d e u:=by
 have ND:=aA (SX o.po d);obtain⟨c0,c1⟩:=o.sw.c0;have HO:=aA o;clear o;go_enter func159,ntmps159;go_wp2_with fail;refine ND.o.mono ?_;rintro e w1 (⟨hz,hd,rfl,kp⟩|⟨p,b,b5,j,r,rfl,E,N,g,U,L,J,G,T,a5,a0⟩);·have D:=aA (show FrP w W sb lw x t fr ls S h k d (.returned (.tuple #[.bool false,.int .i64 2])) w1 from .stuck hz hd rfl kp);clear hz hd kp ND c0 c1;go_wp2_with fail;exact⟨rfl,.tuple #[.bool false,.int .i64 2],by simp[results,results159,go_sem],D.o⟩
 ·have hc:S.c p=none:=by
   cases e:S.c p with
   | none=>rfl
   | some c=>
    rw[HO.o.si.eP,jS e] at G
    cases G
  have C:=HO.o.iz N g U (fun a c ha=>List.mem_append_left _ (HO.o.mem ha).1) J;have z:(p,0)∈ls ++ [(p,0)]:=List.mem_append_right _ (List.mem_singleton.2 rfl);have a4:=(C.sf.sn.al z).2.2;have n4:=C.po.en.2.2.2.1;have n2:=C.po.en.2.1;have b4:=C.st;have b1 : 4096*p+4096<=j.n:=by have Z:(p+1)*4096<=r.m.n*4096:=ak _ a4;omega
  have a1:ad x p=ad j p:=by unfold ad;rw[g.bS]
  rw[a1];have F:aK j (ad j p)/4096=p:=by unfold aK ad;omega
  obtain⟨A,X⟩:=xe (ad j p);have b2:A<18446744073709551616:=by rw[X];unfold ad;omega
  have PG:=aA (show Calls prog 211 #[.pointer (some ⟨sb,0,none⟩),.int .u64 A] w1 fun e u=>e=.returned (.int .i64 p)/\u=w1 from by have:=vA C.sw A b2;rw[X,F] at this;rw[X];exact this)
  have SL:=aA (UZ C.sw (p:Int) (k:Int));obtain⟨P,Q⟩:=xe (jN r.m (p:Int) (k:Int));rw[<-Q] at SL;generalize pO r.m (p:Int) (k:Int)=b8 at *;have CH:=aA (show ∀ W',SW w W' sb lw j { r with m:=P } h->Calls prog 213 #[.pointer (some ⟨sb,0,none⟩),.int .u64 A,.int .i64 k] W' fun e u=>e=.returned (.tuple #[])/\SW w u sb lw j ⟨jI r.f (ad j p) (4096*p) (aB k) (aF k),P,r.hd⟩ h/\Kt (aC j) W' u from fun W' s=>by rw[X];exact XM s p k hk b1)
  obtain⟨f2,V⟩:=xe (jI r.f (ad j p) (4096*p) (aB k) (aF k));rw[<-V] at CH;obtain⟨Y,I⟩:=xe (fU P (p:Int) 0);have FR:=aA (show ∀ W',SW w W' sb lw j ⟨f2,P,r.hd⟩ h->Calls prog 214 #[.pointer (some ⟨j.m,0,none⟩),.int .i64 p,.int .i64 0] W' fun e u=>e=.returned (.int .i64 (kN P (p:Int) 0))/\SD w W' sb lw j ⟨f2,P,r.hd⟩ h Y u from fun W' s=>by rw[I];exact sZ s (p:Int) 0)
  generalize kN P (p:Int) 0=b7 at *;have PT:=aA (show ∀ W',SW w W' sb lw j ⟨f2,Y,r.hd⟩ h->Calls prog 168 #[.pointer (some ⟨sb,0,none⟩),.int .i64 p,.int .i64 k] W' fun e u=>e=.returned (.tuple #[])/\SE w W' sb lw j ⟨f2,Y,r.hd⟩ (eA Y h (p:Int) k) (cO h k (p:Int)) u from fun W' s=>AJ s (p:Int) k hk);have b3:=aA (show ∀ u,SW w u sb lw j ⟨f2,eA Y h (p:Int) k,r.hd⟩ (cO h k (p:Int))->Kt (bM j sb) w1 u->FrP w W sb lw x t fr ls S h k d (.returned (.tuple #[.bool b,.int .i64 0])) u from fun u s kk=>by
   have e1:eA Y h (p:Int) k=gE r.m h p k:=(by unfold gE;rw[I,Q]);rw[e1,V] at s;have so:=C.fresh hk z hc s;refine .got p b rfl ⟨⟨_,_,b5,E,so,⟨g.bS,g.R,g.dl,g.o,g.b,g.s,g.m,g.l,rfl⟩,fun i hi=>?_,L,?_,a0⟩,hc,T,?_⟩
   ·have v:r.f i=t.f i:=U i hi (K.Lv.more hi);show jI r.f (ad j p) (4096*p) (aB k) (aF k) i=t.f i
    rw[<-v];refine vZ r.f j p k hk i (fun e=>?_);obtain⟨q,c,h3,h4,Z⟩:=hi;have hq:=N.sf.sn.apart (List.mem_append_left _ h3) z;have b6:i/4096=p:=(by omega);rw[b6] at h4 Z;rcases hq with ⟨e2,e3⟩|e2|e2
    ·rw[e2] at h3;exact T c h3
    ·omega
    ·omega
   ·show(gE r.m h p k).n=_
    rw[<-a5];unfold gE eA iW;rw[JF,JF];unfold fU;split <;> exact YM _ _ _
   ·refine(J.mono (fun _ _ e=>.inl e)).trans kk (fun _ _ e=>e) (fun y hy e=>?_);rcases e with e|e
    ·rcases L y e with e|e
     ·exact .inl e
     ·omega
    ·exact .inr e)
  have O1:=aA C.sw;rw[<-X];clear E N g U L J G T a5 a0 hc C z a4 n4 n2 b4 b1 a1 F X Q V I c0 c1 ND;obtain⟨c0,c1⟩:=O1.o.c0;go_wp2_with fail;refine PG.o.mono ?_;rintro e w2 ⟨rfl,v⟩;replace v:=v.symm;subst v;have MP:=aA (bR O1.o.pl);go_wp2_with fail;refine MP.o.mono ?_;rintro e w2 ⟨rfl,v⟩;replace v:=v.symm;subst v;go_wp2_with fail;refine SL.o.mono ?_;rintro e w3 ⟨rfl,a6,b0⟩;have S3:=aA a6;have K3:=aA b0;clear a6 b0 c0 c1 MP;go_wp2_with fail;refine(CH.o _ S3.o).mono ?_;rintro e w4 ⟨rfl,B,a3⟩;have S4:=aA B;have K4:=aA (K3.o.trans a3 (fun _ _ e=>e) (fun _ _ e=>e));have MP:=aA (bR B.pl);obtain⟨c0,c1⟩:=B.c0;clear B a3;go_wp2_with fail;refine MP.o.mono ?_;rintro e w5 ⟨rfl,Z⟩;replace Z:=Z.symm;subst Z;go_wp2_with fail;refine(FR.o _ S4.o).mono ?_;rintro e w5 ⟨rfl,a8,a9⟩;have S5:=aA a8;have K5:=aA (K4.o.trans a9 (fun _ _ e=>e) (fun _ _ e=>e));clear a8 a9 c0 c1;go_wp2_with fail;refine(PT.o _ S5.o).mono ?_;rintro e w6 ⟨rfl,a2,a7⟩;have D:=aA (b3.o w6 a2 ((K5.o.mono (fun _ _ e=>.inl e)).trans a7 (fun _ _ e=>e) (fun _ _ e=>e)));clear a2 a7;go_wp2_with fail;exact⟨rfl,.tuple #[.bool b,.int .i64 0],by simp[results,results159,go_sem],D.o⟩
inductive TkP(w W:Wd)(sb lw:Nat)(x:Bx)(t:Bt)(fr:Nat->List Nat)(ls:List (Nat×Nat))(S:Sb)(h:Nat->Int)(c:Int)(d:Bool)(e:Ending)(w':Wd):Prop where
 | bad (hc:¬(0<=c/\c<8)) (he:e=.returned (.tuple #[.int .u64 0,.bool false,.int .i64 1])) (kp:Kt nO W w')
 | stuck (k:Nat) (hk:k<8) (hc:c=(k:Int)) (hl:S.pl k=[]) (hz:∀ a,a<=x.o->fr a=[]) (hd:d=true\/x.n=x.dl*x.R) (he:e=.returned (.tuple #[.int .u64 0,.bool false,.int .i64 2])) (kp:Kt nO W w')
 | old (k p i:Nat) (l r:List Nat) (hk:k<8) (hc:c=(k:Int)) (hl:S.pl k=p :: l) (hf:S.fl p=i :: r) (he:e=.returned (.tuple #[.int .u64 ((aM x p k i:Nat):Int),.bool false,.int .i64 0])) (so:∃ P m' h',SO w w' sb lw { x with P:=P } { t with m:=m' } fr ls (bA S p k r) h'/\m'.n=t.m.n) (kp:Kt (bM x sb) W w')
 | new (k p:Nat) (b:Bool) (hk:k<8) (hc:c=(k:Int)) (hl:S.pl k=[]) (he:e=.returned (.tuple #[.int .u64 ((aM x p k 0:Nat):Int),.bool b,.int .i64 0])) (so:∃ x' t' fr' h',Ned x t fr d p b fr'/\SO w w' sb lw x' t' fr' (ls ++ [(p,0)]) (bA (bJ S p k) p k (List.range' 1 (aF k-1))) h'/\Sm x { x' with P:=x.P }/\(∀ i,Lv ls (i/4096)->t'.f i=t.f i)/\Nb W x x'/\t'.m.n=(if b=true then t.m.n + 2 ^ x.o else t.m.n)/\x'.n=(if b=true then x.n + x.R else x.n)) (hcp:S.c p=none) (nl:∀ i,(p,i) ∉ ls) (kp:Kt (bM x sb) W w')
theorem BI{w W sb lw x t fr ls S h w'}(o:SO w W sb lw x t fr ls S h){p k i:Nat}{r:List Nat}(hc:S.c p=some k)(hf:S.fl p=i :: r)(b:SE w W sb lw x t (eW t.m p i r) (gC t.m h p k i r) w'):(eW t.m p i r).n=t.m.n:=by have a:=(o.hand hc hf b).st;have e:=o.st;have d:(eW t.m p i r).n*4096=x.n:=a;omega
theorem zkV{w W sb lw x t fr ls S h}(o:SO w W sb lw x t fr ls S h)(c:Int)(hc:¬(0<=c/\c<8))(d:Bool):Calls prog 107 #[.pointer (some ⟨sb,0,none⟩),.int .i64 c,.bool d] W fun e a=>TkP w W sb lw x t fr ls S h c d e a:=by
 have D:=aA (show TkP w W sb lw x t fr ls S h c d (.returned (.tuple #[.int .u64 0,.bool false,.int .i64 1])) W from .bad hc rfl (Kt.refl _ _));clear o;by_cases h0:c<0;·clear hc;go_enter func107,ntmps107;go_wp2_with fail;exact⟨rfl,.tuple #[.int .u64 0,.bool false,.int .i64 1],by simp[results,results107,go_sem],D.o⟩
 ·have b : 8<=c:=by omega
  clear hc;go_enter func107,ntmps107;go_wp2_with fail;exact⟨rfl,.tuple #[.int .u64 0,.bool false,.int .i64 1],by simp[results,results107,go_sem],D.o⟩
theorem UK{w W sb lw x t fr ls S h}(o:SO w W sb lw x t fr ls S h)(k:Nat)(f:k<8)(d:Bool):Calls prog 107 #[.pointer (some ⟨sb,0,none⟩),.int .i64 k,.bool d] W fun e E=>TkP w W sb lw x t fr ls S h (k:Int) d e E:=by
 have ch:=o.sw.hd k f;have X:(k:Int)<8:=by omega
 have Z:¬(k:Int)<0:=by omega
 have a0:¬ 8<=(k:Int):=by omega
 have HO:=aA o;have v:=o.hd k f
 cases hl:S.pl k with
 | nil=>
  rw[hl] at v;have hz:h k = -1:=v;rw[hz] at ch;have K:=aA (XB o k f d);have T:=aA hl;clear o v hz hl;go_enter func107,ntmps107;go_wp2_with fail;refine K.o.mono ?_;intro e N V
  cases V with
  | stuck hz hd he kp=>subst he;have D:=aA (show TkP w W sb lw x t fr ls S h (k:Int) d (.returned (.tuple #[.int .u64 0,.bool false,.int .i64 2])) N from .stuck k f rfl T.o hz hd rfl kp);clear hz hd kp K ch;go_wp2_with fail;exact⟨rfl,.tuple #[.int .u64 0,.bool false,.int .i64 2],by simp[results,results107,go_sem],D.o⟩
  | got p b he fo=>
   subst he;obtain⟨⟨Y,t1,P,n,G,q,F,u,J,z⟩,hc,nl,kp⟩:=fo;have L:=cV f;have g:(bJ S p k).fl p=0 :: List.range' 1 (aF k-1):=by have:(bJ S p k).fl p=List.range' 0 (aF k):=bP _ _ _;rw[this];obtain⟨m,U⟩:∃ m,aF k=m+1:=⟨aF k-1,by omega⟩;rw[U];rfl
   have j:(bJ S p k).c p=some k:=bP _ _ _;have c1:N.cell? ⟨sb,2+k,none⟩=some (.int .i64 p):=by have:=G.sw.hd k f;rw[show cO h k (p:Int) k=(p:Int)from ae rfl] at this;exact this
   have I:aM Y p k 0=aM x p k 0:=DA q.bS p k 0;have B:=aA (show Calls prog 160 #[.pointer (some ⟨sb,0,none⟩),.int .i64 p,.int .i64 k] N fun e E=>e=.returned (.tuple #[.int .u64 ((aM x p k 0:Nat):Int),.int .i64 0])/\TkP w W sb lw x t fr ls S h (k:Int) d (.returned (.tuple #[.int .u64 ((aM x p k 0:Nat):Int),.bool b,.int .i64 0])) E from by
    refine(BS G p k 0 _ j g).mono ?_;rintro e R ⟨rfl,s⟩;refine⟨by rw[I],.new k p b f rfl T.o rfl ⟨_,_,P,_,n,G.hand j g s,q,F,u,?_,z⟩ hc nl ?_⟩;·rw[<-J];exact BI G j g s
    ·refine kp.trans s.2 (fun _ _ e=>e) (fun y hy e=>?_);rcases e with e|e
     ·rcases u y e with e|e
      ·exact .inl e
      ·omega
     ·exact .inr e)
   obtain⟨a,ha⟩:=xe (aM x p k 0);rw[<-ha] at B;have Q:(p:Int) ≠ -1:=(by omega);clear n G q F u J z hc nl kp L g j I ha K ch;go_wp2_with fail;refine B.o.mono ?_;rintro e R ⟨rfl,C⟩;have D:=aA C;clear C;go_wp2_with fail;exact⟨rfl,.tuple #[.int .u64 a,.bool b,.int .i64 0],by simp[results,results107,go_sem],D.o⟩
 | cons p l=>
  rw[hl] at v;have hz:h k=(p:Int):=v;rw[hz] at ch;obtain⟨hc,A⟩:=(o.si.pm k f p).1 (by rw[hl];exact aw);obtain⟨i,r,hf⟩:∃ i r,S.fl p=i :: r:=by
   cases e:S.fl p with
   | nil=>exact absurd e A
   | cons i r=>exact⟨i,r,rfl⟩
  have B:=aA (show Calls prog 160 #[.pointer (some ⟨sb,0,none⟩),.int .i64 p,.int .i64 k] W fun e E=>e=.returned (.tuple #[.int .u64 ((aM x p k i:Nat):Int),.int .i64 0])/\TkP w W sb lw x t fr ls S h (k:Int) d (.returned (.tuple #[.int .u64 ((aM x p k i:Nat):Int),.bool false,.int .i64 0])) E from by refine(BS o p k i r hc hf).mono ?_;rintro e R ⟨rfl,s⟩;exact⟨rfl,.old k p i l r f rfl hl hf rfl ⟨_,_,_,o.hand hc hf s,BI o hc hf s⟩ s.2⟩)
  obtain⟨a,ha⟩:=xe (aM x p k i);rw[<-ha] at B;have Q:(p:Int) ≠ -1:=by omega
  clear o v hz hl hc A hf ha;go_enter func107,ntmps107;go_wp2_with fail;refine B.o.mono ?_;rintro e R ⟨rfl,C⟩;have D:=aA C;clear C;go_wp2_with fail;exact⟨rfl,.tuple #[.int .u64 a,.bool false,.int .i64 0],by simp[results,results107,go_sem],D.o⟩
theorem zkW{w W sb lw x t fr ls S h}(o:SO w W sb lw x t fr ls S h)(c:Int)(d:Bool):Calls prog 107 #[.pointer (some ⟨sb,0,none⟩),.int .i64 c,.bool d] W fun e a=>TkP w W sb lw x t fr ls S h c d e a:=by
 by_cases hc : 0<=c/\c<8;·obtain⟨k,rfl⟩:∃ k:Nat,c=(k:Int):=⟨c.toNat,by omega⟩;exact UK o k (by omega) d
 ·exact zkV o c hc d
def bC(S:Sb)(p k i:Nat):Sb:={ S with fl:=aQ S.fl p (i :: S.fl p),pl:=if S.fl p=[] then aQ S.pl k (p :: S.pl k) else S.pl }
def kU(m:Mp)(h:Nat->Int)(p k i:Nat)(f:List Nat):Mp:=if f=[] then eA (bU m (p:Int) (i:Int) false) h (p:Int) k else bU m (p:Int) (i:Int) false
def iO(m:Mp)(h:Nat->Int)(p k i:Nat)(f:List Nat):Mp:=fU (kU m h p k i f) (p:Int) (i:Int)
def gD(h:Nat->Int)(p k:Nat)(f:List Nat):Nat->Int:=if f=[] then cO h k (p:Int) else h
theorem jE(pg:Nat->Pg)(p:Nat)(q:Pg):aH pg p q p=q:=ae rfl
theorem gQ(pg:Nat->Pg){p a:Nat}(q:Pg)(h:a≠p):aH pg p q a=pg a:=ac h
theorem VS(pg:Nat->Pg)(p:Nat)(q b:Pg):aH (aH pg p q) p b=aH pg p b:=by
 funext a
 by_cases e:a=p;·subst e;rw[jE,jE]
 ·rw[gQ _ _ e,gQ _ _ e,gQ _ _ e]
theorem VI(x:Bx)(p k:Nat)(l:List Nat):mV x p k (bB l)=oC x p k l:=by
 cases l with
 | nil=>rfl
 | cons j l=>unfold mV;rw[ac (by show ¬((j:Int) = -1);omega)];rfl
theorem zjh{S:Sb}{p k i:Nat}{q:Pg}(r:k<8)(h:SlP S p k q)(hi:i<aF k)(g:i ∉ S.fl p)(hl:(S.fl p).length<aF k):SlQ (bC S p k i) p k { aS q i with fs:=(i:Int) }:=by
 obtain⟨f,m,n,s,v,u,t⟩:=mT q i;have o:=cV r;have a:aJ q i=true:=by rw[h.bt i (by omega)];exact af ⟨hi,g⟩
 have b:(bC S p k i).fl p=i :: S.fl p:=bP _ _ _;refine⟨f.trans h.kd,m.trans h.od,n.trans h.cl,?_,by rw[b];rfl,fun j c=>?_⟩
 ·show wrap64 (if aJ q i=true then q.lv-1 else q.lv+1)=_
  rw[a,ae rfl,h.lv,b,ee];unfold wrap64;omega
 ·have l:aJ { aS q i with fs:=(i:Int) } j=aJ (aS q i) j:=xM rfl rfl rfl rfl j;rw[l,EU q i j (by omega) c,b];by_cases e:j=i
  ·rw[ae e,a];symm;exact ah (fun d=>d.2 (by rw[e];exact aw))
  ·rw[ac e,h.bt j c];apply decide_eq_decide.2
   rw[eg,not_or];exact⟨fun h=>⟨h.1,e,h.2⟩,fun h=>⟨h.1,h.2.2⟩⟩
theorem SO.ez{w W sb lw x t fr ls S h}(o:SO w W sb lw x t fr ls S h){k:Nat}(c:k<8)(r:Nat)(f:r∈S.pl k):r<t.m.n/\(t.m.pg r).kd=4/\cU t.m.n (t.m.pg r).nx=true:=by
 have a:=((o.si.pm k c r).1 f).1;have d:=(o.si.pg r k a).2;refine⟨(o.mem a).2.1,d.kd,?_⟩;rw[d.nx];rcases lZ (S.pl k) r (o.si.pn k c)with e|⟨b,e,hb,_⟩
 ·rw[e];exact lU _
 ·rw[e];exact oU (o.mem ((o.si.pm k c b).1 hb).1).2.1
theorem VR{w W sb lw x t fr ls S h}(o:SO w W sb lw x t fr ls S h){p k i:Nat}(hc:S.c p=some k)(hi:i<aF k)(C:i ∉ S.fl p):iO t.m h p k i (S.fl p)={ t.m with pg:=if S.fl p=[] then cG (aH t.m.pg p { aS (t.m.pg p) i with fs:=(i:Int) }) (S.pl k) p else aH t.m.pg p { aS (t.m.pg p) i with fs:=(i:Int) } }:=by
 obtain⟨s,sp⟩:=o.si.pg p k hc;obtain⟨D,b,_⟩:=o.mem hc;have F:=cV s;have y:eD (t.m.pg p).cl=aF k:=by rw[sp.cl];rfl
 have j:aJ (t.m.pg p) i=!false:=by rw[sp.bt i (by omega)];exact af ⟨hi,C⟩
 obtain⟨B,G,E,_⟩:=mT (t.m.pg p) i;have z:=(tJ b sp.kd (by rw[y];exact hi) j).2;have d:(aS (t.m.pg p) i).kd=4:=B.trans sp.kd;have q:(aS (t.m.pg p) i).cl=(k:Int):=E.trans sp.cl;unfold iO kU;by_cases hf:S.fl p=[]
 ·rw[ae hf,ae hf,z];have f:p ∉ S.pl k:=fun e=>((o.si.pm k s p).1 e).2 hf
  rw[BF (m:={ t.m with pg:=aH t.m.pg p (aS (t.m.pg p) i) }) (l:=S.pl k) b (by show(aH t.m.pg p _ p).kd=4;rw[jE];exact d) (o.hd k s) (fun r A=>by
   have v:r≠p:=fun e=>f (by rw[<-e];exact A)
   show r<t.m.n/\(aH t.m.pg p _ r).kd=4/\cU t.m.n (aH t.m.pg p _ r).nx=true
   rw[gQ _ _ v];exact o.ez s r A) f]
  have u:cG (aH t.m.pg p (aS (t.m.pg p) i)) (S.pl k) p p={ aS (t.m.pg p) i with nx:=bB (S.pl k),pv := -1 }:=by unfold cG;rw[ae rfl,jE]
  rw[uI (m:={ t.m with pg:=cG (aH t.m.pg p (aS (t.m.pg p) i)) (S.pl k) p }) b (by show(cG _ _ p p).kd=4;rw[u];exact d) (.inr ⟨i,rfl,by show i<eD (cG _ _ p p).cl;rw[u];show i<eD (aS (t.m.pg p) i).cl;rw[q];exact hi⟩)];refine congrArg (fun g=>({ t.m with pg:=g } : Mp)) (funext fun a=>?_);show aH (cG (aH t.m.pg p (aS (t.m.pg p) i)) (S.pl k) p) p { cG (aH t.m.pg p (aS (t.m.pg p) i)) (S.pl k) p p with fs:=(i:Int) } a=_
  rw[u];by_cases e:a=p;·subst e;rw[jE];unfold cG;rw[ae rfl,jE]
  ·rw[gQ _ _ e];unfold cG;rw[ac e,ac e,gQ _ _ e,gQ _ _ e]
 ·rw[ac hf,ac hf,z];rw[uI (m:={ t.m with pg:=aH t.m.pg p (aS (t.m.pg p) i) }) b (by show(aH t.m.pg p _ p).kd=4;rw[jE];exact d) (.inr ⟨i,rfl,by show i<eD (aH t.m.pg p _ p).cl;rw[jE,q];exact hi⟩)];show({ t.m with pg:=aH (aH t.m.pg p (aS (t.m.pg p) i)) p { aH t.m.pg p (aS (t.m.pg p) i) p with fs:=(i:Int) } } : Mp)=_
  rw[jE,VS]
theorem SO.kf{w W W' sb lw x t fr ls S h}(o:SO w W sb lw x t fr ls S h){p k i:Nat}(hc:S.c p=some k)(hi:i<aF k)(K:i ∉ S.fl p)(hl:(S.fl p).length<aF k)(sw:SW w W' sb lw x ⟨M.upd t.f (4096*p+i*aB k) 8 (M.byteOf (oC x p k (S.fl p))),iO t.m h p k i (S.fl p),t.hd⟩ (gD h p k (S.fl p))):SO w W' sb lw { x with P:=fI (bC S p k i) (iO t.m h p k i (S.fl p)) } ⟨M.upd t.f (4096*p+i*aB k) 8 (M.byteOf (oC x p k (S.fl p))),iO t.m h p k i (S.fl p),t.hd⟩ fr ls (bC S p k i) (gD h p k (S.fl p)):=by
 obtain⟨A,sp⟩:=o.si.pg p k hc;obtain⟨nd,lt,lk⟩:=o.si.fl p k hc;obtain⟨Y,a7,a4,a5⟩:=o.mem hc;have a2:=cV A;have hz:=cM A;have n4:=o.po.en.2.2.2.1;have eM:=VR o hc hi K;have Q3:=zjh A sp hi K hl;have E:({ aS (t.m.pg p) i with fs:=(i:Int) } : Pg).nx=(t.m.pg p).nx:=(mT (t.m.pg p) i).2.2.2.2.1;have I:({ aS (t.m.pg p) i with fs:=(i:Int) } : Pg).pv=(t.m.pg p).pv:=(mT (t.m.pg p) i).2.2.2.2.2.1;have X:(S.pl k).Nodup:=o.si.pn k A;generalize ({ aS (t.m.pg p) i with fs:=(i:Int) } : Pg)=Q at *;rw[eM] at sw ⊢;clear eM;have y:(bC S p k i).fl p=i :: S.fl p:=bP _ _ _;have n:∀ a,a≠p->(bC S p k i).fl a=S.fl a:=fun a ha=>bQ _ _ ha
 have F:∀ a c,S.c a=some c->SlQ (bC S p k i) a c (aH t.m.pg p Q a)/\(aH t.m.pg p Q a).nx=bE (S.pl c) a/\(aH t.m.pg p Q a).pv=bH (S.pl c) a:=fun a c ha=>by
  obtain⟨d,sa⟩:=o.si.pg a c ha;by_cases e:a=p
  ·subst e;rw[hc] at ha
   cases ha
   rw[jE,E,I];exact⟨Q3,sp.nx,sp.pv⟩
  ·rw[gQ _ _ e];exact⟨sa.q.congr (n a e),sa.nx,sa.pv⟩
 have r:∀ a,S.c a=none->aH t.m.pg p Q a=t.m.pg a:=fun a ha=>gQ _ _ (fun e=>by rw[e,hc] at ha;cases ha)
 have G:S.fl p=[]->p ∉ S.pl k:=fun hf e=>((o.si.pm k A p).1 e).2 hf
 -- the fh in the end
 obtain⟨g,s⟩:=xe ((if S.fl p=[] then cG (aH t.m.pg p Q) (S.pl k) p else aH t.m.pg p Q));rw[<-s] at sw ⊢;have V:∀ a,S.c a=none->g a=t.m.pg a:=fun a ha=>by
  rw[s];by_cases hf:S.fl p=[]
  ·rw[ae hf];have B:a≠p:=fun e=>by rw[e,hc] at ha;cases ha
   have C:a ∉ S.pl k:=fun e=>by rw[((o.si.pm k A a).1 e).1] at ha;cases ha
   rw[qF B C];exact r a ha
  ·rw[ac hf];exact r a ha
 have z:∀ a c,S.c a=some c->SlQ (bC S p k i) a c (g a)/\(g a).nx=bE ((bC S p k i).pl c) a/\(g a).pv=bH ((bC S p k i).pl c) a:=fun a c ha=>by
  obtain⟨h1,L,h3⟩:=F a c ha;rw[s];by_cases hf:S.fl p=[]
  ·have b:(bC S p k i).pl=aQ S.pl k (p :: S.pl k):=(by unfold bC;rw[ae hf]);rw[ae hf,b];refine⟨h1.mt (GG _ _ _ _),?_⟩;by_cases e:c=k
   ·subst e;rw[bP];exact BA (fun a ha=>(F a c ha).2) X (G hf) a ha
   ·rw[bQ _ _ e];have B:a≠p:=fun e3=>by rw[e3,hc] at ha;cases ha;exact e rfl
    have C:a ∉ S.pl k:=fun e3=>by rw[((o.si.pm k A a).1 e3).1] at ha;cases ha;exact e rfl
    rw[qF B C];exact⟨L,h3⟩
  ·have b:(bC S p k i).pl=S.pl:=(by unfold bC;rw[ac hf]);rw[ac hf,b];exact⟨h1,L,h3⟩
 have a3:∀ c,c<8->gD h p k (S.fl p) c=bB ((bC S p k i).pl c):=fun c d=>by
  unfold gD;by_cases hf:S.fl p=[]
  ·have b:(bC S p k i).pl=aQ S.pl k (p :: S.pl k):=(by unfold bC;rw[ae hf]);rw[ae hf,b];by_cases e:c=k
   ·subst e;rw[bP];exact ae rfl
   ·rw[bQ _ _ e];exact(ac e).trans (o.hd c d)
  ·have b:(bC S p k i).pl=S.pl:=(by unfold bC;rw[ac hf]);rw[ac hf,b];exact o.hd c d
 have R:(i+1)*aB k<=aF k*aB k:=ak _ hi;rw[av,aL,a2.1] at R;have a0:=o.sf.fill (p:=p) (k:=0) Y (f':=M.upd t.f (4096*p+i*aB k) 8 (M.byteOf (oC x p k (S.fl p)))) (fun j u=>M.upd_out _ _ _ _ _ (by omega));refine⟨sw.fx _,a0.gw S (bC S p k i) o.si.eP { t.m with pg:=g } rfl rfl rfl (fun a ha=>?_) (fun a c ha=>⟨(z a c ha).1.kd,(o.mem ha).1⟩),o.st,o.bm,⟨rfl,fun a c ha=>⟨(o.si.pg a c ha).1,(z a c ha).1.p (z a c ha).2.1 (z a c ha).2.2⟩,fun a c ha=>?_,fun a c ha=>?_,fun c d=>?_,fun c d a=>?_⟩,a3⟩;·have ha:S.c a=none:=ha;rw[ae ha];exact V a ha
 ·replace ha:S.c a=some c:=ha;obtain⟨n1,N,n3⟩:=o.si.fl a c ha;by_cases e:a=p
  ·subst e;rw[hc] at ha
   cases ha
   rw[y];refine⟨dr.2 ⟨K,n1⟩,fun j u=>?_,?_,?_⟩
   ·rcases eg.1 u with rfl|u
    ·exact hi
    ·exact N j u
   ·have hb:oC x a k (S.fl a)<18446744073709551616:=by
     cases e:S.fl a with
     | nil=>show 0<_;decide
     | cons j l=>have u:=N j (by rw[e];exact aw);exact(fT (x:=x) (p:=a) A u (by omega)).2.2
    show M.word (M.upd t.f _ 8 _) _=oC { x with P:=_ } a k (S.fl a)
    rw[M.word_upd _ _ _ hb]
    cases S.fl a <;> rfl
   ·refine mR (oQ (x:=x) rfl (fun j u=>?_) n3);have a1:j≠i:=fun e=>K (by rw[<-e];exact u)
    refine M.word_far _ _ _ _ ?_;rcases Nat.lt_or_gt_of_ne a1 with D|D
    ·have:(j+1)*aB k<=i*aB k:=ak _ D;rw[av,aL] at this;omega
    ·have:(i+1)*aB k<=j*aB k:=ak _ D;rw[av,aL] at this;omega
  ·rw[n a e];have d:=(o.si.pg a c ha).1;have J:=cV d;have a6:=cM d;refine⟨n1,N,mR (oQ (x:=x) rfl (fun j u=>?_) n3)⟩;have Z:=N j u;have L:(j+1)*aB c<=aF c*aB c:=ak _ Z;rw[av,aL,J.1] at L;refine M.word_far _ _ _ _ ?_;omega
 ·replace ha:S.c a=some c:=ha;by_cases e:a=p
  ·subst e;rw[hc] at ha
   cases ha
   rw[y,ee];omega
  ·rw[n a e];exact o.si.lv a c ha
 ·have:=o.si.pn c d;unfold bC;by_cases hf:S.fl p=[]
  ·rw[ae hf];show(aQ S.pl k _ c).Nodup
   by_cases e:c=k;·subst e;rw[bP];exact dr.2 ⟨G hf,this⟩
   ·rw[bQ _ _ e];exact this
  ·rw[ac hf];exact this
 ·have v:=o.si.pm c d a;show a∈(bC S p k i).pl c↔(S.c a=some c/\(bC S p k i).fl a≠[])
  by_cases hf:S.fl p=[]
  ·have b:(bC S p k i).pl=aQ S.pl k (p :: S.pl k):=(by unfold bC;rw[ae hf]);rw[b];by_cases ea:a=p
   ·subst ea;rw[y,hc];by_cases e:c=k
    ·subst e;rw[bP];exact⟨fun _=>⟨rfl,db _ _⟩,fun _=>aw⟩
    ·rw[bQ _ _ e,v,hc];constructor
     ·rintro ⟨T,_⟩;cases T;exact absurd rfl e
     ·rintro ⟨T,_⟩;cases T;exact absurd rfl e
   ·rw[n a ea];by_cases e:c=k
    ·subst e;rw[bP,eg,v];exact⟨fun h=>h.resolve_left ea,fun h=>.inr h⟩
    ·rw[bQ _ _ e];exact v
  ·have b:(bC S p k i).pl=S.pl:=(by unfold bC;rw[ac hf]);rw[b,v];by_cases ea:a=p
   ·subst ea;rw[y];exact⟨fun U=>⟨U.1,db _ _⟩,fun U=>⟨U.1,hf⟩⟩
   ·rw[n a ea]
def bZ(S:Sb)(p k:Nat):Sb:=⟨aQ S.c p none,S.fl,aQ S.pl k (M.dropL (S.pl k) p)⟩
def dM(m:Mp)(p i:Nat):Mp:=cF (gS (bU m (p:Int) (i:Int) false) (p:Int)) (p:Int) 0 2
def gU(m:Mp)(h:Nat->Int)(p k i:Nat):Nat->Int:=gT (bU m (p:Int) (i:Int) false) h (p:Int) k
theorem zlJ{m:Mp}{p:Nat}(hp:p<m.n):cF m (p:Int) 0 2={ m with pg:=aH m.pg p (aT 2 0) }:=by
 have h:jR m (p:Int) 0 2=true:=by unfold jR;rw[dN hp,bu,bu];refine⟨af ⟨.inr rfl,by omega,by omega⟩,rfl,af ?_⟩;rw[show(2:Int) ^ (0:Int).toNat=1 from rfl];omega
 unfold cF;rw[ae h,aa];refine congrArg (fun g=>({ m with pg:=g } : Mp)) (funext fun a=>?_);unfold fC aH;by_cases e:a=p;·rw[ae e,ae e];rfl
 ·rw[ac e,ac e,ac];rw[show(2:Nat) ^ (0:Int).toNat=1 from rfl];omega
theorem YH{w W sb lw x t fr ls S h}(o:SO w W sb lw x t fr ls S h){p k i:Nat}(hc:S.c p=some k)(hi:i<aF k)(r:i ∉ S.fl p)(hf:S.fl p≠[]):dM t.m p i={ t.m with pg:=aH (dH (aH t.m.pg p (aS (t.m.pg p) i)) (S.pl k) p) p (aT 2 0) }/\gU t.m h p k i=(if bH (S.pl k) p = -1 then cO h k (bE (S.pl k) p) else h)/\NP (aH t.m.pg p (aS (t.m.pg p) i)) S k (S.pl k):=by
 obtain⟨g,sp⟩:=o.si.pg p k hc;obtain⟨u,d,_⟩:=o.mem hc;have z:=cV g;have l:eD (t.m.pg p).cl=aF k:=by rw[sp.cl];rfl
 have f:aJ (t.m.pg p) i=!false:=by rw[sp.bt i (by omega)];exact af ⟨hi,r⟩
 obtain⟨q,C,D,A,y,s,B⟩:=mT (t.m.pg p) i;have v:=(tJ d sp.kd (by rw[l];exact hi) f).2;have j:p∈S.pl k:=(o.si.pm k g p).2 ⟨hc,hf⟩;have np:NP (aH t.m.pg p (aS (t.m.pg p) i)) S k (S.pl k):=fun a ha=>by
  by_cases e:a=p;·subst e;rw[jE];exact⟨y.trans sp.nx,s.trans sp.pv⟩
  ·rw[gQ _ _ e];exact⟨(o.si.pg a k ha).2.nx,(o.si.pg a k ha).2.pv⟩
 have n:=BC (m:={ t.m with pg:=aH t.m.pg p (aS (t.m.pg p) i) }) (h:=h) (c:=k) (o.si.pn k g) j (fun a ha=>by
  have b:=((o.si.pm k g a).1 ha).1;refine⟨(o.mem b).2.1,?_,np a b⟩;show(aH t.m.pg p _ a).kd=4
  by_cases e:a=p;·rw[e,jE];exact q.trans sp.kd
  ·rw[gQ _ _ e];exact(o.si.pg a k b).2.kd)
 unfold dM gU;rw[v];refine⟨?_,n.2,np⟩;rw[n.1,zlJ (m:={ t.m with pg:=dH (aH t.m.pg p (aS (t.m.pg p) i)) (S.pl k) p }) d]
theorem SO.rel{w W W' sb lw x t fr ls S h}(o:SO w W sb lw x t fr ls S h){p k i:Nat}(hc:S.c p=some k)(hi:i<aF k)(F:i ∉ S.fl p)(hf:S.fl p≠[])(sw:SW w W' sb lw x { t with m:=dM t.m p i } (gU t.m h p k i)):SO w W' sb lw { x with P:=fI (bZ S p k) (dM t.m p i) } { t with m:=dM t.m p i } fr ls (bZ S p k) (gU t.m h p k i):=by
 obtain⟨A,sp⟩:=o.si.pg p k hc;obtain⟨G,Q,D,K⟩:=o.mem hc;have f:(S.pl k).Nodup:=o.si.pn k A;have u:p∈S.pl k:=(o.si.pm k A p).2 ⟨hc,hf⟩;obtain⟨L,N,np⟩:=YH o hc hi F hf;rw[L,N] at sw ⊢;have z:=AZ np f u;have v:(bZ S p k).c p=none:=bP _ _ _;have s:∀ a,a≠p->(bZ S p k).c a=S.c a:=fun a ha=>bQ _ _ ha
 have l:∀ a c,(bZ S p k).c a=some c->a≠p/\S.c a=some c:=fun a c ha=>by
  have b:a≠p:=fun e=>by rw[e,v] at ha;cases ha
  exact⟨b,by rw[<-s a b];exact ha⟩
 generalize E:aS (t.m.pg p) i=B at *;have C:∀ a,S.c a=none->aH (dH (aH t.m.pg p B) (S.pl k) p) p (aT 2 0) a=t.m.pg a:=fun a ha=>by
  have b:a≠p:=fun e=>by rw[e,hc] at ha;cases ha
  have g:a ∉ S.pl k:=fun e=>by rw[((o.si.pm k A a).1 e).1] at ha;cases ha
  rw[gQ _ _ b,qG f b g,gQ _ _ b]
 have y:∀ a c,(bZ S p k).c a=some c->c<8/\SlP (bZ S p k) a c (aH (dH (aH t.m.pg p B) (S.pl k) p) p (aT 2 0) a):=fun a c ha=>by
  have hb:=l a c ha;clear ha;obtain⟨b,ha⟩:=hb;obtain⟨d,sa⟩:=o.si.pg a c ha;rw[gQ _ _ b];have hq:SlQ (bZ S p k) a c (aH t.m.pg p B a):=by rw[gQ _ _ b];exact sa.q.congr rfl
  refine⟨d,(hq.mt (GF _ _ _ _)).p ?_ ?_⟩
  ·show(dH _ _ _ a).nx=bE (aQ S.pl k _ c) a
   by_cases e:c=k;·subst e;rw[bP];exact(z a ha).1
   ·rw[bQ _ _ e];have g:a ∉ S.pl k:=fun j=>by rw[((o.si.pm k A a).1 j).1] at ha;cases ha;exact e rfl
    rw[qG f b g,gQ _ _ b];exact sa.nx
  ·show(dH _ _ _ a).pv=bH (aQ S.pl k _ c) a
   by_cases e:c=k;·subst e;rw[bP];exact(z a ha).2
   ·rw[bQ _ _ e];have g:a ∉ S.pl k:=fun j=>by rw[((o.si.pm k A a).1 j).1] at ha;cases ha;exact e rfl
    rw[qG f b g,gQ _ _ b];exact sa.pv
 refine⟨sw.fx _,o.sf.gw S (bZ S p k) o.si.eP { t.m with pg:=aH (dH (aH t.m.pg p B) (S.pl k) p) p (aT 2 0) } rfl rfl rfl (fun a ha=>?_) (fun a c ha=>⟨(y a c ha).2.kd,(o.mem (l a c ha).2).1⟩),o.st,o.bm,⟨rfl,y,fun a c ha=>?_,fun a c ha=>o.si.lv a c (l a c ha).2,fun c d=>?_,fun c d a=>?_⟩,fun c d=>?_⟩
 ·show aH _ p _ a=_
  by_cases e:a=p;·subst e;rw[jE,hc,ac (by rintro ⟨⟩)]
  ·rw[s a e] at ha;rw[ae ha];exact C a ha
 ·obtain⟨n1,I,J⟩:=o.si.fl a c (l a c ha).2;exact⟨n1,I,mR J⟩
 ·have:=o.si.pn c d;show(aQ S.pl k _ c).Nodup
  by_cases e:c=k;·subst e;rw[bP];exact IG this p
  ·rw[bQ _ _ e];exact this
 ·have r:=o.si.pm c d a;show a∈aQ S.pl k _ c↔((bZ S p k).c a=some c/\S.fl a≠[])
  by_cases ea:a=p
  ·subst ea;rw[v];constructor
   ·intro n;exfalso
    by_cases e:c=k;·subst e;rw[bP,jT] at n;exact n.2 rfl
    ·rw[bQ _ _ e,r,hc] at n
     cases n.1
     exact e rfl
   ·rintro ⟨e,_⟩;cases e
  ·rw[s a ea];by_cases e:c=k
   ·subst e;rw[bP,jT,r];exact⟨fun n=>n.1,fun n=>⟨n,ea⟩⟩
   ·rw[bQ _ _ e];exact r
 ·show(if bH (S.pl k) p = -1 then cO h k (bE (S.pl k) p) else h) c=bB (aQ S.pl k _ c)
  by_cases e:c=k
  ·subst e;rw[bP,tH f u];by_cases j:bH (S.pl c) p = -1
   ·rw[ae j,ae j];exact ae rfl
   ·rw[ac j,ac j];exact o.hd c d
  ·rw[bQ _ _ e];by_cases j:bH (S.pl k) p = -1
   ·rw[ae j];exact(ac e).trans (o.hd c d)
   ·rw[ac j];exact o.hd c d
def zN(w W1:Wd)(sb lw:Nat)(x:Bx)(t:Bt)(fr:Nat->List Nat)(ls:List (Nat×Nat))(S:Sb)(p k:Nat)(w':Wd):Prop:=∃ P t' h',SO w w' sb lw { x with P:=P } t' (lE x.o fr p 0) (dR ls p) (bZ S p k) h'/\t'.m.n=t.m.n/\BK t t' ls (dR ls p)/\Kt (bM x sb) W1 w'
theorem zjP{w W W1 sb lw x t fr ls S h}(o:SO w W sb lw x t fr ls S h)(p k i:Nat)(hc:S.c p=some k)(hi:i<aF k)(hn:i ∉ S.fl p)(hf:S.fl p≠[])(s1:SW w W1 sb lw x { t with m:=bU t.m (p:Int) (i:Int) false } h):Calls prog 166 #[.pointer (some ⟨sb,0,none⟩),.int .i64 p,.int .i64 k] W1 fun e b=>e=.returned (.int .i64 0)/\zN w W1 sb lw x t fr ls S p k b:=by
 obtain⟨T,sp⟩:=o.si.pg p k hc;obtain⟨q,I,F,R⟩:=o.mem hc;have G:=cV T;have UL:=aA (JD s1 (p:Int) k T);obtain⟨N,f⟩:=xe (gS (bU t.m (p:Int) (i:Int) false) (p:Int));obtain⟨U,g⟩:=xe (gT (bU t.m (p:Int) (i:Int) false) h (p:Int) k);rw[<-f,<-g] at UL;have RN:=aA (show ∀ W',SW w W' sb lw x { t with m:=N } U->Calls prog 175 #[.pointer (some ⟨x.m,0,none⟩),.int .i64 p,.int .i64 0,.int .i64 2] W' fun e b=>e=.returned (.int .i64 (fM N (p:Int) 0 2))/\SO w b sb lw { x with P:=fI (bZ S p k) (dM t.m p i) } { t with m:=dM t.m p i } fr ls (bZ S p k) (gU t.m h p k i)/\Kt (aC x) W' b from fun W' s=>by refine(RD s (p:Int) 0 2).mono ?_;rintro e b ⟨rfl,s',k'⟩;refine⟨rfl,o.rel hc hi hn hf ?_,k'⟩;unfold dM gU;rw[<-f,<-g];exact s')
 generalize fM N (p:Int) 0 2=re at *;have X:fI (bZ S p k) (dM t.m p i) p=none:=iU (bP _ _ _);have l:aM x p k 0=ad x p:=by unfold aM ad;omega
 obtain⟨A,L⟩:=xe (aM x p k 0);have AD:=aA (show ∀ D h' P W',SW w W' sb lw { x with P:=P } D h'->Calls prog 215 #[.pointer (some ⟨sb,0,none⟩),.int .i64 p,.int .i64 k,.int .i64 0] W' fun e b=>e=.returned (.int .u64 A)/\Kt nO W' b from fun D h' P W' s=>by rw[L];exact xH s p k 0 (by omega) T (by omega))
 have GV:=aA (show ∀ W',SO w W' sb lw { x with P:=fI (bZ S p k) (dM t.m p i) } { t with m:=dM t.m p i } fr ls (bZ S p k) (gU t.m h p k i)->Kt (bM x sb) W1 W'->Calls prog 113 #[.pointer (some ⟨lw,0,none⟩),.int .u64 A,.int .i64 0] W' fun e b=>e=.returned (.int .i64 0)/\zN w W1 sb lw x t fr ls S p k b from fun W' C k2=>by
  refine(K.Give6_yes C.po p 0 q X A (L.trans l)).mono ?_;rintro e b ⟨rfl,D,Q,E,Z,bk⟩;refine⟨rfl,_,D,_,C.iz Q (Sm.refl _) bk (fun a c ha=>?_) Z,?_,?_,k2.trans (Z.mono (fun _ _ e=>.inl e)) (fun _ _ e=>e) (fun _ _ e=>e)⟩
  ·refine List.mem_filter.2 ⟨(C.mem ha).1,af fun e=>?_⟩;have e:a=p:=e;rw[e] at ha;rw[show(bZ S p k).c p=none from bP _ _ _] at ha
   cases ha
  ·rw[E];have h1:=C.st;have U:=o.st;have B:(dM t.m p i).n*4096=x.n:=h1;show(dM t.m p i).n=t.m.n
   omega
  ·exact bk)
 generalize fI (bZ S p k) (dM t.m p i)=PP at *;generalize dM t.m p i=mm at *;generalize gU t.m h p k i=hh at *;obtain⟨c0,c1⟩:=s1.c0;have S1:=aA s1;clear o s1 hc hi hn hf sp q I F R f g X l L G;go_enter func166,ntmps166;go_wp2_with fail;refine UL.o.mono ?_;rintro e w2 ⟨rfl,d,r⟩;have S2:=aA d;have K2:=aA r;have MP:=aA (bR d.pl);clear c0 c1;obtain⟨c0,c1⟩:=d.c0;clear d r;go_wp2_with fail;refine MP.o.mono ?_;rintro e V ⟨rfl,B⟩;replace B:=B.symm;subst B;go_wp2_with fail;refine(RN.o _ S2.o).mono ?_;rintro e V ⟨rfl,y,z⟩;have O3:=aA y;have K3:=aA (K2.o.trans (z.mono (fun _ _ e=>.inl e)) (fun _ _ e=>e) (fun _ _ e=>e));clear c0 c1 y z;go_upto_region 3 with fail;have KD:=aA ((kz V).drew);have J:=aA (O3.o.dk KD.o);have K4:=aA (K3.o.trans KD.o (fun _ _ e=>e) (fun _ _ e=>e.elim));obtain⟨c0,c1⟩:=J.o.sw.c0;go_region_held3 (fun b=>b.cell? ⟨sb,0,none⟩=some (.pointer (some ⟨lw,0,none⟩))) (first|with_reducible assumption|fail) (first
  | (go_at_call 113;(with_reducible refine(GV.o _ Y.o K5.o).mono ?_);rintro e w6 ⟨rfl,u⟩;have D6:=aA u;obtain⟨_,_,_,v,_⟩:=u;obtain⟨f0,f1⟩:=v.sw.c0;clear v)
  | (go_at_call 215;(with_reducible refine(AD.o _ _ _ _ J.o.sw).mono ?_);rintro e w5 ⟨rfl,j⟩;have Y:=aA (J.o.dk j);have K5:=aA (K4.o.trans j (fun _ _ e=>e) (fun _ _ e=>e.elim));obtain⟨f0,f1⟩:=Y.o.sw.c0;clear j)
  | fail)
 all_goals
  go_wp2_with fail;exact⟨rfl,.int .i64 0,by simp[results,results166,go_sem],rfl,D6.o⟩
end Go.Proofs.YtfmgnljlkdmndaaGreatDoor
