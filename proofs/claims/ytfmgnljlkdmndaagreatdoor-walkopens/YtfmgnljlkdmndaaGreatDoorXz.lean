import Derived.Test.YtfmgnljlkdmndaaGreatDoorXy
import Derived.Laws.CopyRow
set_option maxRecDepth 1000000
set_option maxHeartbeats 0
namespace Go.Proofs.YtfmgnljlkdmndaaGreatDoor
open Tryz RowKit
set_option linter.unusedVariables false
theorem xV{w:Wd}{s:Nat}{a:Option Nat}{bS R dl n:Nat}{f:Nat->Nat}(h:M.SpA w s a bS R dl n f)(c : 0<n):∃ g,a=some g:=by
 obtain⟨cap,hb,b⟩:=h.ex
 cases a with
 | none=>exact absurd b.1 (by omega)
 | some g=>exact⟨g,rfl⟩
theorem BZ{w W sb lw x t h}(s:SW w W sb lw x t h)(p:Nat)(a:M.In x.bS x.n p 8):Calls prog 245 #[.pointer (some ⟨x.s,0,none⟩),.int .u64 p] W fun e b=>e=.returned (.tuple #[.int .u64 ((M.word t.f (p-x.bS):Nat):Int),.int .i64 0])/\Kt nO W b:=by
 obtain⟨g,hg⟩:=xV s.pl.bd.sp (by unfold M.In at a;omega);have hs:=s.pl.bd.sp;rw[hg] at hs;exact(M.Word_in x.s g x.bS x.R x.dl x.n t.f p W hs a).mono fun e b h=>⟨h.1,dI h.2⟩
theorem xK{w W sb lw x t h}(s:SW w W sb lw x t h)(p v:Nat)(i:v<18446744073709551616)(a:M.In x.bS x.n p 8):Calls prog 229 #[.pointer (some ⟨x.s,0,none⟩),.int .u64 p,.int .u64 v] W fun e b=>e=.returned (.int .i64 0)/\SW w b sb lw x { t with f:=M.upd t.f (p-x.bS) 8 (M.byteOf v) } h/\Kt (aC x) W b:=by
 obtain⟨g,hg⟩:=xV s.pl.bd.sp (by unfold M.In at a;omega);have hs:=s.pl.bd.sp;rw[hg] at hs;refine(M.SetWord_in x.s g x.bS x.R x.dl x.n t.f p v i W hs a).mono ?_;rintro e b ⟨rfl,d,c⟩;rw[<-hg] at d c;have kb:Kt (aC x) W b:=(dI c).mono (fun _ _ e=>.inl e);refine⟨rfl,s.call ?_ kb,kb⟩;exact s.pl.bd.space (dI c) d
theorem ziL{w W sb lw x t h}(s:SW w W sb lw x t h)(p:Nat)(g:Int)(a:M.In x.bS x.n p 8)(c:M.word t.f (p-x.bS)=0):Calls prog 216 #[.pointer (some ⟨sb,0,none⟩),.int .u64 p,.int .i64 g] W fun e j=>e=.returned (.tuple #[.int .i64 (-1),.bool true])/\Kt nO W j:=by
 have i:=aA (BZ s p a);rw[c] at i;have l:=aA (iI s.pl);obtain⟨c0,c1⟩:=s.c0;clear s c a;go_enter func216,ntmps216;go_wp2_with fail;refine l.o.mono ?_;rintro e m ⟨rfl,b⟩;replace b:=b.symm;subst b;go_wp2_with fail;refine i.o.mono ?_;rintro e o ⟨rfl,d⟩;have k:=aA d;clear d c0 c1;go_wp2_with fail;exact⟨rfl,.tuple #[.int .i64 (-1),.bool true],by simp[results,results216,go_sem],rfl,k.o⟩
theorem ziM{w W sb lw x t h}(s:SW w W sb lw x t h)(p g v:Nat)(b:M.In x.bS x.n p 8)(o:M.word t.f (p-x.bS)=v)(j:v≠0)(a:v<18446744073709551616)(y:jK x t v=true)(hg:aK x v/4096=g):Calls prog 216 #[.pointer (some ⟨sb,0,none⟩),.int .u64 p,.int .i64 g] W fun e i=>e=.returned (.tuple #[.int .i64 ((gI x t v:Nat):Int),.bool true])/\Kt nO W i:=by
 have z:=aA (BZ s p b);rw[o] at z;have E:=aA (iI s.pl);have D:=aA (show ∀ W',Kt nO W W'->Calls prog 202 #[.pointer (some ⟨sb,0,none⟩),.int .u64 v] W' fun e i=>e=.returned (.tuple #[kX (g:Int) ((gI x t v:Nat):Int) (dQ x t v),.bool true])/\Kt nO W' i from fun W' k=>by rw[<-hg];exact CI (s.dk k) v a y)
 obtain⟨c0,c1⟩:=s.c0;have A:((v:Int) == 0)=false:=by rw[ag];omega
 generalize gI x t v=n at *;generalize dQ x t v=q at *;clear s o b j y hg;go_enter func216,ntmps216;go_wp2_with fail;refine E.o.mono ?_;rintro e I ⟨rfl,d⟩;replace d:=d.symm;subst d;go_wp2_with fail;refine z.o.mono ?_;rintro e K ⟨rfl,c⟩;have m:=aA c;clear c c0 c1;go_wp2_with fail;refine(D.o _ m.o).mono ?_;rintro e l ⟨rfl,c⟩;have r:=aA (nT m.o (c.alloc (dP (g:Int) (n:Int) q)));have C:=aA (nH l (dP (g:Int) (n:Int) q));clear c;go_upto_region 5 with fail;generalize l.heap.size=u at *;generalize l.alloc (dP (g:Int) (n:Int) q)=F at *;obtain⟨G,L,_⟩:=cQ C.o;have B:((g:Int) == (g:Int))=true:=by simp
 go_quiet (fail)
 have J:=aA (r.o.drewN 1);go_wp2_with fail;exact⟨rfl,.tuple #[.int .i64 n,.bool true],by simp[results,results216,go_sem],rfl,r.o.drewN _⟩
def fD(x:Bx)(t:Bt)(p:Nat):Bool:=jK x t p && aJ (dQ x t p) (gI x t p)
theorem FU{w W sb lw x t h}(s:SW w W sb lw x t h)(p:Nat)(hp:p<18446744073709551616)(hl:fD x t p=true):Calls prog 96 #[.pointer (some ⟨sb,0,none⟩),.int .u64 p] W fun e m=>e=.returned (.int .u64 ((aB (dQ x t p).cl.toNat:Nat):Int))/\Kt nO W m:=by
 unfold fD at hl;rw[bu] at hl;have d:=aA (wI s p hp hl.1);rw[hl.2] at d;have ok:PgOk (dQ x t p):=sH s.pl.bd.mp _;have y:=aA s.kw;generalize aK x p/4096=g at *;generalize gI x t p=n at *;generalize dQ x t p=q at *;obtain⟨c,hc⟩:=au ok.c0;have a:c<8:=by have:=ok.c7;omega
 have l:(c:Int)<8:=by omega
 rw[show q.cl.toNat=c by rw[hc];rfl];have r:=aA hc;obtain⟨z,hz⟩:=xe (aB c);rw[<-hz];have o:=aA (show ∀ W',Kt nO W W'->W'.cell? ⟨0,c,none⟩=some (.int .u64 z)from fun W' k=>by rw[hz];exact k.cell id (y.o c a));clear s hl hc hz ok;go_enter func96,ntmps96;go_wp2_with fail;refine d.o.mono ?_;rintro e b ⟨rfl,i⟩;have f:=aA (i.alloc (dP (g:Int) (n:Int) q));have v:=aA (nH b (dP (g:Int) (n:Int) q));have A:=o.o _ f.o;clear i;go_upto_region 2 with fail;generalize b.heap.size=u at *;generalize b.alloc (dP (g:Int) (n:Int) q)=B at *;obtain⟨_,_,_,_,j,_⟩:=cQ v.o;rw[r.o] at j;go_wp2_with fail;go_ret;exact⟨rfl,f.o⟩
theorem EG{w W sb lw x t h}(s:SW w W sb lw x t h)(p:Nat)(hp:p<18446744073709551616)(hl:fD x t p=false):Calls prog 96 #[.pointer (some ⟨sb,0,none⟩),.int .u64 p] W fun e a=>e=.returned (.int .u64 0)/\Kt nO W a:=by
 have b:=aA (show ∃ g n q,Calls prog 151 #[.pointer (some ⟨sb,0,none⟩),.int .u64 p] W fun e a=>e=.returned (.tuple #[kX g n q,.bool false])/\Kt nO W a from by
  cases hB:jK x t p with
  | false=>exact⟨_,_,_,XT s p hp hB⟩
  | true=>have:=wI s p hp hB;unfold fD at hl;rw[hB,bf] at hl;rw[hl] at this;exact⟨_,_,_,this⟩)
 obtain⟨g,n,q,d⟩:=b.o;have i:=aA d;clear s hl d b;go_enter func96,ntmps96;go_wp2_with fail;refine i.o.mono ?_;rintro e j ⟨rfl,c⟩;have f:=aA (c.alloc (dP g n q));clear c;go_wp2_with fail;go_ret;exact⟨rfl,f.o⟩
theorem JQ(c:Nat)(hc:c<8) : 256/2 ^ c*aB c=4096/\2<=256/2 ^ c/\256/2 ^ c<=256:=by
 revert c
 unfold aB;decide
def kY(f:Nat->Nat)(P off z:Nat):Nat->(Nat->Nat)
 | 0=>f
 | k+1=>M.upd (kY f P off z k) (off+k*z) 8 (M.byteOf (P+(k+1)*z))
def jI(f:Nat->Nat)(P off z N:Nat):Nat->Nat:=M.upd (kY f P off z (N-1)) (off+(N-1)*z) 8 (M.byteOf 0)
theorem XM{w W sb lw x t h}(s:SW w W sb lw x t h)(g c:Nat)(hc:c<8)(hg : 4096*g+4096<=x.n):Calls prog 213 #[.pointer (some ⟨sb,0,none⟩),.int .u64 ((ad x g:Nat):Int),.int .i64 c] W fun e b=>e=.returned (.tuple #[])/\SW w b sb lw x { t with f:=jI t.f (ad x g) (4096*g) (aB c) (256/2 ^ c) } h/\Kt (aC x) W b:=by
 have b1:=s.pl.bd.sp.cfg.be;have b4:=s.pl.bd.sp.fk;obtain⟨P,Y⟩:=xe (ad x g);obtain⟨z,hz⟩:=xe (aB c);obtain⟨N,hN⟩:=xe (256/2 ^ c);have X:=cM hc;have J:N*z=4096/\2<=N/\N<=256:=by rw[hN,hz];exact JQ c hc
 rw[<-hz] at X;rw[<-Y,<-hz,<-hN];have G:P=x.bS+4096*g:=by rw[Y];rfl
 have a9:(c:Int)<8:=by omega
 have a6:P+4096<=9223372036854775808:=by omega
 obtain⟨d,v⟩:∃ d,N=d+1:=⟨N-1,by omega⟩;obtain⟨r,y⟩:=xe (P+d*z);have A:d*z+z=4096:=by have:=J.1;rw[v,av,aL] at this;exact this
 obtain⟨V,a0⟩:=xe (P+4096);have a7:(P:Int)+4096=(V:Int):=by omega
 have b0:(V:Int)-(z:Int)=r:=by omega
 have a4:V<=9223372036854775808:=by omega
 have a5:r<9223372036854775808:=by omega
 have HT:=aA s.kw;have TB:=aA (show ∀ W',SW w W' sb lw x t h->True from fun _ _=>trivial);have L:=aA (show ∀ f W',SW w W' sb lw x { t with f:=f } h->W'.cell? ⟨0,c,none⟩=some (.int .u64 z)from fun f W' k=>by rw[hz];exact k.kw c hc);have K:=L.o t.f W s;have S:=aA G;have l:=aA y;have E:=aA A;have I:=aA hg;have I0:=aA (show SW w W sb lw x { t with f:=kY t.f P (4096*g) z 0 } h/\Kt (aC x) W W from⟨s,Kt.refl _ _⟩);rw[show jI t.f P (4096*g) z N=M.upd (kY t.f P (4096*g) z d) (4096*g+d*z) 8 (M.byteOf 0)by unfold jI;rw[v,eh]];clear s Y hz hN G y A hg J v a0;go_enter func213,ntmps213;go_wp2_with fail;go_loopw [1] (fun sp W'=>∃ k pk:Nat,k<=d/\pk=P+k*z/\sp=.int .u64 pk/\Hd (SW w W' sb lw x { t with f:=kY t.f P (4096*g) z k } h/\Kt (aC x) W W')) (fun sp _=>r-(intOf sp).toNat)
 case atStart=>exact⟨0,P,az _,by rw[Nat.zero_mul,Nat.add_zero],rfl,I0⟩
 case round=>
  clear I0 K;obtain⟨k,pk,hk,m,rfl,U⟩:=hrel;have SI:=aA U.o.1;have KI:=aA U.o.2;clear U;have K:=L.o _ wr SI.o;obtain⟨c0,c1⟩:=SI.o.c0;have B:k*z<=d*z:=ak _ hk;have b2:pk<=r:=by rw[m,l.o];omega
  by_cases F:k<d
  ·have o:(k+1)*z<=d*z:=ak _ F;rw[av,aL] at o;have a2:(pk:Int)<r:=by
    have:=l.o;omega
   obtain⟨pn,Z⟩:=xe (pk+z);have a8:(pk:Int)+(z:Int)=pn:=(by omega);have a3:pn<=r:=(by have:=l.o;omega);have b3:IntKind.u64.wrap (pn:Int)=pn:=(by rw[wrap_u64];omega);have j:=aA (show ∀ W',Kt nO wr W'->Calls prog 229 #[.pointer (some ⟨x.s,0,none⟩),.int .u64 pk,.int .u64 pn] W' fun e b=>e=.returned (.int .i64 0)/\SW w b sb lw x { t with f:=kY t.f P (4096*g) z (k+1) } h/\Kt (aC x) wr b from fun W' kk=>by
    have q:M.In x.bS x.n pk 8:=by unfold M.In;have:=S.o;have:=I.o;have:=E.o;omega
    refine(xK (SI.o.dk kk) pk pn (by omega) q).mono ?_;rintro e b ⟨rfl,C,T⟩;refine⟨rfl,?_,kk.trans T (fun _ _ e=>e.elim) (fun _ _ e=>e)⟩;rw[show pk-x.bS=4096*g+k*z by have:=S.o;omega,show pn=P+(k+1)*z by rw[av,aL];omega] at C;exact C)
   have u:=aA (show pn=P+(k+1)*z from by rw[av,aL];omega);clear Z m B o;go_upto_region 3 with fail;have R:=aA ((kz wr).drew);have Q:=aA (iI (SI.o.dk R.o).pl);obtain⟨d0,d1⟩:=(SI.o.dk R.o).c0;have dt:=L.o _ _ (SI.o.dk R.o);go_region_held3 (fun b=>b.cell? ⟨sb,0,none⟩=some (.pointer (some ⟨lw,0,none⟩))/\b.cell? ⟨0,c,none⟩=some (.int .u64 z)) ((refine⟨?_,?_⟩ <;> first|with_reducible assumption|fail)) (first
    | (go_at_call 229;(with_reducible refine(j.o _ R.o).mono ?_);rintro e w5 ⟨rfl,a,i⟩;obtain⟨f0,f1⟩:=a.c0;have f2:=L.o _ _ a;have S5:=aA a;have K5:=aA (KI.o.trans i (fun _ _ e=>e) (fun _ _ e=>e));clear a i)
    | (go_at_call 31;(with_reducible refine Q.o.mono ?_);rintro e w3 ⟨rfl,p⟩;replace p:=p.symm;subst p)
    | fail)
   all_goals
    clear K c0 c1 d0 d1 dt Q j;go_wp2_with fail;go_round
    case rel=>exact⟨k+1,pn,F,u.o,rfl,aA ⟨S5.o,K5.o⟩⟩
    case measure=>simp[intOf];omega
  ·have a1:k=d:=(by omega);subst a1;have u:pk=r:=(by rw[m,l.o]);subst u;have a2:¬(pk:Int)<pk:=(by omega);have Q:=aA (iI SI.o.pl);have j:=aA (show Calls prog 229 #[.pointer (some ⟨x.s,0,none⟩),.int .u64 pk,.int .u64 0] wr fun e b=>e=.returned (.int .i64 0)/\SW w b sb lw x { t with f:=M.upd (kY t.f P (4096*g) z k) (4096*g+k*z) 8 (M.byteOf 0) } h/\Kt (aC x) wr b from by
    have q:M.In x.bS x.n pk 8:=by unfold M.In;have:=S.o;have:=I.o;have:=E.o;omega
    refine(xK SI.o pk 0 (by omega) q).mono ?_;rintro e b ⟨rfl,C,T⟩;refine⟨rfl,?_,T⟩;rw[show pk-x.bS=4096*g+k*z by have:=S.o;omega] at C;exact C)
   clear m B;go_wp2_with fail;refine Q.o.mono ?_;rintro e w3 ⟨rfl,p⟩;replace p:=p.symm;subst p;go_wp2_with fail;refine j.o.mono ?_;rintro e w5 ⟨rfl,a,i⟩;have D:=aA (And.intro a (KI.o.trans i (fun _ _ e=>e) (fun _ _ e=>e)));clear a i K c0 c1;go_wp2_with fail;exact⟨rfl,.tuple #[],by simp[results,results213,go_sem],rfl,D.o⟩
def mV(x:Bx)(g c:Nat)(fs:Int):Nat:=if fs = -1 then 0 else aM x g c fs.toNat
theorem XL{w W sb lw x t h}(s:SW w W sb lw x t h)(g n c p:Nat)(q:Pg)(hg:g<=1024)(hc:c<8)(P:q.cl=(c:Int))(z:q.fs = -1\/∃ j:Nat,j<=256/\q.fs=(j:Int))(hp:p<18446744073709551616)(a9:M.In x.bS x.n p 8):Calls prog 169 #[.pointer (some ⟨sb,0,none⟩),kX (g:Int) (n:Int) q,.int .u64 p] W fun e i=>e=.returned (.tuple #[])/\SW w i sb lw x ⟨M.upd t.f (p-x.bS) 8 (M.byteOf (mV x g c q.fs)),fU t.m (g:Int) (n:Int),t.hd⟩ h/\Kt (aC x) W i:=by
 have b0:=s.pl.bd.sp.cfg.be;have b1:=s.pl.bd.sp.fk;have u:mV x g c q.fs<18446744073709551616:=by
  unfold mV;split;·omega
  ·rcases z with e|⟨j,hj,e⟩
   ·contradiction
   ·rw[e,aa];unfold aM;have h1:=cM hc;have h2:=Nat.mul_le_mul hj h1.2;omega
 have K0:=aA ((kz W).alloc (dP (g:Int) (n:Int) q));have I:=aA (nH W (dP (g:Int) (n:Int) q));have L:=aA (s.dk K0.o);have G:=aA (show ¬aC x W.heap.size from fun e=>absurd (s.pl.lt _ (.inl e)) (de _));obtain⟨v,hv⟩:=xe (mV x g c q.fs);rw[<-hv] at u ⊢;have HV:=aA hv;have HC:=aA P;have HF:=aA z;clear s hv P z b0 b1;go_enter func169,ntmps169;go_upto_region 1 with fail;generalize W.heap.size=y at *;generalize W.alloc (dP (g:Int) (n:Int) q)=W0 at *;have r:=aA (show ∀ W',Kt nO W0 W'->(Calls prog 229 #[.pointer (some ⟨x.s,0,none⟩),.int .u64 p,.int .u64 v] W' fun e i=>e=.returned (.int .i64 0)/\SW w i sb lw x { t with f:=M.upd t.f (p-x.bS) 8 (M.byteOf v) } h/\Kt (aC x) W' i)from fun W' k=>xK (L.o.dk k) p v u a9);obtain⟨V,T,U,X,Q,Y,R,S,J,_⟩:=cQ I.o;obtain⟨c0,c1⟩:=L.o.c0;by_cases hf:q.fs = -1
 ·have hb:(q.fs != -1)=false:=by rw[hf];rfl
  have b2:v=0:=by rw[HV.o];unfold mV;rw[ae hf]
  subst b2;have SP:=aA (iI L.o.pl);have C:=aA (r.o W0 (kz W0));as_aux_lemma=>
   go_wp2_with fail;refine SP.o.mono ?_;rintro e w3 ⟨rfl,A⟩;replace A:=A.symm;subst A;go_wp2_with fail;refine C.o.mono ?_;rintro e w4 ⟨rfl,o,d⟩;have S4:=aA o;have K4:=aA (K0.o.trans d (fun _ _ e=>e.elim) (fun _ _ e=>e));have N:=aA ((d.block _ (lH I.o) G.o).trans I.o);clear o d V T U X Q Y R S J c0 c1;go_upto_region 5 with fail;have E:=aA ((kz w4).drew);have D:=aA (S4.o.dk E.o);have X5:=aA ((E.o.block _ (lH N.o) id).trans N.o);obtain⟨d0,d1,_⟩:=cQ X5.o;obtain⟨c0,c1⟩:=D.o.c0;have MP:=aA (bR D.o.pl);have Z:=aA (sZ D.o (g:Int) (n:Int));go_region_held3 (fun i=>i.cell? ⟨sb,0,none⟩=some (.pointer (some ⟨lw,0,none⟩))/\i.cell? ⟨y,0,none⟩=some (.int .i64 g)/\i.cell? ⟨y,1,none⟩=some (.int .i64 n)) ((refine⟨?_,?_,?_⟩ <;> first|with_reducible assumption|fail)) (first
    | (go_at_call 214;(with_reducible refine Z.o.mono ?_);rintro e w6 ⟨rfl,b,a⟩;obtain⟨f0,f1⟩:=b.c0;have f2:=a.cell G.o d0;have f3:=a.cell G.o d1;have D6:=aA (And.intro b ((K4.o.trans E.o (fun _ _ e=>e) (fun _ _ e=>e.elim)).trans a (fun _ _ e=>e) (fun _ _ e=>e)));clear b a)
    | (go_at_call 38;(with_reducible refine MP.o.mono ?_);rintro e w5 ⟨rfl,F⟩;replace F:=F.symm;subst F)
    | fail)
   all_goals
    go_wp2_with fail;exact⟨rfl,.tuple #[],by simp[results,results169,go_sem],rfl,D6.o⟩
 ·obtain⟨j,hj,B⟩:∃ j:Nat,j<=256/\q.fs=(j:Int):=by
   rcases HF.o with e|e
   ·exact absurd e hf
   ·exact e
  have hb:(q.fs != -1)=true:=cx.2 hf;have AD:=aA (xH L.o g c j hg hc hj);have K:v=aM x g c j:=by rw[HV.o];unfold mV;rw[ac hf,B];rfl
  rw[<-K] at AD;rw[HC.o] at Q;have AQ:=aA B;rw[AQ.o] at J;have b3:((j:Int) != -1)=true:=cx.2 (by omega);clear B K hf hb;as_aux_lemma=>
   go_wp2_with fail;refine AD.o.mono ?_;rintro e w1 ⟨rfl,l⟩;have S1:=aA (L.o.dk l);have X1:=aA ((l.block _ (lH I.o) id).trans I.o);have K1:=aA (nT K0.o l);have SP:=aA (iI S1.o.pl);have C:=aA (r.o w1 l);clear l c0 c1 V T U X Q Y R S J;obtain⟨V,T,U,X,Q,Y,R,S,J,_⟩:=cQ X1.o;obtain⟨c0,c1⟩:=S1.o.c0;go_wp2_with fail;refine SP.o.mono ?_;rintro e w3 ⟨rfl,A⟩;replace A:=A.symm;subst A;go_wp2_with fail;refine C.o.mono ?_;rintro e w4 ⟨rfl,o,d⟩;have S4:=aA o;have K4:=aA (K1.o.trans d (fun _ _ e=>e.elim) (fun _ _ e=>e));have N:=aA ((d.block _ (lH X1.o) G.o).trans X1.o);clear o d V T U X Q Y R S J c0 c1;go_upto_region 5 with fail;have E:=aA ((kz w4).drew);have D:=aA (S4.o.dk E.o);have X5:=aA ((E.o.block _ (lH N.o) id).trans N.o);obtain⟨d0,d1,_⟩:=cQ X5.o;obtain⟨c0,c1⟩:=D.o.c0;have MP:=aA (bR D.o.pl);have Z:=aA (sZ D.o (g:Int) (n:Int));go_region_held3 (fun i=>i.cell? ⟨sb,0,none⟩=some (.pointer (some ⟨lw,0,none⟩))/\i.cell? ⟨y,0,none⟩=some (.int .i64 g)/\i.cell? ⟨y,1,none⟩=some (.int .i64 n)) ((refine⟨?_,?_,?_⟩ <;> first|with_reducible assumption|fail)) (first
    | (go_at_call 214;(with_reducible refine Z.o.mono ?_);rintro e w6 ⟨rfl,b,a⟩;obtain⟨f0,f1⟩:=b.c0;have f2:=a.cell G.o d0;have f3:=a.cell G.o d1;have D6:=aA (And.intro b ((K4.o.trans E.o (fun _ _ e=>e) (fun _ _ e=>e.elim)).trans a (fun _ _ e=>e) (fun _ _ e=>e)));clear b a)
    | (go_at_call 38;(with_reducible refine MP.o.mono ?_);rintro e w5 ⟨rfl,F⟩;replace F:=F.symm;subst F)
    | fail)
   all_goals
    go_wp2_with fail;exact⟨rfl,.tuple #[],by simp[results,results169,go_sem],rfl,D6.o⟩
theorem SW.congr{w W sb lw x t h h'}(s:SW w W sb lw x t h)(e:∀ k,k<8->h k=h' k):SW w W sb lw x t h':=by refine⟨s.pl,?_,s.nw,s.tb⟩;have:=s.bx;rw[rG,e 0 (by decide),e 1 (by decide),e 2 (by decide),e 3 (by decide),e 4 (by decide),e 5 (by decide),e 6 (by decide),e 7 (by decide)] at this;exact this
theorem BQ{w W lw x t fr ls}(s:PO w W lw x t fr ls)(C:iQ w):Calls prog 56 #[.pointer (some ⟨lw,0,none⟩)] W fun e u=>∃ l,e=.returned (.pointer (some ⟨l,0,none⟩))/\SW w u l lw x t (fun _=>0)/\Kt nO W u/\W.heap.size<=l:=by
 obtain⟨n1,F,P,L,_⟩:=s.en;have o:=s.st;have E:=aA (bR s.pl);have v:=aA (BG s);have R:=aA (fun W' (k:Kt nO W W')=>iI (s.dk k).pl);obtain⟨pn,d⟩:=xe (t.m.n);obtain⟨p,g⟩:=xe (x.n);obtain⟨r,b⟩:=xe (x.bS+x.n);have y:=aA (fun W' (k:Kt nO W W')=>rQ (s.dk k));rw[<-b] at y;rw[<-d] at v;have I:(pn:Int)*4096=(p:Int):=by omega
 have K:p<=4194304:=by omega
 have G:pn<=1024:=by omega
 obtain⟨bs,c⟩:=xe (x.bS);have Q:(r:Int)-(p:Int)=bs:=by omega
 have B:r<=9223372036854775808:=by omega
 have z:bs<=9223372036854775808:=by omega
 have J:=aA c;have q:=aA s;have N:=aA C;clear s o n1 F P L d g b c C;go_enter func56,ntmps56;go_wp2_with fail;refine E.o.mono ?_;rintro e S ⟨rfl,h⟩;replace h:=h.symm;subst h;go_wp2_with fail;refine v.o.mono ?_;rintro e U ⟨rfl,i⟩;replace i:=i.symm;subst i;go_wp2_with fail;refine(R.o _ (kz W)).mono ?_;rintro e T ⟨rfl,j⟩;replace j:=j.symm;subst j;go_wp2_with fail;refine(y.o _ (kz W)).mono ?_;rintro e a ⟨rfl,f⟩;have D:=aA (show SW w (a.alloc (rG lw bs (fun _=>0))) a.heap.size lw x t (fun _=>0)/\Kt nO W (a.alloc (rG lw bs (fun _=>0)))/\W.heap.size<=a.heap.size from by have A:=f.alloc (rG lw bs (fun _=>0));refine⟨⟨(q.o.dk A).pl,?_,an (q.o.dk f).pl.kp.size (aj _),N.o⟩,A,f.size⟩;rw[<-J.o];exact nH a _)
 clear f;go_wp2_with fail;go_ret;exact⟨_,rfl,D.o⟩
theorem zO{w W lw x t fr ls}(s:PO w W lw x t fr ls)(o:iQ w):Calls prog 20 #[.pointer (some ⟨lw,0,none⟩)] W fun e l=>∃ a,e=.returned (.pointer (some ⟨a,0,none⟩))/\SW w l a lw x t (fun _ => -1)/\Kt nO W l/\W.heap.size<=a:=by
 have n:=aA (BQ s o);clear s o;go_enter func20,ntmps20;go_wp2_with fail;refine n.o.mono ?_;rintro e m ⟨a,rfl,hs,f,hz⟩;have g:=aA (show SW w m a lw x t (fun j=>if j<0 then -1 else 0)/\Kt nO W m from⟨hs,f⟩);have q:=aA hz;clear hs f hz n;go_wp2_with fail;go_loopw [7] (fun si W'=>∃ k:Nat,k<=8/\si=.int .i64 k/\Hd (SW w W' a lw x t (fun j=>if j<k then -1 else 0)/\Kt nO W W')) (fun si _=>8-(intOf si).toNat)
 case atStart=>exact⟨0,by decide,rfl,g⟩
 case round=>
  clear g;obtain⟨k,f,rfl,d⟩:=hrel;have SI:=aA d.o.1;have i:=aA d.o.2;clear d;by_cases b:k<8
  ·have c:(k:Int)<8:=(by omega);have c2:=SI.o.hd k b;have v:=SI.o.fz (2+k);have u:=aA (show SW w (wr.setCell ⟨a,2+k,none⟩ (.int .i64 (-1))) a lw x t (fun j=>if j<k+1 then -1 else 0)/\Kt nO W (wr.setCell ⟨a,2+k,none⟩ (.int .i64 (-1)))from by
    refine⟨(SI.o.set k b (-1)).congr (fun j r=>?_),i.o.em (p:=⟨a,2+k,none⟩) (fun e=>absurd e (Nat.not_lt.2 q.o)) _⟩;unfold cO;by_cases e:j=k;·rw[ae e,ae (by omega)]
    ·rw[ac e];show(if j<k then (-1:Int) else 0)=if j<k+1 then (-1:Int) else 0
     by_cases h:j<k;·rw[ae h,ae (by omega)]
     ·rw[ac h,ac (by omega)])
   go_wp2_with fail;go_round
   case rel=>exact⟨k+1,by omega,by go_num,u⟩
   case measure=>simp[intOf];omega
  ·have c:¬(k:Int)<8:=(by omega);have D:=aA (show SW w wr a lw x t (fun _ => -1)/\Kt nO W wr/\W.heap.size<=a from⟨SI.o.congr (fun j r=>by show(if j<k then (-1:Int) else 0) = -1;rw[ae (by omega)]),i.o,q.o⟩);go_wp2_with fail;go_ret;exact⟨a,rfl,D.o⟩
abbrev pF(h:Nat->Int):Obj:=.cells #[.int .i64 (h 0),.int .i64 (h 1),.int .i64 (h 2),.int .i64 (h 3),.int .i64 (h 4),.int .i64 (h 5),.int .i64 (h 6),.int .i64 (h 7)] 115
theorem ziX{w W sb lw x t h}(s:SW w W sb lw x t h):Calls prog 35 #[.pointer (some ⟨sb,0,none⟩)] W fun e a=>∃ b,e=.returned (.slice (some ⟨b,0,none⟩) 8 8)/\a.heap[b]?=some (pF h)/\Kt nO W a/\W.heap.size<=b:=by
 have c0:=s.hd 0 (by decide);have c1:=s.hd 1 (by decide);have c2:=s.hd 2 (by decide);have c3:=s.hd 3 (by decide);have c4:=s.hd 4 (by decide);have c5:=s.hd 5 (by decide);have c:=s.hd 6 (by decide);have c7:=s.hd 7 (by decide);have D:=aA (show(W.alloc (pF h)).heap[W.heap.size]?=some (pF h)/\Kt nO W (W.alloc (pF h))/\W.heap.size<=W.heap.size from⟨nH W _,(kz W).alloc _,aj _⟩);clear s;go_enter func35,ntmps35;go_wp2_with fail;go_ret;exact⟨_,rfl,D.o⟩
theorem ziv:(prog.info? 3).map (fun i=>i.size)=some 1:=by kernel_rfl
def mG(h:Nat->Int):List Vl:=[.int .i64 (h 0),.int .i64 (h 1),.int .i64 (h 2),.int .i64 (h 3),.int .i64 (h 4),.int .i64 (h 5),.int .i64 (h 6),.int .i64 (h 7)]
theorem zkE(h:Nat->Int)(j:Nat)(u:Vl)(e:(mG h)[j]?=some u):j<8/\u=.int .i64 (h j):=by unfold mG at e;rcases j with _|_|_|_|_|_|_|_|j <;> simp at e <;> (subst e;exact⟨by omega,rfl⟩)
def pI(W:Wd)(a:Addr)(h:Nat->Int):Prop:=∀ j,j<8->W.cell? (a.add j)=some (.int .i64 (h j))
theorem pI.dk{W W':Wd}{a:Addr}{h:Nat->Int}(s:pI W a h)(k:Kt nO W W'):pI W' a h:=fun j b=>k.cell id (s j b)
theorem RU{w W lw x t fr ls}(s:PO w W lw x t fr ls)(q:iQ w)(a:Addr)(cap:Nat)(h:Nat->Int)(r:pI W a h):Calls prog 50 #[.pointer (some ⟨lw,0,none⟩),.slice (some a) 8 cap] W fun e n=>∃ b,e=.returned (.tuple #[.pointer (some ⟨b,0,none⟩),.int .i64 0])/\SW w n b lw x t h/\Kt nO W n/\W.heap.size<=b:=by
 have o:=aA (BQ s q);have z:=aA r;clear s q r;go_enter func50,ntmps50;go_wp2_with fail;refine o.o.mono ?_;rintro e d ⟨b,rfl,hs,l,hz⟩;obtain⟨f,c⟩:=xe (d.setRow b #[.pointer (some ⟨lw,0,none⟩),.int .u64 x.bS,.int .i64 (h 0),.int .i64 (h 1),.int .i64 (h 2),.int .i64 (h 3),.int .i64 (h 4),.int .i64 (h 5),.int .i64 (h 6),.int .i64 (h 7)]);have m:=aA (show ∀ k,(Builtin.copy_ #[40,40] k #[.slice (some ⟨b,2,none⟩) 8 8,.slice (some a) 8 cap]).run prog d=.ok (goInt 8) f from fun k=>by
  have:=run_copy_row (P:=prog) d 40 40 k 3 b 2 8 8 a 8 cap _ 117 (mG h) Tryz.underlying40 ziv hs.bx rfl (fun j u e=>by
   obtain⟨v,rfl⟩:=zkE h j u e;exact(z.o.dk l) j v) (aj 10) (fun u p=>by
   simp[mG] at p;rcases p with rfl|rfl|rfl|rfl|rfl|rfl|rfl|rfl <;> rfl)
  rw[this,c];rfl)
 have kp:Kt (fun y=>y=b) d f:=by rw[c];exact⟨rfl,rfl,rfl,by simp[World.setRow],fun i hi g=>setRow_other d b i _ g⟩
 have D:=aA (show SW w f b lw x t h/\Kt nO W f/\W.heap.size<=b from by
  have g:=hs.mg;have k0:Kt nO W f:=l.trans kp (fun _ _ e=>e) (fun y hy e=>absurd (show y<b by omega) (by rw[show y=b from e];exact de _));refine⟨⟨⟨(kp.block _ (lH hs.pl.box) (fun e=>g (.inr (.inr (.inr e.symm))))).trans hs.pl.box,hs.pl.bd.kept kp (fun y hy e=>g ?_),hs.pl.nw,hs.pl.kp.trans kp (fun _ _ e=>e) (fun y hy e=>absurd hs.nw (Nat.not_le.2 (e▸hy)))⟩,?_,hs.nw,hs.tb⟩,k0,hz⟩
  ·rw[show y=b from e] at hy;rcases hy with hy|hy|hy
   ·exact .inl hy
   ·exact .inr (.inl hy)
   ·exact .inr (.inr (.inl hy))
  ·rw[c];exact setRow_heap d b _ _ _ _ hs.bx)
 clear c kp hs l hz o;have A:=m.o;clear m;go_wp2_with fail;exact⟨rfl,.tuple #[.pointer (some ⟨b,0,none⟩),.int .i64 0],by simp[results,results50,go_sem],b,rfl,D.o⟩
def bB:List Nat->Int
 | [] => -1
 | a :: _=>(a:Int)
def bE:List Nat->Nat->Int
 | [],_ => -1
 | a :: l,p=>if a=p then bB l else bE l p
def bH:List Nat->Nat->Int
 | [],_ => -1
 | a :: l,p=>if bB l=(p:Int) then (a:Int) else bH l p
theorem oS{l:List Nat}{p:Nat}(h:bB l=(p:Int)):p∈l:=by
 cases l with
 | nil=>have h:(-1:Int)=(p:Int):=h;omega
 | cons a l=>have h:(a:Int)=p:=h;rw[show p=a by omega];exact aw
theorem pA(l:List Nat):bB l = -1\/∃ r:Nat,bB l=(r:Int)/\r∈l:=by
 cases l with
 | nil=>exact .inl rfl
 | cons a l=>exact .inr ⟨a,rfl,aw⟩
theorem sT{l:List Nat}{p:Nat}(h:p ∉ l):bE l p = -1:=by
 induction l with
 | nil=>rfl
 | cons a l b=>rw[eg,not_or] at h;rw[bE,ac (fun e=>h.1 e.symm)];exact b h.2
theorem oR{l:List Nat}{p:Nat}(h:p ∉ l):bH l p = -1:=by
 induction l with
 | nil=>rfl
 | cons a l b=>rw[eg,not_or] at h;rw[bH,ac (fun e=>h.2 (oS e))];exact b h.2
theorem lZ(l:List Nat)(p:Nat)(hd:l.Nodup):bE l p = -1\/∃ r:Nat,bE l p=(r:Int)/\r∈l/\r≠p:=by
 induction l with
 | nil=>exact .inl rfl
 | cons a l g=>
  rw[dr] at hd;rw[bE];by_cases e:a=p
  ·rw[ae e];rcases pA l with h|⟨r,c,b⟩
   ·exact .inl h
   ·exact .inr ⟨r,c,dq _ b,fun f=>hd.1 (by rw[e,<-f];exact b)⟩
  ·rw[ac e];rcases g hd.2 with h|⟨r,c,b,d⟩
   ·exact .inl h
   ·exact .inr ⟨r,c,dq _ b,d⟩
theorem nN(l:List Nat)(p:Nat)(hd:l.Nodup):bH l p = -1\/∃ r:Nat,bH l p=(r:Int)/\r∈l/\r≠p:=by
 induction l with
 | nil=>exact .inl rfl
 | cons a l f=>
  rw[dr] at hd;rw[bH];by_cases e:bB l=(p:Int);·rw[ae e];exact .inr ⟨a,rfl,aw,fun d=>hd.1 (by rw[d];exact oS e)⟩
  ·rw[ac e];rcases f hd.2 with h|⟨r,b,g,c⟩
   ·exact .inl h
   ·exact .inr ⟨r,b,dq _ g,c⟩
theorem qJ{a:Nat}{l:List Nat}(hd:(a :: l).Nodup):bH (a :: l) a = -1:=by rw[dr] at hd;rw[bH,ac (fun e=>hd.1 (oS e))];exact oR hd.1
theorem nI{l:List Nat}{p:Nat}(hd:l.Nodup)(hp:p∈l):bH l p = -1↔bB l=(p:Int):=by
 cases l with
 | nil=>cases hp
 | cons a l=>
  constructor
  ·intro h;rcases eg.1 hp with e|d
   ·rw[e];rfl
   ·exfalso
    clear hp;induction l generalizing a with
    | nil=>cases d
    | cons b l g=>
     rw[bH] at h;by_cases e:bB (b :: l)=(p:Int);·rw[ae e] at h;omega
     ·rw[ac e] at h;rcases eg.1 d with f|c
      ·exact e (by rw[f];rfl)
      ·exact g b (dr.1 hd).2 h c
  ·intro h;have h:(a:Int)=p:=h;rw[show p=a by omega];exact qJ hd
theorem yC{l:List Nat}{p:Nat}(h:p ∉ l):M.dropL (p :: l) p=l:=by unfold M.dropL;rw[List.filter_cons_of_neg (by simp)];exact List.filter_eq_self.2 fun q hq=>by simp;exact fun e=>h (e▸hq)
theorem yE{l:List Nat}{a p:Nat}(h:a≠p):M.dropL (a :: l) p=a :: M.dropL l p:=by unfold M.dropL;rw[List.filter_cons_of_pos (by simp[h])]
theorem IG{l:List Nat}(h:l.Nodup)(p:Nat):(M.dropL l p).Nodup:=h.filter _
theorem tH{l:List Nat}{p:Nat}(hd:l.Nodup)(hp:p∈l):bB (M.dropL l p)=if bH l p = -1 then bE l p else bB l:=by
 cases l with
 | nil=>cases hp
 | cons a l=>
  have b:=dr.1 hd;by_cases e:a=p;·subst e;rw[yC b.1,ae (qJ hd),bE,ae rfl]
  ·rw[yE e,ac]
   ·rfl
   ·rw[nI hd hp];intro h;have h:(a:Int)=p:=h;omega
theorem zlL{l:List Nat}{p r:Nat}(hd:l.Nodup)(hp:p∈l)(n:r≠p):bE (M.dropL l p) r=if (r:Int)=bH l p then bE l p else bE l r:=by
 induction l with
 | nil=>cases hp
 | cons a l m=>
  have d:=dr.1 hd;by_cases e:a=p
  ·subst e;rw[yC d.1,qJ hd,ac (by omega)];show bE l r=if a=r then bB l else bE l r
   rw[ac (fun h=>n h.symm)]
  ·have c:p∈l:=by
    rcases eg.1 hp with h|h
    ·exact absurd h.symm e
    ·exact h
   rw[yE e];have j:bE (a :: l) p=bE l p:=(by rw[bE,ac e]);rw[j];by_cases g:a=r
   ·subst g;rw[bE,ae rfl,tH d.2 c,bE,ae rfl,bH];by_cases f:bB l=(p:Int)
    ·rw[ae f,ae rfl,ae ((nI d.2 c).2 f)]
    ·rw[ac f,ac (fun h=>f ((nI d.2 c).1 h)),ac];intro h;rcases nN l p d.2 with i|⟨b,i,k,_⟩
     ·rw[i] at h;omega
     ·rw[i] at h;exact d.1 (by rw[show a=b by omega];exact k)
   ·rw[bE,ac g,m d.2 c,bE,ac g,bH];by_cases f:bB l=(p:Int)
    ·rw[ae f,(nI d.2 c).2 f,ac (by omega),ac (fun h=>g (by omega))]
    ·rw[ac f]
theorem zlM{l:List Nat}{p r:Nat}(hd:l.Nodup)(hp:p∈l)(u:r≠p):bH (M.dropL l p) r=if (r:Int)=bE l p then bH l p else bH l r:=by
 induction l with
 | nil=>cases hp
 | cons a l t=>
  have g:=dr.1 hd;by_cases e:a=p
  ·subst e;rw[yC g.1,qJ hd];have i:bE (a :: l) a=bB l:=(by rw[bE,ae rfl]);rw[i];by_cases k:(r:Int)=bB l
   ·rw[ae k];exact(nI g.2 (oS k.symm)).2 k.symm
   ·rw[ac k,bH,ac (fun h=>k h.symm)]
  ·have f:p∈l:=by
    rcases eg.1 hp with h|h
    ·exact absurd h.symm e
    ·exact h
   rw[yE e];have i:bE (a :: l) p=bE l p:=(by rw[bE,ac e]);rw[i,bH,tH g.2 f,t g.2 f,bH,bH];by_cases j:bB l=(p:Int)
   ·have n:=(nI g.2 f).2 j;rw[ae n,ae j,n];by_cases d:bE l p=(r:Int)
    ·rw[ae d,ae d.symm]
    ·rw[ac d,ac (fun h=>d h.symm),ac (fun h=>d h.symm),ac];intro h;rw[j] at h;exact u (by omega)
   ·have n:¬bH l p = -1:=fun h=>j ((nI g.2 f).1 h)
    rw[ac n,ac j];by_cases d:bB l=(r:Int)
    ·rw[ae d];by_cases q:(r:Int)=bE l p
     ·exfalso
      -- the head stands behind nobody
      cases l with
      | nil=>cases f
      | cons b l=>
       have d:(b:Int)=r:=d;have:bE (b :: l) p=(b:Int):=by rw[<-q,d]
       rw[bE] at this;have m:=dr.1 g.2;by_cases o:b=p;·exact j (by rw[o];rfl)
       ·rw[ac o] at this;rcases lZ l p m.2 with h|⟨c,v,s,_⟩
        ·omega
        ·exact m.1 (by rw[show b=c by omega];exact s)
     ·rw[ac q,ae d]
    ·rw[ac d,ac d]
def aF(k:Nat):Nat:=256/2 ^ k
theorem cV{k:Nat}(h:k<8):aF k*aB k=4096/\2<=aF k/\aF k<=256:=JQ k h
structure Sb where
 c:Nat->Option Nat
 fl:Nat->List Nat
 pl:Nat->List Nat
def fI(S:Sb)(m:Mp):Nat->Option Pg:=fun p=>(S.c p).map fun _=>m.pg p
theorem iU{S:Sb}{m:Mp}{p:Nat}(h:S.c p=none):fI S m p=none:=by unfold fI;rw[h];rfl
theorem jS{S:Sb}{m:Mp}{p k:Nat}(h:S.c p=some k):fI S m p=some (m.pg p):=by unfold fI;rw[h];rfl
theorem TS{S:Sb}{m:Mp}{p:Nat}{q:Pg}(h:fI S m p=some q):(∃ k,S.c p=some k)/\m.pg p=q:=by
 cases e:S.c p with
 | none=>rw[iU e] at h;cases h
 | some k=>
  rw[jS e] at h;injection h with h
  exact⟨⟨k,rfl⟩,h⟩
structure SlP(S:Sb)(p k:Nat)(q:Pg):Prop where
 kd:q.kd=4
 od:q.od=0
 cl:q.cl=(k:Int)
 lv:q.lv=((aF k-(S.fl p).length:Nat):Int)
 nx:q.nx=bE (S.pl k) p
 pv:q.pv=bH (S.pl k) p
 fs:q.fs=bB (S.fl p)
 bt:∀ i,i<256->aJ q i=decide (i<aF k/\i ∉ S.fl p)
def oC(x:Bx)(p k:Nat):List Nat->Nat
 | []=>0
 | j :: _=>aM x p k j
def mI(x:Bx)(f:Nat->Nat)(p k:Nat):List Nat->Prop
 | []=>True
 | i :: l=>M.word f (4096*p+i*aB k)=oC x p k l/\mI x f p k l
structure SI(x:Bx)(t:Bt)(S:Sb):Prop where
 eP:x.P=fI S t.m
 pg:∀ p k,S.c p=some k->k<8/\SlP S p k (t.m.pg p)
 fl:∀ p k,S.c p=some k->(S.fl p).Nodup/\(∀ i∈S.fl p,i<aF k)/\mI x t.f p k (S.fl p)
 lv:∀ p k,S.c p=some k->(S.fl p).length<=aF k
 pn:∀ k,k<8->(S.pl k).Nodup
 pm:∀ k,k<8->∀ p,p∈S.pl k↔(S.c p=some k/\S.fl p≠[])
def eY(S:Sb):Prop:=∀ p k,S.c p=some k->(S.fl p).length<aF k
theorem Sf.gw{x t fr ls}(s:Sf x t fr ls)(S d:Sb)(v:x.P=fI S t.m)(a:Mp)(F:a.o=t.m.o)(b:a.n=t.m.n)(hw:a.wd=t.m.wd)(w:∀ p,d.c p=none->a.pg p=(if S.c p=none then t.m.pg p else aT 2 0))(z:∀ p k,d.c p=some k->(a.pg p).kd=4/\(p,0)∈ls):Sf { x with P:=fI d a } { t with m:=a } fr ls:=by
 obtain⟨B,s,G,hL⟩:=s;refine⟨B,⟨?_,s.o8,?_,?_,?_,s.b1,s.b2,s.tg,s.fi,?_,s.ds,?_,?_,s.ch,?_,?_,s.nm,?_⟩,G,hL⟩
 ·show a.o=x.o
  rw[F];exact s.mo
 ·show ∃ r,a.n=r*2 ^ x.o
  rw[b];exact s.dv
 ·show a.n*4096<=x.n
  rw[b];exact s.nb
 ·show a.n<=1024
  rw[b];exact s.n1
 ·intro g p k hb;show k<=x.o/\p%2 ^ k=0/\p+2 ^ k<=a.n
  rw[b];exact s.al g p k hb
 ·intro i hi;have hi:i<a.n:=hi;rw[b] at hi;exact s.cv i hi
 ·intro g p k hb C i l j;show a.pg i=(fI d a i).getD _
  cases e:d.c i with
  | some I=>rw[jS e];rfl
  | none=>
   rw[iU e,ej,w i e]
   cases e2:S.c i with
   | none=>rw[ae rfl];have:=s.pg g p k hb C i l j;rw[v,iU e2,ej] at this;exact this
   | some I=>
    rw[ac (by rintro ⟨⟩)];have A:=(s.vs i (t.m.pg i) (by rw[v];exact jS e2)).1;rcases s.ds _ _ _ _ _ _ A hb with ⟨u,y,J⟩|u|u
    ·rw[ae y,<-u,<-J];rfl
    ·omega
    ·omega
 ·intro k f;show(a.wd k).length=(a.n/2 ^ (k+1)+63)/64
  rw[hw,b];exact s.wl k f
 ·intro k f i hi;have hi:i<a.n/2 ^ (k+1):=hi;rw[b] at hi;show aE (a.wd k) i=_
  rw[hw];exact s.bt k f i hi
 ·intro p q h;have h:fI d a p=some q:=h;obtain⟨⟨k,f⟩,hq⟩:=TS h;obtain⟨D,E⟩:=z p k f;exact⟨(hL p 0).2 E,by rw[<-hq];exact D⟩
theorem BdAt.fx{W x t}(h:BdAt W x t)(P:Nat->Option Pg):BdAt W { x with P:=P } t:=⟨h.sp,h.mp,h.ls,h.bs,h.lr,h.mo,h.iL,h.hR⟩
theorem Pol.fx{w W lw x t}(h:Pol w W lw x t)(P:Nat->Option Pg):Pol w W lw { x with P:=P } t:=⟨h.box,h.bd.fx P,h.nw,h.kp⟩
theorem SW.fx{w W sb lw x t h}(s:SW w W sb lw x t h)(P:Nat->Option Pg):SW w W sb lw { x with P:=P } t h:=⟨s.pl.fx P,s.bx,s.nw,s.tb⟩
structure SO(w W:Wd)(sb lw:Nat)(x:Bx)(t:Bt)(fr:Nat->List Nat)(ls:List (Nat×Nat))(S:Sb)(h:Nat->Int):Prop where
 sw:SW w W sb lw x t h
 sf:Sf x t fr ls
 st:t.m.n*4096=x.n
 bm:x.bS%4096=0
 si:SI x t S
 hd:∀ k,k<8->h k=bB (S.pl k)
theorem SO.po{w W sb lw x t fr ls S h}(o:SO w W sb lw x t fr ls S h):PO w W lw x t fr ls:=⟨o.sw.pl,o.sf,o.st,o.bm⟩
theorem SO.dk{w W W' sb lw x t fr ls S h}(o:SO w W sb lw x t fr ls S h)(k:Kt nO W W'):SO w W' sb lw x t fr ls S h:=⟨o.sw.dk k,o.sf,o.st,o.bm,o.si,o.hd⟩
theorem SO.mem{w W sb lw x t fr ls S h}(o:SO w W sb lw x t fr ls S h){p k:Nat}(hp:S.c p=some k):(p,0)∈ls/\p<t.m.n/\p<1024/\x.bS+4096*p+4096<=x.bS+x.n:=by have a:=o.sf.ki (p:=p) (q:=t.m.pg p) (by rw[o.si.eP];exact jS hp);have e:=o.po.en.2.1;have b:=o.st;refine⟨a.1,a.2.2.1,by omega,?_⟩;have d:(p+1)*4096<=t.m.n*4096:=ak _ a.2.2.1;omega
theorem fT{x:Bx}{p k i:Nat}(c:k<8)(hi:i<aF k)(hb:x.bS+4096*p+4096<=9223372036854775808):aK x (aM x p k i)=4096*p+i*aB k/\i*aB k+aB k<=4096/\aM x p k i<18446744073709551616:=by have b:=cV c;have a:(i+1)*aB k<=aF k*aB k:=ak _ hi;rw[av,aL,b.1] at a;have d:aM x p k i=x.bS+4096*p+i*aB k:=rfl;refine⟨?_,a,by omega⟩;unfold aK;omega
theorem sO{x:Bx}{t:Bt}{p k i:Nat}(h:k<8)(hi:i<aF k)(hb:x.bS+4096*p+4096<=9223372036854775808)(hp:p<t.m.n)(b:(t.m.pg p).kd=4)(a:(t.m.pg p).cl=(k:Int)):jK x t (aM x p k i)=true/\aK x (aM x p k i)/4096=p/\dQ x t (aM x p k i)=t.m.pg p/\gI x t (aM x p k i)=i:=by
 obtain⟨d,j,l⟩:=fT (x:=x) (p:=p) h hi hb;have hz:=cM h;have g:aK x (aM x p k i)/4096=p:=by rw[d];omega
 have e:aK x (aM x p k i)%4096=i*aB k:=by rw[d];omega
 have c:dQ x t (aM x p k i)=t.m.pg p:=by unfold dQ cL;rw[g,ae (dN hp),aa]
 have f:(t.m.pg p).cl.toNat=k:=by rw[a];rfl
 refine⟨?_,g,c,?_⟩;·unfold jK;rw[c,f,e,af b,af (Nat.mul_mod_left _ _)];rfl
 ·unfold gI;rw[c,f,e,dh _ (by omega)]
theorem lU(n:Nat):cU n (-1)=true:=by unfold cU;rfl
theorem oU{n r:Nat}(h:r<n):cU n (r:Int)=true:=by unfold cU;rw[dN h,Bool.or_true]
theorem qQ{m:Mp}{p:Nat}{a b:Int}(hp:p<m.n)(c:(m.pg p).kd=4)(ha:cU m.n a=true)(hb:cU m.n b=true):dZ m (p:Int) a b={ m with pg:=aH m.pg p { m.pg p with nx:=a,pv:=b } }:=by unfold dZ kP;rw[aa,dN hp,af c,ha,hb];rfl
theorem zh0(m:Mp)(a b:Int):dZ m (-1) a b=m:=by unfold dZ kP;rw[show aD m.n (-1)=false from ah (by omega)];rfl
theorem pT{m:Mp}{p:Nat}(hp:p<m.n):cL m (p:Int)=m.pg p:=by unfold cL;rw[ae (dN hp),aa]
theorem MI{m:Mp}{r:Nat}{v:Int}(a:r<m.n)(c:(m.pg r).kd=4)(d:cU m.n (m.pg r).nx=true)(b:cU m.n v=true):iW m (r:Int) v={ m with pg:=aH m.pg r { m.pg r with pv:=v } }:=by unfold iW;rw[pT a,qQ a c d b]
theorem MH(m:Mp)(v:Int):iW m (-1) v=m:=zh0 _ _ _
theorem zfK{m:Mp}{r:Nat}{v:Int}(a:r<m.n)(c:(m.pg r).kd=4)(d:cU m.n (m.pg r).pv=true)(b:cU m.n v=true):pC m (r:Int) v={ m with pg:=aH m.pg r { m.pg r with nx:=v } }:=by unfold pC;rw[pT a,qQ a c b d]
def cG(pg:Nat->Pg)(l:List Nat)(p:Nat):Nat->Pg:=fun r=>if r=p then { pg p with nx:=bB l,pv := -1 } else if (r:Int)=bB l then { pg r with pv:=(p:Int) } else pg r
theorem BF{m:Mp}{h:Nat->Int}{p c:Nat}{l:List Nat}(hp:p<m.n)(k:(m.pg p).kd=4)(t:h c=bB l)(hl:∀ r∈l,r<m.n/\(m.pg r).kd=4/\cU m.n (m.pg r).nx=true)(i:p ∉ l):eA m h (p:Int) c={ m with pg:=cG m.pg l p }:=by
 unfold eA;rw[t]
 cases l with
 | nil=>
  show iW (dZ m (p:Int) (-1) (-1)) (-1) (p:Int)=_
  rw[MH,qQ hp k (lU _) (lU _)];refine congrArg (fun g=>({ m with pg:=g } : Mp)) (funext fun r=>?_);unfold aH cG;by_cases e:r=p;·rw[ae e,ae e];rfl
  ·rw[ac e,ac e,ac (by show ¬(r:Int) = -1;omega)]
 | cons b l=>
  obtain⟨j,q,s⟩:=hl b aw;have d:b≠p:=fun e=>i (by rw[e];exact aw)
  show iW (dZ m (p:Int) (b:Int) (-1)) (b:Int) (p:Int)=_
  rw[qQ hp k (oU j) (lU _)];have f:aH m.pg p { m.pg p with nx:=(b:Int),pv := -1 } b=m.pg b:=by unfold aH;rw[ac d]
  rw[MI (m:={ m with pg:=aH m.pg p { m.pg p with nx:=(b:Int),pv := -1 } }) j (by show(aH m.pg p _ b).kd=4;rw[f];exact q) (by show cU m.n (aH m.pg p _ b).nx=true;rw[f];exact s) (oU hp)];show({ m with pg:=aH (aH m.pg p { m.pg p with nx:=(b:Int),pv := -1 }) b { aH m.pg p { m.pg p with nx:=(b:Int),pv := -1 } b with pv:=(p:Int) } } : Mp)=_
  rw[f];refine congrArg (fun g=>({ m with pg:=g } : Mp)) (funext fun r=>?_);unfold aH cG;by_cases e:r=p;·rw[ac (show ¬r=b from fun a=>d (a.symm.trans e)),ae e,ae e];rfl
  ·rw[ac e];by_cases a:r=b
   ·rw[ae a,ac e,ae (by rw[a];rfl),a]
   ·rw[ac a,ac e,ac];intro o;have o:(r:Int)=b:=o;omega
def dH(pg:Nat->Pg)(l:List Nat)(p:Nat):Nat->Pg:=fun r=>if r=p then { pg p with nx := -1,pv := -1 } else { pg r with nx:=if (r:Int)=bH l p then bE l p else (pg r).nx,pv:=if (r:Int)=bE l p then bH l p else (pg r).pv }
theorem BC{m:Mp}{h:Nat->Int}{p c:Nat}{l:List Nat}(hd:l.Nodup)(hp:p∈l)(hl:∀ r∈l,r<m.n/\(m.pg r).kd=4/\(m.pg r).nx=bE l r/\(m.pg r).pv=bH l r):gS m (p:Int)={ m with pg:=dH m.pg l p }/\gT m h (p:Int) c=if bH l p = -1 then cO h c (bE l p) else h:=by
 obtain⟨x,D,z,B⟩:=hl p hp;have lk:∀ r∈l,cU m.n (bE l r)=true/\cU m.n (bH l r)=true:=fun r E=>by
  constructor
  ·rcases lZ l r hd with e|⟨b,e,hb,_⟩
   ·rw[e];exact lU _
   ·rw[e];exact oU (hl b hb).1
  ·rcases nN l r hd with e|⟨b,e,hb,_⟩
   ·rw[e];exact lU _
   ·rw[e];exact oU (hl b hb).1
 refine⟨?_,by unfold gT;rw[pT x,z,B]⟩;unfold gS;rw[pT x,z,B]
 obtain⟨d,t,a,i⟩:∃ d:Mp,iW m (bE l p) (bH l p)=d/\(d.n=m.n/\d={ m with pg:=d.pg })/\∀ r,d.pg r=if (r:Int)=bE l p then { m.pg r with pv:=bH l p } else m.pg r:=by
  rcases lZ l p hd with e|⟨b,e,hb,w⟩
  ·refine⟨m,by rw[e,MH],⟨rfl,rfl⟩,fun r=>?_⟩;rw[e,ac (by omega)]
  ·obtain⟨b1,b2,b3,A⟩:=hl b hb;refine⟨{ m with pg:=aH m.pg b { m.pg b with pv:=bH l p } },by rw[e];exact MI b1 b2 (by rw[b3];exact(lk b hb).1) (lk p hp).2,⟨rfl,rfl⟩,fun r=>?_⟩;show aH m.pg b _ r=_
   unfold aH;rw[e];by_cases f:r=b;·rw[ae f,ae (by rw[f]),f]
   ·rw[ac f,ac (by omega)]
 rw[t]
 obtain⟨o,u,j,k⟩:∃ o:Mp,(if bH l p = -1 then d else pC d (bH l p) (bE l p))=o/\(o.n=m.n/\o={ m with pg:=o.pg })/\∀ r,o.pg r=if (r:Int)=bH l p then { d.pg r with nx:=bE l p } else d.pg r:=by
  rcases nN l p hd with e|⟨b,e,hb,w⟩
  ·refine⟨d,by rw[ae e],a,fun r=>?_⟩;rw[e,ac (by omega)]
  ·obtain⟨b1,b2,b3,A⟩:=hl b hb;have v:(d.pg b).kd=4:=by
    rw[i];split;·exact b2
    ·exact b2
   have y:cU d.n (d.pg b).pv=true:=by
    rw[i,a.1];split;·exact(lk p hp).2
    ·rw[A];exact(lk b hb).2
   refine⟨{ d with pg:=aH d.pg b { d.pg b with nx:=bE l p } },by rw[ac (by rw[e];omega),e];exact zfK (by rw[a.1];exact b1) v y (by rw[a.1];exact(lk p hp).1),⟨a.1,?_⟩,fun r=>?_⟩
   ·show({ d with pg:=_ } : Mp)={ m with pg:=_ }
    rw[a.2]
   ·show aH d.pg b _ r=_
    unfold aH;rw[e];by_cases f:r=b;·rw[ae f,ae (by rw[f]),f]
    ·rw[ac f,ac (by omega)]
 rw[u];have np:¬(p:Int)=bE l p:=fun e=>by
  rcases lZ l p hd with h|⟨b,h,_,hb⟩
  ·omega
  ·exact hb (by omega)
 have C:¬(p:Int)=bH l p:=fun e=>by
  rcases nN l p hd with h|⟨b,h,_,hb⟩
  ·omega
  ·exact hb (by omega)
 have q:o.pg p=m.pg p:=by rw[k,ac C,i,ac np]
 rw[qQ (by rw[j.1];exact x) (by rw[q];exact D) (by exact lU _) (by exact lU _),q,j.2];show({ m with pg:=aH o.pg p { m.pg p with nx := -1,pv := -1 } } : Mp)=_
 refine congrArg (fun g=>({ m with pg:=g } : Mp)) (funext fun r=>?_);unfold aH dH;by_cases e:r=p;·rw[ae e,ae e]
 ·rw[ac e,ac e,k,i];by_cases s:(r:Int)=bH l p
  ·rw[ae s,ae s];by_cases f:(r:Int)=bE l p
   ·rw[ae f,ae f]
   ·rw[ac f,ac f]
  ·rw[ac s,ac s];by_cases f:(r:Int)=bE l p
   ·rw[ae f,ae f]
   ·rw[ac f,ac f]
def zM(q q':Pg):Prop:=∃ a b,q'={ q with nx:=a,pv:=b }
theorem GG(pg:Nat->Pg)(l:List Nat)(p r:Nat):zM (pg r) (cG pg l p r):=by
 unfold cG;by_cases e:r=p;·rw[ae e,e];exact⟨_,_,rfl⟩
 ·rw[ac e];split
  ·exact⟨(pg r).nx,_,rfl⟩
  ·exact⟨(pg r).nx,(pg r).pv,rfl⟩
theorem GF(pg:Nat->Pg)(l:List Nat)(p r:Nat):zM (pg r) (dH pg l p r):=by
 unfold dH;by_cases e:r=p;·rw[ae e,e];exact⟨_,_,rfl⟩
 ·rw[ac e];exact⟨_,_,rfl⟩
def NP(pg:Nat->Pg)(S:Sb)(k:Nat)(l:List Nat):Prop:=∀ r,S.c r=some k->(pg r).nx=bE l r/\(pg r).pv=bH l r
theorem BA{pg:Nat->Pg}{S:Sb}{k p:Nat}{l:List Nat}(h:NP pg S k l)(hd:l.Nodup)(hp:p ∉ l):NP (cG pg l p) S k (p :: l):=fun r c=>by
 obtain⟨b,g⟩:=h r c;unfold cG;by_cases e:r=p;·rw[ae e,e];exact⟨by show bB l=_;rw[bE,ae rfl],(qJ (dr.2 ⟨hp,hd⟩)).symm⟩
 ·have n1:bE (p :: l) r=bE l r:=by rw[bE,ac (fun a=>e a.symm)]
  have d:bH (p :: l) r=if bB l=(r:Int) then (p:Int) else bH l r:=rfl;rw[ac e,n1,d];by_cases a:(r:Int)=bB l
  ·rw[ae a,ae a.symm];exact⟨b,rfl⟩
  ·rw[ac a,ac (fun f=>a f.symm)];exact⟨b,g⟩
theorem AZ{pg:Nat->Pg}{S:Sb}{k p:Nat}{l:List Nat}(h:NP pg S k l)(hd:l.Nodup)(hp:p∈l):NP (dH pg l p) S k (M.dropL l p):=fun r b=>by
 obtain⟨c,d⟩:=h r b;unfold dH;by_cases e:r=p
 ·have a:p ∉ M.dropL l p:=by rw[jT];exact fun h=>h.2 rfl
  rw[ae e,e,sT a,oR a];exact⟨rfl,rfl⟩
 ·rw[ac e,zlL hd hp e,zlM hd hp e];exact⟨by show(if _ then _ else _)=_;rw[c],by show(if _ then _ else _)=_;rw[d]⟩
end Go.Proofs.YtfmgnljlkdmndaaGreatDoor
