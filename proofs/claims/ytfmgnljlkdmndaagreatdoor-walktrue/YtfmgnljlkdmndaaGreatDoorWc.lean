import Derived.Test.YtfmgnljlkdmndaaGreatDoorWb
import Derived.Laws.CopyRow
set_option maxRecDepth 1000000
set_option maxHeartbeats 80000000
namespace Go.Proofs.YtfmgnljlkdmndaaGreatDoor
open Tryz
open Go.RowKit
set_option linter.unusedVariables false
theorem xR{w:World}{s:Nat}{a:Option Nat}{bS R lim n:Nat}{f:Nat->Nat}(h:M.SpA w s a bS R lim n f)(c : 0<n):∃ g,a=some g:=by
 obtain⟨cap,hb,b⟩:=h.ex
 cases a with
 | none=>exact absurd b.1 (by omega)
 | some g=>exact⟨g,rfl⟩
theorem BH{w W sb lw x t h}(s:SW w W sb lw x t h)(p:Nat)(a:M.In x.bS x.n p 8):
  Calls prog 245 #[.pointer (some ⟨x.s,0,none⟩),.int .u64 p] W fun e b=>e=.returned (.tuple #[.int .u64 ((M.word t.f (p-x.bS):Nat):Int),.int .i64 0])/\Kt nO W b:=by
 obtain⟨g,hg⟩:=xR s.pl.bd.sp (by unfold M.In at a;omega);have hs:=s.pl.bd.sp;rw[hg] at hs;exact(M.Word_in x.s g x.bS x.R x.lim x.n t.f p W hs a).mono fun e b h=>⟨h.1,dF h.2⟩
theorem xJ{w W sb lw x t h}(s:SW w W sb lw x t h)(p v:Nat)(i:v<18446744073709551616)(a:M.In x.bS x.n p 8):
  Calls prog 229 #[.pointer (some ⟨x.s,0,none⟩),.int .u64 p,.int .u64 v] W fun e b=>e=.returned (.int .i64 0)/\SW w b sb lw x { t with f:=M.upd t.f (p-x.bS) 8 (M.byteOf v) } h/\Kt (aC x) W b:=by
 obtain⟨g,hg⟩:=xR s.pl.bd.sp (by unfold M.In at a;omega);have hs:=s.pl.bd.sp;rw[hg] at hs;refine(M.SetWord_in x.s g x.bS x.R x.lim x.n t.f p v i W hs a).mono ?_;rintro e b ⟨rfl,d,c⟩;rw[<-hg] at d c;have kb:Kt (aC x) W b:=(dF c).mono (fun _ _ e=>.inl e);refine⟨rfl,s.call ?_ kb,kb⟩;exact s.pl.bd.space (dF c) d
theorem ziD{w W sb lw x t h}(s:SW w W sb lw x t h)(p:Nat)(g:Int)(a:M.In x.bS x.n p 8)(i:M.word t.f (p-x.bS)=0):
  Calls prog 216 #[.pointer (some ⟨sb,0,none⟩),.int .u64 p,.int .i64 g] W fun e l=>e=.returned (.tuple #[.int .i64 (-1),.bool true])/\Kt nO W l:=by
 have c:=aA (BH s p a);rw[i] at c;have k:=aA (iK s.pl);obtain⟨c0,c1⟩:=s.c0;clear s i a;go_enter func216,ntmps216;go_wp2_with fail;refine k.o.mono ?_;rintro e o ⟨rfl,b⟩;replace b:=b.symm;subst b;go_wp2_with fail;refine c.o.mono ?_;rintro e m ⟨rfl,d⟩;have j:=aA d;clear d c0 c1;go_wp2_with fail;exact⟨rfl,.tuple #[.int .i64 (-1),.bool true],by simp[results,results216,go_sem],rfl,j.o⟩
theorem ziE{w W sb lw x t h}(s:SW w W sb lw x t h)(p g v:Nat)(c:M.In x.bS x.n p 8)(z:M.word t.f (p-x.bS)=v)(i:v≠0)(b:v<18446744073709551616)(m:jL x t v=true)(hg:aJ x v/4096=g):
  Calls prog 216 #[.pointer (some ⟨sb,0,none⟩),.int .u64 p,.int .i64 g] W fun e l=>e=.returned (.tuple #[.int .i64 ((gK x t v:Nat):Int),.bool true])/\Kt nO W l:=by
 have y:=aA (BH s p c);rw[z] at y;have D:=aA (iK s.pl);have C:=aA (show ∀ W',Kt nO W W'->Calls prog 202 #[.pointer (some ⟨sb,0,none⟩),.int .u64 v] W' fun e l=>e=.returned (.tuple #[kZ (g:Int) ((gK x t v:Nat):Int) (dT x t v),.bool true])/\Kt nO W' l from fun W' k=>by rw[<-hg];exact BQ (s.keep k) v b m)
 obtain⟨c0,c1⟩:=s.c0;have E:((v:Int) == 0)=false:=by rw[ag];omega
 generalize gK x t v=n at *;generalize dT x t v=q at *;clear s z c i m hg;go_enter func216,ntmps216;go_wp2_with fail;refine D.o.mono ?_;rintro e I ⟨rfl,d⟩;replace d:=d.symm;subst d;go_wp2_with fail;refine y.o.mono ?_;rintro e K ⟨rfl,a⟩;have r:=aA a;clear a c0 c1;go_wp2_with fail;refine(C.o _ r.o).mono ?_;rintro e j ⟨rfl,a⟩;have o:=aA (nT r.o (a.alloc (dS (g:Int) (n:Int) q)));have A:=aA (nH j (dS (g:Int) (n:Int) q));clear a;go_upto_region 5 with fail;generalize j.heap.size=u at *;generalize j.alloc (dS (g:Int) (n:Int) q)=L at *;obtain⟨F,G,_⟩:=cR A.o;have B:((g:Int) == (g:Int))=true:=by simp
 go_quiet (fail)
 have J:=aA (o.o.drewN 1);go_wp2_with fail;exact⟨rfl,.tuple #[.int .i64 n,.bool true],by simp[results,results216,go_sem],rfl,o.o.drewN _⟩
def fH(x:Bx)(t:Bt)(p:Nat):Bool:=jL x t p && aI (dT x t p) (gK x t p)
theorem FJ{w W sb lw x t h}(s:SW w W sb lw x t h)(p:Nat)(hp:p<18446744073709551616)(hl:fH x t p=true):
  Calls prog 96 #[.pointer (some ⟨sb,0,none⟩),.int .u64 p] W fun e r=>e=.returned (.int .u64 ((aB (dT x t p).cl.toNat:Nat):Int))/\Kt nO W r:=by
 unfold fH at hl;rw[bu] at hl;have d:=aA (wU s p hp hl.1);rw[hl.2] at d;have ok:PgOk (dT x t p):=sI s.pl.bd.mp _;have y:=aA s.tab;generalize aJ x p/4096=g at *;generalize gK x t p=n at *;generalize dT x t p=q at *;obtain⟨c,hc⟩:=au ok.c0;have b:c<8:=by have:=ok.c7;omega
 have o:(c:Int)<8:=by omega
 rw[show q.cl.toNat=c by rw[hc];rfl];have j:=aA hc;obtain⟨z,hz⟩:=xe (aB c);rw[<-hz];have v:=aA (show ∀ W',Kt nO W W'->W'.cell? ⟨0,c,none⟩=some (.int .u64 z)from fun W' k=>by rw[hz];exact k.cell id (y.o c b));clear s hl hc hz ok;go_enter func96,ntmps96;go_wp2_with fail;refine d.o.mono ?_;rintro e a ⟨rfl,f⟩;have i:=aA (f.alloc (dS (g:Int) (n:Int) q));have m:=aA (nH a (dS (g:Int) (n:Int) q));have A:=v.o _ i.o;clear f;go_upto_region 2 with fail;generalize a.heap.size=u at *;generalize a.alloc (dS (g:Int) (n:Int) q)=B at *;obtain⟨_,_,_,_,l,_⟩:=cR m.o;rw[j.o] at l;go_wp2_with fail;go_ret;exact⟨rfl,i.o⟩
theorem CZ{w W sb lw x t h}(s:SW w W sb lw x t h)(p:Nat)(hp:p<18446744073709551616)(hl:fH x t p=false):
  Calls prog 96 #[.pointer (some ⟨sb,0,none⟩),.int .u64 p] W fun e a=>e=.returned (.int .u64 0)/\Kt nO W a:=by
 have d:=aA (show ∃ g n q,Calls prog 151 #[.pointer (some ⟨sb,0,none⟩),.int .u64 p] W fun e a=>e=.returned (.tuple #[kZ g n q,.bool false])/\Kt nO W a from by
  cases hB:jL x t p with
  | false=>exact⟨_,_,_,UX s p hp hB⟩
  | true=>
   have:=wU s p hp hB;unfold fH at hl;rw[hB,bf] at hl;rw[hl] at this;exact⟨_,_,_,this⟩)
 obtain⟨g,n,q,c⟩:=d.o;have i:=aA c;clear s hl c d;go_enter func96,ntmps96;go_wp2_with fail;refine i.o.mono ?_;rintro e j ⟨rfl,b⟩;have f:=aA (b.alloc (dS g n q));clear b;go_wp2_with fail;go_ret;exact⟨rfl,f.o⟩
theorem JF(c:Nat)(hc:c<8) : 256/2 ^ c*aB c=4096/\2<=256/2 ^ c/\256/2 ^ c<=256:=by
 revert c
 unfold aB;decide
def lA(f:Nat->Nat)(P off z:Nat):Nat->(Nat->Nat)
 | 0=>f
 | k+1=>M.upd (lA f P off z k) (off+k*z) 8 (M.byteOf (P+(k+1)*z))
def jJ(f:Nat->Nat)(P off z N:Nat):Nat->Nat:=M.upd (lA f P off z (N-1)) (off+(N-1)*z) 8 (M.byteOf 0)
theorem UR{w W sb lw x t h}(s:SW w W sb lw x t h)(g c:Nat)(hc:c<8)(hg : 4096*g+4096<=x.n):
  Calls prog 213 #[.pointer (some ⟨sb,0,none⟩),.int .u64 ((ad x g:Nat):Int),.int .i64 c] W fun e b=>e=.returned (.tuple #[])/\SW w b sb lw x { t with f:=jJ t.f (ad x g) (4096*g) (aB c) (256/2 ^ c) } h/\Kt (aC x) W b:=by
 have a9:=s.pl.bd.sp.cfg.be;have b2:=s.pl.bd.sp.nle;obtain⟨P,T⟩:=xe (ad x g);obtain⟨z,hz⟩:=xe (aB c);obtain⟨N,hN⟩:=xe (256/2 ^ c);have a0:=cN hc;have C:N*z=4096/\2<=N/\N<=256:=by rw[hN,hz];exact JF c hc
 rw[<-hz] at a0;rw[<-T,<-hz,<-hN];have I:P=x.bS+4096*g:=by rw[T];rfl
 have a8:(c:Int)<8:=by omega
 have a5:P+4096<=9223372036854775808:=by omega
 obtain⟨i,q⟩:∃ i,N=i+1:=⟨N-1,by omega⟩;obtain⟨p,F⟩:=xe (P+i*z);have J:i*z+z=4096:=by have:=C.1;rw[q,av,aL] at this;exact this
 obtain⟨P4,X⟩:=xe (P+4096);have a6:(P:Int)+4096=(P4:Int):=by omega
 have a7:(P4:Int)-(z:Int)=p:=by omega
 have a4:P4<=9223372036854775808:=by omega
 have a3:p<9223372036854775808:=by omega
 have HT:=aA s.tab;have TB:=aA (show ∀ W',SW w W' sb lw x t h->True from fun _ _=>trivial);have L:=aA (show ∀ f W',SW w W' sb lw x { t with f:=f } h->W'.cell? ⟨0,c,none⟩=some (.int .u64 z)from fun f W' k=>by rw[hz];exact k.tab c hc);have K:=L.o t.f W s;have Q:=aA I;have j:=aA F;have E:=aA J;have y:=aA hg;have I0:=aA (show SW w W sb lw x { t with f:=lA t.f P (4096*g) z 0 } h/\Kt (aC x) W W from⟨s,Kt.refl _ _⟩);rw[show jJ t.f P (4096*g) z N=M.upd (lA t.f P (4096*g) z i) (4096*g+i*z) 8 (M.byteOf 0)by unfold jJ;rw[q,Nat.add_sub_cancel]];clear s T hz hN I F J hg C q X;go_enter func213,ntmps213;go_wp2_with fail;go_loopw [1] (fun sp W'=>∃ k pk:Nat,k<=i/\pk=P+k*z/\sp=.int .u64 pk/\Hd (SW w W' sb lw x { t with f:=lA t.f P (4096*g) z k } h/\Kt (aC x) W W')) (fun sp _=>p-(intOf sp).toNat)
 case atStart=>exact⟨0,P,az _,by rw[Nat.zero_mul,Nat.add_zero],rfl,I0⟩
 case round=>
  clear I0 K;obtain⟨k,pk,hk,l,rfl,HI⟩:=hrel;have SI:=aA HI.o.1;have KI:=aA HI.o.2;clear HI;have K:=L.o _ wr SI.o;obtain⟨c0,c1⟩:=SI.o.c0;have B:k*z<=i*z:=ak _ hk;have b0:pk<=p:=by rw[l,j.o];omega
  by_cases A:k<i
  ·have o:(k+1)*z<=i*z:=ak _ A;rw[av,aL] at o;have Y:(pk:Int)<p:=by
    have:=j.o;omega
   obtain⟨pn,V⟩:=xe (pk+z);have a1:(pk:Int)+(z:Int)=pn:=(by omega);have a2:pn<=p:=(by have:=j.o;omega);have b1:IntKind.u64.wrap (pn:Int)=pn:=(by rw[wrap_u64];omega);have m:=aA (show ∀ W',Kt nO wr W'->Calls prog 229 #[.pointer (some ⟨x.s,0,none⟩),.int .u64 pk,.int .u64 pn] W' fun e b=>e=.returned (.int .i64 0)/\SW w b sb lw x { t with f:=lA t.f P (4096*g) z (k+1) } h/\Kt (aC x) wr b from fun W' kk=>by
    have r:M.In x.bS x.n pk 8:=by unfold M.In;have:=Q.o;have:=y.o;have:=E.o;omega
    refine(xJ (SI.o.keep kk) pk pn (by omega) r).mono ?_;rintro e b ⟨rfl,G,Z⟩;refine⟨rfl,?_,kk.trans Z (fun _ _ e=>e.elim) (fun _ _ e=>e)⟩;rw[show pk-x.bS=4096*g+k*z by have:=Q.o;omega,show pn=P+(k+1)*z by rw[av,aL];omega] at G;exact G)
   have u:=aA (show pn=P+(k+1)*z from by rw[av,aL];omega);clear V l B o;go_upto_region 3 with fail;have R:=aA ((Kt.refl nO wr).drew);have S:=aA (iK (SI.o.keep R.o).pl);obtain⟨d0,d1⟩:=(SI.o.keep R.o).c0;have dt:=L.o _ _ (SI.o.keep R.o);go_region_held3 (fun b=>b.cell? ⟨sb,0,none⟩=some (.pointer (some ⟨lw,0,none⟩))/\b.cell? ⟨0,c,none⟩=some (.int .u64 z)) ((refine⟨?_,?_⟩ <;> first|with_reducible assumption|fail)) (first
    | (go_at_call 229;(with_reducible refine(m.o _ R.o).mono ?_);rintro e w5 ⟨rfl,a,d⟩;obtain⟨f0,f1⟩:=a.c0;have f2:=L.o _ _ a;have S5:=aA a;have K5:=aA (KI.o.trans d (fun _ _ e=>e) (fun _ _ e=>e));clear a d)
    | (go_at_call 31;(with_reducible refine S.o.mono ?_);rintro e w3 ⟨rfl,v⟩;replace v:=v.symm;subst v)
    | fail)
   all_goals
    clear K c0 c1 d0 d1 dt S m;go_wp2_with fail;go_round
    case rel=>exact⟨k+1,pn,A,u.o,rfl,aA ⟨S5.o,K5.o⟩⟩
    case measure=>simp[intOf];omega
  ·have U:k=i:=(by omega);subst U;have u:pk=p:=(by rw[l,j.o]);subst u;have Y:¬(pk:Int)<pk:=(by omega);have S:=aA (iK SI.o.pl);have m:=aA (show Calls prog 229 #[.pointer (some ⟨x.s,0,none⟩),.int .u64 pk,.int .u64 0] wr fun e b=>e=.returned (.int .i64 0)/\SW w b sb lw x { t with f:=M.upd (lA t.f P (4096*g) z k) (4096*g+k*z) 8 (M.byteOf 0) } h/\Kt (aC x) wr b from by
    have r:M.In x.bS x.n pk 8:=by unfold M.In;have:=Q.o;have:=y.o;have:=E.o;omega
    refine(xJ SI.o pk 0 (by omega) r).mono ?_;rintro e b ⟨rfl,G,Z⟩;refine⟨rfl,?_,Z⟩;rw[show pk-x.bS=4096*g+k*z by have:=Q.o;omega] at G;exact G)
   clear l B;go_wp2_with fail;refine S.o.mono ?_;rintro e w3 ⟨rfl,v⟩;replace v:=v.symm;subst v;go_wp2_with fail;refine m.o.mono ?_;rintro e w5 ⟨rfl,a,d⟩;have D:=aA (And.intro a (KI.o.trans d (fun _ _ e=>e) (fun _ _ e=>e)));clear a d K c0 c1;go_wp2_with fail;exact⟨rfl,.tuple #[],by simp[results,results213,go_sem],rfl,D.o⟩
def mW(x:Bx)(g c:Nat)(fs:Int):Nat:=if fs = -1 then 0 else aK x g c fs.toNat
theorem UQ{w W sb lw x t h}(s:SW w W sb lw x t h)(g n c p:Nat)(q:Pg)(hg:g<=1024)(hc:c<8)(N:q.cl=(c:Int))(B:q.fs = -1\/∃ j:Nat,j<=256/\q.fs=(j:Int))(hp:p<18446744073709551616)(b1:M.In x.bS x.n p 8):
  Calls prog 169 #[.pointer (some ⟨sb,0,none⟩),kZ (g:Int) (n:Int) q,.int .u64 p] W fun e i=>e=.returned (.tuple #[])/\SW w i sb lw x ⟨M.upd t.f (p-x.bS) 8 (M.byteOf (mW x g c q.fs)),fW t.m (g:Int) (n:Int),t.hd⟩ h/\Kt (aC x) W i:=by
 have a9:=s.pl.bd.sp.cfg.be;have b2:=s.pl.bd.sp.nle;have u:mW x g c q.fs<18446744073709551616:=by
  unfold mW;split
  ·omega
  ·rcases B with e|⟨j,hj,e⟩
   ·contradiction
   ·rw[e,aa];unfold aK;have h1:=cN hc;have h2:=Nat.mul_le_mul hj h1.2;omega
 have K0:=aA ((Kt.refl nO W).alloc (dS (g:Int) (n:Int) q));have J:=aA (nH W (dS (g:Int) (n:Int) q));have K:=aA (s.keep K0.o);have G:=aA (show ¬aC x W.heap.size from fun e=>absurd (s.pl.lt _ (.inl e)) (dc _));obtain⟨v,hv⟩:=xe (mW x g c q.fs);rw[<-hv] at u ⊢;have HV:=aA hv;have HC:=aA N;have HF:=aA B;clear s hv N B a9 b2;go_enter func169,ntmps169;go_upto_region 1 with fail;generalize W.heap.size=y at *;generalize W.alloc (dS (g:Int) (n:Int) q)=W0 at *;have r:=aA (show ∀ W',Kt nO W0 W'->(Calls prog 229 #[.pointer (some ⟨x.s,0,none⟩),.int .u64 p,.int .u64 v] W' fun e i=>e=.returned (.int .i64 0)/\SW w i sb lw x { t with f:=M.upd t.f (p-x.bS) 8 (M.byteOf v) } h/\Kt (aC x) W' i)from fun W' k=>xJ (K.o.keep k) p v u b1);obtain⟨X,R,U,S,L,V,Y,T,Q,_⟩:=cR J.o;obtain⟨c0,c1⟩:=K.o.c0;by_cases hf:q.fs = -1
 ·have hb:(q.fs != -1)=false:=by rw[hf];rfl
  have b0:v=0:=by rw[HV.o];unfold mW;rw[ae hf]
  subst b0;have SP:=aA (iK K.o.pl);have F:=aA (r.o W0 (Kt.refl nO W0));as_aux_lemma=>
   go_wp2_with fail;refine SP.o.mono ?_;rintro e w3 ⟨rfl,E⟩;replace E:=E.symm;subst E;go_wp2_with fail;refine F.o.mono ?_;rintro e w4 ⟨rfl,o,d⟩;have S4:=aA o;have K4:=aA (K0.o.trans d (fun _ _ e=>e.elim) (fun _ _ e=>e));have I:=aA ((d.block _ (lH J.o) G.o).trans J.o);clear o d X R U S L V Y T Q c0 c1;go_upto_region 5 with fail;have D:=aA ((Kt.refl nO w4).drew);have C:=aA (S4.o.keep D.o);have X5:=aA ((D.o.block _ (lH I.o) id).trans I.o);obtain⟨d0,d1,_⟩:=cR X5.o;obtain⟨c0,c1⟩:=C.o.c0;have MP:=aA (bT C.o.pl);have Z:=aA (tA C.o (g:Int) (n:Int));go_region_held3 (fun i=>i.cell? ⟨sb,0,none⟩=some (.pointer (some ⟨lw,0,none⟩))/\i.cell? ⟨y,0,none⟩=some (.int .i64 g)/\i.cell? ⟨y,1,none⟩=some (.int .i64 n)) ((refine⟨?_,?_,?_⟩ <;> first|with_reducible assumption|fail)) (first
    | (go_at_call 214;(with_reducible refine Z.o.mono ?_);rintro e w6 ⟨rfl,b,a⟩;obtain⟨f0,f1⟩:=b.c0;have f2:=a.cell G.o d0;have f3:=a.cell G.o d1;have D6:=aA (And.intro b ((K4.o.trans D.o (fun _ _ e=>e) (fun _ _ e=>e.elim)).trans a (fun _ _ e=>e) (fun _ _ e=>e)));clear b a)
    | (go_at_call 38;(with_reducible refine MP.o.mono ?_);rintro e w5 ⟨rfl,A⟩;replace A:=A.symm;subst A)
    | fail)
   all_goals
    go_wp2_with fail;exact⟨rfl,.tuple #[],by simp[results,results169,go_sem],rfl,D6.o⟩
 ·obtain⟨j,hj,z⟩:∃ j:Nat,j<=256/\q.fs=(j:Int):=by
   rcases HF.o with e|e
   ·exact absurd e hf
   ·exact e
  have hb:(q.fs != -1)=true:=cu.2 hf;have AD:=aA (xG K.o g c j hg hc hj);have P:v=aK x g c j:=by rw[HV.o];unfold mW;rw[ac hf,z];rfl
  rw[<-P] at AD;rw[HC.o] at L;have AQ:=aA z;rw[AQ.o] at Q;have b3:((j:Int) != -1)=true:=cu.2 (by omega);clear z P hf hb;as_aux_lemma=>
   go_wp2_with fail;refine AD.o.mono ?_;rintro e w1 ⟨rfl,l⟩;have S1:=aA (K.o.keep l);have X1:=aA ((l.block _ (lH J.o) id).trans J.o);have K1:=aA (nT K0.o l);have SP:=aA (iK S1.o.pl);have F:=aA (r.o w1 l);clear l c0 c1 X R U S L V Y T Q;obtain⟨X,R,U,S,L,V,Y,T,Q,_⟩:=cR X1.o;obtain⟨c0,c1⟩:=S1.o.c0;go_wp2_with fail;refine SP.o.mono ?_;rintro e w3 ⟨rfl,E⟩;replace E:=E.symm;subst E;go_wp2_with fail;refine F.o.mono ?_;rintro e w4 ⟨rfl,o,d⟩;have S4:=aA o;have K4:=aA (K1.o.trans d (fun _ _ e=>e.elim) (fun _ _ e=>e));have I:=aA ((d.block _ (lH X1.o) G.o).trans X1.o);clear o d X R U S L V Y T Q c0 c1;go_upto_region 5 with fail;have D:=aA ((Kt.refl nO w4).drew);have C:=aA (S4.o.keep D.o);have X5:=aA ((D.o.block _ (lH I.o) id).trans I.o);obtain⟨d0,d1,_⟩:=cR X5.o;obtain⟨c0,c1⟩:=C.o.c0;have MP:=aA (bT C.o.pl);have Z:=aA (tA C.o (g:Int) (n:Int));go_region_held3 (fun i=>i.cell? ⟨sb,0,none⟩=some (.pointer (some ⟨lw,0,none⟩))/\i.cell? ⟨y,0,none⟩=some (.int .i64 g)/\i.cell? ⟨y,1,none⟩=some (.int .i64 n)) ((refine⟨?_,?_,?_⟩ <;> first|with_reducible assumption|fail)) (first
    | (go_at_call 214;(with_reducible refine Z.o.mono ?_);rintro e w6 ⟨rfl,b,a⟩;obtain⟨f0,f1⟩:=b.c0;have f2:=a.cell G.o d0;have f3:=a.cell G.o d1;have D6:=aA (And.intro b ((K4.o.trans D.o (fun _ _ e=>e) (fun _ _ e=>e.elim)).trans a (fun _ _ e=>e) (fun _ _ e=>e)));clear b a)
    | (go_at_call 38;(with_reducible refine MP.o.mono ?_);rintro e w5 ⟨rfl,A⟩;replace A:=A.symm;subst A)
    | fail)
   all_goals
    go_wp2_with fail;exact⟨rfl,.tuple #[],by simp[results,results169,go_sem],rfl,D6.o⟩
theorem SW.congr{w W sb lw x t h h'}(s:SW w W sb lw x t h)(e:∀ k,k<8->h k=h' k):SW w W sb lw x t h':=by refine⟨s.pl,?_,s.nw,s.tb⟩;have:=s.bx;rw[rG,e 0 (by decide),e 1 (by decide),e 2 (by decide),e 3 (by decide),e 4 (by decide),e 5 (by decide),e 6 (by decide),e 7 (by decide)] at this;exact this
theorem CR{w W lw x t fr ls}(s:PO w W lw x t fr ls)(v:iT w):
  Calls prog 56 #[.pointer (some ⟨lw,0,none⟩)] W fun e y=>∃ j,e=.returned (.pointer (some ⟨j,0,none⟩))/\SW w y j lw x t (fun _=>0)/\Kt nO W y/\W.heap.size<=j:=by
 obtain⟨n1,R,F,E,_⟩:=s.nums;have p:=s.st;have J:=aA (bT s.pl);have z:=aA (CD s);have N:=aA (fun W' (k:Kt nO W W')=>iK (s.keep k).pl);obtain⟨pn,a⟩:=xe (t.m.n);obtain⟨l,o⟩:=xe (x.n);obtain⟨u,b⟩:=xe (x.bS+x.n);have B:=aA (fun W' (k:Kt nO W W')=>rR (s.keep k));rw[<-b] at B;rw[<-a] at z;have L:(pn:Int)*4096=(l:Int):=by omega
 have G:l<=4194304:=by omega
 have I:pn<=1024:=by omega
 obtain⟨bs,c⟩:=xe (x.bS);have P:(u:Int)-(l:Int)=bs:=by omega
 have r:u<=9223372036854775808:=by omega
 have q:bs<=9223372036854775808:=by omega
 have K:=aA c;have A:=aA s;have Q:=aA v;clear s p n1 R F E a o b c v;go_enter func56,ntmps56;go_wp2_with fail;refine J.o.mono ?_;rintro e S ⟨rfl,h⟩;replace h:=h.symm;subst h;go_wp2_with fail;refine z.o.mono ?_;rintro e U ⟨rfl,g⟩;replace g:=g.symm;subst g;go_wp2_with fail;refine(N.o _ (Kt.refl nO W)).mono ?_;rintro e T ⟨rfl,i⟩;replace i:=i.symm;subst i;go_wp2_with fail;refine(B.o _ (Kt.refl nO W)).mono ?_;rintro e d ⟨rfl,f⟩;have D:=aA (show SW w (d.alloc (rG lw bs (fun _=>0))) d.heap.size lw x t (fun _=>0)/\Kt nO W (d.alloc (rG lw bs (fun _=>0)))/\W.heap.size<=d.heap.size from by have C:=f.alloc (rG lw bs (fun _=>0));refine⟨⟨(A.o.keep C).pl,?_,an (A.o.keep f).pl.kp.size (aj _),Q.o⟩,C,f.size⟩;rw[<-K.o];exact nH d _)
 clear f;go_wp2_with fail;go_ret;exact⟨_,rfl,D.o⟩
theorem zJ{w W lw x t fr ls}(s:PO w W lw x t fr ls)(h:iT w):
  Calls prog 20 #[.pointer (some ⟨lw,0,none⟩)] W fun e l=>∃ a,e=.returned (.pointer (some ⟨a,0,none⟩))/\SW w l a lw x t (fun _ => -1)/\Kt nO W l/\W.heap.size<=a:=by
 have n:=aA (CR s h);clear s h;go_enter func20,ntmps20;go_wp2_with fail;refine n.o.mono ?_;rintro e g ⟨a,rfl,hs,c,hz⟩;have i:=aA (show SW w g a lw x t (fun j=>if j<0 then -1 else 0)/\Kt nO W g from⟨hs,c⟩);have m:=aA hz;clear hs c hz n;go_wp2_with fail;go_loopw [7] (fun si W'=>∃ k:Nat,k<=8/\si=.int .i64 k/\Hd (SW w W' a lw x t (fun j=>if j<k then -1 else 0)/\Kt nO W W')) (fun si _=>8-(intOf si).toNat)
 case atStart=>exact⟨0,by decide,rfl,i⟩
 case round=>
  clear i;obtain⟨k,c,rfl,f⟩:=hrel;have SI:=aA f.o.1;have o:=aA f.o.2;clear f;by_cases b:k<8
  ·have d:(k:Int)<8:=(by omega);have c2:=SI.o.hd k b;have v:=SI.o.fz (2+k);have r:=aA (show SW w (wr.setCell ⟨a,2+k,none⟩ (.int .i64 (-1))) a lw x t (fun j=>if j<k+1 then -1 else 0)/\Kt nO W (wr.setCell ⟨a,2+k,none⟩ (.int .i64 (-1)))from by
    refine⟨(SI.o.set k b (-1)).congr (fun j u=>?_),o.o.setNew (p:=⟨a,2+k,none⟩) (fun e=>absurd e (Nat.not_lt.2 m.o)) _⟩;unfold cP;by_cases e:j=k
    ·rw[ae e,ae (by omega)]
    ·rw[ac e];show(if j<k then (-1:Int) else 0)=if j<k+1 then (-1:Int) else 0
     by_cases q:j<k
     ·rw[ae q,ae (by omega)]
     ·rw[ac q,ac (by omega)])
   go_wp2_with fail;go_round
   case rel=>exact⟨k+1,by omega,by go_num,r⟩
   case measure=>simp[intOf];omega
  ·have d:¬(k:Int)<8:=(by omega);have D:=aA (show SW w wr a lw x t (fun _ => -1)/\Kt nO W wr/\W.heap.size<=a from⟨SI.o.congr (fun j u=>by show(if j<k then (-1:Int) else 0) = -1;rw[ae (by omega)]),o.o,m.o⟩);go_wp2_with fail;go_ret;exact⟨a,rfl,D.o⟩
abbrev pE(h:Nat->Int):Obj:=.cells #[.int .i64 (h 0),.int .i64 (h 1),.int .i64 (h 2),.int .i64 (h 3),.int .i64 (h 4),.int .i64 (h 5),.int .i64 (h 6),.int .i64 (h 7)] 115
theorem ziP{w W sb lw x t h}(s:SW w W sb lw x t h):
  Calls prog 35 #[.pointer (some ⟨sb,0,none⟩)] W fun e a=>∃ b,e=.returned (.slice (some ⟨b,0,none⟩) 8 8)/\a.heap[b]?=some (pE h)/\Kt nO W a/\W.heap.size<=b:=by
 have c0:=s.hd 0 (by decide);have c1:=s.hd 1 (by decide);have c2:=s.hd 2 (by decide);have c3:=s.hd 3 (by decide);have c4:=s.hd 4 (by decide);have c5:=s.hd 5 (by decide);have c:=s.hd 6 (by decide);have c7:=s.hd 7 (by decide);have D:=aA (show(W.alloc (pE h)).heap[W.heap.size]?=some (pE h)/\Kt nO W (W.alloc (pE h))/\W.heap.size<=W.heap.size from⟨nH W _,(Kt.refl nO W).alloc _,aj _⟩);clear s;go_enter func35,ntmps35;go_wp2_with fail;go_ret;exact⟨_,rfl,D.o⟩
theorem zim:(prog.info? 3).map (fun i=>i.size)=some 1:=by kernel_rfl
def mG(h:Nat->Int):List Value:=[.int .i64 (h 0),.int .i64 (h 1),.int .i64 (h 2),.int .i64 (h 3),.int .i64 (h 4),.int .i64 (h 5),.int .i64 (h 6),.int .i64 (h 7)]
theorem zko(h:Nat->Int)(j:Nat)(u:Value)(e:(mG h)[j]?=some u):j<8/\u=.int .i64 (h j):=by unfold mG at e;rcases j with _|_|_|_|_|_|_|_|j <;> simp at e <;> (subst e;exact⟨by omega,rfl⟩)
def pH(W:World)(a:Addr)(h:Nat->Int):Prop:=∀ j,j<8->W.cell? (a.add j)=some (.int .i64 (h j))
theorem pH.keep{W W':World}{a:Addr}{h:Nat->Int}(s:pH W a h)(k:Kt nO W W'):pH W' a h:=fun j b=>k.cell id (s j b)
theorem NQ{w W lw x t fr ls}(s:PO w W lw x t fr ls)(n:iT w)(a:Addr)(cap:Nat)(h:Nat->Int)(q:pH W a h):
  Calls prog 50 #[.pointer (some ⟨lw,0,none⟩),.slice (some a) 8 cap] W fun e o=>∃ b,e=.returned (.tuple #[.pointer (some ⟨b,0,none⟩),.int .i64 0])/\SW w o b lw x t h/\Kt nO W o/\W.heap.size<=b:=by
 have p:=aA (CR s n);have A:=aA q;clear s n q;go_enter func50,ntmps50;go_wp2_with fail;refine p.o.mono ?_;rintro e d ⟨b,rfl,hs,l,hz⟩;obtain⟨f,c⟩:=xe (d.setRow b #[.pointer (some ⟨lw,0,none⟩),.int .u64 x.bS,.int .i64 (h 0),.int .i64 (h 1),.int .i64 (h 2),.int .i64 (h 3),.int .i64 (h 4),.int .i64 (h 5),.int .i64 (h 6),.int .i64 (h 7)]);have m:=aA (show ∀ k,(Builtin.copy_ #[40,40] k #[.slice (some ⟨b,2,none⟩) 8 8,.slice (some a) 8 cap]).run prog d=.ok (goInt 8) f from fun k=>by
  have:=run_copy_row (P:=prog) d 40 40 k 3 b 2 8 8 a 8 cap _ 117 (mG h) Tryz.underlying40 zim hs.bx rfl (fun j u e=>by
   obtain⟨v,rfl⟩:=zko h j u e;exact(A.o.keep l) j v) (aj 10) (fun u r=>by
   simp[mG] at r;rcases r with rfl|rfl|rfl|rfl|rfl|rfl|rfl|rfl <;> rfl)
  rw[this,c];rfl)
 have kp:Kt (fun y=>y=b) d f:=by rw[c];exact⟨rfl,rfl,rfl,by simp[World.setRow],fun i hi g=>setRow_other d b i _ g⟩
 have D:=aA (show SW w f b lw x t h/\Kt nO W f/\W.heap.size<=b from by
  have g:=hs.nsb;have k0:Kt nO W f:=l.trans kp (fun _ _ e=>e) (fun y hy e=>absurd (show y<b by omega) (by rw[show y=b from e];exact dc _));refine⟨⟨⟨(kp.block _ (lH hs.pl.box) (fun e=>g (.inr (.inr (.inr e.symm))))).trans hs.pl.box,hs.pl.bd.kept kp (fun y hy e=>g ?_),hs.pl.nw,hs.pl.kp.trans kp (fun _ _ e=>e) (fun y hy e=>absurd hs.nw (Nat.not_le.2 (e▸hy)))⟩,?_,hs.nw,hs.tb⟩,k0,hz⟩
  ·rw[show y=b from e] at hy;rcases hy with hy|hy|hy
   ·exact .inl hy
   ·exact .inr (.inl hy)
   ·exact .inr (.inr (.inl hy))
  ·rw[c];exact setRow_heap d b _ _ _ _ hs.bx)
 clear c kp hs l hz p;have z:=m.o;clear m;go_wp2_with fail;exact⟨rfl,.tuple #[.pointer (some ⟨b,0,none⟩),.int .i64 0],by simp[results,results50,go_sem],b,rfl,D.o⟩
def bC:List Nat->Int
 | [] => -1
 | a :: _=>(a:Int)
def bE:List Nat->Nat->Int
 | [],_ => -1
 | a :: l,p=>if a=p then bC l else bE l p
def bH:List Nat->Nat->Int
 | [],_ => -1
 | a :: l,p=>if bC l=(p:Int) then (a:Int) else bH l p
theorem oR{l:List Nat}{p:Nat}(h:bC l=(p:Int)):p∈l:=by
 cases l with
 | nil=>
  have h:(-1:Int)=(p:Int):=h;omega
 | cons a l=>
  have h:(a:Int)=p:=h;rw[show p=a by omega];exact aw
theorem oV(l:List Nat):bC l = -1\/∃ r:Nat,bC l=(r:Int)/\r∈l:=by
 cases l with
 | nil=>exact .inl rfl
 | cons a l=>exact .inr ⟨a,rfl,aw⟩
theorem sT{l:List Nat}{p:Nat}(h:p ∉ l):bE l p = -1:=by
 induction l with
 | nil=>rfl
 | cons a l b=>
  rw[List.mem_cons,not_or] at h;rw[bE,ac (fun e=>h.1 e.symm)];exact b h.2
theorem oU{l:List Nat}{p:Nat}(h:p ∉ l):bH l p = -1:=by
 induction l with
 | nil=>rfl
 | cons a l b=>
  rw[List.mem_cons,not_or] at h;rw[bH,ac (fun e=>h.2 (oR e))];exact b h.2
theorem mA(l:List Nat)(p:Nat)(hd:l.Nodup):bE l p = -1\/∃ r:Nat,bE l p=(r:Int)/\r∈l/\r≠p:=by
 induction l with
 | nil=>exact .inl rfl
 | cons a l d=>
  rw[List.nodup_cons] at hd;rw[bE];by_cases e:a=p
  ·rw[ae e];rcases oV l with h|⟨r,c,b⟩
   ·exact .inl h
   ·exact .inr ⟨r,c,List.mem_cons_of_mem _ b,fun f=>hd.1 (by rw[e,<-f];exact b)⟩
  ·rw[ac e];rcases d hd.2 with h|⟨r,c,b,g⟩
   ·exact .inl h
   ·exact .inr ⟨r,c,List.mem_cons_of_mem _ b,g⟩
theorem nQ(l:List Nat)(p:Nat)(hd:l.Nodup):bH l p = -1\/∃ r:Nat,bH l p=(r:Int)/\r∈l/\r≠p:=by
 induction l with
 | nil=>exact .inl rfl
 | cons a l b=>
  rw[List.nodup_cons] at hd;rw[bH];by_cases e:bC l=(p:Int)
  ·rw[ae e];exact .inr ⟨a,rfl,aw,fun f=>hd.1 (by rw[f];exact oR e)⟩
  ·rw[ac e];rcases b hd.2 with h|⟨r,c,d,g⟩
   ·exact .inl h
   ·exact .inr ⟨r,c,List.mem_cons_of_mem _ d,g⟩
theorem qH{a:Nat}{l:List Nat}(hd:(a :: l).Nodup):bH (a :: l) a = -1:=by rw[List.nodup_cons] at hd;rw[bH,ac (fun e=>hd.1 (oR e))];exact oU hd.1
theorem nK{l:List Nat}{p:Nat}(hd:l.Nodup)(hp:p∈l):bH l p = -1↔bC l=(p:Int):=by
 cases l with
 | nil=>cases hp
 | cons a l=>
  constructor
  ·intro h;rcases List.mem_cons.1 hp with e|d
   ·rw[e];rfl
   ·exfalso
    clear hp;induction l generalizing a with
    | nil=>cases d
    | cons b l f=>
     rw[bH] at h;by_cases e:bC (b :: l)=(p:Int)
     ·rw[ae e] at h;omega
     ·rw[ac e] at h;rcases List.mem_cons.1 d with g|c
      ·exact e (by rw[g];rfl)
      ·exact f b (List.nodup_cons.1 hd).2 h c
  ·intro h;have h:(a:Int)=p:=h;rw[show p=a by omega];exact qH hd
theorem xY{l:List Nat}{p:Nat}(h:p ∉ l):M.dropL (p :: l) p=l:=by unfold M.dropL;rw[List.filter_cons_of_neg (by simp)];exact List.filter_eq_self.2 fun q hq=>by simp;exact fun e=>h (e▸hq)
theorem yA{l:List Nat}{a p:Nat}(h:a≠p):M.dropL (a :: l) p=a :: M.dropL l p:=by unfold M.dropL;rw[List.filter_cons_of_pos (by simp[h])]
theorem EK{l:List Nat}(h:l.Nodup)(p:Nat):(M.dropL l p).Nodup:=h.filter _
theorem tH{l:List Nat}{p:Nat}(hd:l.Nodup)(hp:p∈l):bC (M.dropL l p)=if bH l p = -1 then bE l p else bC l:=by
 cases l with
 | nil=>cases hp
 | cons a l=>
  have b:=List.nodup_cons.1 hd;by_cases e:a=p
  ·subst e;rw[xY b.1,ae (qH hd),bE,ae rfl]
  ·rw[yA e,ac]
   ·rfl
   ·rw[nK hd hp];intro h;have h:(a:Int)=p:=h;omega
theorem YT{l:List Nat}{p r:Nat}(hd:l.Nodup)(hp:p∈l)(n:r≠p):bE (M.dropL l p) r=if (r:Int)=bH l p then bE l p else bE l r:=by
 induction l with
 | nil=>cases hp
 | cons a l k=>
  have f:=List.nodup_cons.1 hd;by_cases e:a=p
  ·subst e;rw[xY f.1,qH hd,ac (by omega)];show bE l r=if a=r then bC l else bE l r
   rw[ac (fun h=>n h.symm)]
  ·have c:p∈l:=by
    rcases List.mem_cons.1 hp with h|h
    ·exact absurd h.symm e
    ·exact h
   rw[yA e];have j:bE (a :: l) p=bE l p:=(by rw[bE,ac e]);rw[j];by_cases g:a=r
   ·subst g;rw[bE,ae rfl,tH f.2 c,bE,ae rfl,bH];by_cases d:bC l=(p:Int)
    ·rw[ae d,ae rfl,ae ((nK f.2 c).2 d)]
    ·rw[ac d,ac (fun h=>d ((nK f.2 c).1 h)),ac];intro h;rcases nQ l p f.2 with i|⟨b,i,m,_⟩
     ·rw[i] at h;omega
     ·rw[i] at h;exact f.1 (by rw[show a=b by omega];exact m)
   ·rw[bE,ac g,k f.2 c,bE,ac g,bH];by_cases d:bC l=(p:Int)
    ·rw[ae d,(nK f.2 c).2 d,ac (by omega),ac (fun h=>g (by omega))]
    ·rw[ac d]
theorem YS{l:List Nat}{p r:Nat}(hd:l.Nodup)(hp:p∈l)(u:r≠p):bH (M.dropL l p) r=if (r:Int)=bE l p then bH l p else bH l r:=by
 induction l with
 | nil=>cases hp
 | cons a l s=>
  have i:=List.nodup_cons.1 hd;by_cases e:a=p
  ·subst e;rw[xY i.1,qH hd];have g:bE (a :: l) a=bC l:=(by rw[bE,ae rfl]);rw[g];by_cases m:(r:Int)=bC l
   ·rw[ae m];exact(nK i.2 (oR m.symm)).2 m.symm
   ·rw[ac m,bH,ac (fun h=>m h.symm)]
  ·have f:p∈l:=by
    rcases List.mem_cons.1 hp with h|h
    ·exact absurd h.symm e
    ·exact h
   rw[yA e];have g:bE (a :: l) p=bE l p:=(by rw[bE,ac e]);rw[g,bH,tH i.2 f,s i.2 f,bH,bH];by_cases j:bC l=(p:Int)
   ·have n:=(nK i.2 f).2 j;rw[ae n,ae j,n];by_cases d:bE l p=(r:Int)
    ·rw[ae d,ae d.symm]
    ·rw[ac d,ac (fun h=>d h.symm),ac (fun h=>d h.symm),ac];intro h;rw[j] at h;exact u (by omega)
   ·have n:¬bH l p = -1:=fun h=>j ((nK i.2 f).1 h)
    rw[ac n,ac j];by_cases d:bC l=(r:Int)
    ·rw[ae d];by_cases o:(r:Int)=bE l p
     ·exfalso
      -- the head stands behind nobody
      cases l with
      | nil=>cases f
      | cons b l=>
       have d:(b:Int)=r:=d;have:bE (b :: l) p=(b:Int):=by rw[<-o,d]
       rw[bE] at this;have k:=List.nodup_cons.1 i.2;by_cases q:b=p
       ·exact j (by rw[q];rfl)
       ·rw[ac q] at this;rcases mA l p k.2 with h|⟨c,v,t,_⟩
        ·omega
        ·exact k.1 (by rw[show b=c by omega];exact t)
     ·rw[ac o,ae d]
    ·rw[ac d,ac d]
def aF(k:Nat):Nat:=256/2 ^ k
theorem cW{k:Nat}(h:k<8):aF k*aB k=4096/\2<=aF k/\aF k<=256:=JF k h
structure Sb where
 c:Nat->Option Nat
 fl:Nat->List Nat
 pl:Nat->List Nat
def fK(S:Sb)(m:Mp):Nat->Option Pg:=fun p=>(S.c p).map fun _=>m.pg p
theorem iW{S:Sb}{m:Mp}{p:Nat}(h:S.c p=none):fK S m p=none:=by unfold fK;rw[h];rfl
theorem jS{S:Sb}{m:Mp}{p k:Nat}(h:S.c p=some k):fK S m p=some (m.pg p):=by unfold fK;rw[h];rfl
theorem WM{S:Sb}{m:Mp}{p:Nat}{q:Pg}(h:fK S m p=some q):(∃ k,S.c p=some k)/\m.pg p=q:=by
 cases e:S.c p with
 | none=>rw[iW e] at h;cases h
 | some k=>
  rw[jS e] at h;injection h with h
  exact⟨⟨k,rfl⟩,h⟩
structure SlP(S:Sb)(p k:Nat)(q:Pg):Prop where
 kd:q.kd=4
 od:q.od=0
 cl:q.cl=(k:Int)
 lv:q.lv=((aF k-(S.fl p).length:Nat):Int)
 nx:q.nx=bE (S.pl k) p
 pv:q.pv=bH (S.pl k) p
 fs:q.fs=bC (S.fl p)
 bt:∀ i,i<256->aI q i=decide (i<aF k/\i ∉ S.fl p)
def oC(x:Bx)(p k:Nat):List Nat->Nat
 | []=>0
 | j :: _=>aK x p k j
def mI(x:Bx)(f:Nat->Nat)(p k:Nat):List Nat->Prop
 | []=>True
 | i :: l=>M.word f (4096*p+i*aB k)=oC x p k l/\mI x f p k l
structure SI(x:Bx)(t:Bt)(S:Sb):Prop where
 eP:x.P=fK S t.m
 pg:∀ p k,S.c p=some k->k<8/\SlP S p k (t.m.pg p)
 fl:∀ p k,S.c p=some k->(S.fl p).Nodup/\(∀ i∈S.fl p,i<aF k)/\mI x t.f p k (S.fl p)
 lv:∀ p k,S.c p=some k->(S.fl p).length<=aF k
 pn:∀ k,k<8->(S.pl k).Nodup
 pm:∀ k,k<8->∀ p,p∈S.pl k↔(S.c p=some k/\S.fl p≠[])
def fB(S:Sb):Prop:=∀ p k,S.c p=some k->(S.fl p).length<aF k
theorem Sf.repaint{x t fr ls}(s:Sf x t fr ls)(S d:Sb)(v:x.P=fK S t.m)(a:Mp)(y:a.o=t.m.o)(b:a.n=t.m.n)(hw:a.wd=t.m.wd)(z:∀ p,d.c p=none->a.pg p=(if S.c p=none then t.m.pg p else aU 2 0))(w:∀ p k,d.c p=some k->(a.pg p).kd=4/\(p,0)∈ls):
  Sf { x with P:=fK d a } { t with m:=a } fr ls:=by
 obtain⟨B,s,E,hL⟩:=s;refine⟨B,⟨?_,s.o8,?_,?_,?_,s.b1,s.b2,s.tg,s.fi,?_,s.ds,?_,?_,s.ch,?_,?_,s.nm,?_⟩,E,hL⟩
 ·show a.o=x.o
  rw[y];exact s.mo
 ·show ∃ r,a.n=r*2 ^ x.o
  rw[b];exact s.dv
 ·show a.n*4096<=x.n
  rw[b];exact s.nb
 ·show a.n<=1024
  rw[b];exact s.n1
 ·intro g p k hb;show k<=x.o/\p%2 ^ k=0/\p+2 ^ k<=a.n
  rw[b];exact s.al g p k hb
 ·intro i hi;have hi:i<a.n:=hi;rw[b] at hi;exact s.cv i hi
 ·intro g p k hb A i u j;show a.pg i=(fK d a i).getD _
  cases e:d.c i with
  | some F=>rw[jS e];rfl
  | none=>
   rw[iW e,Option.getD_none,z i e]
   cases e2:S.c i with
   | none=>
    rw[ae rfl];have:=s.pg g p k hb A i u j;rw[v,iW e2,Option.getD_none] at this;exact this
   | some F=>
    rw[ac (by rintro ⟨⟩)];have I:=(s.vs i (t.m.pg i) (by rw[v];exact jS e2)).1;rcases s.ds _ _ _ _ _ _ I hb with ⟨l,J,C⟩|l|l
    ·rw[ae J,<-l,<-C];rfl
    ·omega
    ·omega
 ·intro k f;show(a.wd k).length=(a.n/2 ^ (k+1)+63)/64
  rw[hw,b];exact s.wl k f
 ·intro k f i hi;have hi:i<a.n/2 ^ (k+1):=hi;rw[b] at hi;show aE (a.wd k) i=_
  rw[hw];exact s.bt k f i hi
 ·intro p q h;have h:fK d a p=some q:=h;obtain⟨⟨k,f⟩,hq⟩:=WM h;obtain⟨D,G⟩:=w p k f;exact⟨(hL p 0).2 G,by rw[<-hq];exact D⟩
theorem BdAt.reP{W x t}(h:BdAt W x t)(P:Nat->Option Pg):BdAt W { x with P:=P } t:=⟨h.sp,h.mp,h.ls,h.bs,h.lr,h.mo,h.iL,h.hR⟩
theorem Pol.reP{w W lw x t}(h:Pol w W lw x t)(P:Nat->Option Pg):Pol w W lw { x with P:=P } t:=⟨h.box,h.bd.reP P,h.nw,h.kp⟩
theorem SW.reP{w W sb lw x t h}(s:SW w W sb lw x t h)(P:Nat->Option Pg):SW w W sb lw { x with P:=P } t h:=⟨s.pl.reP P,s.bx,s.nw,s.tb⟩
structure SO(w W:World)(sb lw:Nat)(x:Bx)(t:Bt)(fr:Nat->List Nat)(ls:List (Nat×Nat))(S:Sb)(h:Nat->Int):Prop where
 sw:SW w W sb lw x t h
 sf:Sf x t fr ls
 st:t.m.n*4096=x.n
 bm:x.bS%4096=0
 si:SI x t S
 hd:∀ k,k<8->h k=bC (S.pl k)
theorem SO.po{w W sb lw x t fr ls S h}(o:SO w W sb lw x t fr ls S h):PO w W lw x t fr ls:=⟨o.sw.pl,o.sf,o.st,o.bm⟩
theorem SO.keep{w W W' sb lw x t fr ls S h}(o:SO w W sb lw x t fr ls S h)(k:Kt nO W W'):SO w W' sb lw x t fr ls S h:=⟨o.sw.keep k,o.sf,o.st,o.bm,o.si,o.hd⟩
theorem SO.mem{w W sb lw x t fr ls S h}(o:SO w W sb lw x t fr ls S h){p k:Nat}(hp:S.c p=some k):(p,0)∈ls/\p<t.m.n/\p<1024/\x.bS+4096*p+4096<=x.bS+x.n:=by have a:=o.sf.pslab (p:=p) (q:=t.m.pg p) (by rw[o.si.eP];exact jS hp);have e:=o.po.nums.2.1;have b:=o.st;refine⟨a.1,a.2.2.1,by omega,?_⟩;have d:(p+1)*4096<=t.m.n*4096:=ak _ a.2.2.1;omega
theorem fV{x:Bx}{p k i:Nat}(c:k<8)(hi:i<aF k)(hb:x.bS+4096*p+4096<=9223372036854775808):aJ x (aK x p k i)=4096*p+i*aB k/\i*aB k+aB k<=4096/\aK x p k i<18446744073709551616:=by have b:=cW c;have a:(i+1)*aB k<=aF k*aB k:=ak _ hi;rw[av,aL,b.1] at a;have d:aK x p k i=x.bS+4096*p+i*aB k:=rfl;refine⟨?_,a,by omega⟩;unfold aJ;omega
theorem sO{x:Bx}{t:Bt}{p k i:Nat}(f:k<8)(hi:i<aF k)(hb:x.bS+4096*p+4096<=9223372036854775808)(hp:p<t.m.n)(c:(t.m.pg p).kd=4)(a:(t.m.pg p).cl=(k:Int)):
  jL x t (aK x p k i)=true/\aJ x (aK x p k i)/4096=p/\dT x t (aK x p k i)=t.m.pg p/\gK x t (aK x p k i)=i:=by
 obtain⟨e,j,l⟩:=fV (x:=x) (p:=p) f hi hb;have hz:=cN f;have d:aJ x (aK x p k i)/4096=p:=by rw[e];omega
 have g:aJ x (aK x p k i)%4096=i*aB k:=by rw[e];omega
 have b:dT x t (aK x p k i)=t.m.pg p:=by unfold dT cM;rw[d,ae (dQ hp),aa]
 have h:(t.m.pg p).cl.toNat=k:=by rw[a];rfl
 refine⟨?_,d,b,?_⟩
 ·unfold jL;rw[b,h,g,af c,af (Nat.mul_mod_left _ _)];rfl
 ·unfold gK;rw[b,h,g,dg _ (by omega)]
theorem lV(n:Nat):cV n (-1)=true:=by unfold cV;rfl
theorem oT{n r:Nat}(h:r<n):cV n (r:Int)=true:=by unfold cV;rw[dQ h,Bool.or_true]
theorem qO{m:Mp}{p:Nat}{a b:Int}(hp:p<m.n)(c:(m.pg p).kd=4)(ha:cV m.n a=true)(hb:cV m.n b=true):eB m (p:Int) a b={ m with pg:=aG m.pg p { m.pg p with nx:=a,pv:=b } }:=by unfold eB kQ;rw[aa,dQ hp,af c,ha,hb];rfl
theorem zhT(m:Mp)(a b:Int):eB m (-1) a b=m:=by unfold eB kQ;rw[show aD m.n (-1)=false from ah (by omega)];rfl
theorem pT{m:Mp}{p:Nat}(hp:p<m.n):cM m (p:Int)=m.pg p:=by unfold cM;rw[ae (dQ hp),aa]
theorem LU{m:Mp}{r:Nat}{v:Int}(a:r<m.n)(b:(m.pg r).kd=4)(c:cV m.n (m.pg r).nx=true)(d:cV m.n v=true):iY m (r:Int) v={ m with pg:=aG m.pg r { m.pg r with pv:=v } }:=by unfold iY;rw[pT a,qO a b c d]
theorem LT(m:Mp)(v:Int):iY m (-1) v=m:=zhT _ _ _
theorem zfG{m:Mp}{r:Nat}{v:Int}(a:r<m.n)(b:(m.pg r).kd=4)(c:cV m.n (m.pg r).pv=true)(d:cV m.n v=true):pA m (r:Int) v={ m with pg:=aG m.pg r { m.pg r with nx:=v } }:=by unfold pA;rw[pT a,qO a b d c]
def cI(pg:Nat->Pg)(l:List Nat)(p:Nat):Nat->Pg:=fun r=>if r=p then { pg p with nx:=bC l,pv := -1 } else if (r:Int)=bC l then { pg r with pv:=(p:Int) } else pg r
theorem BZ{m:Mp}{h:Nat->Int}{p c:Nat}{l:List Nat}(hp:p<m.n)(o:(m.pg p).kd=4)(t:h c=bC l)(hl:∀ r∈l,r<m.n/\(m.pg r).kd=4/\cV m.n (m.pg r).nx=true)(i:p ∉ l):eC m h (p:Int) c={ m with pg:=cI m.pg l p }:=by
 unfold eC;rw[t]
 cases l with
 | nil=>
  show iY (eB m (p:Int) (-1) (-1)) (-1) (p:Int)=_
  rw[LT,qO hp o (lV _) (lV _)];refine congrArg (fun g=>({ m with pg:=g } : Mp)) (funext fun r=>?_);unfold aG cI;by_cases e:r=p
  ·rw[ae e,ae e];rfl
  ·rw[ac e,ac e,ac (by show ¬(r:Int) = -1;omega)]
 | cons b l=>
  obtain⟨k,q,s⟩:=hl b aw;have d:b≠p:=fun e=>i (by rw[e];exact aw)
  show iY (eB m (p:Int) (b:Int) (-1)) (b:Int) (p:Int)=_
  rw[qO hp o (oT k) (lV _)];have f:aG m.pg p { m.pg p with nx:=(b:Int),pv := -1 } b=m.pg b:=by unfold aG;rw[ac d]
  rw[LU (m:={ m with pg:=aG m.pg p { m.pg p with nx:=(b:Int),pv := -1 } }) k (by show(aG m.pg p _ b).kd=4;rw[f];exact q) (by show cV m.n (aG m.pg p _ b).nx=true;rw[f];exact s) (oT hp)];show({ m with pg:=aG (aG m.pg p { m.pg p with nx:=(b:Int),pv := -1 }) b { aG m.pg p { m.pg p with nx:=(b:Int),pv := -1 } b with pv:=(p:Int) } } : Mp)=_
  rw[f];refine congrArg (fun g=>({ m with pg:=g } : Mp)) (funext fun r=>?_);unfold aG cI;by_cases e:r=p
  ·rw[ac (show ¬r=b from fun a=>d (a.symm.trans e)),ae e,ae e];rfl
  ·rw[ac e];by_cases a:r=b
   ·rw[ae a,ac e,ae (by rw[a];rfl),a]
   ·rw[ac a,ac e,ac];intro j;have j:(r:Int)=b:=j;omega
def dK(pg:Nat->Pg)(l:List Nat)(p:Nat):Nat->Pg:=fun r=>if r=p then { pg p with nx := -1,pv := -1 } else { pg r with nx:=if (r:Int)=bH l p then bE l p else (pg r).nx,pv:=if (r:Int)=bE l p then bH l p else (pg r).pv }
theorem BX{m:Mp}{h:Nat->Int}{p c:Nat}{l:List Nat}(hd:l.Nodup)(hp:p∈l)(hl:∀ r∈l,r<m.n/\(m.pg r).kd=4/\(m.pg r).nx=bE l r/\(m.pg r).pv=bH l r):gU m (p:Int)={ m with pg:=dK m.pg l p }/\gV m h (p:Int) c=if bH l p = -1 then cP h c (bE l p) else h:=by
 obtain⟨w,D,B,A⟩:=hl p hp;have lk:∀ r∈l,cV m.n (bE l r)=true/\cV m.n (bH l r)=true:=fun r E=>by
  constructor
  ·rcases mA l r hd with e|⟨b,e,hb,_⟩
   ·rw[e];exact lV _
   ·rw[e];exact oT (hl b hb).1
  ·rcases nQ l r hd with e|⟨b,e,hb,_⟩
   ·rw[e];exact lV _
   ·rw[e];exact oT (hl b hb).1
 refine⟨?_,by unfold gV;rw[pT w,B,A]⟩;unfold gU;rw[pT w,B,A]
 obtain⟨d,y,a,i⟩:∃ d:Mp,iY m (bE l p) (bH l p)=d/\(d.n=m.n/\d={ m with pg:=d.pg })/\∀ r,d.pg r=if (r:Int)=bE l p then { m.pg r with pv:=bH l p } else m.pg r:=by
  rcases mA l p hd with e|⟨b,e,hb,u⟩
  ·refine⟨m,by rw[e,LT],⟨rfl,rfl⟩,fun r=>?_⟩;rw[e,ac (by omega)]
  ·obtain⟨b1,b2,b3,z⟩:=hl b hb;refine⟨{ m with pg:=aG m.pg b { m.pg b with pv:=bH l p } },by rw[e];exact LU b1 b2 (by rw[b3];exact(lk b hb).1) (lk p hp).2,⟨rfl,rfl⟩,fun r=>?_⟩;show aG m.pg b _ r=_
   unfold aG;rw[e];by_cases f:r=b
   ·rw[ae f,ae (by rw[f]),f]
   ·rw[ac f,ac (by omega)]
 rw[y]
 obtain⟨k,v,j,o⟩:∃ k:Mp,(if bH l p = -1 then d else pA d (bH l p) (bE l p))=k/\(k.n=m.n/\k={ m with pg:=k.pg })/\∀ r,k.pg r=if (r:Int)=bH l p then { d.pg r with nx:=bE l p } else d.pg r:=by
  rcases nQ l p hd with e|⟨b,e,hb,u⟩
  ·refine⟨d,by rw[ae e],a,fun r=>?_⟩;rw[e,ac (by omega)]
  ·obtain⟨b1,b2,b3,z⟩:=hl b hb;have x:(d.pg b).kd=4:=by
    rw[i];split
    ·exact b2
    ·exact b2
   have t:cV d.n (d.pg b).pv=true:=by
    rw[i,a.1];split
    ·exact(lk p hp).2
    ·rw[z];exact(lk b hb).2
   refine⟨{ d with pg:=aG d.pg b { d.pg b with nx:=bE l p } },by rw[ac (by rw[e];omega),e];exact zfG (by rw[a.1];exact b1) x t (by rw[a.1];exact(lk p hp).1),⟨a.1,?_⟩,fun r=>?_⟩
   ·show({ d with pg:=_ } : Mp)={ m with pg:=_ }
    rw[a.2]
   ·show aG d.pg b _ r=_
    unfold aG;rw[e];by_cases f:r=b
    ·rw[ae f,ae (by rw[f]),f]
    ·rw[ac f,ac (by omega)]
 rw[v];have np:¬(p:Int)=bE l p:=fun e=>by
  rcases mA l p hd with h|⟨b,h,_,hb⟩
  ·omega
  ·exact hb (by omega)
 have C:¬(p:Int)=bH l p:=fun e=>by
  rcases nQ l p hd with h|⟨b,h,_,hb⟩
  ·omega
  ·exact hb (by omega)
 have q:k.pg p=m.pg p:=by rw[o,ac C,i,ac np]
 rw[qO (by rw[j.1];exact w) (by rw[q];exact D) (by exact lV _) (by exact lV _),q,j.2];show({ m with pg:=aG k.pg p { m.pg p with nx := -1,pv := -1 } } : Mp)=_
 refine congrArg (fun g=>({ m with pg:=g } : Mp)) (funext fun r=>?_);unfold aG dK;by_cases e:r=p
 ·rw[ae e,ae e]
 ·rw[ac e,ac e,o,i];by_cases s:(r:Int)=bH l p
  ·rw[ae s,ae s];by_cases f:(r:Int)=bE l p
   ·rw[ae f,ae f]
   ·rw[ac f,ac f]
  ·rw[ac s,ac s];by_cases f:(r:Int)=bE l p
   ·rw[ae f,ae f]
   ·rw[ac f,ac f]
def zH(q q':Pg):Prop:=∃ a b,q'={ q with nx:=a,pv:=b }
theorem FW(pg:Nat->Pg)(l:List Nat)(p r:Nat):zH (pg r) (cI pg l p r):=by
 unfold cI;by_cases e:r=p
 ·rw[ae e,e];exact⟨_,_,rfl⟩
 ·rw[ac e];split
  ·exact⟨(pg r).nx,_,rfl⟩
  ·exact⟨(pg r).nx,(pg r).pv,rfl⟩
theorem FV(pg:Nat->Pg)(l:List Nat)(p r:Nat):zH (pg r) (dK pg l p r):=by
 unfold dK;by_cases e:r=p
 ·rw[ae e,e];exact⟨_,_,rfl⟩
 ·rw[ac e];exact⟨_,_,rfl⟩
def NP(pg:Nat->Pg)(S:Sb)(k:Nat)(l:List Nat):Prop:=∀ r,S.c r=some k->(pg r).nx=bE l r/\(pg r).pv=bH l r
theorem BW{pg:Nat->Pg}{S:Sb}{k p:Nat}{l:List Nat}(h:NP pg S k l)(hd:l.Nodup)(hp:p ∉ l):NP (cI pg l p) S k (p :: l):=fun r d=>by
 obtain⟨b,f⟩:=h r d;unfold cI;by_cases e:r=p
 ·rw[ae e,e];exact⟨by show bC l=_;rw[bE,ae rfl],(qH (List.nodup_cons.2 ⟨hp,hd⟩)).symm⟩
 ·have n1:bE (p :: l) r=bE l r:=by rw[bE,ac (fun a=>e a.symm)]
  have g:bH (p :: l) r=if bC l=(r:Int) then (p:Int) else bH l r:=rfl;rw[ac e,n1,g];by_cases a:(r:Int)=bC l
  ·rw[ae a,ae a.symm];exact⟨b,rfl⟩
  ·rw[ac a,ac (fun c=>a c.symm)];exact⟨b,f⟩
theorem BU{pg:Nat->Pg}{S:Sb}{k p:Nat}{l:List Nat}(h:NP pg S k l)(hd:l.Nodup)(hp:p∈l):NP (dK pg l p) S k (M.dropL l p):=fun r c=>by
 obtain⟨b,d⟩:=h r c;unfold dK;by_cases e:r=p
 ·have a:p ∉ M.dropL l p:=by rw[jT];exact fun h=>h.2 rfl
  rw[ae e,e,sT a,oU a];exact⟨rfl,rfl⟩
 ·rw[ac e,YT hd hp e,YS hd hp e];exact⟨by show(if _ then _ else _)=_;rw[b],by show(if _ then _ else _)=_;rw[d]⟩
end Go.Proofs.YtfmgnljlkdmndaaGreatDoor
