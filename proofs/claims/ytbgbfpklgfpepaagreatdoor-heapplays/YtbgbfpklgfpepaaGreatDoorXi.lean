import Derived.Test.YtbgbfpklgfpepaaGreatDoorXh
import Derived.Laws.CopyRow
set_option maxRecDepth 1000000
set_option maxHeartbeats 80000000
namespace Go.Proofs.YtbgbfpklgfpepaaGreatDoor
open Tryz
open Go.RowKit
set_option linter.unusedVariables false
theorem yE{w:World}{s:Nat}{a:Option Nat}{bS R lim n:Nat}{f:Nat->Nat}(h:M.SpA w s a bS R lim n f)(hn : 0<n):∃ g,a=some g:=by
 obtain⟨cap,hb,hr⟩:=h.ex
 cases a with
 | none=>exact absurd hr.1 (by omega)
 | some g=>exact⟨g,rfl⟩
theorem zU{w W sb lw x t h}(s:SW w W sb lw x t h)(p:Nat)(hin:M.In x.bS x.n p 8):
  Calls prog 56 #[.pointer (some ⟨x.s,0,none⟩),.int .u64 p] W fun e w'=>e=.returned (.tuple #[.int .u64 ((M.word t.f (p-x.bS):Nat):Int),.int .i64 0])/\Kt nO W w':=by
 obtain⟨g,hg⟩:=yE s.pl.bd.sp (by unfold M.In at hin;omega);have hs:=s.pl.bd.sp;rw[hg] at hs;exact(M.Word_in x.s g x.bS x.R x.lim x.n t.f p W hs hin).mono fun e w' h=>⟨h.1,dR h.2⟩
theorem yB{w W sb lw x t h}(s:SW w W sb lw x t h)(p v:Nat)(hv:v<18446744073709551616)(hin:M.In x.bS x.n p 8):
  Calls prog 54 #[.pointer (some ⟨x.s,0,none⟩),.int .u64 p,.int .u64 v] W fun e w'=>e=.returned (.int .i64 0)/\SW w w' sb lw x { t with f:=M.upd t.f (p-x.bS) 8 (M.byteOf v) } h/\Kt (aE x) W w':=by
 obtain⟨g,hg⟩:=yE s.pl.bd.sp (by unfold M.In at hin;omega);have hs:=s.pl.bd.sp;rw[hg] at hs;refine(M.SetWord_in x.s g x.bS x.R x.lim x.n t.f p v hv W hs hin).mono ?_;rintro e w' ⟨rfl,h1,h2⟩;rw[<-hg] at h1 h2;have kb:Kt (aE x) W w':=(dR h2).mono (fun _ _ e=>.inl e);refine⟨rfl,s.call ?_ kb,kb⟩;exact s.pl.bd.space (dR h2) h1
theorem zjB{w W sb lw x t h}(s:SW w W sb lw x t h)(p:Nat)(g:Int)(hin:M.In x.bS x.n p 8)(hv:M.word t.f (p-x.bS)=0):
  Calls prog 194 #[.pointer (some ⟨sb,0,none⟩),.int .u64 p,.int .i64 g] W fun e w'=>e=.returned (.tuple #[.int .i64 (-1),.bool true])/\Kt nO W w':=by
 have WD:=aA (zU s p hin);rw[hv] at WD;have SP:=aA (gX s.pl);obtain⟨c0,c1⟩:=s.c0;clear s hv hin;go_enter func194,ntmps194;go_wp2_with fail;refine SP.out.mono ?_;rintro e w1 ⟨rfl,h1⟩;replace h1:=h1.symm;subst h1;go_wp2_with fail;refine WD.out.mono ?_;rintro e w2 ⟨rfl,hk⟩;have K2:=aA hk;clear hk c0 c1;go_wp2_with fail;exact⟨rfl,.tuple #[.int .i64 (-1),.bool true],by simp[results,results194,go_sem],rfl,K2.out⟩
theorem zjC{w W sb lw x t h}(s:SW w W sb lw x t h)(p g v:Nat)(hin:M.In x.bS x.n p 8)(hv:M.word t.f (p-x.bS)=v)(hv0:v≠0)(hv64:v<18446744073709551616)(hB:kM x t v=true)(hg:aP x v/4096=g):
  Calls prog 194 #[.pointer (some ⟨sb,0,none⟩),.int .u64 p,.int .i64 g] W fun e w'=>e=.returned (.tuple #[.int .i64 ((iH x t v:Nat):Int),.bool true])/\Kt nO W w':=by
 have WD:=aA (zU s p hin);rw[hv] at WD;have SP:=aA (gX s.pl);have AT:=aA (show ∀ W',Kt nO W W'->Calls prog 170 #[.pointer (some ⟨sb,0,none⟩),.int .u64 v] W' fun e w'=>e=.returned (.tuple #[lO (g:Int) ((iH x t v:Nat):Int) (eB x t v),.bool true])/\Kt nO W' w' from fun W' k=>by
  rw[<-hg];exact zT (s.keep k) v hv64 hB)
 obtain⟨c0,c1⟩:=s.c0;have hvb:((v:Int) == 0)=false:=by rw[beq_eq_false_iff_ne];omega
 generalize iH x t v=n at *;generalize eB x t v=q at *;clear s hv hin hv0 hB hg;go_enter func194,ntmps194;go_wp2_with fail;refine SP.out.mono ?_;rintro e w1 ⟨rfl,h1⟩;replace h1:=h1.symm;subst h1;go_wp2_with fail;refine WD.out.mono ?_;rintro e w2 ⟨rfl,hk⟩;have K2:=aA hk;clear hk c0 c1;go_wp2_with fail;refine(AT.out _ K2.out).mono ?_;rintro e w3 ⟨rfl,hk⟩;have K3:=aA (nT K2.out (hk.alloc (eA (g:Int) (n:Int) q)));have X3:=aA (nH w3 (eA (g:Int) (n:Int) q));clear hk;go_upto_region 5 with fail;generalize w3.heap.size=u at *;generalize w3.alloc (eA (g:Int) (n:Int) q)=W3 at *;obtain⟨a0,a1,_⟩:=cZ X3.out;have hgg:((g:Int) == (g:Int))=true:=by simp
 go_quiet (fail)
 have K4:=aA (K3.out.drewN 1);go_wp2_with fail;exact⟨rfl,.tuple #[.int .i64 n,.bool true],by simp[results,results194,go_sem],rfl,K3.out.drewN _⟩
def fX(x:Bx)(t:Bt)(p:Nat):Bool:=kM x t p && aN (eB x t p) (iH x t p)
theorem EC{w W sb lw x t h}(s:SW w W sb lw x t h)(p:Nat)(hp:p<18446744073709551616)(hl:fX x t p=true):
  Calls prog 111 #[.pointer (some ⟨sb,0,none⟩),.int .u64 p] W fun e w'=>e=.returned (.int .u64 ((aC (eB x t p).cl.toNat:Nat):Int))/\Kt nO W w':=by
 unfold fX at hl;rw[Bool.and_eq_true] at hl;have LV:=aA (xD s p hp hl.1);rw[hl.2] at LV;have ok:PgOk (eB x t p):=tK s.pl.bd.mp _;have HT:=aA s.tab;generalize aP x p/4096=g at *;generalize iH x t p=n at *;generalize eB x t p=q at *;obtain⟨c,hc⟩:=Int.eq_ofNat_of_zero_le ok.c0;have hc8:c<8:=by have:=ok.c7;omega
 have hci:(c:Int)<8:=by omega
 rw[show q.cl.toNat=c by rw[hc];rfl];have HC:=aA hc;obtain⟨z,hz⟩:=xe (aC c);rw[<-hz];have TB:=aA (show ∀ W',Kt nO W W'->W'.cell? ⟨0,c,none⟩=some (.int .u64 z)from fun W' k=>by rw[hz];exact k.cell id (HT.out c hc8));clear s hl hc hz ok;go_enter func111,ntmps111;go_wp2_with fail;refine LV.out.mono ?_;rintro e w1 ⟨rfl,hk⟩;have K1:=aA (hk.alloc (eA (g:Int) (n:Int) q));have X1:=aA (nH w1 (eA (g:Int) (n:Int) q));have ct:=TB.out _ K1.out;clear hk;go_upto_region 2 with fail;generalize w1.heap.size=u at *;generalize w1.alloc (eA (g:Int) (n:Int) q)=W1 at *;obtain⟨_,_,_,_,a4,_⟩:=cZ X1.out;rw[HC.out] at a4;go_wp2_with fail;go_ret;exact⟨rfl,K1.out⟩
theorem DA{w W sb lw x t h}(s:SW w W sb lw x t h)(p:Nat)(hp:p<18446744073709551616)(hl:fX x t p=false):
  Calls prog 111 #[.pointer (some ⟨sb,0,none⟩),.int .u64 p] W fun e w'=>e=.returned (.int .u64 0)/\Kt nO W w':=by
 have LV:=aA (show ∃ g n q,Calls prog 127 #[.pointer (some ⟨sb,0,none⟩),.int .u64 p] W fun e w'=>e=.returned (.tuple #[lO g n q,.bool false])/\Kt nO W w' from by
  cases hB:kM x t p with
  | false=>exact⟨_,_,_,TW s p hp hB⟩
  | true=>
   have:=xD s p hp hB;unfold fX at hl;rw[hB,Bool.true_and] at hl;rw[hl] at this;exact⟨_,_,_,this⟩)
 obtain⟨g,n,q,LX⟩:=LV.out;have LY:=aA LX;clear s hl LX LV;go_enter func111,ntmps111;go_wp2_with fail;refine LY.out.mono ?_;rintro e w1 ⟨rfl,hk⟩;have K1:=aA (hk.alloc (eA g n q));clear hk;go_wp2_with fail;go_ret;exact⟨rfl,K1.out⟩
theorem IA(c:Nat)(hc:c<8) : 256/2 ^ c*aC c=4096/\2<=256/2 ^ c/\256/2 ^ c<=256:=by
 revert c
 unfold aC;decide
def lP(f:Nat->Nat)(P off z:Nat):Nat->(Nat->Nat)
 | 0=>f
 | k+1=>M.upd (lP f P off z k) (off+k*z) 8 (M.byteOf (P+(k+1)*z))
def kK(f:Nat->Nat)(P off z N:Nat):Nat->Nat:=M.upd (lP f P off z (N-1)) (off+(N-1)*z) 8 (M.byteOf 0)
theorem TD{w W sb lw x t h}(s:SW w W sb lw x t h)(g c:Nat)(hc:c<8)(hg : 4096*g+4096<=x.n):
  Calls prog 193 #[.pointer (some ⟨sb,0,none⟩),.int .u64 ((ad x g:Nat):Int),.int .i64 c] W fun e w'=>e=.returned (.tuple #[])/\SW w w' sb lw x { t with f:=kK t.f (ad x g) (4096*g) (aC c) (256/2 ^ c) } h/\Kt (aE x) W w':=by
 have hbe:=s.pl.bd.sp.cfg.be;have hnl:=s.pl.bd.sp.nle;obtain⟨P,hP⟩:=xe (ad x g);obtain⟨z,hz⟩:=xe (aC c);obtain⟨N,hN⟩:=xe (256/2 ^ c);have hzb:=bU hc;have hNz:N*z=4096/\2<=N/\N<=256:=by
  rw[hN,hz];exact IA c hc
 rw[<-hz] at hzb;rw[<-hP,<-hz,<-hN];have hPb:P=x.bS+4096*g:=by rw[hP];rfl
 have hci:(c:Int)<8:=by omega
 have hP64:P+4096<=9223372036854775808:=by omega
 obtain⟨M1,hM1⟩:∃ M1,N=M1+1:=⟨N-1,by omega⟩;obtain⟨La,hLa⟩:=xe (P+M1*z);have hMz:M1*z+z=4096:=by
  have:=hNz.1;rw[hM1,Nat.add_mul,Nat.one_mul] at this;exact this
 obtain⟨P4,hP4⟩:=xe (P+4096);have hLi0:(P:Int)+4096=(P4:Int):=by omega
 have hLi:(P4:Int)-(z:Int)=La:=by omega
 have hP4b:P4<=9223372036854775808:=by omega
 have hLab:La<9223372036854775808:=by omega
 have HT:=aA s.tab;have TB:=aA (show ∀ W',SW w W' sb lw x t h->True from fun _ _=>trivial);have HH:=aA (show ∀ f W',SW w W' sb lw x { t with f:=f } h->W'.cell? ⟨0,c,none⟩=some (.int .u64 z)from fun f W' k=>by rw[hz];exact k.tab c hc);have ct:=HH.out t.f W s;have HP:=aA hPb;have HLA:=aA hLa;have HMZ:=aA hMz;have HGN:=aA hg;have I0:=aA (show SW w W sb lw x { t with f:=lP t.f P (4096*g) z 0 } h/\Kt (aE x) W W from⟨s,Kt.refl _ _⟩);rw[show kK t.f P (4096*g) z N=M.upd (lP t.f P (4096*g) z M1) (4096*g+M1*z) 8 (M.byteOf 0)by unfold kK;rw[hM1,Nat.add_sub_cancel]];clear s hP hz hN hPb hLa hMz hg hNz hM1 hP4;go_enter func193,ntmps193;go_wp2_with fail;go_loopw [1] (fun sp W'=>∃ k pk:Nat,k<=M1/\pk=P+k*z/\sp=.int .u64 pk/\Hid (SW w W' sb lw x { t with f:=lP t.f P (4096*g) z k } h/\Kt (aE x) W W')) (fun sp _=>La-(intOf sp).toNat)
 case atStart=>exact⟨0,P,Nat.zero_le _,by rw[Nat.zero_mul,Nat.add_zero],rfl,I0⟩
 case round=>
  clear I0 ct;obtain⟨k,pk,hk,hpk,rfl,HI⟩:=hrel;have SI:=aA HI.out.1;have KI:=aA HI.out.2;clear HI;have ct:=HH.out _ wr SI.out;obtain⟨c0,c1⟩:=SI.out.c0;have hkz:k*z<=M1*z:=Nat.mul_le_mul_right _ hk;have hpl:pk<=La:=by rw[hpk,HLA.out];omega
  by_cases hlt:k<M1
  ·have hkz1:(k+1)*z<=M1*z:=Nat.mul_le_mul_right _ hlt;rw[Nat.add_mul,Nat.one_mul] at hkz1;have hpi:(pk:Int)<La:=by
    have:=HLA.out;omega
   obtain⟨pn,hpn⟩:=xe (pk+z);have hpni:(pk:Int)+(z:Int)=pn:=(by omega);have hpnb:pn<=La:=(by have:=HLA.out;omega);have hwn:IntKind.u64.wrap (pn:Int)=pn:=(by rw[wrap_u64];omega);have SWD:=aA (show ∀ W',Kt nO wr W'->Calls prog 54 #[.pointer (some ⟨x.s,0,none⟩),.int .u64 pk,.int .u64 pn] W' fun e w'=>e=.returned (.int .i64 0)/\SW w w' sb lw x { t with f:=lP t.f P (4096*g) z (k+1) } h/\Kt (aE x) wr w' from fun W' kk=>by
    have hin:M.In x.bS x.n pk 8:=by
     unfold M.In;have:=HP.out;have:=HGN.out;have:=HMZ.out;omega
    refine(yB (SI.out.keep kk) pk pn (by omega) hin).mono ?_;rintro e w' ⟨rfl,h1,h2⟩;refine⟨rfl,?_,kk.trans h2 (fun _ _ e=>e.elim) (fun _ _ e=>e)⟩;rw[show pk-x.bS=4096*g+k*z by have:=HP.out;omega,show pn=P+(k+1)*z by rw[Nat.add_mul,Nat.one_mul];omega] at h1;exact h1)
   have hpe:=aA (show pn=P+(k+1)*z from by rw[Nat.add_mul,Nat.one_mul];omega);clear hpn hpk hkz hkz1;go_upto_region 3 with fail;have KD:=aA ((Kt.refl nO wr).drew);have SP:=aA (gX (SI.out.keep KD.out).pl);obtain⟨d0,d1⟩:=(SI.out.keep KD.out).c0;have dt:=HH.out _ _ (SI.out.keep KD.out);go_region_held3 (fun w'=>w'.cell? ⟨sb,0,none⟩=some (.pointer (some ⟨lw,0,none⟩))/\w'.cell? ⟨0,c,none⟩=some (.int .u64 z)) ((refine⟨?_,?_⟩ <;> first|with_reducible assumption|fail)) (first
    | (go_at_call 54;(with_reducible refine(SWD.out _ KD.out).mono ?_);rintro e w5 ⟨rfl,hs5,hk5⟩;obtain⟨f0,f1⟩:=hs5.c0;have f2:=HH.out _ _ hs5;have S5:=aA hs5;have K5:=aA (KI.out.trans hk5 (fun _ _ e=>e) (fun _ _ e=>e));clear hs5 hk5)
    | (go_at_call 53;(with_reducible refine SP.out.mono ?_);rintro e w3 ⟨rfl,h3⟩;replace h3:=h3.symm;subst h3)
    | fail)
   all_goals
    clear ct c0 c1 d0 d1 dt SP SWD;go_wp2_with fail;go_round
    case rel=>exact⟨k+1,pn,hlt,hpe.out,rfl,aA ⟨S5.out,K5.out⟩⟩
    case measure=>simp[intOf];omega
  ·have hke:k=M1:=(by omega);subst hke;have hpe:pk=La:=(by rw[hpk,HLA.out]);subst hpe;have hpi:¬(pk:Int)<pk:=(by omega);have SP:=aA (gX SI.out.pl);have SWD:=aA (show Calls prog 54 #[.pointer (some ⟨x.s,0,none⟩),.int .u64 pk,.int .u64 0] wr fun e w'=>e=.returned (.int .i64 0)/\SW w w' sb lw x { t with f:=M.upd (lP t.f P (4096*g) z k) (4096*g+k*z) 8 (M.byteOf 0) } h/\Kt (aE x) wr w' from by
    have hin:M.In x.bS x.n pk 8:=by
     unfold M.In;have:=HP.out;have:=HGN.out;have:=HMZ.out;omega
    refine(yB SI.out pk 0 (by omega) hin).mono ?_;rintro e w' ⟨rfl,h1,h2⟩;refine⟨rfl,?_,h2⟩;rw[show pk-x.bS=4096*g+k*z by have:=HP.out;omega] at h1;exact h1)
   clear hpk hkz;go_wp2_with fail;refine SP.out.mono ?_;rintro e w3 ⟨rfl,h3⟩;replace h3:=h3.symm;subst h3;go_wp2_with fail;refine SWD.out.mono ?_;rintro e w5 ⟨rfl,hs5,hk5⟩;have D:=aA (And.intro hs5 (KI.out.trans hk5 (fun _ _ e=>e) (fun _ _ e=>e)));clear hs5 hk5 ct c0 c1;go_wp2_with fail;exact⟨rfl,.tuple #[],by simp[results,results193,go_sem],rfl,D.out⟩
def nX(x:Bx)(g c:Nat)(fs:Int):Nat:=if fs = -1 then 0 else aO x g c fs.toNat
theorem PS{w W sb lw x t h}(s:SW w W sb lw x t h)(g n c p:Nat)(q:Pg)(hg:g<=1024)(hc:c<8)(hcl:q.cl=(c:Int))(hfs:q.fs = -1\/∃ j:Nat,j<=256/\q.fs=(j:Int))(hp:p<18446744073709551616)(hin:M.In x.bS x.n p 8):
  Calls prog 132 #[.pointer (some ⟨sb,0,none⟩),lO (g:Int) (n:Int) q,.int .u64 p] W fun e w'=>e=.returned (.tuple #[])/\SW w w' sb lw x ⟨M.upd t.f (p-x.bS) 8 (M.byteOf (nX x g c q.fs)),gR t.m (g:Int) (n:Int),t.hd⟩ h/\Kt (aE x) W w':=by
 have hbe:=s.pl.bd.sp.cfg.be;have hnl:=s.pl.bd.sp.nle;have hv64:nX x g c q.fs<18446744073709551616:=by
  unfold nX;split
  ·omega
  ·rcases hfs with e|⟨j,hj,e⟩
   ·contradiction
   ·rw[e,Int.toNat_natCast];unfold aO;have h1:=bU hc;have h2:=Nat.mul_le_mul hj h1.2;omega
 have K0:=aA ((Kt.refl nO W).alloc (eA (g:Int) (n:Int) q));have X0:=aA (nH W (eA (g:Int) (n:Int) q));have S0:=aA (s.keep K0.out);have NY:=aA (show ¬aE x W.heap.size from fun e=>absurd (s.pl.lt _ (.inl e)) (Nat.lt_irrefl _));obtain⟨v,hv⟩:=xe (nX x g c q.fs);rw[<-hv] at hv64 ⊢;have HV:=aA hv;have HC:=aA hcl;have HF:=aA hfs;clear s hv hcl hfs hbe hnl;go_enter func132,ntmps132;go_upto_region 1 with fail;generalize W.heap.size=y at *;generalize W.alloc (eA (g:Int) (n:Int) q)=W0 at *;have REST:=aA (show ∀ W',Kt nO W0 W'->(Calls prog 54 #[.pointer (some ⟨x.s,0,none⟩),.int .u64 p,.int .u64 v] W' fun e w'=>e=.returned (.int .i64 0)/\SW w w' sb lw x { t with f:=M.upd t.f (p-x.bS) 8 (M.byteOf v) } h/\Kt (aE x) W' w')from fun W' k=>yB (S0.out.keep k) p v hv64 hin);obtain⟨a0,a1,a2,a3,a4,a5,a6,a7,a8,_⟩:=cZ X0.out;obtain⟨c0,c1⟩:=S0.out.c0;by_cases hf:q.fs = -1
 ·have hb:(q.fs != -1)=false:=by rw[hf];rfl
  have hv0:v=0:=by rw[HV.out];unfold nX;rw[if_pos hf]
  subst hv0;have SP:=aA (gX S0.out.pl);have SWD:=aA (REST.out W0 (Kt.refl nO W0));as_aux_lemma=>
   go_wp2_with fail;refine SP.out.mono ?_;rintro e w3 ⟨rfl,h3⟩;replace h3:=h3.symm;subst h3;go_wp2_with fail;refine SWD.out.mono ?_;rintro e w4 ⟨rfl,hs4,hk4⟩;have S4:=aA hs4;have K4:=aA (K0.out.trans hk4 (fun _ _ e=>e.elim) (fun _ _ e=>e));have X4:=aA ((hk4.block _ (lH X0.out) NY.out).trans X0.out);clear hs4 hk4 a0 a1 a2 a3 a4 a5 a6 a7 a8 c0 c1;go_upto_region 5 with fail;have KD:=aA ((Kt.refl nO w4).drew);have S5:=aA (S4.out.keep KD.out);have X5:=aA ((KD.out.block _ (lH X4.out) id).trans X4.out);obtain⟨d0,d1,_⟩:=cZ X5.out;obtain⟨c0,c1⟩:=S5.out.c0;have MP:=aA (bT S5.out.pl);have FR:=aA (tS S5.out (g:Int) (n:Int));go_region_held3 (fun w'=>w'.cell? ⟨sb,0,none⟩=some (.pointer (some ⟨lw,0,none⟩))/\w'.cell? ⟨y,0,none⟩=some (.int .i64 g)/\w'.cell? ⟨y,1,none⟩=some (.int .i64 n)) ((refine⟨?_,?_,?_⟩ <;> first|with_reducible assumption|fail)) (first
    | (go_at_call 179;(with_reducible refine FR.out.mono ?_);rintro e w6 ⟨rfl,hs6,hk6⟩;obtain⟨f0,f1⟩:=hs6.c0;have f2:=hk6.cell NY.out d0;have f3:=hk6.cell NY.out d1;have D6:=aA (And.intro hs6 ((K4.out.trans KD.out (fun _ _ e=>e) (fun _ _ e=>e.elim)).trans hk6 (fun _ _ e=>e) (fun _ _ e=>e)));clear hs6 hk6)
    | (go_at_call 40;(with_reducible refine MP.out.mono ?_);rintro e w5 ⟨rfl,h5⟩;replace h5:=h5.symm;subst h5)
    | fail)
   all_goals
    go_wp2_with fail;exact⟨rfl,.tuple #[],by simp[results,results132,go_sem],rfl,D6.out⟩
 ·obtain⟨j,hj,hfj⟩:∃ j:Nat,j<=256/\q.fs=(j:Int):=by
   rcases HF.out with e|e
   ·exact absurd e hf
   ·exact e
  have hb:(q.fs != -1)=true:=bne_iff_ne.2 hf;have AD:=aA (xV S0.out g c j hg hc hj);have hvj:v=aO x g c j:=by rw[HV.out];unfold nX;rw[if_neg hf,hfj];rfl
  rw[<-hvj] at AD;rw[HC.out] at a4;have AQ:=aA hfj;rw[AQ.out] at a8;have hb2:((j:Int) != -1)=true:=bne_iff_ne.2 (by omega);clear hfj hvj hf hb;as_aux_lemma=>
   go_wp2_with fail;refine AD.out.mono ?_;rintro e w1 ⟨rfl,hk1⟩;have S1:=aA (S0.out.keep hk1);have X1:=aA ((hk1.block _ (lH X0.out) id).trans X0.out);have K1:=aA (nT K0.out hk1);have SP:=aA (gX S1.out.pl);have SWD:=aA (REST.out w1 hk1);clear hk1 c0 c1 a0 a1 a2 a3 a4 a5 a6 a7 a8;obtain⟨a0,a1,a2,a3,a4,a5,a6,a7,a8,_⟩:=cZ X1.out;obtain⟨c0,c1⟩:=S1.out.c0;go_wp2_with fail;refine SP.out.mono ?_;rintro e w3 ⟨rfl,h3⟩;replace h3:=h3.symm;subst h3;go_wp2_with fail;refine SWD.out.mono ?_;rintro e w4 ⟨rfl,hs4,hk4⟩;have S4:=aA hs4;have K4:=aA (K1.out.trans hk4 (fun _ _ e=>e.elim) (fun _ _ e=>e));have X4:=aA ((hk4.block _ (lH X1.out) NY.out).trans X1.out);clear hs4 hk4 a0 a1 a2 a3 a4 a5 a6 a7 a8 c0 c1;go_upto_region 5 with fail;have KD:=aA ((Kt.refl nO w4).drew);have S5:=aA (S4.out.keep KD.out);have X5:=aA ((KD.out.block _ (lH X4.out) id).trans X4.out);obtain⟨d0,d1,_⟩:=cZ X5.out;obtain⟨c0,c1⟩:=S5.out.c0;have MP:=aA (bT S5.out.pl);have FR:=aA (tS S5.out (g:Int) (n:Int));go_region_held3 (fun w'=>w'.cell? ⟨sb,0,none⟩=some (.pointer (some ⟨lw,0,none⟩))/\w'.cell? ⟨y,0,none⟩=some (.int .i64 g)/\w'.cell? ⟨y,1,none⟩=some (.int .i64 n)) ((refine⟨?_,?_,?_⟩ <;> first|with_reducible assumption|fail)) (first
    | (go_at_call 179;(with_reducible refine FR.out.mono ?_);rintro e w6 ⟨rfl,hs6,hk6⟩;obtain⟨f0,f1⟩:=hs6.c0;have f2:=hk6.cell NY.out d0;have f3:=hk6.cell NY.out d1;have D6:=aA (And.intro hs6 ((K4.out.trans KD.out (fun _ _ e=>e) (fun _ _ e=>e.elim)).trans hk6 (fun _ _ e=>e) (fun _ _ e=>e)));clear hs6 hk6)
    | (go_at_call 40;(with_reducible refine MP.out.mono ?_);rintro e w5 ⟨rfl,h5⟩;replace h5:=h5.symm;subst h5)
    | fail)
   all_goals
    go_wp2_with fail;exact⟨rfl,.tuple #[],by simp[results,results132,go_sem],rfl,D6.out⟩
theorem SW.congr{w W sb lw x t h h'}(s:SW w W sb lw x t h)(e:∀ k,k<8->h k=h' k):SW w W sb lw x t h':=by
 refine⟨s.pl,?_,s.nw,s.tb⟩;have:=s.bx;rw[sE,e 0 (by decide),e 1 (by decide),e 2 (by decide),e 3 (by decide),e 4 (by decide),e 5 (by decide),e 6 (by decide),e 7 (by decide)] at this;exact this
theorem LN{w W lw x t fr ls}(s:PO w W lw x t fr ls)(hT:lS w):
  Calls prog 73 #[.pointer (some ⟨lw,0,none⟩)] W fun e w'=>∃ sb,e=.returned (.pointer (some ⟨sb,0,none⟩))/\SW w w' sb lw x t (fun _=>0)/\Kt nO W w'/\W.heap.size<=sb:=by
 obtain⟨n1,n2,n3,n4,_⟩:=s.nums;have hst:=s.st;have HM:=aA (bT s.pl);have PG:=aA (wA s);have SP:=aA (fun W' (k:Kt nO W W')=>gX (s.keep k).pl);obtain⟨pn,hpn⟩:=xe (t.m.n);obtain⟨xn,hxn⟩:=xe (x.n);obtain⟨en,hen⟩:=xe (x.bS+x.n);have EN:=aA (fun W' (k:Kt nO W W')=>sK (s.keep k));rw[<-hen] at EN;rw[<-hpn] at PG;have hpi:(pn:Int)*4096=(xn:Int):=by omega
 have hxb:xn<=4194304:=by omega
 have hpb:pn<=1024:=by omega
 obtain⟨bs,hbs⟩:=xe (x.bS);have heb:(en:Int)-(xn:Int)=bs:=by omega
 have henb:en<=9223372036854775808:=by omega
 have hbsb:bs<=9223372036854775808:=by omega
 have HB:=aA hbs;have HS:=aA s;have HT:=aA hT;clear s hst n1 n2 n3 n4 hpn hxn hen hbs hT;go_enter func73,ntmps73;go_wp2_with fail;refine HM.out.mono ?_;rintro e w1 ⟨rfl,h1⟩;replace h1:=h1.symm;subst h1;go_wp2_with fail;refine PG.out.mono ?_;rintro e w2 ⟨rfl,h2⟩;replace h2:=h2.symm;subst h2;go_wp2_with fail;refine(SP.out _ (Kt.refl nO W)).mono ?_;rintro e w3 ⟨rfl,h3⟩;replace h3:=h3.symm;subst h3;go_wp2_with fail;refine(EN.out _ (Kt.refl nO W)).mono ?_;rintro e w4 ⟨rfl,hk⟩;have D:=aA (show SW w (w4.alloc (sE lw bs (fun _=>0))) w4.heap.size lw x t (fun _=>0)/\Kt nO W (w4.alloc (sE lw bs (fun _=>0)))/\W.heap.size<=w4.heap.size from by
  have k2:=hk.alloc (sE lw bs (fun _=>0));refine⟨⟨(HS.out.keep k2).pl,?_,Nat.le_trans (HS.out.keep hk).pl.kp.size (Nat.le_refl _),HT.out⟩,k2,hk.size⟩;rw[<-HB.out];exact nH w4 _)
 clear hk;go_wp2_with fail;go_ret;exact⟨_,rfl,D.out⟩
theorem zK{w W lw x t fr ls}(s:PO w W lw x t fr ls)(hT:lS w):
  Calls prog 34 #[.pointer (some ⟨lw,0,none⟩)] W fun e w'=>∃ sb,e=.returned (.pointer (some ⟨sb,0,none⟩))/\SW w w' sb lw x t (fun _ => -1)/\Kt nO W w'/\W.heap.size<=sb:=by
 have OV:=aA (LN s hT);clear s hT;go_enter func34,ntmps34;go_wp2_with fail;refine OV.out.mono ?_;rintro e w1 ⟨sb,rfl,hs,hk,hz⟩;have I0:=aA (show SW w w1 sb lw x t (fun j=>if j<0 then -1 else 0)/\Kt nO W w1 from⟨hs,hk⟩);have HZ:=aA hz;clear hs hk hz OV;go_wp2_with fail;go_loopw [7] (fun si W'=>∃ k:Nat,k<=8/\si=.int .i64 k/\Hid (SW w W' sb lw x t (fun j=>if j<k then -1 else 0)/\Kt nO W W')) (fun si _=>8-(intOf si).toNat)
 case atStart=>exact⟨0,by decide,rfl,I0⟩
 case round=>
  clear I0;obtain⟨k,hk,rfl,HI⟩:=hrel;have SI:=aA HI.out.1;have KI:=aA HI.out.2;clear HI;by_cases hlt:k<8
  ·have hki:(k:Int)<8:=(by omega);have c2:=SI.out.hd k hlt;have fz:=SI.out.fz (2+k);have S2:=aA (show SW w (wr.setCell ⟨sb,2+k,none⟩ (.int .i64 (-1))) sb lw x t (fun j=>if j<k+1 then -1 else 0)/\Kt nO W (wr.setCell ⟨sb,2+k,none⟩ (.int .i64 (-1)))from by
    refine⟨(SI.out.set k hlt (-1)).congr (fun j hj=>?_),KI.out.setNew (p:=⟨sb,2+k,none⟩) (fun e=>absurd e (Nat.not_lt.2 HZ.out)) _⟩;unfold cU;by_cases e:j=k
    ·rw[if_pos e,if_pos (by omega)]
    ·rw[if_neg e];show(if j<k then (-1:Int) else 0)=if j<k+1 then (-1:Int) else 0
     by_cases e2:j<k
     ·rw[if_pos e2,if_pos (by omega)]
     ·rw[if_neg e2,if_neg (by omega)])
   go_wp2_with fail;go_round
   case rel=>exact⟨k+1,by omega,by go_num,S2⟩
   case measure=>simp[intOf];omega
  ·have hki:¬(k:Int)<8:=(by omega);have D:=aA (show SW w wr sb lw x t (fun _ => -1)/\Kt nO W wr/\W.heap.size<=sb from⟨SI.out.congr (fun j hj=>by show(if j<k then (-1:Int) else 0) = -1;rw[if_pos (by omega)]),KI.out,HZ.out⟩);go_wp2_with fail;go_ret;exact⟨sb,rfl,D.out⟩
def cQ:List Nat->Int
 | [] => -1
 | a :: _=>(a:Int)
def bN:List Nat->Nat->Int
 | [],_ => -1
 | a :: l,p=>if a=p then cQ l else bN l p
def bV:List Nat->Nat->Int
 | [],_ => -1
 | a :: l,p=>if cQ l=(p:Int) then (a:Int) else bV l p
theorem qX{l:List Nat}{p:Nat}(h:cQ l=(p:Int)):p∈l:=by
 cases l with
 | nil=>
  have h:(-1:Int)=(p:Int):=h;omega
 | cons a l=>
  have h:(a:Int)=p:=h;rw[show p=a by omega];exact List.mem_cons_self
theorem xR(l:List Nat):cQ l = -1\/∃ r:Nat,cQ l=(r:Int)/\r∈l:=by
 cases l with
 | nil=>exact .inl rfl
 | cons a l=>exact .inr ⟨a,rfl,List.mem_cons_self⟩
theorem DR{l:List Nat}{p:Nat}(h:p ∉ l):bN l p = -1:=by
 induction l with
 | nil=>rfl
 | cons a l ih=>
  rw[List.mem_cons,not_or] at h;rw[bN,if_neg (fun e=>h.1 e.symm)];exact ih h.2
theorem wL{l:List Nat}{p:Nat}(h:p ∉ l):bV l p = -1:=by
 induction l with
 | nil=>rfl
 | cons a l ih=>
  rw[List.mem_cons,not_or] at h;rw[bV,if_neg (fun e=>h.2 (qX e))];exact ih h.2
theorem oK(l:List Nat)(p:Nat)(hd:l.Nodup):bN l p = -1\/∃ r:Nat,bN l p=(r:Int)/\r∈l/\r≠p:=by
 induction l with
 | nil=>exact .inl rfl
 | cons a l ih=>
  rw[List.nodup_cons] at hd;rw[bN];by_cases e:a=p
  ·rw[if_pos e];rcases xR l with h|⟨r,h1,h2⟩
   ·exact .inl h
   ·exact .inr ⟨r,h1,List.mem_cons_of_mem _ h2,fun e2=>hd.1 (by rw[e,<-e2];exact h2)⟩
  ·rw[if_neg e];rcases ih hd.2 with h|⟨r,h1,h2,h3⟩
   ·exact .inl h
   ·exact .inr ⟨r,h1,List.mem_cons_of_mem _ h2,h3⟩
theorem rU(l:List Nat)(p:Nat)(hd:l.Nodup):bV l p = -1\/∃ r:Nat,bV l p=(r:Int)/\r∈l/\r≠p:=by
 induction l with
 | nil=>exact .inl rfl
 | cons a l ih=>
  rw[List.nodup_cons] at hd;rw[bV];by_cases e:cQ l=(p:Int)
  ·rw[if_pos e];exact .inr ⟨a,rfl,List.mem_cons_self,fun e2=>hd.1 (by rw[e2];exact qX e)⟩
  ·rw[if_neg e];rcases ih hd.2 with h|⟨r,h1,h2,h3⟩
   ·exact .inl h
   ·exact .inr ⟨r,h1,List.mem_cons_of_mem _ h2,h3⟩
theorem rH{a:Nat}{l:List Nat}(hd:(a :: l).Nodup):bV (a :: l) a = -1:=by
 rw[List.nodup_cons] at hd;rw[bV,if_neg (fun e=>hd.1 (qX e))];exact wL hd.1
theorem oG{l:List Nat}{p:Nat}(hd:l.Nodup)(hp:p∈l):bV l p = -1↔cQ l=(p:Int):=by
 cases l with
 | nil=>cases hp
 | cons a l=>
  constructor
  ·intro h;rcases List.mem_cons.1 hp with e|hm
   ·rw[e];rfl
   ·exfalso
    clear hp;induction l generalizing a with
    | nil=>cases hm
    | cons b l ih=>
     rw[bV] at h;by_cases e:cQ (b :: l)=(p:Int)
     ·rw[if_pos e] at h;omega
     ·rw[if_neg e] at h;rcases List.mem_cons.1 hm with e2|hm2
      ·exact e (by rw[e2];rfl)
      ·exact ih b (List.nodup_cons.1 hd).2 h hm2
  ·intro h;have h:(a:Int)=p:=h;rw[show p=a by omega];exact rH hd
theorem yK{l:List Nat}{p:Nat}(h:p ∉ l):M.dropL (p :: l) p=l:=by
 unfold M.dropL;rw[List.filter_cons_of_neg (by simp)];exact List.filter_eq_self.2 fun q hq=>by simp;exact fun e=>h (e▸hq)
theorem yJ{l:List Nat}{a p:Nat}(h:a≠p):M.dropL (a :: l) p=a :: M.dropL l p:=by
 unfold M.dropL;rw[List.filter_cons_of_pos (by simp[h])]
theorem FV{l:List Nat}(h:l.Nodup)(p:Nat):(M.dropL l p).Nodup:=h.filter _
theorem uS{l:List Nat}{p:Nat}(hd:l.Nodup)(hp:p∈l):cQ (M.dropL l p)=if bV l p = -1 then bN l p else cQ l:=by
 cases l with
 | nil=>cases hp
 | cons a l=>
  have hn:=List.nodup_cons.1 hd;by_cases e:a=p
  ·subst e;rw[yK hn.1,if_pos (rH hd),bN,if_pos rfl]
  ·rw[yJ e,if_neg]
   ·rfl
   ·rw[oG hd hp];intro h;have h:(a:Int)=p:=h;omega
theorem ZL{l:List Nat}{p r:Nat}(hd:l.Nodup)(hp:p∈l)(hr:r≠p):bN (M.dropL l p) r=if (r:Int)=bV l p then bN l p else bN l r:=by
 induction l with
 | nil=>cases hp
 | cons a l ih=>
  have hn:=List.nodup_cons.1 hd;by_cases e:a=p
  ·subst e;rw[yK hn.1,rH hd,if_neg (by omega)];show bN l r=if a=r then cQ l else bN l r
   rw[if_neg (fun h=>hr h.symm)]
  ·have hpl:p∈l:=by
    rcases List.mem_cons.1 hp with h|h
    ·exact absurd h.symm e
    ·exact h
   rw[yJ e];have hnx:bN (a :: l) p=bN l p:=(by rw[bN,if_neg e]);rw[hnx];by_cases e2:a=r
   ·subst e2;rw[bN,if_pos rfl,uS hn.2 hpl,bN,if_pos rfl,bV];by_cases e3:cQ l=(p:Int)
    ·rw[if_pos e3,if_pos rfl,if_pos ((oG hn.2 hpl).2 e3)]
    ·rw[if_neg e3,if_neg (fun h=>e3 ((oG hn.2 hpl).1 h)),if_neg];intro h;rcases rU l p hn.2 with h2|⟨b,h2,h3,_⟩
     ·rw[h2] at h;omega
     ·rw[h2] at h;exact hn.1 (by rw[show a=b by omega];exact h3)
   ·rw[bN,if_neg e2,ih hn.2 hpl,bN,if_neg e2,bV];by_cases e3:cQ l=(p:Int)
    ·rw[if_pos e3,(oG hn.2 hpl).2 e3,if_neg (by omega),if_neg (fun h=>e2 (by omega))]
    ·rw[if_neg e3]
theorem ZK{l:List Nat}{p r:Nat}(hd:l.Nodup)(hp:p∈l)(hr:r≠p):bV (M.dropL l p) r=if (r:Int)=bN l p then bV l p else bV l r:=by
 induction l with
 | nil=>cases hp
 | cons a l ih=>
  have hn:=List.nodup_cons.1 hd;by_cases e:a=p
  ·subst e;rw[yK hn.1,rH hd];have hnx:bN (a :: l) a=cQ l:=(by rw[bN,if_pos rfl]);rw[hnx];by_cases e2:(r:Int)=cQ l
   ·rw[if_pos e2];exact(oG hn.2 (qX e2.symm)).2 e2.symm
   ·rw[if_neg e2,bV,if_neg (fun h=>e2 h.symm)]
  ·have hpl:p∈l:=by
    rcases List.mem_cons.1 hp with h|h
    ·exact absurd h.symm e
    ·exact h
   rw[yJ e];have hnx:bN (a :: l) p=bN l p:=(by rw[bN,if_neg e]);rw[hnx,bV,uS hn.2 hpl,ih hn.2 hpl,bV,bV];by_cases e3:cQ l=(p:Int)
   ·have h1:=(oG hn.2 hpl).2 e3;rw[if_pos h1,if_pos e3,h1];by_cases e4:bN l p=(r:Int)
    ·rw[if_pos e4,if_pos e4.symm]
    ·rw[if_neg e4,if_neg (fun h=>e4 h.symm),if_neg (fun h=>e4 h.symm),if_neg];intro h;rw[e3] at h;exact hr (by omega)
   ·have h1:¬bV l p = -1:=fun h=>e3 ((oG hn.2 hpl).1 h)
    rw[if_neg h1,if_neg e3];by_cases e4:cQ l=(r:Int)
    ·rw[if_pos e4];by_cases e5:(r:Int)=bN l p
     ·exfalso
      -- the head stands behind nobody
      cases l with
      | nil=>cases hpl
      | cons b l=>
       have e4:(b:Int)=r:=e4;have:bN (b :: l) p=(b:Int):=by rw[<-e5,e4]
       rw[bN] at this;have hn2:=List.nodup_cons.1 hn.2;by_cases e6:b=p
       ·exact e3 (by rw[e6];rfl)
       ·rw[if_neg e6] at this;rcases oK l p hn2.2 with h|⟨c,h2,h3,_⟩
        ·omega
        ·exact hn2.1 (by rw[show b=c by omega];exact h3)
     ·rw[if_neg e5,if_pos e4]
    ·rw[if_neg e4,if_neg e4]
def aH(k:Nat):Nat:=256/2 ^ k
theorem dV{k:Nat}(h:k<8):aH k*aC k=4096/\2<=aH k/\aH k<=256:=IA k h
structure Sb where
 c:Nat->Option Nat
 fl:Nat->List Nat
 pl:Nat->List Nat
def iG(S:Sb)(m:Mp):Nat->Option Pg:=fun p=>(S.c p).map fun _=>m.pg p
theorem lZ{S:Sb}{m:Mp}{p:Nat}(h:S.c p=none):iG S m p=none:=by unfold iG;rw[h];rfl
theorem lY{S:Sb}{m:Mp}{p k:Nat}(h:S.c p=some k):iG S m p=some (m.pg p):=by unfold iG;rw[h];rfl
theorem RH{S:Sb}{m:Mp}{p:Nat}{q:Pg}(h:iG S m p=some q):(∃ k,S.c p=some k)/\m.pg p=q:=by
 cases e:S.c p with
 | none=>rw[lZ e] at h;cases h
 | some k=>
  rw[lY e] at h;injection h with h
  exact⟨⟨k,rfl⟩,h⟩
structure SlP(S:Sb)(p k:Nat)(q:Pg):Prop where
 kd:q.kd=4
 od:q.od=0
 cl:q.cl=(k:Int)
 lv:q.lv=((aH k-(S.fl p).length:Nat):Int)
 nx:q.nx=bN (S.pl k) p
 pv:q.pv=bV (S.pl k) p
 fs:q.fs=cQ (S.fl p)
 bt:∀ i,i<256->aN q i=decide (i<aH k/\i ∉ S.fl p)
def oU(x:Bx)(p k:Nat):List Nat->Nat
 | []=>0
 | j :: _=>aO x p k j
def pD(x:Bx)(f:Nat->Nat)(p k:Nat):List Nat->Prop
 | []=>True
 | i :: l=>M.word f (4096*p+i*aC k)=oU x p k l/\pD x f p k l
structure SI(x:Bx)(t:Bt)(S:Sb):Prop where
 eP:x.P=iG S t.m
 pg:∀ p k,S.c p=some k->k<8/\SlP S p k (t.m.pg p)
 fl:∀ p k,S.c p=some k->(S.fl p).Nodup/\(∀ i∈S.fl p,i<aH k)/\pD x t.f p k (S.fl p)
 lv:∀ p k,S.c p=some k->(S.fl p).length<=aH k
 pn:∀ k,k<8->(S.pl k).Nodup
 pm:∀ k,k<8->∀ p,p∈S.pl k↔(S.c p=some k/\S.fl p≠[])
def fI(S:Sb):Prop:=∀ p k,S.c p=some k->(S.fl p).length<aH k
theorem Sf.repaint{x t fr ls}(s:Sf x t fr ls)(S S':Sb)(hP:x.P=iG S t.m)(m':Mp)(ho:m'.o=t.m.o)(hn:m'.n=t.m.n)(hw:m'.wd=t.m.wd)(h1:∀ p,S'.c p=none->m'.pg p=(if S.c p=none then t.m.pg p else bR 2 0))(h2:∀ p k,S'.c p=some k->(m'.pg p).kd=4/\(p,0)∈ls):
  Sf { x with P:=iG S' m' } { t with m:=m' } fr ls:=by
 obtain⟨B,s,hN,hL⟩:=s;refine⟨B,⟨?_,s.o8,?_,?_,?_,s.b1,s.b2,s.tg,s.fi,?_,s.ds,?_,?_,s.ch,?_,?_,s.nm,?_⟩,hN,hL⟩
 ·show m'.o=x.o
  rw[ho];exact s.mo
 ·show ∃ r,m'.n=r*2 ^ x.o
  rw[hn];exact s.dv
 ·show m'.n*4096<=x.n
  rw[hn];exact s.nb
 ·show m'.n<=1024
  rw[hn];exact s.n1
 ·intro g p k hb;show k<=x.o/\p%2 ^ k=0/\p+2 ^ k<=m'.n
  rw[hn];exact s.al g p k hb
 ·intro i hi;have hi:i<m'.n:=hi;rw[hn] at hi;exact s.cv i hi
 ·intro g p k hb h9 i hi1 hi2;show m'.pg i=(iG S' m' i).getD _
  cases e:S'.c i with
  | some k'=>rw[lY e];rfl
  | none=>
   rw[lZ e,Option.getD_none,h1 i e]
   cases e2:S.c i with
   | none=>
    rw[if_pos rfl];have:=s.pg g p k hb h9 i hi1 hi2;rw[hP,lZ e2,Option.getD_none] at this;exact this
   | some k'=>
    rw[if_neg (by rintro ⟨⟩)];have hv:=(s.vs i (t.m.pg i) (by rw[hP];exact lY e2)).1;rcases s.ds _ _ _ _ _ _ hv hb with ⟨e3,e4,e5⟩|e3|e3
    ·rw[if_pos e4,<-e3,<-e5];rfl
    ·omega
    ·omega
 ·intro k hk;show(m'.wd k).length=(m'.n/2 ^ (k+1)+63)/64
  rw[hw,hn];exact s.wl k hk
 ·intro k hk i hi;have hi:i<m'.n/2 ^ (k+1):=hi;rw[hn] at hi;show iF (m'.wd k) i=_
  rw[hw];exact s.bt k hk i hi
 ·intro p q h;have h:iG S' m' p=some q:=h;obtain⟨⟨k,hk⟩,hq⟩:=RH h;obtain⟨h3,h4⟩:=h2 p k hk;exact⟨(hL p 0).2 h4,by rw[<-hq];exact h3⟩
theorem BdAt.reP{W x t}(h:BdAt W x t)(P:Nat->Option Pg):BdAt W { x with P:=P } t:=⟨h.sp,h.mp,h.ls,h.bs,h.lr,h.mo,h.iL,h.hR⟩
theorem Pol.reP{w W lw x t}(h:Pol w W lw x t)(P:Nat->Option Pg):Pol w W lw { x with P:=P } t:=⟨h.box,h.bd.reP P,h.nw,h.kp⟩
theorem SW.reP{w W sb lw x t h}(s:SW w W sb lw x t h)(P:Nat->Option Pg):SW w W sb lw { x with P:=P } t h:=⟨s.pl.reP P,s.bx,s.nw,s.tb⟩
structure SO(w W:World)(sb lw:Nat)(x:Bx)(t:Bt)(fr:Nat->List Nat)(ls:List (Nat×Nat))(S:Sb)(h:Nat->Int):Prop where
 sw:SW w W sb lw x t h
 sf:Sf x t fr ls
 st:t.m.n*4096=x.n
 bm:x.bS%4096=0
 si:SI x t S
 hd:∀ k,k<8->h k=cQ (S.pl k)
theorem SO.po{w W sb lw x t fr ls S h}(o:SO w W sb lw x t fr ls S h):PO w W lw x t fr ls:=⟨o.sw.pl,o.sf,o.st,o.bm⟩
theorem SO.keep{w W W' sb lw x t fr ls S h}(o:SO w W sb lw x t fr ls S h)(k:Kt nO W W'):SO w W' sb lw x t fr ls S h:=⟨o.sw.keep k,o.sf,o.st,o.bm,o.si,o.hd⟩
theorem SO.mem{w W sb lw x t fr ls S h}(o:SO w W sb lw x t fr ls S h){p k:Nat}(hp:S.c p=some k):(p,0)∈ls/\p<t.m.n/\p<1024/\x.bS+4096*p+4096<=x.bS+x.n:=by
 have h1:=o.sf.pslab (p:=p) (q:=t.m.pg p) (by rw[o.si.eP];exact lY hp);have hn:=o.po.nums.2.1;have hst:=o.st;refine⟨h1.1,h1.2.2.1,by omega,?_⟩;have h5:(p+1)*4096<=t.m.n*4096:=Nat.mul_le_mul_right _ h1.2.2.1;omega
theorem fQ{x:Bx}{p k i:Nat}(hk:k<8)(hi:i<aH k)(hb:x.bS+4096*p+4096<=9223372036854775808):aP x (aO x p k i)=4096*p+i*aC k/\i*aC k+aC k<=4096/\aO x p k i<18446744073709551616:=by
 have h1:=dV hk;have h2:(i+1)*aC k<=aH k*aC k:=Nat.mul_le_mul_right _ hi;rw[Nat.add_mul,Nat.one_mul,h1.1] at h2;have h3:aO x p k i=x.bS+4096*p+i*aC k:=rfl;refine⟨?_,h2,by omega⟩;unfold aP;omega
theorem uC{x:Bx}{t:Bt}{p k i:Nat}(hk:k<8)(hi:i<aH k)(hb:x.bS+4096*p+4096<=9223372036854775808)(hp:p<t.m.n)(hkd:(t.m.pg p).kd=4)(hcl:(t.m.pg p).cl=(k:Int)):
  kM x t (aO x p k i)=true/\aP x (aO x p k i)/4096=p/\eB x t (aO x p k i)=t.m.pg p/\iH x t (aO x p k i)=i:=by
 obtain⟨h1,h2,h3⟩:=fQ (x:=x) (p:=p) hk hi hb;have hz:=bU hk;have e1:aP x (aO x p k i)/4096=p:=by rw[h1];omega
 have e2:aP x (aO x p k i)%4096=i*aC k:=by rw[h1];omega
 have e3:eB x t (aO x p k i)=t.m.pg p:=by
  unfold eB cP;rw[e1,if_pos (dQ hp),Int.toNat_natCast]
 have e4:(t.m.pg p).cl.toNat=k:=by rw[hcl];rfl
 refine⟨?_,e1,e3,?_⟩
 ·unfold kM;rw[e3,e4,e2,decide_eq_true hkd,decide_eq_true (Nat.mul_mod_left _ _)];rfl
 ·unfold iH;rw[e3,e4,e2,Nat.mul_div_cancel _ (by omega)]
theorem mP(n:Nat):dF n (-1)=true:=by unfold dF;rfl
theorem pR{n r:Nat}(h:r<n):dF n (r:Int)=true:=by unfold dF;rw[dQ h,Bool.or_true]
theorem rN{m:Mp}{p:Nat}{a b:Int}(hp:p<m.n)(hk:(m.pg p).kd=4)(ha:dF m.n a=true)(hb:dF m.n b=true):eQ m (p:Int) a b={ m with pg:=aI m.pg p { m.pg p with nx:=a,pv:=b } }:=by
 unfold eQ lI;rw[Int.toNat_natCast,dQ hp,decide_eq_true hk,ha,hb];rfl
theorem zhP(m:Mp)(a b:Int):eQ m (-1) a b=m:=by
 unfold eQ lI;rw[show aJ m.n (-1)=false from decide_eq_false (by omega)];rfl
theorem qS{m:Mp}{p:Nat}(hp:p<m.n):cP m (p:Int)=m.pg p:=by unfold cP;rw[if_pos (dQ hp),Int.toNat_natCast]
theorem JX{m:Mp}{r:Nat}{v:Int}(hr:r<m.n)(hk:(m.pg r).kd=4)(hn:dF m.n (m.pg r).nx=true)(hv:dF m.n v=true):jS m (r:Int) v={ m with pg:=aI m.pg r { m.pg r with pv:=v } }:=by
 unfold jS;rw[qS hr,rN hr hk hn hv]
theorem JW(m:Mp)(v:Int):jS m (-1) v=m:=zhP _ _ _
theorem zfu{m:Mp}{r:Nat}{v:Int}(hr:r<m.n)(hk:(m.pg r).kd=4)(hn:dF m.n (m.pg r).pv=true)(hv:dF m.n v=true):qA m (r:Int) v={ m with pg:=aI m.pg r { m.pg r with nx:=v } }:=by
 unfold qA;rw[qS hr,rN hr hk hv hn]
def cO(pg:Nat->Pg)(l:List Nat)(p:Nat):Nat->Pg:=fun r=>if r=p then { pg p with nx:=cQ l,pv := -1 } else if (r:Int)=cQ l then { pg r with pv:=(p:Int) } else pg r
theorem AY{m:Mp}{h:Nat->Int}{p c:Nat}{l:List Nat}(hp:p<m.n)(hk:(m.pg p).kd=4)(hh:h c=cQ l)(hl:∀ r∈l,r<m.n/\(m.pg r).kd=4/\dF m.n (m.pg r).nx=true)(hpl:p ∉ l):eV m h (p:Int) c={ m with pg:=cO m.pg l p }:=by
 unfold eV;rw[hh]
 cases l with
 | nil=>
  show jS (eQ m (p:Int) (-1) (-1)) (-1) (p:Int)=_
  rw[JW,rN hp hk (mP _) (mP _)];refine congrArg (fun g=>({ m with pg:=g } : Mp)) (funext fun r=>?_);unfold aI cO;by_cases e:r=p
  ·rw[if_pos e,if_pos e];rfl
  ·rw[if_neg e,if_neg e,if_neg (by show ¬(r:Int) = -1;omega)]
 | cons b l=>
  obtain⟨h1,h2,h3⟩:=hl b List.mem_cons_self;have hbp:b≠p:=fun e=>hpl (by rw[e];exact List.mem_cons_self)
  show jS (eQ m (p:Int) (b:Int) (-1)) (b:Int) (p:Int)=_
  rw[rN hp hk (pR h1) (mP _)];have e1:aI m.pg p { m.pg p with nx:=(b:Int),pv := -1 } b=m.pg b:=by unfold aI;rw[if_neg hbp]
  rw[JX (m:={ m with pg:=aI m.pg p { m.pg p with nx:=(b:Int),pv := -1 } }) h1 (by show(aI m.pg p _ b).kd=4;rw[e1];exact h2) (by show dF m.n (aI m.pg p _ b).nx=true;rw[e1];exact h3) (pR hp)];show({ m with pg:=aI (aI m.pg p { m.pg p with nx:=(b:Int),pv := -1 }) b { aI m.pg p { m.pg p with nx:=(b:Int),pv := -1 } b with pv:=(p:Int) } } : Mp)=_
  rw[e1];refine congrArg (fun g=>({ m with pg:=g } : Mp)) (funext fun r=>?_);unfold aI cO;by_cases e:r=p
  ·rw[if_neg (show ¬r=b from fun e2=>hbp (e2.symm.trans e)),if_pos e,if_pos e];rfl
  ·rw[if_neg e];by_cases e2:r=b
   ·rw[if_pos e2,if_neg e,if_pos (by rw[e2];rfl),e2]
   ·rw[if_neg e2,if_neg e,if_neg];intro e3;have e3:(r:Int)=b:=e3;omega
def dO(pg:Nat->Pg)(l:List Nat)(p:Nat):Nat->Pg:=fun r=>if r=p then { pg p with nx := -1,pv := -1 } else { pg r with nx:=if (r:Int)=bV l p then bN l p else (pg r).nx,pv:=if (r:Int)=bN l p then bV l p else (pg r).pv }
theorem AX{m:Mp}{h:Nat->Int}{p c:Nat}{l:List Nat}(hd:l.Nodup)(hp:p∈l)(hl:∀ r∈l,r<m.n/\(m.pg r).kd=4/\(m.pg r).nx=bN l r/\(m.pg r).pv=bV l r):iP m (p:Int)={ m with pg:=dO m.pg l p }/\iQ m h (p:Int) c=if bV l p = -1 then cU h c (bN l p) else h:=by
 obtain⟨p1,p2,p3,p4⟩:=hl p hp;have lk:∀ r∈l,dF m.n (bN l r)=true/\dF m.n (bV l r)=true:=fun r hr=>by
  constructor
  ·rcases oK l r hd with e|⟨b,e,hb,_⟩
   ·rw[e];exact mP _
   ·rw[e];exact pR (hl b hb).1
  ·rcases rU l r hd with e|⟨b,e,hb,_⟩
   ·rw[e];exact mP _
   ·rw[e];exact pR (hl b hb).1
 refine⟨?_,by unfold iQ;rw[qS p1,p3,p4]⟩;unfold iP;rw[qS p1,p3,p4]
 obtain⟨m1,hm1,hm1n,hpg1⟩:∃ m1:Mp,jS m (bN l p) (bV l p)=m1/\(m1.n=m.n/\m1={ m with pg:=m1.pg })/\∀ r,m1.pg r=if (r:Int)=bN l p then { m.pg r with pv:=bV l p } else m.pg r:=by
  rcases oK l p hd with e|⟨b,e,hb,hbp⟩
  ·refine⟨m,by rw[e,JW],⟨rfl,rfl⟩,fun r=>?_⟩;rw[e,if_neg (by omega)]
  ·obtain⟨b1,b2,b3,b4⟩:=hl b hb;refine⟨{ m with pg:=aI m.pg b { m.pg b with pv:=bV l p } },by rw[e];exact JX b1 b2 (by rw[b3];exact(lk b hb).1) (lk p hp).2,⟨rfl,rfl⟩,fun r=>?_⟩;show aI m.pg b _ r=_
   unfold aI;rw[e];by_cases e2:r=b
   ·rw[if_pos e2,if_pos (by rw[e2]),e2]
   ·rw[if_neg e2,if_neg (by omega)]
 rw[hm1]
 obtain⟨m2,hm2,hm2n,hpg2⟩:∃ m2:Mp,(if bV l p = -1 then m1 else qA m1 (bV l p) (bN l p))=m2/\(m2.n=m.n/\m2={ m with pg:=m2.pg })/\∀ r,m2.pg r=if (r:Int)=bV l p then { m1.pg r with nx:=bN l p } else m1.pg r:=by
  rcases rU l p hd with e|⟨b,e,hb,hbp⟩
  ·refine⟨m1,by rw[if_pos e],hm1n,fun r=>?_⟩;rw[e,if_neg (by omega)]
  ·obtain⟨b1,b2,b3,b4⟩:=hl b hb;have hk1:(m1.pg b).kd=4:=by
    rw[hpg1];split
    ·exact b2
    ·exact b2
   have hl1:dF m1.n (m1.pg b).pv=true:=by
    rw[hpg1,hm1n.1];split
    ·exact(lk p hp).2
    ·rw[b4];exact(lk b hb).2
   refine⟨{ m1 with pg:=aI m1.pg b { m1.pg b with nx:=bN l p } },by rw[if_neg (by rw[e];omega),e];exact zfu (by rw[hm1n.1];exact b1) hk1 hl1 (by rw[hm1n.1];exact(lk p hp).1),⟨hm1n.1,?_⟩,fun r=>?_⟩
   ·show({ m1 with pg:=_ } : Mp)={ m with pg:=_ }
    rw[hm1n.2]
   ·show aI m1.pg b _ r=_
    unfold aI;rw[e];by_cases e2:r=b
    ·rw[if_pos e2,if_pos (by rw[e2]),e2]
    ·rw[if_neg e2,if_neg (by omega)]
 rw[hm2];have np:¬(p:Int)=bN l p:=fun e=>by
  rcases oK l p hd with h|⟨b,h,_,hb⟩
  ·omega
  ·exact hb (by omega)
 have pp:¬(p:Int)=bV l p:=fun e=>by
  rcases rU l p hd with h|⟨b,h,_,hb⟩
  ·omega
  ·exact hb (by omega)
 have hp2:m2.pg p=m.pg p:=by rw[hpg2,if_neg pp,hpg1,if_neg np]
 rw[rN (by rw[hm2n.1];exact p1) (by rw[hp2];exact p2) (by exact mP _) (by exact mP _),hp2,hm2n.2];show({ m with pg:=aI m2.pg p { m.pg p with nx := -1,pv := -1 } } : Mp)=_
 refine congrArg (fun g=>({ m with pg:=g } : Mp)) (funext fun r=>?_);unfold aI dO;by_cases e:r=p
 ·rw[if_pos e,if_pos e]
 ·rw[if_neg e,if_neg e,hpg2,hpg1];by_cases e1:(r:Int)=bV l p
  ·rw[if_pos e1,if_pos e1];by_cases e2:(r:Int)=bN l p
   ·rw[if_pos e2,if_pos e2]
   ·rw[if_neg e2,if_neg e2]
  ·rw[if_neg e1,if_neg e1];by_cases e2:(r:Int)=bN l p
   ·rw[if_pos e2,if_pos e2]
   ·rw[if_neg e2,if_neg e2]
def zI(q q':Pg):Prop:=∃ a b,q'={ q with nx:=a,pv:=b }
theorem ER(pg:Nat->Pg)(l:List Nat)(p r:Nat):zI (pg r) (cO pg l p r):=by
 unfold cO;by_cases e:r=p
 ·rw[if_pos e,e];exact⟨_,_,rfl⟩
 ·rw[if_neg e];split
  ·exact⟨(pg r).nx,_,rfl⟩
  ·exact⟨(pg r).nx,(pg r).pv,rfl⟩
theorem EQ(pg:Nat->Pg)(l:List Nat)(p r:Nat):zI (pg r) (dO pg l p r):=by
 unfold dO;by_cases e:r=p
 ·rw[if_pos e,e];exact⟨_,_,rfl⟩
 ·rw[if_neg e];exact⟨_,_,rfl⟩
def NP(pg:Nat->Pg)(S:Sb)(k:Nat)(l:List Nat):Prop:=∀ r,S.c r=some k->(pg r).nx=bN l r/\(pg r).pv=bV l r
theorem AU{pg:Nat->Pg}{S:Sb}{k p:Nat}{l:List Nat}(h:NP pg S k l)(hd:l.Nodup)(hp:p ∉ l):NP (cO pg l p) S k (p :: l):=fun r hr=>by
 obtain⟨h1,h2⟩:=h r hr;unfold cO;by_cases e:r=p
 ·rw[if_pos e,e];exact⟨by show cQ l=_;rw[bN,if_pos rfl],(rH (List.nodup_cons.2 ⟨hp,hd⟩)).symm⟩
 ·have n1:bN (p :: l) r=bN l r:=by rw[bN,if_neg (fun e2=>e e2.symm)]
  have n2:bV (p :: l) r=if cQ l=(r:Int) then (p:Int) else bV l r:=rfl;rw[if_neg e,n1,n2];by_cases e2:(r:Int)=cQ l
  ·rw[if_pos e2,if_pos e2.symm];exact⟨h1,rfl⟩
  ·rw[if_neg e2,if_neg (fun e3=>e2 e3.symm)];exact⟨h1,h2⟩
theorem zW{pg:Nat->Pg}{S:Sb}{k p:Nat}{l:List Nat}(h:NP pg S k l)(hd:l.Nodup)(hp:p∈l):NP (dO pg l p) S k (M.dropL l p):=fun r hr=>by
 obtain⟨h1,h2⟩:=h r hr;unfold dO;by_cases e:r=p
 ·have ho:p ∉ M.dropL l p:=by rw[kU];exact fun h=>h.2 rfl
  rw[if_pos e,e,DR ho,wL ho];exact⟨rfl,rfl⟩
 ·rw[if_neg e,ZL hd hp e,ZK hd hp e];exact⟨by show(if _ then _ else _)=_;rw[h1],by show(if _ then _ else _)=_;rw[h2]⟩
end Go.Proofs.YtbgbfpklgfpepaaGreatDoor
