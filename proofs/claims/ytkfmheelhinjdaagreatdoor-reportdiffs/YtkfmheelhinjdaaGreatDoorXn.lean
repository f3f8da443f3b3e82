import Derived.Test.YtkfmheelhinjdaaGreatDoorXm
import Derived.Laws.CopyRow
set_option maxRecDepth 1000000
set_option maxHeartbeats 80000000
namespace Go.Proofs.YtkfmheelhinjdaaGreatDoor
open _root_.Go.Proofs.Tryz
open Go.RowKit
set_option linter.unusedVariables false
theorem uU{w:World}{s:Nat}{a:Option Nat}{bS R lim n:Nat}{f:Nat->Nat}(h:M.SpA w s a bS R lim n f)(hn : 0<n):∃ g,a=some g:=by
 obtain⟨cap,hb,hr⟩:=h.ex
 cases a with
 | none=>exact absurd hr.1 (by omega)
 | some g=>exact⟨g,rfl⟩
theorem wU{w W sb lw x t h}(s:SW w W sb lw x t h)(p:Nat)(hin:M.In x.bS x.n p 8):
  Calls prog 252 #[.pointer (some ⟨x.s,0,none⟩),.int .u64 p] W fun e w'=>e=.returned (.tuple #[.int .u64 ((M.word t.f (p-x.bS):Nat):Int),.int .i64 0])/\Kt nO W w':=by
 obtain⟨g,hg⟩:=uU s.pl.bd.sp (by unfold M.In at hin;omega);have hs:=s.pl.bd.sp;rw[hg] at hs;exact(M.Word_in x.s g x.bS x.R x.lim x.n t.f p W hs hin).mono fun e w' h=>⟨h.1,fQ h.2⟩
theorem AC{w W sb lw x t h}(s:SW w W sb lw x t h)(p v:Nat)(hv:v<18446744073709551616)(hin:M.In x.bS x.n p 8):
  Calls prog 247 #[.pointer (some ⟨x.s,0,none⟩),.int .u64 p,.int .u64 v] W fun e w'=>e=.returned (.int .i64 0)/\SW w w' sb lw x { t with f:=M.upd t.f (p-x.bS) 8 (M.byteOf v) } h/\Kt (aD x) W w':=by
 obtain⟨g,hg⟩:=uU s.pl.bd.sp (by unfold M.In at hin;omega);have hs:=s.pl.bd.sp;rw[hg] at hs;refine(M.SetWord_in x.s g x.bS x.R x.lim x.n t.f p v hv W hs hin).mono ?_;rintro e w' ⟨rfl,h1,h2⟩;rw[<-hg] at h1 h2;have kb:Kt (aD x) W w':=(fQ h2).mono (fun _ _ e=>.inl e);refine⟨rfl,s.call ?_ kb,kb⟩;exact s.pl.bd.space (fQ h2) h1
theorem WN{w W sb lw x t h}(s:SW w W sb lw x t h)(p:Nat)(g:Int)(hin:M.In x.bS x.n p 8)(hv:M.word t.f (p-x.bS)=0):
  Calls prog 199 #[.pointer (some ⟨sb,0,none⟩),.int .u64 p,.int .i64 g] W fun e w'=>e=.returned (.tuple #[.int .i64 (-1),.bool true])/\Kt nO W w':=by
 have WD:=aA (wU s p hin);rw[hv] at WD;have SP:=aA (lO s.pl);obtain⟨c0,c1⟩:=s.c0;clear s hv hin;go_enter func199,ntmps199;go_wp2_with fail;refine SP.out.mono ?_;rintro e w1 ⟨rfl,h1⟩;replace h1:=h1.symm;subst h1;go_wp2_with fail;refine WD.out.mono ?_;rintro e w2 ⟨rfl,hk⟩;have K2:=aA hk;clear hk c0 c1;go_wp2_with fail;exact⟨rfl,.tuple #[.int .i64 (-1),.bool true],by simp[results,results199,go_sem],rfl,K2.out⟩
theorem WM{w W sb lw x t h}(s:SW w W sb lw x t h)(p g v:Nat)(hin:M.In x.bS x.n p 8)(hv:M.word t.f (p-x.bS)=v)(hv0:v≠0)(hv64:v<18446744073709551616)(hB:iV x t v=true)(hg:bF x v/4096=g):
  Calls prog 199 #[.pointer (some ⟨sb,0,none⟩),.int .u64 p,.int .i64 g] W fun e w'=>e=.returned (.tuple #[.int .i64 ((fR x t v:Nat):Int),.bool true])/\Kt nO W w':=by
 have WD:=aA (wU s p hin);rw[hv] at WD;have SP:=aA (lO s.pl);have AT:=aA (show ∀ W',Kt nO W W'->Calls prog 192 #[.pointer (some ⟨sb,0,none⟩),.int .u64 v] W' fun e w'=>e=.returned (.tuple #[nY (g:Int) ((fR x t v:Nat):Int) (dB x t v),.bool true])/\Kt nO W' w' from fun W' k=>by
  rw[<-hg];exact wT (s.keep k) v hv64 hB)
 obtain⟨c0,c1⟩:=s.c0;have hvb:((v:Int) == 0)=false:=by rw[beq_eq_false_iff_ne];omega
 generalize fR x t v=n at *;generalize dB x t v=q at *;clear s hv hin hv0 hB hg;go_enter func199,ntmps199;go_wp2_with fail;refine SP.out.mono ?_;rintro e w1 ⟨rfl,h1⟩;replace h1:=h1.symm;subst h1;go_wp2_with fail;refine WD.out.mono ?_;rintro e w2 ⟨rfl,hk⟩;have K2:=aA hk;clear hk c0 c1;go_wp2_with fail;refine(AT.out _ K2.out).mono ?_;rintro e w3 ⟨rfl,hk⟩;have K3:=aA (nT K2.out (hk.alloc (eA (g:Int) (n:Int) q)));have X3:=aA (nH w3 (eA (g:Int) (n:Int) q));clear hk;go_upto_region 5 with fail;generalize w3.heap.size=u at *;generalize w3.alloc (eA (g:Int) (n:Int) q)=W3 at *;obtain⟨a0,a1,_⟩:=dJ X3.out;have hgg:((g:Int) == (g:Int))=true:=by simp
 go_quiet (fail)
 have K4:=aA (K3.out.drewN 1);go_wp2_with fail;exact⟨rfl,.tuple #[.int .i64 n,.bool true],by simp[results,results199,go_sem],rfl,K3.out.drewN _⟩
def eZ(x:Bx)(t:Bt)(p:Nat):Bool:=iV x t p && aH (dB x t p) (fR x t p)
theorem TM{w W sb lw x t h}(s:SW w W sb lw x t h)(p:Nat)(hp:p<18446744073709551616)(hl:eZ x t p=true):
  Calls prog 113 #[.pointer (some ⟨sb,0,none⟩),.int .u64 p] W fun e w'=>e=.returned (.int .u64 ((aE (dB x t p).cl.toNat:Nat):Int))/\Kt nO W w':=by
 unfold eZ at hl;rw[Bool.and_eq_true] at hl;have LV:=aA (yU s p hp hl.1);rw[hl.2] at LV;have ok:PgOk (dB x t p):=qM s.pl.bd.mp _;have HT:=aA s.tab;generalize bF x p/4096=g at *;generalize fR x t p=n at *;generalize dB x t p=q at *;obtain⟨c,hc⟩:=Int.eq_ofNat_of_zero_le ok.c0;have hc8:c<8:=by have:=ok.c7;omega
 have hci:(c:Int)<8:=by omega
 rw[show q.cl.toNat=c by rw[hc];rfl];have HC:=aA hc;obtain⟨z,hz⟩:=xe (aE c);rw[<-hz];have TB:=aA (show ∀ W',Kt nO W W'->W'.cell? ⟨0,c,none⟩=some (.int .u64 z)from fun W' k=>by rw[hz];exact k.cell id (HT.out c hc8));clear s hl hc hz ok;go_enter func113,ntmps113;go_wp2_with fail;refine LV.out.mono ?_;rintro e w1 ⟨rfl,hk⟩;have K1:=aA (hk.alloc (eA (g:Int) (n:Int) q));have X1:=aA (nH w1 (eA (g:Int) (n:Int) q));have ct:=TB.out _ K1.out;clear hk;go_upto_region 2 with fail;generalize w1.heap.size=u at *;generalize w1.alloc (eA (g:Int) (n:Int) q)=W1 at *;obtain⟨_,_,_,_,a4,_⟩:=dJ X1.out;rw[HC.out] at a4;go_wp2_with fail;go_ret;exact⟨rfl,K1.out⟩
theorem OC{w W sb lw x t h}(s:SW w W sb lw x t h)(p:Nat)(hp:p<18446744073709551616)(hl:eZ x t p=false):
  Calls prog 113 #[.pointer (some ⟨sb,0,none⟩),.int .u64 p] W fun e w'=>e=.returned (.int .u64 0)/\Kt nO W w':=by
 have LV:=aA (show ∃ g n q,Calls prog 151 #[.pointer (some ⟨sb,0,none⟩),.int .u64 p] W fun e w'=>e=.returned (.tuple #[nY g n q,.bool false])/\Kt nO W w' from by
  cases hB:iV x t p with
  | false=>exact⟨_,_,_,JK s p hp hB⟩
  | true=>
   have:=yU s p hp hB;unfold eZ at hl;rw[hB,Bool.true_and] at hl;rw[hl] at this;exact⟨_,_,_,this⟩)
 obtain⟨g,n,q,LX⟩:=LV.out;have LY:=aA LX;clear s hl LX LV;go_enter func113,ntmps113;go_wp2_with fail;refine LY.out.mono ?_;rintro e w1 ⟨rfl,hk⟩;have K1:=aA (hk.alloc (eA g n q));clear hk;go_wp2_with fail;go_ret;exact⟨rfl,K1.out⟩
theorem AM(c:Nat)(hc:c<8) : 256/2 ^ c*aE c=4096/\2<=256/2 ^ c/\256/2 ^ c<=256:=by
 revert c
 unfold aE;decide
def jV(f:Nat->Nat)(P off z:Nat):Nat->(Nat->Nat)
 | 0=>f
 | k+1=>M.upd (jV f P off z k) (off+k*z) 8 (M.byteOf (P+(k+1)*z))
def iT(f:Nat->Nat)(P off z N:Nat):Nat->Nat:=M.upd (jV f P off z (N-1)) (off+(N-1)*z) 8 (M.byteOf 0)
theorem OB{w W sb lw x t h}(s:SW w W sb lw x t h)(g c:Nat)(hc:c<8)(hg : 4096*g+4096<=x.n):
  Calls prog 195 #[.pointer (some ⟨sb,0,none⟩),.int .u64 ((ad x g:Nat):Int),.int .i64 c] W fun e w'=>e=.returned (.tuple #[])/\SW w w' sb lw x { t with f:=iT t.f (ad x g) (4096*g) (aE c) (256/2 ^ c) } h/\Kt (aD x) W w':=by
 have hbe:=s.pl.bd.sp.cfg.be;have hnl:=s.pl.bd.sp.nle;obtain⟨P,hP⟩:=xe (ad x g);obtain⟨z,hz⟩:=xe (aE c);obtain⟨N,hN⟩:=xe (256/2 ^ c);have hzb:=dV hc;have hNz:N*z=4096/\2<=N/\N<=256:=by
  rw[hN,hz];exact AM c hc
 rw[<-hz] at hzb;rw[<-hP,<-hz,<-hN];have hPb:P=x.bS+4096*g:=by rw[hP];rfl
 have hci:(c:Int)<8:=by omega
 have hP64:P+4096<=9223372036854775808:=by omega
 obtain⟨M1,hM1⟩:∃ M1,N=M1+1:=⟨N-1,by omega⟩;obtain⟨La,hLa⟩:=xe (P+M1*z);have hMz:M1*z+z=4096:=by
  have:=hNz.1;rw[hM1,Nat.add_mul,Nat.one_mul] at this;exact this
 obtain⟨P4,hP4⟩:=xe (P+4096);have hLi0:(P:Int)+4096=(P4:Int):=by omega
 have hLi:(P4:Int)-(z:Int)=La:=by omega
 have hP4b:P4<=9223372036854775808:=by omega
 have hLab:La<9223372036854775808:=by omega
 have HT:=aA s.tab;have TB:=aA (show ∀ W',SW w W' sb lw x t h->True from fun _ _=>trivial);have HH:=aA (show ∀ f W',SW w W' sb lw x { t with f:=f } h->W'.cell? ⟨0,c,none⟩=some (.int .u64 z)from fun f W' k=>by rw[hz];exact k.tab c hc);have ct:=HH.out t.f W s;have HP:=aA hPb;have HLA:=aA hLa;have HMZ:=aA hMz;have HGN:=aA hg;have I0:=aA (show SW w W sb lw x { t with f:=jV t.f P (4096*g) z 0 } h/\Kt (aD x) W W from⟨s,Kt.refl _ _⟩);rw[show iT t.f P (4096*g) z N=M.upd (jV t.f P (4096*g) z M1) (4096*g+M1*z) 8 (M.byteOf 0)by unfold iT;rw[hM1,Nat.add_sub_cancel]];clear s hP hz hN hPb hLa hMz hg hNz hM1 hP4;go_enter func195,ntmps195;go_wp2_with fail;go_loopw [1] (fun sp W'=>∃ k pk:Nat,k<=M1/\pk=P+k*z/\sp=.int .u64 pk/\Hid (SW w W' sb lw x { t with f:=jV t.f P (4096*g) z k } h/\Kt (aD x) W W')) (fun sp _=>La-(intOf sp).toNat)
 case atStart=>exact⟨0,P,Nat.zero_le _,by rw[Nat.zero_mul,Nat.add_zero],rfl,I0⟩
 case round=>
  clear I0 ct;obtain⟨k,pk,hk,hpk,rfl,HI⟩:=hrel;have SI:=aA HI.out.1;have KI:=aA HI.out.2;clear HI;have ct:=HH.out _ wr SI.out;obtain⟨c0,c1⟩:=SI.out.c0;have hkz:k*z<=M1*z:=Nat.mul_le_mul_right _ hk;have hpl:pk<=La:=by rw[hpk,HLA.out];omega
  by_cases hlt:k<M1
  ·have hkz1:(k+1)*z<=M1*z:=Nat.mul_le_mul_right _ hlt;rw[Nat.add_mul,Nat.one_mul] at hkz1;have hpi:(pk:Int)<La:=by
    have:=HLA.out;omega
   obtain⟨pn,hpn⟩:=xe (pk+z);have hpni:(pk:Int)+(z:Int)=pn:=(by omega);have hpnb:pn<=La:=(by have:=HLA.out;omega);have hwn:IntKind.u64.wrap (pn:Int)=pn:=(by rw[wrap_u64];omega);have SWD:=aA (show ∀ W',Kt nO wr W'->Calls prog 247 #[.pointer (some ⟨x.s,0,none⟩),.int .u64 pk,.int .u64 pn] W' fun e w'=>e=.returned (.int .i64 0)/\SW w w' sb lw x { t with f:=jV t.f P (4096*g) z (k+1) } h/\Kt (aD x) wr w' from fun W' kk=>by
    have hin:M.In x.bS x.n pk 8:=by
     unfold M.In;have:=HP.out;have:=HGN.out;have:=HMZ.out;omega
    refine(AC (SI.out.keep kk) pk pn (by omega) hin).mono ?_;rintro e w' ⟨rfl,h1,h2⟩;refine⟨rfl,?_,kk.trans h2 (fun _ _ e=>e.elim) (fun _ _ e=>e)⟩;rw[show pk-x.bS=4096*g+k*z by have:=HP.out;omega,show pn=P+(k+1)*z by rw[Nat.add_mul,Nat.one_mul];omega] at h1;exact h1)
   have hpe:=aA (show pn=P+(k+1)*z from by rw[Nat.add_mul,Nat.one_mul];omega);clear hpn hpk hkz hkz1;go_upto_region 3 with fail;have KD:=aA ((Kt.refl nO wr).drew);have SP:=aA (lO (SI.out.keep KD.out).pl);obtain⟨d0,d1⟩:=(SI.out.keep KD.out).c0;have dt:=HH.out _ _ (SI.out.keep KD.out);go_region_held3 (fun w'=>w'.cell? ⟨sb,0,none⟩=some (.pointer (some ⟨lw,0,none⟩))/\w'.cell? ⟨0,c,none⟩=some (.int .u64 z)) ((refine⟨?_,?_⟩ <;> first|with_reducible assumption|fail)) (first
    | (go_at_call 247;(with_reducible refine(SWD.out _ KD.out).mono ?_);rintro e w5 ⟨rfl,hs5,hk5⟩;obtain⟨f0,f1⟩:=hs5.c0;have f2:=HH.out _ _ hs5;have S5:=aA hs5;have K5:=aA (KI.out.trans hk5 (fun _ _ e=>e) (fun _ _ e=>e));clear hs5 hk5)
    | (go_at_call 38;(with_reducible refine SP.out.mono ?_);rintro e w3 ⟨rfl,h3⟩;replace h3:=h3.symm;subst h3)
    | fail)
   all_goals
    clear ct c0 c1 d0 d1 dt SP SWD;go_wp2_with fail;go_round
    case rel=>exact⟨k+1,pn,hlt,hpe.out,rfl,aA ⟨S5.out,K5.out⟩⟩
    case measure=>simp[intOf];omega
  ·have hke:k=M1:=(by omega);subst hke;have hpe:pk=La:=(by rw[hpk,HLA.out]);subst hpe;have hpi:¬(pk:Int)<pk:=(by omega);have SP:=aA (lO SI.out.pl);have SWD:=aA (show Calls prog 247 #[.pointer (some ⟨x.s,0,none⟩),.int .u64 pk,.int .u64 0] wr fun e w'=>e=.returned (.int .i64 0)/\SW w w' sb lw x { t with f:=M.upd (jV t.f P (4096*g) z k) (4096*g+k*z) 8 (M.byteOf 0) } h/\Kt (aD x) wr w' from by
    have hin:M.In x.bS x.n pk 8:=by
     unfold M.In;have:=HP.out;have:=HGN.out;have:=HMZ.out;omega
    refine(AC SI.out pk 0 (by omega) hin).mono ?_;rintro e w' ⟨rfl,h1,h2⟩;refine⟨rfl,?_,h2⟩;rw[show pk-x.bS=4096*g+k*z by have:=HP.out;omega] at h1;exact h1)
   clear hpk hkz;go_wp2_with fail;refine SP.out.mono ?_;rintro e w3 ⟨rfl,h3⟩;replace h3:=h3.symm;subst h3;go_wp2_with fail;refine SWD.out.mono ?_;rintro e w5 ⟨rfl,hs5,hk5⟩;have D:=aA (And.intro hs5 (KI.out.trans hk5 (fun _ _ e=>e) (fun _ _ e=>e)));clear hs5 hk5 ct c0 c1;go_wp2_with fail;exact⟨rfl,.tuple #[],by simp[results,results195,go_sem],rfl,D.out⟩
theorem SW.congr{w W sb lw x t h h'}(s:SW w W sb lw x t h)(e:∀ k,k<8->h k=h' k):SW w W sb lw x t h':=by
 refine⟨s.pl,?_,s.nw,s.tb⟩;have:=s.bx;rw[pU,e 0 (by decide),e 1 (by decide),e 2 (by decide),e 3 (by decide),e 4 (by decide),e 5 (by decide),e 6 (by decide),e 7 (by decide)] at this;exact this
theorem KE{w W lw x t fr ls}(s:PO w W lw x t fr ls)(hT:lG w):
  Calls prog 79 #[.pointer (some ⟨lw,0,none⟩)] W fun e w'=>∃ sb,e=.returned (.pointer (some ⟨sb,0,none⟩))/\SW w w' sb lw x t (fun _=>0)/\Kt nO W w'/\W.heap.size<=sb:=by
 obtain⟨n1,n2,n3,n4,_⟩:=s.nums;have hst:=s.st;have HM:=aA (bZ s.pl);have PG:=aA (wC s);have SP:=aA (fun W' (k:Kt nO W W')=>lO (s.keep k).pl);obtain⟨pn,hpn⟩:=xe (t.m.n);obtain⟨xn,hxn⟩:=xe (x.n);obtain⟨en,hen⟩:=xe (x.bS+x.n);have EN:=aA (fun W' (k:Kt nO W W')=>pY (s.keep k));rw[<-hen] at EN;rw[<-hpn] at PG;have hpi:(pn:Int)*4096=(xn:Int):=by omega
 have hxb:xn<=4194304:=by omega
 have hpb:pn<=1024:=by omega
 obtain⟨bs,hbs⟩:=xe (x.bS);have heb:(en:Int)-(xn:Int)=bs:=by omega
 have henb:en<=9223372036854775808:=by omega
 have hbsb:bs<=9223372036854775808:=by omega
 have HB:=aA hbs;have HS:=aA s;have HT:=aA hT;clear s hst n1 n2 n3 n4 hpn hxn hen hbs hT;go_enter func79,ntmps79;go_wp2_with fail;refine HM.out.mono ?_;rintro e w1 ⟨rfl,h1⟩;replace h1:=h1.symm;subst h1;go_wp2_with fail;refine PG.out.mono ?_;rintro e w2 ⟨rfl,h2⟩;replace h2:=h2.symm;subst h2;go_wp2_with fail;refine(SP.out _ (Kt.refl nO W)).mono ?_;rintro e w3 ⟨rfl,h3⟩;replace h3:=h3.symm;subst h3;go_wp2_with fail;refine(EN.out _ (Kt.refl nO W)).mono ?_;rintro e w4 ⟨rfl,hk⟩;have D:=aA (show SW w (w4.alloc (pU lw bs (fun _=>0))) w4.heap.size lw x t (fun _=>0)/\Kt nO W (w4.alloc (pU lw bs (fun _=>0)))/\W.heap.size<=w4.heap.size from by
  have k2:=hk.alloc (pU lw bs (fun _=>0));refine⟨⟨(HS.out.keep k2).pl,?_,Nat.le_trans (HS.out.keep hk).pl.kp.size (Nat.le_refl _),HT.out⟩,k2,hk.size⟩;rw[<-HB.out];exact nH w4 _)
 clear hk;go_wp2_with fail;go_ret;exact⟨_,rfl,D.out⟩
theorem vN{w W lw x t fr ls}(s:PO w W lw x t fr ls)(hT:lG w):
  Calls prog 34 #[.pointer (some ⟨lw,0,none⟩)] W fun e w'=>∃ sb,e=.returned (.pointer (some ⟨sb,0,none⟩))/\SW w w' sb lw x t (fun _ => -1)/\Kt nO W w'/\W.heap.size<=sb:=by
 have OV:=aA (KE s hT);clear s hT;go_enter func34,ntmps34;go_wp2_with fail;refine OV.out.mono ?_;rintro e w1 ⟨sb,rfl,hs,hk,hz⟩;have I0:=aA (show SW w w1 sb lw x t (fun j=>if j<0 then -1 else 0)/\Kt nO W w1 from⟨hs,hk⟩);have HZ:=aA hz;clear hs hk hz OV;go_wp2_with fail;go_loopw [7] (fun si W'=>∃ k:Nat,k<=8/\si=.int .i64 k/\Hid (SW w W' sb lw x t (fun j=>if j<k then -1 else 0)/\Kt nO W W')) (fun si _=>8-(intOf si).toNat)
 case atStart=>exact⟨0,by decide,rfl,I0⟩
 case round=>
  clear I0;obtain⟨k,hk,rfl,HI⟩:=hrel;have SI:=aA HI.out.1;have KI:=aA HI.out.2;clear HI;by_cases hlt:k<8
  ·have hki:(k:Int)<8:=(by omega);have c2:=SI.out.hd k hlt;have fz:=SI.out.fz (2+k);have S2:=aA (show SW w (wr.setCell ⟨sb,2+k,none⟩ (.int .i64 (-1))) sb lw x t (fun j=>if j<k+1 then -1 else 0)/\Kt nO W (wr.setCell ⟨sb,2+k,none⟩ (.int .i64 (-1)))from by
    refine⟨(SI.out.set k hlt (-1)).congr (fun j hj=>?_),KI.out.setNew (p:=⟨sb,2+k,none⟩) (fun e=>absurd e (Nat.not_lt.2 HZ.out)) _⟩;unfold cU;by_cases e:j=k
    ·rw[if_pos e,if_pos (by omega)]
    ·rw[if_neg e];show(if j<k then (-1:Int) else 0)=if j<k+1 then (-1:Int) else 0
     by_cases e2:j<k
     ·rw[if_pos e2,if_pos (by omega)]
     ·rw[if_neg e2,if_neg (by omega)])
   go_wp2_with fail;go_round
   case rel=>exact⟨k+1,by omega,by go_num,S2⟩
   case measure=>simp[intOf];omega
  ·have hki:¬(k:Int)<8:=(by omega);have D:=aA (show SW w wr sb lw x t (fun _ => -1)/\Kt nO W wr/\W.heap.size<=sb from⟨SI.out.congr (fun j hj=>by show(if j<k then (-1:Int) else 0) = -1;rw[if_pos (by omega)]),KI.out,HZ.out⟩);go_wp2_with fail;go_ret;exact⟨sb,rfl,D.out⟩
abbrev nX(h:Nat->Int):Obj:=.cells #[.int .i64 (h 0),.int .i64 (h 1),.int .i64 (h 2),.int .i64 (h 3),.int .i64 (h 4),.int .i64 (h 5),.int .i64 (h 6),.int .i64 (h 7)] 133
theorem XI{w W sb lw x t h}(s:SW w W sb lw x t h):
  Calls prog 42 #[.pointer (some ⟨sb,0,none⟩)] W fun e w'=>∃ b,e=.returned (.slice (some ⟨b,0,none⟩) 8 8)/\w'.heap[b]?=some (nX h)/\Kt nO W w'/\W.heap.size<=b:=by
 have c0:=s.hd 0 (by decide);have c1:=s.hd 1 (by decide);have c2:=s.hd 2 (by decide);have c3:=s.hd 3 (by decide);have c4:=s.hd 4 (by decide);have c5:=s.hd 5 (by decide);have c6:=s.hd 6 (by decide);have c7:=s.hd 7 (by decide);have D:=aA (show(W.alloc (nX h)).heap[W.heap.size]?=some (nX h)/\Kt nO W (W.alloc (nX h))/\W.heap.size<=W.heap.size from⟨nH W _,(Kt.refl nO W).alloc _,Nat.le_refl _⟩);clear s;go_enter func42,ntmps42;go_wp2_with fail;go_ret;exact⟨_,rfl,D.out⟩
def bE:List Nat->Int
 | [] => -1
 | a :: _=>(a:Int)
def bD:List Nat->Nat->Int
 | [],_ => -1
 | a :: l,p=>if a=p then bE l else bD l p
def bG:List Nat->Nat->Int
 | [],_ => -1
 | a :: l,p=>if bE l=(p:Int) then (a:Int) else bG l p
theorem nK{l:List Nat}{p:Nat}(h:bE l=(p:Int)):p∈l:=by
 cases l with
 | nil=>
  have h:(-1:Int)=(p:Int):=h;omega
 | cons a l=>
  have h:(a:Int)=p:=h;rw[show p=a by omega];exact List.mem_cons_self
theorem pC(l:List Nat):bE l = -1\/∃ r:Nat,bE l=(r:Int)/\r∈l:=by
 cases l with
 | nil=>exact .inl rfl
 | cons a l=>exact .inr ⟨a,rfl,List.mem_cons_self⟩
theorem sZ{l:List Nat}{p:Nat}(h:p ∉ l):bD l p = -1:=by
 induction l with
 | nil=>rfl
 | cons a l ih=>
  rw[List.mem_cons,not_or] at h;rw[bD,if_neg (fun e=>h.1 e.symm)];exact ih h.2
theorem oR{l:List Nat}{p:Nat}(h:p ∉ l):bG l p = -1:=by
 induction l with
 | nil=>rfl
 | cons a l ih=>
  rw[List.mem_cons,not_or] at h;rw[bG,if_neg (fun e=>h.2 (nK e))];exact ih h.2
theorem lR(l:List Nat)(p:Nat)(hd:l.Nodup):bD l p = -1\/∃ r:Nat,bD l p=(r:Int)/\r∈l/\r≠p:=by
 induction l with
 | nil=>exact .inl rfl
 | cons a l ih=>
  rw[List.nodup_cons] at hd;rw[bD];by_cases e:a=p
  ·rw[if_pos e];rcases pC l with h|⟨r,h1,h2⟩
   ·exact .inl h
   ·exact .inr ⟨r,h1,List.mem_cons_of_mem _ h2,fun e2=>hd.1 (by rw[e,<-e2];exact h2)⟩
  ·rw[if_neg e];rcases ih hd.2 with h|⟨r,h1,h2,h3⟩
   ·exact .inl h
   ·exact .inr ⟨r,h1,List.mem_cons_of_mem _ h2,h3⟩
theorem mM(l:List Nat)(p:Nat)(hd:l.Nodup):bG l p = -1\/∃ r:Nat,bG l p=(r:Int)/\r∈l/\r≠p:=by
 induction l with
 | nil=>exact .inl rfl
 | cons a l ih=>
  rw[List.nodup_cons] at hd;rw[bG];by_cases e:bE l=(p:Int)
  ·rw[if_pos e];exact .inr ⟨a,rfl,List.mem_cons_self,fun e2=>hd.1 (by rw[e2];exact nK e)⟩
  ·rw[if_neg e];rcases ih hd.2 with h|⟨r,h1,h2,h3⟩
   ·exact .inl h
   ·exact .inr ⟨r,h1,List.mem_cons_of_mem _ h2,h3⟩
theorem oW{a:Nat}{l:List Nat}(hd:(a :: l).Nodup):bG (a :: l) a = -1:=by
 rw[List.nodup_cons] at hd;rw[bG,if_neg (fun e=>hd.1 (nK e))];exact oR hd.1
theorem mH{l:List Nat}{p:Nat}(hd:l.Nodup)(hp:p∈l):bG l p = -1↔bE l=(p:Int):=by
 cases l with
 | nil=>cases hp
 | cons a l=>
  constructor
  ·intro h;rcases List.mem_cons.1 hp with e|hm
   ·rw[e];rfl
   ·exfalso
    clear hp;induction l generalizing a with
    | nil=>cases hm
    | cons b l ih=>
     rw[bG] at h;by_cases e:bE (b :: l)=(p:Int)
     ·rw[if_pos e] at h;omega
     ·rw[if_neg e] at h;rcases List.mem_cons.1 hm with e2|hm2
      ·exact e (by rw[e2];rfl)
      ·exact ih b (List.nodup_cons.1 hd).2 h hm2
  ·intro h;have h:(a:Int)=p:=h;rw[show p=a by omega];exact oW hd
theorem uW{l:List Nat}{p:Nat}(h:p ∉ l):M.dropL (p :: l) p=l:=by
 unfold M.dropL;rw[List.filter_cons_of_neg (by simp)];exact List.filter_eq_self.2 fun q hq=>by simp;exact fun e=>h (e▸hq)
theorem uS{l:List Nat}{a p:Nat}(h:a≠p):M.dropL (a :: l) p=a :: M.dropL l p:=by
 unfold M.dropL;rw[List.filter_cons_of_pos (by simp[h])]
theorem QQ{l:List Nat}(h:l.Nodup)(p:Nat):(M.dropL l p).Nodup:=h.filter _
theorem uE{l:List Nat}{p:Nat}(hd:l.Nodup)(hp:p∈l):bE (M.dropL l p)=if bG l p = -1 then bD l p else bE l:=by
 cases l with
 | nil=>cases hp
 | cons a l=>
  have hn:=List.nodup_cons.1 hd;by_cases e:a=p
  ·subst e;rw[uW hn.1,if_pos (oW hd),bD,if_pos rfl]
  ·rw[uS e,if_neg]
   ·rfl
   ·rw[mH hd hp];intro h;have h:(a:Int)=p:=h;omega
theorem QP{l:List Nat}{p r:Nat}(hd:l.Nodup)(hp:p∈l)(hr:r≠p):bD (M.dropL l p) r=if (r:Int)=bG l p then bD l p else bD l r:=by
 induction l with
 | nil=>cases hp
 | cons a l ih=>
  have hn:=List.nodup_cons.1 hd;by_cases e:a=p
  ·subst e;rw[uW hn.1,oW hd,if_neg (by omega)];show bD l r=if a=r then bE l else bD l r
   rw[if_neg (fun h=>hr h.symm)]
  ·have hpl:p∈l:=by
    rcases List.mem_cons.1 hp with h|h
    ·exact absurd h.symm e
    ·exact h
   rw[uS e];have hnx:bD (a :: l) p=bD l p:=(by rw[bD,if_neg e]);rw[hnx];by_cases e2:a=r
   ·subst e2;rw[bD,if_pos rfl,uE hn.2 hpl,bD,if_pos rfl,bG];by_cases e3:bE l=(p:Int)
    ·rw[if_pos e3,if_pos rfl,if_pos ((mH hn.2 hpl).2 e3)]
    ·rw[if_neg e3,if_neg (fun h=>e3 ((mH hn.2 hpl).1 h)),if_neg];intro h;rcases mM l p hn.2 with h2|⟨b,h2,h3,_⟩
     ·rw[h2] at h;omega
     ·rw[h2] at h;exact hn.1 (by rw[show a=b by omega];exact h3)
   ·rw[bD,if_neg e2,ih hn.2 hpl,bD,if_neg e2,bG];by_cases e3:bE l=(p:Int)
    ·rw[if_pos e3,(mH hn.2 hpl).2 e3,if_neg (by omega),if_neg (fun h=>e2 (by omega))]
    ·rw[if_neg e3]
theorem QO{l:List Nat}{p r:Nat}(hd:l.Nodup)(hp:p∈l)(hr:r≠p):bG (M.dropL l p) r=if (r:Int)=bD l p then bG l p else bG l r:=by
 induction l with
 | nil=>cases hp
 | cons a l ih=>
  have hn:=List.nodup_cons.1 hd;by_cases e:a=p
  ·subst e;rw[uW hn.1,oW hd];have hnx:bD (a :: l) a=bE l:=(by rw[bD,if_pos rfl]);rw[hnx];by_cases e2:(r:Int)=bE l
   ·rw[if_pos e2];exact(mH hn.2 (nK e2.symm)).2 e2.symm
   ·rw[if_neg e2,bG,if_neg (fun h=>e2 h.symm)]
  ·have hpl:p∈l:=by
    rcases List.mem_cons.1 hp with h|h
    ·exact absurd h.symm e
    ·exact h
   rw[uS e];have hnx:bD (a :: l) p=bD l p:=(by rw[bD,if_neg e]);rw[hnx,bG,uE hn.2 hpl,ih hn.2 hpl,bG,bG];by_cases e3:bE l=(p:Int)
   ·have h1:=(mH hn.2 hpl).2 e3;rw[if_pos h1,if_pos e3,h1];by_cases e4:bD l p=(r:Int)
    ·rw[if_pos e4,if_pos e4.symm]
    ·rw[if_neg e4,if_neg (fun h=>e4 h.symm),if_neg (fun h=>e4 h.symm),if_neg];intro h;rw[e3] at h;exact hr (by omega)
   ·have h1:¬bG l p = -1:=fun h=>e3 ((mH hn.2 hpl).1 h)
    rw[if_neg h1,if_neg e3];by_cases e4:bE l=(r:Int)
    ·rw[if_pos e4];by_cases e5:(r:Int)=bD l p
     ·exfalso
      -- the head stands behind nobody
      cases l with
      | nil=>cases hpl
      | cons b l=>
       have e4:(b:Int)=r:=e4;have:bD (b :: l) p=(b:Int):=by rw[<-e5,e4]
       rw[bD] at this;have hn2:=List.nodup_cons.1 hn.2;by_cases e6:b=p
       ·exact e3 (by rw[e6];rfl)
       ·rw[if_neg e6] at this;rcases lR l p hn2.2 with h|⟨c,h2,h3,_⟩
        ·omega
        ·exact hn2.1 (by rw[show b=c by omega];exact h3)
     ·rw[if_neg e5,if_pos e4]
    ·rw[if_neg e4,if_neg e4]
def aG(k:Nat):Nat:=256/2 ^ k
theorem dM{k:Nat}(h:k<8):aG k*aE k=4096/\2<=aG k/\aG k<=256:=AM k h
structure Sb where
 c:Nat->Option Nat
 fl:Nat->List Nat
 pl:Nat->List Nat
def jE(S:Sb)(m:Mp):Nat->Option Pg:=fun p=>(S.c p).map fun _=>m.pg p
theorem iI{S:Sb}{m:Mp}{p:Nat}(h:S.c p=none):jE S m p=none:=by unfold jE;rw[h];rfl
theorem jC{S:Sb}{m:Mp}{p k:Nat}(h:S.c p=some k):jE S m p=some (m.pg p):=by unfold jE;rw[h];rfl
theorem KG{S:Sb}{m:Mp}{p:Nat}{q:Pg}(h:jE S m p=some q):(∃ k,S.c p=some k)/\m.pg p=q:=by
 cases e:S.c p with
 | none=>rw[iI e] at h;cases h
 | some k=>
  rw[jC e] at h;injection h with h
  exact⟨⟨k,rfl⟩,h⟩
structure SlP(S:Sb)(p k:Nat)(q:Pg):Prop where
 kd:q.kd=4
 od:q.od=0
 cl:q.cl=(k:Int)
 lv:q.lv=((aG k-(S.fl p).length:Nat):Int)
 nx:q.nx=bD (S.pl k) p
 pv:q.pv=bG (S.pl k) p
 fs:q.fs=bE (S.fl p)
 bt:∀ i,i<256->aH q i=decide (i<aG k/\i ∉ S.fl p)
def lkA(x:Bx)(p k:Nat):List Nat->Nat
 | []=>0
 | j :: _=>aQ x p k j
def mA(x:Bx)(f:Nat->Nat)(p k:Nat):List Nat->Prop
 | []=>True
 | i :: l=>M.word f (4096*p+i*aE k)=lkA x p k l/\mA x f p k l
structure SI(x:Bx)(t:Bt)(S:Sb):Prop where
 eP:x.P=jE S t.m
 pg:∀ p k,S.c p=some k->k<8/\SlP S p k (t.m.pg p)
 fl:∀ p k,S.c p=some k->(S.fl p).Nodup/\(∀ i∈S.fl p,i<aG k)/\mA x t.f p k (S.fl p)
 lv:∀ p k,S.c p=some k->(S.fl p).length<=aG k
 pn:∀ k,k<8->(S.pl k).Nodup
 pm:∀ k,k<8->∀ p,p∈S.pl k↔(S.c p=some k/\S.fl p≠[])
def gK(S:Sb):Prop:=∀ p k,S.c p=some k->(S.fl p).length<aG k
theorem Sf.repaint{x t fr ls}(s:Sf x t fr ls)(S S':Sb)(hP:x.P=jE S t.m)(m':Mp)(ho:m'.o=t.m.o)(hn:m'.n=t.m.n)(hw:m'.wd=t.m.wd)(h1:∀ p,S'.c p=none->m'.pg p=(if S.c p=none then t.m.pg p else aN 2 0))(h2:∀ p k,S'.c p=some k->(m'.pg p).kd=4/\(p,0)∈ls):
  Sf { x with P:=jE S' m' } { t with m:=m' } fr ls:=by
 obtain⟨B,s,hN,hL⟩:=s;refine⟨B,⟨?_,s.o8,?_,?_,?_,s.b1,s.b2,s.tg,s.fi,?_,s.ds,?_,?_,s.ch,?_,?_,s.nm,?_⟩,hN,hL⟩
 ·show m'.o=x.o
  rw[ho];exact s.mo
 ·show ∃ r,m'.n=r*2 ^ x.o
  rw[hn];exact s.dv
 ·show m'.n*4096<=x.n
  rw[hn];exact s.nb
 ·show m'.n<=1024
  rw[hn];exact s.n1
 ·intro g p k hb;show k<=x.o/\p%2 ^ k=0/\p+2 ^ k<=m'.n
  rw[hn];exact s.al g p k hb
 ·intro i hi;have hi:i<m'.n:=hi;rw[hn] at hi;exact s.cv i hi
 ·intro g p k hb h9 i hi1 hi2;show m'.pg i=(jE S' m' i).getD _
  cases e:S'.c i with
  | some k'=>rw[jC e];rfl
  | none=>
   rw[iI e,Option.getD_none,h1 i e]
   cases e2:S.c i with
   | none=>
    rw[if_pos rfl];have:=s.pg g p k hb h9 i hi1 hi2;rw[hP,iI e2,Option.getD_none] at this;exact this
   | some k'=>
    rw[if_neg (by rintro ⟨⟩)];have hv:=(s.vs i (t.m.pg i) (by rw[hP];exact jC e2)).1;rcases s.ds _ _ _ _ _ _ hv hb with ⟨e3,e4,e5⟩|e3|e3
    ·rw[if_pos e4,<-e3,<-e5];rfl
    ·omega
    ·omega
 ·intro k hk;show(m'.wd k).length=(m'.n/2 ^ (k+1)+63)/64
  rw[hw,hn];exact s.wl k hk
 ·intro k hk i hi;have hi:i<m'.n/2 ^ (k+1):=hi;rw[hn] at hi;show aF (m'.wd k) i=_
  rw[hw];exact s.bt k hk i hi
 ·intro p q h;have h:jE S' m' p=some q:=h;obtain⟨⟨k,hk⟩,hq⟩:=KG h;obtain⟨h3,h4⟩:=h2 p k hk;exact⟨(hL p 0).2 h4,by rw[<-hq];exact h3⟩
theorem BdAt.reP{W x t}(h:BdAt W x t)(P:Nat->Option Pg):BdAt W { x with P:=P } t:=⟨h.sp,h.mp,h.ls,h.bs,h.lr,h.mo,h.iL,h.hR⟩
theorem Pol.reP{w W lw x t}(h:Pol w W lw x t)(P:Nat->Option Pg):Pol w W lw { x with P:=P } t:=⟨h.box,h.bd.reP P,h.nw,h.kp⟩
theorem SW.reP{w W sb lw x t h}(s:SW w W sb lw x t h)(P:Nat->Option Pg):SW w W sb lw { x with P:=P } t h:=⟨s.pl.reP P,s.bx,s.nw,s.tb⟩
structure SO(w W:World)(sb lw:Nat)(x:Bx)(t:Bt)(fr:Nat->List Nat)(ls:List (Nat×Nat))(S:Sb)(h:Nat->Int):Prop where
 sw:SW w W sb lw x t h
 sf:Sf x t fr ls
 st:t.m.n*4096=x.n
 bm:x.bS%4096=0
 si:SI x t S
 hd:∀ k,k<8->h k=bE (S.pl k)
theorem SO.po{w W sb lw x t fr ls S h}(o:SO w W sb lw x t fr ls S h):PO w W lw x t fr ls:=⟨o.sw.pl,o.sf,o.st,o.bm⟩
theorem SO.keep{w W W' sb lw x t fr ls S h}(o:SO w W sb lw x t fr ls S h)(k:Kt nO W W'):SO w W' sb lw x t fr ls S h:=⟨o.sw.keep k,o.sf,o.st,o.bm,o.si,o.hd⟩
theorem SO.mem{w W sb lw x t fr ls S h}(o:SO w W sb lw x t fr ls S h){p k:Nat}(hp:S.c p=some k):(p,0)∈ls/\p<t.m.n/\p<1024/\x.bS+4096*p+4096<=x.bS+x.n:=by
 have h1:=o.sf.pslab (p:=p) (q:=t.m.pg p) (by rw[o.si.eP];exact jC hp);have hn:=o.po.nums.2.1;have hst:=o.st;refine⟨h1.1,h1.2.2.1,by omega,?_⟩;have h5:(p+1)*4096<=t.m.n*4096:=Nat.mul_le_mul_right _ h1.2.2.1;omega
theorem kI{x:Bx}{p k i:Nat}(hk:k<8)(hi:i<aG k)(hb:x.bS+4096*p+4096<=9223372036854775808):bF x (aQ x p k i)=4096*p+i*aE k/\i*aE k+aE k<=4096/\aQ x p k i<18446744073709551616:=by
 have h1:=dM hk;have h2:(i+1)*aE k<=aG k*aE k:=Nat.mul_le_mul_right _ hi;rw[Nat.add_mul,Nat.one_mul,h1.1] at h2;have h3:aQ x p k i=x.bS+4096*p+i*aE k:=rfl;refine⟨?_,h2,by omega⟩;unfold bF;omega
theorem sP{x:Bx}{t:Bt}{p k i:Nat}(hk:k<8)(hi:i<aG k)(hb:x.bS+4096*p+4096<=9223372036854775808)(hp:p<t.m.n)(hkd:(t.m.pg p).kd=4)(hcl:(t.m.pg p).cl=(k:Int)):
  iV x t (aQ x p k i)=true/\bF x (aQ x p k i)/4096=p/\dB x t (aQ x p k i)=t.m.pg p/\fR x t (aQ x p k i)=i:=by
 obtain⟨h1,h2,h3⟩:=kI (x:=x) (p:=p) hk hi hb;have hz:=dV hk;have e1:bF x (aQ x p k i)/4096=p:=by rw[h1];omega
 have e2:bF x (aQ x p k i)%4096=i*aE k:=by rw[h1];omega
 have e3:dB x t (aQ x p k i)=t.m.pg p:=by
  unfold dB cF;rw[e1,if_pos (dI hp),Int.toNat_natCast]
 have e4:(t.m.pg p).cl.toNat=k:=by rw[hcl];rfl
 refine⟨?_,e1,e3,?_⟩
 ·unfold iV;rw[e3,e4,e2,decide_eq_true hkd,decide_eq_true (Nat.mul_mod_left _ _)];rfl
 ·unfold fR;rw[e3,e4,e2,Nat.mul_div_cancel _ (by omega)]
theorem lN(n:Nat):cJ n (-1)=true:=by unfold cJ;rfl
theorem oN{n r:Nat}(h:r<n):cJ n (r:Int)=true:=by unfold cJ;rw[dI h,Bool.or_true]
theorem pE{m:Mp}{p:Nat}{a b:Int}(hp:p<m.n)(hk:(m.pg p).kd=4)(ha:cJ m.n a=true)(hb:cJ m.n b=true):dH m (p:Int) a b={ m with pg:=aJ m.pg p { m.pg p with nx:=a,pv:=b } }:=by
 unfold dH jN;rw[Int.toNat_natCast,dI hp,decide_eq_true hk,ha,hb];rfl
theorem WX(m:Mp)(a b:Int):dH m (-1) a b=m:=by
 unfold dH jN;rw[show aC m.n (-1)=false from decide_eq_false (by omega)];rfl
theorem oH{m:Mp}{p:Nat}(hp:p<m.n):cF m (p:Int)=m.pg p:=by unfold cF;rw[if_pos (dI hp),Int.toNat_natCast]
theorem BW{m:Mp}{r:Nat}{v:Int}(hr:r<m.n)(hk:(m.pg r).kd=4)(hn:cJ m.n (m.pg r).nx=true)(hv:cJ m.n v=true):iA m (r:Int) v={ m with pg:=aJ m.pg r { m.pg r with pv:=v } }:=by
 unfold iA;rw[oH hr,pE hr hk hn hv]
theorem BV(m:Mp)(v:Int):iA m (-1) v=m:=WX _ _ _
theorem ZP{m:Mp}{r:Nat}{v:Int}(hr:r<m.n)(hk:(m.pg r).kd=4)(hn:cJ m.n (m.pg r).pv=true)(hv:cJ m.n v=true):nP m (r:Int) v={ m with pg:=aJ m.pg r { m.pg r with nx:=v } }:=by
 unfold nP;rw[oH hr,pE hr hk hv hn]
def dW(pg:Nat->Pg)(l:List Nat)(p:Nat):Nat->Pg:=fun r=>if r=p then { pg p with nx:=bE l,pv := -1 } else if (r:Int)=bE l then { pg r with pv:=(p:Int) } else pg r
theorem DO{m:Mp}{h:Nat->Int}{p c:Nat}{l:List Nat}(hp:p<m.n)(hk:(m.pg p).kd=4)(hh:h c=bE l)(hl:∀ r∈l,r<m.n/\(m.pg r).kd=4/\cJ m.n (m.pg r).nx=true)(hpl:p ∉ l):fG m h (p:Int) c={ m with pg:=dW m.pg l p }:=by
 unfold fG;rw[hh]
 cases l with
 | nil=>
  show iA (dH m (p:Int) (-1) (-1)) (-1) (p:Int)=_
  rw[BV,pE hp hk (lN _) (lN _)];refine congrArg (fun g=>({ m with pg:=g } : Mp)) (funext fun r=>?_);unfold aJ dW;by_cases e:r=p
  ·rw[if_pos e,if_pos e];rfl
  ·rw[if_neg e,if_neg e,if_neg (by show ¬(r:Int) = -1;omega)]
 | cons b l=>
  obtain⟨h1,h2,h3⟩:=hl b List.mem_cons_self;have hbp:b≠p:=fun e=>hpl (by rw[e];exact List.mem_cons_self)
  show iA (dH m (p:Int) (b:Int) (-1)) (b:Int) (p:Int)=_
  rw[pE hp hk (oN h1) (lN _)];have e1:aJ m.pg p { m.pg p with nx:=(b:Int),pv := -1 } b=m.pg b:=by unfold aJ;rw[if_neg hbp]
  rw[BW (m:={ m with pg:=aJ m.pg p { m.pg p with nx:=(b:Int),pv := -1 } }) h1 (by show(aJ m.pg p _ b).kd=4;rw[e1];exact h2) (by show cJ m.n (aJ m.pg p _ b).nx=true;rw[e1];exact h3) (oN hp)];show({ m with pg:=aJ (aJ m.pg p { m.pg p with nx:=(b:Int),pv := -1 }) b { aJ m.pg p { m.pg p with nx:=(b:Int),pv := -1 } b with pv:=(p:Int) } } : Mp)=_
  rw[e1];refine congrArg (fun g=>({ m with pg:=g } : Mp)) (funext fun r=>?_);unfold aJ dW;by_cases e:r=p
  ·rw[if_neg (show ¬r=b from fun e2=>hbp (e2.symm.trans e)),if_pos e,if_pos e];rfl
  ·rw[if_neg e];by_cases e2:r=b
   ·rw[if_pos e2,if_neg e,if_pos (by rw[e2];rfl),e2]
   ·rw[if_neg e2,if_neg e,if_neg];intro e3;have e3:(r:Int)=b:=e3;omega
def fF(pg:Nat->Pg)(l:List Nat)(p:Nat):Nat->Pg:=fun r=>if r=p then { pg p with nx := -1,pv := -1 } else { pg r with nx:=if (r:Int)=bG l p then bD l p else (pg r).nx,pv:=if (r:Int)=bD l p then bG l p else (pg r).pv }
theorem DN{m:Mp}{h:Nat->Int}{p c:Nat}{l:List Nat}(hd:l.Nodup)(hp:p∈l)(hl:∀ r∈l,r<m.n/\(m.pg r).kd=4/\(m.pg r).nx=bD l r/\(m.pg r).pv=bG l r):iM m (p:Int)={ m with pg:=fF m.pg l p }/\iN m h (p:Int) c=if bG l p = -1 then cU h c (bD l p) else h:=by
 obtain⟨p1,p2,p3,p4⟩:=hl p hp;have lk:∀ r∈l,cJ m.n (bD l r)=true/\cJ m.n (bG l r)=true:=fun r hr=>by
  constructor
  ·rcases lR l r hd with e|⟨b,e,hb,_⟩
   ·rw[e];exact lN _
   ·rw[e];exact oN (hl b hb).1
  ·rcases mM l r hd with e|⟨b,e,hb,_⟩
   ·rw[e];exact lN _
   ·rw[e];exact oN (hl b hb).1
 refine⟨?_,by unfold iN;rw[oH p1,p3,p4]⟩;unfold iM;rw[oH p1,p3,p4]
 obtain⟨m1,hm1,hm1n,hpg1⟩:∃ m1:Mp,iA m (bD l p) (bG l p)=m1/\(m1.n=m.n/\m1={ m with pg:=m1.pg })/\∀ r,m1.pg r=if (r:Int)=bD l p then { m.pg r with pv:=bG l p } else m.pg r:=by
  rcases lR l p hd with e|⟨b,e,hb,hbp⟩
  ·refine⟨m,by rw[e,BV],⟨rfl,rfl⟩,fun r=>?_⟩;rw[e,if_neg (by omega)]
  ·obtain⟨b1,b2,b3,b4⟩:=hl b hb;refine⟨{ m with pg:=aJ m.pg b { m.pg b with pv:=bG l p } },by rw[e];exact BW b1 b2 (by rw[b3];exact(lk b hb).1) (lk p hp).2,⟨rfl,rfl⟩,fun r=>?_⟩;show aJ m.pg b _ r=_
   unfold aJ;rw[e];by_cases e2:r=b
   ·rw[if_pos e2,if_pos (by rw[e2]),e2]
   ·rw[if_neg e2,if_neg (by omega)]
 rw[hm1]
 obtain⟨m2,hm2,hm2n,hpg2⟩:∃ m2:Mp,(if bG l p = -1 then m1 else nP m1 (bG l p) (bD l p))=m2/\(m2.n=m.n/\m2={ m with pg:=m2.pg })/\∀ r,m2.pg r=if (r:Int)=bG l p then { m1.pg r with nx:=bD l p } else m1.pg r:=by
  rcases mM l p hd with e|⟨b,e,hb,hbp⟩
  ·refine⟨m1,by rw[if_pos e],hm1n,fun r=>?_⟩;rw[e,if_neg (by omega)]
  ·obtain⟨b1,b2,b3,b4⟩:=hl b hb;have hk1:(m1.pg b).kd=4:=by
    rw[hpg1];split
    ·exact b2
    ·exact b2
   have hl1:cJ m1.n (m1.pg b).pv=true:=by
    rw[hpg1,hm1n.1];split
    ·exact(lk p hp).2
    ·rw[b4];exact(lk b hb).2
   refine⟨{ m1 with pg:=aJ m1.pg b { m1.pg b with nx:=bD l p } },by rw[if_neg (by rw[e];omega),e];exact ZP (by rw[hm1n.1];exact b1) hk1 hl1 (by rw[hm1n.1];exact(lk p hp).1),⟨hm1n.1,?_⟩,fun r=>?_⟩
   ·show({ m1 with pg:=_ } : Mp)={ m with pg:=_ }
    rw[hm1n.2]
   ·show aJ m1.pg b _ r=_
    unfold aJ;rw[e];by_cases e2:r=b
    ·rw[if_pos e2,if_pos (by rw[e2]),e2]
    ·rw[if_neg e2,if_neg (by omega)]
 rw[hm2];have np:¬(p:Int)=bD l p:=fun e=>by
  rcases lR l p hd with h|⟨b,h,_,hb⟩
  ·omega
  ·exact hb (by omega)
 have pp:¬(p:Int)=bG l p:=fun e=>by
  rcases mM l p hd with h|⟨b,h,_,hb⟩
  ·omega
  ·exact hb (by omega)
 have hp2:m2.pg p=m.pg p:=by rw[hpg2,if_neg pp,hpg1,if_neg np]
 rw[pE (by rw[hm2n.1];exact p1) (by rw[hp2];exact p2) (by exact lN _) (by exact lN _),hp2,hm2n.2];show({ m with pg:=aJ m2.pg p { m.pg p with nx := -1,pv := -1 } } : Mp)=_
 refine congrArg (fun g=>({ m with pg:=g } : Mp)) (funext fun r=>?_);unfold aJ fF;by_cases e:r=p
 ·rw[if_pos e,if_pos e]
 ·rw[if_neg e,if_neg e,hpg2,hpg1];by_cases e1:(r:Int)=bG l p
  ·rw[if_pos e1,if_pos e1];by_cases e2:(r:Int)=bD l p
   ·rw[if_pos e2,if_pos e2]
   ·rw[if_neg e2,if_neg e2]
  ·rw[if_neg e1,if_neg e1];by_cases e2:(r:Int)=bD l p
   ·rw[if_pos e2,if_pos e2]
   ·rw[if_neg e2,if_neg e2]
def vM(q q':Pg):Prop:=∃ a b,q'={ q with nx:=a,pv:=b }
theorem OQ(pg:Nat->Pg)(l:List Nat)(p r:Nat):vM (pg r) (dW pg l p r):=by
 unfold dW;by_cases e:r=p
 ·rw[if_pos e,e];exact⟨_,_,rfl⟩
 ·rw[if_neg e];split
  ·exact⟨(pg r).nx,_,rfl⟩
  ·exact⟨(pg r).nx,(pg r).pv,rfl⟩
theorem OO(pg:Nat->Pg)(l:List Nat)(p r:Nat):vM (pg r) (fF pg l p r):=by
 unfold fF;by_cases e:r=p
 ·rw[if_pos e,e];exact⟨_,_,rfl⟩
 ·rw[if_neg e];exact⟨_,_,rfl⟩
def NP(pg:Nat->Pg)(S:Sb)(k:Nat)(l:List Nat):Prop:=∀ r,S.c r=some k->(pg r).nx=bD l r/\(pg r).pv=bG l r
theorem DM{pg:Nat->Pg}{S:Sb}{k p:Nat}{l:List Nat}(h:NP pg S k l)(hd:l.Nodup)(hp:p ∉ l):NP (dW pg l p) S k (p :: l):=fun r hr=>by
 obtain⟨h1,h2⟩:=h r hr;unfold dW;by_cases e:r=p
 ·rw[if_pos e,e];exact⟨by show bE l=_;rw[bD,if_pos rfl],(oW (List.nodup_cons.2 ⟨hp,hd⟩)).symm⟩
 ·have n1:bD (p :: l) r=bD l r:=by rw[bD,if_neg (fun e2=>e e2.symm)]
  have n2:bG (p :: l) r=if bE l=(r:Int) then (p:Int) else bG l r:=rfl;rw[if_neg e,n1,n2];by_cases e2:(r:Int)=bE l
  ·rw[if_pos e2,if_pos e2.symm];exact⟨h1,rfl⟩
  ·rw[if_neg e2,if_neg (fun e3=>e2 e3.symm)];exact⟨h1,h2⟩
theorem DK{pg:Nat->Pg}{S:Sb}{k p:Nat}{l:List Nat}(h:NP pg S k l)(hd:l.Nodup)(hp:p∈l):NP (fF pg l p) S k (M.dropL l p):=fun r hr=>by
 obtain⟨h1,h2⟩:=h r hr;unfold fF;by_cases e:r=p
 ·have ho:p ∉ M.dropL l p:=by rw[kG];exact fun h=>h.2 rfl
  rw[if_pos e,e,sZ ho,oR ho];exact⟨rfl,rfl⟩
 ·rw[if_neg e,QP hd hp e,QO hd hp e];exact⟨by show(if _ then _ else _)=_;rw[h1],by show(if _ then _ else _)=_;rw[h2]⟩
theorem yJ{m:Mp}{p i:Nat}{l:Bool}(hp:p<m.n)(hk:(m.pg p).kd=4)(hi:i<eQ (m.pg p).cl)(hl:aH (m.pg p) i=!l):dX m (p:Int) (i:Int) l=0/\cQ m (p:Int) (i:Int) l={ m with pg:=aJ m.pg p (bU (m.pg p) i) }:=by
 have hc:iZ m (p:Int) (i:Int) l=true:=by
  unfold iZ nJ;rw[Int.toNat_natCast,Int.toNat_natCast,dI hp,decide_eq_true hk,dI hi,hl]
  cases l <;> rfl
 unfold dX cQ;rw[if_pos hc,if_pos hc,Int.toNat_natCast,Int.toNat_natCast];exact⟨rfl,rfl⟩
theorem BG{m:Mp}{p:Nat}{c:Int}(hp:p<m.n)(hk:(m.pg p).kd=4)(hc:c = -1\/∃ j:Nat,c=(j:Int)/\j<eQ (m.pg p).cl):fP m (p:Int) c={ m with pg:=aJ m.pg p { m.pg p with fs:=c } }:=by
 have h:kH m (p:Int) c=true:=by
  unfold kH;rw[Int.toNat_natCast,dI hp,decide_eq_true hk];rcases hc with rfl|⟨j,rfl,hj⟩
  ·rfl
  ·rw[dI hj,Bool.or_true];rfl
 unfold fP;rw[if_pos h,Int.toNat_natCast]
def mC(m:Mp)(p i:Nat)(r:List Nat):Mp:=fP (cQ m (p:Int) (i:Int) true) (p:Int) (bE r)
def dR(m:Mp)(p i:Nat)(r:List Nat):Mp:=if r=[] then iM (mC m p i r) (p:Int) else mC m p i r
def fK(m:Mp)(h:Nat->Int)(p k i:Nat)(r:List Nat):Nat->Int:=if r=[] then iN (mC m p i r) h (p:Int) k else h
theorem wJ{w W sb lw x t fr ls S h}(o:SO w W sb lw x t fr ls S h)(p k i:Nat)(r:List Nat)(hc:S.c p=some k)(hf:S.fl p=i :: r):
  Calls prog 162 #[.pointer (some ⟨sb,0,none⟩),.int .i64 p,.int .i64 k] W fun e w'=>e=.returned (.tuple #[.int .u64 ((aQ x p k i:Nat):Int),.int .i64 0])/\SE w W sb lw x t (dR t.m p i r) (fK t.m h p k i r) w':=by
 obtain⟨hk,sp⟩:=o.si.pg p k hc;obtain⟨nd,lt,lk⟩:=o.si.fl p k hc;have hlv:=o.si.lv p k hc;obtain⟨hls,hpn,hp1,hpb⟩:=o.mem hc;have n4:=o.po.nums.2.2.2.1;rw[hf] at nd lt lk hlv;have hib:i<aG k:=lt i List.mem_cons_self;have hnb:=dM hk;have hoff:=kI (x:=x) (p:=p) hk hib (by omega);have hin:M.In x.bS x.n (aQ x p k i) 8:=by
  have hz:=dV hk;unfold M.In;have e:aQ x p k i=x.bS+4096*p+i*aE k:=rfl;omega
 have hao:aQ x p k i-x.bS=4096*p+i*aE k:=by
  have e:aQ x p k i=x.bS+4096*p+i*aE k:=rfl;omega
 have hcn:eQ (t.m.pg p).cl=aG k:=by rw[sp.cl];rfl
 have hlit:aH (t.m.pg p) i=!true:=by
  rw[sp.bt i (by omega),hf];exact decide_eq_false (fun e=>e.2 List.mem_cons_self)
 obtain⟨hoE,hoM⟩:=yJ hpn sp.kd (by rw[hcn];exact hib) hlit;have hnx:∃ nx:Int,nx=bE r/\∀ W',Kt nO W W'->Calls prog 199 #[.pointer (some ⟨sb,0,none⟩),.int .u64 ((aQ x p k i:Nat):Int),.int .i64 p] W' fun e w'=>e=.returned (.tuple #[.int .i64 nx,.bool true])/\Kt nO W' w':=by
  cases r with
  | nil=>exact⟨-1,rfl,fun W' kk=>WN (o.sw.keep kk) _ _ hin (by rw[hao];exact lk.1)⟩
  | cons j r'=>
   have hjb:j<aG k:=lt j (List.mem_cons_of_mem _ List.mem_cons_self);have hj3:=kI (x:=x) (p:=p) hk hjb (by omega);obtain⟨a1,a2,a3,a4⟩:=sP (x:=x) (t:=t) hk hjb (by omega) hpn sp.kd sp.cl;refine⟨(j:Int),rfl,fun W' kk=>?_⟩;have:=WM (o.sw.keep kk) (aQ x p k i) p (aQ x p k j) hin (by rw[hao];exact lk.1) (by
    have e:aQ x p k j=x.bS+4096*p+j*aE k:=rfl;have:=o.sw.pl.bd.sp.cfg.b1;omega) hj3.2.2 a1 a2
   rw[a4] at this;exact this
 obtain⟨nx,hnx1,hnx2⟩:=hnx;have NX:=aA hnx2;obtain⟨q,hq⟩:=xe (t.m.pg p);have HA:=aA (show Calls prog 72 #[.pointer (some ⟨x.m,0,none⟩),.int .i64 p] W fun e w'=>e=.returned (.tuple #[cC q,.bool true])/\Kt nO W w' from by rw[hq];exact mD x.m x.B t.m p W o.sw.pl.bd.mp hpn);have HM:=aA (bZ o.sw.pl);have HC:=aA (show q.cl=(k:Int)from by rw[hq];exact sp.cl);have HF:=aA (show q.fs=(i:Int)from by rw[hq,sp.fs,hf];rfl);obtain⟨lv,hlv2⟩:∃ lv:Nat,q.lv=(lv:Int):=⟨_,by rw[hq];exact sp.lv⟩;have hlvr:lv=aG k-(r.length+1):=by
  have:=sp.lv;rw[<-hq,hlv2,hf] at this;have:=Int.ofNat.inj this;rw[this];rfl
 have HL:=aA hlv2;obtain⟨a,ha⟩:=xe (aQ x p k i);have AD:=aA (show ∀ W',Kt nO W W'->Calls prog 198 #[.pointer (some ⟨sb,0,none⟩),.int .i64 p,.int .i64 k,.int .i64 i] W' fun e w'=>e=.returned (.int .u64 a)/\Kt nO W' w' from fun W' kk=>by
  rw[ha];exact VA (o.sw.keep kk) p k i (by omega) hk (by omega))
 rw[<-ha] at NX ⊢;obtain⟨m1,hm1⟩:=xe (cQ t.m (p:Int) (i:Int) true);have OW:=aA (show ∀ W',Kt nO W W'->Calls prog 200 #[.pointer (some ⟨x.m,0,none⟩),.int .i64 p,.int .i64 i,.bool true] W' fun e w'=>e=.returned (.int .i64 0)/\SD w W' sb lw x t h m1 w' from fun W' kk=>by
  have:=GK (o.sw.keep kk) (p:Int) (i:Int) true;rw[hoE,<-hm1] at this;exact this)
 have FR:=aA (show ∀ W',SW w W' sb lw x { t with m:=m1 } h->Calls prog 196 #[.pointer (some ⟨x.m,0,none⟩),.int .i64 p,.int .i64 nx] W' fun e w'=>e=.returned (.int .i64 (jM m1 (p:Int) nx))/\SD w W' sb lw x { t with m:=m1 } h (fP m1 (p:Int) nx) w' from fun W' s=>xC s (p:Int) nx);obtain⟨m2,hm2⟩:=xe (fP m1 (p:Int) nx);have hM2:mC t.m p i r=m2:=by unfold mC;rw[hm2,hm1,hnx1]
 rw[<-hm2] at FR;generalize jM m1 (p:Int) nx=fe at *;obtain⟨mF,hmF⟩:=xe (dR t.m p i r);obtain⟨hF,hhF⟩:=xe (fK t.m h p k i r);rw[<-hmF,<-hhF];unfold dR at hmF;unfold fK at hhF;rw[hM2] at hmF hhF;have HMF:=aA hmF;have HHF:=aA hhF;have HO:=aA o.sw;obtain⟨c0,c1⟩:=o.sw.c0;have hnl2:=hnb.2.2;have CLS:=aA (show ∀ W' tt,SW w W' sb lw x tt h->Calls prog 201 #[.int .i64 k] W' fun e w'=>e=.returned (.int .i64 ((aG k:Nat):Int))/\w'=W' from fun W' tt s=>IN s k hk);obtain⟨N,hN⟩:=xe (aG k);rw[<-hN] at CLS;have HLR:=aA (show lv+1=N↔r=[] from by
  have h9:r.length+1<=aG k:=hlv;have h8:=hnb.2.1;rw[hlvr,hN];constructor
  ·intro e
   cases r with
   | nil=>rfl
   | cons j r'=>
    exfalso
    rw[List.length_cons] at e h9;omega
  ·intro e;rw[e,List.length_nil];omega)
 have hNb:N<=256:=by rw[hN];exact hnl2
 have hlvb:lv<=256:=by omega
 clear o sp nd lt lk hlv hls hpb n4 hf hib hnb hoff hin hao hcn hlit hoE hoM hnx2 hq hlv2 ha hm1 hm2 hM2 hmF hhF hlvr hN hnl2 hpn hc hnx1;go_enter func162,ntmps162;go_wp2_with fail;refine HM.out.mono ?_;rintro e w1 ⟨rfl,h1⟩;replace h1:=h1.symm;subst h1;go_wp2_with fail;refine HA.out.mono ?_;rintro e w2 ⟨rfl,hk2⟩;have K2:=aA (hk2.alloc (aI q));have X2:=aA (nH w2 (aI q));have S2:=aA (HO.out.keep K2.out);have NY:=aA (show ¬(aD x w2.heap.size\/w2.heap.size=sb)from fun e=>by
  rcases e with e|e
  ·exact absurd ((HO.out.keep hk2).pl.lt _ (.inl e)) (Nat.lt_irrefl _)
  ·have:=lH (HO.out.keep hk2).bx;omega)
 clear hk2 c0 c1;go_upto_region 2 with fail;generalize w2.heap.size=y at *;generalize w2.alloc (aI q)=W2 at *;have PQ:=aA (show ∀ W':World,W'.heap[y]?=some (aI q)->W'.cell? ⟨y,2,none⟩=some (.int .i64 k)/\W'.cell? ⟨y,3,none⟩=some (.int .i64 lv)/\W'.cell? ⟨y,6,none⟩=some (.int .i64 i)from fun W' hW=>by
  obtain⟨_,_,p2,p3,_,_,p6,_⟩:=fI hW;rw[HC.out] at p2;rw[HL.out] at p3;rw[HF.out] at p6;exact⟨p2,p3,p6⟩)
 obtain⟨p2,p3,p6⟩:=PQ.out _ X2.out;obtain⟨c0,c1⟩:=S2.out.c0;go_wp2_with fail;refine(AD.out _ K2.out).mono ?_;rintro e w3 ⟨rfl,hk3⟩;have K3:=aA (nT K2.out hk3);have X3:=aA ((hk3.block _ (lH X2.out) id).trans X2.out);clear hk3 c0 c1 p2 p3 p6;go_wp2_with fail;refine(NX.out _ K3.out).mono ?_;rintro e w4 ⟨rfl,hk4⟩;have K4:=aA (nT K3.out hk4);have X4:=aA ((hk4.block _ (lH X3.out) id).trans X3.out);have S4:=aA (HO.out.keep K4.out);clear hk4;go_upto_region 6 with fail;have KD:=aA ((Kt.refl nO w4).drew);have K5:=aA (nT K4.out KD.out);have S5:=aA (HO.out.keep K5.out);have X5:=aA ((KD.out.block _ (lH X4.out) id).trans X4.out);have MP:=aA (bZ S5.out.pl);obtain⟨p2,p3,p6⟩:=PQ.out _ X5.out;obtain⟨c0,c1⟩:=S5.out.c0;go_region_held3 (fun w'=>w'.cell? ⟨sb,0,none⟩=some (.pointer (some ⟨lw,0,none⟩))/\w'.cell? ⟨y,6,none⟩=some (.int .i64 i)) ((refine⟨?_,?_⟩ <;> first|with_reducible assumption|fail)) (first
  | (go_at_call 200;(with_reducible refine(OW.out _ K5.out).mono ?_);rintro e w6 ⟨rfl,hs6,hk6⟩;obtain⟨f0,f1⟩:=hs6.c0;have X6:=aA ((hk6.block _ (lH X5.out) (fun e=>NY.out (.inl e))).trans X5.out);obtain⟨f2,f3,f6⟩:=PQ.out _ X6.out;have S6:=aA hs6;have K6:=aA (K5.out.trans hk6 (fun _ _ e=>e.elim) (fun _ _ e=>e));clear hs6 hk6)
  | (go_at_call 45;(with_reducible refine MP.out.mono ?_);rintro e w5 ⟨rfl,h5⟩;replace h5:=h5.symm;subst h5)
  | fail)
 all_goals
  clear p2 p3 p6 c0 c1 f2 f3 f6;have MP6:=aA (bZ S6.out.pl);go_wp2_with fail;refine MP6.out.mono ?_;rintro e w7 ⟨rfl,h7⟩;replace h7:=h7.symm;subst h7;go_wp2_with fail;refine(FR.out _ S6.out).mono ?_;rintro e w7 ⟨rfl,hs7,hk7⟩;have S7:=aA hs7;have K7:=aA (K6.out.trans hk7 (fun _ _ e=>e) (fun _ _ e=>e));have X7:=aA ((hk7.block _ (lH X6.out) (fun e=>NY.out (.inl e))).trans X6.out);clear hs7 hk7 f0 f1;go_upto_region 9 with fail;obtain⟨p2,p3,p6⟩:=PQ.out _ X7.out;have KD7:=aA ((Kt.refl nO w7).drew);have X8:=aA ((KD7.out.block _ (lH X7.out) id).trans X7.out);obtain⟨q2,q3,q6⟩:=PQ.out _ X8.out;obtain⟨l1,hl1⟩:=xe (lv+1);have hl1i:(lv:Int)+1=(l1:Int):=by omega
  have hl1b:l1<=257:=by omega
  have hlw:IntKind.i64.wrap (l1:Int)=l1:=by rw[IntKind.wrap_i64];omega
  have HL1:=aA hl1;clear hl1;have CL:=aA (CLS.out _ _ (S7.out.keep KD7.out));go_region_held3 (fun w'=>w'.cell? ⟨y,3,none⟩=some (.int .i64 lv)) (first|with_reducible assumption|fail) (first
   | (go_at_call 201;(with_reducible refine CL.out.mono ?_);rintro e w8 ⟨rfl,h8⟩;replace h8:=h8.symm;subst h8)
   | fail)
  all_goals
   have S8:=aA (S7.out.keep KD7.out);have K8:=aA (K7.out.trans KD7.out (fun _ _ e=>e) (fun _ _ e=>e.elim));clear p2 p3 p6 q2 q3 q6 CL;by_cases hr:r=[]
   ·have hb:((l1:Int) == (N:Int))=true:=by
     rw[beq_iff_eq,HL1.out];have:=HLR.out.2 hr;omega
    have UL:=aA (show Calls prog 202 #[.pointer (some ⟨sb,0,none⟩),.int .i64 p,.int .i64 k] w7.drew fun e w'=>e=.returned (.tuple #[])/\SE w w7.drew sb lw x t mF hF w' from by
     have:=ON S8.out (p:Int) k hk;rw[HMF.out,HHF.out,if_pos hr,if_pos hr];exact this)
    generalize w7.drew=W8 at *;as_aux_lemma=>
     go_wp2_with fail;refine UL.out.mono ?_;rintro e w9 ⟨rfl,hs9,hk9⟩;have D:=aA (show SE w W sb lw x t mF hF w9 from⟨hs9,(K8.out.mono (fun _ _ e=>.inl e)).trans hk9 (fun _ _ e=>e) (fun _ _ e=>e)⟩);clear hs9 hk9;go_wp2_with fail;exact⟨rfl,.tuple #[.int .u64 a,.int .i64 0],by simp[results,results162,go_sem],rfl,D.out⟩
   ·have hb:((l1:Int) == (N:Int))=false:=by
     rw[beq_eq_false_iff_ne,HL1.out];intro e;exact hr (HLR.out.1 (by omega))
    have D:=aA (show SE w W sb lw x t mF hF w7.drew from by
     rw[HMF.out,HHF.out,if_neg hr,if_neg hr];exact⟨S8.out,K8.out.mono (fun _ _ e=>.inl e)⟩)
    generalize w7.drew=W8 at *;as_aux_lemma=>
     go_wp2_with fail;exact⟨rfl,.tuple #[.int .u64 a,.int .i64 0],by simp[results,results162,go_sem],rfl,D.out⟩
end Go.Proofs.YtkfmheelhinjdaaGreatDoor
