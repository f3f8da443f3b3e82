import Derived.Test.YtbgbfpklgfpepaaGreatDoorXo
import Derived.Deep.Upon
set_option maxRecDepth 1000000
set_option maxHeartbeats 80000000
namespace Go.Proofs.YtbgbfpklgfpepaaGreatDoor
open Tryz
open Go.RowKit
open Go.MuLone
set_option linter.unusedVariables false
section
variable {w W:World} {wb sb lw:Nat} {x:Bx} {t:Bt} {fr:Nat->List Nat} {ls:List (Nat×Nat)} {S:Sb} {h:Nat->Int}
theorem SO.wroteP{W':World}(o:SO w W sb lw x t fr ls S h){p s:Nat}(hl:aG x ls S p s){f':Nat->Nat}(hf:∀ j,¬(p<=x.bS+j/\x.bS+j<p+s)->f' j=t.f j)(hs:M.SpA W' x.s x.a x.bS x.R x.lim x.n f')(k:Kt (M.own x.s x.a) W W'):SO w W' sb lw x { t with f:=f' } fr ls S h:=by
 have kb:Kt (aE x) W W':=k.mono (fun _ _ e=>.inl e);obtain⟨_,q,j,h1,h2,h3⟩:=o.span hl;unfold ad at h2 h3;refine⟨⟨o.sw.pl.space0 k hs,(kb.block _ (lH o.sw.bx) (fun e=>o.sw.nsb (.inl e))).trans o.sw.bx,o.sw.nw,o.sw.tb⟩,o.sf.fill h1 (fun i hi=>hf i (fun e=>?_)),o.st,o.bm,⟨o.si.eP,o.si.pg,fun g c hg=>?_,o.si.lv,o.si.pn,o.si.pm⟩,o.hd⟩
 ·omega
 ·obtain⟨n1,n2,n3⟩:=o.si.fl g c hg;have hk:=(o.si.pg g c hg).1;have hz:=bU hk;have hm:=o.mem hg;have n4:=o.po.nums.2.2.2.1;refine⟨n1,n2,pY rfl (fun i hi=>yH fun b hb=>hf _ (fun e=>?_)) n3⟩;have hib:=n2 i hi;have hcc:=fQ (x:=x) (p:=g) hk hib (by omega)
  have hca:aO x g c i=x.bS+4096*g+i*aC c:=rfl;rcases hl with ⟨g',c',i',⟨l1,l2,l3,rfl⟩,rfl⟩|⟨q',j',l1,l2,rfl,rfl⟩
  ·have hk':=(o.si.pg g' c' l1).1;have hm':=o.mem l1;have hcc':=fQ (x:=x) (p:=g') hk' l2 (by omega);have hca':aO x g' c' i'=x.bS+4096*g'+i'*aC c':=rfl;have eg:g'=g:=(by omega);subst eg;rw[hg] at l1;injection l1 with l1
   subst l1;rcases Nat.lt_trichotomy i i' with e2|rfl|e2
   ·have:(i+1)*aC c<=i'*aC c:=Nat.mul_le_mul_right _ e2;rw[Nat.add_mul,Nat.one_mul] at this;omega
   ·exact l3 hi
   ·have:(i'+1)*aC c<=i*aC c:=Nat.mul_le_mul_right _ e2;rw[Nat.add_mul,Nat.one_mul] at this;omega
  ·have had:ad x q'=x.bS+4096*q':=rfl;rcases o.apart hm.1 l1 with ⟨e2,_⟩|e2|e2
   ·rw[<-e2,hg] at l2;cases l2
   ·rw[Nat.pow_zero] at e2;omega
   ·omega
end
section
variable {w W W1 W':World} {hb sb lw:Nat} {x:Bx} {t:Bt} {fr:Nat->List Nat} {ls:List (Nat×Nat)} {S:Sb} {s:Int}
def Wr(w W:World)(hb sb lw:Nat)(x:Bx)(t:Bt)(fr:Nat->List Nat)(ls:List (Nat×Nat))(S:Sb)(s:Int)(f':Nat->Nat)(w':World):Prop:=HW w w' hb sb lw x { t with f:=f' } fr ls S s/\Kt (bG x sb) W w'
theorem HW.wrote(H:HW w W hb sb lw x t fr ls S s){p z:Nat}(hl:aG x ls S p z){f':Nat->Nat}(hf:∀ j,¬(p<=x.bS+j/\x.bS+j<p+z)->f' j=t.f j)(hs:M.SpA W' x.s x.a x.bS x.R x.lim x.n f')(k:Kt (M.own x.s x.a) W W'):Wr w W hb sb lw x t fr ls S s f' W':=by
 obtain⟨h,o⟩:=H.so;have o':=o.wroteP hl hf hs k;have ks:Kt (bG x sb) W W':=k.mono (fun _ _ e=>.inl (.inl e));exact⟨⟨⟨h,o'⟩,H.lv,(ks.block _ (lH H.bx) H.nhb).trans H.bx,H.nw,H.br⟩,ks⟩
theorem Wr.from{f':Nat->Nat}(k:Kt nO W W1)(h:Wr w W1 hb sb lw x t fr ls S s f' W'):Wr w W hb sb lw x t fr ls S s f' W':=
 ⟨h.1,(k.mono (fun _ _ e=>e.elim)).trans h.2 (fun _ _ e=>e) (fun _ _ e=>e)⟩
theorem Wr.out{f':Nat->Nat}(H:HW w W hb sb lw x t fr ls S 0)(h:Wr w (cY W hb) hb sb lw x t fr ls S 1 f' W'):Wr w W hb sb lw x t fr ls S 0 f' (dZ W' hb):=
 ⟨(h.1.set 0).1,H.round H.nhb h.2 h.1 rfl rfl rfl⟩
def eL(x:Bx)(ls:List (Nat×Nat))(S:Sb)(p n:Nat)(l:Bool):Prop:=(l=true/\∃ a z,aG x ls S a z/\a<=p/\p<a+z/\p+n<=a+z)\/(l=false/\∀ a z,aG x ls S a z->¬(a<=p/\p<a+z/\p+n<=a+z))
theorem qD(H:HW w W hb sb lw x t fr ls S s)(p n:Nat)(hp:p<18446744073709551616)(hn:n<18446744073709551616):
  Calls prog 52 #[.pointer (some ⟨hb,0,none⟩),.int .u64 p,.int .u64 n] W fun e w'=>∃ l,e=.returned (.bool l)/\eL x ls S p n l/\Kt nO W w':=by
 have AR:=aA (EF H p hp);have HH:=aA H;clear H;go_enter func52,ntmps52;go_wp2_with fail;refine AR.out.mono ?_;rintro e w2 ⟨a,z,l,rfl,ar,hk⟩;have K3:=aA (hk.alloc (cJ a z));have X6:=aA (nH w2 (cJ a z));obtain⟨x0,x1,xf⟩:=gF X6.out;rcases ar with ⟨rfl,hl,h1,h2⟩|⟨rfl,hl⟩
 ·obtain⟨h',o⟩:=HH.out.so;have hi:=o.inside hl;have n4:=o.po.nums.2.2.2.1;obtain⟨c,hc⟩:=xe (a+z-p);have e1:(a:Int)+(z:Int)-(p:Int)=c:=by omega
  have e2:IntKind.u64.wrap ((a:Int)+(z:Int))=(a:Int)+(z:Int):=by rw[wrap_u64];omega
  have e3:((a:Int)+(z:Int))%18446744073709551616=(a:Int)+(z:Int):=by omega
  have hcb:c<18446744073709551616:=by omega
  by_cases hle:n<=c
  ·have D:=aA (show eL x ls S p n true from .inl ⟨rfl,a,z,hl,h1,h2,by omega⟩);have q1:decide ((n:Int)<=c)=true:=decide_eq_true (by omega);have q2:decide (n<=c)=true:=decide_eq_true hle;have hab:a<9223372036854775808:=(by omega);have hzb:z<=9223372036854775808:=(by omega);clear hl h1 h2 o n4 hc hi hle hk;go_wp2_with fail;go_ret;exact⟨true,by simp,D.out,K3.out⟩
  ·have D:=aA (show eL x ls S p n false from .inr ⟨rfl,fun b y hl2 ⟨g1,g2,g3⟩=>by
    rcases o.two hl hl2 with ⟨e1,e2⟩|e|e <;> omega⟩)
   have q1:decide ((n:Int)<=c)=false:=decide_eq_false (by omega);have q2:decide (n<=c)=false:=decide_eq_false hle;have hab:a<9223372036854775808:=(by omega);have hzb:z<=9223372036854775808:=(by omega);clear hl h1 h2 o n4 hc hi hle hk;go_wp2_with fail;go_ret;exact⟨false,by simp,D.out,K3.out⟩
 ·have D:=aA (show eL x ls S p n false from .inr ⟨rfl,fun b y hl2 ⟨g1,g2,g3⟩=>hl b y hl2 ⟨g1,g2⟩⟩);clear hl hk;go_wp2_with fail;go_ret;exact⟨false,rfl,D.out,K3.out⟩
theorem HW.wi(H:HW w W hb sb lw x t fr ls S s){p n:Nat}(h:eL x ls S p n true):∃ a z,aG x ls S a z/\a<=p/\p+n<=a+z/\M.In x.bS x.n p n:=by
 obtain⟨h',o⟩:=H.so;rcases h with ⟨_,a,z,hl,h1,h2,h3⟩|⟨h1,_⟩
 ·have hi:=o.inside hl;have n4:=o.po.nums.2.2.2.1;exact⟨a,z,hl,h1,h3,by unfold M.In;omega⟩
 ·cases h1
theorem HW.space(H:HW w W hb sb lw x t fr ls S s)(hn : 0<x.n):∃ g,x.a=some g/\M.SpA W x.s (some g) x.bS x.R x.lim x.n t.f:=by
 have hs:=H.po.pl.bd.sp;obtain⟨g,hg⟩:=yE hs hn;exact⟨g,hg,by rw[hg] at hs;exact hs⟩
theorem HW.byte(H:HW w W hb sb lw x t fr ls S s){p:Nat}(hin:M.In x.bS x.n p 1):
  Calls prog 55 #[.pointer (some ⟨x.s,0,none⟩),.int .u64 p] W fun e w'=>e=.returned (.tuple #[.int .u8 ((t.f (p-x.bS):Nat):Int),.int .i64 0])/\Kt nO W w':=by
 obtain⟨g,hg,hs⟩:=H.space (by unfold M.In at hin;omega);refine(M.Byte_in x.s g x.bS x.R x.lim x.n t.f p W hs hin).mono ?_;rintro e w' ⟨rfl,h2⟩;exact⟨rfl,dR h2⟩
theorem HW.word(H:HW w W hb sb lw x t fr ls S s){p:Nat}(hin:M.In x.bS x.n p 8):
  Calls prog 56 #[.pointer (some ⟨x.s,0,none⟩),.int .u64 p] W fun e w'=>e=.returned (.tuple #[.int .u64 ((M.word t.f (p-x.bS):Nat):Int),.int .i64 0])/\Kt nO W w':=by
 obtain⟨g,hg,hs⟩:=H.space (by unfold M.In at hin;omega);refine(M.Word_in x.s g x.bS x.R x.lim x.n t.f p W hs hin).mono ?_;rintro e w' ⟨rfl,h2⟩;exact⟨rfl,dR h2⟩
theorem HW.setByte(H:HW w W hb sb lw x t fr ls S s){p v:Nat}(hv:v<256)(hw:eL x ls S p 1 true):
  Calls prog 109 #[.pointer (some ⟨x.s,0,none⟩),.int .u64 p,.int .u8 v] W fun e w'=>e=.returned (.int .i64 0)/\Wr w W hb sb lw x t fr ls S s (M.upd t.f (p-x.bS) 1 fun _=>v) w':=by
 obtain⟨a,z,hl,h1,h2,hin⟩:=H.wi hw;obtain⟨g,hg,hs⟩:=H.space (by unfold M.In at hin;omega);refine(M.SetByte_in x.s g x.bS x.R x.lim x.n t.f p v hv W hs hin).mono ?_;rintro e w' ⟨rfl,h3,h4⟩;rw[<-hg] at h3 h4;refine⟨rfl,H.wrote hl (fun j hj=>M.upd_out _ _ _ _ _ (fun e=>hj ?_)) h3 (dR h4)⟩;unfold M.In at hin;omega
theorem HW.setWord(H:HW w W hb sb lw x t fr ls S s){p v:Nat}(hv:v<18446744073709551616)(hw:eL x ls S p 8 true):
  Calls prog 54 #[.pointer (some ⟨x.s,0,none⟩),.int .u64 p,.int .u64 v] W fun e w'=>e=.returned (.int .i64 0)/\Wr w W hb sb lw x t fr ls S s (M.upd t.f (p-x.bS) 8 (M.byteOf v)) w':=by
 obtain⟨a,z,hl,h1,h2,hin⟩:=H.wi hw;obtain⟨g,hg,hs⟩:=H.space (by unfold M.In at hin;omega);refine(M.SetWord_in x.s g x.bS x.R x.lim x.n t.f p v hv W hs hin).mono ?_;rintro e w' ⟨rfl,h3,h4⟩;rw[<-hg] at h3 h4;refine⟨rfl,H.wrote hl (fun j hj=>M.upd_out _ _ _ _ _ (fun e=>hj ?_)) h3 (dR h4)⟩;unfold M.In at hin;omega
theorem LZ(H:HW w W hb sb lw x t fr ls S 0)(p:Nat)(hp:p<18446744073709551616):
  Calls prog 17 #[.pointer (some ⟨hb,0,none⟩),.int .u64 p] W fun e w'=>∃ v er,e=.returned (.tuple #[.int .u8 ((v:Nat):Int),.int .i64 er])/\((er=0/\eL x ls S p 1 true/\v=t.f (p-x.bS))\/(er=4/\eL x ls S p 1 false/\v=0))/\Kt nO W w':=by
 have LK:=aA H.lock;have HH:=aA H;have WI:=aA (qD H.in p 1 hp (by decide));clear H;go_enter_defers func17,ntmps17;go_wp2_with fail;refine LK.out.mono ?_;rintro e w1 ⟨rfl,rfl⟩;go_wp2_with fail;refine WI.out.mono ?_;rintro e w2 ⟨l,rfl,hl,hk⟩;have H2:=aA (HH.out.in.keep hk);have K2:=aA hk;clear hk
 cases l with
 | false=>
  have L:=aA hl;have UL:=aA (H2.out.unlock .returning);have D:=aA (HH.out.kout K2.out);clear hl;go_wp2_with fail;refine leaves_cons (f:=36) (args:=#[.pointer (some ⟨hb,0,none⟩)]) (by simp) (by simp[go_sem]) ?_;refine UL.out.mono ?_;rintro e u' w3 ⟨rfl,rfl,rfl⟩;exact⟨_,results_tmp2 rfl _ _ _,0,4,rfl,.inr ⟨rfl,L.out,rfl⟩,D.out⟩
 | true=>
  have L:=aA hl;obtain⟨a,z,_,_,_,hin⟩:=H2.out.wi hl;have SP:=aA (gX H2.out.po.pl);have BY:=aA (H2.out.byte hin);obtain⟨c0,c2,c3,c4,c5,c6⟩:=H2.out.c;obtain⟨l0,l1,l2⟩:=H2.out.po.pl.c;obtain⟨v,hv⟩:=xe (t.f (p-x.bS));rw[<-hv] at BY;have HV:=aA hv;clear hl hin hv;go_wp2_with fail;refine SP.out.mono ?_;rintro e w3 ⟨rfl,h3⟩;replace h3:=h3.symm;subst h3;go_wp2_with fail;refine BY.out.mono ?_;rintro e w4 ⟨rfl,hk⟩;have UL:=aA ((H2.out.keep hk).unlock .returning);have D:=aA (HH.out.kout (nT K2.out hk));clear hk;go_wp2_with fail;refine leaves_cons (f:=36) (args:=#[.pointer (some ⟨hb,0,none⟩)]) (by simp) (by simp[go_sem]) ?_;refine UL.out.mono ?_;rintro e u' w3 ⟨rfl,rfl,rfl⟩;exact⟨_,results_tmp2 rfl _ _ _,v,0,rfl,.inl ⟨rfl,L.out,HV.out⟩,D.out⟩
theorem zhy(H:HW w W hb sb lw x t fr ls S 0)(p:Nat)(hp:p<18446744073709551616):
  Calls prog 18 #[.pointer (some ⟨hb,0,none⟩),.int .u64 p] W fun e w'=>∃ v er,e=.returned (.tuple #[.int .u64 ((v:Nat):Int),.int .i64 er])/\((er=0/\eL x ls S p 8 true/\v=M.word t.f (p-x.bS))\/(er=4/\eL x ls S p 8 false/\v=0))/\Kt nO W w':=by
 have LK:=aA H.lock;have HH:=aA H;have WI:=aA (qD H.in p 8 hp (by decide));clear H;go_enter_defers func18,ntmps18;go_wp2_with fail;refine LK.out.mono ?_;rintro e w1 ⟨rfl,rfl⟩;go_wp2_with fail;refine WI.out.mono ?_;rintro e w2 ⟨l,rfl,hl,hk⟩;have H2:=aA (HH.out.in.keep hk);have K2:=aA hk;clear hk
 cases l with
 | false=>
  have L:=aA hl;have UL:=aA (H2.out.unlock .returning);have D:=aA (HH.out.kout K2.out);clear hl;go_wp2_with fail;refine leaves_cons (f:=36) (args:=#[.pointer (some ⟨hb,0,none⟩)]) (by simp) (by simp[go_sem]) ?_;refine UL.out.mono ?_;rintro e u' w3 ⟨rfl,rfl,rfl⟩;exact⟨_,results_tmp2 rfl _ _ _,0,4,rfl,.inr ⟨rfl,L.out,rfl⟩,D.out⟩
 | true=>
  have L:=aA hl;obtain⟨a,z,_,_,_,hin⟩:=H2.out.wi hl;have SP:=aA (gX H2.out.po.pl);have BY:=aA (H2.out.word hin);obtain⟨c0,c2,c3,c4,c5,c6⟩:=H2.out.c;obtain⟨l0,l1,l2⟩:=H2.out.po.pl.c;obtain⟨v,hv⟩:=xe (M.word t.f (p-x.bS));rw[<-hv] at BY;have HV:=aA hv;clear hl hin hv;go_wp2_with fail;refine SP.out.mono ?_;rintro e w3 ⟨rfl,h3⟩;replace h3:=h3.symm;subst h3;go_wp2_with fail;refine BY.out.mono ?_;rintro e w4 ⟨rfl,hk⟩;have UL:=aA ((H2.out.keep hk).unlock .returning);have D:=aA (HH.out.kout (nT K2.out hk));clear hk;go_wp2_with fail;refine leaves_cons (f:=36) (args:=#[.pointer (some ⟨hb,0,none⟩)]) (by simp) (by simp[go_sem]) ?_;refine UL.out.mono ?_;rintro e u' w3 ⟨rfl,rfl,rfl⟩;exact⟨_,results_tmp2 rfl _ _ _,v,0,rfl,.inl ⟨rfl,L.out,HV.out⟩,D.out⟩
theorem zfU(H:HW w W hb sb lw x t fr ls S 0)(p v:Nat)(hp:p<18446744073709551616)(hv:v<18446744073709551616):
  Calls prog 16 #[.pointer (some ⟨hb,0,none⟩),.int .u64 p,.int .u64 v] W fun e w'=>∃ er,e=.returned (.int .i64 er)/\((er=0/\eL x ls S p 8 true/\Wr w W hb sb lw x t fr ls S 0 (M.upd t.f (p-x.bS) 8 (M.byteOf v)) w')\/(er=4/\eL x ls S p 8 false/\Kt nO W w')):=by
 have LK:=aA H.lock;have HH:=aA H;have WI:=aA (qD H.in p 8 hp (by decide));clear H;go_enter_defers func16,ntmps16;go_wp2_with fail;refine LK.out.mono ?_;rintro e w1 ⟨rfl,rfl⟩;go_wp2_with fail;refine WI.out.mono ?_;rintro e w2 ⟨l,rfl,hl,hk⟩;have H2:=aA (HH.out.in.keep hk);have K2:=aA hk;clear hk
 cases l with
 | false=>
  have L:=aA hl;have UL:=aA (H2.out.unlock .returning);have D:=aA (HH.out.kout K2.out);clear hl;go_wp2_with fail;refine leaves_cons (f:=36) (args:=#[.pointer (some ⟨hb,0,none⟩)]) (by simp) (by simp[go_sem]) ?_;refine UL.out.mono ?_;rintro e u' w3 ⟨rfl,rfl,rfl⟩;exact⟨_,results_tmp rfl _ _ _,4,rfl,.inr ⟨rfl,L.out,D.out⟩⟩
 | true=>
  have L:=aA hl;have SP:=aA (gX H2.out.po.pl);have BY:=aA (H2.out.setWord hv hl);obtain⟨c0,c2,c3,c4,c5,c6⟩:=H2.out.c;obtain⟨l0,l1,l2⟩:=H2.out.po.pl.c;clear hl;go_wp2_with fail;refine SP.out.mono ?_;rintro e w3 ⟨rfl,h3⟩;replace h3:=h3.symm;subst h3;go_wp2_with fail;refine BY.out.mono ?_;rintro e w4 ⟨rfl,hw⟩;have UL:=aA (hw.1.unlock .returning);have D:=aA ((hw.from K2.out).out HH.out);clear hw;go_wp2_with fail;refine leaves_cons (f:=36) (args:=#[.pointer (some ⟨hb,0,none⟩)]) (by simp) (by simp[go_sem]) ?_;refine UL.out.mono ?_;rintro e u' w3 ⟨rfl,rfl,rfl⟩;exact⟨_,results_tmp rfl _ _ _,0,rfl,.inl ⟨rfl,L.out,D.out⟩⟩
theorem UX(H:HW w W hb sb lw x t fr ls S 0)(p v:Nat)(hp:p<18446744073709551616)(hv:v<256):
  Calls prog 66 #[.pointer (some ⟨hb,0,none⟩),.int .u64 p,.int .u8 v] W fun e w'=>∃ er,e=.returned (.int .i64 er)/\((er=0/\eL x ls S p 1 true/\Wr w W hb sb lw x t fr ls S 0 (M.upd t.f (p-x.bS) 1 fun _=>v) w')\/(er=4/\eL x ls S p 1 false/\Kt nO W w')):=by
 have LK:=aA H.lock;have HH:=aA H;have WI:=aA (qD H.in p 1 hp (by decide));clear H;go_enter_defers func66,ntmps66;go_wp2_with fail;refine LK.out.mono ?_;rintro e w1 ⟨rfl,rfl⟩;go_wp2_with fail;refine WI.out.mono ?_;rintro e w2 ⟨l,rfl,hl,hk⟩;have H2:=aA (HH.out.in.keep hk);have K2:=aA hk;clear hk
 cases l with
 | false=>
  have L:=aA hl;have UL:=aA (H2.out.unlock .returning);have D:=aA (HH.out.kout K2.out);clear hl;go_wp2_with fail;refine leaves_cons (f:=36) (args:=#[.pointer (some ⟨hb,0,none⟩)]) (by simp) (by simp[go_sem]) ?_;refine UL.out.mono ?_;rintro e u' w3 ⟨rfl,rfl,rfl⟩;exact⟨_,results_tmp rfl _ _ _,4,rfl,.inr ⟨rfl,L.out,D.out⟩⟩
 | true=>
  have L:=aA hl;have SP:=aA (gX H2.out.po.pl);have BY:=aA (H2.out.setByte hv hl);obtain⟨c0,c2,c3,c4,c5,c6⟩:=H2.out.c;obtain⟨l0,l1,l2⟩:=H2.out.po.pl.c;clear hl;go_wp2_with fail;refine SP.out.mono ?_;rintro e w3 ⟨rfl,h3⟩;replace h3:=h3.symm;subst h3;go_wp2_with fail;refine BY.out.mono ?_;rintro e w4 ⟨rfl,hw⟩;have UL:=aA (hw.1.unlock .returning);have D:=aA ((hw.from K2.out).out HH.out);clear hw;go_wp2_with fail;refine leaves_cons (f:=36) (args:=#[.pointer (some ⟨hb,0,none⟩)]) (by simp) (by simp[go_sem]) ?_;refine UL.out.mono ?_;rintro e u' w3 ⟨rfl,rfl,rfl⟩;exact⟨_,results_tmp rfl _ _ _,0,rfl,.inl ⟨rfl,L.out,D.out⟩⟩
theorem HW.rg(H:HW w W hb sb lw x t fr ls S s):∃ r,t.m.n=r*2 ^ x.o/\r<=x.lim/\x.n=r*x.R:=H.po.nums.2.2.2.2.1
theorem HW.trim(H:HW w W hb sb lw x t fr ls S s){r:Nat}(hr:t.m.n=r*2 ^ x.o):
  Calls prog 57 #[.pointer (some ⟨lw,0,none⟩)] W fun e w'=>e=.returned (.int .i64 ((eS x.o r fr).1:Int))/\∃ x' t',Nx w W w' hb sb lw x t ls S s x' t' (eS x.o r fr).2 ls S/\t'.m.n=(r-(eS x.o r fr).1)*2 ^ x.o:=by
 obtain⟨h,o⟩:=H.so;refine(K.Trim_any o.po r hr).mono ?_;rintro e w' ⟨rfl,x',t',po',sm,htn,kp,nb,bk⟩;have o':=o.pool po' sm bk (fun a c ha=>(o.mem ha).1) kp;have ks:Kt (bG x sb) W w':=kp.mono (fun _ _ e=>.inl e);have ch:Ch x t ls S x' t' ls S:=⟨sm.bS,sm.R,sm.lim,sm.o,fun j h1 h2=>bk j (o.byte h1) (o'.byte h2)⟩;exact⟨rfl,x',t',⟨H.call o' H.lv ch ks,ch,ks,fun y e=>e.elim (fun e=>(nb y e).imp (fun e=>.inl e) id) (fun e=>.inl (.inr e))⟩,htn⟩
theorem LW(H:HW w W hb sb lw x t fr ls S 0){r:Nat}(hr:t.m.n=r*2 ^ x.o):
  Calls prog 19 #[.pointer (some ⟨hb,0,none⟩)] W fun e w'=>e=.returned (.int .i64 ((eS x.o r fr).1:Int))/\∃ x' t',Nx w W w' hb sb lw x t ls S 0 x' t' (eS x.o r fr).2 ls S/\t'.m.n=(r-(eS x.o r fr).1)*2 ^ x.o:=by
 have LK:=aA H.lock;have HH:=aA H;have TR:=aA (H.in.trim hr);obtain⟨c0,c2,c3,c4,c5,c6⟩:=H.in.c;obtain⟨n,hn⟩:=xe ((eS x.o r fr).1);rw[<-hn] at TR ⊢;clear H hr hn;go_enter_defers func19,ntmps19;go_wp2_with fail;refine LK.out.mono ?_;rintro e w1 ⟨rfl,rfl⟩;go_wp2_with fail;refine TR.out.mono ?_;rintro e w2 ⟨rfl,x',t',nx,htn⟩;have UL:=aA (nx.H.unlock .returning);have D:=aA (And.intro (nx.out HH.out) htn);clear nx htn;go_wp2_with fail;refine leaves_cons (f:=36) (args:=#[.pointer (some ⟨hb,0,none⟩)]) (by simp) (by simp[go_sem]) ?_;refine UL.out.mono ?_;rintro e u' w3 ⟨rfl,rfl,rfl⟩;exact⟨_,results_tmp rfl _ _ _,rfl,x',t',D.out.1,D.out.2⟩
end
theorem GS.pushM{w0 W:World}{e:TypeId}{size:Nat}{v:Value}{n:Nat}{xs:List Value}(h:GS w0 W e size v n xs)(t:TypeId)(i:TypeInfo)(z:Value)(bytes:Nat)
  (ht:prog.underlying t=some (.slice e)) (hi:prog.info? e=some i) (hz:i.zero=some z) (hs:i.size=size) (hby:i.bytes=bytes) (hzs:z.cells.size=size) (hsz : 0<size)
  (a:Addr) (c m:Nat) (hm : 0<m) (news:List Value) (hl':news.length=m*size) (hnews:∀ j u,news[j]?=some u->W.cell? (a.add j)=some u) (h1:∀ u∈news,u.oneCell'=true) (h63:n+m<=maxLen) (hbb:(n+m)*bytes<=140737488355328):
  ∃ g cap w',(∀ ty,(Builtin.append_ #[t,t] ty #[v,.slice (some a) m c]).run prog W=.ok (.slice (some ⟨g,0,none⟩) (n + m) cap) w')/\GS w0 w' e size (.slice (some ⟨g,0,none⟩) (n + m) cap) (n + m) (xs ++ news)/\w0.heap.size<=g/\Kt (fun b=>v.ownBlock=some b) W w'/\(v.ownBlock=some g\/W.heap.size<=g):=by
 have ho:=h.own;by_cases hr:∃ g cap,v=.slice (some ⟨g,0,none⟩) n cap/\n+m<=cap
 ·obtain⟨g,cap,rfl,hroom⟩:=hr;obtain⟨w',hrun,hown,hgr⟩:=run_append_fits (P:=prog) W 0 t 0 e i size ht hi hs g n cap xs ho a m c news hl' hnews h1 hroom;have hg:=(h.new g cap rfl).resolve_left (by omega);have hk:=yF hgr;refine⟨g,cap,w',fun ty=>?_,⟨hown,fun g' cap' e=>?_,h.kp.trans hk (fun _ _ x=>x) (fun x hx e=>?_)⟩,hg,hk,.inl (by simp[Value.ownBlock])⟩
  ·rw[<-hrun];simp[Builtin.append_]
  ·simp at e;exact .inr (by omega)
  ·cases e;omega
 ·have key:∃ v' w',(Builtin.append_ #[t,t] 0 #[v,.slice (some a) m c]).run prog W=.ok v' w'/\w'.ownsRow W.heap.size e size v' (n + m) (xs ++ news)/\Kt nO W w':=by
   rcases ho.2 with ⟨rfl,h0⟩|⟨g,cap,cur,rfl,hb,hg,hnc,hcm,hcs,htake⟩
   ·subst h0;have:xs=[]:=List.eq_nil_of_length_eq_zero (by rw[ho.1,Nat.zero_mul]);subst this;obtain⟨v',w',hrun,hown,hgr,_⟩:=run_append_own (P:=prog) W W.heap.size t 0 e i z size bytes ht hi hz hs hby hzs hsz (.slice none 0 0) 0 [] (World.ownsRow_nil _ _ _ _) a m c news hl' hnews h1 h63 hbb (Nat.le_refl _);exact⟨v',w',hrun,hown,(yF hgr).mono (fun _ _ e=>by cases e)⟩
   ·obtain⟨v',w',hrun,hown,hgr⟩:=run_append_arg_grows (P:=prog) W t 0 e i z size bytes ht hi hz hs hby hzs hsz ⟨g,0,none⟩ n cap xs ho.1 (fun j u hj=>by
     rw[Addr.add_lit,Nat.zero_add];rw[<-htake,List.getElem?_take] at hj;split at hj
     ·simp only[World.cell?,hg];rw[<-Array.getElem?_toList,hj];rfl
     ·cases hj) a m c news hl' hnews (Nat.lt_of_not_le fun hle=>hr ⟨g,cap,rfl,hle⟩) h63 hbb
    exact⟨v',w',hrun,hown,(yF hgr).mono (fun _ _ e=>by cases e)⟩
  obtain⟨v',w',hrun,hown,hk⟩:=key;rcases hown.2 with ⟨_,h0⟩|⟨g,cap,cur,rfl,hb,hg,h3⟩
  ·omega
  ·refine⟨g,cap,w',fun ty=>?_,⟨⟨hown.1,.inr ⟨g,cap,cur,rfl,Nat.zero_le _,hg,h3⟩⟩,fun g' cap' e=>?_,nT h.kp hk⟩,Nat.le_trans h.kp.size hb,hk.mono (fun _ _ e=>e.elim),.inr hb⟩
   ·rw[<-hrun];simp[Builtin.append_]
   ·simp at e;exact .inr (by have:=h.kp.size;omega)
def dC:List (Nat×Nat)->List Value
 | []=>[]
 | b :: l=>.int .u64 b.1 :: .int .u64 b.2 :: dC l
theorem nN:∀ l m:List (Nat×Nat),dC (l ++ m)=dC l ++ dC m
 | [],_=>rfl
 | b :: l,m=>by
  show _ :: _ :: dC (l ++ m)=_
  rw[nN l m];rfl
theorem CJ:∀ l:List (Nat×Nat),(dC l).length=l.length*2
 | []=>rfl
 | b :: l=>by
  show(dC l).length+1+1=(l.length+1)*2
  rw[CJ l];omega
theorem CI:∀ (l:List (Nat×Nat)) (u:Value),u∈dC l->u.oneCell'=true
 | b :: l,u,h=>by
  rcases List.mem_cons.1 h with rfl|h
  ·rfl
  ·rcases List.mem_cons.1 h with rfl|h
   ·rfl
   ·exact CI l u h
theorem xF:(prog.info? 74).map (fun i=>(i.zero,i.size,i.bytes))=some (some (.agg #[.int .u64 0,.int .u64 0]),2,16):=by kernel_rfl
abbrev GB(w0 W:World)(v:Value)(l:List (Nat×Nat)):Prop:=GS w0 W 74 2 v l.length (dC l)
theorem GB.push{w0 W:World}{v:Value}{l:List (Nat×Nat)}(h:GB w0 W v l)(a s:Nat)(hn:l.length<=4000000):
  ∃ g cap w',(∀ t,(Builtin.append_ #[71,71] t #[v,.slice (some ⟨W.heap.size,0,none⟩) 1 1]).run prog (W.alloc (cJ a s))=.ok (.slice (some ⟨g,0,none⟩) (l.length + 1) cap) w')/\GB w0 w' (.slice (some ⟨g,0,none⟩) (l.length + 1) cap) (l ++ [(a,s)])/\Kt (fun b=>v.ownBlock=some b) W w':=by
 obtain⟨i,hi,hzz⟩:=Option.map_eq_some_iff.1 xF;simp only[Prod.mk.injEq] at hzz;have ka:=(Kt.refl nO W).alloc (cJ a s);obtain⟨g,cap,w',h1,h2,h5,h6,h7⟩:=(GS.keep h ka).pushM 71 i (.agg #[.int .u64 0,.int .u64 0]) 16 Tryz.underlying71 hi hzz.1 hzz.2.1 hzz.2.2 rfl (by decide) ⟨W.heap.size,0,none⟩ 1 1 (by decide) [.int .u64 a,.int .u64 s] rfl (fun j u hj=>pX (cs:=#[.int .u64 a,.int .u64 s]) j u hj) (by simp[Value.oneCell']) (by simp only[maxLen];omega) (by omega);refine⟨g,cap,w',h1,?_,ka.trans h6 (fun _ _ e=>e.elim) (fun _ _ e=>e)⟩;show GS _ _ _ _ _ (l ++ [(a,s)]).length (dC (l ++ [(a,s)]))
 rw[nN,List.length_append];exact h2
theorem RA(b g:Nat):b+4096*(g+1)=b+4096*g+4096:=by omega
def fZ(x:Bx)(S:Sb)(g k:Nat):Nat->List (Nat×Nat)
 | 0=>[]
 | j + 1=>if j∈S.fl g then fZ x S g k j else fZ x S g k j ++ [(aO x g k j,aC k)]
theorem uA(x:Bx)(S:Sb)(g k:Nat):∀ j,(fZ x S g k j).length<=j
 | 0=>Nat.le_refl _
 | j+1=>by
  have:=uA x S g k j;unfold fZ;split
  ·omega
  ·rw[List.length_append];exact Nat.succ_le_succ this
section
variable {w W W':World} {hb sb lw:Nat} {x:Bx} {t:Bt} {fr:Nat->List Nat} {ls:List (Nat×Nat)} {S:Sb} {s:Int}
theorem zjS(H:HW w W hb sb lw x t fr ls S s){g k j:Nat}(hc:S.c g=some k)(hj:j<aH k):∃ z:Nat,(j∈S.fl g->z=0)/\(j ∉ S.fl g->16<=z)/\z<=2048/\∀ W',Kt nO W W'->Calls prog 111 #[.pointer (some ⟨sb,0,none⟩),.int .u64 ((aO x g k j:Nat):Int)] W' fun e w'=>e=.returned (.int .u64 z)/\Kt nO W' w':=by
 obtain⟨h,o⟩:=H.so;have n4:=H.po.nums.2.2.2.1;obtain⟨hk,sp⟩:=o.si.pg _ k hc;have hm:=o.mem hc;have hof:=fQ (x:=x) (p:=g) hk hj (by omega);have hz:=bU hk;have hlv:=o.cell_liv hc hj;by_cases hf:j∈S.fl g
 ·rw[decide_eq_false (fun e=>e hf)] at hlv;refine⟨0,fun _=>rfl,fun e=>absurd hf e,by omega,fun W' kp=>?_⟩;obtain⟨h',o'⟩:=(H.keep kp).so;exact DA o'.sw _ hof.2.2 hlv
 ·rw[decide_eq_true hf] at hlv;refine⟨aC k,fun e=>absurd e hf,fun _=>hz.1,hz.2,fun W' kp=>?_⟩;obtain⟨h',o'⟩:=(H.keep kp).so;have:=EC o'.sw _ hof.2.2 hlv;rw[show eB x t (aO x g k j)=t.m.pg g from(uC (x:=x) (t:=t) hk hj (by omega) hm.2.1 sp.kd sp.cl).2.2.1,sp.cl,Int.toNat_natCast] at this;exact this
theorem QZ(H:HW w W hb sb lw x t fr ls S s){g k:Nat}(hc:S.c g=some k)(q:Pg)(hq:q.cl=(k:Int)):
  Calls prog 69 #[.pointer (some ⟨hb,0,none⟩),.int .i64 g,cW q] W fun e w'=>∃ v,e=.returned v/\GB W w' v (fZ x S g k (aH k)):=by
 have n4:=H.po.nums.2.2.2.1;have n2:=H.po.nums.2.1;obtain⟨h,o⟩:=H.so;obtain⟨hk,sp⟩:=o.si.pg _ k hc;have hm:=o.mem hc;have hnb:=dV hk;have hz:=bU hk;have hg:g+1<=1024:=by omega
 clear o h sp;have K0:=aA ((Kt.refl nO W).alloc (aT q));have X0:=aA (nH W (aT q));have CL:=aA (fun W'=>wE k hk q hq W');have AD:=aA (fun W' (k:Kt nO W W')=>uJ (H.keep k) g (by omega));have AD1:=aA (fun W' (k:Kt nO W W')=>uJ (H.keep k) (g+1) hg);have SZ:=aA (fun j (hj:j<aH k)=>zjS H hc hj);have CB:=aA (fun W' (k:Kt nO W W')=>(H.keep k).c);have CE:=aA (fun j=>And.intro (uA x S g k j) (show fZ x S g k (j + 1)=if j∈S.fl g then fZ x S g k j else fZ x S g k j ++ [(aO x g k j,aC k)] from rfl));have cj:∀ j,aO x g k j=x.bS+4096*g+j*aC k:=fun j=>rfl
 have jm:∀ j,j<=aH k->j*aC k<=4096:=fun j hj=>by
  rw[<-hnb.1];exact Nat.mul_le_mul_right _ hj
 have js:∀ j,(j+1)*aC k=j*aC k+aC k:=fun j=>by rw[Nat.add_mul,Nat.one_mul]
 have CF:=aA (fun j=>cj j);have JM:=aA (fun j (hj:j<=aH k)=>jm j hj);have JS:=aA js;obtain⟨a1,ha1⟩:∃ a,a=x.bS+4096*(g+1):=⟨_,rfl⟩;obtain⟨a0,ha0⟩:∃ a,a=x.bS+4096*g:=⟨_,rfl⟩;rw[<-ha1] at AD1;rw[<-ha0] at AD CF;have hA:a1=a0+4096:=by rw[ha1,ha0];exact RA x.bS g
 have hab:a1<=9223372036854775808:=by omega
 obtain⟨N,hN⟩:=xe (aH k);obtain⟨z,hzz⟩:=xe (aC k);have NZ:=aA (show N*z=4096 by rw[hN,hzz];exact hnb.1);rw[<-hN] at SZ JM hnb ⊢;rw[<-hzz] at CL CE CF JM JS hz hnb;have hNb:N<=256:=hnb.2.2;obtain⟨f,hf⟩:=xe (fZ x S g k);rw[<-hf] at CE ⊢;have f0:f 0=[]:=by rw[hf];rfl
 have HH:=aA H;clear H n4 n2 hm hq hc cj jm js ha0 ha1 hN hzz hnb hf hk;go_enter func69,ntmps69;obtain⟨x0,x1,x2,x3,x4,x5,x6,x7,x8,x9,x10⟩:=lF X0.out;go_wp2_with fail;refine(CL.out _).mono ?_;rintro e w1 ⟨rfl,hk1⟩;have K1:=aA (nT K0.out hk1);clear hk1 x0 x1 x2 x3 x4 x5 x6 x7 x8 x9 x10 X0 K0;go_wp2_with fail;refine(AD.out _ K1.out).mono ?_;rintro e w2 ⟨rfl,h2⟩;replace h2:=h2.symm;subst h2;go_wp2_with fail;have HA:=aA hA;clear hA;obtain⟨g1,hg1⟩:=xe (g+1);rw[<-hg1] at AD1 hg;have ig2:(g:Int)+1=(g1:Int):=by omega
 clear hg1;go_loopw [7,9] (fun c p V=>∃ j:Nat,j<=N/\p=.int .u64 ((a0+j*z:Nat):Int)/\Hid (GB W V c (f j))) (fun _ p _=>a1-(intOf p).toNat)
 case atStart=>exact⟨0,Nat.zero_le _,by rw[Nat.zero_mul,Nat.add_zero],aA (by rw[f0];exact GS.nil _ _ _ _ K1.out)⟩
 case round=>
  clear K1 AD f0;obtain⟨j,hj,rfl,hG⟩:=hrel;have hle:=(CE.out j).1;have jm:=JM.out j hj;have A1:=aA (AD1.out _ hG.out.kp);have hA:=HA.out;by_cases hlt:j<N
  ·have js:=JS.out j;have jm1:=JM.out (j+1) hlt;obtain⟨zz,z1,z2,z3,SZj⟩:=SZ.out j hlt;have SZj:=aA SZj;rw[CF.out j] at SZj;have ce:=(CE.out j).2;rw[CF.out j] at ce;obtain⟨c0,c2,c3,c4,c5,c6⟩:=CB.out _ hG.out.kp;rw[js] at jm1;obtain⟨p,hp⟩:=xe (a0+j*z);obtain⟨p1,hp1⟩:∃ p,p=a0+(j+1)*z:=⟨_,rfl⟩;rw[<-hp] at SZj ce ⊢;have hpa:(p:Int)<a1:=(by omega);have hpp:(p:Int)+(z:Int)=p1:=(by omega);have hp1b:p1<=a1:=(by omega);have hpd:p<p1:=(by omega);have PP:=aA (show p1=a0+(j+1)*z from hp1);clear jm jm1 js hp hp1 JM JS hA HA;go_wp2_with fail;refine A1.out.mono ?_;rintro e w3 ⟨rfl,h3⟩;replace h3:=h3.symm;subst h3;go_wp2_with fail;refine(SZj.out _ hG.out.kp).mono ?_;rintro e w4 ⟨rfl,hk4⟩;have G4:=aA (GS.keep hG.out hk4);clear hk4 c0 c2 c3 c4 c5 c6;by_cases hf:j∈S.fl g
   ·rw[if_pos hf] at ce;obtain rfl:=z1 hf;have zn:(((0:Nat):Int) != 0)=false:=rfl;go_wp2_with fail;exact⟨⟨j+1,hlt,by rw[<-PP.out],aA (by rw[ce];exact G4.out)⟩,by simp[intOf];omega⟩
   ·rw[if_neg hf] at ce;have zp:=z2 hf;have zn:((zz:Int) != 0)=true:=(by rw[bne_iff_ne];omega);obtain⟨gg,cap,w5,PU,G5,_⟩:=GB.push G4.out p z (by omega);have G5:=aA G5;have HAP:=aA PU;clear PU;go_wp2_with (at_builtin;refine Lib.wpList_append_run _ rfl _ _ _ _ rfl _ (.slice (some ⟨w4.heap.size,0,none⟩) 1 1) rfl rfl _ _ (HAP.out _) ?_)
    exact⟨⟨j+1,hlt,by rw[<-PP.out],aA (by rw[ce];exact G5.out)⟩,by simp[intOf];omega⟩
  ·obtain rfl:j=N:=(by omega);rw[NZ.out] at jm ⊢;obtain⟨p,hp⟩:=xe (a0+4096);rw[<-hp];have hpa:¬(p:Int)<a1:=(by omega);clear hp hA HA jm NZ JM JS CF;go_wp2_with fail;refine A1.out.mono ?_;rintro e w3 ⟨rfl,h3⟩;replace h3:=h3.symm;subst h3;go_wp2_with fail;go_ret;exact⟨_,rfl,hG.out⟩
end
end Go.Proofs.YtbgbfpklgfpepaaGreatDoor
