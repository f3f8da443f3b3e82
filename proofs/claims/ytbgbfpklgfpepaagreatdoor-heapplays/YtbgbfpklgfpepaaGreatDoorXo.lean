import Derived.Test.YtbgbfpklgfpepaaGreatDoorXm
import Derived.Test.YtbgbfpklgfpepaaGreatDoorXn
set_option maxRecDepth 1000000
set_option maxHeartbeats 80000000
namespace Go.Proofs.YtbgbfpklgfpepaaGreatDoor
open Tryz
open Go.RowKit
set_option linter.unusedVariables false
def vG(x:Bx)(ls:List (Nat×Nat))(S:Sb)(p a z:Nat)(l:Bool):Prop:=(l=true/\a=p/\aG x ls S p z)\/(l=false/\∀ c,¬aG x ls S p c)
theorem TM(n m k:Nat)(W:World)(e1:(n:Int)/16=(m:Int))(hn:n<=1048576)(LG:Calls prog 84 #[.int .u64 m] W fun e w'=>e=.returned (.int .i64 k)/\w'=W):Calls prog 93 #[.int .u64 n] W fun e w'=>e=.returned (.int .i64 k)/\w'=W:=by
 have L:=aA LG;clear LG;go_enter func93,ntmps93;go_wp2_with fail;refine L.out.mono ?_;rintro e w1 ⟨rfl,rfl⟩;go_wp2_with fail;go_ret;exact⟨rfl,rfl⟩
theorem TL(k:Nat)(hk:k<8)(W:World):Calls prog 93 #[.int .u64 ((aC k:Nat):Int)] W fun e w'=>e=.returned (.int .i64 k)/\w'=W:=by
 have hp : 2 ^ k<=2 ^ 8:=Nat.pow_le_pow_right (by decide) (by omega);have LG:=wD (2 ^ k) (by omega) W;rw[tI _ (Nat.ne_of_gt (Nat.pow_pos (by decide))),Nat.log2_two_pow] at LG;exact TM _ (2 ^ k) k W (by unfold aC;omega) (by unfold aC;omega) LG
theorem TJ(n m k:Nat)(W:World)(e1:(n:Int)/4096=(m:Int))(hn:n<=1048576)(LG:Calls prog 84 #[.int .u64 m] W fun e w'=>e=.returned (.int .i64 k)/\w'=W):Calls prog 50 #[.int .u64 n] W fun e w'=>e=.returned (.int .i64 k)/\w'=W:=by
 have L:=aA LG;clear LG;go_enter func50,ntmps50;go_wp2_with fail;refine L.out.mono ?_;rintro e w1 ⟨rfl,rfl⟩;go_wp2_with fail;go_ret;exact⟨rfl,rfl⟩
theorem tV(k:Nat)(hk:k<=8)(W:World):Calls prog 50 #[.int .u64 ((4096*2 ^ k:Nat):Int)] W fun e w'=>e=.returned (.int .i64 k)/\w'=W:=by
 have hp : 2 ^ k<=2 ^ 8:=Nat.pow_le_pow_right (by decide) (by omega);have LG:=wD (2 ^ k) (by omega) W;rw[tI _ (Nat.ne_of_gt (Nat.pow_pos (by decide))),Nat.log2_two_pow] at LG;exact TJ _ (2 ^ k) k W (by skip;omega) (by skip;omega) LG
section
variable {w W W':World} {hb sb lw:Nat} {x:Bx} {t:Bt} {fr:Nat->List Nat} {ls:List (Nat×Nat)} {S:Sb} {s:Int}
theorem jW.st(H:HW w W hb sb lw x t fr ls S s){p a z:Nat}(h:jW x ls S p a z true):(a=p/\aG x ls S p z)\/(a≠p/\∀ c,¬aG x ls S p c):=by
 obtain⟨h',o⟩:=H.so;rcases h with ⟨_,h1,h2,h3⟩|⟨h1,_⟩
 ·by_cases e:a=p
  ·subst e;exact .inl ⟨rfl,h1⟩
  ·refine .inr ⟨e,fun c hc=>?_⟩;have:=(o.span hc).1;rcases o.two h1 hc with ⟨e1,_⟩|e1|e1 <;> omega
 ·cases h1
theorem jW.no(H:HW w W hb sb lw x t fr ls S s){p a z:Nat}(h:jW x ls S p a z false):∀ c,¬aG x ls S p c:=by
 obtain⟨h',o⟩:=H.so;rcases h with ⟨h1,_⟩|⟨_,h1⟩
 ·cases h1
 ·intro c hc;have:=(o.span hc).1;exact h1 p c hc ⟨Nat.le_refl _,by omega⟩
theorem xB(H:HW w W hb sb lw x t fr ls S s)(p:Nat)(hp:p<18446744073709551616):
  Calls prog 45 #[.pointer (some ⟨hb,0,none⟩),.int .u64 p] W fun e w'=>∃ a z l,e=.returned (.tuple #[kL a z,.bool l])/\vG x ls S p a z l/\Kt nO W w':=by
 have K0:=aA ((Kt.refl nO W).alloc qG);have X0:=aA (show(W.alloc qG).heap[W.heap.size]?=some (cJ 0 0)from nH W qG);have AR:=aA (EF (H.keep K0.out) p hp);have HH:=aA H;clear H;go_enter func45,ntmps45;go_wp2_with fail;refine AR.out.mono ?_;rintro e w2 ⟨a,z,l,rfl,ar,hk⟩;have K3:=aA (nT K0.out (hk.alloc (cJ a z)));have X6:=aA (nH w2 (cJ a z));have X4:=aA (show(w2.alloc (cJ a z)).heap[W.heap.size]?=some (cJ 0 0)from((hk.alloc (cJ a z)).block _ (lH X0.out) id).trans X0.out);have D:=aA (fun m=>qL (K3.out.drewN m) (y:=W.heap.size) (fun e=>absurd e (Nat.lt_irrefl _)) (.int .u64 a) (.int .u64 z));have hne7:w2.heap.size≠W.heap.size:=by
  have h1:=hk.size;rw[World.size_alloc] at h1;omega
 obtain⟨z0,z1,zf⟩:=gF X4.out;obtain⟨x0,x1,xf⟩:=gF X6.out
 cases l with
 | true=>
  rcases jW.st HH.out ar with ⟨e1,e2⟩|⟨e1,e2⟩
  ·have ST:=aA (show vG x ls S p a z true from .inl ⟨rfl,e1,e2⟩);have q1:((a:Int) == (p:Int))=true:=(by rw[beq_iff_eq,e1]);clear ar e1 e2 hk AR K0 X0;go_wp2_with fail;go_region
   all_goals
    go_wp2_with fail;exact⟨rfl,.tuple #[kL a z,.bool true],by simp[results,results45,go_sem,z0,z1],a,z,true,rfl,ST.out,D.out _⟩
  ·have ST:=aA (show vG x ls S p a z false from .inr ⟨rfl,e2⟩);have q1:((a:Int) == (p:Int))=false:=(by rw[beq_eq_false_iff_ne];omega);clear ar e1 e2 hk AR K0 X0;go_wp2_with fail;go_region
   all_goals
    go_wp2_with fail;exact⟨rfl,.tuple #[kL a z,.bool false],by simp[results,results45,go_sem,z0,z1],a,z,false,rfl,ST.out,D.out _⟩
 | false=>
  have ST:=aA (show vG x ls S p a z false from .inr ⟨rfl,jW.no HH.out ar⟩);clear ar hk AR K0 X0;go_wp2_with fail;go_region
  all_goals
   go_wp2_with fail;exact⟨rfl,.tuple #[kL a z,.bool false],by simp[results,results45,go_sem,z0,z1],a,z,false,rfl,ST.out,D.out _⟩
def cF(o m:Nat):Bool:=decide (cl m<=12+o)
theorem wR{o m:Nat}(hm : 16<=m)(h:cF o m=true):(∃ k,k<8/\2 ^ cl m=aC k)\/(∃ k,k<=o/\2 ^ cl m=4096*2 ^ k):=by
 have h:=of_decide_eq_true h;have h4 : 4<=cl m:=by
  refine Nat.le_of_not_lt fun hlt=>?_
  have:=(nR m 3).2 (by omega);omega
 by_cases h12:cl m<12
 ·refine .inl ⟨cl m-4,by omega,?_⟩;unfold aC;rw[show(16:Nat)=2 ^ 4 from rfl,<-Nat.pow_add];congr 1
  omega
 ·refine .inr ⟨cl m-12,by omega,?_⟩;rw[show(4096:Nat)=2 ^ 12 from rfl,<-Nat.pow_add];congr 1
  omega
end
theorem xZ(W:World)(hb sz al ov r L:Nat)(hs:sz<18446744073709551616)(ha:al<18446744073709551616)(m:Nat)(hm:m=max (max sz al) 16)(cv rv re:Int)(cb:Bool)(hz:(cv=(r:Int)/\cb=true/\r<18446744073709551616/\¬(L:Int)<r/\rv=(r:Int)/\re=0)\/(cv=(r:Int)/\cb=true/\r<18446744073709551616/\(L:Int)<r/\rv=0/\re=3)\/(cv=0/\cb=false/\rv=0/\re=3))(c4:W.cell? ⟨hb,4,none⟩=some (.int .i64 ov))(CE:Hid (Calls prog 81 #[.int .u64 m] W fun e w'=>e=.returned (.tuple #[.int .u64 cv,.bool cb])/\w'=W))(hov:ov<=8)(hL:(4096:Int)*2 ^ ov=(L:Int))(hLb:L<=1048576):
  Calls prog 47 #[.pointer (some ⟨hb,0,none⟩),.int .u64 sz,.int .u64 al] W fun e w'=>e=.returned (.tuple #[.int .u64 rv,.int .i64 re])/\w'=W:=by
 have ho:((sz:Int)<al/\(al:Int)<16/\(m:Int)=16)\/((sz:Int)<al/\¬(al:Int)<16/\(m:Int)=al)\/(¬(sz:Int)<al/\(sz:Int)<16/\(m:Int)=16)\/(¬(sz:Int)<al/\¬(sz:Int)<16/\(m:Int)=sz):=by omega
 rcases ho with ⟨h1,h2,h3⟩|⟨h1,h2,h3⟩|⟨h1,h2,h3⟩|⟨h1,h2,h3⟩
 all_goals
  rw[h3] at CE;clear h3 hm;rcases hz with ⟨rfl,rfl,hr,hle,rfl,rfl⟩|⟨rfl,rfl,hr,hle,rfl,rfl⟩|⟨rfl,rfl,rfl,rfl⟩
  all_goals
   go_enter func47,ntmps47;go_wp2_with fail;refine CE.out.mono ?_;rintro e w1 ⟨rfl,rfl⟩;go_wp2_with fail;go_ret2;exact⟨rfl,rfl⟩
section
variable {w W W':World} {hb sb lw:Nat} {x:Bx} {t:Bt} {fr:Nat->List Nat} {ls:List (Nat×Nat)} {S:Sb} {s:Int}
theorem xY(H:HW w W hb sb lw x t fr ls S s)(sz al:Nat)(hs:sz<18446744073709551616)(ha:al<18446744073709551616)(m:Nat)(hm:m=max (max sz al) 16):
  Calls prog 47 #[.pointer (some ⟨hb,0,none⟩),.int .u64 sz,.int .u64 al] W fun e w'=>e=.returned (.tuple #[.int .u64 ((if cF x.o m=true then 2 ^ cl m else 0:Nat):Int),.int .i64 (if cF x.o m=true then 0 else 3)])/\w'=W:=by
 have n1:=H.po.nums.1;have c4:=H.c.2.2.2.1;have hmb:m<18446744073709551616:=by omega
 have CE:=UB m hmb W;obtain⟨L,hL⟩:=xe (4096*2 ^ x.o);have hLi:(4096:Int)*2 ^ x.o=(L:Int):=by rw[hL];simp
 have hLb:L<=1048576:=by
  have : 2 ^ x.o<=2 ^ 8:=Nat.pow_le_pow_right (by decide) n1;omega
 have hLp:L=2 ^ (12+x.o):=by rw[hL,Nat.pow_add]
 by_cases h64:cl m<64
 ·have hv:fR 64 m=2 ^ cl m:=by unfold fR;rw[if_pos h64]
  have hbt:mN 64 m=true:=decide_eq_true h64;have hlt : 2 ^ cl m<18446744073709551616:=by
   have:=(jX (cl m) 64).2 h64;omega
  rw[hv,hbt] at CE;have hok:=qT (cl m) (12+x.o);rw[<-hLp] at hok
  cases ho:cF x.o m with
  | true=>
   have hle:=hok.2 (of_decide_eq_true ho);rw[if_pos rfl,if_pos rfl];obtain⟨r,hr⟩:=xe (2 ^ cl m);rw[<-hr] at CE hle hlt ⊢;clear hok hv hbt hLp hr ho h64;exact xZ W hb sz al x.o r L hs ha m hm _ _ _ _ (.inl ⟨rfl,rfl,hlt,by omega,rfl,rfl⟩) c4 CE n1 hLi hLb
  | false=>
   have hle:=fun e=>of_decide_eq_false ho (hok.1 e)
   rw[if_neg (by decide),if_neg (by decide)];obtain⟨r,hr⟩:=xe (2 ^ cl m);rw[<-hr] at CE hle hlt;clear hok hv hbt hLp hr ho h64;exact xZ W hb sz al x.o r L hs ha m hm _ _ _ _ (.inr (.inl ⟨rfl,rfl,hlt,by have:=Nat.lt_of_not_le hle;omega,rfl,rfl⟩)) c4 CE n1 hLi hLb
 ·have hv:fR 64 m=0:=by unfold fR;rw[if_neg h64]
  have hbt:mN 64 m=false:=decide_eq_false h64;rw[hv,hbt] at CE;have ho:cF x.o m=false:=decide_eq_false (by omega);rw[ho,if_neg (by decide),if_neg (by decide)];exact xZ W hb sz al x.o 0 L hs ha m hm _ _ _ _ (.inr (.inr ⟨rfl,rfl,rfl,rfl⟩)) c4 CE n1 hLi hLb
end
theorem SO.bty8{w W sb lw x t fr ls S h}(s:SO w W sb lw x t fr ls S h){y:Nat}{cs:Array Value}{z:Nat×Nat}(hy:W.heap[y]?=some (.cells cs 74 z)):¬bG x sb y:=by
 rintro (e|e)
 ·exact absurd (s.sw.pl.pty hy (.inl e)) (by unfold Go.Proofs.YtbgbfpklgfpepaaGreatDoor.pty;decide)
 ·subst e;exact absurd (bM hy s.sw.bx) (by decide)
section
variable {w W W1 W':World} {hb sb lw:Nat} {x:Bx} {t:Bt} {fr:Nat->List Nat} {ls:List (Nat×Nat)} {S:Sb} {s:Int}
theorem Nx.from{x' t' fr' ls' S'}(k:Kt nO W W1)(h:Nx w W1 W' hb sb lw x t ls S s x' t' fr' ls' S'):Nx w W W' hb sb lw x t ls S s x' t' fr' ls' S':=
 ⟨h.H,h.ch,(k.mono (fun _ _ e=>e.elim)).trans h.kp (fun _ _ e=>e) (fun _ _ e=>e),fun y hy=>(h.ns y hy).imp id (Nat.le_trans k.size)⟩
theorem Tq.from{r:Nat}{d:Bool}{p:Nat}{er:Int}(k:Kt nO W W1)(h:Tq w W1 hb sb lw x t fr ls S s r d p er W'):Tq w W hb sb lw x t fr ls S s r d p er W':=by
 cases h with
 | no hp he nf hd kp=>exact .no hp he nf hd (nT k kp)
 | yes x' t' fr' ls' S' b he td nx hL hN hn hm hb1 hb2=>exact .yes x' t' fr' ls' S' b he td (nx.from k) hL hN hn hm hb1 hb2
theorem Gq.from{p z:Nat}(k:Kt nO W W1)(h:Gq w W1 hb sb lw x t fr ls S s p z W'):Gq w W hb sb lw x t fr ls S s p z W':=by
 obtain⟨x',t',fr',ls',S',gd,nx,hL,hn⟩:=h;exact⟨x',t',fr',ls',S',gd,nx.from k,hL,hn⟩
theorem Tq.st{r:Nat}{d:Bool}{p:Nat}{er:Int}(H:HW w W hb sb lw x t fr ls S s)(h:Tq w W hb sb lw x t fr ls S s r d p er W'):∃ x' t' fr' ls' S',HW w W' hb sb lw x' t' fr' ls' S' s:=by
 cases h with
 | no hp he nf hd kp=>exact⟨_,_,_,_,_,H.keep kp⟩
 | yes x' t' fr' ls' S' b he td nx=>exact⟨_,_,_,_,_,nx.H⟩
theorem Tq.c{r:Nat}{d:Bool}{p:Nat}{er:Int}(H:HW w W hb sb lw x t fr ls S s)(h:Tq w W hb sb lw x t fr ls S s r d p er W'):W'.cell? ⟨hb,5,none⟩=some (.pointer (some ⟨lw,0,none⟩))/\W'.cell? ⟨hb,6,none⟩=some (.pointer (some ⟨sb,0,none⟩)):=by
 obtain⟨x',t',fr',ls',S',H'⟩:=h.st H;exact⟨H'.c.2.2.2.2.1,H'.c.2.2.2.2.2⟩
theorem zfq(H:HW w W hb sb lw x t fr ls S s){k:Nat}(hk:k<8)(d:Bool):
  Calls prog 58 #[.pointer (some ⟨hb,0,none⟩),.int .u64 ((aC k:Nat):Int),.bool d] W fun e w'=>∃ p er,e=.returned (.tuple #[.int .u64 ((p:Nat):Int),.int .i64 er])/\Tq w W hb sb lw x t fr ls S s (aC k) d p er w':=by
 have hz:=bU hk;obtain⟨c0,c2,c3,c4,c5,c6⟩:=H.c;have KD:=aA ((Kt.refl nO W).drew);have CL:=aA (TL k hk);have TK:=aA (((H.keep KD.out).take_small hk d).mono fun e w' h=>(show ∃ p g er,e=sD p g er/\Tq w W hb sb lw x t fr ls S s (aC k) d p er w' from by
  obtain⟨p,g,er,he,hT⟩:=h;exact⟨p,g,er,he,hT.from KD.out⟩))
 have TC:=aA (fun (w':World) (p:Nat) (er:Int) (h:Tq w W hb sb lw x t fr ls S s (aC k) d p er w')=>h.c H);obtain⟨r,hr⟩:=xe (aC k);rw[<-hr] at hz CL TK TC ⊢;have hlt:(r:Int)<4096:=by omega
 have d5:W.drew.cell? ⟨hb,5,none⟩=some (.pointer (some ⟨lw,0,none⟩)):=c5;have d6:W.drew.cell? ⟨hb,6,none⟩=some (.pointer (some ⟨sb,0,none⟩)):=c6;clear H hr hk hz;go_enter func58,ntmps58;go_wp2_with fail;go_region_held3 (fun w'=>w'.cell? ⟨hb,6,none⟩=some (.pointer (some ⟨sb,0,none⟩))) (first|with_reducible exact d6|with_reducible exact e6) (first
  | (go_at_call 93;(with_reducible refine(CL.out _).mono ?_);rintro e w5 ⟨rfl,h5⟩;replace h5:=h5.symm;subst h5)
  | (go_at_call 92;(with_reducible refine(TK.out).mono ?_);rintro e w2 ⟨p,g,er,rfl,hT⟩;have e6:=(TC.out _ _ _ hT).2;have D:=aA hT;clear hT)
  | fail)
 all_goals
  go_wp2_with fail;exact⟨rfl,.tuple #[.int .u64 ((p:Nat):Int),.int .i64 er],by simp[results,results58,go_sem],p,er,rfl,D.out⟩
theorem zhL(H:HW w W hb sb lw x t fr ls S s){k:Nat}(hk:k<=x.o)(d:Bool):
  Calls prog 58 #[.pointer (some ⟨hb,0,none⟩),.int .u64 ((4096*2 ^ k:Nat):Int),.bool d] W fun e w'=>∃ p er,e=.returned (.tuple #[.int .u64 ((p:Nat):Int),.int .i64 er])/\Tq w W hb sb lw x t fr ls S s (4096*2 ^ k) d p er w':=by
 have hz : 0<2 ^ k:=Nat.pow_pos (by decide);have hk8:k<=8:=Nat.le_trans hk H.po.nums.1;obtain⟨c0,c2,c3,c4,c5,c6⟩:=H.c;have KD:=aA ((Kt.refl nO W).drew);have CL:=aA (tV k hk8);have TK:=aA (((H.keep KD.out).need_big hk d).mono fun e w' h=>(show ∃ p g er,e=sD p g er/\Tq w W hb sb lw x t fr ls S s (4096*2 ^ k) d p er w' from by
  obtain⟨p,g,er,he,hT⟩:=h;exact⟨p,g,er,he,hT.from KD.out⟩))
 have TC:=aA (fun (w':World) (p:Nat) (er:Int) (h:Tq w W hb sb lw x t fr ls S s (4096*2 ^ k) d p er w')=>h.c H);obtain⟨r,hr⟩:=xe (4096*2 ^ k);have hlr:¬r<4096:=by omega
 rw[<-hr] at CL TK TC ⊢;have hlt:¬(r:Int)<4096:=by omega
 have d5:W.drew.cell? ⟨hb,5,none⟩=some (.pointer (some ⟨lw,0,none⟩)):=c5;clear H hr hk hz hk8;go_enter func58,ntmps58;go_wp2_with fail;go_region_held3 (fun w'=>w'.cell? ⟨hb,5,none⟩=some (.pointer (some ⟨lw,0,none⟩))) (first|with_reducible exact d5|with_reducible exact e5) (first
  | (go_at_call 50;(with_reducible refine(CL.out _).mono ?_);rintro e w5 ⟨rfl,h5⟩;replace h5:=h5.symm;subst h5)
  | (go_at_call 94;(with_reducible refine(TK.out).mono ?_);rintro e w2 ⟨p,g,er,rfl,hT⟩;have e5:=(TC.out _ _ _ hT).1;have D:=aA hT;clear hT)
  | fail)
 all_goals
  go_wp2_with fail;exact⟨rfl,.tuple #[.int .u64 ((p:Nat):Int),.int .i64 er],by simp[results,results58,go_sem],p,er,rfl,D.out⟩
theorem vR(H:HW w W hb sb lw x t fr ls S s)(r:Nat)(hr:(∃ k,k<8/\r=aC k)\/(∃ k,k<=x.o/\r=4096*2 ^ k))(d:Bool):
  Calls prog 58 #[.pointer (some ⟨hb,0,none⟩),.int .u64 r,.bool d] W fun e w'=>∃ p er,e=.returned (.tuple #[.int .u64 ((p:Nat):Int),.int .i64 er])/\Tq w W hb sb lw x t fr ls S s r d p er w':=by
 rcases hr with ⟨k,hk,rfl⟩|⟨k,hk,rfl⟩
 ·exact zfq H hk d
 ·exact zhL H hk d
theorem Gq.c{p z:Nat}(h:Gq w W hb sb lw x t fr ls S s p z W'):W'.cell? ⟨hb,5,none⟩=some (.pointer (some ⟨lw,0,none⟩))/\W'.cell? ⟨hb,6,none⟩=some (.pointer (some ⟨sb,0,none⟩)):=by
 obtain⟨x',t',fr',ls',S',gd,nx,hL,hn⟩:=h;exact⟨nx.H.c.2.2.2.2.1,nx.H.c.2.2.2.2.2⟩
theorem Gq.box{p z y a c:Nat}(H:HW w W hb sb lw x t fr ls S s)(h:Gq w W hb sb lw x t fr ls S s p z W')(hy:W.heap[y]?=some (cJ a c)):W'.heap[y]?=some (cJ a c):=by
 obtain⟨h',o⟩:=H.so;obtain⟨x',t',fr',ls',S',gd,nx,hL,hn⟩:=h;exact(nx.kp.block _ (lH hy) (o.bty8 hy)).trans hy
theorem zf3(H:HW w W hb sb lw x t fr ls S s){p g k i:Nat}(hv:jB x S p g k i):
  Calls prog 46 #[.pointer (some ⟨hb,0,none⟩),kL p (aC k)] W fun e w'=>e=.returned (.int .i64 0)/\Gq w W hb sb lw x t fr ls S s p (aC k) w':=by
 have hk:k<8:=by
  obtain⟨h',o⟩:=H.so;exact(o.si.pg g k hv.1).1
 have hz:=bU hk;have K0:=aA ((Kt.refl nO W).alloc (cJ p (aC k)));have KD:=aA (nT K0.out (Kt.refl nO _).drew);have X0:=aA (show(W.alloc (cJ p (aC k))).drew.heap[W.heap.size]?=some (cJ p (aC k))from nH W (cJ p (aC k)));obtain⟨c0,c2,c3,c4,c5,c6⟩:=(H.keep K0.out).c;obtain⟨k0,k2,k3,k4,k5,k6⟩:=(H.keep KD.out).c;obtain⟨y0,y1,yf⟩:=gF X0.out;obtain⟨x0,x1,xf⟩:=gF (show(W.alloc (cJ p (aC k))).heap[W.heap.size]?=some (cJ p (aC k))from nH W (cJ p (aC k)));have GV:=aA (((H.keep KD.out).give_cell hv).mono fun e w' h=>(show e=.returned (.int .i64 0)/\Gq w W hb sb lw x t fr ls S s p (aC k) w'/\(w'.cell? ⟨hb,6,none⟩=some (.pointer (some ⟨sb,0,none⟩))/\w'.cell? ⟨W.heap.size,0,none⟩=some (.int .u64 p))from
  ⟨h.1,h.2.from KD.out,h.2.c.2,(gF (h.2.box (H.keep KD.out) X0.out)).1⟩))
 obtain⟨r,hr⟩:=xe (aC k);rw[<-hr] at hz K0 KD X0 c5 c6 k5 k6 y0 y1 x0 x1 GV ⊢;have hlt:(r:Int)<4096:=by omega
 clear H hr hk hz hv;go_enter func46,ntmps46;go_wp2_with fail;go_region_held3 (fun w'=>w'.cell? ⟨hb,6,none⟩=some (.pointer (some ⟨sb,0,none⟩))/\w'.cell? ⟨W.heap.size,0,none⟩=some (.int .u64 p)) (first|with_reducible exact⟨k6,y0⟩|with_reducible exact e6) (first
  | (go_at_call 79;(with_reducible refine(GV.out).mono ?_);rintro e w2 ⟨rfl,hT,e6⟩;have D:=aA hT;clear hT)
  | fail)
 all_goals
  go_wp2_with fail;go_ret;exact⟨rfl,D.out⟩
theorem zfr(H:HW w W hb sb lw x t fr ls S s){p q k:Nat}(hm:(q,k)∈ls)(hc:S.c q=none)(hp:p=ad x q):
  Calls prog 46 #[.pointer (some ⟨hb,0,none⟩),kL p (4096*2 ^ k)] W fun e w'=>e=.returned (.int .i64 0)/\Gq w W hb sb lw x t fr ls S s p (4096*2 ^ k) w':=by
 have hk8:k<=8:=by
  obtain⟨h',o⟩:=H.so;exact Nat.le_trans (o.al hm).1 o.po.nums.1
 have hz : 0<2 ^ k:=Nat.pow_pos (by decide);have CL:=aA (tV k hk8);have K0:=aA ((Kt.refl nO W).alloc (cJ p (4096*2 ^ k)));have KD:=aA (nT K0.out (Kt.refl nO _).drew);have X0:=aA (show(W.alloc (cJ p (4096*2 ^ k))).drew.heap[W.heap.size]?=some (cJ p (4096*2 ^ k))from nH W (cJ p (4096*2 ^ k)));obtain⟨c0,c2,c3,c4,c5,c6⟩:=(H.keep K0.out).c;obtain⟨k0,k2,k3,k4,k5,k6⟩:=(H.keep KD.out).c;obtain⟨y0,y1,yf⟩:=gF X0.out;obtain⟨x0,x1,xf⟩:=gF (show(W.alloc (cJ p (4096*2 ^ k))).heap[W.heap.size]?=some (cJ p (4096*2 ^ k))from nH W (cJ p (4096*2 ^ k)));have GV:=aA (((H.keep KD.out).give_pages hm hc hp).mono fun e w' h=>(show e=.returned (.int .i64 0)/\Gq w W hb sb lw x t fr ls S s p (4096*2 ^ k) w'/\(w'.cell? ⟨hb,5,none⟩=some (.pointer (some ⟨lw,0,none⟩))/\w'.cell? ⟨W.heap.size,0,none⟩=some (.int .u64 p)/\w'.cell? ⟨W.heap.size,1,none⟩=some (.int .u64 ((4096*2 ^ k:Nat):Int)))from
  ⟨h.1,h.2.from KD.out,h.2.c.1,(gF (h.2.box (H.keep KD.out) X0.out)).1,(gF (h.2.box (H.keep KD.out) X0.out)).2.1⟩))
 obtain⟨r,hr⟩:=xe (4096*2 ^ k);have hlr:¬r<4096:=by omega
 rw[<-hr] at CL K0 KD X0 c5 c6 k5 k6 y0 y1 x0 x1 GV ⊢;have hlt:¬(r:Int)<4096:=by omega
 clear H hr hz hm hc hp hk8;go_enter func46,ntmps46;go_wp2_with fail;go_region_held3 (fun w'=>w'.cell? ⟨hb,5,none⟩=some (.pointer (some ⟨lw,0,none⟩))/\w'.cell? ⟨W.heap.size,0,none⟩=some (.int .u64 p)/\w'.cell? ⟨W.heap.size,1,none⟩=some (.int .u64 r)) (first|with_reducible exact⟨k5,y0,y1⟩|with_reducible exact e6) (first
  | (go_at_call 50;(with_reducible refine(CL.out _).mono ?_);rintro e w5 ⟨rfl,h5⟩;replace h5:=h5.symm;subst h5)
  | (go_at_call 80;(with_reducible refine(GV.out).mono ?_);rintro e w2 ⟨rfl,hT,e6⟩;have D:=aA hT;clear hT)
  | fail)
 all_goals
  go_wp2_with fail;go_ret;exact⟨rfl,D.out⟩
theorem BA(H:HW w W hb sb lw x t fr ls S s){p z:Nat}(hl:aG x ls S p z):
  Calls prog 46 #[.pointer (some ⟨hb,0,none⟩),kL p z] W fun e w'=>e=.returned (.int .i64 0)/\Gq w W hb sb lw x t fr ls S s p z w':=by
 rcases hl with ⟨g,k,i,hv,rfl⟩|⟨q,k,hm,hc,hp,rfl⟩
 ·exact zf3 H hv
 ·exact zfr H hm hc hp
inductive Rq8(w W:World)(hb sb lw:Nat)(x:Bx)(t:Bt)(fr:Nat->List Nat)(ls:List (Nat×Nat))(S:Sb)(s:Int)(m:Nat)(d:Bool)(p:Nat)(er:Int)(w':World):Prop where
 | big (ho:cF x.o m=false) (hp:p=0) (he:er=3) (kp:Kt nO W w')
 | ok (ho:cF x.o m=true) (hT:Tq w W hb sb lw x t fr ls S s (2 ^ cl m) d p er w')
theorem Rq8.st{m d p er}(H:HW w W hb sb lw x t fr ls S s)(h:Rq8 w W hb sb lw x t fr ls S s m d p er W'):∃ x' t' fr' ls' S',HW w W' hb sb lw x' t' fr' ls' S' s:=by
 cases h with
 | big ho hp he kp=>exact⟨_,_,_,_,_,H.keep kp⟩
 | ok ho hT=>exact hT.st H
theorem xN(H:HW w W hb sb lw x t fr ls S s)(sz al:Nat)(hs:sz<18446744073709551616)(ha:al<18446744073709551616)(d:Bool)(m:Nat)(hm:m=max (max sz al) 16):
  Calls prog 37 #[.pointer (some ⟨hb,0,none⟩),.int .u64 sz,.int .u64 al,.bool d] W fun e w'=>∃ p er,e=.returned (.tuple #[.int .u64 ((p:Nat):Int),.int .i64 er])/\Rq8 w W hb sb lw x t fr ls S s m d p er w':=by
 have SF:=aA (xY H sz al hs ha m hm);have HH:=aA H
 cases ho:cF x.o m with
 | false=>
  rw[ho] at SF;rw[if_neg (by decide),if_neg (by decide)] at SF;have D:=aA (show Rq8 w W hb sb lw x t fr ls S s m d 0 3 W from .big ho rfl rfl (Kt.refl _ _));clear H ho hm;go_enter func37,ntmps37;go_wp2_with fail;refine SF.out.mono ?_;rintro e w1 ⟨rfl,h1⟩;replace h1:=h1.symm;subst h1;go_wp2_with fail;exact⟨rfl,.tuple #[.int .u64 ((0:Nat):Int),.int .i64 3],by simp[results,results37,go_sem],0,3,rfl,D.out⟩
 | true=>
  rw[ho] at SF;rw[if_pos rfl,if_pos rfl] at SF;have TK:=aA ((vR H (2 ^ cl m) (wR (by omega) ho) d).mono fun e w' h=>(show ∃ p er,e=.returned (.tuple #[.int .u64 ((p:Nat):Int),.int .i64 er])/\Rq8 w W hb sb lw x t fr ls S s m d p er w' from by
   obtain⟨p,er,he,hT⟩:=h;exact⟨p,er,he,.ok ho hT⟩))
  generalize 2 ^ cl m=r at *;clear H ho hm;go_enter func37,ntmps37;go_wp2_with fail;refine SF.out.mono ?_;rintro e w1 ⟨rfl,h1⟩;replace h1:=h1.symm;subst h1;go_wp2_with fail;refine TK.out.mono ?_;rintro e w2 ⟨p,er,rfl,hT⟩;have D:=aA hT;clear hT;go_wp2_with fail;exact⟨rfl,.tuple #[.int .u64 ((p:Nat):Int),.int .i64 er],by simp[results,results37,go_sem],p,er,rfl,D.out⟩
end
open Go.MuLone
abbrev cY(W:World)(hb:Nat):World:=W.setCell ⟨hb,0,none⟩ (.int .i32 1)
abbrev dZ(W:World)(hb:Nat):World:=W.setCell ⟨hb,0,none⟩ (.int .i32 0)
section
variable {w W W1 W':World} {hb sb lw:Nat} {x:Bx} {t:Bt} {fr:Nat->List Nat} {ls:List (Nat×Nat)} {S:Sb} {s:Int}
theorem HW.in(H:HW w W hb sb lw x t fr ls S 0):HW w (cY W hb) hb sb lw x t fr ls S 1:=(H.set 1).1
theorem HW.kout(H:HW w W hb sb lw x t fr ls S 0)(k:Kt nO (cY W hb) W'):Kt nO W (dZ W' hb):=H.round id k (H.in.keep k) rfl rfl rfl
theorem Nx.out{x' t' fr' ls' S'}(H:HW w W hb sb lw x t fr ls S 0)(n:Nx w (cY W hb) W' hb sb lw x t ls S 1 x' t' fr' ls' S'):Nx w W (dZ W' hb) hb sb lw x t ls S 0 x' t' fr' ls' S':=
 ⟨(n.H.set 0).1,n.ch,H.round H.nhb n.kp n.H n.ch.bS n.ch.lim n.ch.o,fun y hy=>(n.ns y hy).imp id (fun e=>by simpa using e)⟩
theorem Tq.out{r d p er}(H:HW w W hb sb lw x t fr ls S 0)(h:Tq w (cY W hb) hb sb lw x t fr ls S 1 r d p er W'):Tq w W hb sb lw x t fr ls S 0 r d p er (dZ W' hb):=by
 cases h with
 | no hp he nf hd kp=>exact .no hp he nf hd (H.kout kp)
 | yes x' t' fr' ls' S' b he td nx hL hN hn hm hb1 hb2=>exact .yes x' t' fr' ls' S' b he td (nx.out H) hL hN hn hm hb1 hb2
theorem Gq.out{p z}(H:HW w W hb sb lw x t fr ls S 0)(h:Gq w (cY W hb) hb sb lw x t fr ls S 1 p z W'):Gq w W hb sb lw x t fr ls S 0 p z (dZ W' hb):=by
 obtain⟨x',t',fr',ls',S',gd,nx,hL,hn⟩:=h;exact⟨x',t',fr',ls',S',gd,nx.out H,hL,hn⟩
theorem Rq8.out{m d p er}(H:HW w W hb sb lw x t fr ls S 0)(h:Rq8 w (cY W hb) hb sb lw x t fr ls S 1 m d p er W'):Rq8 w W hb sb lw x t fr ls S 0 m d p er (dZ W' hb):=by
 cases h with
 | big ho hp he kp=>exact .big ho hp he (H.kout kp)
 | ok ho hT=>exact .ok ho (hT.out H)
theorem FS(H:HW w W hb sb lw x t fr ls S 0)(sz:Nat)(hs:sz<18446744073709551616)(d:Bool)(m:Nat)(hm:m=max sz 16):
  Calls prog 10 #[.pointer (some ⟨hb,0,none⟩),.int .u64 sz,.bool d] W fun e w'=>∃ p er,e=.returned (.tuple #[.int .u64 ((p:Nat):Int),.int .i64 er])/\Rq8 w W hb sb lw x t fr ls S 0 m d p er w':=by
 have LK:=aA H.lock;have RQ:=aA (xN H.in sz 1 hs (by decide) d m (by omega));have ST:=aA (fun (w2:World) (p:Nat) (er:Int) (h:Rq8 w (cY W hb) hb sb lw x t fr ls S 1 m d p er w2)=>And.intro (h.st H.in) (h.out H));clear H hm;go_enter_defers func10,ntmps10;go_wp2_with fail;refine LK.out.mono ?_;rintro e w1 ⟨rfl,rfl⟩;go_wp2_with fail;refine RQ.out.mono ?_;rintro e w2 ⟨p,er,rfl,hq⟩;obtain⟨⟨x',t',fr',ls',S',H2⟩,hD⟩:=ST.out _ _ _ hq;have UL:=aA (H2.unlock .returning);have D:=aA hD;clear hD H2 hq;go_wp2_with fail;refine leaves_cons (f:=36) (args:=#[.pointer (some ⟨hb,0,none⟩)]) (by simp) (by simp[go_sem]) ?_;refine UL.out.mono ?_;rintro e u' w3 ⟨rfl,rfl,rfl⟩;exact⟨_,results_tmp2 rfl _ _ _,p,er,rfl,D.out⟩
theorem zfS(H:HW w W hb sb lw x t fr ls S 0)(al sz:Nat)(ha:al<18446744073709551616)(hs:sz<18446744073709551616)(d:Bool)(hp:cL al=false):
  Calls prog 12 #[.pointer (some ⟨hb,0,none⟩),.int .u64 al,.int .u64 sz,.bool d] W fun e w'=>e=.returned (.tuple #[.int .u64 0,.int .i64 1])/\Kt nO W w':=by
 have LK:=aA H.lock;have PW:=aA (uW al ha (cY W hb));rw[hp] at PW;have UL:=aA (H.in.unlock .returning);have D:=aA (H.kout (Kt.refl nO _));clear H hp;go_enter_defers func12,ntmps12;go_wp2_with fail;refine LK.out.mono ?_;rintro e w1 ⟨rfl,rfl⟩;go_wp2_with fail;refine PW.out.mono ?_;rintro e w2 ⟨rfl,h2⟩;replace h2:=h2.symm;subst h2;go_wp2_with fail;refine leaves_cons (f:=36) (args:=#[.pointer (some ⟨hb,0,none⟩)]) (by simp) (by simp[go_sem]) ?_;refine UL.out.mono ?_;rintro e u' w3 ⟨rfl,rfl,rfl⟩;exact⟨_,results_tmp2 rfl _ _ _,rfl,D.out⟩
theorem zi6(H:HW w W hb sb lw x t fr ls S 0)(al sz:Nat)(ha:al<18446744073709551616)(hs:sz<18446744073709551616)(d:Bool)(hp:cL al=true)(m:Nat)(hm:m=max (max sz al) 16):
  Calls prog 12 #[.pointer (some ⟨hb,0,none⟩),.int .u64 al,.int .u64 sz,.bool d] W fun e w'=>∃ p er,e=.returned (.tuple #[.int .u64 ((p:Nat):Int),.int .i64 er])/\Rq8 w W hb sb lw x t fr ls S 0 m d p er w':=by
 have LK:=aA H.lock;have PW:=aA (uW al ha (cY W hb));rw[hp] at PW;have RQ:=aA (xN H.in sz al hs ha d m hm);have ST:=aA (fun (w2:World) (p:Nat) (er:Int) (h:Rq8 w (cY W hb) hb sb lw x t fr ls S 1 m d p er w2)=>And.intro (h.st H.in) (h.out H));clear H hp hm;go_enter_defers func12,ntmps12;go_wp2_with fail;refine LK.out.mono ?_;rintro e w1 ⟨rfl,rfl⟩;go_wp2_with fail;refine PW.out.mono ?_;rintro e w2 ⟨rfl,h2⟩;replace h2:=h2.symm;subst h2;go_wp2_with fail;refine RQ.out.mono ?_;rintro e w2 ⟨p,er,rfl,hq⟩;obtain⟨⟨x',t',fr',ls',S',H2⟩,hD⟩:=ST.out _ _ _ hq;have UL:=aA (H2.unlock .returning);have D:=aA hD;clear hD H2 hq;go_wp2_with fail;refine leaves_cons (f:=36) (args:=#[.pointer (some ⟨hb,0,none⟩)]) (by simp) (by simp[go_sem]) ?_;refine UL.out.mono ?_;rintro e u' w3 ⟨rfl,rfl,rfl⟩;exact⟨_,results_tmp2 rfl _ _ _,p,er,rfl,D.out⟩
inductive Fq(w W:World)(hb sb lw:Nat)(x:Bx)(t:Bt)(fr:Nat->List Nat)(ls:List (Nat×Nat))(S:Sb)(s:Int)(p:Nat)(er:Int)(w':World):Prop where
 | nil (hp:p=0) (he:er=0) (kp:Kt nO W w')
 | bad (hp:p≠0) (hl:∀ c,¬aG x ls S p c) (he:er=1) (kp:Kt nO W w')
 | ok (z:Nat) (hp:p≠0) (hl:aG x ls S p z) (he:er=0) (hG:Gq w W hb sb lw x t fr ls S s p z w')
theorem MA(H:HW w W hb sb lw x t fr ls S 0)(p:Nat)(hp:p<18446744073709551616):
  Calls prog 14 #[.pointer (some ⟨hb,0,none⟩),.int .u64 p] W fun e w'=>∃ er,e=.returned (.int .i64 er)/\Fq w W hb sb lw x t fr ls S 0 p er w':=by
 have LK:=aA H.lock;have HH:=aA H;by_cases h0:p=0
 ·subst h0;have UL:=aA (H.in.unlock .returning);have D:=aA (show Fq w W hb sb lw x t fr ls S 0 0 0 (dZ (cY W hb) hb)from .nil rfl rfl (H.kout (Kt.refl nO _)));clear H;go_enter_defers func14,ntmps14;go_wp2_with fail;refine LK.out.mono ?_;rintro e w1 ⟨rfl,rfl⟩;go_wp2_with fail;refine leaves_cons (f:=36) (args:=#[.pointer (some ⟨hb,0,none⟩)]) (by simp) (by simp[go_sem]) ?_;refine UL.out.mono ?_;rintro e u' w3 ⟨rfl,rfl,rfl⟩;exact⟨_,results_tmp rfl _ _ _,0,rfl,D.out⟩
 ·have hpi:((p:Int) == 0)=false:=by rw[beq_eq_false_iff_ne];omega
  have SS:=aA (xB H.in p hp);have H0:=aA h0;clear H h0;go_enter_defers func14,ntmps14;go_wp2_with fail;refine LK.out.mono ?_;rintro e w1 ⟨rfl,rfl⟩;go_wp2_with fail;refine SS.out.mono ?_;rintro e w2 ⟨a,z,l,rfl,hst,hk⟩;have K3:=aA (hk.alloc (cJ a z));have X5:=aA (nH w2 (cJ a z));obtain⟨x0,x1,xf⟩:=gF X5.out;rcases hst with ⟨rfl,rfl,hl⟩|⟨rfl,hl⟩
  ·have GV:=aA (BA (HH.out.in.keep K3.out) hl);have OK:=aA (fun (w4:World) (h:Gq w (w2.alloc (cJ a z)) hb sb lw x t fr ls S 1 a z w4)=>show(∃ x' t' fr' ls' S',HW w w4 hb sb lw x' t' fr' ls' S' 1)/\Fq w W hb sb lw x t fr ls S 0 a 0 (dZ w4 hb)from by
    refine⟨?_,.ok z H0.out hl rfl ((h.from K3.out).out HH.out)⟩;obtain⟨x',t',fr',ls',S',gd,nx,_⟩:=h;exact⟨_,_,_,_,_,nx.H⟩)
   clear hl hk;go_wp2_with fail;refine GV.out.mono ?_;rintro e w4 ⟨rfl,hG⟩;obtain⟨⟨x',t',fr',ls',S',H2⟩,hD⟩:=OK.out _ hG;have UL:=aA (H2.unlock .returning);have D:=aA hD;clear hD H2 hG;go_wp2_with fail;refine leaves_cons (f:=36) (args:=#[.pointer (some ⟨hb,0,none⟩)]) (by simp) (by simp[go_sem]) ?_;refine UL.out.mono ?_;rintro e u' w3 ⟨rfl,rfl,rfl⟩;exact⟨_,results_tmp rfl _ _ _,0,rfl,D.out⟩
  ·have UL:=aA ((HH.out.in.keep K3.out).unlock .returning);have D:=aA (show Fq w W hb sb lw x t fr ls S 0 p 1 (dZ (w2.alloc (cJ a z)) hb)from .bad H0.out hl rfl (HH.out.kout K3.out));clear hl hk;go_wp2_with fail;refine leaves_cons (f:=36) (args:=#[.pointer (some ⟨hb,0,none⟩)]) (by simp) (by simp[go_sem]) ?_;refine UL.out.mono ?_;rintro e u' w3 ⟨rfl,rfl,rfl⟩;exact⟨_,results_tmp rfl _ _ _,1,rfl,D.out⟩
theorem ZI(H:HW w W hb sb lw x t fr ls S 0)(p:Nat)(hp:p<18446744073709551616):
  Calls prog 65 #[.pointer (some ⟨hb,0,none⟩),.int .u64 p] W fun e w'=>∃ z er,e=.returned (.tuple #[.int .u64 ((z:Nat):Int),.int .i64 er])/\((er=0/\aG x ls S p z)\/(er=1/\z=0/\∀ c,¬aG x ls S p c))/\Kt nO W w':=by
 have LK:=aA H.lock;have HH:=aA H;have SS:=aA (xB H.in p hp);clear H;go_enter_defers func65,ntmps65;go_wp2_with fail;refine LK.out.mono ?_;rintro e w1 ⟨rfl,rfl⟩;go_wp2_with fail;refine SS.out.mono ?_;rintro e w2 ⟨a,z,l,rfl,hst,hk⟩;have K3:=aA (hk.alloc (cJ a z));have X5:=aA (nH w2 (cJ a z));obtain⟨x0,x1,xf⟩:=gF X5.out;have UL:=aA ((HH.out.in.keep K3.out).unlock .returning);have D:=aA (HH.out.kout K3.out);rcases hst with ⟨rfl,rfl,hl⟩|⟨rfl,hl⟩
 ·have L:=aA hl;clear hl hk;go_wp2_with fail;refine leaves_cons (f:=36) (args:=#[.pointer (some ⟨hb,0,none⟩)]) (by simp) (by simp[go_sem]) ?_;refine UL.out.mono ?_;rintro e u' w3 ⟨rfl,rfl,rfl⟩;exact⟨_,results_tmp2 rfl _ _ _,z,0,rfl,.inl ⟨rfl,L.out⟩,D.out⟩
 ·have L:=aA hl;clear hl hk;go_wp2_with fail;refine leaves_cons (f:=36) (args:=#[.pointer (some ⟨hb,0,none⟩)]) (by simp) (by simp[go_sem]) ?_;refine UL.out.mono ?_;rintro e u' w3 ⟨rfl,rfl,rfl⟩;exact⟨_,results_tmp2 rfl _ _ _,0,1,rfl,.inr ⟨rfl,rfl,L.out⟩,D.out⟩
end
end Go.Proofs.YtbgbfpklgfpepaaGreatDoor
