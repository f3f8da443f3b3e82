import Derived.Test.YtkfmheelhinjdaaGreatDoorXq
import Derived.Test.YtkfmheelhinjdaaGreatDoorWb
set_option maxRecDepth 1000000
set_option maxHeartbeats 80000000
namespace Go.Proofs.YtkfmheelhinjdaaGreatDoor
open _root_.Go.Proofs.Tryz
open Go.RowKit
set_option linter.unusedVariables false
section
variable {w W W':World} {hb sb lw:Nat} {x:Bx} {t:Bt} {fr:Nat->List Nat} {ls:List (Nat×Nat)} {S:Sb} {s:Int}
end
theorem KU(n m k:Nat)(W:World)(e1:(n:Int)/16=(m:Int))(hn:n<=1048576)(LG:Calls prog 160 #[.int .u64 m] W fun e w'=>e=.returned (.int .i64 k)/\w'=W):Calls prog 129 #[.int .u64 n] W fun e w'=>e=.returned (.int .i64 k)/\w'=W:=by
 have L:=aA LG;clear LG;go_enter func129,ntmps129;go_wp2_with fail;refine L.out.mono ?_;rintro e w1 ⟨rfl,rfl⟩;go_wp2_with fail;go_ret;exact⟨rfl,rfl⟩
theorem KR(k:Nat)(hk:k<8)(W:World):Calls prog 129 #[.int .u64 ((aE k:Nat):Int)] W fun e w'=>e=.returned (.int .i64 k)/\w'=W:=by
 have hp : 2 ^ k<=2 ^ 8:=Nat.pow_le_pow_right (by decide) (by omega);have LG:=oI (2 ^ k) (by omega) W;rw[nI _ (Nat.ne_of_gt (Nat.pow_pos (by decide))),Nat.log2_two_pow] at LG;exact KU _ (2 ^ k) k W (by unfold aE;omega) (by unfold aE;omega) LG
theorem KQ(n m k:Nat)(W:World)(e1:(n:Int)/4096=(m:Int))(hn:n<=1048576)(LG:Calls prog 160 #[.int .u64 m] W fun e w'=>e=.returned (.int .i64 k)/\w'=W):Calls prog 131 #[.int .u64 n] W fun e w'=>e=.returned (.int .i64 k)/\w'=W:=by
 have L:=aA LG;clear LG;go_enter func131,ntmps131;go_wp2_with fail;refine L.out.mono ?_;rintro e w1 ⟨rfl,rfl⟩;go_wp2_with fail;go_ret;exact⟨rfl,rfl⟩
theorem KO(k:Nat)(hk:k<=8)(W:World):Calls prog 131 #[.int .u64 ((4096*2 ^ k:Nat):Int)] W fun e w'=>e=.returned (.int .i64 k)/\w'=W:=by
 have hp : 2 ^ k<=2 ^ 8:=Nat.pow_le_pow_right (by decide) (by omega);have LG:=oI (2 ^ k) (by omega) W;rw[nI _ (Nat.ne_of_gt (Nat.pow_pos (by decide))),Nat.log2_two_pow] at LG;exact KQ _ (2 ^ k) k W (by skip;omega) (by skip;omega) LG
section
variable {w W W':World} {hb sb lw:Nat} {x:Bx} {t:Bt} {fr:Nat->List Nat} {ls:List (Nat×Nat)} {S:Sb} {s:Int}
def fX(o m:Nat):Bool:=decide (cl m<=12+o)
theorem KM{o m:Nat}(hm : 16<=m)(h:fX o m=true):(∃ k,k<8/\2 ^ cl m=aE k)\/(∃ k,k<=o/\2 ^ cl m=4096*2 ^ k):=by
 have h:=of_decide_eq_true h;have h4 : 4<=cl m:=by
  refine Nat.le_of_not_lt fun hlt=>?_
  have:=(oM m 3).2 (by omega);omega
 by_cases h12:cl m<12
 ·refine .inl ⟨cl m-4,by omega,?_⟩;unfold aE;rw[show(16:Nat)=2 ^ 4 from rfl,<-Nat.pow_add];congr 1
  omega
 ·refine .inr ⟨cl m-12,by omega,?_⟩;rw[show(4096:Nat)=2 ^ 12 from rfl,<-Nat.pow_add];congr 1
  omega
end
theorem uJ(W:World)(hb sz al ov r L:Nat)(hs:sz<18446744073709551616)(ha:al<18446744073709551616)(m:Nat)(hm:m=max (max sz al) 16)(cv rv re:Int)(cb:Bool)(hz:(cv=(r:Int)/\cb=true/\r<18446744073709551616/\¬(L:Int)<r/\rv=(r:Int)/\re=0)\/(cv=(r:Int)/\cb=true/\r<18446744073709551616/\(L:Int)<r/\rv=0/\re=3)\/(cv=0/\cb=false/\rv=0/\re=3))(c4:W.cell? ⟨hb,4,none⟩=some (.int .i64 ov))(CE:Hid (Calls prog 127 #[.int .u64 m] W fun e w'=>e=.returned (.tuple #[.int .u64 cv,.bool cb])/\w'=W))(hov:ov<=8)(hL:(4096:Int)*2 ^ ov=(L:Int))(hLb:L<=1048576):
  Calls prog 82 #[.pointer (some ⟨hb,0,none⟩),.int .u64 sz,.int .u64 al] W fun e w'=>e=.returned (.tuple #[.int .u64 rv,.int .i64 re])/\w'=W:=by
 have ho:((sz:Int)<al/\(al:Int)<16/\(m:Int)=16)\/((sz:Int)<al/\¬(al:Int)<16/\(m:Int)=al)\/(¬(sz:Int)<al/\(sz:Int)<16/\(m:Int)=16)\/(¬(sz:Int)<al/\¬(sz:Int)<16/\(m:Int)=sz):=by omega
 rcases ho with ⟨h1,h2,h3⟩|⟨h1,h2,h3⟩|⟨h1,h2,h3⟩|⟨h1,h2,h3⟩
 all_goals
  rw[h3] at CE;clear h3 hm;rcases hz with ⟨rfl,rfl,hr,hle,rfl,rfl⟩|⟨rfl,rfl,hr,hle,rfl,rfl⟩|⟨rfl,rfl,rfl,rfl⟩
  all_goals
   go_enter func82,ntmps82;go_wp2_with fail;refine CE.out.mono ?_;rintro e w1 ⟨rfl,rfl⟩;go_wp2_with fail;go_ret2;exact⟨rfl,rfl⟩
section
variable {w W W':World} {hb sb lw:Nat} {x:Bx} {t:Bt} {fr:Nat->List Nat} {ls:List (Nat×Nat)} {S:Sb} {s:Int}
theorem WJ(H:HW w W hb sb lw x t fr ls S s)(sz al:Nat)(hs:sz<18446744073709551616)(ha:al<18446744073709551616)(m:Nat)(hm:m=max (max sz al) 16):
  Calls prog 82 #[.pointer (some ⟨hb,0,none⟩),.int .u64 sz,.int .u64 al] W fun e w'=>e=.returned (.tuple #[.int .u64 ((if fX x.o m=true then 2 ^ cl m else 0:Nat):Int),.int .i64 (if fX x.o m=true then 0 else 3)])/\w'=W:=by
 have n1:=H.po.nums.1;have c4:=H.c.2.2.2.1;have hmb:m<18446744073709551616:=by omega
 have CE:=KG m hmb W;obtain⟨L,hL⟩:=xe (4096*2 ^ x.o);have hLi:(4096:Int)*2 ^ x.o=(L:Int):=by rw[hL];simp
 have hLb:L<=1048576:=by
  have : 2 ^ x.o<=2 ^ 8:=Nat.pow_le_pow_right (by decide) n1;omega
 have hLp:L=2 ^ (12+x.o):=by rw[hL,Nat.pow_add]
 by_cases h64:cl m<64
 ·have hv:jY 64 m=2 ^ cl m:=by unfold jY;rw[if_pos h64]
  have hbt:nZ 64 m=true:=decide_eq_true h64;have hlt : 2 ^ cl m<18446744073709551616:=by
   have:=(iX (cl m) 64).2 h64;omega
  rw[hv,hbt] at CE;have hok:=nJ (cl m) (12+x.o);rw[<-hLp] at hok
  cases ho:fX x.o m with
  | true=>
   have hle:=hok.2 (of_decide_eq_true ho);rw[if_pos rfl,if_pos rfl];obtain⟨r,hr⟩:=xe (2 ^ cl m);rw[<-hr] at CE hle hlt ⊢;clear hok hv hbt hLp hr ho h64;exact uJ W hb sz al x.o r L hs ha m hm _ _ _ _ (.inl ⟨rfl,rfl,hlt,by omega,rfl,rfl⟩) c4 CE n1 hLi hLb
  | false=>
   have hle:=fun e=>of_decide_eq_false ho (hok.1 e)
   rw[if_neg (by decide),if_neg (by decide)];obtain⟨r,hr⟩:=xe (2 ^ cl m);rw[<-hr] at CE hle hlt;clear hok hv hbt hLp hr ho h64;exact uJ W hb sz al x.o r L hs ha m hm _ _ _ _ (.inr (.inl ⟨rfl,rfl,hlt,by have:=Nat.lt_of_not_le hle;omega,rfl,rfl⟩)) c4 CE n1 hLi hLb
 ·have hv:jY 64 m=0:=by unfold jY;rw[if_neg h64]
  have hbt:nZ 64 m=false:=decide_eq_false h64;rw[hv,hbt] at CE;have ho:fX x.o m=false:=decide_eq_false (by omega);rw[ho,if_neg (by decide),if_neg (by decide)];exact uJ W hb sz al x.o 0 L hs ha m hm _ _ _ _ (.inr (.inr ⟨rfl,rfl,rfl,rfl⟩)) c4 CE n1 hLi hLb
end
section
variable {w W W1 W':World} {hb sb lw:Nat} {x:Bx} {t:Bt} {fr:Nat->List Nat} {ls:List (Nat×Nat)} {S:Sb} {s:Int}
theorem Nx.from{x' t' fr' ls' S'}(k:Kt nO W W1)(h:Nx w W1 W' hb sb lw x t ls S s x' t' fr' ls' S'):Nx w W W' hb sb lw x t ls S s x' t' fr' ls' S':=
 ⟨h.H,h.ch,(k.mono (fun _ _ e=>e.elim)).trans h.kp (fun _ _ e=>e) (fun _ _ e=>e),fun y hy=>(h.ns y hy).imp id (Nat.le_trans k.size)⟩
theorem Tq.from{r:Nat}{d:Bool}{p:Nat}{er:Int}(k:Kt nO W W1)(h:Tq w W1 hb sb lw x t fr ls S s r d p er W'):Tq w W hb sb lw x t fr ls S s r d p er W':=by
 cases h with
 | no hp he nf hd kp=>exact .no hp he nf hd (nT k kp)
 | yes x' t' fr' ls' S' b he td nx hL hN hn hm hb1 hb2=>exact .yes x' t' fr' ls' S' b he td (nx.from k) hL hN hn hm hb1 hb2
theorem Tq.st{r:Nat}{d:Bool}{p:Nat}{er:Int}(H:HW w W hb sb lw x t fr ls S s)(h:Tq w W hb sb lw x t fr ls S s r d p er W'):∃ x' t' fr' ls' S',HW w W' hb sb lw x' t' fr' ls' S' s:=by
 cases h with
 | no hp he nf hd kp=>exact⟨_,_,_,_,_,H.keep kp⟩
 | yes x' t' fr' ls' S' b he td nx=>exact⟨_,_,_,_,_,nx.H⟩
theorem Tq.c{r:Nat}{d:Bool}{p:Nat}{er:Int}(H:HW w W hb sb lw x t fr ls S s)(h:Tq w W hb sb lw x t fr ls S s r d p er W'):W'.cell? ⟨hb,5,none⟩=some (.pointer (some ⟨lw,0,none⟩))/\W'.cell? ⟨hb,6,none⟩=some (.pointer (some ⟨sb,0,none⟩)):=by
 obtain⟨x',t',fr',ls',S',H'⟩:=h.st H;exact⟨H'.c.2.2.2.2.1,H'.c.2.2.2.2.2⟩
theorem ZF(H:HW w W hb sb lw x t fr ls S s){k:Nat}(hk:k<8)(d:Bool):
  Calls prog 83 #[.pointer (some ⟨hb,0,none⟩),.int .u64 ((aE k:Nat):Int),.bool d] W fun e w'=>∃ p er,e=.returned (.tuple #[.int .u64 ((p:Nat):Int),.int .i64 er])/\Tq w W hb sb lw x t fr ls S s (aE k) d p er w':=by
 have hz:=dU hk;obtain⟨c0,c2,c3,c4,c5,c6⟩:=H.c;have KD:=aA ((Kt.refl nO W).drew);have CL:=aA (KR k hk);have TK:=aA (((H.keep KD.out).take_small hk d).mono fun e w' h=>(show ∃ p g er,e=pT p g er/\Tq w W hb sb lw x t fr ls S s (aE k) d p er w' from by
  obtain⟨p,g,er,he,hT⟩:=h;exact⟨p,g,er,he,hT.from KD.out⟩))
 have TC:=aA (fun (w':World) (p:Nat) (er:Int) (h:Tq w W hb sb lw x t fr ls S s (aE k) d p er w')=>h.c H);obtain⟨r,hr⟩:=xe (aE k);rw[<-hr] at hz CL TK TC ⊢;have hlt:(r:Int)<4096:=by omega
 have d5:W.drew.cell? ⟨hb,5,none⟩=some (.pointer (some ⟨lw,0,none⟩)):=c5;have d6:W.drew.cell? ⟨hb,6,none⟩=some (.pointer (some ⟨sb,0,none⟩)):=c6;clear H hr hk hz;go_enter func83,ntmps83;go_wp2_with fail;go_region_held3 (fun w'=>w'.cell? ⟨hb,6,none⟩=some (.pointer (some ⟨sb,0,none⟩))) (first|with_reducible exact d6|with_reducible exact e6) (first
  | (go_at_call 129;(with_reducible refine(CL.out _).mono ?_);rintro e w5 ⟨rfl,h5⟩;replace h5:=h5.symm;subst h5)
  | (go_at_call 128;(with_reducible refine(TK.out).mono ?_);rintro e w2 ⟨p,g,er,rfl,hT⟩;have e6:=(TC.out _ _ _ hT).2;have D:=aA hT;clear hT)
  | fail)
 all_goals
  go_wp2_with fail;exact⟨rfl,.tuple #[.int .u64 ((p:Nat):Int),.int .i64 er],by simp[results,results83,go_sem],p,er,rfl,D.out⟩
theorem YU(H:HW w W hb sb lw x t fr ls S s){k:Nat}(hk:k<=x.o)(d:Bool):
  Calls prog 83 #[.pointer (some ⟨hb,0,none⟩),.int .u64 ((4096*2 ^ k:Nat):Int),.bool d] W fun e w'=>∃ p er,e=.returned (.tuple #[.int .u64 ((p:Nat):Int),.int .i64 er])/\Tq w W hb sb lw x t fr ls S s (4096*2 ^ k) d p er w':=by
 have hz : 0<2 ^ k:=Nat.pow_pos (by decide);have hk8:k<=8:=Nat.le_trans hk H.po.nums.1;obtain⟨c0,c2,c3,c4,c5,c6⟩:=H.c;have KD:=aA ((Kt.refl nO W).drew);have CL:=aA (KO k hk8);have TK:=aA (((H.keep KD.out).need_big hk d).mono fun e w' h=>(show ∃ p g er,e=pT p g er/\Tq w W hb sb lw x t fr ls S s (4096*2 ^ k) d p er w' from by
  obtain⟨p,g,er,he,hT⟩:=h;exact⟨p,g,er,he,hT.from KD.out⟩))
 have TC:=aA (fun (w':World) (p:Nat) (er:Int) (h:Tq w W hb sb lw x t fr ls S s (4096*2 ^ k) d p er w')=>h.c H);obtain⟨r,hr⟩:=xe (4096*2 ^ k);have hlr:¬r<4096:=by omega
 rw[<-hr] at CL TK TC ⊢;have hlt:¬(r:Int)<4096:=by omega
 have d5:W.drew.cell? ⟨hb,5,none⟩=some (.pointer (some ⟨lw,0,none⟩)):=c5;clear H hr hk hz hk8;go_enter func83,ntmps83;go_wp2_with fail;go_region_held3 (fun w'=>w'.cell? ⟨hb,5,none⟩=some (.pointer (some ⟨lw,0,none⟩))) (first|with_reducible exact d5|with_reducible exact e5) (first
  | (go_at_call 131;(with_reducible refine(CL.out _).mono ?_);rintro e w5 ⟨rfl,h5⟩;replace h5:=h5.symm;subst h5)
  | (go_at_call 130;(with_reducible refine(TK.out).mono ?_);rintro e w2 ⟨p,g,er,rfl,hT⟩;have e5:=(TC.out _ _ _ hT).1;have D:=aA hT;clear hT)
  | fail)
 all_goals
  go_wp2_with fail;exact⟨rfl,.tuple #[.int .u64 ((p:Nat):Int),.int .i64 er],by simp[results,results83,go_sem],p,er,rfl,D.out⟩
theorem CY(H:HW w W hb sb lw x t fr ls S s)(r:Nat)(hr:(∃ k,k<8/\r=aE k)\/(∃ k,k<=x.o/\r=4096*2 ^ k))(d:Bool):
  Calls prog 83 #[.pointer (some ⟨hb,0,none⟩),.int .u64 r,.bool d] W fun e w'=>∃ p er,e=.returned (.tuple #[.int .u64 ((p:Nat):Int),.int .i64 er])/\Tq w W hb sb lw x t fr ls S s r d p er w':=by
 rcases hr with ⟨k,hk,rfl⟩|⟨k,hk,rfl⟩
 ·exact ZF H hk d
 ·exact YU H hk d
inductive Rq8(w W:World)(hb sb lw:Nat)(x:Bx)(t:Bt)(fr:Nat->List Nat)(ls:List (Nat×Nat))(S:Sb)(s:Int)(m:Nat)(d:Bool)(p:Nat)(er:Int)(w':World):Prop where
 | big (ho:fX x.o m=false) (hp:p=0) (he:er=3) (kp:Kt nO W w')
 | ok (ho:fX x.o m=true) (hT:Tq w W hb sb lw x t fr ls S s (2 ^ cl m) d p er w')
theorem Rq8.st{m d p er}(H:HW w W hb sb lw x t fr ls S s)(h:Rq8 w W hb sb lw x t fr ls S s m d p er W'):∃ x' t' fr' ls' S',HW w W' hb sb lw x' t' fr' ls' S' s:=by
 cases h with
 | big ho hp he kp=>exact⟨_,_,_,_,_,H.keep kp⟩
 | ok ho hT=>exact hT.st H
theorem VG(H:HW w W hb sb lw x t fr ls S s)(sz al:Nat)(hs:sz<18446744073709551616)(ha:al<18446744073709551616)(d:Bool)(m:Nat)(hm:m=max (max sz al) 16):
  Calls prog 37 #[.pointer (some ⟨hb,0,none⟩),.int .u64 sz,.int .u64 al,.bool d] W fun e w'=>∃ p er,e=.returned (.tuple #[.int .u64 ((p:Nat):Int),.int .i64 er])/\Rq8 w W hb sb lw x t fr ls S s m d p er w':=by
 have SF:=aA (WJ H sz al hs ha m hm);have HH:=aA H
 cases ho:fX x.o m with
 | false=>
  rw[ho] at SF;rw[if_neg (by decide),if_neg (by decide)] at SF;have D:=aA (show Rq8 w W hb sb lw x t fr ls S s m d 0 3 W from .big ho rfl rfl (Kt.refl _ _));clear H ho hm;go_enter func37,ntmps37;go_wp2_with fail;refine SF.out.mono ?_;rintro e w1 ⟨rfl,h1⟩;replace h1:=h1.symm;subst h1;go_wp2_with fail;exact⟨rfl,.tuple #[.int .u64 ((0:Nat):Int),.int .i64 3],by simp[results,results37,go_sem],0,3,rfl,D.out⟩
 | true=>
  rw[ho] at SF;rw[if_pos rfl,if_pos rfl] at SF;have TK:=aA ((CY H (2 ^ cl m) (KM (by omega) ho) d).mono fun e w' h=>(show ∃ p er,e=.returned (.tuple #[.int .u64 ((p:Nat):Int),.int .i64 er])/\Rq8 w W hb sb lw x t fr ls S s m d p er w' from by
   obtain⟨p,er,he,hT⟩:=h;exact⟨p,er,he,.ok ho hT⟩))
  generalize 2 ^ cl m=r at *;clear H ho hm;go_enter func37,ntmps37;go_wp2_with fail;refine SF.out.mono ?_;rintro e w1 ⟨rfl,h1⟩;replace h1:=h1.symm;subst h1;go_wp2_with fail;refine TK.out.mono ?_;rintro e w2 ⟨p,er,rfl,hT⟩;have D:=aA hT;clear hT;go_wp2_with fail;exact⟨rfl,.tuple #[.int .u64 ((p:Nat):Int),.int .i64 er],by simp[results,results37,go_sem],p,er,rfl,D.out⟩
end
open Go.MuLone
abbrev jF(W:World)(hb:Nat):World:=W.setCell ⟨hb,0,none⟩ (.int .i32 1)
abbrev lT(W:World)(hb:Nat):World:=W.setCell ⟨hb,0,none⟩ (.int .i32 0)
section
variable {w W W1 W':World} {hb sb lw:Nat} {x:Bx} {t:Bt} {fr:Nat->List Nat} {ls:List (Nat×Nat)} {S:Sb} {s:Int}
theorem HW.in(H:HW w W hb sb lw x t fr ls S 0):HW w (jF W hb) hb sb lw x t fr ls S 1:=(H.set 1).1
theorem HW.kout(H:HW w W hb sb lw x t fr ls S 0)(k:Kt nO (jF W hb) W'):Kt nO W (lT W' hb):=H.round id k (H.in.keep k) rfl rfl rfl
theorem Nx.out{x' t' fr' ls' S'}(H:HW w W hb sb lw x t fr ls S 0)(n:Nx w (jF W hb) W' hb sb lw x t ls S 1 x' t' fr' ls' S'):Nx w W (lT W' hb) hb sb lw x t ls S 0 x' t' fr' ls' S':=
 ⟨(n.H.set 0).1,n.ch,H.round H.nhb n.kp n.H n.ch.bS n.ch.lim n.ch.o,fun y hy=>(n.ns y hy).imp id (fun e=>by simpa using e)⟩
theorem Tq.out{r d p er}(H:HW w W hb sb lw x t fr ls S 0)(h:Tq w (jF W hb) hb sb lw x t fr ls S 1 r d p er W'):Tq w W hb sb lw x t fr ls S 0 r d p er (lT W' hb):=by
 cases h with
 | no hp he nf hd kp=>exact .no hp he nf hd (H.kout kp)
 | yes x' t' fr' ls' S' b he td nx hL hN hn hm hb1 hb2=>exact .yes x' t' fr' ls' S' b he td (nx.out H) hL hN hn hm hb1 hb2
theorem Rq8.out{m d p er}(H:HW w W hb sb lw x t fr ls S 0)(h:Rq8 w (jF W hb) hb sb lw x t fr ls S 1 m d p er W'):Rq8 w W hb sb lw x t fr ls S 0 m d p er (lT W' hb):=by
 cases h with
 | big ho hp he kp=>exact .big ho hp he (H.kout kp)
 | ok ho hT=>exact .ok ho (hT.out H)
theorem TJ(H:HW w W hb sb lw x t fr ls S 0)(sz:Nat)(hs:sz<18446744073709551616)(d:Bool)(m:Nat)(hm:m=max sz 16):
  Calls prog 12 #[.pointer (some ⟨hb,0,none⟩),.int .u64 sz,.bool d] W fun e w'=>∃ p er,e=.returned (.tuple #[.int .u64 ((p:Nat):Int),.int .i64 er])/\Rq8 w W hb sb lw x t fr ls S 0 m d p er w':=by
 have LK:=aA H.lock;have RQ:=aA (VG H.in sz 1 hs (by decide) d m (by omega));have ST:=aA (fun (w2:World) (p:Nat) (er:Int) (h:Rq8 w (jF W hb) hb sb lw x t fr ls S 1 m d p er w2)=>And.intro (h.st H.in) (h.out H));clear H hm;go_enter_defers func12,ntmps12;go_wp2_with fail;refine LK.out.mono ?_;rintro e w1 ⟨rfl,rfl⟩;go_wp2_with fail;refine RQ.out.mono ?_;rintro e w2 ⟨p,er,rfl,hq⟩;obtain⟨⟨x',t',fr',ls',S',H2⟩,hD⟩:=ST.out _ _ _ hq;have UL:=aA (H2.unlock .returning);have D:=aA hD;clear hD H2 hq;go_wp2_with fail;refine leaves_cons (f:=36) (args:=#[.pointer (some ⟨hb,0,none⟩)]) (by simp) (by simp[go_sem]) ?_;refine UL.out.mono ?_;rintro e u' w3 ⟨rfl,rfl,rfl⟩;exact⟨_,results_tmp2 rfl _ _ _,p,er,rfl,D.out⟩
end
section
variable {w W W1 W':World} {hb sb lw:Nat} {x:Bx} {t:Bt} {fr:Nat->List Nat} {ls:List (Nat×Nat)} {S:Sb} {s:Int}
theorem HW.other(H:HW w W hb sb lw x t fr ls S s){y0:Nat}{cs:Array Value}{e:TypeId}{z:Nat×Nat}(hy:W.heap[y0]?=some (.cells cs e z))(hn:w.heap.size<=y0)(h1:¬Go.Proofs.YtkfmheelhinjdaaGreatDoor.pty e)(h2:e≠135)(h3:e≠75)(k:Kt (fun y=>y=y0) W W'):HW w W' hb sb lw x t fr ls S s:=by
 obtain⟨h,o⟩:=H.so;have hpty:∀ y,(aD x y\/y=x.b\/y=x.l\/y=lw)->y≠y0:=fun y hy2 e=>by
  subst e;exact h1 (o.sw.pl.pty hy hy2)
 have hsb:sb≠y0:=fun e=>by
  subst e;exact h2 (kC hy o.sw.bx)
 have hhb:hb≠y0:=fun e=>by
  subst e;exact h3 (kC hy H.bx)
 refine⟨⟨h,⟨⟨⟨(k.block _ (lH o.sw.pl.box) (hpty _ (.inr (.inr (.inr rfl))))).trans o.sw.pl.box,o.sw.pl.bd.kept k (fun y hy2=>hpty y ?_),o.sw.pl.nw,o.sw.pl.kp.trans k (fun _ _ e=>e) (fun y hy e=>absurd hn (by rw[<-e];exact Nat.not_le.2 hy))⟩,(k.block _ (lH o.sw.bx) hsb).trans o.sw.bx,o.sw.nw,o.sw.tb⟩,o.sf,o.st,o.bm,o.si,o.hd⟩⟩,H.lv,(k.block _ (lH H.bx) hhb).trans H.bx,H.nw,H.br⟩;rcases hy2 with hy2|hy2|hy2
 ·exact .inl hy2
 ·exact .inr (.inl hy2)
 ·exact .inr (.inr (.inl hy2))
end
section
variable {w W:World} {wb sb lw:Nat} {x:Bx} {t:Bt} {fr:Nat->List Nat} {ls:List (Nat×Nat)} {S:Sb} {h:Nat->Int}
end
section
variable {w W W1 W':World} {hb sb lw:Nat} {x:Bx} {t:Bt} {fr:Nat->List Nat} {ls:List (Nat×Nat)} {S:Sb} {s:Int}
theorem HW.space(H:HW w W hb sb lw x t fr ls S s)(hn : 0<x.n):∃ g,x.a=some g/\M.SpA W x.s (some g) x.bS x.R x.lim x.n t.f:=by
 have hs:=H.po.pl.bd.sp;obtain⟨g,hg⟩:=uQ hs hn;exact⟨g,hg,by rw[hg] at hs;exact hs⟩
end
theorem GS.pushM{w0 W:World}{e:TypeId}{size:Nat}{v:Value}{n:Nat}{xs:List Value}(h:GS w0 W e size v n xs)(t:TypeId)(i:TypeInfo)(z:Value)(bytes:Nat)
  (ht:prog.underlying t=some (.slice e)) (hi:prog.info? e=some i) (hz:i.zero=some z) (hs:i.size=size) (hby:i.bytes=bytes) (hzs:z.cells.size=size) (hsz : 0<size)
  (a:Addr) (c m:Nat) (hm : 0<m) (news:List Value) (hl':news.length=m*size) (hnews:∀ j u,news[j]?=some u->W.cell? (a.add j)=some u) (h1:∀ u∈news,u.oneCell'=true) (h63:n+m<=maxLen) (hbb:(n+m)*bytes<=140737488355328):
  ∃ g cap w',(∀ ty,(Builtin.append_ #[t,t] ty #[v,.slice (some a) m c]).run prog W=.ok (.slice (some ⟨g,0,none⟩) (n + m) cap) w')/\GS w0 w' e size (.slice (some ⟨g,0,none⟩) (n + m) cap) (n + m) (xs ++ news)/\w0.heap.size<=g/\Kt (fun b=>v.ownBlock=some b) W w'/\(v.ownBlock=some g\/W.heap.size<=g):=by
 have ho:=h.own;by_cases hr:∃ g cap,v=.slice (some ⟨g,0,none⟩) n cap/\n+m<=cap
 ·obtain⟨g,cap,rfl,hroom⟩:=hr;obtain⟨w',hrun,hown,hgr⟩:=run_append_fits (P:=prog) W 0 t 0 e i size ht hi hs g n cap xs ho a m c news hl' hnews h1 hroom;have hg:=(h.new g cap rfl).resolve_left (by omega);have hk:=kX hgr;refine⟨g,cap,w',fun ty=>?_,⟨hown,fun g' cap' e=>?_,h.kp.trans hk (fun _ _ x=>x) (fun x hx e=>?_)⟩,hg,hk,.inl (by simp[Value.ownBlock])⟩
  ·rw[<-hrun];simp[Builtin.append_]
  ·simp at e;exact .inr (by omega)
  ·cases e;omega
 ·have key:∃ v' w',(Builtin.append_ #[t,t] 0 #[v,.slice (some a) m c]).run prog W=.ok v' w'/\w'.ownsRow W.heap.size e size v' (n + m) (xs ++ news)/\Kt nO W w':=by
   rcases ho.2 with ⟨rfl,h0⟩|⟨g,cap,cur,rfl,hb,hg,hnc,hcm,hcs,htake⟩
   ·subst h0;have:xs=[]:=List.eq_nil_of_length_eq_zero (by rw[ho.1,Nat.zero_mul]);subst this;obtain⟨v',w',hrun,hown,hgr,_⟩:=run_append_own (P:=prog) W W.heap.size t 0 e i z size bytes ht hi hz hs hby hzs hsz (.slice none 0 0) 0 [] (World.ownsRow_nil _ _ _ _) a m c news hl' hnews h1 h63 hbb (Nat.le_refl _);exact⟨v',w',hrun,hown,(kX hgr).mono (fun _ _ e=>by cases e)⟩
   ·obtain⟨v',w',hrun,hown,hgr⟩:=run_append_arg_grows (P:=prog) W t 0 e i z size bytes ht hi hz hs hby hzs hsz ⟨g,0,none⟩ n cap xs ho.1 (fun j u hj=>by
     rw[Addr.add_lit,Nat.zero_add];rw[<-htake,List.getElem?_take] at hj;split at hj
     ·simp only[World.cell?,hg];rw[<-Array.getElem?_toList,hj];rfl
     ·cases hj) a m c news hl' hnews (Nat.lt_of_not_le fun hle=>hr ⟨g,cap,rfl,hle⟩) h63 hbb
    exact⟨v',w',hrun,hown,(kX hgr).mono (fun _ _ e=>by cases e)⟩
  obtain⟨v',w',hrun,hown,hk⟩:=key;rcases hown.2 with ⟨_,h0⟩|⟨g,cap,cur,rfl,hb,hg,h3⟩
  ·omega
  ·refine⟨g,cap,w',fun ty=>?_,⟨⟨hown.1,.inr ⟨g,cap,cur,rfl,Nat.zero_le _,hg,h3⟩⟩,fun g' cap' e=>?_,nT h.kp hk⟩,Nat.le_trans h.kp.size hb,hk.mono (fun _ _ e=>e.elim),.inr hb⟩
   ·rw[<-hrun];simp[Builtin.append_]
   ·simp at e;exact .inr (by have:=h.kp.size;omega)
def blV:List (Nat×Nat)->List Value
 | []=>[]
 | b :: l=>.int .u64 b.1 :: .int .u64 b.2 :: blV l
theorem nM:∀ l m:List (Nat×Nat),blV (l ++ m)=blV l ++ blV m
 | [],_=>rfl
 | b :: l,m=>by
  show _ :: _ :: blV (l ++ m)=_
  rw[nM l m];rfl
theorem mH:∀ l:List (Nat×Nat),(blV l).length=l.length*2
 | []=>rfl
 | b :: l=>by
  show(blV l).length+1+1=(l.length+1)*2
  rw[mH l];omega
theorem xQ:∀ (l:List (Nat×Nat)) (u:Value),u∈blV l->u.oneCell'=true
 | b :: l,u,h=>by
  rcases List.mem_cons.1 h with rfl|h
  ·rfl
  ·rcases List.mem_cons.1 h with rfl|h
   ·rfl
   ·exact xQ l u h
theorem pM:(prog.info? 45).map (fun i=>(i.zero,i.size,i.bytes))=some (some (.agg #[.int .u64 0,.int .u64 0]),2,16):=by kernel_rfl
abbrev GB(w0 W:World)(v:Value)(l:List (Nat×Nat)):Prop:=GS w0 W 45 2 v l.length (blV l)
theorem GB.push{w0 W:World}{v:Value}{l:List (Nat×Nat)}(h:GB w0 W v l)(a s:Nat)(hn:l.length<=4000000):
  ∃ g cap w',(∀ t,(Builtin.append_ #[46,46] t #[v,.slice (some ⟨W.heap.size,0,none⟩) 1 1]).run prog (W.alloc (cG a s))=.ok (.slice (some ⟨g,0,none⟩) (l.length + 1) cap) w')/\GB w0 w' (.slice (some ⟨g,0,none⟩) (l.length + 1) cap) (l ++ [(a,s)])/\Kt (fun b=>v.ownBlock=some b) W w':=by
 obtain⟨i,hi,hzz⟩:=Option.map_eq_some_iff.1 pM;simp only[Prod.mk.injEq] at hzz;have ka:=(Kt.refl nO W).alloc (cG a s);obtain⟨g,cap,w',h1,h2,h5,h6,h7⟩:=(GS.keep h ka).pushM 46 i (.agg #[.int .u64 0,.int .u64 0]) 16 Tryz.underlying46 hi hzz.1 hzz.2.1 hzz.2.2 rfl (by decide) ⟨W.heap.size,0,none⟩ 1 1 (by decide) [.int .u64 a,.int .u64 s] rfl (fun j u hj=>mK (cs:=#[.int .u64 a,.int .u64 s]) j u hj) (by simp[Value.oneCell']) (by simp only[maxLen];omega) (by omega);refine⟨g,cap,w',h1,?_,ka.trans h6 (fun _ _ e=>e.elim) (fun _ _ e=>e)⟩;show GS _ _ _ _ _ (l ++ [(a,s)]).length (blV (l ++ [(a,s)]))
 rw[nM,List.length_append];exact h2
theorem GB.pushL{w0 W:World}{v u:Value}{l m:List (Nat×Nat)}(h:GB w0 W v l)(hu:W.ownsRow 0 45 2 u m.length (blV m))(hn:l.length<=4000000)(hm:m.length<=4000000):
  ∃ v' w',(∀ t,(Builtin.append_ #[46,46] t #[v,u]).run prog W=.ok v' w')/\GB w0 w' v' (l ++ m)/\Kt (fun b=>v.ownBlock=some b) W w':=by
 obtain⟨i,hi,hzz⟩:=Option.map_eq_some_iff.1 pM;simp only[Prod.mk.injEq] at hzz;rcases hu.2 with ⟨rfl,h0⟩|⟨g,cap,cur,rfl,hb,hg,hnc,hcm,hcs,htake⟩
 ·obtain rfl:=List.eq_nil_of_length_eq_zero h0;refine⟨v,W,fun t=>?_,by rw[List.append_nil];exact h,Kt.refl _ _⟩;exact run_append_owned_none W 0 46 t 45 i 2 Tryz.underlying46 hi v _ _ h.own
 ·rcases Nat.eq_zero_or_pos m.length with h0|h0
  ·obtain rfl:=List.eq_nil_of_length_eq_zero h0;refine⟨v,W,fun t=>?_,by rw[List.append_nil];exact h,Kt.refl _ _⟩;obtain⟨va,vc,rfl⟩:=qZ h.own;have hle:l.length<=vc:=by
    rcases h.own.2 with ⟨e,_⟩|⟨g',cap',cur',e,_,hg',hnc',_⟩
    ·simp at e;omega
    ·simp at e;omega
   exact run_append_nothing W 46 46 t 45 i Tryz.underlying46 hi va l.length vc hle _ (Src.ofSlice W Tryz.underlying46 ⟨g,0,none⟩ 0 cap [] (by simp) (fun j u hj=>by simp at hj) (fun u hu=>by simp at hu))
  ·obtain⟨g2,cap2,w',h1,h2,h5,h6,h7⟩:=GS.pushM h 46 i (.agg #[.int .u64 0,.int .u64 0]) 16 Tryz.underlying46 hi hzz.1 hzz.2.1 hzz.2.2 rfl (by decide) ⟨g,0,none⟩ cap m.length h0 (blV m) (mH m) (fun j u hj=>by
     rw[Addr.add_lit,Nat.zero_add];rw[<-htake,List.getElem?_take] at hj;split at hj
     ·simp only[World.cell?,hg];rw[<-Array.getElem?_toList,hj];rfl
     ·cases hj) (xQ m) (by simp only[maxLen];omega) (by omega)
   refine⟨_,w',h1,?_,h6⟩;show GS _ _ _ _ _ (l ++ m).length (blV (l ++ m))
   rw[nM,List.length_append];exact h2
theorem PJ(b g:Nat):b+4096*(g+1)=b+4096*g+4096:=by omega
def gD(x:Bx)(S:Sb)(g k:Nat):Nat->List (Nat×Nat)
 | 0=>[]
 | j + 1=>if j∈S.fl g then gD x S g k j else gD x S g k j ++ [(aQ x g k j,aE k)]
theorem rA(x:Bx)(S:Sb)(g k:Nat):∀ j,(gD x S g k j).length<=j
 | 0=>Nat.le_refl _
 | j+1=>by
  have:=rA x S g k j;unfold gD;split
  ·omega
  ·rw[List.length_append];exact Nat.succ_le_succ this
section
variable {w W W':World} {hb sb lw:Nat} {x:Bx} {t:Bt} {fr:Nat->List Nat} {ls:List (Nat×Nat)} {S:Sb} {s:Int}
theorem WL(H:HW w W hb sb lw x t fr ls S s){g k j:Nat}(hc:S.c g=some k)(hj:j<aG k):∃ z:Nat,(j∈S.fl g->z=0)/\(j ∉ S.fl g->16<=z)/\z<=2048/\∀ W',Kt nO W W'->Calls prog 113 #[.pointer (some ⟨sb,0,none⟩),.int .u64 ((aQ x g k j:Nat):Int)] W' fun e w'=>e=.returned (.int .u64 z)/\Kt nO W' w':=by
 obtain⟨h,o⟩:=H.so;have n4:=H.po.nums.2.2.2.1;obtain⟨hk,sp⟩:=o.si.pg _ k hc;have hm:=o.mem hc;have hof:=kH (x:=x) (p:=g) hk hj (by omega);have hz:=dU hk;have hlv:=o.cell_liv hc hj;by_cases hf:j∈S.fl g
 ·rw[decide_eq_false (fun e=>e hf)] at hlv;refine⟨0,fun _=>rfl,fun e=>absurd hf e,by omega,fun W' kp=>?_⟩;obtain⟨h',o'⟩:=(H.keep kp).so;exact LP o'.sw _ hof.2.2 hlv
 ·rw[decide_eq_true hf] at hlv;refine⟨aE k,fun e=>absurd e hf,fun _=>hz.1,hz.2,fun W' kp=>?_⟩;obtain⟨h',o'⟩:=(H.keep kp).so;have:=TD o'.sw _ hof.2.2 hlv;rw[show dA x t (aQ x g k j)=t.m.pg g from(sQ (x:=x) (t:=t) hk hj (by omega) hm.2.1 sp.kd sp.cl).2.2.1,sp.cl,Int.toNat_natCast] at this;exact this
theorem PH(H:HW w W hb sb lw x t fr ls S s){g k:Nat}(hc:S.c g=some k)(q:Pg)(hq:q.cl=(k:Int)):
  Calls prog 75 #[.pointer (some ⟨hb,0,none⟩),.int .i64 g,cC q] W fun e w'=>∃ v,e=.returned v/\GB W w' v (gD x S g k (aG k)):=by
 have n4:=H.po.nums.2.2.2.1;have n2:=H.po.nums.2.1;obtain⟨h,o⟩:=H.so;obtain⟨hk,sp⟩:=o.si.pg _ k hc;have hm:=o.mem hc;have hnb:=dN hk;have hz:=dU hk;have hg:g+1<=1024:=by omega
 clear o h sp;have K0:=aA ((Kt.refl nO W).alloc (aI q));have X0:=aA (nH W (aI q));have CL:=aA (fun W'=>JL k hk q hq W');have AD:=aA (fun W' (k:Kt nO W W')=>tW (H.keep k) g (by omega));have AD1:=aA (fun W' (k:Kt nO W W')=>tW (H.keep k) (g+1) hg);have SZ:=aA (fun j (hj:j<aG k)=>WL H hc hj);have CB:=aA (fun W' (k:Kt nO W W')=>(H.keep k).c);have CE:=aA (fun j=>And.intro (rA x S g k j) (show gD x S g k (j + 1)=if j∈S.fl g then gD x S g k j else gD x S g k j ++ [(aQ x g k j,aE k)] from rfl));have cj:∀ j,aQ x g k j=x.bS+4096*g+j*aE k:=fun j=>rfl
 have jm:∀ j,j<=aG k->j*aE k<=4096:=fun j hj=>by
  rw[<-hnb.1];exact Nat.mul_le_mul_right _ hj
 have js:∀ j,(j+1)*aE k=j*aE k+aE k:=fun j=>by rw[Nat.add_mul,Nat.one_mul]
 have CF:=aA (fun j=>cj j);have JM:=aA (fun j (hj:j<=aG k)=>jm j hj);have JS:=aA js;obtain⟨a1,ha1⟩:∃ a,a=x.bS+4096*(g+1):=⟨_,rfl⟩;obtain⟨a0,ha0⟩:∃ a,a=x.bS+4096*g:=⟨_,rfl⟩;rw[<-ha1] at AD1;rw[<-ha0] at AD CF;have hA:a1=a0+4096:=by rw[ha1,ha0];exact PJ x.bS g
 have hab:a1<=9223372036854775808:=by omega
 obtain⟨N,hN⟩:=xe (aG k);obtain⟨z,hzz⟩:=xe (aE k);have NZ:=aA (show N*z=4096 by rw[hN,hzz];exact hnb.1);rw[<-hN] at SZ JM hnb ⊢;rw[<-hzz] at CL CE CF JM JS hz hnb;have hNb:N<=256:=hnb.2.2;obtain⟨f,hf⟩:=xe (gD x S g k);rw[<-hf] at CE ⊢;have f0:f 0=[]:=by rw[hf];rfl
 have HH:=aA H;clear H n4 n2 hm hq hc cj jm js ha0 ha1 hN hzz hnb hf hk;go_enter func75,ntmps75;obtain⟨x0,x1,x2,x3,x4,x5,x6,x7,x8,x9,x10⟩:=kQ X0.out;go_wp2_with fail;refine(CL.out _).mono ?_;rintro e w1 ⟨rfl,hk1⟩;have K1:=aA (nT K0.out hk1);clear hk1 x0 x1 x2 x3 x4 x5 x6 x7 x8 x9 x10 X0 K0;go_wp2_with fail;refine(AD.out _ K1.out).mono ?_;rintro e w2 ⟨rfl,h2⟩;replace h2:=h2.symm;subst h2;go_wp2_with fail;have HA:=aA hA;clear hA;obtain⟨g1,hg1⟩:=xe (g+1);rw[<-hg1] at AD1 hg;have ig2:(g:Int)+1=(g1:Int):=by omega
 clear hg1;go_loopw [7,9] (fun c p V=>∃ j:Nat,j<=N/\p=.int .u64 ((a0+j*z:Nat):Int)/\Hid (GB W V c (f j))) (fun _ p _=>a1-(intOf p).toNat)
 case atStart=>exact⟨0,Nat.zero_le _,by rw[Nat.zero_mul,Nat.add_zero],aA (by rw[f0];exact GS.nil _ _ _ _ K1.out)⟩
 case round=>
  clear K1 AD f0;obtain⟨j,hj,rfl,hG⟩:=hrel;have hle:=(CE.out j).1;have jm:=JM.out j hj;have A1:=aA (AD1.out _ hG.out.kp);have hA:=HA.out;by_cases hlt:j<N
  ·have js:=JS.out j;have jm1:=JM.out (j+1) hlt;obtain⟨zz,z1,z2,z3,SZj⟩:=SZ.out j hlt;have SZj:=aA SZj;rw[CF.out j] at SZj;have ce:=(CE.out j).2;rw[CF.out j] at ce;obtain⟨c0,c2,c3,c4,c5,c6⟩:=CB.out _ hG.out.kp;rw[js] at jm1;obtain⟨p,hp⟩:=xe (a0+j*z);obtain⟨p1,hp1⟩:∃ p,p=a0+(j+1)*z:=⟨_,rfl⟩;rw[<-hp] at SZj ce ⊢;have hpa:(p:Int)<a1:=(by omega);have hpp:(p:Int)+(z:Int)=p1:=(by omega);have hp1b:p1<=a1:=(by omega);have hpd:p<p1:=(by omega);have PP:=aA (show p1=a0+(j+1)*z from hp1);clear jm jm1 js hp hp1 JM JS hA HA;go_wp2_with fail;refine A1.out.mono ?_;rintro e w3 ⟨rfl,h3⟩;replace h3:=h3.symm;subst h3;go_wp2_with fail;refine(SZj.out _ hG.out.kp).mono ?_;rintro e w4 ⟨rfl,hk4⟩;have G4:=aA (GS.keep hG.out hk4);clear hk4 c0 c2 c3 c4 c5 c6;by_cases hf:j∈S.fl g
   ·rw[if_pos hf] at ce;obtain rfl:=z1 hf;have zn:(((0:Nat):Int) != 0)=false:=rfl;go_wp2_with fail;exact⟨⟨j+1,hlt,by rw[<-PP.out],aA (by rw[ce];exact G4.out)⟩,by simp[intOf];omega⟩
   ·rw[if_neg hf] at ce;have zp:=z2 hf;have zn:((zz:Int) != 0)=true:=(by rw[bne_iff_ne];omega);obtain⟨gg,cap,w5,PU,G5,_⟩:=GB.push G4.out p z (by omega);have G5:=aA G5;have HAP:=aA PU;clear PU;go_wp2_with (at_builtin;refine Lib.wpList_append_run _ rfl _ _ _ _ rfl _ (.slice (some ⟨w4.heap.size,0,none⟩) 1 1) rfl rfl _ _ (HAP.out _) ?_)
    exact⟨⟨j+1,hlt,by rw[<-PP.out],aA (by rw[ce];exact G5.out)⟩,by simp[intOf];omega⟩
  ·obtain rfl:j=N:=(by omega);rw[NZ.out] at jm ⊢;obtain⟨p,hp⟩:=xe (a0+4096);rw[<-hp];have hpa:¬(p:Int)<a1:=(by omega);clear hp hA HA jm NZ JM JS CF;go_wp2_with fail;refine A1.out.mono ?_;rintro e w3 ⟨rfl,h3⟩;replace h3:=h3.symm;subst h3;go_wp2_with fail;go_ret;exact⟨_,rfl,hG.out⟩
end
section
variable {I:W.Img} {fr:Nat->List Nat} {S:Sb} {x:Bx} {t:Bt}
end
section
variable {I:W.Img} {fr:Nat->List Nat} {S:Sb} {x:Bx} {t:Bt}
end
end Go.Proofs.YtkfmheelhinjdaaGreatDoor
