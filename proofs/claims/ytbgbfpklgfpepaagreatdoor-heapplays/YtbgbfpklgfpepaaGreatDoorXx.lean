import Derived.Test.YtbgbfpklgfpepaaGreatDoorWh
set_option maxRecDepth 1000000
set_option maxHeartbeats 80000000
namespace Go.Proofs.YtbgbfpklgfpepaaGreatDoor
open Tryz
open Go.RowKit
open Go.MuLone
set_option linter.unusedVariables false
section
variable {w W W1 W2 W':World} {hb sb lw:Nat} {x:Bx} {t:Bt} {fr:Nat->List Nat} {ls:List (Nat×Nat)} {S:Sb} {s:Int}
theorem RY(H:HW w W hb sb lw x t fr ls S s){p z:Nat}(hl:aG x ls S p z)(r:Nat)(hr:(∃ k,k<8/\r=aC k)\/(∃ k,k<=x.o/\r=4096*2 ^ k))(d:Bool):
  Calls prog 51 #[.pointer (some ⟨hb,0,none⟩),kL p z,.int .u64 r,.bool d] W fun e w'=>∃ p' er,e=.returned (.tuple #[.int .u64 ((p':Nat):Int),.int .i64 er])/\Mq w W hb sb lw x t fr ls S s p z r d p' er w':=by
 have K0:=aA ((Kt.refl nO W).alloc (cJ p z));have X0:=aA (nH W (cJ p z));have H0:=aA (H.keep K0.out);have TK:=aA (vR H0.out r hr d);have HL:=aA hl;have hrb : 16<=r/\r<=1048576:=by
  rcases hr with ⟨k,hk,rfl⟩|⟨k,hk,rfl⟩
  ·have:=bU hk;omega
  ·have h8:=H.po.nums.1;have : 2 ^ k<=2 ^ 8:=Nat.pow_le_pow_right (by decide) (by omega);have : 0<2 ^ k:=Nat.pow_pos (by decide);omega
 have hpz:p<9223372036854775808/\0<z/\z<=9223372036854775808:=by
  obtain⟨h',o⟩:=H.so;have h1:=o.inside hl;have h2:=(o.span hl).1;have n4:=o.po.nums.2.2.2.1;omega
 obtain⟨hp1,hp2,hp3⟩:=hpz;obtain⟨hr1,hr2⟩:=hrb;clear H hl hr;go_enter func51,ntmps51;go_wp2_with fail;refine TK.out.mono ?_;rintro e w1 ⟨p',er,rfl,hT⟩
 cases hT with
 | no hp he nf hd kp=>
  subst hp he;have D:=aA (show Mq w W hb sb lw x t fr ls S s p z r d 0 2 w1 from .no rfl rfl nf hd (nT K0.out kp));clear nf hd kp;go_wp2_with fail;exact⟨rfl,.tuple #[.int .u64 ((0:Nat):Int),.int .i64 2],by simp[results,results51,go_sem],0,2,rfl,D.out⟩
 | yes x1 t1 fr1 ls1 S1 b he td nx hL hN hn hm hb1 hb2=>
  subst he;have X1:=aA (show w1.heap[W.heap.size]?=some (cJ p z)from by
   obtain⟨h',o⟩:=H0.out.so;exact(nx.kp.block _ (lH X0.out) (o.bty8 X0.out)).trans X0.out)
  have H1:=aA nx.H;have hl1:aG x1 ls1 S1 p' r:=(hL _ _).2 (.inr ⟨rfl,rfl⟩);have hl2:aG x1 ls1 S1 p z:=(hL _ _).2 (.inl HL.out);obtain⟨k,hk⟩:=xe (min z r);have KD:=aA ((Kt.refl nO w1).drew);have HD:=aA (H1.out.keep KD.out);have XD:=aA (show w1.drew.heap[W.heap.size]?=some (cJ p z)from X1.out);have SP:=aA (gX HD.out.po.pl);have CP:=aA ((HD.out.copy (k:=k) hl1 hl2 (by omega) (by omega) (by omega)).mono fun e w' h=>(show e=.returned (.int .i64 0)/\(w'.cell? ⟨hb,5,none⟩=some (.pointer (some ⟨lw,0,none⟩))/\w'.cell? ⟨W.heap.size,0,none⟩=some (.int .u64 p)/\w'.cell? ⟨W.heap.size,1,none⟩=some (.int .u64 z))/\Wr w w1 hb sb lw x1 t1 fr1 ls1 S1 s (M.upd t1.f (p'-x1.bS) k fun i=>t1.f (p-x1.bS+i)) w'/\w'.heap[W.heap.size]?=some (cJ p z)from by
   obtain⟨he,hw⟩:=h;have hx:w'.heap[W.heap.size]?=some (cJ p z):=by
    obtain⟨h',o⟩:=HD.out.so;exact(hw.2.block _ (lH XD.out) (o.bty8 XD.out)).trans XD.out
   exact⟨he,⟨hw.1.c.2.2.2.2.1,(gF hx).1,(gF hx).2.1⟩,hw.from KD.out,hx⟩))
  have MK:=aA (fun (w2 w3:World) (wr:Wr w w1 hb sb lw x1 t1 fr1 ls1 S1 s (M.upd t1.f (p'-x1.bS) k fun i=>t1.f (p-x1.bS+i)) w2) (gq:Gq w w2 hb sb lw x1 { t1 with f:=M.upd t1.f (p'-x1.bS) k fun i=>t1.f (p-x1.bS+i) } fr1 ls1 S1 s p z w3)=>OG HL.out hk (nx.from K0.out) hL hN hn hm hb1 hb2 wr gq);have L2:=aA hl2;obtain⟨c0,c2,c3,c4,c5,c6⟩:=H1.out.c;obtain⟨d0,d2,d3,d4,d5,d6⟩:=HD.out.c;obtain⟨x0,x1',xf⟩:=gF X1.out;obtain⟨y0,y1,yf⟩:=gF XD.out;have hmin:(if r<z then (r:Int) else (z:Int))=(k:Int):=by split <;> omega
  clear td nx hL hN hn hm hb1 hb2 hl1 hl2 hk
  all_goals
   go_wp2_with fail;go_region_held3 (fun w'=>w'.cell? ⟨hb,5,none⟩=some (.pointer (some ⟨lw,0,none⟩))/\w'.cell? ⟨W.heap.size,0,none⟩=some (.int .u64 p)/\w'.cell? ⟨W.heap.size,1,none⟩=some (.int .u64 z)) (first|with_reducible exact⟨d5,y0,y1⟩|with_reducible exact e6) (first
    | (go_at_call 53;(with_reducible refine(SP.out).mono ?_);rintro e w5 ⟨rfl,h5⟩;replace h5:=h5.symm;subst h5)
    | (go_at_call 85;(try rw[hmin]);(with_reducible refine(CP.out).mono ?_);rintro e w2 ⟨rfl,e6,hw,hx⟩;have D2:=aA hw;have X2:=aA hx;clear hw hx)
    | fail)
   all_goals
    have GV:=aA (BA D2.out.1 L2.out);have MM:=aA (fun w3=>MK.out w2 w3 D2.out);obtain⟨v0,v1,vf⟩:=gF X2.out;clear MK CP SP TK D2;go_wp2_with fail;refine GV.out.mono ?_;rintro e w3 ⟨rfl,hG⟩;have D:=aA (MM.out _ hG);clear hG;go_wp2_with fail;exact⟨rfl,.tuple #[.int .u64 ((p':Nat):Int),.int .i64 0],by simp[results,results51,go_sem],p',0,rfl,D.out⟩
inductive Rl(w W:World)(hb sb lw:Nat)(x:Bx)(t:Bt)(fr:Nat->List Nat)(ls:List (Nat×Nat))(S:Sb)(s:Int)(p m:Nat)(d:Bool)(p':Nat)(er:Int)(w':World):Prop where
 | nil (hp:p=0) (h:Rq8 w W hb sb lw x t fr ls S s m d p' er w')
 | bad (hp:p≠0) (hl:∀ c,¬aG x ls S p c) (hp':p'=0) (he:er=1) (kp:Kt nO W w')
 | big (z:Nat) (hp:p≠0) (hl:aG x ls S p z) (ho:cF x.o m=false) (hp':p'=0) (he:er=3) (kp:Kt nO W w')
 | same (hp:p≠0) (ho:cF x.o m=true) (hl:aG x ls S p (2 ^ cl m)) (hp':p'=p) (he:er=0) (kp:Kt nO W w')
 | shr (z:Nat) (hp:p≠0) (ho:cF x.o m=true) (hl:aG x ls S p z) (h1 : 4096<=2 ^ cl m) (h2 : 2 ^ cl m<z) (hp':p'=p) (he:er=0) (hS:Sq w W hb sb lw x t fr ls S s p z (2 ^ cl m) w')
 | mov (z:Nat) (hp:p≠0) (ho:cF x.o m=true) (hl:aG x ls S p z) (hne : 2 ^ cl m≠z) (h1:¬(4096<=2 ^ cl m/\2 ^ cl m<z)) (hM:Mq w W hb sb lw x t fr ls S s p z (2 ^ cl m) d p' er w')
end
section
variable {w W W1 W2 W':World} {hb sb lw:Nat} {x:Bx} {t:Bt} {fr:Nat->List Nat} {ls:List (Nat×Nat)} {S:Sb} {s:Int}
theorem aG.r{W sb lw h}(o:SO w W sb lw x t fr ls S h){p z r:Nat}(hl:aG x ls S p z)(h1 : 4096<=r)(h2:r<z)(hr:(∃ k,k<8/\r=aC k)\/(∃ k,k<=x.o/\r=4096*2 ^ k)):∃ q k j,(q,k)∈ls/\S.c q=none/\p=ad x q/\z=4096*2 ^ k/\r=4096*2 ^ j/\j<=k/\k<=8:=by
 rcases hr with ⟨j,hj,rfl⟩|⟨j,hj,rfl⟩
 ·have:=bU hj;omega
 ·rcases hl with ⟨g,k,i,hv,rfl⟩|⟨q,k,hm,hc,hp,rfl⟩
  ·have:=bU (o.si.pg g k hv.1).1;omega
  ·refine⟨q,k,j,hm,hc,hp,rfl,rfl,?_,Nat.le_trans (o.al hm).1 o.po.nums.1⟩;have h3:=Nat.lt_of_mul_lt_mul_left h2;exact Nat.le_of_lt ((jX j k).1 h3)
theorem zf5(H:HW w W hb sb lw x t fr ls S 0)(sz:Nat)(hs:sz<18446744073709551616)(d:Bool)(m:Nat)(hm:m=max sz 16):
  Calls prog 15 #[.pointer (some ⟨hb,0,none⟩),.int .u64 0,.int .u64 sz,.bool d] W fun e w'=>∃ p' er,e=.returned (.tuple #[.int .u64 ((p':Nat):Int),.int .i64 er])/\Rl w W hb sb lw x t fr ls S 0 0 m d p' er w':=by
 have LK:=aA H.lock;have RQ:=aA (xN H.in sz 1 hs (by decide) d m (by omega));have ST:=aA (fun (w2:World) (p:Nat) (er:Int) (h:Rq8 w (cY W hb) hb sb lw x t fr ls S 1 m d p er w2)=>And.intro (h.st H.in) (h.out H));clear H hm;go_enter_defers func15,ntmps15;go_wp2_with fail;refine LK.out.mono ?_;rintro e w1 ⟨rfl,rfl⟩;go_wp2_with fail;refine RQ.out.mono ?_;rintro e w2 ⟨p,er,rfl,hq⟩;obtain⟨⟨x',t',fr',ls',S',H2⟩,hD⟩:=ST.out _ _ _ hq;have UL:=aA (H2.unlock .returning);have D:=aA (show Rl w W hb sb lw x t fr ls S 0 0 m d p er (dZ w2 hb)from .nil rfl hD);clear hD H2 hq;go_wp2_with fail;refine leaves_cons (f:=36) (args:=#[.pointer (some ⟨hb,0,none⟩)]) (by simp) (by simp[go_sem]) ?_;refine UL.out.mono ?_;rintro e u' w9 ⟨rfl,rfl,rfl⟩;exact⟨_,results_tmp2 rfl _ _ _,p,er,rfl,D.out⟩
theorem zjM(H:HW w W hb sb lw x t fr ls S 0)(p sz:Nat)(hp:p<18446744073709551616)(h0:p≠0)(hs:sz<18446744073709551616)(d:Bool)(m:Nat)(hm:m=max sz 16):
  Calls prog 15 #[.pointer (some ⟨hb,0,none⟩),.int .u64 p,.int .u64 sz,.bool d] W fun e w'=>∃ p' er,e=.returned (.tuple #[.int .u64 ((p':Nat):Int),.int .i64 er])/\Rl w W hb sb lw x t fr ls S 0 p m d p' er w':=by
 have LK:=aA H.lock;have HH:=aA H;have hpi:((p:Int) == 0)=false:=by rw[beq_eq_false_iff_ne];omega
 have SS:=aA (xB H.in p hp);have SF:=aA (fun W' (H':HW w W' hb sb lw x t fr ls S 1)=>xY H' sz 1 hs (by decide) m (by omega));have H0:=aA h0;have hm16 : 16<=m:=by omega
 have KD:=aA (wR (o:=x.o) hm16);clear H h0 hm;go_enter_defers func15,ntmps15;go_wp2_with fail;refine LK.out.mono ?_;rintro e w1 ⟨rfl,rfl⟩;go_wp2_with fail;refine SS.out.mono ?_;rintro e w2 ⟨a,z,l,rfl,hst,hk⟩;have K3:=aA (hk.alloc (cJ a z));have X5:=aA (nH w2 (cJ a z));obtain⟨x0,x1,xf⟩:=gF X5.out;have H3:=aA (HH.out.in.keep K3.out);clear hk SS;go_upto_region 6 with fail;generalize w2.alloc (cJ a z)=w3 at *;generalize w2.heap.size=y5 at *;rcases hst with ⟨rfl,rfl,hl⟩|⟨rfl,hl⟩
 ·have L:=aA hl;have hz:z<=9223372036854775808/\a<9223372036854775808/\0<z:=by
   obtain⟨h',o⟩:=HH.out.so;have h1:=o.inside hl;have h2:=(o.span hl).1;have n4:=o.po.nums.2.2.2.1;omega
  obtain⟨hz1,hz2,hz3⟩:=hz;clear hl
  cases ho:cF x.o m with
  | false=>
   have UL:=aA (H3.out.unlock .returning);have D:=aA (show Rl w W hb sb lw x t fr ls S 0 a m d 0 3 (dZ w3 hb)from .big z H0.out L.out ho rfl rfl (HH.out.kout K3.out));rw[ho] at SF;rw[if_neg (by decide),if_neg (by decide)] at SF;clear ho;go_wp2_with fail;refine(SF.out _ H3.out).mono ?_;rintro e w4 ⟨rfl,h4⟩;replace h4:=h4.symm;subst h4;go_wp2_with fail;refine leaves_cons (f:=36) (args:=#[.pointer (some ⟨hb,0,none⟩)]) (by simp) (by simp[go_sem]) ?_;refine UL.out.mono ?_;rintro e u' w9 ⟨rfl,rfl,rfl⟩;exact⟨_,results_tmp2 rfl _ _ _,0,3,rfl,D.out⟩
  | true=>
   have HO:=aA ho;have kd:=KD.out ho;rw[ho] at SF;rw[if_pos rfl,if_pos rfl] at SF;obtain⟨r,hr⟩:=xe (2 ^ cl m);have HR:=aA hr;rw[<-hr] at SF kd;have hrb:r<=1048576:=by
    rcases kd with ⟨k,hk,rfl⟩|⟨k,hk,rfl⟩
    ·have:=bU hk;omega
    ·have h8:=HH.out.po.nums.1;have : 2 ^ k<=2 ^ 8:=Nat.pow_le_pow_right (by decide) (by omega);omega
   clear ho hr KD;by_cases he:r=z
   ·subst he;have UL:=aA (H3.out.unlock .returning);have D:=aA (show Rl w W hb sb lw x t fr ls S 0 a m d a 0 (dZ w3 hb)from .same H0.out HO.out (by rw[<-HR.out];exact L.out) rfl rfl (HH.out.kout K3.out));clear kd;go_wp2_with fail;refine(SF.out _ H3.out).mono ?_;rintro e w4 ⟨rfl,h4⟩;replace h4:=h4.symm;subst h4;go_wp2_with fail;refine leaves_cons (f:=36) (args:=#[.pointer (some ⟨hb,0,none⟩)]) (by simp) (by simp[go_sem]) ?_;refine UL.out.mono ?_;rintro e u' w9 ⟨rfl,rfl,rfl⟩;exact⟨_,results_tmp2 rfl _ _ _,a,0,rfl,D.out⟩
   ·have q1:((r:Int) == (z:Int))=false:=(by rw[beq_eq_false_iff_ne];omega);have HE:=aA he;clear he;by_cases hb4 : 4096<=r/\r<z
    ·obtain⟨b1,b2⟩:=hb4;obtain⟨q,k,j,hm,hc,hpa,hzz,hrr,hj,hk8⟩:∃ q k j,(q,k)∈ls/\S.c q=none/\a=ad x q/\z=4096*2 ^ k/\r=4096*2 ^ j/\j<=k/\k<=8:=by
      obtain⟨h',o⟩:=HH.out.so;exact aG.r o L.out b1 b2 kd
     have K4:=aA ((Kt.refl nO w3).drew);have HD:=aA (H3.out.keep K4.out);have X6:=aA (show w3.drew.heap[y5]?=some (cJ a z)from X5.out);have OZ:=aA (fun W'=>tV k hk8 W');have OR:=aA (fun W'=>tV j (Nat.le_trans hj hk8) W');rw[<-hzz] at OZ;rw[<-hrr] at OR;have BD:=aA (SC HD.out.po.pl);have SH:=aA ((HD.out.shrink hm hc hj a hpa).mono fun e w' h=>(show e=.returned (.int .i64 0)/\(w'.cell? ⟨hb,5,none⟩=some (.pointer (some ⟨lw,0,none⟩))/\w'.cell? ⟨y5,1,none⟩=some (.int .u64 z))/\Rl w W hb sb lw x t fr ls S 0 a m d a 0 (dZ w' hb)/\∃ x' t' fr' ls' S',HW w w' hb sb lw x' t' fr' ls' S' 1 from by
      obtain⟨he,hS⟩:=h;have hS2:=(hS.from (nT K3.out K4.out)).out HH.out;rw[<-hzz,<-hrr,HR.out] at hS2;refine⟨he,?_,.shr z H0.out HO.out L.out (by rw[<-HR.out];exact b1) (by rw[<-HR.out];exact b2) rfl rfl hS2,?_⟩
      ·obtain⟨t',q',k',j',_,_,_,_,_,_,nx,_⟩:=hS;obtain⟨h',o⟩:=HD.out.so;exact⟨nx.H.c.2.2.2.2.1,(gF ((nx.kp.block _ (lH X6.out) (o.bty8 X6.out)).trans X6.out)).2.1⟩
      ·obtain⟨t',q',k',j',_,_,_,_,_,_,nx,_⟩:=hS;exact⟨_,_,_,_,_,nx.H⟩))
     obtain⟨c0,c2,c3,c4,c5,c6⟩:=H3.out.c;obtain⟨d0,d2,d3,d4,d5,d6⟩:=HD.out.c;obtain⟨y0,y1,yf⟩:=gF X6.out;have g1:(4096:Int)<=(r:Int):=(by omega);have g2:(r:Int)<z:=(by omega);clear kd hm hc hpa hzz hrr hj hk8 b1 b2;go_wp2_with fail;refine(SF.out _ H3.out).mono ?_;rintro e w4 ⟨rfl,h4⟩;replace h4:=h4.symm;subst h4;go_wp2_with fail;go_region_held3 (fun w'=>w'.cell? ⟨hb,5,none⟩=some (.pointer (some ⟨lw,0,none⟩))/\w'.cell? ⟨y5,1,none⟩=some (.int .u64 z)) (first|with_reducible exact⟨d5,y1⟩|with_reducible exact e6) (first
      | (go_at_call 48;(with_reducible refine(BD.out).mono ?_);rintro e w5 ⟨rfl,h5⟩;replace h5:=h5.symm;subst h5)
      | (go_at_call 50;(first | with_reducible refine(OZ.out _).mono ?_ | with_reducible refine(OR.out _).mono ?_);rintro e w5 ⟨rfl,h5⟩;replace h5:=h5.symm;subst h5)
      | (go_at_call 49;(with_reducible refine(SH.out).mono ?_);rintro e w6 ⟨rfl,e6,hD,x',t',fr',ls',S',H6⟩;have UL:=aA (H6.unlock .returning);have D:=aA hD;clear hD H6)
      | fail)
     all_goals
      go_wp2_with fail;refine leaves_cons (f:=36) (args:=#[.pointer (some ⟨hb,0,none⟩)]) (by simp) (by simp[go_sem]) ?_;refine UL.out.mono ?_;rintro e u' w9 ⟨rfl,rfl,rfl⟩;exact⟨_,results_tmp2 rfl _ _ _,a,0,rfl,D.out⟩
    ·have MV:=aA (RY H3.out L.out r kd d);have MD:=aA (fun (w6:World) (p':Nat) (er:Int) (h:Mq w w3 hb sb lw x t fr ls S 1 a z r d p' er w6)=>show(∃ x' t' fr' ls' S',HW w w6 hb sb lw x' t' fr' ls' S' 1)/\Rl w W hb sb lw x t fr ls S 0 a m d p' er (dZ w6 hb)from by
      refine⟨h.st H3.out,.mov z H0.out HO.out L.out (by rw[<-HR.out];exact HE.out) (by rw[<-HR.out];exact hb4) ?_⟩;have h2:=(h.from K3.out).out HH.out;rw[HR.out] at h2;exact h2)
     have hcs:(¬(4096:Int)<=(r:Int))\/((4096:Int)<=(r:Int)/\¬(r:Int)<z):=(by omega);clear kd hb4;rcases hcs with g1|⟨g1,g2⟩
     all_goals
      go_wp2_with fail;refine(SF.out _ H3.out).mono ?_;rintro e w4 ⟨rfl,h4⟩;replace h4:=h4.symm;subst h4;go_wp2_with fail;refine MV.out.mono ?_;rintro e w6 ⟨p',er,rfl,hM⟩;obtain⟨⟨x',t',fr',ls',S',H6⟩,hD⟩:=MD.out _ _ _ hM;have UL:=aA (H6.unlock .returning);have D:=aA hD;clear hD H6 hM;go_wp2_with fail;refine leaves_cons (f:=36) (args:=#[.pointer (some ⟨hb,0,none⟩)]) (by simp) (by simp[go_sem]) ?_;refine UL.out.mono ?_;rintro e u' w9 ⟨rfl,rfl,rfl⟩;exact⟨_,results_tmp2 rfl _ _ _,p',er,rfl,D.out⟩
 ·have UL:=aA (H3.out.unlock .returning);have D:=aA (show Rl w W hb sb lw x t fr ls S 0 p m d 0 1 (dZ w3 hb)from .bad H0.out hl rfl rfl (HH.out.kout K3.out));clear hl;go_wp2_with fail;refine leaves_cons (f:=36) (args:=#[.pointer (some ⟨hb,0,none⟩)]) (by simp) (by simp[go_sem]) ?_;refine UL.out.mono ?_;rintro e u' w9 ⟨rfl,rfl,rfl⟩;exact⟨_,results_tmp2 rfl _ _ _,0,1,rfl,D.out⟩
theorem zjN(H:HW w W hb sb lw x t fr ls S 0)(p sz:Nat)(hp:p<18446744073709551616)(hs:sz<18446744073709551616)(d:Bool)(m:Nat)(hm:m=max sz 16):
  Calls prog 15 #[.pointer (some ⟨hb,0,none⟩),.int .u64 p,.int .u64 sz,.bool d] W fun e w'=>∃ p' er,e=.returned (.tuple #[.int .u64 ((p':Nat):Int),.int .i64 er])/\Rl w W hb sb lw x t fr ls S 0 p m d p' er w':=by
 by_cases h0:p=0
 ·subst h0;exact zf5 H sz hs d m hm
 ·exact zjM H p sz hp h0 hs d m hm
end
section
variable {w W W1 W':World} {hb sb lw:Nat} {x:Bx} {t:Bt} {fr:Nat->List Nat} {ls:List (Nat×Nat)} {S:Sb} {s:Int}
theorem HW.read(H:HW w W hb sb lw x t fr ls S s){p n:Nat}(hn : 0<n)(hin:M.In x.bS x.n p n):
  Calls prog 96 #[.pointer (some ⟨x.s,0,none⟩),.int .u64 p,.int .u64 n] W fun e w'=>e=.returned (.tuple #[.slice (some ⟨W.heap.size+1,0,none⟩) n n,.int .i64 0])/\M.Blk w' (W.heap.size+1) n (fun i=>t.f (p-x.bS+i))/\Kt nO W w':=by
 obtain⟨g,hg,hs⟩:=H.space (by unfold M.In at hin;omega);refine(M.Read_in x.s g x.bS x.R x.lim x.n t.f p n W hs hn hin).mono ?_;rintro e w' ⟨rfl,h2,h3⟩;exact⟨rfl,h2,dR h3⟩
theorem HW.write(H:HW w W hb sb lw x t fr ls S s){p n:Nat}{v:Value}{gg:Nat->Nat}(hn : 0<n)(hw:eL x ls S p n true)(hv:M.Bytes W v n gg):
  Calls prog 110 #[.pointer (some ⟨x.s,0,none⟩),.int .u64 p,v] W fun e w'=>e=.returned (.int .i64 0)/\Wr w W hb sb lw x t fr ls S s (M.upd t.f (p-x.bS) n gg) w':=by
 obtain⟨a,z,hl,h1,h2,hin⟩:=H.wi hw;obtain⟨g,hg,hs⟩:=H.space (by unfold M.In at hin;omega);refine(M.Write_in x.s g x.bS x.R x.lim x.n t.f p n v gg W hs hn hin hv).mono ?_;rintro e w' ⟨rfl,h3,h4⟩;rw[<-hg] at h3 h4;refine⟨rfl,H.wrote hl (fun j hj=>M.upd_out _ _ _ _ _ (fun e=>hj ?_)) h3 (dR h4)⟩;unfold M.In at hin;omega
inductive RdP(W:World)(x:Bx)(t:Bt)(ls:List (Nat×Nat))(S:Sb)(p n:Nat)(v:Value)(er:Int)(w':World):Prop where
 | nil (g:Nat) (hn:n=0) (hv:v=.slice (some ⟨g,0,none⟩) 0 0) (he:er=0) (hg:W.heap.size<=g) (hl:g<w'.heap.size)
 | ok (g:Nat) (hn : 0<n) (hw:eL x ls S p n true) (hv:v=.slice (some ⟨g,0,none⟩) n n) (he:er=0) (hg:W.heap.size<=g) (hB:M.Blk w' g n (fun i=>t.f (p-x.bS+i)))
 | bad (hn : 0<n) (hw:eL x ls S p n false) (hv:v=.slice none 0 0) (he:er=4)
theorem zS(H:HW w W hb sb lw x t fr ls S 0)(p n:Nat)(hp:p<18446744073709551616)(hn:n<18446744073709551616):
  Calls prog 60 #[.pointer (some ⟨hb,0,none⟩),.int .u64 p,.int .u64 n] W fun e w'=>∃ v er,e=.returned (.tuple #[v,.int .i64 er])/\RdP W x t ls S p n v er w'/\Kt nO W w':=by
 have LK:=aA H.lock;have HH:=aA H;have hsz:(cY W hb).heap.size=W.heap.size:=by simp
 by_cases h0:n=0
 ·subst h0;have SP:=aA (gX H.in.po.pl);have RZ:=aA (M.Read_zero x.s (p:Int) (cY W hb));obtain⟨c0,c2,c3,c4,c5,c6⟩:=H.in.c;obtain⟨l0,l1,l2⟩:=H.in.po.pl.c;clear H;go_enter_defers func60,ntmps60;go_wp2_with fail;refine LK.out.mono ?_;rintro e w1 ⟨rfl,rfl⟩;go_wp2_with fail;refine SP.out.mono ?_;rintro e w3 ⟨rfl,h3⟩;replace h3:=h3.symm;subst h3;go_wp2_with fail;refine RZ.out.mono ?_;rintro e w4 ⟨rfl,hk,hlt⟩;have UL:=aA ((HH.out.in.keep (dR hk)).unlock .returning);have D:=aA (HH.out.kout (dR hk));have P:=aA (show RdP W x t ls S p 0 (.slice (some ⟨W.heap.size+1,0,none⟩) 0 0) 0 (dZ w4 hb)from .nil _ rfl rfl rfl (by omega) (by rw[hsz] at hlt;simpa using hlt));clear hk hlt;go_wp2_with fail;refine leaves_cons (f:=36) (args:=#[.pointer (some ⟨hb,0,none⟩)]) (by simp) (by simp[go_sem]) ?_;refine UL.out.mono ?_;rintro e u' w9 ⟨rfl,rfl,rfl⟩;exact⟨_,results_tmp2 rfl _ _ _,_,0,rfl,P.out,D.out⟩
 ·have hn0 : 0<n:=by omega
  have hni:(0:Int)<(n:Int):=by omega
  have WI:=aA (qD H.in p n hp hn);clear H h0;go_enter_defers func60,ntmps60;go_wp2_with fail;refine LK.out.mono ?_;rintro e w1 ⟨rfl,rfl⟩;go_wp2_with fail;refine WI.out.mono ?_;rintro e w2 ⟨l,rfl,hl,hk⟩;have H2:=aA (HH.out.in.keep hk);have K2:=aA hk;clear hk
  cases l with
  | false=>
   have UL:=aA (H2.out.unlock .returning);have D:=aA (HH.out.kout K2.out);have P:=aA (show RdP W x t ls S p n (.slice none 0 0) 4 (dZ w2 hb)from .bad hn0 hl rfl rfl);clear hl;go_wp2_with fail;refine leaves_cons (f:=36) (args:=#[.pointer (some ⟨hb,0,none⟩)]) (by simp) (by simp[go_sem]) ?_;refine UL.out.mono ?_;rintro e u' w9 ⟨rfl,rfl,rfl⟩;exact⟨_,results_tmp2 rfl _ _ _,_,4,rfl,P.out,D.out⟩
  | true=>
   obtain⟨a,z,_,_,_,hin⟩:=H2.out.wi hl;have SP:=aA (gX H2.out.po.pl);have RD:=aA (H2.out.read hn0 hin);obtain⟨c0,c2,c3,c4,c5,c6⟩:=H2.out.c;obtain⟨l0,l1,l2⟩:=H2.out.po.pl.c;have L:=aA hl;clear hl hin;go_wp2_with fail;refine SP.out.mono ?_;rintro e w3 ⟨rfl,h3⟩;replace h3:=h3.symm;subst h3;go_wp2_with fail;refine RD.out.mono ?_;rintro e w4 ⟨rfl,hB,hk⟩;have H4:=H2.out.keep hk;have UL:=aA (H4.unlock .returning);have D:=aA (HH.out.kout (nT K2.out hk));have hs2:=K2.out.size;have P:=aA (show RdP W x t ls S p n (.slice (some ⟨w2.heap.size+1,0,none⟩) n n) 0 (dZ w4 hb)from .ok _ hn0 L.out rfl rfl (by omega) (hB.kept (cH (H4.set 0).2) (fun e=>by
    have:=lH H2.out.bx;omega)))
   clear hB hk H4;go_wp2_with fail;refine leaves_cons (f:=36) (args:=#[.pointer (some ⟨hb,0,none⟩)]) (by simp) (by simp[go_sem]) ?_;refine UL.out.mono ?_;rintro e u' w9 ⟨rfl,rfl,rfl⟩;exact⟨_,results_tmp2 rfl _ _ _,_,0,rfl,P.out,D.out⟩
inductive WrP(w W:World)(hb sb lw:Nat)(x:Bx)(t:Bt)(fr:Nat->List Nat)(ls:List (Nat×Nat))(S:Sb)(p n:Nat)(gg:Nat->Nat)(er:Int)(w':World):Prop where
 | nil (hn:n=0) (he:er=0) (kp:Kt nO W w')
 | ok (hn : 0<n) (hw:eL x ls S p n true) (he:er=0) (wr:Wr w W hb sb lw x t fr ls S 0 (M.upd t.f (p-x.bS) n gg) w')
 | bad (hn : 0<n) (hw:eL x ls S p n false) (he:er=4) (kp:Kt nO W w')
theorem RC(H:HW w W hb sb lw x t fr ls S 0)(p n:Nat)(hp:p<18446744073709551616)(hn:n<=9223372036854775807)(va:Option Addr)(vc:Nat)(gg:Nat->Nat)(hv:M.Bytes W (.slice va n vc) n gg)(hnb : 0<n->∀ y,(Value.slice va n vc).ownBlock=some y->y≠hb):
  Calls prog 67 #[.pointer (some ⟨hb,0,none⟩),.int .u64 p,.slice va n vc] W fun e w'=>∃ er,e=.returned (.int .i64 er)/\WrP w W hb sb lw x t fr ls S p n gg er w':=by
 have LK:=aA H.lock;have HH:=aA H;by_cases h0:n=0
 ·subst h0;have SP:=aA (gX H.in.po.pl);have RZ:=aA (M.Write_zero x.s (p:Int) va vc (cY W hb));obtain⟨c0,c2,c3,c4,c5,c6⟩:=H.in.c;obtain⟨l0,l1,l2⟩:=H.in.po.pl.c;clear H hv;go_enter_defers func67,ntmps67;go_wp2_with fail;refine LK.out.mono ?_;rintro e w1 ⟨rfl,rfl⟩;go_wp2_with fail;refine SP.out.mono ?_;rintro e w3 ⟨rfl,h3⟩;replace h3:=h3.symm;subst h3;go_wp2_with fail;refine RZ.out.mono ?_;rintro e w4 ⟨rfl,hk⟩;have UL:=aA ((HH.out.in.keep (dR hk)).unlock .returning);have D:=aA (show WrP w W hb sb lw x t fr ls S p 0 gg 0 (dZ w4 hb)from .nil rfl rfl (HH.out.kout (dR hk)));clear hk;go_wp2_with fail;refine leaves_cons (f:=36) (args:=#[.pointer (some ⟨hb,0,none⟩)]) (by simp) (by simp[go_sem]) ?_;refine UL.out.mono ?_;rintro e u' w9 ⟨rfl,rfl,rfl⟩;exact⟨_,results_tmp rfl _ _ _,0,rfl,D.out⟩
 ·have hn0 : 0<n:=by omega
  have hni:(0:Int)<(n:Int):=by omega
  have hnw:IntKind.u64.wrap (n:Int)=n:=by rw[wrap_u64];omega
  have WI:=aA (qD H.in p n hp (by omega));have BV:=aA (fun W' (k:Kt nO (cY W hb) W')=>(hv.kept (cH (H.set 1).2) (hnb (by omega))).kept (cH k) (fun _ _ e=>e));clear H h0 hv;go_enter_defers func67,ntmps67;go_wp2_with fail;refine LK.out.mono ?_;rintro e w1 ⟨rfl,rfl⟩;go_wp2_with fail;refine WI.out.mono ?_;rintro e w2 ⟨l,rfl,hl,hk⟩;have H2:=aA (HH.out.in.keep hk);have K2:=aA hk;clear hk
  cases l with
  | false=>
   have UL:=aA (H2.out.unlock .returning);have D:=aA (show WrP w W hb sb lw x t fr ls S p n gg 4 (dZ w2 hb)from .bad hn0 hl rfl (HH.out.kout K2.out));clear hl;go_wp2_with fail;refine leaves_cons (f:=36) (args:=#[.pointer (some ⟨hb,0,none⟩)]) (by simp) (by simp[go_sem]) ?_;refine UL.out.mono ?_;rintro e u' w9 ⟨rfl,rfl,rfl⟩;exact⟨_,results_tmp rfl _ _ _,4,rfl,D.out⟩
  | true=>
   have SP:=aA (gX H2.out.po.pl);have WT:=aA (H2.out.write hn0 hl (BV.out _ K2.out));obtain⟨c0,c2,c3,c4,c5,c6⟩:=H2.out.c;obtain⟨l0,l1,l2⟩:=H2.out.po.pl.c;have L:=aA hl;clear hl;go_wp2_with fail;refine SP.out.mono ?_;rintro e w3 ⟨rfl,h3⟩;replace h3:=h3.symm;subst h3;go_wp2_with fail;refine WT.out.mono ?_;rintro e w4 ⟨rfl,hw⟩;have UL:=aA (hw.1.unlock .returning);have D:=aA (show WrP w W hb sb lw x t fr ls S p n gg 0 (dZ w4 hb)from .ok hn0 L.out rfl ((hw.from K2.out).out HH.out));clear hw;go_wp2_with fail;refine leaves_cons (f:=36) (args:=#[.pointer (some ⟨hb,0,none⟩)]) (by simp) (by simp[go_sem]) ?_;refine UL.out.mono ?_;rintro e u' w9 ⟨rfl,rfl,rfl⟩;exact⟨_,results_tmp rfl _ _ _,0,rfl,D.out⟩
end
open Go.Proofs.YtbgbfpklgfpepaaGreatDoor.M (RS gJ mayB bE)
def oT(l:List He8)(p z:Nat):Bool:=l.any fun h=>O.meetB h.p h.s p z
def gS(l:List He8)(bS R:Nat):Nat->Nat
 | 0=>0
 | n+1=>if oT l (bS+n*R) R=true then 0 else gS l bS R n+1
theorem AK(l:List He8)(bS R:Nat):∀ n,gS l bS R n<=n
 | 0=>Nat.le_refl _
 | n+1=>by
  have:=AK l bS R n;rw[gS];split <;> omega
theorem QP(bS:Nat)(L:Int)(o n:Nat)(ho:o<=8)(hn:n<=64)(hb:bS+n*RS o<=9223372036854775808)(v:Value)(l:List He8)(w:World)(hB:BK8 w v l):
  Calls prog 157 #[aK bS L (o:Int) (n:Int) v] w fun e w'=>e=.returned (.int .i64 ((gS l bS (RS o) n:Nat):Int))/\Kt nO w w':=by
 have K0:=aA ((Kt.refl nO w).alloc (aM bS L (o:Int) (n:Int) v));have X0:=aA (nH w (aM bS L (o:Int) (n:Int) v));have HB:=aA hB;have RR:=aA (fun W=>jJ (bS:Int) L o ho W);have MT:=aA (fun p s p' s' a b W=>O.refMeet p s p' s' a b W);obtain⟨R,hR⟩:=xe (RS o);have hRb : 4096<=R/\R<=1048576:=by
  rw[hR];have:=bE o ho;unfold RS;omega
 rw[<-hR] at RR hb ⊢;obtain⟨va,vc,rfl⟩:=hB.val;have hl:=hB.ln;clear hR hB;obtain⟨m,hm⟩:=xe (l.length);have HM:=aA hm;rw[<-hm] at K0 X0 HB hl ⊢;clear hm;go_enter func157,ntmps157;go_wp2_with fail;obtain⟨y,hy⟩:=xe (w.heap.size);rw[<-hy] at X0 ⊢;clear hy;go_loopw [3] (fun j W=>∃ k:Nat,k<=n/\j=.int .i64 k/\Hid (gS l bS R n=k+gS l bS R (n-k)/\Kt nO w W/\W.heap[y]?=some (aM bS L (o:Int) (n:Int) (.slice va m vc)))) (fun j _=>n-(intOf j).toNat)
 case atStart=>exact⟨0,Nat.zero_le _,rfl,aA ⟨by rw[Nat.zero_add,Nat.sub_zero],K0.out,X0.out⟩⟩
 case round=>
  clear K0 X0;obtain⟨k,hk,rfl,hQ⟩:=hrel;obtain⟨x0,x1,x2,x3,x4,xf⟩:=aD hQ.out.2.2;by_cases hlt:k<n
  ·have hki:(k:Int)<n:=(by omega);obtain⟨q,hq⟩:∃ q,n-k=q+1:=⟨n-k-1,by omega⟩;obtain⟨q1,hq1⟩:=xe (n-k);obtain⟨T,hT⟩:=xe (q*R);have hTb:T+R<=n*R:=by
    rw[hT,<-Nat.succ_mul];exact Nat.mul_le_mul_right _ (by omega)
   have hnR:n*R<=67108864:=Nat.le_trans (Nat.mul_le_mul hn hRb.2) (by decide);obtain⟨top,htop⟩:∃ t,t=bS+T:=⟨_,rfl⟩;have e1:(n:Int)-(k:Int)=q1:=(by omega);have e2:(q1:Int)-1=(q:Int):=(by omega);have e3:IntKind.u64.wrap (q:Int)=q:=(by rw[wrap_u64];omega);have e4:(q:Int)*(R:Int)=T:=(by rw[hT];simp);have e5:IntKind.u64.wrap (T:Int)=T:=(by rw[wrap_u64];omega);have e6:(bS:Int)+(T:Int)=top:=(by omega);have e7:IntKind.u64.wrap (top:Int)=top:=(by rw[wrap_u64];omega);have HT:=aA (show top+R<=9223372036854775808/\gS l bS R (n-k)=(if oT l top R=true then 0 else gS l bS R (n-(k+1))+1)from⟨by omega,by rw[hq,gS,<-hT,<-htop,show n-(k+1)=q by omega]⟩);clear hTb hnR htop hT hq hq1;go_upto_region 3 with fail;clear x0 x1 x2 x3 x4 xf;obtain⟨x0,x1,x2,x3,x4⟩:=oY hQ.out.2.2;refine fC (by kernel_rfl) (by kernel_rfl) ?_;repeat (go_big_quiet_step (first|(go_at_call 25;exact Calls.kept_of (RR.out _))|fail))
   refine wpQuiet_nil ?_;intro zz;have Q2:=aA (And.intro hQ.out.1 (And.intro (nT hQ.out.2.1 zz.k) (bK hQ.out.2.2 zz.k)));clear x0 x1 x2 x3 x4 e1 e2 e3 e4 e5 e6 e7 hQ;generalize zz.v=w2 at *;go_wp2_with fail;go_loopw [5] (fun j W=>∃ t:Nat,t<=m/\j=.int .i64 t/\Hid (Kt nO w W/\W.heap[y]?=some (aM bS L (o:Int) (n:Int) (.slice va m vc))/\∀ a b,a<t->l[a]?=some b->O.meetB b.p b.s top R=false)) (fun j _=>m-(intOf j).toNat)
   case atStart=>exact⟨0,Nat.zero_le _,rfl,aA ⟨Q2.out.2.1,Q2.out.2.2,fun a b ha=>by omega⟩⟩
   case round=>
    obtain⟨t,ht,rfl,hP⟩:=hrel;obtain⟨x0,x1,x2,x3,x4,xf⟩:=aD hP.out.2.1;by_cases htm:t<m
    ·have hti:(t:Int)<m:=(by omega);obtain⟨b,hb2⟩:∃ b,l[t]?=some b:=⟨_,List.getElem?_eq_getElem (by rw[<-HM.out];exact htm)⟩;have hbd:=HB.out.bd b (List.mem_of_getElem? hb2);obtain⟨g,rfl,_,_,_⟩:=(HB.out.keep hP.out.1).get HM.out hb2;have HG:=aA (fun z:KW wr=>(HB.out.keep (nT hP.out.1 z.k)).get HM.out hb2);have d0:∀ z:KW wr,z.v.cell? ⟨g,t*3,none⟩=some (.int .u64 b.p):=fun z=>by
      obtain⟨g',e,c0,_⟩:=HG.out z;injection e with e
      injection e with e
      subst e;exact c0
     have d1:∀ z:KW wr,z.v.cell? ⟨g,t*3+1,none⟩=some (.int .u64 b.s):=fun z=>by
      obtain⟨g',e,_,c1,_⟩:=HG.out z;injection e with e
      injection e with e
      subst e;exact c1
     have MM:=aA (fun W=>MT.out b.p b.s top R (by omega) (by have:=HT.out.1;omega) W);have HL:=aA (show O.meetB b.p b.s top R=true->oT l top R=true from fun e=>List.any_eq_true.2 ⟨b,List.mem_of_getElem? hb2,e⟩);have HN:=aA (show O.meetB b.p b.s top R=false->∀ a c,a<t+1->l[a]?=some c->O.meetB c.p c.s top R=false from fun e a c ha hc=>by
      by_cases ea:a=t
      ·subst ea;rw[hb2] at hc;injection hc with hc
       subst hc;exact e
      ·exact hP.out.2.2 a c (by omega) hc)
     generalize O.meetB b.p b.s top R=bm at *;go_upto_region 7 with fail;clear x0 x1 x2 x3 x4 xf;obtain⟨x0,x1,x2,x3,x4⟩:=oY hP.out.2.1;refine fC (by kernel_rfl) (by kernel_rfl) ?_;repeat (go_big_quiet_step (first|(go_at_call 25;exact Calls.kept_of (RR.out _))|(go_at_call 206;exact Calls.kept_of (MM.out _))|fail))
     refine wpQuiet_nil ?_;intro z3;have P2:=aA (And.intro (nT hP.out.1 z3.k) (bK hP.out.2.1 z3.k));clear x0 x1 x2 x3 x4 d0 d1 HG hP MM;generalize z3.v=w3 at *
     cases bm with
     | true=>
      have D:=aA (show gS l bS R n=k by rw[Q2.out.1,HT.out.2,if_pos (HL.out rfl),Nat.add_zero]);go_wp2_with fail;go_ret;exact⟨by rw[D.out];rfl,P2.out.1⟩
     | false=>
      go_wp2_with fail;exact⟨⟨t+1,by omega,by simp,aA ⟨P2.out.1,P2.out.2,HN.out rfl⟩⟩,by simp[intOf];omega⟩
    ·obtain rfl:t=m:=(by omega);have htt:¬(t:Int)<t:=(by omega);have D:=aA (show gS l bS R n=(k+1)+gS l bS R (n-(k+1))by
      have hf:oT l top R=false:=by
       cases e:oT l top R with
       | false=>rfl
       | true=>
        obtain⟨b,hb2,e2⟩:=List.any_eq_true.1 e;obtain⟨a,ha⟩:=List.getElem?_of_mem hb2;rw[hP.out.2.2 a b (by rw[HM.out];exact(List.getElem?_eq_some_iff.1 ha).1) ha] at e2
        cases e2
      rw[Q2.out.1,HT.out.2,hf,if_neg (by decide)];omega)
     have P2:=aA (And.intro hP.out.1 hP.out.2.1);clear hP;go_wp2_with fail;exact⟨⟨k+1,by omega,by simp,aA ⟨D.out,P2.out.1,P2.out.2⟩⟩,by simp[intOf];omega⟩
  ·obtain rfl:k=n:=(by omega);have hkk:¬(k:Int)<k:=(by omega);have D:=aA (And.intro (show gS l bS R k=k by have:=hQ.out.1;rw[Nat.sub_self] at this;rw[this];rfl) hQ.out.2.1);go_wp2_with fail;go_ret;exact⟨by rw[D.out.1];rfl,D.out.2⟩
end Go.Proofs.YtbgbfpklgfpepaaGreatDoor
