import Derived.Test.YtbgbfpklgfpepaaGreatDoorXk
import Derived.Test.YtbgbfpklgfpepaaGreatDoorXl
set_option maxRecDepth 1000000
set_option maxHeartbeats 80000000
namespace Go.Proofs.YtbgbfpklgfpepaaGreatDoor
open Tryz
open Go.RowKit
set_option linter.unusedVariables false
abbrev kL(a s:Nat):Value:=.agg #[.int .u64 a,.int .u64 s]
abbrev cJ(a s:Nat):Obj:=.cells #[.int .u64 a,.int .u64 s] 74
abbrev qG:Obj:=.cells #[.int .u64 0,.int .u64 0] 74
theorem gF{W:World}{y a s:Nat}(h:W.heap[y]?=some (cJ a s)):W.cell? ⟨y,0,none⟩=some (.int .u64 a)/\W.cell? ⟨y,1,none⟩=some (.int .u64 s)/\∀ j,W.frozen? ⟨y,j,none⟩=false:=by
 refine⟨?_,?_,fun j=>?_⟩ <;> simp[World.cell?,World.frozen?,h]
theorem le8{P:Nat->Prop}(h0:P 0)(h1:P 1)(h2:P 2)(h3:P 3)(h4:P 4)(h5:P 5)(h6:P 6)(h7:P 7)(h8:P 8):∀ k,k<=8->P k:=fun k hk=>by
 rcases Nat.lt_or_ge k 8 with h|h
 ·exact lt8 h0 h1 h2 h3 h4 h5 h6 h7 k h
 ·obtain rfl:k=8:=by omega
  exact h8
theorem vP:∀ k:Nat,k<=8->∀ (q:Pg) (hq:q.od=(k:Int)) (W:World),
  Calls prog 43 #[cW q] W fun e w'=>e=.returned (.int .u64 ((4096*2 ^ k:Nat):Int))/\Kt nO W w':=by
 apply le8 <;>
 ·intro q hq W;have K0:=aA ((Kt.refl nO W).alloc (aT q));have X0:=aA (nH W (aT q));obtain⟨_,x1,_⟩:=lF X0.out;rw[hq] at x1;clear hq X0;go_enter func43,ntmps43;go_wp2_with fail;go_ret;exact⟨rfl,K0.out⟩
theorem wE:∀ k:Nat,k<8->∀ (q:Pg) (hq:q.cl=(k:Int)) (W:World),
  Calls prog 44 #[cW q] W fun e w'=>e=.returned (.int .u64 ((aC k:Nat):Int))/\Kt nO W w':=by
 apply lt8 <;>
 ·intro q hq W;have K0:=aA ((Kt.refl nO W).alloc (aT q));have X0:=aA (nH W (aT q));obtain⟨_,_,x2,_⟩:=lF X0.out;rw[hq] at x2;clear hq X0;go_enter func44,ntmps44;go_wp2_with fail;go_ret;exact⟨rfl,K0.out⟩
section
variable {w W W':World} {hb sb lw:Nat} {x:Bx} {t:Bt} {fr:Nat->List Nat} {ls:List (Nat×Nat)} {S:Sb} {s:Int}
theorem uJ(H:HW w W hb sb lw x t fr ls S s)(n:Nat)(hn:n<=1024):
  Calls prog 68 #[.pointer (some ⟨hb,0,none⟩),.int .i64 n] W fun e w'=>e=.returned (.int .u64 ((x.bS+4096*n:Nat):Int))/\w'=W:=by
 obtain⟨c0,c2,c3,c4,c5,c6⟩:=H.c;have n4:=H.po.nums.2.2.2.1;have hbb:x.bS<=9223372036854775808:=by omega
 clear H;generalize x.bS=b at c2 n4 hbb ⊢;obtain⟨a,ha⟩:=xe (b+4096*n);rw[<-ha];have e1:IntKind.u64.wrap (n:Int)=n:=by rw[wrap_u64];omega
 have e2:IntKind.u64.wrap ((n:Int)*4096)=(n:Int)*4096:=by rw[wrap_u64];omega
 have e3:IntKind.u64.wrap ((b:Int)+(n:Int)*4096)=(a:Int):=by rw[wrap_u64];omega
 have e4:(b:Int)+(n:Int)*4096=(a:Int):=by omega
 clear n4;go_enter func68,ntmps68;go_wp2_with fail;go_ret;exact⟨eJ (by omega),rfl⟩
theorem zfJ(H:HW w W hb sb lw x t fr ls S s):
  Calls prog 39 #[.pointer (some ⟨hb,0,none⟩)] W fun e w'=>e=.returned (.int .u64 x.n)/\Kt nO W w':=by
 obtain⟨c0,c2,c3,c4,c5,c6⟩:=H.c;have n4:=H.po.nums.2.2.2.1;obtain⟨l0,l1,l2⟩:=H.po.pl.c;have SP:=aA (fun W' (k:Kt nO W W')=>gX (H.keep k).po.pl);have EN:=aA (fun W' (k:Kt nO W W')=>sK (H.keep k).po);obtain⟨b,hb2⟩:=xe (x.bS);obtain⟨en,hen⟩:=xe (x.bS+x.n);rw[<-hen] at EN;obtain⟨n,hn⟩:=xe (x.n);have hbb:b<=9223372036854775808:=by omega
 have e3:(en:Int)-(b:Int)=n:=by omega
 have hnb:n<=9223372036854775808:=by omega
 have heb:en<=9223372036854775808:=by omega
 rw[<-hb2] at c2;rw[<-hn];clear H n4 hb2 hen hn;have C5:=aA (fun W' (k:Kt nO W W')=>(k.cell id c5));have C2:=aA (fun W' (k:Kt nO W W')=>(k.cell id c2));go_enter func39,ntmps39;go_wp2_with fail;have c5':=fun y:KW W=>C5.out y.v y.k
 have c2':=fun y:KW W=>C2.out y.v y.k
 refine fC (by kernel_rfl) (by kernel_rfl) ?_;repeat (go_big_quiet_step (first|(go_at_call 53;exact Calls.kept_of ((SP.out _ (KW.k _)).mono fun e w' h=>⟨h.1,by rw[h.2];exact Kt.refl _ _⟩))|(go_at_call 76;exact Calls.kept_of (EN.out _ (KW.k _)))))
 refine wpQuiet_nil ?_;intro y;have D:=aA y.k;go_wp2_with fail;go_ret;exact⟨by simp,D.out⟩
end
theorem IF{W:World}{y:Nat}{a:Addr}{v:Value}(h:W.cell? a=some v)(hne:a.block≠y)(u0 u1:Value):((W.setCell ⟨y,0,none⟩ u0).setCell ⟨y,1,none⟩ u1).cell? a=some v:=
 (((Kt.refl (fun z=>z=y) W).setCell (p:=⟨y,0,none⟩) rfl u0).setCell (p:=⟨y,1,none⟩) rfl u1).cell hne h
theorem qL{S:Nat->Prop}{a W:World}(h:Kt S a W){y:Nat}(hy:y<a.heap.size->S y)(u0 u1:Value):Kt S a ((W.setCell ⟨y,0,none⟩ u0).setCell ⟨y,1,none⟩ u1):=(h.setNew (p:=⟨y,0,none⟩) hy u0).setNew (p:=⟨y,1,none⟩) hy u1
theorem wV{k:Nat} : cL (aC k)=true:=(jZ _).2 ⟨4+k,by unfold aC;rw[Nat.pow_add]⟩
section
variable {w W W':World} {hb sb lw:Nat} {x:Bx} {t:Bt} {fr:Nat->List Nat} {ls:List (Nat×Nat)} {S:Sb} {s:Int}
inductive Ak(w W:World)(sb:Nat)(x:Bx)(ls:List (Nat×Nat))(S:Sb)(p g:Nat)(q:Pg):Prop where
 | big (a k:Nat) (hk:k<=8) (hq:q.kd=2\/q.kd=3) (ho:q.od=(k:Int)) (ha:a<=1024) (hh:∀ W',Kt nO W W'->Calls prog 125 #[.pointer (some ⟨x.m,0,none⟩),.int .i64 g] W' fun e w'=>e=.returned (.int .i64 a)/\w'=W') (ar:jW x ls S p (x.bS+4096*a) (4096*2 ^ k) true)
 | cell (a k z:Nat) (l:Bool) (hk:k<8) (hq:q.kd=4) (hc:q.cl=(k:Int)) (ha:a<18446744073709551616) (hd:mM p (aC k)=a) (hs:∀ W',Kt nO W W'->Calls prog 111 #[.pointer (some ⟨sb,0,none⟩),.int .u64 a] W' fun e w'=>e=.returned (.int .u64 z)/\Kt nO W' w') (hz:((z:Int) != 0)=l) (ar:jW x ls S p a (aC k) l)
 | none (hq:q.kd=0\/q.kd=1) (ar:jW x ls S p 0 0 false)
theorem ZG(H:HW w W hb sb lw x t fr ls S s)(p:Nat)(hp:p<18446744073709551616):Ak w W sb x ls S p (aP x p/4096) (cP t.m ((aP x p/4096:Nat):Int)):=by
 obtain⟨h,o⟩:=H.so;have n2:=H.po.nums.2.1;have n1:=H.po.nums.1;have n4:=H.po.nums.2.2.2.1;by_cases hg:aP x p/4096<t.m.n
 ·rw[show cP t.m ((aP x p/4096:Nat):Int)=t.m.pg (aP x p/4096)by
   unfold cP;rw[if_pos (dQ hg),Int.toNat_natCast]]
  cases o.kind hg with
  | free q j hm hj hc h1 h2 hpg=>
   refine .none ?_ (o.ar_free hm hj h1 h2 hc 0 0);rw[hpg];show(if _ then (0:Int) else 1)=0\/(if _ then (0:Int) else 1)=1
   split <;> simp
  | big q k hm hc hgn h1 h2 hpg=>
   obtain⟨a1,a2,a3⟩:=o.al hm;refine .big q k (by omega) ?_ (by rw[hpg];rfl) (by omega) (fun W' kp=>?_) (o.ar_big hp hg hm hc h1 h2)
   ·rw[hpg];show(if _ then (2:Int) else 3)=2\/(if _ then (2:Int) else 3)=3
    split <;> simp
   ·have:=GP x.m x.B t.m ((aP x p/4096:Nat):Int) W' (H.keep kp).po.pl.bd.mp;rw[show lE t.m ((aP x p/4096:Nat):Int)=(q:Int)by
     unfold lE;rw[if_pos (dQ hg),Int.toNat_natCast,hpg];show(((aP x p/4096)/2 ^ (k:Int).toNat*2 ^ (k:Int).toNat:Nat):Int)=(q:Int)
     rw[Int.toNat_natCast];have hz : 0<2 ^ k:=Nat.pow_pos (by decide);obtain⟨c,hc2⟩:∃ c,q=c*2 ^ k:=⟨q/2 ^ k,(Nat.div_mul_cancel (Nat.dvd_of_mod_eq_zero a2)).symm⟩;have:aP x p/4096/2 ^ k=c:=by
      rw[Nat.div_eq_iff hz];rw[hc2] at h1 h2;omega
     rw[this,<-hc2]] at this
    exact this
  | slab k hc=>
   obtain⟨hk,sp⟩:=o.si.pg _ k hc;obtain⟨i,i1,i2,i3,i4⟩:=o.down_at hp rfl hc;have hm:=o.mem hc;have hof:=fQ (x:=x) (p:=aP x p/4096) hk i1 (by omega);have hz:=bU hk;have hlv:=o.cell_liv hc i1;have ar:=o.ar_cell (p:=p) rfl hc i1 i3 i4
   cases hl:decide (i ∉ S.fl (aP x p/4096))with
   | true=>
    rw[hl] at hlv ar;refine .cell _ k (aC k) true hk sp.kd sp.cl hof.2.2 (by rw[xT _ _ wV];exact i2) (fun W' kp=>?_) (by rw[bne_iff_ne];omega) ar;obtain⟨h',o'⟩:=(H.keep kp).so;have:=EC o'.sw _ hof.2.2 hlv;rw[show eB x t (aO x (aP x p/4096) k i)=t.m.pg (aP x p/4096)from(uC (x:=x) (t:=t) hk i1 (by omega) hm.2.1 sp.kd sp.cl).2.2.1,sp.cl,Int.toNat_natCast] at this;exact this
   | false=>
    rw[hl] at hlv ar;refine .cell _ k 0 false hk sp.kd sp.cl hof.2.2 (by rw[xT _ _ wV];exact i2) (fun W' kp=>?_) rfl ar;obtain⟨h',o'⟩:=(H.keep kp).so;exact DA o'.sw _ hof.2.2 hlv
 ·rw[show cP t.m ((aP x p/4096:Nat):Int)=bD by
   unfold cP;rw[if_neg];intro e;obtain⟨k,e1,e2⟩:=iO e;omega]
  exact .none (.inl rfl) (o.ar_far hg 0 0)
theorem EF(H:HW w W hb sb lw x t fr ls S s)(p:Nat)(hp:p<18446744073709551616):
  Calls prog 78 #[.pointer (some ⟨hb,0,none⟩),.int .u64 p] W fun e w'=>∃ a z l,e=.returned (.tuple #[kL a z,.bool l])/\jW x ls S p a z l/\Kt nO W w':=by
 have CS:=aA (ZG H p hp);have n4:=H.po.nums.2.2.2.1;have K0:=aA ((Kt.refl nO W).alloc qG);have X0:=aA (show(W.alloc qG).heap[W.heap.size]?=some (cJ 0 0)from nH W qG);obtain⟨c0,c2,c3,c4,c5,c6⟩:=(H.keep K0.out).c;have hbb:x.bS<18446744073709551616:=by omega
 have hw:=uO p x.bS hp hbb;obtain⟨d,hd⟩:=xe (aP x p);rw[show(p+18446744073709551616-x.bS)%18446744073709551616=d from hd.symm] at hw;have hdb:d<18446744073709551616:=by rw[hd];exact Nat.mod_lt _ (by decide)
 obtain⟨g,hg⟩:=xe (d/4096);have hqi:(d:Int)/4096=(g:Int):=by omega
 have hgb:g<4503599627370496:=by omega
 rw[<-hd,<-hg] at CS;obtain⟨q,hq⟩:=xe (cP t.m (g:Int));obtain⟨r,hr⟩:=xe (aJ t.m.n (g:Int));rw[<-hq] at CS;have MP:=aA (fun W' (k:Kt nO W W')=>bT (H.keep k).po.pl);have HA:=aA (show ∀ W',Kt nO W W'->Calls prog 42 #[.pointer (some ⟨x.m,0,none⟩),.int .i64 g] W' fun e w'=>e=.returned (.tuple #[cW q,.bool r])/\Kt nO W' w' from fun W' k=>by
  rw[hr,hq];exact jR x.m x.B t.m (g:Int) W' (H.keep k).po.pl.bd.mp)
 have AD:=aA (fun n (hn:n<=1024) W' (k:Kt nO W W')=>uJ (H.keep k) n hn);have CB:=aA (fun W' (k:Kt nO W W')=>(H.keep k).c);clear H n4 hd hdb hg hq hr hbb;go_enter func78,ntmps78;go_wp2_with fail;refine(MP.out _ K0.out).mono ?_;rintro e w1 ⟨rfl,h1⟩;subst h1;go_wp2_with fail;refine(HA.out _ K0.out).mono ?_;rintro e w2 ⟨rfl,hk⟩;have K3:=aA (nT K0.out (hk.alloc (aT q)));have X7:=aA (nH w2 (aT q));have X4:=aA (show(w2.alloc (aT q)).heap[W.heap.size]?=some (cJ 0 0)from((hk.alloc (aT q)).block _ (lH X0.out) id).trans X0.out);have hne7:w2.heap.size≠W.heap.size:=by
  have h1:=hk.size;rw[World.size_alloc] at h1;omega
 clear hk K0 X0 c0 c2 c3 c4 c5 c6 hw;obtain⟨c0,c2,c3,c4,c5,c6⟩:=CB.out _ K3.out;have hne5:hb≠W.heap.size:=by
  obtain⟨k0,_⟩:=CB.out _ (Kt.refl _ _);exact Nat.ne_of_lt (uX k0)
 obtain⟨z0,z1,zf⟩:=gF X4.out;have FC:=aA (fun W' (kk:Kt nO (w2.alloc (aT q)) W')=>And.intro (CB.out _ (nT K3.out kk)).2.2.2.2.1 (And.intro (CB.out _ (nT K3.out kk)).2.2.2.2.2 (lF ((kk.block _ (lH X7.out) id).trans X7.out))));have ZC:=aA (fun W' (kk:Kt nO (w2.alloc (aT q)) W')=>gF ((kk.block _ (lH X4.out) id).trans X4.out));have KD:=aA ((Kt.refl nO (w2.alloc (aT q))).drew);have D0:=aA (nT K3.out KD.out);obtain⟨f5,f6,x0,x1,x2,x3,x4,x5,x6,x7,x8,x9,x10⟩:=FC.out _ (Kt.refl _ _);clear c0 c2 c3 c4 c5 c6
 cases CS.out with
 | none hq ar=>
  have AR:=aA ar;have D:=aA (qL K3.out (y:=W.heap.size) (fun e=>absurd e (Nat.lt_irrefl _)) (.int .u64 0) (.int .u64 0));have q2:(q.kd == 2)=false:=by rw[beq_eq_false_iff_ne];omega
  have q3:(q.kd == 3)=false:=by rw[beq_eq_false_iff_ne];omega
  have q4:(q.kd == 4)=false:=by rw[beq_eq_false_iff_ne];omega
  clear CS ar hq FC ZC KD D0;go_wp2_with fail;exact⟨rfl,.tuple #[kL 0 0,.bool false],by simp[results,results78,go_sem,z0,z1],0,0,false,rfl,AR.out,D.out⟩
 | big a k hk hq ho ha hh ar=>
  have AR:=aA ar;have HH:=aA hh;have RN:=aA (fun W'=>vP k hk q ho W');have AA:=aA (AD.out a ha);obtain⟨m,hm⟩:=xe (x.bS+4096*a);obtain⟨z,hz⟩:=xe (4096*2 ^ k);rw[<-hm] at AA AR;rw[<-hz] at RN AR;have HQ:=aA hq;clear CS ar hq hh AD hm hz hk ho ha;rcases HQ.out with hq|hq
  all_goals
   first
   | (have q2:(q.kd == 2)=true:=by rw[beq_iff_eq];exact hq)
   |(
    have q2:(q.kd == 2)=false:=(by rw[beq_eq_false_iff_ne];omega);have q3:(q.kd == 3)=true:=by rw[beq_iff_eq];exact hq)
   clear hq;go_wp2_with fail;obtain⟨d5,d6,y0,y1,y2,y3,y4,y5,y6,y7,y8,y9,y10⟩:=FC.out _ KD.out;go_region_held3 (fun w'=>w'.cell? ⟨hb,5,none⟩=some (.pointer (some ⟨lw,0,none⟩))/\w'.cell? ⟨hb,6,none⟩=some (.pointer (some ⟨sb,0,none⟩))/\w'.cell? ⟨w2.heap.size,0,none⟩=some (.int .i64 q.kd)/\w'.cell? ⟨w2.heap.size,1,none⟩=some (.int .i64 q.od)/\w'.cell? ⟨w2.heap.size,2,none⟩=some (.int .i64 q.cl)/\w'.cell? ⟨w2.heap.size,3,none⟩=some (.int .i64 q.lv)/\w'.cell? ⟨w2.heap.size,4,none⟩=some (.int .i64 q.nx)/\w'.cell? ⟨w2.heap.size,5,none⟩=some (.int .i64 q.pv)/\w'.cell? ⟨w2.heap.size,6,none⟩=some (.int .i64 q.fs)/\w'.cell? ⟨w2.heap.size,7,none⟩=some (.int .u64 q.b0)/\w'.cell? ⟨w2.heap.size,8,none⟩=some (.int .u64 q.b1)/\w'.cell? ⟨w2.heap.size,9,none⟩=some (.int .u64 q.b2)/\w'.cell? ⟨w2.heap.size,10,none⟩=some (.int .u64 q.b3)) ((refine⟨?_,?_,?_,?_,?_,?_,?_,?_,?_,?_,?_,?_,?_⟩ <;> first|with_reducible assumption|with_reducible exact IF (by with_reducible assumption) (by with_reducible assumption) _ _)) (first
    | (go_at_call 40;(first | with_reducible refine(MP.out _ D0.out).mono ?_ | with_reducible refine(MP.out _ D4.out).mono ?_);rintro e w5 ⟨rfl,h5⟩;replace h5:=h5.symm;subst h5)
    | (go_at_call 125;(first | with_reducible refine(HH.out _ D0.out).mono ?_ | with_reducible refine(HH.out _ D4.out).mono ?_);rintro e w5 ⟨rfl,h5⟩;replace h5:=h5.symm;subst h5)
    | (go_at_call 68;(first | with_reducible refine(AA.out _ D0.out).mono ?_ | with_reducible refine(AA.out _ D4.out).mono ?_);rintro e w5 ⟨rfl,h5⟩;replace h5:=h5.symm;subst h5)
    | (go_at_call 43;(with_reducible refine(RN.out _).mono ?_);rintro e w4 ⟨rfl,hk4⟩;have K4:=aA (nT KD.out hk4);have D4:=aA (nT K3.out K4.out);obtain⟨e5,e6,v0,v1,v2,v3,v4,v5,v6,v7,v8,v9,v10⟩:=FC.out _ K4.out;obtain⟨u0,u1,uf⟩:=ZC.out _ K4.out;clear hk4)
    | fail)
   all_goals
    have D:=aA (qL D4.out (y:=W.heap.size) (fun e=>absurd e (Nat.lt_irrefl _)) (.int .u64 m) (.int .u64 z));go_wp2_with fail;exact⟨rfl,.tuple #[kL m z,.bool true],by simp[results,results78,go_sem,u0,u1],m,z,true,rfl,AR.out,D.out⟩
 | cell a k zz l hk hq hc ha hd hs hzl ar=>
  have AR:=aA ar;have SZ:=aA hs;have CL:=aA (fun W'=>wE k hk q hc W');have eX:=bU hk;have DN:=aA (fun W'=>UA p (aC k) hp (by omega) W');rw[hd,wV] at DN;obtain⟨z,hz⟩:=xe (aC k);rw[<-hz] at CL DN AR;have q2:(q.kd == 2)=false:=by rw[beq_eq_false_iff_ne];omega
  have q3:(q.kd == 3)=false:=by rw[beq_eq_false_iff_ne];omega
  have q4:(q.kd == 4)=true:=by rw[beq_iff_eq];exact hq
  clear CS ar hq hs AD hz hk hc hd eX;go_wp2_with fail;refine(CL.out _).mono ?_;rintro e w4 ⟨rfl,hk4⟩;have K4:=aA hk4;have D4:=aA (nT K3.out K4.out);clear hk4 f5 f6 x0 x1 x2 x3 x4 x5 x6 x7 x8 x9 x10 KD D0;obtain⟨f5,f6,x0,x1,x2,x3,x4,x5,x6,x7,x8,x9,x10⟩:=FC.out _ K4.out;go_wp2_with fail;refine(DN.out _).mono ?_;rintro e w5 ⟨rfl,h5⟩;replace h5:=h5.symm;subst h5;go_wp2_with fail;have KD:=aA (nT K4.out (Kt.refl nO w4).drew);have D0:=aA (nT K3.out KD.out);obtain⟨d5,d6,y0,y1,y2,y3,y4,y5,y6,y7,y8,y9,y10⟩:=FC.out _ KD.out;go_region_held3 (fun w'=>w'.cell? ⟨hb,5,none⟩=some (.pointer (some ⟨lw,0,none⟩))/\w'.cell? ⟨hb,6,none⟩=some (.pointer (some ⟨sb,0,none⟩))/\w'.cell? ⟨w2.heap.size,0,none⟩=some (.int .i64 q.kd)/\w'.cell? ⟨w2.heap.size,1,none⟩=some (.int .i64 q.od)/\w'.cell? ⟨w2.heap.size,2,none⟩=some (.int .i64 q.cl)/\w'.cell? ⟨w2.heap.size,3,none⟩=some (.int .i64 q.lv)/\w'.cell? ⟨w2.heap.size,4,none⟩=some (.int .i64 q.nx)/\w'.cell? ⟨w2.heap.size,5,none⟩=some (.int .i64 q.pv)/\w'.cell? ⟨w2.heap.size,6,none⟩=some (.int .i64 q.fs)/\w'.cell? ⟨w2.heap.size,7,none⟩=some (.int .u64 q.b0)/\w'.cell? ⟨w2.heap.size,8,none⟩=some (.int .u64 q.b1)/\w'.cell? ⟨w2.heap.size,9,none⟩=some (.int .u64 q.b2)/\w'.cell? ⟨w2.heap.size,10,none⟩=some (.int .u64 q.b3)) ((refine⟨?_,?_,?_,?_,?_,?_,?_,?_,?_,?_,?_,?_,?_⟩ <;> first|with_reducible assumption|with_reducible exact IF (by with_reducible assumption) (by with_reducible assumption) _ _)) (first
   |(
    go_at_call 111;first
     | ((with_reducible refine(SZ.out _ D0.out).mono ?_);rintro e w6 ⟨rfl,hk6⟩;have K6:=aA (nT KD.out hk6);have D6:=aA (nT K3.out K6.out);obtain⟨e5,e6,v0,v1,v2,v3,v4,v5,v6,v7,v8,v9,v10⟩:=FC.out _ K6.out;obtain⟨u0,u1,uf⟩:=ZC.out _ K6.out;clear hk6)
     | ((with_reducible refine(SZ.out _ D7.out).mono ?_);rintro e w6 ⟨rfl,hk6⟩;have K6:=aA (nT K7.out hk6);have D6:=aA (nT K3.out K6.out);obtain⟨e5,e6,v0,v1,v2,v3,v4,v5,v6,v7,v8,v9,v10⟩:=FC.out _ K6.out;obtain⟨u0,u1,uf⟩:=ZC.out _ K6.out;clear hk6))
   |(
    go_at_call 44;first
     | ((with_reducible refine(CL.out w6).mono ?_);rintro e w7 ⟨rfl,hk7⟩;have K7:=aA (nT K6.out hk7);have D7:=aA (nT K3.out K7.out);obtain⟨e5,e6,v0,v1,v2,v3,v4,v5,v6,v7,v8,v9,v10⟩:=FC.out _ K7.out;obtain⟨u0,u1,uf⟩:=ZC.out _ K7.out;clear hk7)
     | ((with_reducible refine(CL.out _).mono ?_);rintro e w7 ⟨rfl,hk7⟩;have K7:=aA (nT KD.out hk7);have D7:=aA (nT K3.out K7.out);obtain⟨e5,e6,v0,v1,v2,v3,v4,v5,v6,v7,v8,v9,v10⟩:=FC.out _ K7.out;obtain⟨u0,u1,uf⟩:=ZC.out _ K7.out;clear hk7))
   | fail)
  all_goals
   first
   |(
    have D:=aA (qL D7.out (y:=W.heap.size) (fun e=>absurd e (Nat.lt_irrefl _)) (.int .u64 a) (.int .u64 z));go_wp2_with fail;exact⟨rfl,.tuple #[kL a z,.bool l],by simp[results,results78,go_sem,u0,u1],a,z,l,rfl,AR.out,D.out⟩)
   |(
    have D:=aA (qL D6.out (y:=W.heap.size) (fun e=>absurd e (Nat.lt_irrefl _)) (.int .u64 a) (.int .u64 z));go_wp2_with fail;exact⟨rfl,.tuple #[kL a z,.bool l],by simp[results,results78,go_sem,u0,u1],a,z,l,rfl,AR.out,D.out⟩)
end
end Go.Proofs.YtbgbfpklgfpepaaGreatDoor
