import Derived.Test.YtkfmheelhinjdaaGreatDoorXp
set_option maxRecDepth 1000000
set_option maxHeartbeats 80000000
namespace Go.Proofs.YtkfmheelhinjdaaGreatDoor
open _root_.Go.Proofs.Tryz
open Go.RowKit
open Go.MuLone
set_option linter.unusedVariables false
def pgL(x:Bx)(t:Bt)(S:Sb)(i:Nat):List (Nat×Nat):=match S.c i with
 | some k=>gH x S i k (aG k)
 | none=>if (t.m.pg i).kd=2 then [(x.bS+4096*i,4096*2 ^ (t.m.pg i).od.toNat)] else []
def lB(x:Bx)(t:Bt)(S:Sb):Nat->List (Nat×Nat)
 | 0=>[]
 | i + 1=>lB x t S i ++ pgL x t S i
inductive Lv8(x:Bx)(S:Sb)(q:Pg)(i:Nat)(l:List (Nat×Nat)):Prop where
 | none (hq:q.kd=0\/q.kd=1\/q.kd=3) (h1:l=[])
 | head (k:Nat) (hk:k<=8) (hq:q.kd=2) (ho:q.od=(k:Int)) (h1:l=[(x.bS+4096*i,4096*2 ^ k)])
 | slab (k:Nat) (hq:q.kd=4) (hc:S.c i=some k) (hl:q.cl=(k:Int)) (h1:l=gH x S i k (aG k))
theorem VB{w0 w1 W W':World}{v:Value}{l:List (Nat×Nat)}(h:GB w0 W v l)(hs:w0.heap.size=w1.heap.size)(k:Kt nO w1 W')(hE:∀ y,v.ownBlock=some y->W'.heap[y]?=W.heap[y]?):GB w1 W' v l:=by
 refine⟨⟨h.own.1,?_⟩,fun g cap e=>by rw[<-hs];exact h.new g cap e,k⟩;rcases h.own.2 with h0|⟨g,cap,cur,rfl,hb,hg,h3⟩
 ·exact .inl h0
 ·exact .inr ⟨g,cap,cur,rfl,hb,(hE g (by simp[Value.ownBlock])).trans hg,h3⟩
theorem ZH{ops:Array Oper}{o:Oper}{a:Act}{K:Act->World->Prop}{Q:Exit->Act->World->Prop}{E:Prop}{W w':World}{v u v':Value}
  (hgd:o.guard=none) (s x:Operand) (hop:o.op=.call { callee:=.builtin .append,args:=#[s,x],argTypes:=#[46,46] })
  (hs:a.eval s=v) (hx:a.eval x=u) (hrun:∀ t,(Builtin.append_ #[46,46] t #[v,u]).run prog W=.ok v' w') (h:K (a.put o.dst v') w'):
  if Region.wanted o (yielded ops a.tmps)=true then Oper.wp prog o a W K Q else E:=by
 have hw:Region.wanted o (yielded ops a.tmps)=true:=by simp[Region.wanted,hgd]
 rw[if_pos hw];exact Lib.wp_append_run W s x _ _ hop _ _ hs hx _ _ (hrun _) h
section
variable {w W W':World} {hb sb lw:Nat} {x:Bx} {t:Bt} {fr:Nat->List Nat} {ls:List (Nat×Nat)} {S:Sb} {s:Int}
theorem HW.lk(H:HW w W hb sb lw x t fr ls S s){i:Nat}(hi:i<t.m.n):Lv8 x S (t.m.pg i) i (pgL x t S i):=by
 obtain⟨h,o⟩:=H.so;have n1:=o.po.nums.1
 cases o.kind hi with
 | slab k hc=>
  obtain⟨hk,sp⟩:=o.si.pg i k hc;exact .slab k sp.kd hc sp.cl (by unfold pgL;rw[hc])
 | big q k hm hc hg h1 h2 hp=>
  have hk:k<=8:=Nat.le_trans (o.al hm).1 n1;by_cases e:i=q
  ·rw[if_pos e] at hp;refine .head k hk (by rw[hp];rfl) (by rw[hp];rfl) ?_;unfold pgL;rw[hg,hp];rfl
  ·rw[if_neg e] at hp;refine .none (.inr (.inr (by rw[hp];rfl))) ?_;unfold pgL;rw[hg,hp];rfl
 | free q j hm hj hg h1 h2 hp=>
  by_cases e:i=q
  ·rw[if_pos e] at hp;refine .none (.inl (by rw[hp];rfl)) ?_;unfold pgL;rw[hg,hp];rfl
  ·rw[if_neg e] at hp;refine .none (.inr (.inl (by rw[hp];rfl))) ?_;unfold pgL;rw[hg,hp];rfl
theorem HW.lvb(H:HW w W hb sb lw x t fr ls S s):∀ i,i<=t.m.n->(lB x t S i).length<=i*256
 | 0,_=>Nat.le_refl _
 | i+1,hi=>by
  have h1:=H.lvb i (by omega);have h2:(pgL x t S i).length<=256:=by
   cases H.lk (i:=i) (by omega)with
   | none hq h1=>rw[h1];decide
   | head k hk hq ho h1=>rw[h1];exact(by decide : 1<=256)
   | slab k hq hc hl h1=>
    obtain⟨h,o⟩:=H.so;rw[h1];exact Nat.le_trans (qY x S i k _) (dM (o.si.pg i k hc).1).2.2
  unfold lB;rw[List.length_append];omega
theorem ED(H:HW w W hb sb lw x t fr ls S 0):
  Calls prog 32 #[.pointer (some ⟨hb,0,none⟩)] W fun e w'=>∃ v,e=.returned v/\GB W w' v (lB x t S t.m.n):=by
 have n2:=H.po.nums.2.1;have LK:=aA H.lock;have HI:=aA H.in;have SB:=aA (fun i (hi:i<=t.m.n)=>H.lvb i hi);have SK:=aA (fun i (hi:i<t.m.n)=>H.lk hi);have sL:=aA (fun i=>show lB x t S (i + 1)=lB x t S i ++ pgL x t S i from rfl);have hsz:(jG W hb).heap.size=W.heap.size:=by simp
 obtain⟨n,hn⟩:=xe (t.m.n);have HH:=aA H;have HN:=aA hn;have z0:lB x t S 0=[]:=rfl;rw[<-hn] at n2 SB SK ⊢;obtain⟨f,hf⟩:=xe (lB x t S);rw[<-hf] at SB sL z0 ⊢;have AD:=aA (fun i (hi:i<n) W' (k:Kt nO (jG W hb) W')=>uA (HI.out.keep k) i (by omega));have CH:=aA (fun i k (hc:S.c i=some k) (q:Pg) (hq:q.cl=(k:Int)) W' (kk:Kt nO (jG W hb) W')=>QK (HI.out.keep kk) hc q hq);clear H hn hf;go_enter_defers func32,ntmps32;go_wp2_with fail;refine LK.out.mono ?_;rintro e w1 ⟨rfl,rfl⟩;have MP:=aA (bZ HI.out.po.pl);have PGS:=aA (wC HI.out.po);rw[<-HN.out] at PGS;obtain⟨c0,c2,c3,c4,c5,c6⟩:=HI.out.c;go_wp2_with fail;refine MP.out.mono ?_;rintro e w4 ⟨rfl,h4⟩;replace h4:=h4.symm;subst h4;go_wp2_with fail;refine PGS.out.mono ?_;rintro e w4 ⟨rfl,h4⟩;replace h4:=h4.symm;subst h4;clear MP PGS c0 c2 c3 c4 c5 c6;go_wp2_with fail;go_loopw [3,22] (fun v c V=>∃ i:Nat,i<=n/\c=.int .i64 i/\Hid (GB (jG W hb) V v (f i))) (fun _ c _=>n-(intOf c).toNat)
 case atStart=>exact⟨0,Nat.zero_le _,rfl,aA (by rw[z0];exact GS.nil _ _ _ _ (Kt.refl nO _))⟩
 case round=>
  rename_i v _;clear z0;obtain⟨i,hi,rfl,hG⟩:=hrel;obtain⟨va,vc,rfl⟩:=qX hG.out.own;have hle:=SB.out i hi;by_cases hlt:i<n
  ·have hii:(i:Int)<n:=(by omega);have hin:i<t.m.n:=(by rw[<-HN.out];exact hlt);have HJ:=aA (HI.out.keep hG.out.kp);have MP:=aA (bZ HJ.out.po.pl);have AT:=aA (jA x.m x.B t.m (i:Int) wr HJ.out.po.pl.bd.mp);rw[show cF t.m (i:Int)=t.m.pg i by unfold cF;rw[if_pos (dI hin),Int.toNat_natCast]] at AT;obtain⟨c0,c2,c3,c4,c5,c6⟩:=HJ.out.c;have sk:=SK.out i hlt;have aL:=sL.out i;have ADi:=aA (AD.out i hlt);obtain⟨m,hm⟩:=xe (x.bS+4096*i);rw[<-hm] at ADi;generalize t.m.pg i=q at *;go_wp2_with fail;refine MP.out.mono ?_;rintro e w4 ⟨rfl,h4⟩;replace h4:=h4.symm;subst h4;go_wp2_with fail;refine AT.out.mono ?_;rintro e w5 ⟨rfl,hk5⟩;have G6:=aA (GS.keep hG.out (hk5.alloc (aI q)));have X5:=aA (nH w5 (aI q));clear MP AT hk5 c0 c2 c3 c4 c5 c6 hG HJ;go_upto_region 8 with fail;generalize w5.alloc (aI q)=w6 at *;generalize w5.heap.size=y5 at *;obtain⟨x0,x1,x2,x3,x4,x5,x6,x7,x8,x9,x10⟩:=kS X5.out
   cases sk with
   | none hq h1=>
    rw[h1,List.append_nil] at aL;have q2:(q.kd == 2)=false:=(by rw[beq_eq_false_iff_ne];omega);have q4:(q.kd == 4)=false:=(by rw[beq_eq_false_iff_ne];omega);clear hq;go_wp2_with fail;exact⟨⟨i+1,by omega,by simp,aA (by rw[aL];exact G6.out)⟩,by simp[intOf];omega⟩
   | head k hk hq ho h1=>
    have q2:(q.kd == 2)=true:=(by rw[beq_iff_eq];exact hq);have RN:=aA (fun W'=>EO k hk q ho W');obtain⟨z,hz⟩:=xe (4096*2 ^ k);rw[<-hz] at RN h1;rw[<-hm] at h1;rw[h1] at aL;have KD:=aA ((Kt.refl nO w6).drew);have AL:=aA aL;have HLE:=aA hle;have XC:=aA (fun W' (kk:Kt nO w6 W')=>kS ((kk.block _ (lH X5.out) id).trans X5.out));have XE:=aA (fun W7 W8 (k7:Kt nO w6 W7) (k8:Kt (fun b=>(Value.slice va (f i).length vc).ownBlock=some b) W7 W8)=>kS ((k8.block _ (Nat.lt_of_lt_of_le (lH X5.out) k7.size) (fun e=>by
     obtain⟨cs,hcs⟩:=sI G6.out.own e;rw[X5.out] at hcs;simp at hcs)).trans ((k7.block _ (lH X5.out) id).trans X5.out)))
    have HL6:=aA (show(f i).length<=4000000 by omega);have A6:=aA (ADi.out _ (nT G6.out.kp KD.out));clear hq ho hk hz h1 aL hm hle hin;go_wp2_with fail;refine wp_region_noPanic ?_;obtain⟨d0,d1,d2,d3,d4,d5,d6,d7,d8,d9,d10⟩:=XC.out _ KD.out;go_region_held3 (fun w'=>w'.cell? ⟨y5,0,none⟩=some (.int .i64 q.kd)/\w'.cell? ⟨y5,1,none⟩=some (.int .i64 q.od)/\w'.cell? ⟨y5,2,none⟩=some (.int .i64 q.cl)/\w'.cell? ⟨y5,3,none⟩=some (.int .i64 q.lv)/\w'.cell? ⟨y5,4,none⟩=some (.int .i64 q.nx)/\w'.cell? ⟨y5,5,none⟩=some (.int .i64 q.pv)/\w'.cell? ⟨y5,6,none⟩=some (.int .i64 q.fs)/\w'.cell? ⟨y5,7,none⟩=some (.int .u64 q.b0)/\w'.cell? ⟨y5,8,none⟩=some (.int .u64 q.b1)/\w'.cell? ⟨y5,9,none⟩=some (.int .u64 q.b2)/\w'.cell? ⟨y5,10,none⟩=some (.int .u64 q.b3)) ((refine⟨?_,?_,?_,?_,?_,?_,?_,?_,?_,?_,?_⟩ <;> with_reducible assumption)) (first
     | (go_at_call 73;(with_reducible refine A6.out.mono ?_);rintro e w7 ⟨rfl,h7⟩;replace h7:=h7.symm;subst h7)
     | (go_at_call 74;(with_reducible refine(RN.out _).mono ?_);rintro e w7 ⟨rfl,hk7⟩;have K7:=aA (nT KD.out hk7);obtain⟨v0,v1,v2,v3,v4,v5,v6,v7,v8,v9,v10⟩:=XC.out _ K7.out;obtain⟨b0,b1,b2,b3,b4,b5,b6,b7,b8,b9,b10⟩:=XC.out _ (K7.out.alloc (bP m z));obtain⟨gg,cap,w8,HAP,G8,K8⟩:=GB.push (GS.keep G6.out K7.out) m z (HL6.out);obtain⟨e0,e1,e2,e3,e4,e5,e6,e7,e8,e9,e10⟩:=XE.out _ _ K7.out K8;clear hk7 K8;have G8:=aA G8;replace HAP:=aA HAP)
     | (refine ZH rfl (.tmp 41) (.tmp 48) rfl rfl rfl HAP.out ?_)
     | fail)
    all_goals
     refine NoPanic.normal ?_;go_wp2_with fail;exact⟨⟨i+1,by omega,by simp,aA (by rw[AL.out];exact G8.out)⟩,by simp[intOf];omega⟩
   | slab k hq hc hl h1=>
    have q2:(q.kd == 2)=false:=(by rw[beq_eq_false_iff_ne];omega);have q4:(q.kd == 4)=true:=(by rw[beq_iff_eq];exact hq);rw[h1] at aL;have AL:=aA aL;have HLE:=aA hle;have C6:=aA (CH.out i k hc q hl _ G6.out.kp);have hcl:(gH x S i k (aG k)).length<=256:=by
     obtain⟨h,o⟩:=HI.out.so;exact Nat.le_trans (qY x S i k _) (dM (o.si.pg i k hc).1).2.2
    have HCL:=aA hcl;clear hq hc hl h1 aL hm hle hin hcl;go_wp2_with fail;refine C6.out.mono ?_;rintro e w7 ⟨u,rfl,hu⟩;have G7:=aA (GS.keep G6.out hu.kp);obtain⟨v8,w8,HAP,G8,_⟩:=GB.pushL G7.out hu.own (by have:=HLE.out;omega) (by have:=HCL.out;omega);have HAP:=aA HAP;have G8:=aA G8;clear hu;go_wp2_with (at_builtin;refine Lib.wpList_append_run _ rfl _ _ _ _ rfl _ _ rfl rfl _ _ (HAP.out _) ?_)
    exact⟨⟨i+1,by omega,by simp,aA (by rw[AL.out];exact G8.out)⟩,by simp[intOf];omega⟩
  ·obtain rfl:i=n:=(by omega);have hii:¬(i:Int)<i:=(by omega);have H9:=aA (HI.out.keep hG.out.kp);go_wp2_with fail;have UL:=aA (H9.out.unlock .returning);have D:=aA (show GB W (lV wr hb) (.slice va (f i).length vc) (f i)from by
    refine VB hG.out hsz (HH.out.round (K:=nO) id hG.out.kp H9.out rfl rfl rfl) (fun y hy=>(H9.out.set 0).2.block _ ?_ ?_)
    ·obtain⟨cs,hcs⟩:=sI hG.out.own hy;exact lH hcs
    ·intro e;subst e;obtain⟨cs,hcs⟩:=sI hG.out.own hy;rw[H9.out.bx] at hcs;simp at hcs)
   refine leaves_cons (f:=36) (args:=#[.pointer (some ⟨hb,0,none⟩)]) (by simp) (by simp[go_sem]) ?_;refine UL.out.mono ?_;rintro e u' w3 ⟨rfl,rfl,rfl⟩;exact⟨_,by simp[results,results32,go_sem],_,rfl,D.out⟩
end
section
variable {x:Bx} {t:Bt} {fr:Nat->List Nat} {B:Nat->Nat->Nat->Prop} {S:Sb} {L:Nat}
end
theorem bit_past{w:World}{b c n:Nat}{ws:List Nat}(h:SetAt w b c n ws){j:Nat}(hj:n<=j):aF ws j=false:=by
 unfold aF;by_cases hl:j/64<ws.length
 ·have h1:=h.ok (j/64) hl;have h2 : 2 ^ (min 64 (n-64*(j/64)))<=2 ^ (j%64):=Nat.pow_le_pow_right (by decide) (by omega);rw[Nat.div_eq_of_lt (Nat.lt_of_lt_of_le h1 h2)];rfl
 ·rw[List.getD_eq_getElem?_getD,List.getElem?_eq_none (by omega)];simp
section
variable {w Wo:World} {hb sb lw:Nat} {x:Bx} {t:Bt} {fr:Nat->List Nat} {ls:List (Nat×Nat)} {S:Sb} {s:Int}
theorem HW.st0(H:HW w Wo hb sb lw x t fr ls S s)(may:M.mayB x.bS (x.lim:Int) (x.o:Int)=true):∃ B,St0 x t fr B S x.lim:=by
 obtain⟨h,o⟩:=H.so;have hbd:=o.sw.pl.bd;obtain⟨B,sd,n9,hL⟩:=o.sf;obtain⟨r,hr1,hr2⟩:=hbd.sp.kn;have hR:=hbd.hR;have hst:=o.st;have hP:=Nat.two_pow_pos x.o;have hn:t.m.n=r*2 ^ x.o:=by
  have e:t.m.n*4096=r*2 ^ x.o*4096:=by rw[hst,hr1,hR,Nat.mul_comm 4096,Nat.mul_assoc]
  exact Nat.eq_of_mul_eq_mul_right (by decide) e
 have key:∀ (pin:∀ i,i<t.m.n->W.PgIn (t.m.pg i)),St0 x t fr B S x.lim:=fun pin=>
  ⟨sd,n9,hst,o.si,H.lv,may,by rw[hn,Nat.mul_div_cancel _ hP];exact hr2,fun k hk j hj=>bit_past (hbd.mp.set k (by rw[hbd.mo];exact hk)) hj,pin⟩
 have n1:=sd.n1;have ok:=hbd.mp.ok;refine⟨B,key fun i hi=>?_⟩;obtain⟨q1,q2,q3,q4,q5,q6,q7,q8⟩:=ok i hi;have num:(-9223372036854775808<=(t.m.pg i).kd/\(t.m.pg i).kd<=9223372036854775807)/\(-9223372036854775808<=(t.m.pg i).lv/\(t.m.pg i).lv<=9223372036854775807)/\(-9223372036854775808<=(t.m.pg i).nx/\(t.m.pg i).nx<=9223372036854775807)/\(-9223372036854775808<=(t.m.pg i).pv/\(t.m.pg i).pv<=9223372036854775807)/\(-9223372036854775808<=(t.m.pg i).fs/\(t.m.pg i).fs<=9223372036854775807):=by
  cases e:S.c i with
  | some k=>
   obtain⟨h2,h3⟩:=o.si.pg i k e;have hn:=dM h2;have hm:∀ r,r∈S.pl k->r<t.m.n:=fun r hr=>(o.mem ((o.si.pm k h2 r).1 hr).1).2.1
   have hf:(-1:Int)<=bE (S.fl i)/\bE (S.fl i)<=255:=by
    rcases pC (S.fl i)with e|⟨r,e,hr⟩
    ·omega
    ·have:=(o.si.fl i k (by assumption)).2.1 r hr;omega
   have hx:(-1:Int)<=bD (S.pl k) i/\bD (S.pl k) i<=(t.m.n:Int)-1:=by
    rcases lR (S.pl k) i (o.si.pn k h2)with e|⟨r,e,hr,-⟩
    ·omega
    ·have:=hm r hr;omega
   have hy:(-1:Int)<=bG (S.pl k) i/\bG (S.pl k) i<=(t.m.n:Int)-1:=by
    rcases mM (S.pl k) i (o.si.pn k h2)with e|⟨r,e,hr,-⟩
    ·omega
    ·have:=hm r hr;omega
   rw[h3.kd,h3.lv,h3.nx,h3.pv,h3.fs];refine⟨?_,?_,?_,?_,?_⟩ <;> omega
  | none=>
   obtain⟨g,p,k,hb,h1,h2⟩:=sd.cv i hi;have h9:g≠9:=fun e=>n9 p k (e▸hb)
   have htg:=sd.tg g p k hb;have hp:=sd.pg g p k hb h9 i h1 h2;rw[o.si.eP,iI e,Option.getD_none] at hp;rw[hp];simp only[aN];refine⟨?_,?_,?_,?_,?_⟩ <;> (try split) <;> omega
 obtain⟨m1,m2,m3,m4,m5⟩:=num;exact⟨m1,⟨by omega,by omega⟩,⟨by omega,by omega⟩,m2,m3,m4,m5,q5,q6,q7,q8⟩
end
end Go.Proofs.YtkfmheelhinjdaaGreatDoor
