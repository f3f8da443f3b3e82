import Derived.Test.YtgjdmkfpmokkaaaGreatDoorZn
set_option maxRecDepth 1000000
set_option maxHeartbeats 80000000
namespace Go.Proofs.YtgjdmkfpmokkaaaGreatDoor
open Go.RowKit
set_option linter.unusedVariables false
def relS(S:Sb)(p k:Nat):Sb:=⟨updF S.c p none,S.fl,updF S.pl k (M.dropL (S.pl k) p)⟩
def relM(m:Mp)(p i:Nat):Mp:=runM (unlM (ownM m (p:Int) (i:Int) false) (p:Int)) (p:Int) 0 2
def relH(m:Mp)(h:Nat→Int)(p k i:Nat):Nat→Int:=unlH (ownM m (p:Int) (i:Int) false) h (p:Int) k
theorem zjs{m:Mp}{p:Nat}(hp:p<m.n):runM m (p:Int) 0 2={ m with pg:=upp m.pg p (bkP 2 0) }:=by
 have h:zbz m (p:Int) 0 2=true:=by
  unfold zbz;rw[zae hp,Bool.and_eq_true,Bool.and_eq_true];refine⟨decide_eq_true ⟨.inr rfl,by omega,by omega⟩,rfl,decide_eq_true ?_⟩;rw[show(2:Int) ^ (0:Int).toNat=1 from rfl];omega
 unfold runM;rw[if_pos h,Int.toNat_natCast];refine congrArg (fun g=>({ m with pg:=g } : Mp)) (funext fun a=>?_);unfold runP upp;by_cases e:a=p
 ·rw[if_pos e,if_pos e];rfl
 ·rw[if_neg e,if_neg e,if_neg];rw[show(2:Nat) ^ (0:Int).toNat=1 from rfl];omega
theorem zld{w W sb lw x t fr ls S h}(o:SO w W sb lw x t fr ls S h){p k i:Nat}(hc:S.c p=some k)(hi:i<ncl k)(hn:i ∉ S.fl p)(hf:S.fl p≠[]):
  relM t.m p i={ t.m with pg:=upp (unlP (upp t.m.pg p (ownP (t.m.pg p) i)) (S.pl k) p) p (bkP 2 0) }∧relH t.m h p k i=(if pvI (S.pl k) p = -1 then uphI h k (nxI (S.pl k) p) else h)∧NP (upp t.m.pg p (ownP (t.m.pg p) i)) S k (S.pl k):=by
 obtain⟨hk,sp⟩:=o.si.pg p k hc;obtain⟨hls,hpn,_⟩:=o.mem hc;have hnb:=zaI hk;have hcn:zaV (t.m.pg p).cl=ncl k:=by rw[sp.cl];rfl
 have hlit:litP (t.m.pg p) i=!false:=by
  rw[sp.bt i (by omega)];exact decide_eq_true ⟨hi,hn⟩
 obtain⟨t1,t2,t3,t4,t5,t6,t7⟩:=zaW (t.m.pg p) i;have eO:=(zcN hpn sp.kd (by rw[hcn];exact hi) hlit).2;have hpl:p∈S.pl k:=(o.si.pm k hk p).2 ⟨hc,hf⟩;have np:NP (upp t.m.pg p (ownP (t.m.pg p) i)) S k (S.pl k):=fun a ha=>by
  by_cases e:a=p
  ·subst e;rw[zaC];exact⟨t5.trans sp.nx,t6.trans sp.pv⟩
  ·rw[zaY _ _ e];exact⟨(o.si.pg a k ha).2.nx,(o.si.pg a k ha).2.pv⟩
 have hU:=zkJ (m:={ t.m with pg:=upp t.m.pg p (ownP (t.m.pg p) i) }) (h:=h) (c:=k) (o.si.pn k hk) hpl (fun a ha=>by
  have hca:=((o.si.pm k hk a).1 ha).1;refine⟨(o.mem hca).2.1,?_,np a hca⟩;show(upp t.m.pg p _ a).kd=4
  by_cases e:a=p
  ·rw[e,zaC];exact t1.trans sp.kd
  ·rw[zaY _ _ e];exact(o.si.pg a k hca).2.kd)
 unfold relM relH;rw[eO];refine⟨?_,hU.2,np⟩;rw[hU.1,zjs (m:={ t.m with pg:=unlP (upp t.m.pg p (ownP (t.m.pg p) i)) (S.pl k) p }) hpn]
theorem SO.rel{w W W' sb lw x t fr ls S h}(o:SO w W sb lw x t fr ls S h){p k i:Nat}(hc:S.c p=some k)(hi:i<ncl k)(hn:i ∉ S.fl p)(hf:S.fl p≠[])
  (sw:SW w W' sb lw x { t with m:=relM t.m p i } (relH t.m h p k i)):
  SO w W' sb lw { x with P:=pOf (relS S p k) (relM t.m p i) } { t with m:=relM t.m p i } fr ls (relS S p k) (relH t.m h p k i):=by
 obtain⟨hk,sp⟩:=o.si.pg p k hc;obtain⟨hls,hpn,hp1,hpb⟩:=o.mem hc;have hln:(S.pl k).Nodup:=o.si.pn k hk;have hpl:p∈S.pl k:=(o.si.pm k hk p).2 ⟨hc,hf⟩;obtain⟨eM,eH,np⟩:=zld o hc hi hn hf;rw[eM,eH] at sw ⊢;have np2:=zkL np hln hpl;have hcp:(relS S p k).c p=none:=uFs _ _ _;have hcn:∀ a,a≠p→(relS S p k).c a=S.c a:=fun a ha=>uFn _ _ ha
 have hap:∀ a c,(relS S p k).c a=some c→a≠p∧S.c a=some c:=fun a c ha=>by
  have hne:a≠p:=fun e=>by rw[e,hcp] at ha;cases ha
  exact⟨hne,by rw[←hcn a hne];exact ha⟩
 generalize hq2:ownP (t.m.pg p) i=Q2 at *;have hF1:∀ a,S.c a=none→upp (unlP (upp t.m.pg p Q2) (S.pl k) p) p (bkP 2 0) a=t.m.pg a:=fun a ha=>by
  have hne:a≠p:=fun e=>by rw[e,hc] at ha;cases ha
  have hal:a ∉ S.pl k:=fun e=>by rw[((o.si.pm k hk a).1 e).1] at ha;cases ha
  rw[zaY _ _ hne,zcn hln hne hal,zaY _ _ hne]
 have hF2:∀ a c,(relS S p k).c a=some c→c<8∧SlP (relS S p k) a c (upp (unlP (upp t.m.pg p Q2) (S.pl k) p) p (bkP 2 0) a):=fun a c ha=>by
  have hb:=hap a c ha;clear ha;obtain⟨hne,ha⟩:=hb;obtain⟨hc8,sa⟩:=o.si.pg a c ha;rw[zaY _ _ hne];have hq:SlQ (relS S p k) a c (upp t.m.pg p Q2 a):=by
   rw[zaY _ _ hne];exact sa.q.congr rfl
  refine⟨hc8,(hq.rst (zfN _ _ _ _)).p ?_ ?_⟩
  ·show(unlP _ _ _ a).nx=nxI (updF S.pl k _ c) a
   by_cases e:c=k
   ·subst e;rw[uFs];exact(np2 a ha).1
   ·rw[uFn _ _ e];have hal:a ∉ S.pl k:=fun e3=>by rw[((o.si.pm k hk a).1 e3).1] at ha;cases ha;exact e rfl
    rw[zcn hln hne hal,zaY _ _ hne];exact sa.nx
  ·show(unlP _ _ _ a).pv=pvI (updF S.pl k _ c) a
   by_cases e:c=k
   ·subst e;rw[uFs];exact(np2 a ha).2
   ·rw[uFn _ _ e];have hal:a ∉ S.pl k:=fun e3=>by rw[((o.si.pm k hk a).1 e3).1] at ha;cases ha;exact e rfl
    rw[zcn hln hne hal,zaY _ _ hne];exact sa.pv
 refine⟨sw.reP _,o.sf.repaint S (relS S p k) o.si.eP { t.m with pg:=upp (unlP (upp t.m.pg p Q2) (S.pl k) p) p (bkP 2 0) } rfl rfl rfl (fun a ha=>?_) (fun a c ha=>⟨(hF2 a c ha).2.kd,(o.mem (hap a c ha).2).1⟩),o.st,o.bm,⟨rfl,hF2,fun a c ha=>?_,fun a c ha=>o.si.lv a c (hap a c ha).2,fun c hc8=>?_,fun c hc8 a=>?_⟩,fun c hc8=>?_⟩
 ·show upp _ p _ a=_
  by_cases e:a=p
  ·subst e;rw[zaC,hc,if_neg (by rintro ⟨⟩)]
  ·rw[hcn a e] at ha;rw[if_pos ha];exact hF1 a ha
 ·obtain⟨n1,n2,n3⟩:=o.si.fl a c (hap a c ha).2;exact⟨n1,n2,zbL n3⟩
 ·have:=o.si.pn c hc8;show(updF S.pl k _ c).Nodup
  by_cases e:c=k
  ·subst e;rw[uFs];exact zfK this p
  ·rw[uFn _ _ e];exact this
 ·have hpm:=o.si.pm c hc8 a;show a∈updF S.pl k _ c↔((relS S p k).c a=some c∧S.fl a≠[])
  by_cases ea:a=p
  ·subst ea;rw[hcp];constructor
   ·intro hm;exfalso
    by_cases e:c=k
    ·subst e;rw[uFs,zaE] at hm;exact hm.2 rfl
    ·rw[uFn _ _ e,hpm,hc] at hm
     cases hm.1
     exact e rfl
   ·rintro ⟨e,_⟩;cases e
  ·rw[hcn a ea];by_cases e:c=k
   ·subst e;rw[uFs,zaE,hpm];exact⟨fun hm=>hm.1,fun hm=>⟨hm,ea⟩⟩
   ·rw[uFn _ _ e];exact hpm
 ·show(if pvI (S.pl k) p = -1 then uphI h k (nxI (S.pl k) p) else h) c=hdI (updF S.pl k _ c)
  by_cases e:c=k
  ·subst e;rw[uFs,zcL hln hpl];by_cases e3:pvI (S.pl c) p = -1
   ·rw[if_pos e3,if_pos e3];exact if_pos rfl
   ·rw[if_neg e3,if_neg e3];exact o.hd c hc8
  ·rw[uFn _ _ e];by_cases e3:pvI (S.pl k) p = -1
   ·rw[if_pos e3];exact(if_neg e).trans (o.hd c hc8)
   ·rw[if_neg e3];exact o.hd c hc8
def RlO(w W1:World)(sb lw:Nat)(x:Bx)(t:Bt)(fr:Nat→List Nat)(ls:List (Nat×Nat))(S:Sb)(p k:Nat)(w':World):Prop:=∃ P t' h',SO w w' sb lw { x with P:=P } t' (zbt x.o fr p 0) (zam ls p) (relS S p k) h'∧t'.m.n=t.m.n∧BK t t' ls (zam ls p)∧Kt (sown x sb) W1 w'
theorem zht{w W W1 sb lw x t fr ls S h}(o:SO w W sb lw x t fr ls S h)(p k i:Nat)(hc:S.c p=some k)(hi:i<ncl k)(hn:i ∉ S.fl p)(hf:S.fl p≠[])(s1:SW w W1 sb lw x { t with m:=ownM t.m (p:Int) (i:Int) false } h):
  Calls Tryz.prog 41 #[.pointer (some ⟨sb,0,none⟩),.int .i64 (p:Int),.int .i64 (k:Int)] W1 fun e w'=>e=.returned (.int .i64 0)∧RlO w W1 sb lw x t fr ls S p k w':=by
 obtain⟨hk,sp⟩:=o.si.pg p k hc;obtain⟨hls,hpn,hp1,hpb⟩:=o.mem hc;have hnb:=zaI hk;have UL:=hid (zgB s1 (p:Int) k hk);obtain⟨m2,hm2⟩:=xe (unlM (ownM t.m (p:Int) (i:Int) false) (p:Int));obtain⟨h2,hh2⟩:=xe (unlH (ownM t.m (p:Int) (i:Int) false) h (p:Int) k);rw[←hm2,←hh2] at UL;have RN:=hid (show ∀ W',SW w W' sb lw x { t with m:=m2 } h2→Calls Tryz.prog 97 #[.pointer (some ⟨x.m,0,none⟩),.int .i64 (p:Int),.int .i64 0,.int .i64 2] W' fun e w'=>e=.returned (.int .i64 (runE m2 (p:Int) 0 2))∧SO w w' sb lw { x with P:=pOf (relS S p k) (relM t.m p i) } { t with m:=relM t.m p i } fr ls (relS S p k) (relH t.m h p k i)∧Kt (bown x) W' w' from fun W' s=>by
  refine(znl s (p:Int) 0 2).mono ?_;rintro e w' ⟨rfl,s',k'⟩;refine⟨rfl,o.rel hc hi hn hf ?_,k'⟩;unfold relM relH;rw[←hm2,←hh2];exact s')
 generalize runE m2 (p:Int) 0 2=re at *;have hP:pOf (relS S p k) (relM t.m p i) p=none:=zaP (uFs _ _ _);have had:caN x p k 0=ad x p:=by unfold caN ad;omega
 obtain⟨A,hA⟩:=xe (caN x p k 0);have AD:=hid (show ∀ t' h' P W',SW w W' sb lw { x with P:=P } t' h'→Calls Tryz.prog 89 #[.pointer (some ⟨sb,0,none⟩),.int .i64 (p:Int),.int .i64 (k:Int),.int .i64 0] W' fun e w'=>e=.returned (.int .u64 (A:Int))∧Kt nO W' w' from fun t' h' P W' s=>by
  rw[hA];exact zdi s p k 0 (by omega) hk (by omega))
 have GV:=hid (show ∀ W',SO w W' sb lw { x with P:=pOf (relS S p k) (relM t.m p i) } { t with m:=relM t.m p i } fr ls (relS S p k) (relH t.m h p k i)→Kt (sown x sb) W1 W'→Calls Tryz.prog 60 #[.pointer (some ⟨lw,0,none⟩),.int .u64 (A:Int),.int .i64 0] W' fun e w'=>e=.returned (.int .i64 0)∧RlO w W1 sb lw x t fr ls S p k w' from fun W' o2 k2=>by
  refine(K.Give6_yes o2.po p 0 hls hP A (hA.trans had)).mono ?_;rintro e w' ⟨rfl,t',po',hn',kk,bk⟩;refine⟨rfl,_,t',_,o2.pool po' (Sm.refl _) bk (fun a c ha=>?_) kk,?_,?_,k2.trans (kk.mono (fun _ _ e=>.inl e)) (fun _ _ e=>e) (fun _ _ e=>e)⟩
  ·refine List.mem_filter.2 ⟨(o2.mem ha).1,decide_eq_true fun e=>?_⟩;have e:a=p:=e;rw[e] at ha;rw[show(relS S p k).c p=none from uFs _ _ _] at ha
   cases ha
  ·rw[hn'];have h1:=o2.st;have h2:=o.st;have h3:(relM t.m p i).n*4096=x.n:=h1;show(relM t.m p i).n=t.m.n
   omega
  ·exact bk)
 generalize pOf (relS S p k) (relM t.m p i)=PP at *;generalize relM t.m p i=mm at *;generalize relH t.m h p k i=hh at *;obtain⟨c0,c1⟩:=s1.c0;have S1:=hid s1;clear o s1 hc hi hn hf sp hls hpn hp1 hpb hm2 hh2 hP had hA hnb;go_enter Tryz.func41,Tryz.ntmps41;go_wp2_with fail;refine UL.out.mono ?_;rintro e w2 ⟨rfl,hs2,hk2⟩;have S2:=hid hs2;have K2:=hid hk2;have MP:=hid (Map6 hs2.pl);clear c0 c1;obtain⟨c0,c1⟩:=hs2.c0;clear hs2 hk2;go_wp2_with fail;refine MP.out.mono ?_;rintro e w3 ⟨rfl,h3⟩;replace h3:=h3.symm;subst h3;go_wp2_with fail;refine(RN.out _ S2.out).mono ?_;rintro e w3 ⟨rfl,ho3,hk3⟩;have O3:=hid ho3;have K3:=hid (K2.out.trans (hk3.mono (fun _ _ e=>.inl e)) (fun _ _ e=>e) (fun _ _ e=>e));clear c0 c1 ho3 hk3;go_upto_region 3 with fail;have KD:=hid ((Kt.refl nO w3).drew);have O4:=hid (O3.out.keep KD.out);have K4:=hid (K3.out.trans KD.out (fun _ _ e=>e) (fun _ _ e=>e.elim));obtain⟨c0,c1⟩:=O4.out.sw.c0;go_region_held3 (fun w'=>w'.cell? ⟨sb,0,none⟩=some (.pointer (some ⟨lw,0,none⟩))) (first|with_reducible assumption|fail) (first
  | (go_at_call 60;(with_reducible refine(GV.out _ O5.out K5.out).mono ?_);rintro e w6 ⟨rfl,hr6⟩;have D6:=hid hr6;obtain⟨_,_,_,so6,_⟩:=hr6;obtain⟨f0,f1⟩:=so6.sw.c0;clear so6)
  | (go_at_call 89;(with_reducible refine(AD.out _ _ _ _ O4.out.sw).mono ?_);rintro e w5 ⟨rfl,hk5⟩;have O5:=hid (O4.out.keep hk5);have K5:=hid (K4.out.trans hk5 (fun _ _ e=>e) (fun _ _ e=>e.elim));obtain⟨f0,f1⟩:=O5.out.sw.c0;clear hk5)
  | fail)
 all_goals
  go_wp2_with fail;exact⟨rfl,.int .i64 0,by simp[results,Tryz.results41,go_sem],rfl,D6.out⟩
theorem SO.four{w W sb lw x t fr ls S h}(o:SO w W sb lw x t fr ls S h){g:Nat}(hg:g<t.m.n)(hk:(t.m.pg g).kd=4):∃ k,S.c g=some k:=by
 cases e:S.c g with
 | some k=>exact⟨k,rfl⟩
 | none=>
  exfalso
  obtain⟨B,s,hN,hL⟩:=o.sf;obtain⟨a,p,k,hb,h1,h2⟩:=s.cv g hg;have h9:a≠9:=fun e=>hN p k (e▸hb)
  have hp:=s.pg a p k hb h9 g h1 h2;rw[o.si.eP,zaP e,Option.getD_none] at hp;rw[hp] at hk;have hk:(if g=p then (a:Int) else (a:Int)+1)=4:=hk;rcases s.tg a p k hb with rfl|rfl|rfl
  ·split at hk <;> omega
  ·split at hk <;> omega
  ·exact h9 rfl
def Liv(x:Bx)(S:Sb)(p g k i:Nat):Prop:=S.c g=some k∧i<ncl k∧i ∉ S.fl g∧p=caN x g k i
theorem SO.liv_of{w W sb lw x t fr ls S h}(o:SO w W sb lw x t fr ls S h){p:Nat}(hp:p<18446744073709551616)(hl:livS x t p=true):∃ g k i,Liv x S p g k i:=by
 unfold livS atB at hl;rw[Bool.and_eq_true,Bool.and_eq_true] at hl;obtain⟨⟨h1,h2⟩,h3⟩:=hl;have h1:=of_decide_eq_true h1;have h2:=of_decide_eq_true h2;obtain⟨g,hg⟩:=xe (offS x p/4096);have hgn:g<t.m.n:=by
  refine Nat.lt_of_not_le fun hle=>?_
  unfold atQ atP at h1;rw[←hg,if_neg] at h1
  ·exact absurd h1 (by decide)
  ·intro e;obtain⟨k,e1,e2⟩:=zav e;omega
 have hQ:atQ x t p=t.m.pg g:=by
  unfold atQ;rw[←hg];exact zew hgn
 rw[hQ] at h1;obtain⟨k,hc⟩:=o.four hgn h1;obtain⟨hk,sp⟩:=o.si.pg g k hc;have hnb:=zaI hk;have hz:=zay hk;have ek:(atQ x t p).cl.toNat=k:=by rw[hQ,sp.cl];rfl
 rw[ek] at h2;obtain⟨i,hi⟩:=xe (offS x p%4096/szC k);have hN:atN x t p=i:=by unfold atN;rw[ek,hi]
 have him:i*szC k=offS x p%4096:=by
  have:=Nat.div_add_mod (offS x p%4096) (szC k);rw[h2,Nat.add_zero,Nat.mul_comm,←hi] at this;exact this
 have hib:i<ncl k:=by
  refine Nat.lt_of_not_le fun hle=>?_
  have:=Nat.mul_le_mul_right (szC k) hle;rw[hnb.1,him] at this;have:=Nat.mod_lt (offS x p) (show 0<4096 by decide);omega
 rw[hQ,hN,sp.bt i (by omega)] at h3;have h3:=of_decide_eq_true h3;refine⟨g,k,i,hc,hib,h3.2,?_⟩;obtain⟨_,hpn,hp1,hpb⟩:=o.mem hc;have n4:=o.po.nums.2.2.2.1;have e:caN x g k i=x.base+4096*g+i*szC k:=rfl;rw[e,him,hg];have hd:=Nat.div_add_mod (offS x p) 4096;have ho:offS x p=(p+18446744073709551616-x.base)%18446744073709551616:=rfl;omega
theorem SO.of_liv{w W sb lw x t fr ls S h}(o:SO w W sb lw x t fr ls S h){p g k i:Nat}(hl:Liv x S p g k i):livS x t p=true∧atB x t p=true∧offS x p/4096=g∧atQ x t p=t.m.pg g∧atN x t p=i∧p<18446744073709551616:=by
 obtain⟨hc,hi,hn,rfl⟩:=hl;obtain⟨hk,sp⟩:=o.si.pg g k hc;have hnb:=zaI hk;obtain⟨_,hpn,hp1,hpb⟩:=o.mem hc;have n4:=o.po.nums.2.2.2.1;obtain⟨h1,h2,h3,h4⟩:=zia (x:=x) (t:=t) hk hi (by omega) hpn sp.kd sp.cl;refine⟨?_,h1,h2,h3,h4,(zaA (x:=x) (p:=g) hk hi (by omega)).2.2⟩;unfold livS;rw[h1,h3,h4,sp.bt i (by omega),decide_eq_true ⟨hi,hn⟩];rfl
theorem zjt{w W sb lw x t h}(s:SW w W sb lw x t h)(p:Nat)(hp:p<18446744073709551616)(hl:livS x t p=false):
  Calls Tryz.prog 13 #[.pointer (some ⟨sb,0,none⟩),.int .u64 (p:Int)] W fun e w'=>e=.returned (.int .i64 1)∧Kt nO W w':=by
 have LV:=hid (show ∃ g n q,Calls Tryz.prog 39 #[.pointer (some ⟨sb,0,none⟩),.int .u64 (p:Int)] W fun e w'=>e=.returned (.tuple #[cvV g n q,.bool false])∧Kt nO W w' from by
  cases hB:atB x t p with
  | false=>exact⟨_,_,_,zin s p hp hB⟩
  | true=>
   have:=zcQ s p hp hB;unfold livS at hl;rw[hB,Bool.true_and] at hl;rw[hl] at this;exact⟨_,_,_,this⟩)
 obtain⟨g,n,q,LX⟩:=LV.out;have LY:=hid LX;clear s hl LX LV;go_enter Tryz.func13,Tryz.ntmps13;go_wp2_with fail;refine LY.out.mono ?_;rintro e w1 ⟨rfl,hk⟩;have K1:=hid (hk.alloc (cvO g n q));clear hk;go_wp2_with fail;exact⟨rfl,.int .i64 1,by simp[results,Tryz.results13,go_sem],rfl,K1.out⟩
theorem zm6{n L lv N l1 N1:Nat}(h:L<n)(h2 : 2≤n)(e1:lv=n-L)(e2:l1=lv-1)(eN:N=n)(e3:N1=N-1):(l1=0↔L+1=n)∧(l1=N1↔L=0)∧(L+1=n∨L+1<n):=by omega
inductive GvP(w W:World)(sb lw:Nat)(x:Bx)(t:Bt)(fr:Nat→List Nat)(ls:List (Nat×Nat))(S:Sb)(g k i:Nat)(w':World):Prop where
 | back (hl:(S.fl g).length+1<ncl k) (so:∃ P t' h',SO w w' sb lw { x with P:=P } t' fr ls (givS S g k i) h'∧(∀ j,¬(4096*g+i*szC k≤j∧j<4096*g+i*szC k+8)→t'.f j=t.f j)∧t'.m.n=t.m.n) (kp:Kt (sown x sb) W w')
 | rel (hl:(S.fl g).length+1=ncl k) (so:RlO w W sb lw x t fr ls S g k w')
theorem zev{w W sb lw x t fr ls S h}(o:SO w W sb lw x t fr ls S h)(hv:Lve S)(p g k i:Nat)(hl:Liv x S p g k i):
  Calls Tryz.prog 13 #[.pointer (some ⟨sb,0,none⟩),.int .u64 (p:Int)] W fun e w'=>e=.returned (.int .i64 0)∧GvP w W sb lw x t fr ls S g k i w':=by
 obtain⟨hlv,hB,hg,hQ,hN,hp⟩:=o.of_liv hl;obtain⟨hc,hi,hn,hpa⟩:=hl;obtain⟨hk,sp⟩:=o.si.pg g k hc;have hnb:=zaI hk;have hlen:=hv g k hc;obtain⟨hls,hpn,hp1,hpb⟩:=o.mem hc;have n4:=o.po.nums.2.2.2.1;have hoc:=zaA (x:=x) (p:=g) hk hi (by omega);have LV:=hid (show Calls Tryz.prog 39 #[.pointer (some ⟨sb,0,none⟩),.int .u64 (p:Int)] W fun e w'=>e=.returned (.tuple #[cvV (g:Int) (i:Int) (t.m.pg g),.bool true])∧Kt nO W w' from by
  have:=zcQ o.sw p hp hB;unfold livS at hlv;rw[hB,Bool.true_and] at hlv;rw[hlv,hg,hN,hQ] at this;exact this)
 obtain⟨q,hq⟩:=xe (t.m.pg g);have HC:=hid (show q.cl=(k:Int)from by rw[hq];exact sp.cl);obtain⟨lv,hlv2⟩:=xe (ncl k-(S.fl g).length);have HL:=hid (show q.lv=(lv:Int)from by rw[hq,hlv2];exact sp.lv);have HF:=hid (show q.fs=hdI (S.fl g)from by rw[hq];exact sp.fs);have hfsb:q.fs = -1∨∃ j:Nat,j≤256∧q.fs=(j:Int):=by
  rw[HF.out];rcases zcX (S.fl g)with e|⟨r,e,hr⟩
  ·exact .inl e
  ·refine .inr ⟨r,?_,e⟩;have:=(o.si.fl g k hc).2.1 r hr;omega
 rw[←hq] at LV;have OW:=hid (show ∀ W',SW w W' sb lw x t h→Calls Tryz.prog 40 #[.pointer (some ⟨x.m,0,none⟩),.int .i64 (g:Int),.int .i64 (i:Int),.bool false] W' fun e w'=>e=.returned (.int .i64 (ownE t.m (g:Int) (i:Int) false))∧SW w w' sb lw x { t with m:=ownM t.m (g:Int) (i:Int) false } h∧Kt (bown x) W' w' from fun W' s=>zmC s (g:Int) (i:Int) false);generalize ownE t.m (g:Int) (i:Int) false=oe at *;obtain⟨m1,hm1⟩:=xe (ownM t.m (g:Int) (i:Int) false);have RL:=hid (show ∀ W',SW w W' sb lw x { t with m:=m1 } h→Kt (bown x) W W'→(S.fl g).length+1=ncl k→Calls Tryz.prog 41 #[.pointer (some ⟨sb,0,none⟩),.int .i64 (g:Int),.int .i64 (k:Int)] W' fun e w'=>e=.returned (.int .i64 0)∧GvP w W sb lw x t fr ls S g k i w' from fun W' s kk hl=>by
  rw[hm1] at s;refine(zht o g k i hc hi hn (fun e=>by rw[e,List.length_nil] at hl;omega) s).mono ?_;rintro e w' ⟨rfl,P,t',h',h1,h2,h3,h4⟩;exact⟨rfl,.rel hl ⟨P,t',h',h1,h2,h3,(kk.mono (fun _ _ e=>.inl e)).trans h4 (fun _ _ e=>e) (fun _ _ e=>e)⟩⟩)
 have PT:=hid (show ∀ W',SW w W' sb lw x { t with m:=m1 } h→Calls Tryz.prog 43 #[.pointer (some ⟨sb,0,none⟩),.int .i64 (g:Int),.int .i64 (k:Int)] W' fun e w'=>e=.returned (.tuple #[])∧SW w w' sb lw x { t with m:=putM m1 h (g:Int) k } (uphI h k (g:Int))∧Kt (sown x sb) W' w' from fun W' s=>zmU s (g:Int) k hk);have EN:=hid (show ∀ W',SW w W' sb lw x { t with m:=givN t.m h g k i (S.fl g) } (givH h g k (S.fl g))→Kt (sown x sb) W W'→(S.fl g).length+1<ncl k→Calls Tryz.prog 44 #[.pointer (some ⟨sb,0,none⟩),cvV (g:Int) (i:Int) q,.int .u64 (p:Int)] W' fun e w'=>e=.returned (.tuple #[])∧GvP w W sb lw x t fr ls S g k i w' from fun W' s kk hl=>by
  have hin:M.In x.base x.n p 8:=by
   have hz:=zay hk;unfold M.In;have e:caN x g k i=x.base+4096*g+i*szC k:=rfl;omega
  refine(zlb s g i k p q (by omega) hk HC.out hfsb hp hin).mono ?_;rintro e w' ⟨rfl,h1,h2⟩;have hpo:p-x.base=4096*g+i*szC k:=by
   have e:caN x g k i=x.base+4096*g+i*szC k:=rfl;omega
  rw[hpo,HF.out,zm1] at h1;have so:=o.give hc hi hn hlen h1;refine⟨rfl,.back hl ⟨_,_,_,so,fun j hj=>M.upd_out _ _ _ _ _ hj,?_⟩ (kk.trans (h2.mono (fun _ _ e=>.inl e)) (fun _ _ e=>e) (fun _ _ e=>e))⟩;have h3:=so.st;have h4:=o.st;have h5:(givM t.m h g k i (S.fl g)).n*4096=x.n:=h3;show(givM t.m h g k i (S.fl g)).n=t.m.n
  omega)
 have CLS:=hid (show ∀ W',SW w W' sb lw x { t with m:=m1 } h→Calls Tryz.prog 42 #[.int .i64 (k:Int)] W' fun e w'=>e=.returned (.int .i64 ((ncl k:Nat):Int))∧w'=W' from fun W' s=>zid s k hk);obtain⟨N,hNk⟩:=xe (ncl k);rw[←hNk] at CLS;obtain⟨l1,hl1⟩:=xe (lv-1);obtain⟨N1,hN1⟩:=xe (N-1);have hl1i:(lv:Int)-1=(l1:Int):=by omega
 have hl1b:l1≤256:=by omega
 have hN1i:(N:Int)-1=(N1:Int):=by omega
 have hN1b:N1≤256:=by omega
 have hNb:N≤256:=by omega
 have hlvb:lv≤256:=by omega
 have hx:=zm6 hlen hnb.2.1 hlv2 hl1 hNk hN1;have X1:=hid hx.1;have X2:=hid hx.2.1;have X3:=hid hx.2.2;clear hx;have X4:=hid hnb.2.1;have GN:=hid (show givN t.m h g k i (S.fl g)=(if S.fl g=[] then putM m1 h (g:Int) k else m1)from by unfold givN;rw[hm1]);have HS:=hid o.sw;rw[←hm1] at OW;clear o hv hlv hB hg hQ hN hp hc hi hn hpa sp hlen hls hpn hp1 hpb n4 hoc hq hlv2 hfsb hm1 hNk hl1 hN1 hnb;go_enter Tryz.func13,Tryz.ntmps13;go_wp2_with fail;refine LV.out.mono ?_;rintro e w1 ⟨rfl,hk1⟩;have K1:=hid (hk1.alloc (cvO (g:Int) (i:Int) q));have Y1:=hid (nH w1 (cvO (g:Int) (i:Int) q));have S1:=hid (HS.out.keep K1.out);have NY:=hid (show ¬(bown x w1.heap.size∨w1.heap.size=sb)from fun e=>by
  rcases e with e|e
  ·exact absurd ((HS.out.keep hk1).pl.lt _ (.inl e)) (Nat.lt_irrefl _)
  ·have:=lH (HS.out.keep hk1).bx;omega)
 clear hk1;go_upto_region 4 with fail;generalize w1.heap.size=y at *;generalize w1.alloc (cvO (g:Int) (i:Int) q)=W1 at *;have CQ:=hid (show ∀ W':World,W'.heap[y]?=some (cvO (g:Int) (i:Int) q)→W'.cell? ⟨y,0,none⟩=some (.int .i64 (g:Int))∧W'.cell? ⟨y,1,none⟩=some (.int .i64 (i:Int))∧W'.cell? ⟨y,4,none⟩=some (.int .i64 (k:Int))∧W'.cell? ⟨y,5,none⟩=some (.int .i64 (lv:Int))from fun W' hW=>by
  obtain⟨a0,a1,a2,a3,a4,a5,_⟩:=cv13 hW;rw[HC.out] at a4;rw[HL.out] at a5;exact⟨a0,a1,a4,a5⟩)
 have KD:=hid ((Kt.refl nO W1).drew);have K2:=hid (nT K1.out KD.out);have S2:=hid (HS.out.keep K2.out);have Y2:=hid ((KD.out.block _ (lH Y1.out) (fun e=>e)).trans Y1.out);have MP:=hid (Map6 S2.out.pl);obtain⟨p0,p1,p4,p5⟩:=CQ.out _ Y2.out;obtain⟨c0,c1⟩:=S2.out.c0;go_region_held3 (fun w'=>w'.cell? ⟨sb,0,none⟩=some (.pointer (some ⟨lw,0,none⟩))∧w'.cell? ⟨y,0,none⟩=some (.int .i64 (g:Int))∧w'.cell? ⟨y,1,none⟩=some (.int .i64 (i:Int))) ((refine⟨?_,?_,?_⟩ <;> first|with_reducible assumption|fail)) (first
  | (go_at_call 40;(with_reducible refine(OW.out _ S2.out).mono ?_);rintro e w3 ⟨rfl,hs3,hk3⟩;obtain⟨f0,f1⟩:=hs3.c0;have Y3:=hid ((hk3.block _ (lH Y2.out) (fun e=>NY.out (.inl e))).trans Y2.out);obtain⟨g0,g1,g4,g5⟩:=CQ.out _ Y3.out;have S3:=hid hs3;have K3:=hid (K2.out.trans hk3 (fun _ _ e=>e.elim) (fun _ _ e=>e));clear hs3 hk3)
  | (go_at_call 15;(with_reducible refine MP.out.mono ?_);rintro e w3 ⟨rfl,h3⟩;replace h3:=h3.symm;subst h3)
  | fail)
 all_goals
  clear p0 p1 p4 p5 c0 c1 MP;by_cases hz:l1=0
  ·have hb:((l1:Int) == 0)=true:=(by rw[beq_iff_eq];omega);have hlz:=hid (X1.out.1 hz);have RR:=hid (RL.out _ S3.out K3.out hlz.out);subst hz;as_aux_lemma=>
    go_wp2_with fail;refine RR.out.mono ?_;rintro e w4 ⟨rfl,h4⟩;have D:=hid h4;clear h4;go_wp2_with fail;exact⟨rfl,.int .i64 0,by simp[results,Tryz.results13,go_sem],rfl,D.out⟩
  ·have hb:((l1:Int) == 0)=false:=(by rw[beq_eq_false_iff_ne];omega);have hb':¬(l1:Int)=0:=(by omega);have hlt:=hid (X3.out.resolve_left (fun e=>hz (X1.out.2 e)));have CL:=hid (CLS.out _ S3.out);clear hz;by_cases hn1:l1=N1
   ·have hf0:S.fl g=[]:=List.length_eq_zero_iff.1 (X2.out.1 hn1);have PP:=hid (PT.out _ S3.out);have EE:=hid (show ∀ W',SW w W' sb lw x { t with m:=putM m1 h (g:Int) k } (uphI h k (g:Int))→Kt (sown x sb) W W'→Calls Tryz.prog 44 #[.pointer (some ⟨sb,0,none⟩),cvV (g:Int) (i:Int) q,.int .u64 (p:Int)] W' fun e w'=>e=.returned (.tuple #[])∧GvP w W sb lw x t fr ls S g k i w' from fun W' s kk=>by
     refine EN.out W' ?_ kk hlt.out;rw[GN.out,if_pos hf0,show givH h g k (S.fl g)=uphI h k (g:Int)from by unfold givH;rw[if_pos hf0]];exact s)
    have hb2:((l1:Int) == (N1:Int))=true:=(by rw[beq_iff_eq];omega);have HN1:=hid hn1;clear hn1 hf0;as_aux_lemma=>
     go_wp2_with fail;refine CL.out.mono ?_;rintro e w4 ⟨rfl,h4⟩;replace h4:=h4.symm;subst h4;go_wp2_with fail;refine PP.out.mono ?_;rintro e w5 ⟨rfl,hs5,hk5⟩;have E5:=hid (EE.out _ hs5 ((K3.out.mono (fun _ _ e=>.inl e)).trans hk5 (fun _ _ e=>e) (fun _ _ e=>e)));have Y5:=hid ((hk5.block _ (lH Y3.out) NY.out).trans Y3.out);clear hs5 hk5 g0 g1 g4 g5 f0 f1 CL PP;obtain⟨b0,b1,b2,b3,b4,b5,b6,b7,b8,b9,b10,b11,b12⟩:=cv13 Y5.out;go_wp2_with fail;refine E5.out.mono ?_;rintro e w6 ⟨rfl,h6⟩;have D:=hid h6;clear h6 b0 b1 b2 b3 b4 b5 b6 b7 b8 b9 b10 b11 b12;go_wp2_with fail;exact⟨rfl,.int .i64 0,by simp[results,Tryz.results13,go_sem],rfl,D.out⟩
   ·have hf0:S.fl g≠[]:=fun e=>hn1 (X2.out.2 (by rw[e];rfl))
    have EE:=hid (show Calls Tryz.prog 44 #[.pointer (some ⟨sb,0,none⟩),cvV (g:Int) (i:Int) q,.int .u64 (p:Int)] _ fun e w'=>e=.returned (.tuple #[])∧GvP w W sb lw x t fr ls S g k i w' from by
     refine EN.out _ ?_ (K3.out.mono (fun _ _ e=>.inl e)) hlt.out;rw[GN.out,if_neg hf0,show givH h g k (S.fl g)=h from by unfold givH;rw[if_neg hf0]];exact S3.out)
    have hb2:((l1:Int) == (N1:Int))=false:=(by rw[beq_eq_false_iff_ne];omega);have hb3:¬(l1:Int)=(N1:Int):=(by omega);clear hn1 hf0;as_aux_lemma=>
     go_wp2_with fail;refine CL.out.mono ?_;rintro e w4 ⟨rfl,h4⟩;replace h4:=h4.symm;subst h4;clear g0 g1 g4 g5;obtain⟨b0,b1,b2,b3,b4,b5,b6,b7,b8,b9,b10,b11,b12⟩:=cv13 Y3.out;go_wp2_with fail;refine EE.out.mono ?_;rintro e w6 ⟨rfl,h6⟩;have D:=hid h6;clear h6 b0 b1 b2 b3 b4 b5 b6 b7 b8 b9 b10 b11 b12;go_wp2_with fail;exact⟨rfl,.int .i64 0,by simp[results,Tryz.results13,go_sem],rfl,D.out⟩
theorem Lve.tak{S:Sb}{p k i:Nat}{r:List Nat}(h:∀ a c,a≠p→S.c a=some c→(S.fl a).length<ncl c)(hc:S.c p=some k)(hf:S.fl p=i :: r)(hl:(S.fl p).length≤ncl k):Lve (takS S p k r):=by
 intro a c ha;replace ha:S.c a=some c:=ha;show(updF S.fl p r a).length<ncl c
 by_cases e:a=p
 ·subst e;rw[hc] at ha
  cases ha
  rw[uFs];rw[hf,List.length_cons] at hl;omega
 ·rw[uFn _ _ e];exact h a c e ha
theorem Lve.old{w W sb lw x t fr ls S h}(o:SO w W sb lw x t fr ls S h)(v:Lve S){p k i:Nat}{l r:List Nat}(hk:k<8)(hl:S.pl k=p :: l)(hf:S.fl p=i :: r):Lve (takS S p k r):=by
 have hc:=((o.si.pm k hk p).1 (by rw[hl];exact List.mem_cons_self)).1;exact Lve.tak (fun a c _ ha=>v a c ha) hc hf (o.si.lv p k hc)
theorem Lve.new{S:Sb}(v:Lve S){p k:Nat}(hk:k<8):Lve (takS (freS S p k) p k (List.range' 1 (ncl k-1))):=by
 have hnl:=zaI hk;have e:(freS S p k).fl p=List.range' 0 (ncl k):=uFs _ _ _;refine Lve.tak (i:=0) (fun a c ha hc=>?_) (uFs _ _ _) ?_ ?_
 ·rw[show(freS S p k).c a=S.c a from uFn _ _ ha] at hc;rw[show(freS S p k).fl a=S.fl a from uFn _ _ ha];exact v a c hc
 ·rw[e];obtain⟨m,hm⟩:∃ m,ncl k=m+1:=⟨ncl k-1,by omega⟩;rw[hm];rfl
 ·rw[e,List.length_range'];exact Nat.le_refl _
theorem Lve.back{S:Sb}(v:Lve S){p k i:Nat}(hc:S.c p=some k)(hl:(S.fl p).length+1<ncl k):Lve (givS S p k i):=by
 intro a c ha;replace ha:S.c a=some c:=ha;show(updF S.fl p (i :: S.fl p) a).length<ncl c
 by_cases e:a=p
 ·subst e;rw[hc] at ha
  cases ha
  rw[uFs,List.length_cons];exact hl
 ·rw[uFn _ _ e];exact v a c ha
theorem Lve.rel{S:Sb}(v:Lve S)(p k:Nat):Lve (relS S p k):=by
 intro a c ha;replace ha:updF S.c p none a=some c:=ha;by_cases e:a=p
 ·rw[e,uFs] at ha
  cases ha
 ·rw[uFn _ _ e] at ha;exact v a c ha
theorem SO.new{w W sb lw x t}(po:PO w W lw x t (fun _=>[]) [])(sw:SW w W sb lw x t (fun _ => -1))(hP:x.P=fun _=>none):SO w W sb lw x t (fun _=>[]) [] ⟨fun _=>none,fun _=>[],fun _=>[]⟩ (fun _ => -1):=by
 refine⟨sw,po.sf,po.st,po.bm,⟨?_,fun p k h=>?_,fun p k h=>?_,fun p k h=>?_,fun k hk=>List.nodup_nil,fun k hk p=>?_⟩,fun k hk=>rfl⟩
 ·rw[hP];funext p
  exact(zaP rfl).symm
 ·cases h
 ·cases h
 ·cases h
 ·constructor
  ·intro h;cases h
  ·rintro ⟨h,_⟩;cases h
theorem Lve.none:Lve ⟨fun _=>Option.none,fun _=>[],fun _=>[]⟩:=fun p k h=>by cases h
theorem Pol.from{w w1 W lw x t}(k:Kt nO w w1)(h:Pol w1 W lw x t):Pol w W lw x t:=⟨h.box,h.bd,fun y hy=>Nat.le_trans k.size (h.nw y hy),nT k h.kp⟩
end Go.Proofs.YtgjdmkfpmokkaaaGreatDoor
