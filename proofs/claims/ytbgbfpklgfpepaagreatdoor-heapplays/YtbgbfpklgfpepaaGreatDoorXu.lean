import Derived.Test.YtbgbfpklgfpepaaGreatDoorXf
set_option maxRecDepth 1000000
set_option maxHeartbeats 80000000
namespace Go.Proofs.YtbgbfpklgfpepaaGreatDoor
open Tryz
open Go.RowKit
open Go.MuLone
set_option linter.unusedVariables false
abbrev yO(h:Nat):Obj:=.cells #[.int .u64 h,.int .u64 0,.int .i64 0,.int .i64 0] 35
theorem pJ:¬Go.Proofs.YtbgbfpklgfpepaaGreatDoor.pty 35/\35≠135/\35≠91:=by unfold Go.Proofs.YtbgbfpklgfpepaaGreatDoor.pty;decide
theorem vY{W:World}{y h L B F:Nat}(e:W.heap[y]?=some (kG h L B F)):(∀ v:Nat,(W.setCell ⟨y,1,none⟩ (.int .u64 v)).heap[y]?=some (kG h v B F))/\(∀ v:Nat,(W.setCell ⟨y,2,none⟩ (.int .i64 v)).heap[y]?=some (kG h L v F))/\(∀ v:Nat,(W.setCell ⟨y,3,none⟩ (.int .i64 v)).heap[y]?=some (kG h L B v)):=by
 refine⟨fun v=>?_,fun v=>?_,fun v=>?_⟩ <;> · rw[bB e];simp
theorem UW{W:World}{y h L B F:Nat}(e:W.heap[y]?=some (kG 0 0 0 0)):((((W.setCell ⟨y,0,none⟩ (.int .u64 h)).setCell ⟨y,1,none⟩ (.int .u64 L)).setCell ⟨y,2,none⟩ (.int .i64 B)).setCell ⟨y,3,none⟩ (.int .i64 F)).heap[y]?=some (kG h L B F):=by
 have:=bB (bB (bB (bB e 0 (.int .u64 h)) 1 (.int .u64 L)) 2 (.int .i64 B)) 3 (.int .i64 F);simpa using this
section
variable {w W W0 W1 W':World} {hb sb lw:Nat} {x:Bx} {t:Bt} {fr:Nat->List Nat} {ls:List (Nat×Nat)} {S:Sb} {s:Int} {y2 y3 i:Nat}
structure StJ(w0 W0:World)(hb sb lw:Nat)(x:Bx)(t:Bt)(fr:Nat->List Nat)(ls:List (Nat×Nat))(S:Sb)(y2 y3 L B F:Nat)(W:World):Prop where
 H:HW w0 W hb sb lw x t fr ls S 1
 k:Kt nO W0 W
 r:W.heap[y2]?=some (kG 0 0 0 0)
 b:W.heap[y3]?=some (kG x.n L B F)
 n2:y2<y3
 n3:W0.heap.size<=y3
 nw:w0.heap.size<=y3
variable {L B F:Nat}
theorem StJ.keep(j:StJ w W0 hb sb lw x t fr ls S y2 y3 L B F W)(k:Kt nO W W'):StJ w W0 hb sb lw x t fr ls S y2 y3 L B F W':=
 ⟨j.H.keep k,nT j.k k,(k.block _ (lH j.r) id).trans j.r,(k.block _ (lH j.b) id).trans j.b,j.n2,j.n3,j.nw⟩
theorem StJ.wr{L1 B1 F1:Nat}(j:StJ w W0 hb sb lw x t fr ls S y2 y3 L B F W)(k:Kt (fun y=>y=y3) W W')(e:W'.heap[y3]?=some (kG x.n L1 B1 F1)):StJ w W0 hb sb lw x t fr ls S y2 y3 L1 B1 F1 W':=
 ⟨j.H.other j.b j.nw pJ.1 pJ.2.1 pJ.2.2 k,j.k.trans k (fun _ _ e=>e) (fun y hy e=>absurd j.n3 (by rw[<-e];exact Nat.not_le.2 hy)),(k.block _ (lH j.r) (fun e=>absurd j.n2 (by rw[e];exact Nat.lt_irrefl _))).trans j.r,e,j.n2,j.n3,j.nw⟩
theorem StJ.s1(j:StJ w W0 hb sb lw x t fr ls S y2 y3 L B F W)(v:Nat):StJ w W0 hb sb lw x t fr ls S y2 y3 v B F (W.setCell ⟨y3,1,none⟩ (.int .u64 v)):=j.wr ((Kt.refl (fun y=>y=y3) W).setCell (p:=⟨y3,1,none⟩) rfl _) ((vY j.b).1 v)
theorem StJ.s2(j:StJ w W0 hb sb lw x t fr ls S y2 y3 L B F W)(v:Nat):StJ w W0 hb sb lw x t fr ls S y2 y3 L v F (W.setCell ⟨y3,2,none⟩ (.int .i64 v)):=j.wr ((Kt.refl (fun y=>y=y3) W).setCell (p:=⟨y3,2,none⟩) rfl _) ((vY j.b).2.1 v)
theorem StJ.s3(j:StJ w W0 hb sb lw x t fr ls S y2 y3 L B F W)(v:Nat):StJ w W0 hb sb lw x t fr ls S y2 y3 L B v (W.setCell ⟨y3,3,none⟩ (.int .i64 v)):=j.wr ((Kt.refl (fun y=>y=y3) W).setCell (p:=⟨y3,3,none⟩) rfl _) ((vY j.b).2.2 v)
theorem tQ(H:HW w W hb sb lw x t fr ls S 0):
  Calls prog 13 #[.pointer (some ⟨hb,0,none⟩)] W fun e w'=>e=.returned (yP x.n (cT fV t.m t.m.n) (cT fW t.m t.m.n) (cT fM t.m t.m.n))/\Kt nO W w':=by
 have n2:=H.po.nums.2.1;have n4:=H.po.nums.2.2.2.1;have KA:=aA ((Kt.refl nO W).alloc iR);have HA:=aA (H.keep KA.out);have XA:=aA (show(W.alloc iR).heap[W.heap.size]?=some (kG 0 0 0 0)from nH W iR);have hwW:w.heap.size<=W.heap.size:=H.po.pl.kp.size;have LK:=aA HA.out.lock;have XL:=aA (show(cY (W.alloc iR) hb).heap[W.heap.size]?=some (kG 0 0 0 0)from((HA.out.set 1).2.block _ (lH XA.out) (fun e=>by
  have:=lH H.bx;omega)).trans XA.out)
 have CM:=aA (zfJ HA.out.in);have SB:=aA (fun i (hi:i<=t.m.n)=>H.stb i hi);have SK:=aA (fun i (hi:i<t.m.n)=>H.sk hi);have sL:=aA (fun i=>show cT fV t.m (i+1)=cT fV t.m i+fV (t.m.pg i)from rfl);have sB:=aA (fun i=>show cT fW t.m (i+1)=cT fW t.m i+fW (t.m.pg i)from rfl);have sF:=aA (fun i=>show cT fM t.m (i+1)=cT fM t.m i+fM (t.m.pg i)from rfl);have hsz:(cY (W.alloc iR) hb).heap.size=W.heap.size+1:=by simp
 obtain⟨n,hn⟩:=xe (t.m.n);have HH:=aA H;have HN:=aA hn;have z0:cT fV t.m 0=0:=rfl;have zz1:cT fW t.m 0=0:=rfl;have zz2:cT fM t.m 0=0:=rfl;rw[<-hn] at n2 SB SK ⊢;obtain⟨fL,hfL⟩:∃ f,f=cT fV t.m:=⟨_,rfl⟩;obtain⟨fB,hfB⟩:∃ f,f=cT fW t.m:=⟨_,rfl⟩;obtain⟨fF,hfF⟩:∃ f,f=cT fM t.m:=⟨_,rfl⟩;rw[<-hfL] at SB sL z0 ⊢;rw[<-hfB] at SB sB zz1 ⊢;rw[<-hfF] at SB sF zz2 ⊢;have hxn:x.n<=9223372036854775808:=by omega
 clear H n4 hn hfL hfB hfF;go_enter_defers func13,ntmps13;go_wp2_with fail;refine LK.out.mono ?_;rintro e w1 ⟨rfl,rfl⟩;go_wp2_with fail;refine CM.out.mono ?_;rintro e w2 ⟨rfl,hk2⟩;have J0:=aA (show StJ w (cY (W.alloc iR) hb) hb sb lw x t fr ls S W.heap.size w2.heap.size 0 0 0 (w2.alloc (yO x.n))from by
  have k3:=hk2.alloc (yO x.n);have hs:=hk2.size;rw[hsz] at hs;exact⟨HA.out.in.keep k3,k3,(k3.block _ (lH XL.out) id).trans XL.out,nH w2 _,by omega,by rw[hsz];omega,by omega⟩)
 clear hk2;obtain⟨c0,c2,c3,c4,c5,c6⟩:=J0.out.H.c;have MP:=aA (bT J0.out.H.po.pl);have PGS:=aA (wA J0.out.H.po);rw[<-HN.out] at PGS;go_upto_region 4 with fail;generalize w2.alloc (yO x.n)=W3 at *;generalize w2.heap.size=y3 at *;go_wp2_with fail;refine MP.out.mono ?_;rintro e w4 ⟨rfl,h4⟩;replace h4:=h4.symm;subst h4;go_wp2_with fail;refine PGS.out.mono ?_;rintro e w4 ⟨rfl,h4⟩;replace h4:=h4.symm;subst h4;clear MP PGS c0 c2 c3 c4 c5 c6;go_wp2_with fail;go_loopw [25] (fun c V=>∃ i:Nat,i<=n/\c=.int .i64 i/\Hid (StJ w (cY (W.alloc iR) hb) hb sb lw x t fr ls S W.heap.size y3 (fL i) (fB i) (fF i) V)) (fun c _=>n-(intOf c).toNat)
 case atStart=>exact⟨0,Nat.zero_le _,rfl,aA (by rw[z0,zz1,zz2];exact J0.out)⟩
 case round=>
  clear J0 z0 zz1 zz2;obtain⟨i,hi,rfl,hJ⟩:=hrel;by_cases hlt:i<n
  ·have hii:(i:Int)<n:=(by omega);have hin:i<t.m.n:=(by rw[<-HN.out];exact hlt);have MP:=aA (bT hJ.out.H.po.pl);have AT:=aA (jR x.m x.B t.m (i:Int) wr hJ.out.H.po.pl.bd.mp);rw[show cP t.m (i:Int)=t.m.pg i by unfold cP;rw[if_pos (dQ hin),Int.toNat_natCast]] at AT;obtain⟨c0,c2,c3,c4,c5,c6⟩:=hJ.out.H.c;have sk:=SK.out i hlt;have aL:=sL.out i;have aB:=sB.out i;have aF:=sF.out i;have bb:=SB.out i hi;have bb1:=SB.out (i+1) hlt;generalize fV (t.m.pg i)=dl at *;generalize fW (t.m.pg i)=db at *;generalize fM (t.m.pg i)=df at *;generalize t.m.pg i=q at *;go_wp2_with fail;refine MP.out.mono ?_;rintro e w4 ⟨rfl,h4⟩;replace h4:=h4.symm;subst h4;go_wp2_with fail;refine AT.out.mono ?_;rintro e w5 ⟨rfl,hk5⟩;have J6:=aA (hJ.out.keep (hk5.alloc (aT q)));have X5:=aA (nH w5 (aT q));have hne:w5.heap.size≠y3:=by
    have h1:=hk5.size;have h2:=lH hJ.out.b;omega
   clear MP AT hk5 c0 c2 c3 c4 c5 c6;go_upto_region 8 with fail;generalize w5.alloc (aT q)=w6 at *;generalize w5.heap.size=y5 at *;obtain⟨p0,p1,p2,p3,p4⟩:=nV J6.out.b;obtain⟨x0,x1,x2,x3,x4,x5,x6,x7,x8,x9,x10⟩:=lF X5.out;obtain⟨L,hL⟩:=xe (fL i);obtain⟨B,hB⟩:=xe (fB i);obtain⟨F,hF⟩:=xe (fF i);rw[<-hL,<-hB,<-hF] at J6;rw[<-hL] at p1 aL bb;rw[<-hB] at p2 aB bb;rw[<-hF] at p3 aF bb
   cases sk with
   | free hq h1 h2 h3=>
    subst h1 h2 h3;have D:=aA (show StJ w (cY (W.alloc iR) hb) hb sb lw x t fr ls S W.heap.size y3 (fL (i+1)) (fB (i+1)) (fF (i+1)) (w6.setCell ⟨y3,3,none⟩ (.int .i64 ((F+1:Nat):Int)))from by rw[aL,aB,aF,Nat.add_zero,Nat.add_zero];exact J6.out.s3 (F+1));obtain⟨F1,hF1⟩:=xe (F+1);rw[<-hF1] at D;have e1:(F:Int)+1=(F1:Int):=(by omega);have hFb:F1<=1024:=(by omega);clear aL aB aF hF1 hL hB hF bb bb1 J6 X5;rcases hq with hq|hq
    ·have q0:(q.kd == 0)=true:=(by rw[beq_iff_eq];exact hq);clear hq;go_wp2_with fail;exact⟨⟨i+1,by omega,by simp,D⟩,by simp[intOf];omega⟩
    ·have q0:(q.kd == 0)=false:=(by rw[beq_eq_false_iff_ne];omega);have q1:(q.kd == 1)=true:=(by rw[beq_iff_eq];exact hq);clear hq;go_wp2_with fail;exact⟨⟨i+1,by omega,by simp,D⟩,by simp[intOf];omega⟩
   | rest hq h1 h2 h3=>
    subst h1 h2 h3;have D:=aA (show StJ w (cY (W.alloc iR) hb) hb sb lw x t fr ls S W.heap.size y3 (fL (i+1)) (fB (i+1)) (fF (i+1)) w6 from by rw[aL,aB,aF,Nat.add_zero,Nat.add_zero,Nat.add_zero];exact J6.out);have q0:(q.kd == 0)=false:=(by rw[beq_eq_false_iff_ne];omega);have q1:(q.kd == 1)=false:=(by rw[beq_eq_false_iff_ne];omega);have q2:(q.kd == 2)=false:=(by rw[beq_eq_false_iff_ne];omega);have q4:(q.kd == 4)=false:=(by rw[beq_eq_false_iff_ne];omega);clear aL aB aF hL hB hF bb bb1 J6 X5 hq;go_wp2_with fail;exact⟨⟨i+1,by omega,by simp,D⟩,by simp[intOf];omega⟩
   | head k hk hq ho h1 h2 h3=>
    subst h2 h3;have q0:(q.kd == 0)=false:=(by rw[beq_eq_false_iff_ne];omega);have q1:(q.kd == 1)=false:=(by rw[beq_eq_false_iff_ne];omega);have q2:(q.kd == 2)=true:=(by rw[beq_iff_eq];exact hq);have RN:=aA (fun W'=>vP k hk q ho W');rw[<-h1] at RN;have KD:=aA ((Kt.refl nO w6).drew);obtain⟨L1,hL1⟩:=xe (L+dl);obtain⟨B1,hB1⟩:=xe (B+1);have DC:=aA (fun w7 (kk:Kt nO w6 w7)=>show StJ w (cY (W.alloc iR) hb) hb sb lw x t fr ls S W.heap.size y3 L1 B F (w7.setCell ⟨y3,1,none⟩ (.int .u64 L1))from(J6.out.keep kk).s1 L1);have PC:=aA (fun w7 (kk:Kt nO w6 w7)=>nV (J6.out.keep kk).b);have DE:=aA (fun w8 (jj:StJ w (cY (W.alloc iR) hb) hb sb lw x t fr ls S W.heap.size y3 L1 B F w8)=>show StJ w (cY (W.alloc iR) hb) hb sb lw x t fr ls S W.heap.size y3 (fL (i+1)) (fB (i+1)) (fF (i+1)) (w8.setCell ⟨y3,2,none⟩ (.int .i64 B1))from by
     rw[aL,aB,aF,Nat.add_zero,<-hL1,<-hB1];exact jj.s2 B1)
    have e1:(L:Int)+(dl:Int)=L1:=(by omega);have e2:(B:Int)+1=(B1:Int):=(by omega);rw[aL,<-hL1,aB,<-hB1] at bb1;obtain⟨b1,b2,b3⟩:=bb1;have hLb:L1<=1073741824:=(by omega);have hLw:IntKind.u64.wrap (L1:Int)=L1:=(by rw[wrap_u64];omega);have hBb:B1<=262144:=(by omega);have hdb:dl<=1073741824:=(by omega);clear aL aB aF hL1 hB1 hL hB hF bb J6 hq ho hk h1 b1 b2 b3;go_wp2_with fail;go_cut [3,25] from 25 to 79 (fun s3 s25 wx=>s3=.pointer (some ⟨y3,0,none⟩)/\s25=.int .i64 i/\Hid (StJ w (cY (W.alloc iR) hb) hb sb lw x t fr ls S W.heap.size y3 L1 B F wx))
    case first=>
     rename_i KK hKK J' KK2 hJ hM;clear hKK KK;obtain⟨d0,d1,d2,d3,d4⟩:=PC.out _ KD.out;refine wp_region_noPanic ?_;go_region_with (first
      | (go_at_call 43;(with_reducible refine(RN.out _).mono ?_);rintro e w7 ⟨rfl,hk7⟩;have K7:=aA (nT KD.out hk7);obtain⟨r0,r1,r2,r3,r4⟩:=PC.out _ K7.out;have DD:=aA (DC.out _ K7.out);clear hk7)
      | fail)
     all_goals
      refine NoPanic.normal ?_;go_wp2_with fail;go_meet
      case rel=>exact⟨rfl,rfl,by with_reducible exact DD⟩
    case rest=>
    obtain⟨rfl,rfl,hC⟩:=hcut;obtain⟨d0,d1,d2,d3,d4⟩:=nV hC.out.b;have D:=aA (DE.out _ hC.out);clear DC PC DE KD RN p0 p1 p2 p3 p4;go_wp2_with fail;exact⟨⟨i+1,by omega,by simp,D⟩,by simp[intOf];omega⟩
   | slab k l hk hl hq hc hv h1 h2 h3=>
    subst h3;have q0:(q.kd == 0)=false:=(by rw[beq_eq_false_iff_ne];omega);have q1:(q.kd == 1)=false:=(by rw[beq_eq_false_iff_ne];omega);have q2:(q.kd == 2)=false:=(by rw[beq_eq_false_iff_ne];omega);have q4:(q.kd == 4)=true:=(by rw[beq_iff_eq];exact hq);have CL:=aA (fun W'=>wE k hk q hc W');have hz:=bU hk;obtain⟨z,hzz⟩:=xe (aC k);rw[<-hzz] at CL hz h1;have KD:=aA ((Kt.refl nO w6).drew);obtain⟨L1,hL1⟩:=xe (L+dl);obtain⟨B1,hB1⟩:=xe (B+db);have DC:=aA (fun w7 (kk:Kt nO w6 w7)=>show StJ w (cY (W.alloc iR) hb) hb sb lw x t fr ls S W.heap.size y3 L1 B F (w7.setCell ⟨y3,1,none⟩ (.int .u64 L1))/\(w7.setCell ⟨y3,1,none⟩ (.int .u64 L1)).cell? ⟨y5,3,none⟩=some (.int .i64 q.lv)from⟨(J6.out.keep kk).s1 L1,((Kt.refl (fun y=>y=y3) w7).setCell (p:=⟨y3,1,none⟩) rfl _).cell hne (kk.cell id x3)⟩);have PC:=aA (fun w7 (kk:Kt nO w6 w7)=>And.intro (nV (J6.out.keep kk).b) (kk.cell id x3));have DE:=aA (fun w8 (jj:StJ w (cY (W.alloc iR) hb) hb sb lw x t fr ls S W.heap.size y3 L1 B F w8)=>show StJ w (cY (W.alloc iR) hb) hb sb lw x t fr ls S W.heap.size y3 (fL (i+1)) (fB (i+1)) (fF (i+1)) (w8.setCell ⟨y3,2,none⟩ (.int .i64 B1))from by
     rw[aL,aB,aF,Nat.add_zero,<-hL1,<-hB1];exact jj.s2 B1)
    have hli:q.lv*(z:Int)=dl:=(by rw[hv,h1];simp);have e1:(L:Int)+(dl:Int)=L1:=(by omega);have e2:(B:Int)+q.lv=(B1:Int):=(by omega);rw[aL,<-hL1,aB,<-hB1] at bb1;obtain⟨b1,b2,b3⟩:=bb1;have hLb:L1<=1073741824:=(by omega);have hLw:IntKind.u64.wrap (L1:Int)=L1:=(by rw[wrap_u64];omega);have hBb:B1<=262144:=(by omega);have hdb:dl<=1073741824:=(by omega);have lwr:IntKind.u64.wrap q.lv=q.lv:=(by rw[wrap_u64];omega);have lw0 : 0<=q.lv:=(by omega);have lw1:q.lv<=256:=(by omega);have dwr:IntKind.u64.wrap (dl:Int)=dl:=(by rw[wrap_u64];omega);clear aL aB aF hL1 hB1 hL hB hF bb J6 hq hc hk h1 h2 b1 b2 b3 hzz hv hl;go_wp2_with fail;go_cut [3,5,25] from 25 to 79 (fun s3 s5 s25 wx=>s3=.pointer (some ⟨y3,0,none⟩)/\s25=.int .i64 i/\s5=.pointer (some ⟨y5,0,none⟩)/\Hid (StJ w (cY (W.alloc iR) hb) hb sb lw x t fr ls S W.heap.size y3 L1 B F wx/\wx.cell? ⟨y5,3,none⟩=some (.int .i64 q.lv)))
    case first=>
     rename_i KK hKK J' KK2 hJ hM;clear hKK KK;obtain⟨⟨d0,d1,d2,d3,d4⟩,d5⟩:=PC.out _ KD.out;refine wp_region_noPanic ?_;go_region_with (first
      | (go_at_call 44;(with_reducible refine(CL.out _).mono ?_);rintro e w7 ⟨rfl,hk7⟩;have K7:=aA (nT KD.out hk7);obtain⟨⟨r0,r1,r2,r3,r4⟩,r5⟩:=PC.out _ K7.out;have DD:=aA (DC.out _ K7.out);clear hk7)
      | fail)
     all_goals
      refine NoPanic.normal ?_;go_wp2_with fail;go_meet
      case rel=>exact⟨rfl,rfl,rfl,by with_reducible exact DD⟩
    case rest=>
    obtain⟨rfl,rfl,rfl,hC⟩:=hcut;obtain⟨d0,d1,d2,d3,d4⟩:=nV hC.out.1.b;have d5:=hC.out.2;have D:=aA (DE.out _ hC.out.1);clear DC PC DE KD CL p0 p1 p2 p3 p4;go_wp2_with fail;exact⟨⟨i+1,by omega,by simp,D⟩,by simp[intOf];omega⟩
  ·obtain rfl:i=n:=(by omega);have hii:¬(i:Int)<i:=(by omega);obtain⟨p0,p1,p2,p3,p4⟩:=nV hJ.out.b;obtain⟨r0,r1,r2,r3,r4⟩:=nV hJ.out.r;have k9:=((((Kt.refl (fun y=>y=W.heap.size) wr).setCell (p:=⟨W.heap.size,0,none⟩) rfl (.int .u64 x.n)).setCell (p:=⟨W.heap.size,1,none⟩) rfl (.int .u64 ((fL i:Nat):Int))).setCell (p:=⟨W.heap.size,2,none⟩) rfl (.int .i64 ((fB i:Nat):Int))).setCell (p:=⟨W.heap.size,3,none⟩) rfl (.int .i64 ((fF i:Nat):Int));have X9:=aA (UW hJ.out.r (h:=x.n) (L:=fL i) (B:=fB i) (F:=fF i));have K9:=aA k9;have H9:=aA (hJ.out.H.other hJ.out.r hwW pJ.1 pJ.2.1 pJ.2.2 k9);clear k9;go_wp2_with fail;generalize (((wr.setCell ⟨W.heap.size,0,none⟩ (.int .u64 x.n)).setCell ⟨W.heap.size,1,none⟩ (.int .u64 ((fL i:Nat):Int))).setCell ⟨W.heap.size,2,none⟩ (.int .i64 ((fB i:Nat):Int))).setCell ⟨W.heap.size,3,none⟩ (.int .i64 ((fF i:Nat):Int))=w9 at *;have UL:=aA (H9.out.unlock .returning);have hnb:W.heap.size≠hb:=fun e=>by
    have:=lH HH.out.bx;omega
   have D:=aA (show Kt nO W (dZ w9 hb)from KA.out.trans (HA.out.round (K:=fun y=>y=W.heap.size) (fun e=>hnb e.symm) ((hJ.out.k.mono (fun _ _ e=>e.elim)).trans K9.out (fun _ _ e=>e) (fun _ _ e=>e)) H9.out rfl rfl rfl) (fun _ _ e=>e) (fun y hy e=>absurd hy (by rw[e];exact Nat.lt_irrefl _)));have X10:=aA (show(dZ w9 hb).heap[W.heap.size]?=some (kG x.n (fL i) (fB i) (fF i))from((H9.out.set 0).2.block _ (lH X9.out) hnb).trans X9.out);obtain⟨u0,u1,u2,u3,u4⟩:=nV X10.out;refine leaves_cons (f:=36) (args:=#[.pointer (some ⟨hb,0,none⟩)]) (by simp) (by simp[go_sem]) ?_;refine UL.out.mono ?_;rintro e u' w3 ⟨rfl,rfl,rfl⟩;exact⟨yP x.n (fL i) (fB i) (fF i),by simp[results,results13,go_sem,u0,u1,u2,u3],rfl,D.out⟩
end
end Go.Proofs.YtbgbfpklgfpepaaGreatDoor
