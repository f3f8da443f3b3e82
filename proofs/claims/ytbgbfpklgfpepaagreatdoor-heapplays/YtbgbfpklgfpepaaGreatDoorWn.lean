import Derived.Test.YtbgbfpklgfpepaaGreatDoorWl
import Derived.Test.YtbgbfpklgfpepaaGreatDoorXt
set_option maxRecDepth 1000000
set_option maxHeartbeats 80000000
namespace Go.Proofs.YtbgbfpklgfpepaaGreatDoor
open Tryz
open Go.RowKit
open Go.MuLone
open Go.Proofs.YtbgbfpklgfpepaaGreatDoor.M (RS gJ mayB bE)
set_option linter.unusedVariables false
theorem zhm{w:World}{bS:Nat}{L:Int}{o n:Nat}(ho:o<=8)(hn:n<=64){va:Option Addr}{vm vc:Nat}{c:Cl8}{s:Sn8}(hop:c.op=11)(ha:c.a=0)(h0:s.e=0)(h2:s.dn=0)(h3:s.af=n*RS o):
  Calls prog 105 #[aK bS L (o:Int) (n:Int) (.slice va vm vc),bJ c,aU s] w fun e w'=>e=.returned (.tuple #[aK bS L (o:Int) (n:Int) (.slice va vm vc),.bool true])/\Kt nO w w':=by
 obtain⟨op,cp,ca,cb,cd,cv⟩:=c;dsimp only at *;subst hop ha;have QU:=aA (fun W=>mQ bS L o n ho hn (.slice va vm vc) s h0 h3 W);have HDN:=aA h2;clear h0 h2 h3;have X:=aA (eX w bS L (o:Int) (n:Int) (.slice va vm vc) ⟨11,cp,0,cb,cd,cv⟩ s);obtain⟨c0,c1,c2,c3,c4,c5⟩:=bO X.out.2.c;go_enter func105,ntmps105;go_upto_region 14 with fail;generalize hW0:(((w.alloc (aM bS L (o:Int) (n:Int) (.slice va vm vc))).alloc (bP ⟨11,cp,0,cb,cd,cv⟩)).alloc (bA s)).alloc cC=W0 at *;have kd:∀ W:World,Kt nO W W.drew:=fun W=>(Kt.refl nO W).drew
 have XD:=aA (X.out.2.keep (kd _));have KD:=aA (nT X.out.1 (kd _));have qv:((s.dn:Int) == 0)=true:=by rw[HDN.out];rfl
 clear kd X hW0 c0 c1 c2 c3 c4 c5;obtain⟨db0,db1,db2,db3,db4,dbf⟩:=aD XD.out.b;obtain⟨ds0,ds1,ds2,ds3,ds4,ds5,ds6,ds7,ds8⟩:=aZ XD.out.s;clear dbf;have n1:w.heap.size≠w.heap.size+1+1+1:=by omega
 have n2:w.heap.size+1+1≠w.heap.size+1+1+1:=by omega
 go_region_held3 (fun w'=>w'.cell? ⟨w.heap.size,0,none⟩=some (.int .u64 bS)/\w'.cell? ⟨w.heap.size,1,none⟩=some (.int .i64 L)/\w'.cell? ⟨w.heap.size,2,none⟩=some (.int .i64 o)/\w'.cell? ⟨w.heap.size,3,none⟩=some (.int .i64 n)/\w'.cell? ⟨w.heap.size,4,none⟩=some (.slice va vm vc)/\w'.cell? ⟨w.heap.size+1+1,0,none⟩=some (.int .i64 s.e)/\w'.cell? ⟨w.heap.size+1+1,1,none⟩=some (.int .u64 s.v)/\w'.cell? ⟨w.heap.size+1+1,2,none⟩=some (.slice s.da s.dn s.dc)/\w'.cell? ⟨w.heap.size+1+1,3,none⟩=some (.int .u64 s.H)/\w'.cell? ⟨w.heap.size+1+1,4,none⟩=some (.int .u64 s.L)/\w'.cell? ⟨w.heap.size+1+1,5,none⟩=some (.int .i64 s.B)/\w'.cell? ⟨w.heap.size+1+1,6,none⟩=some (.int .i64 s.F)/\w'.cell? ⟨w.heap.size+1+1,7,none⟩=some (.int .u64 s.af)/\w'.cell? ⟨w.heap.size+1+1,8,none⟩=some (.slice s.fa s.fn s.fc)) (((try dsimp only);(repeat' apply And.intro) <;> first|with_reducible assumption|with_reducible exact gC (by with_reducible assumption) (by with_reducible assumption))) (first
  | (go_at_call 104;(with_reducible refine(QU.out _).mono ?_);rintro e5 w5 ⟨rfl,hk5⟩;have X5:=aA (XD.out.keep hk5);have K5:=aA (nT KD.out hk5);obtain⟨kb0,kb1,kb2,kb3,kb4,kbf⟩:=aD X5.out.b;obtain⟨ks0,ks1,ks2,ks3,ks4,ks5,ks6,ks7,ks8⟩:=aZ X5.out.s;clear kbf;obtain⟨z0,z1,z2,z3,z4,zf⟩:=dE X5.out.rb;clear hk5)
  | fail)
 all_goals
  obtain⟨r0,r1,r2,r3,r4,rf⟩:=aD (dM (bS:=bS) (lim:=L) (o:=(o:Int)) (n:=(n:Int)) (v:=.slice va vm vc) X5.out.rb);have D:=aA (K5.out.trans (fA (W:=w5) (y:=w.heap.size+1+1+1) (.int .u64 bS) (.int .i64 L) (.int .i64 o) (.int .i64 n) (.slice va vm vc)) (U:=nO) (fun _ _ e=>e) (fun y hy e=>by omega));clear z0 z1 z2 z3 z4 zf;go_wp2_with fail;exact⟨rfl,.tuple #[aK bS L (o:Int) (n:Int) (.slice va vm vc),.bool true],by simp[results,results105,go_sem,r0,r1,r2,r3,r4],rfl,D.out⟩
theorem zig{w:World}{bS:Nat}{L:Int}{o n:Nat}(ho:o<=8)(hn:n<=64)(hb:bS+n*RS o<=9223372036854775808){va:Option Addr}{vm vc:Nat}{c:Cl8}{s:Sn8}(hop:c.op=13)(l:List He8)(hB:BK8 w (.slice va vm vc) l)(t r:Nat)(ht:gS l bS (RS o) n=t)(hr:n=r+t)(h0:s.e=0)(h1:s.v=t)(h3:s.af=r*RS o):
  Calls prog 105 #[aK bS L (o:Int) (n:Int) (.slice va vm vc),bJ c,aU s] w fun e w'=>e=.returned (.tuple #[aK bS L (o:Int) (r:Int) (.slice va vm vc),.bool true])/\Kt nO w w':=by
 obtain⟨op,cp,ca,cb,cd,cv⟩:=c;dsimp only at *;subst hop;have SP:=aA (fun W (k:Kt nO w W)=>QP bS L o n ho hn hb (.slice va vm vc) l W (hB.keep k));rw[ht] at SP;have HH:=aA (fun W=>H8 bS L o r ho (by omega) (.slice va vm vc) W);rw[<-h3] at HH;have HE:=aA (And.intro h0 h1);have e1:(n:Int)-(t:Int)=r:=by omega
 have e2:(n:Int)-(r:Int)=t:=by omega
 have e3:IntKind.u64.wrap (t:Int)=t:=by rw[wrap_u64];omega
 have e4:IntKind.i64.wrap (r:Int)=r:=by rw[IntKind.wrap_i64];omega
 have e5:IntKind.i64.wrap (t:Int)=t:=by rw[IntKind.wrap_i64];omega
 clear hB ht h0 h1 h3 hr hb;have X:=aA (eX w bS L (o:Int) (n:Int) (.slice va vm vc) ⟨13,cp,ca,cb,cd,cv⟩ s);obtain⟨b0,b1,b2,b3,b4,bf⟩:=aD X.out.2.b;obtain⟨c0,c1,c2,c3,c4,c5⟩:=bO X.out.2.c;go_enter func105,ntmps105;go_upto_region 26 with fail;have KA:=((Kt.refl nO ((((w.alloc (aM bS L (o:Int) (n:Int) (.slice va vm vc))).alloc (bP ⟨13,cp,ca,cb,cd,cv⟩)).alloc (bA s)).alloc cC)).alloc (aM bS L (o:Int) (n:Int) (.slice va vm vc)));have XA:=aA (X.out.2.keep KA);have NA:=aA (oW ((((w.alloc (aM bS L (o:Int) (n:Int) (.slice va vm vc))).alloc (bP ⟨13,cp,ca,cb,cd,cv⟩)).alloc (bA s)).alloc cC) (aM bS L (o:Int) (n:Int) (.slice va vm vc)) (w.heap.size+1+1+1+1) (by simp));have K0:=aA (nT X.out.1 KA);clear KA X b0 b1 b2 b3 b4 bf c0 c1 c2 c3 c4 c5;generalize ((((w.alloc (aM bS L (o:Int) (n:Int) (.slice va vm vc))).alloc (bP ⟨13,cp,ca,cb,cd,cv⟩)).alloc (bA s)).alloc cC).alloc (aM bS L (o:Int) (n:Int) (.slice va vm vc))=W0 at *;have kd:∀ W:World,Kt nO W W.drew:=fun W=>(Kt.refl nO W).drew
 have XD:=aA (XA.out.keep (kd _));have ND:=aA (bK NA.out (kd _));have KD:=aA (nT K0.out (kd _));have SD:=aA (SP.out _ KD.out);clear kd XA NA K0 SP;obtain⟨b0,b1,b2,b3,b4,bf⟩:=aD XD.out.b;clear bf;have n1:w.heap.size≠w.heap.size+1+1+1+1:=by omega
 go_region_held3 (fun w'=>w'.cell? ⟨w.heap.size,0,none⟩=some (.int .u64 bS)/\w'.cell? ⟨w.heap.size,1,none⟩=some (.int .i64 L)/\w'.cell? ⟨w.heap.size,2,none⟩=some (.int .i64 o)/\w'.cell? ⟨w.heap.size,3,none⟩=some (.int .i64 n)/\w'.cell? ⟨w.heap.size,4,none⟩=some (.slice va vm vc)) (((try dsimp only);(repeat' apply And.intro) <;> first|with_reducible assumption|with_reducible exact gC (by with_reducible assumption) (by with_reducible assumption)|with_reducible exact pV (by with_reducible assumption) (by with_reducible assumption))) (first
  | (go_at_call 157;(with_reducible refine SD.out.mono ?_);rintro e5 w5 ⟨rfl,hk5⟩;have X5:=aA (XD.out.keep hk5);have N5:=aA (bK ND.out hk5);have K5:=aA (nT KD.out hk5);obtain⟨k0,k1,k2,k3,k4,kf⟩:=aD X5.out.b;obtain⟨m0,m1,m2,m3,m4,mf⟩:=aD N5.out;clear hk5 kf)
  | fail)
 all_goals
  have k1':=(Kt.refl (fun z=>z=w.heap.size+1+1+1+1) w5).setCell (p:=⟨w.heap.size+1+1+1+1,3,none⟩) rfl (.int .i64 r);have X6:=aA (show Hz8 (w5.setCell ⟨w.heap.size+1+1+1+1,3,none⟩ (.int .i64 r)) w.heap.size bS L (o:Int) (n:Int) (.slice va vm vc) ⟨13,cp,ca,cb,cd,cv⟩ s from⟨(k1'.block _ (lH X5.out.b) (by omega)).trans X5.out.b,(k1'.block _ (lH X5.out.c) (by omega)).trans X5.out.c,(k1'.block _ (lH X5.out.s) (by omega)).trans X5.out.s,(k1'.block _ (lH X5.out.rb) (by omega)).trans X5.out.rb⟩);have N6:=aA (show(w5.setCell ⟨w.heap.size+1+1+1+1,3,none⟩ (.int .i64 r)).heap[w.heap.size+1+1+1+1]?=some (aM bS L (o:Int) (r:Int) (.slice va vm vc))from by
   have:=bB N5.out 3 (.int .i64 r);simpa using this)
  have K6:=aA (K5.out.trans k1' (U:=nO) (fun _ _ e=>e) (fun y hy e=>by omega));clear k1' b0 b1 b2 b3 b4 k0 k1 k2 k3 k4 m0 m1 m2 m3 m4 mf X5 N5 K5 XD ND KD SD n1;generalize w5.setCell ⟨w.heap.size+1+1+1+1,3,none⟩ (.int .i64 r)=w6 at *;go_upto_region 27 with fail;have kd:∀ W:World,Kt nO W W.drew:=fun W=>(Kt.refl nO W).drew
  have XD:=aA (X6.out.keep (kd _));have ND:=aA (bK N6.out (kd _));have KD:=aA (nT K6.out (kd _));have qe:(s.e == 0)=true:=by rw[HE.out.1];rfl
  have qv:((s.v:Int) == (t:Int))=true:=by rw[HE.out.2];simp
  clear kd X6 N6 K6;obtain⟨b0,b1,b2,b3,b4,bf⟩:=aD XD.out.b;obtain⟨m0,m1,m2,m3,m4,mf⟩:=aD ND.out;obtain⟨s0,s1,s2,s3,s4,s5,s6,s7,s8⟩:=aZ XD.out.s;clear bf mf b0 b1 b2 b4 s2 s3 s4 s5 s6 s8;have n1:w.heap.size≠w.heap.size+1+1+1:=by omega
  have n2:w.heap.size+1+1≠w.heap.size+1+1+1:=by omega
  have n3:w.heap.size+1+1+1+1≠w.heap.size+1+1+1:=by omega
  go_region_held3 (fun w'=>w'.cell? ⟨w.heap.size+1+1+1+1,0,none⟩=some (.int .u64 bS)/\w'.cell? ⟨w.heap.size+1+1+1+1,1,none⟩=some (.int .i64 L)/\w'.cell? ⟨w.heap.size+1+1+1+1,2,none⟩=some (.int .i64 o)/\w'.cell? ⟨w.heap.size+1+1+1+1,3,none⟩=some (.int .i64 r)/\w'.cell? ⟨w.heap.size+1+1+1+1,4,none⟩=some (.slice va vm vc)/\w'.cell? ⟨w.heap.size+1+1,0,none⟩=some (.int .i64 s.e)/\w'.cell? ⟨w.heap.size+1+1,1,none⟩=some (.int .u64 s.v)/\w'.cell? ⟨w.heap.size+1+1,7,none⟩=some (.int .u64 s.af)/\w'.cell? ⟨w.heap.size,3,none⟩=some (.int .i64 n)) (((try dsimp only);(repeat' apply And.intro) <;> first|with_reducible assumption|with_reducible exact gC (by with_reducible assumption) (by with_reducible assumption)|with_reducible exact pV (by with_reducible assumption) (by with_reducible assumption))) (first
   | (go_at_call 108;(with_reducible refine(HH.out _).mono ?_);rintro e7 w7 ⟨rfl,hk7⟩;have X7:=aA (XD.out.keep hk7);have N7:=aA (bK ND.out hk7);have K7:=aA (nT KD.out hk7);obtain⟨k0,k1,k2,k3,k4,kf⟩:=aD X7.out.b;obtain⟨j0,j1,j2,j3,j4,jf⟩:=aD N7.out;obtain⟨p0,p1,p2,p3,p4,p5,p6,p7,p8⟩:=aZ X7.out.s;obtain⟨z0,z1,z2,z3,z4,zf⟩:=dE X7.out.rb;clear hk7 kf jf k0 k1 k2 k4 p2 p3 p4 p5 p6 p8)
   | fail)
  all_goals
   obtain⟨r0,r1,r2,r3,r4,rf⟩:=aD (dM (bS:=bS) (lim:=L) (o:=(o:Int)) (n:=(r:Int)) (v:=.slice va vm vc) X7.out.rb);have D:=aA (K7.out.trans (fA (W:=w7) (y:=w.heap.size+1+1+1) (.int .u64 bS) (.int .i64 L) (.int .i64 o) (.int .i64 r) (.slice va vm vc)) (U:=nO) (fun _ _ e=>e) (fun y hy e=>by omega));clear z0 z1 z2 z3 z4 zf;go_wp2_with fail;exact⟨rfl,.tuple #[aK bS L (o:Int) (r:Int) (.slice va vm vc),.bool true],by simp[results,results105,go_sem,r0,r1,r2,r3,r4],rfl,D.out⟩
theorem vQ(o:Nat):RS o=2 ^ (12+o):=by
 unfold RS;rw[Nat.pow_add]
theorem qR{o m:Nat}(hm : 16<=m)(ho:cF o m=true):O.szB o (2 ^ cl m)=true:=by
 have h1:=of_decide_eq_true ho;have h2:=(nR m (cl m)).2 (Nat.le_refl _);unfold O.szB;rw[(jZ _).2 ⟨cl m,rfl⟩,decide_eq_true (show 16<=2 ^ cl m by omega),vQ,decide_eq_true (Nat.pow_le_pow_right (by decide) h1)];rfl
theorem qJ{bS:Nat}{lim:Int}{o:Nat}(hm:mayB bS lim (o:Int)=true)(ho8:o<=8){s a m:Nat}(hp:cL a=true)(hmx:m=max (max s a) 16)(ho:cF o m=true):O.rdE bS lim (o:Int) s a=0/\O.rdV bS lim (o:Int) s a=2 ^ cl m:=by
 have h1:=of_decide_eq_true ho;have hK:O.rdK bS lim (o:Int) s a=true:=by
  unfold O.rdK O.askN;rw[<-hmx];unfold mN fR;rw[decide_eq_true (show cl m<64 by omega),if_pos (show cl m<64 by omega),Int.toNat_natCast,vQ,decide_eq_true (Nat.pow_le_pow_right (by decide) h1)];rfl
 unfold O.rdE O.rdV;rw[hm,hp,hK];refine⟨rfl,?_⟩;rw[if_pos (show(true && true && true)=true from rfl)];unfold O.askN fR;rw[<-hmx,if_pos (by omega)]
theorem zV{bS:Nat}{lim:Int}{o:Nat}(hm:mayB bS lim (o:Int)=true){s a m:Nat}(hp:cL a=true)(hmx:m=max (max s a) 16)(ho:cF o m=false):O.rdE bS lim (o:Int) s a=3:=by
 have h1:=of_decide_eq_false ho;have hK:O.rdK bS lim (o:Int) s a=false:=by
  unfold O.rdK O.askN;rw[<-hmx];unfold mN fR;by_cases h:cl m<64
  ·rw[if_pos h,Int.toNat_natCast,vQ,Bool.and_eq_false_iff];refine .inr (decide_eq_false fun e=>h1 ?_);exact(Nat.pow_le_pow_iff_right (by decide)).1 e
  ·rw[decide_eq_false h];rfl
 unfold O.rdE;rw[hm,hp,hK];rfl
theorem LM{bS:Nat}{lim o:Int}{s a:Nat}(hp:cL a=false):O.rdE bS lim o s a=1:=by
 unfold O.rdE;rw[hp,Bool.and_false];rfl
structure LLP(P:Nat->Nat->Prop)(l:List (Nat×Nat)):Prop where
 ex:∀ a z,P a z↔(a,z)∈l
 nd:(l.map (·.1)).Nodup
theorem LLP.add{P Q:Nat->Nat->Prop}{l:List (Nat×Nat)}(L:LLP P l){p r:Nat}(hL:∀ a z,Q a z↔P a z\/(a=p/\z=r))(hN:∀ z,¬P p z):LLP Q (l ++ [(p,r)]):=by
 refine⟨fun a z=>?_,?_⟩
 ·rw[hL,L.ex,List.mem_append,List.mem_singleton,Prod.mk.injEq]
 ·rw[List.map_append,List.nodup_append];refine⟨L.nd,by simp,fun a ha b hb e=>?_⟩;obtain⟨c,hc,rfl⟩:=List.mem_map.1 ha;have hb:b=p:=by simpa using hb
  subst hb;refine hN c.2 ((L.ex _ _).2 ?_);rw[<-e];exact hc
theorem LLP.del{P Q:Nat->Nat->Prop}{l:List (Nat×Nat)}(L:LLP P l){i p z:Nat}(hi:l[i]?=some (p,z))(hL:∀ a c,Q a c↔P a c/\a≠p):LLP Q (l.eraseIdx i):=by
 refine⟨fun a c=>?_,?_⟩
 ·rw[hL,L.ex,List.mem_eraseIdx_iff_getElem?];have hil:i<l.length:=(List.getElem?_eq_some_iff.1 hi).1;have g1:(l.map (·.1))[i]?=some p:=by rw[List.getElem?_map,hi];rfl
  constructor
  ·rintro ⟨h1,h2⟩;obtain⟨j,hj⟩:=List.getElem?_of_mem h1;refine⟨j,fun e=>h2 ?_,hj⟩;subst e;rw[hi] at hj;injection hj with hj
   injection hj with hj
   exact hj.symm
  ·rintro ⟨j,hj,he⟩;refine⟨List.mem_of_getElem? he,fun e=>hj ?_⟩;have hjl:j<l.length:=(List.getElem?_eq_some_iff.1 he).1;have g2:(l.map (·.1))[j]?=some a:=(by rw[List.getElem?_map,he];rfl);rw[<-e] at g1;exact((List.getElem?_inj (by simpa using hil) L.nd).1 (g1.trans g2.symm)).symm
 ·exact List.Nodup.sublist ((List.eraseIdx_sublist l i).map _) L.nd
section
variable {w W W':World} {hb sb lw:Nat} {x x':Bx} {t:Bt} {fr:Nat->List Nat} {ls ls':List (Nat×Nat)} {S S':Sb} {s:Int} {l:List (Nat×Nat)}
theorem LL8.lp(L:LL8 x ls S l):LLP (aG x ls S) l:=⟨L.ex,L.nd⟩
theorem LLP.ll(L:LLP (aG x ls S) l):LL8 x ls S l:=⟨L.ex,L.nd⟩
theorem LL8.len(L:LL8 x ls S l)(H:HW w W hb sb lw x t fr ls S s){n:Nat}(hn:x.n=n*RS x.o):l.length<=262144:=by
 have hs:=L.snl H hn;have ho:=H.po.nums.1;have hnp:n*2 ^ x.o<=1024:=by
  have:=hs.nr;rw[O.RS_pages] at this;omega
 refine Nat.le_trans ?_ ((hs.su ho).len hnp);have hok:∀ b∈l,16<=b.2:=fun b hb=>by
  have:=hs.ok hb;unfold O.okB O.szB at this;simp only[Bool.and_eq_true,decide_eq_true_eq] at this;exact this.1.1.1.1.2
 clear L H hs hn hnp;induction l with
 | nil=>exact Nat.zero_le _
 | cons b l ih=>
  have h1:=hok b List.mem_cons_self;have h2:=ih fun c hc=>hok c (List.mem_cons_of_mem _ hc)
  have h3 : 1<=(O.units (b.1-x.bS) b.2).length:=by
   unfold O.units O.uns O.npg;rw[List.length_map,List.length_range];omega
  show l.length+1<=(List.flatMap _ (b :: l)).length
  rw[List.flatMap_cons,List.length_append];show l.length+1<=_+(O.allU x.bS l).length
  omega
theorem LL8.found(L:LL8 x ls S l)(H:HW w W hb sb lw x t fr ls S s)(hm:mayB x.bS (x.lim:Int) (x.o:Int)=true){n:Nat}(hn:x.n=n*RS x.o)(hl:n<=x.lim){r:Nat}(hr:O.szB x.o r=true){b d:Bool}(hb1:b=true->NF x fr S r/\d=false/\x.n+x.R<=x.lim*x.R)(hb2:b=false->¬NF x fr S r):
  O.stkV x.bS (x.lim:Int) (x.o:Int) (n:Int) l r d=false/\O.nofV x.bS (x.lim:Int) (x.o:Int) (n:Int) l r=b/\(if b=true then n+1 else n)<=x.lim/\(if b=true then x.n+x.R else x.n)=(if b=true then n+1 else n)*RS x.o:=by
 have h0 : 0<RS x.o:=by unfold RS;exact Nat.mul_pos (by decide) (Nat.pow_pos (by decide))
 have e1:=L.nof H hm hn hl hr;have e2:=L.stk H hm hn hl hr d
 cases b with
 | true=>
  obtain⟨a1,a2,a3⟩:=hb1 rfl;rw[H.hR,hn] at a3;have a4:n+1<=x.lim:=by
   refine Nat.le_of_mul_le_mul_right ?_ h0;rw[Nat.add_mul,Nat.one_mul];exact a3
  refine⟨?_,e1.2 a1,a4,?_⟩
  ·rw[Bool.eq_false_iff];intro e;rcases (e2.1 e).2 with e3|e3
   ·rw[a2] at e3
    cases e3
   ·rw[H.hR,hn] at e3;omega
  ·rw[if_pos rfl,if_pos rfl,H.hR,hn,Nat.add_mul,Nat.one_mul]
 | false=>
  have a1:=hb2 rfl;refine⟨?_,?_,hl,hn⟩
  ·rw[Bool.eq_false_iff];exact fun e=>a1 (e2.1 e).1
  ·rw[Bool.eq_false_iff];exact fun e=>a1 (e1.1 e)
theorem PY{o':Nat}(o:∃ h,SO w W sb lw x t fr ls S h){g k:Nat}(hc:S.c g=some k):(fZ x S g k (aH k)).length=aH k-(S.fl g).length/\O.totN (fZ x S g k (aH k))=(aH k-(S.fl g).length)*aC k:=by
 obtain⟨h,o⟩:=o;have h1:∀ j,(fZ x S g k j).length=((List.range j).filter fun i=>decide (i ∉ S.fl g)).length/\O.totN (fZ x S g k j)=((List.range j).filter fun i=>decide (i ∉ S.fl g)).length*aC k:=by
  intro j;induction j with
  | zero=>exact⟨rfl,by unfold fZ O.totN;simp⟩
  | succ j ih=>
   rw[List.range_succ,List.filter_append,List.length_append];unfold fZ;by_cases hj:j∈S.fl g
   ·rw[if_pos hj,List.filter_cons_of_neg (by simpa using hj)];simpa using ih
   ·rw[if_neg hj,List.filter_cons_of_pos (by simpa using hj),List.length_append];refine⟨by rw[ih.1];rfl,?_⟩;unfold O.totN at ih ⊢;rw[List.map_append,List.sum_append,ih.2,Nat.add_mul];simp
 have h2:=o.cells_of hc ((List.range (aH k)).filter fun i=>decide (i ∉ S.fl g)) (List.Pairwise.filter _ List.nodup_range) (fun i=>by simp);rw[(h1 _).1,(h1 _).2,h2];exact⟨rfl,rfl⟩
theorem VR(a b:List (Nat×Nat)):O.totN (a ++ b)=O.totN a + O.totN b:=by
 unfold O.totN;rw[List.map_append,List.sum_append]
theorem HW.st_lv(H:HW w W hb sb lw x t fr ls S s):∀ i,i<=t.m.n->cT fV t.m i=O.totN (hZ x t S i)/\cT fW t.m i=(hZ x t S i).length
 | 0,_=>⟨rfl,rfl⟩
 | i+1,hi=>by
  obtain⟨h1,h2⟩:=H.st_lv i (by omega);have key:fV (t.m.pg i)=O.totN (jL x t S i)/\fW (t.m.pg i)=(jL x t S i).length:=by
   have sk:=H.sk (i:=i) (by omega);generalize hq1:fV (t.m.pg i)=dl at *;generalize hq2:fW (t.m.pg i)=db at *;generalize hq3:fM (t.m.pg i)=df at *
   cases H.lk (i:=i) (by omega)with
   | none hq e=>
    rw[e]
    cases sk with
    | free hq' a1 a2 a3=>exact⟨a1,a2⟩
    | head k hk hq' ho a1 a2 a3=>omega
    | rest hq' a1 a2 a3=>exact⟨a1,a2⟩
    | slab k l hk hl hq' hc hv a1 a2 a3=>omega
   | head k hk hq ho e=>
    rw[e]
    cases sk with
    | free hq' a1 a2 a3=>omega
    | head k' hk' hq' ho' a1 a2 a3=>
     obtain rfl:k=k':=(by omega);exact⟨by rw[a1];unfold O.totN;simp,a2⟩
    | rest hq' a1 a2 a3=>omega
    | slab k l hk hl hq' hc hv a1 a2 a3=>omega
   | slab k hq hc hl e=>
    obtain⟨hh,o⟩:=H.so;obtain⟨hk,sp⟩:=o.si.pg i k hc;obtain⟨c1,c2⟩:=PY (o':=0) H.so hc;rw[e,c1,c2];have hlv:=sp.lv
    cases sk with
    | free hq' a1 a2 a3=>omega
    | head k' hk' hq' ho' a1 a2 a3=>omega
    | rest hq' a1 a2 a3=>omega
    | slab k' l' hk' hl' hq' hc' hv a1 a2 a3=>
     obtain rfl:k=k':=(by omega);obtain rfl:l'=aH k-(S.fl i).length:=(by omega);exact⟨a1,a2⟩
  unfold cT hZ;rw[VR,List.length_append];omega
theorem HW.ll_lv(H:HW w W hb sb lw x t fr ls S s):LL8 x ls S (hZ x t S t.m.n):=by
 refine⟨fun a z=>H.live_iff.symm,?_⟩;rw[List.Nodup,List.pairwise_map];exact(H.rise t.m.n (Nat.le_refl _)).imp fun h=>Nat.ne_of_lt h
theorem JV{l:List (Nat×Nat)}(h:(l.map (·.1)).Nodup):l.Nodup:=by
 rw[List.Nodup,List.pairwise_map] at h;exact h.imp fun h e=>h (by rw[e])
theorem LL8.perm{l':List (Nat×Nat)}(L:LL8 x ls S l)(L':LL8 x ls S l'):l.Perm l':=
 (List.perm_ext_iff_of_nodup (JV L.nd) (JV L'.nd)).2 fun b=>by
  obtain⟨a,z⟩:=b;rw[<-L.ex,<-L'.ex]
theorem LL8.stats(L:LL8 x ls S l)(H:HW w W hb sb lw x t fr ls S s):cT fV t.m t.m.n=O.totN l/\cT fW t.m t.m.n=l.length:=by
 obtain⟨h1,h2⟩:=H.st_lv t.m.n (Nat.le_refl _);have hp:=L.perm H.ll_lv;rw[h1,h2];unfold O.totN;exact⟨((hp.map (·.2)).sum_nat).symm,hp.length_eq.symm⟩
theorem LL8.free(L:LL8 x ls S l)(H:HW w W hb sb lw x t fr ls S s):∀ i,i<=t.m.n->cT fM t.m i=mZ l x.bS i
 | 0,_=>rfl
 | i+1,hi=>by
  have ih:=L.free H i (by omega);have ht:=L.taken H (g:=1) (q:=i) (j:=0) rfl;rw[Nat.one_mul,Nat.mul_one,Nat.pow_zero,Nat.mul_one] at ht;obtain⟨hh,o⟩:=H.so;have key:fM (t.m.pg i)=if O.takB (x.bS+4096*i) 4096 l=true then 0 else 1:=by
   cases o.kind (g:=i) (by omega)with
   | slab k hc=>
    obtain⟨hk,sp⟩:=o.si.pg i k hc;have h1:=(o.mem hc).1;rw[if_pos (ht.2 (pU.2 ⟨i,0,h1,by simp,by simp⟩))];unfold fM;rw[sp.kd,if_neg (by decide)]
   | big q k hm hc hgn a1 a2 hp=>
    rw[if_pos (ht.2 (pU.2 ⟨q,k,hm,by omega,by simpa using by omega⟩)),hp];unfold fM;by_cases e:i=q
    ·rw[if_pos e];rfl
    ·rw[if_neg e];rfl
   | free q j hm hj hgn a1 a2 hp=>
    have hno:¬(O.takB (x.bS+4096*i) 4096 l=true):=fun e=>by
     obtain⟨p,k,h1,h2,h3⟩:=pU.1 (ht.1 e);rw[Nat.pow_zero] at h3;obtain⟨B,s',hN,hL⟩:=o.sf;have hb1:=(s'.fi q j).2 ⟨hj,hm⟩;have hb2:=(hL p k).2 h1;rcases s'.ds _ _ _ _ _ _ hb1 hb2 with ⟨e,_⟩|e|e
     ·cases e
     ·omega
     ·omega
    rw[if_neg hno,hp];unfold fM;by_cases e:i=q
    ·rw[if_pos e];rfl
    ·rw[if_neg e];rfl
  unfold cT mZ;rw[ih,key]
end
theorem PX(l:List He8)(p z:Nat):oT l p z=O.takB p z (aR l):=by
 unfold oT O.takB aR;rw[List.any_map];congr 1
 funext h
 show O.meetB h.p h.s p z=O.meetB p z h.p h.s
 unfold O.meetB;rw[Bool.and_comm]
section
variable {w W W':World} {hb sb lw:Nat} {x x':Bx} {t:Bt} {fr:Nat->List Nat} {ls ls':List (Nat×Nat)} {S S':Sb} {s:Int} {l:List He8}
theorem LL8.spare(L:LL8 x ls S (aR l))(H:HW w W hb sb lw x t fr ls S s):∀ n,gS l x.bS (RS x.o) n+oF ls x.o n=n
 | 0=>rfl
 | n+1=>by
  have ih:=L.spare H n;have ht:=L.taken H (g:=2 ^ x.o) (q:=n) (j:=x.o) rfl;have e:x.bS+4096*(2 ^ x.o*n)=x.bS+n*RS x.o:=by
   unfold RS;rw[Nat.mul_comm n,Nat.mul_assoc]
  rw[e,show 4096*2 ^ x.o=RS x.o from rfl] at ht;unfold gS oF;rw[PX];by_cases h:jV ls (n*2 ^ x.o) x.o=true
  ·rw[if_pos (ht.2 h),if_pos h,Nat.zero_add]
  ·rw[if_neg (fun e=>h (ht.1 e)),if_neg h];omega
theorem LL8.trim(L:LL8 x ls S (aR l))(H:HW w W hb sb lw x t fr ls S s){n:Nat}(hn:x.n=n*RS x.o):(eS x.o n fr).1=gS l x.bS (RS x.o) n:=by
 obtain⟨h,o⟩:=H.so;have h1:=xA ls x.o n fr (o.sf.tops (H.pgs hn));have h2:=L.spare H n;omega
end
theorem tJ{w w1:World}(bS:Nat)(L o:Int){n':Nat}{u:Value}{Q:Nat->Value->World->Prop}(k:Kt nO w w1)(hQ:iY w Q)(q:Q n' u w1)(hb:w1.heap[w.heap.size+1+1+1]?=some cC):Kt nO w (set5 w1 (w.heap.size+1+1+1) (.int .u64 bS) (.int .i64 L) (.int .i64 o) (.int .i64 n') u)/\Q n' u (set5 w1 (w.heap.size+1+1+1) (.int .u64 bS) (.int .i64 L) (.int .i64 o) (.int .i64 n') u):=
 ⟨k.trans (fA _ _ _ _ _) (U:=nO) (fun _ _ e=>e) (fun y hy e=>by omega),hQ _ _ _ _ _ _ _ _ _ q (by omega) hb⟩
theorem uB{w:World}{bS:Nat}{L o n:Int}{v:Value}{c:Cl8}{s:Sn8}{F:FuncId}{A:Array Value}(hc:(c.op=1/\F=99/\A=#[aK bS L o n v,bJ c,aU s,.int .u64 c.a,.int .u64 1])\/(c.op=3/\F=99/\A=#[aK bS L o n v,bJ c,aU s,.int .u64 c.b,.int .u64 c.a])\/(c.op=4/\c.p=0/\F=99/\A=#[aK bS L o n v,bJ c,aU s,.int .u64 c.a,.int .u64 1])\/((c.op=7\/c.op=8\/c.op=9\/c.op=10\/c.op=11\/c.op=12\/c.op=13\/c.op=14)/\F=105/\A=#[aK bS L o n v,bJ c,aU s])){Q:Nat->Value->World->Prop}(hQ:iY w Q)
  (h:∀ W,Kt nO w W->Calls prog F A W (eI bS L o W Q)):
  Calls prog 62 #[aK bS L o n v,bJ c,aU s] w (eI bS L o w Q):=by
 have X:=aA (eX w bS L o n v c s);have HQ:=aA hQ;obtain⟨op,cp,ca,cb,cd,cv⟩:=c;dsimp only at *;rcases hc with ⟨rfl,rfl,rfl⟩|⟨rfl,rfl,rfl⟩|⟨rfl,rfl,rfl,rfl⟩|⟨rfl|rfl|rfl|rfl|rfl|rfl|rfl|rfl,rfl,rfl⟩
 all_goals
  have HM:=aA h;obtain⟨b0,b1,b2,b3,b4,bf⟩:=aD X.out.2.b;obtain⟨c0,c1,c2,c3,c4,c5⟩:=bO X.out.2.c;obtain⟨s0,s1,s2,s3,s4,s5,s6,s7,s8⟩:=aZ X.out.2.s;clear h hQ;go_enter func62,ntmps62;go_wp2_with fail;refine(HM.out _ X.out.1).mono ?_;rintro e1 w1 ⟨n',ua,um,uc,rfl,hk1,hq⟩;have X1:=aA (X.out.2.keep hk1);have K1:=aA (nT X.out.1 hk1);have Q1:=aA hq;clear hk1 hq HM X b0 b1 b2 b3 b4 bf c0 c1 c2 c3 c4 c5 s0 s1 s2 s3 s4 s5 s6 s7 s8;obtain⟨z0,z1,z2,z3,z4,zf⟩:=dE X1.out.rb;obtain⟨r0,r1,r2,r3,r4,rf⟩:=aD (dM (bS:=bS) (lim:=L) (o:=o) (n:=((n':Nat):Int)) (v:=.slice ua um uc) X1.out.rb);have D:=aA (tJ bS L o K1.out HQ.out Q1.out X1.out.rb);go_wp2_with fail;exact⟨rfl,.tuple #[aK bS L o ((n':Nat):Int) (.slice ua um uc),.bool true],by simp[results,results62,go_sem,r0,r1,r2,r3,r4],n',ua,um,uc,rfl,D.out⟩
theorem kV{w:World}{bS:Nat}{L o n:Int}{v:Value}{c:Cl8}{s:Sn8}(hop : 7<=c.op/\c.op<=14){Q:Nat->Value->World->Prop}(hQ:iY w Q)(h:∀ W,Kt nO w W->Calls prog 105 #[aK bS L o n v,bJ c,aU s] W (eI bS L o W Q)):
  Calls prog 62 #[aK bS L o n v,bJ c,aU s] w (eI bS L o w Q):=by
 exact uB (.inr (.inr (.inr ⟨by omega,rfl,rfl⟩))) hQ h
theorem pQ{w:World}{bS:Nat}{L o n:Int}{v:Value}{c:Cl8}{s:Sn8}{F:FuncId}{A:Array Value}(l:List He8)(hB:BK8 w v l)(hp:c.p<18446744073709551616)(h0:c.p≠0)(hc:((c.op=4\/c.op=5)/\bI (gD c.p) l 0 = -1/\F=100/\A=#[aK bS L o n v,aU s,.int .i64 1])\/(c.op=4/\∃ i:Nat,bI (gD c.p) l 0=(i:Int)/\F=102/\A=#[aK bS L o n v,bJ c,aU s,.int .i64 i])){Q:Nat->Value->World->Prop}(hQ:iY w Q)
  (h:∀ W,Kt nO w W->Calls prog F A W (eI bS L o W Q)):
  Calls prog 62 #[aK bS L o n v,bJ c,aU s] w (eI bS L o w Q):=by
 have X:=aA (eX w bS L o n v c s);have HQ:=aA hQ;have ST:=aA (fun W (k:Kt nO w W)=>sY bS L o n v l c.p hp W (hB.keep k));obtain⟨op,cp,ca,cb,cd,cv⟩:=c;dsimp only at *;have hz:cp≠0->¬(cp:Int)=0/\((cp:Int) == 0)=false/\((cp:Int) != 0)=true:=fun e=>⟨by omega,by rw[beq_eq_false_iff_ne];omega,by rw[bne_iff_ne];omega⟩
 have hi:∀ i:Nat,¬(i:Int)<0/\decide ((i:Int)<0)=false:=fun i=>⟨by omega,decide_eq_false (by omega)⟩
 obtain⟨z1,z2,z3⟩:=hz h0;rcases hc with ⟨rfl|rfl,hI,rfl,rfl⟩|⟨rfl,i,hI,rfl,rfl⟩
 case' inr=>obtain⟨i1,i2⟩:=hi i
 all_goals
  rw[hI] at ST;have HM:=aA h;obtain⟨b0,b1,b2,b3,b4,bf⟩:=aD X.out.2.b;obtain⟨c0,c1,c2,c3,c4,c5⟩:=bO X.out.2.c;obtain⟨s0,s1,s2,s3,s4,s5,s6,s7,s8⟩:=aZ X.out.2.s;clear h hQ hB hI hz hi;go_enter func62,ntmps62;go_wp2_with fail;refine(ST.out _ X.out.1).mono ?_;rintro e9 w9 ⟨rfl,h9⟩;have X:=aA (And.intro (nT X.out.1 h9) (X.out.2.keep h9));clear h9 b0 b1 b2 b3 b4 bf c0 c1 c2 c3 c4 c5 s0 s1 s2 s3 s4 s5 s6 s7 s8;obtain⟨b0,b1,b2,b3,b4,bf⟩:=aD X.out.2.b;obtain⟨c0,c1,c2,c3,c4,c5⟩:=bO X.out.2.c;obtain⟨s0,s1,s2,s3,s4,s5,s6,s7,s8⟩:=aZ X.out.2.s;go_wp2_with fail;refine(HM.out _ X.out.1).mono ?_;rintro e1 w1 ⟨n',ua,um,uc,rfl,hk1,hq⟩;have X1:=aA (X.out.2.keep hk1);have K1:=aA (nT X.out.1 hk1);have Q1:=aA hq;clear hk1 hq HM X b0 b1 b2 b3 b4 bf c0 c1 c2 c3 c4 c5 s0 s1 s2 s3 s4 s5 s6 s7 s8;obtain⟨z0,z1,z2,z3,z4,zf⟩:=dE X1.out.rb;obtain⟨r0,r1,r2,r3,r4,rf⟩:=aD (dM (bS:=bS) (lim:=L) (o:=o) (n:=((n':Nat):Int)) (v:=.slice ua um uc) X1.out.rb);have D:=aA (tJ bS L o K1.out HQ.out Q1.out X1.out.rb);go_wp2_with fail;exact⟨rfl,.tuple #[aK bS L o ((n':Nat):Int) (.slice ua um uc),.bool true],by simp[results,results62,go_sem,r0,r1,r2,r3,r4],n',ua,um,uc,rfl,D.out⟩
theorem CK{w:World}{bS:Nat}{L o n:Int}{v:Value}{c:Cl8}{s:Sn8}{F:FuncId}{A:Array Value}(hop:c.op=2)(ha:c.a<18446744073709551616)(hb:c.b<18446744073709551616)(pv:Nat)(hpv:O.prV c.a c.b=pv)(hc:(O.prE c.a c.b=0/\F=99/\A=#[aK bS L o n v,bJ c,aU s,.int .u64 pv,.int .u64 1])\/(O.prE c.a c.b=3/\F=100/\A=#[aK bS L o n v,aU s,.int .i64 3])){Q:Nat->Value->World->Prop}(hQ:iY w Q)
  (h:∀ W,Kt nO w W->Calls prog F A W (eI bS L o W Q)):
  Calls prog 62 #[aK bS L o n v,bJ c,aU s] w (eI bS L o w Q):=by
 have X:=aA (eX w bS L o n v c s);have HQ:=aA hQ;have PR:=aA (fun W=>O.refProduct c.a c.b (by omega) (by omega) W);obtain⟨op,cp,ca,cb,cd,cv⟩:=c;dsimp only at *;subst hop;rcases hc with ⟨hp,rfl,rfl⟩|⟨hp,rfl,rfl⟩
 all_goals
  rw[hp,hpv] at PR;have HM:=aA h;obtain⟨b0,b1,b2,b3,b4,bf⟩:=aD X.out.2.b;obtain⟨c0,c1,c2,c3,c4,c5⟩:=bO X.out.2.c;obtain⟨s0,s1,s2,s3,s4,s5,s6,s7,s8⟩:=aZ X.out.2.s;clear h hQ hp hpv;go_enter func62,ntmps62;go_wp2_with fail;refine(PR.out _).mono ?_;rintro e9 w9 ⟨rfl,h9⟩;replace h9:=h9.symm;subst h9;go_wp2_with fail;refine(HM.out _ X.out.1).mono ?_;rintro e1 w1 ⟨n',ua,um,uc,rfl,hk1,hq⟩;have X1:=aA (X.out.2.keep hk1);have K1:=aA (nT X.out.1 hk1);have Q1:=aA hq;clear hk1 hq HM X b0 b1 b2 b3 b4 bf c0 c1 c2 c3 c4 c5 s0 s1 s2 s3 s4 s5 s6 s7 s8;obtain⟨z0,z1,z2,z3,z4,zf⟩:=dE X1.out.rb;obtain⟨r0,r1,r2,r3,r4,rf⟩:=aD (dM (bS:=bS) (lim:=L) (o:=o) (n:=((n':Nat):Int)) (v:=.slice ua um uc) X1.out.rb);have D:=aA (tJ bS L o K1.out HQ.out Q1.out X1.out.rb);go_wp2_with fail;exact⟨rfl,.tuple #[aK bS L o ((n':Nat):Int) (.slice ua um uc),.bool true],by simp[results,results62,go_sem,r0,r1,r2,r3,r4],n',ua,um,uc,rfl,D.out⟩
theorem xG{w:World}{bS:Nat}{L o n:Int}{v:Value}{c:Cl8}{s:Sn8}(k:Nat)(l:List He8)(hB:BK8 w v l)(hp:c.p<18446744073709551616)(hI:bI (fG c.p k) l 0 = -1)(hc:(c.op=7/\k=1)\/(c.op=9/\k=8)\/(c.op=11/\k=c.a/\0<c.a/\c.a<18446744073709551616)){Q:Nat->Value->World->Prop}(hQ:iY w Q)
  (h:∀ W,Kt nO w W->Calls prog 100 #[aK bS L o n v,aU s,.int .i64 4] W (eI bS L o W Q)):
  Calls prog 105 #[aK bS L o n v,bJ c,aU s] w (eI bS L o w Q):=by
 have X:=aA (eX w bS L o n v c s);have HQ:=aA hQ;have TO:=aA (fun W (kk:Kt nO w W)=>XM bS L o n v l c hp k (by omega) W (hB.keep kk) hI);obtain⟨op,cp,ca,cb,cd,cv⟩:=c;dsimp only at *;have hz : 0<ca->¬(ca:Int)=0/\((ca:Int) == 0)=false:=fun e=>⟨by omega,by rw[beq_eq_false_iff_ne];omega⟩
 rcases hc with ⟨rfl,rfl⟩|⟨rfl,rfl⟩|⟨rfl,rfl,h0,h1⟩
 case' inr.inr=>obtain⟨z1,z2⟩:=hz h0
 all_goals
  try rw[show((1:Nat):Int)=1 from rfl] at TO
  try rw[show((8:Nat):Int)=8 from rfl] at TO
  have HM:=aA h;obtain⟨b0,b1,b2,b3,b4,bf⟩:=aD X.out.2.b;obtain⟨c0,c1,c2,c3,c4,c5⟩:=bO X.out.2.c;obtain⟨s0,s1,s2,s3,s4,s5,s6,s7,s8⟩:=aZ X.out.2.s;clear h hQ hB hI hz;go_enter func105,ntmps105;go_wp2_with fail;refine(TO.out _ X.out.1).mono ?_;rintro e9 w9 ⟨rfl,h9⟩;have X:=aA (And.intro (nT X.out.1 h9) (X.out.2.keep h9));clear h9 b0 b1 b2 b3 b4 bf c0 c1 c2 c3 c4 c5 s0 s1 s2 s3 s4 s5 s6 s7 s8;obtain⟨b0,b1,b2,b3,b4,bf⟩:=aD X.out.2.b;obtain⟨c0,c1,c2,c3,c4,c5⟩:=bO X.out.2.c;obtain⟨s0,s1,s2,s3,s4,s5,s6,s7,s8⟩:=aZ X.out.2.s;go_wp2_with fail;refine(HM.out _ X.out.1).mono ?_;rintro e1 w1 ⟨n',ua,um,uc,rfl,hk1,hq⟩;have X1:=aA (X.out.2.keep hk1);have K1:=aA (nT X.out.1 hk1);have Q1:=aA hq;clear hk1 hq HM X b0 b1 b2 b3 b4 bf c0 c1 c2 c3 c4 c5 s0 s1 s2 s3 s4 s5 s6 s7 s8;obtain⟨z0,z1,z2,z3,z4,zf⟩:=dE X1.out.rb;obtain⟨r0,r1,r2,r3,r4,rf⟩:=aD (dM (bS:=bS) (lim:=L) (o:=o) (n:=((n':Nat):Int)) (v:=.slice ua um uc) X1.out.rb);have D:=aA (tJ bS L o K1.out HQ.out Q1.out X1.out.rb);go_wp2_with fail;exact⟨rfl,.tuple #[aK bS L o ((n':Nat):Int) (.slice ua um uc),.bool true],by simp[results,results105,go_sem,r0,r1,r2,r3,r4],n',ua,um,uc,rfl,D.out⟩
theorem EM{w:World}{bS:Nat}{L:Int}{o n:Nat}(ho:o<=8)(hn:n<=64){va:Option Addr}{vm vc:Nat}{c:Cl8}{s:Sn8}(k:Nat)(hop:(c.op=7/\k=1)\/(c.op=9/\k=8))(l:List He8)(hB:BK8 w (.slice va vm vc) l)(hp:c.p<18446744073709551616)(i:Nat)(h:He8)(hi:l[i]?=some h)(hI:bI (fG c.p k) l 0=(i:Int))(hl1:h.p<=c.p)(hl2:c.p-h.p+k<=h.s)(hv:s.v=M.wordTo (fun j=>h.f (c.p-h.p+j)) k)(h0:s.e=0)(h3:s.af=n*RS o):
  Calls prog 105 #[aK bS L (o:Int) (n:Int) (.slice va vm vc),bJ c,aU s] w fun e w'=>e=.returned (.tuple #[aK bS L (o:Int) (n:Int) (.slice va vm vc),.bool true])/\Kt nO w w':=by
 have QU:=aA (fun W=>mQ bS L o n ho hn (.slice va vm vc) s h0 h3 W);have TO:=aA (fun W (kk:Kt nO w W)=>IC bS L (o:Int) (n:Int) (.slice va vm vc) l c hp k (by omega) W (hB.keep kk) i h hi hI hl1 hl2);have X:=aA (eX w bS L (o:Int) (n:Int) (.slice va vm vc) c s);have HSV:=aA hv;obtain⟨op,cp,ca,cb,cd,cv⟩:=c;dsimp only at *;rcases hop with ⟨rfl,rfl⟩|⟨rfl,rfl⟩
 all_goals
  try rw[show((1:Nat):Int)=1 from rfl] at TO
  try rw[show((8:Nat):Int)=8 from rfl] at TO
  clear hB hI h0 h3 hi hl1 hl2 hv;obtain⟨b0,b1,b2,b3,b4,bf⟩:=aD X.out.2.b;obtain⟨c0,c1,c2,c3,c4,c5⟩:=bO X.out.2.c;go_enter func105,ntmps105;go_wp2_with fail;refine(TO.out _ X.out.1).mono ?_;rintro e9 w9 ⟨ta,tc,rfl,hby,h9⟩;have X9:=aA (X.out.2.keep h9);have K9:=aA (nT X.out.1 h9);have B9:=aA hby;clear h9 hby b0 b1 b2 b3 b4 bf c0 c1 c2 c3 c4 c5 X TO;go_upto_region 9 with fail;have kd:∀ W:World,Kt nO W W.drew:=fun W=>(Kt.refl nO W).drew
  have XD:=aA (X9.out.keep (kd _));have KD:=aA (nT K9.out (kd _));have BD:=aA (B9.out.keep (cH (kd _)));clear kd X9 K9 B9;obtain⟨db0,db1,db2,db3,db4,dbf⟩:=aD XD.out.b;obtain⟨ds0,ds1,ds2,ds3,ds4,ds5,ds6,ds7,ds8⟩:=aZ XD.out.s;clear dbf;have n1:w.heap.size≠w.heap.size+1+1+1:=by omega
  have n2:w.heap.size+1+1≠w.heap.size+1+1+1:=by omega
  go_region_held3 (fun w'=>w'.cell? ⟨w.heap.size,0,none⟩=some (.int .u64 bS)/\w'.cell? ⟨w.heap.size,1,none⟩=some (.int .i64 L)/\w'.cell? ⟨w.heap.size,2,none⟩=some (.int .i64 o)/\w'.cell? ⟨w.heap.size,3,none⟩=some (.int .i64 n)/\w'.cell? ⟨w.heap.size,4,none⟩=some (.slice va vm vc)/\w'.cell? ⟨w.heap.size+1+1,0,none⟩=some (.int .i64 s.e)/\w'.cell? ⟨w.heap.size+1+1,1,none⟩=some (.int .u64 s.v)/\w'.cell? ⟨w.heap.size+1+1,2,none⟩=some (.slice s.da s.dn s.dc)/\w'.cell? ⟨w.heap.size+1+1,3,none⟩=some (.int .u64 s.H)/\w'.cell? ⟨w.heap.size+1+1,4,none⟩=some (.int .u64 s.L)/\w'.cell? ⟨w.heap.size+1+1,5,none⟩=some (.int .i64 s.B)/\w'.cell? ⟨w.heap.size+1+1,6,none⟩=some (.int .i64 s.F)/\w'.cell? ⟨w.heap.size+1+1,7,none⟩=some (.int .u64 s.af)/\w'.cell? ⟨w.heap.size+1+1,8,none⟩=some (.slice s.fa s.fn s.fc)) (((try dsimp only);(repeat' apply And.intro) <;> first|with_reducible assumption|with_reducible exact gC (by with_reducible assumption) (by with_reducible assumption))) (first
   | (go_at_call 104;(with_reducible refine(QU.out _).mono ?_);rintro e5 w5 ⟨rfl,hk5⟩;have X5:=aA (XD.out.keep hk5);have K5:=aA (nT KD.out hk5);have B5:=aA (BD.out.keep (cH hk5));have W5:=aA (LH _ _ (by decide) _ w5 B5.out);rw[<-HSV.out] at W5;have X6:=aA X5.out;have K6:=aA K5.out;obtain⟨kb0,kb1,kb2,kb3,kb4,kbf⟩:=aD X5.out.b;obtain⟨ks0,ks1,ks2,ks3,ks4,ks5,ks6,ks7,ks8⟩:=aZ X5.out.s;clear kbf;obtain⟨z0,z1,z2,z3,z4,zf⟩:=dE X5.out.rb;clear hk5)
   | (go_at_call 154;(with_reducible refine W5.out.mono ?_);rintro e6 w6 ⟨rfl,h6⟩;replace h6:=h6.symm;subst h6)
   | fail)
  all_goals
   obtain⟨r0,r1,r2,r3,r4,rf⟩:=aD (dM (bS:=bS) (lim:=L) (o:=(o:Int)) (n:=(n:Int)) (v:=.slice va vm vc) X6.out.rb);have D:=aA (K6.out.trans (fA (W:=w5) (y:=w.heap.size+1+1+1) (.int .u64 bS) (.int .i64 L) (.int .i64 o) (.int .i64 n) (.slice va vm vc)) (U:=nO) (fun _ _ e=>e) (fun y hy e=>by omega));clear z0 z1 z2 z3 z4 zf;go_wp2_with fail;exact⟨rfl,.tuple #[aK bS L (o:Int) (n:Int) (.slice va vm vc),.bool true],by simp[results,results105,go_sem,r0,r1,r2,r3,r4],rfl,D.out⟩
theorem kF(w:World)(bS:Nat)(lim o:Int)(c:Cl8):Kt nO w ((w.alloc (.cells #[.int .u64 bS,.int .i64 lim,.int .i64 o] 43)).alloc (bP c))/\mK ((w.alloc (.cells #[.int .u64 bS,.int .i64 lim,.int .i64 o] 43)).alloc (bP c)) w.heap.size bS lim o/\((w.alloc (.cells #[.int .u64 bS,.int .i64 lim,.int .i64 o] 43)).alloc (bP c)).heap[w.heap.size+1]?=some (bP c):=by
 have k1:=(Kt.refl nO w).alloc (.cells #[.int .u64 bS,.int .i64 lim,.int .i64 o] 43);have k2:=(Kt.refl nO (w.alloc (.cells #[.int .u64 bS,.int .i64 lim,.int .i64 o] 43))).alloc (bP c);have h1:=nH w (.cells #[.int .u64 bS,.int .i64 lim,.int .i64 o] 43);have h2:=nH (w.alloc (.cells #[.int .u64 bS,.int .i64 lim,.int .i64 o] 43)) (bP c);refine⟨nT k1 k2,(k2.block _ (lH h1) id).trans h1,?_⟩;rw[World.size_alloc] at h2;exact h2
theorem OY(bS:Nat)(hb:bS<18446744073709551616)(lim o:Int)(hl1 : -9223372036854775808<=lim)(hl2:lim<=9223372036854775807)(ho1 : -9223372036854775808<=o)(ho2:o<=9223372036854775807)(c:Cl8)(hop:c.op=1)(ha:c.a<2 ^ 64)(hb2:c.b<2 ^ 64)(w:World):
  Calls prog 61 #[cA bS lim o,bJ c] w fun e w'=>e=.returned (.int .u64 ((O.rdV bS lim o c.a 1:Nat):Int))/\Kt nO w w':=by
 obtain⟨op,cp,ca,cb,cd,cv⟩:=c;dsimp only at *;subst hop;have X:=aA (kF w bS lim o ⟨1,cp,ca,cb,cd,cv⟩);have RR:=aA (fun W=>O.refRound bS hb lim o hl1 hl2 ho1 ho2 ca 1 (by omega) (by omega) W);obtain⟨x0,x1,x2⟩:=X.out.2.1.cells;obtain⟨c0,c1,c2,c3,c4,c5⟩:=bO X.out.2.2;go_enter func61,ntmps61;go_wp2_with fail;refine(RR.out _).mono ?_;rintro e1 w1 ⟨rfl,hk1⟩;have D:=aA (nT X.out.1 hk1);go_wp2_with fail;go_ret;exact⟨rfl,D.out⟩
theorem OX(bS:Nat)(hb:bS<18446744073709551616)(lim o:Int)(hl1 : -9223372036854775808<=lim)(hl2:lim<=9223372036854775807)(ho1 : -9223372036854775808<=o)(ho2:o<=9223372036854775807)(c:Cl8)(hop:c.op=4)(ha:c.a<2 ^ 64)(hb2:c.b<2 ^ 64)(w:World):
  Calls prog 61 #[cA bS lim o,bJ c] w fun e w'=>e=.returned (.int .u64 ((O.rdV bS lim o c.a 1:Nat):Int))/\Kt nO w w':=by
 obtain⟨op,cp,ca,cb,cd,cv⟩:=c;dsimp only at *;subst hop;have X:=aA (kF w bS lim o ⟨4,cp,ca,cb,cd,cv⟩);have RR:=aA (fun W=>O.refRound bS hb lim o hl1 hl2 ho1 ho2 ca 1 (by omega) (by omega) W);obtain⟨x0,x1,x2⟩:=X.out.2.1.cells;obtain⟨c0,c1,c2,c3,c4,c5⟩:=bO X.out.2.2;go_enter func61,ntmps61;go_wp2_with fail;refine(RR.out _).mono ?_;rintro e1 w1 ⟨rfl,hk1⟩;have D:=aA (nT X.out.1 hk1);go_wp2_with fail;go_ret;exact⟨rfl,D.out⟩
theorem RT(bS:Nat)(hb:bS<18446744073709551616)(lim o:Int)(hl1 : -9223372036854775808<=lim)(hl2:lim<=9223372036854775807)(ho1 : -9223372036854775808<=o)(ho2:o<=9223372036854775807)(c:Cl8)(hop:c.op=3)(ha:c.a<2 ^ 64)(hb2:c.b<2 ^ 64)(w:World):
  Calls prog 61 #[cA bS lim o,bJ c] w fun e w'=>e=.returned (.int .u64 ((O.rdV bS lim o c.b c.a:Nat):Int))/\Kt nO w w':=by
 obtain⟨op,cp,ca,cb,cd,cv⟩:=c;dsimp only at *;subst hop;have X:=aA (kF w bS lim o ⟨3,cp,ca,cb,cd,cv⟩);have RR:=aA (fun W=>O.refRound bS hb lim o hl1 hl2 ho1 ho2 cb ca (by omega) (by omega) W);obtain⟨x0,x1,x2⟩:=X.out.2.1.cells;obtain⟨c0,c1,c2,c3,c4,c5⟩:=bO X.out.2.2;go_enter func61,ntmps61;go_wp2_with fail;refine(RR.out _).mono ?_;rintro e1 w1 ⟨rfl,hk1⟩;have D:=aA (nT X.out.1 hk1);go_wp2_with fail;go_ret;exact⟨rfl,D.out⟩
theorem VK(bS:Nat)(hb:bS<18446744073709551616)(lim o:Int)(hl1 : -9223372036854775808<=lim)(hl2:lim<=9223372036854775807)(ho1 : -9223372036854775808<=o)(ho2:o<=9223372036854775807)(c:Cl8)(hop:c.op=2)(ha:c.a<2 ^ 64)(hb2:c.b<2 ^ 64)(he:O.prE c.a c.b=0)(hpv:O.prV c.a c.b<2 ^ 64)(w:World):
  Calls prog 61 #[cA bS lim o,bJ c] w fun e w'=>e=.returned (.int .u64 ((O.rdV bS lim o (O.prV c.a c.b) 1:Nat):Int))/\Kt nO w w':=by
 obtain⟨op,cp,ca,cb,cd,cv⟩:=c;dsimp only at *;subst hop;have X:=aA (kF w bS lim o ⟨2,cp,ca,cb,cd,cv⟩);have RR:=aA (fun W=>O.refRound bS hb lim o hl1 hl2 ho1 ho2 (O.prV ca cb) 1 (by omega) (by omega) W);have PP:=aA (fun W=>O.refProduct ca cb (by omega) (by omega) W);have HE:=aA he;rw[he] at PP;obtain⟨x0,x1,x2⟩:=X.out.2.1.cells;obtain⟨c0,c1,c2,c3,c4,c5⟩:=bO X.out.2.2;go_enter func61,ntmps61;go_wp2_with fail;refine(PP.out _).mono ?_;rintro e0 w0 ⟨rfl,hw⟩;subst hw;go_wp2_with fail;refine(RR.out _).mono ?_;rintro e1 w1 ⟨rfl,hk1⟩;have D:=aA (nT X.out.1 hk1);go_wp2_with fail;go_ret;exact⟨rfl,D.out⟩
theorem VJ(bS:Nat)(hb:bS<18446744073709551616)(lim o:Int)(hl1 : -9223372036854775808<=lim)(hl2:lim<=9223372036854775807)(ho1 : -9223372036854775808<=o)(ho2:o<=9223372036854775807)(c:Cl8)(hop:c.op=2)(ha:c.a<2 ^ 64)(hb2:c.b<2 ^ 64)(he:O.prE c.a c.b≠0)(w:World):
  Calls prog 61 #[cA bS lim o,bJ c] w fun e w'=>e=.returned (.int .u64 ((0:Nat):Int))/\Kt nO w w':=by
 obtain⟨op,cp,ca,cb,cd,cv⟩:=c;dsimp only at *;subst hop;have X:=aA (kF w bS lim o ⟨2,cp,ca,cb,cd,cv⟩);have PP:=aA (fun W=>O.refProduct ca cb (by omega) (by omega) W);have HE:=aA he;have he2:(O.prE ca cb == 0)=false:=by rw[beq_eq_false_iff_ne];exact he
 obtain⟨x0,x1,x2⟩:=X.out.2.1.cells;obtain⟨c0,c1,c2,c3,c4,c5⟩:=bO X.out.2.2;go_enter func61,ntmps61;go_wp2_with fail;refine(PP.out _).mono ?_;rintro e0 w0 ⟨rfl,hw⟩;subst hw;have D:=aA X.out.1;go_wp2_with fail;go_ret;exact⟨rfl,D.out⟩
theorem RO(bS:Nat)(hb:bS<18446744073709551616)(lim o:Int)(hl1 : -9223372036854775808<=lim)(hl2:lim<=9223372036854775807)(ho1 : -9223372036854775808<=o)(ho2:o<=9223372036854775807)(c:Cl8)(hop:c.op≠1/\c.op≠2/\c.op≠3/\c.op≠4)(ha:c.a<2 ^ 64)(hb2:c.b<2 ^ 64)(w:World):
  Calls prog 61 #[cA bS lim o,bJ c] w fun e w'=>e=.returned (.int .u64 ((0:Nat):Int))/\Kt nO w w':=by
 obtain⟨op,cp,ca,cb,cd,cv⟩:=c;dsimp only at *;obtain⟨o1,o2,o3,o4⟩:=hop;have X:=aA (kF w bS lim o ⟨op,cp,ca,cb,cd,cv⟩);obtain⟨x0,x1,x2⟩:=X.out.2.1.cells;obtain⟨c0,c1,c2,c3,c4,c5⟩:=bO X.out.2.2;go_enter func61,ntmps61;have D:=aA X.out.1;go_wp2_with fail;go_ret;exact⟨rfl,D.out⟩
theorem pZ{W:World}{hb:Nat}{c:Cl8}{F:FuncId}{V:Array Value}(hc:(c.op=1/\F=10/\V=#[.pointer (some ⟨hb,0,none⟩),.int .u64 c.a,.bool c.d])\/(c.op=2/\F=20/\V=#[.pointer (some ⟨hb,0,none⟩),.int .u64 c.a,.int .u64 c.b,.bool c.d])\/(c.op=3/\F=12/\V=#[.pointer (some ⟨hb,0,none⟩),.int .u64 c.a,.int .u64 c.b,.bool c.d])\/(c.op=4/\F=15/\V=#[.pointer (some ⟨hb,0,none⟩),.int .u64 c.p,.int .u64 c.a,.bool c.d])\/(c.op=6/\F=65/\V=#[.pointer (some ⟨hb,0,none⟩),.int .u64 c.p])\/(c.op=9/\F=18/\V=#[.pointer (some ⟨hb,0,none⟩),.int .u64 c.p])){R:Nat->Int->World->Prop}
  (h:Calls prog F V (gE W c) fun e w'=>∃ p er,e=.returned (.tuple #[.int .u64 ((p:Nat):Int),.int .i64 er])/\p<18446744073709551616/\w'.heap[W.heap.size+1]?=some gK/\R p er w'):
  Calls prog 30 #[.pointer (some ⟨hb,0,none⟩),bJ c] W fun e w'=>∃ p er w1,e=.returned (mX er p)/\R p er w1/\Kt (fun y=>y=W.heap.size+1) w1 w':=by
 rcases hc with ⟨hc,rfl,rfl⟩|⟨hc,rfl,rfl⟩|⟨hc,rfl,rfl⟩|⟨hc,rfl,rfl⟩|⟨hc,rfl,rfl⟩|⟨hc,rfl,rfl⟩
 all_goals
  have X0:=aA (nH W (bP c));obtain⟨c0,c1,c2,c3,c4,c5⟩:=bO ((((Kt.refl nO (W.alloc (bP c))).alloc gK).block _ (lH X0.out) id).trans X0.out);rw[hc] at c0;have HM:=aA h;clear h hc X0;go_enter func30,ntmps30;go_wp2_with fail;refine HM.out.mono ?_;rintro e w2 ⟨p,er,rfl,hp,hx,hR⟩;have X2:=aA hx;have HR:=aA hR;have NU:=aA (EB p hp er w2);clear hx hR c0 c1 c2 c3 c4 c5 HM;go_wp2_with fail;refine NU.out.mono ?_;rintro e w3 ⟨rfl,hk3⟩;have X3:=aA ((hk3.block _ (lH X2.out) id).trans X2.out);have K3:=aA hk3;clear hk3;obtain⟨z0,z1,z2,z3,z4,z5,z6,z7,z8,zf⟩:=mG (e:=0) (v:=0) X3.out;obtain⟨s0,s1,s2,s3,s4,s5,s6,s7,s8,sf⟩:=mG (vZ er (p:Int) X3.out);have D:=aA (show Kt (fun y=>y=W.heap.size+1) w2 _ from(K3.out.mono (fun _ _ e=>e.elim)).trans (oM (W:=w3) (y:=W.heap.size+1) (.int .i64 er) (.int .u64 p) (.slice none 0 0) (.int .u64 0) (.int .u64 0) (.int .i64 0) (.int .i64 0) (.int .u64 0) (.slice none 0 0)) (fun _ _ e=>e) (fun _ _ e=>e));go_wp2_with fail;exact⟨rfl,mX er p,by simp[results,results30,go_sem,s0,s1,s2,s3,s4,s5,s6,s7,s8],p,er,w2,rfl,HR.out,D.out⟩
theorem wW{W:World}{hb:Nat}{c:Cl8}{F:FuncId}{V:Array Value}(hc:(c.op=5/\F=14/\V=#[.pointer (some ⟨hb,0,none⟩),.int .u64 c.p])\/(c.op=10/\F=16/\V=#[.pointer (some ⟨hb,0,none⟩),.int .u64 c.p,.int .u64 c.a])\/(c.op=12/\F=67/\V=#[.pointer (some ⟨hb,0,none⟩),.int .u64 c.p,c.v])){R:Int->World->Prop}
  (h:Calls prog F V (gE W c) fun e w'=>∃ er,e=.returned (.int .i64 er)/\w'.heap[W.heap.size+1]?=some gK/\R er w'):
  Calls prog 30 #[.pointer (some ⟨hb,0,none⟩),bJ c] W fun e w'=>∃ er w1,e=.returned (mX er 0)/\R er w1/\Kt (fun y=>y=W.heap.size+1) w1 w':=by
 rcases hc with ⟨hc,rfl,rfl⟩|⟨hc,rfl,rfl⟩|⟨hc,rfl,rfl⟩
 all_goals
  have X0:=aA (nH W (bP c));obtain⟨c0,c1,c2,c3,c4,c5⟩:=bO ((((Kt.refl nO (W.alloc (bP c))).alloc gK).block _ (lH X0.out) id).trans X0.out);rw[hc] at c0;have HM:=aA h;clear h hc X0;go_enter func30,ntmps30;go_wp2_with fail;refine HM.out.mono ?_;rintro e w2 ⟨er,rfl,hx,hR⟩;have X2:=aA hx;have HR:=aA hR;clear hx hR c0 c1 c2 c3 c4 c5 HM;obtain⟨z0,z1,z2,z3,z4,z5,z6,z7,z8,zf⟩:=mG (e:=0) (v:=0) X2.out;obtain⟨s0,s1,s2,s3,s4,s5,s6,s7,s8,sf⟩:=mG (vZ er 0 X2.out);have D:=aA (show Kt (fun y=>y=W.heap.size+1) w2 _ from(oM (W:=w2) (y:=W.heap.size+1) (.int .i64 er) (.int .u64 0) (.slice none 0 0) (.int .u64 0) (.int .u64 0) (.int .i64 0) (.int .i64 0) (.int .u64 0) (.slice none 0 0)));go_wp2_with fail;exact⟨rfl,mX er 0,by simp[results,results30,go_sem,s0,s1,s2,s3,s4,s5,s6,s7,s8],er,w2,rfl,HR.out,D.out⟩
end Go.Proofs.YtbgbfpklgfpepaaGreatDoor
