import Derived.Test.YtgjdmkfpmokkaaaGreatDoorZl
set_option maxRecDepth 1000000
set_option maxHeartbeats 80000000
namespace Go.Proofs.YtgjdmkfpmokkaaaGreatDoor
open Go.RowKit
set_option linter.unusedVariables false
def ncl(k:Nat):Nat:=256/2 ^ k
theorem zaI{k:Nat}(h:k<8):ncl k*szC k=4096∧2≤ncl k∧ncl k≤256:=zdc k h
structure Sb where
 c:Nat→Option Nat
 fl:Nat→List Nat
 pl:Nat→List Nat
def pOf(S:Sb)(m:Mp):Nat→Option Pg:=fun p=>(S.c p).map fun _=>m.pg p
theorem zaP{S:Sb}{m:Mp}{p:Nat}(h:S.c p=none):pOf S m p=none:=by unfold pOf;rw[h];rfl
theorem zaQ{S:Sb}{m:Mp}{p k:Nat}(h:S.c p=some k):pOf S m p=some (m.pg p):=by unfold pOf;rw[h];rfl
theorem zlC{S:Sb}{m:Mp}{p:Nat}{q:Pg}(h:pOf S m p=some q):(∃ k,S.c p=some k)∧m.pg p=q:=by
 cases e:S.c p with
 | none=>rw[zaP e] at h;cases h
 | some k=>
  rw[zaQ e] at h;injection h with h
  exact⟨⟨k,rfl⟩,h⟩
structure SlP(S:Sb)(p k:Nat)(q:Pg):Prop where
 kd:q.kd=4
 od:q.od=0
 cl:q.cl=(k:Int)
 lv:q.lv=((ncl k-(S.fl p).length:Nat):Int)
 nx:q.nx=nxI (S.pl k) p
 pv:q.pv=pvI (S.pl k) p
 fs:q.fs=hdI (S.fl p)
 bt:∀ i,i<256→litP q i=decide (i<ncl k∧i ∉ S.fl p)
def lkA(x:Bx)(p k:Nat):List Nat→Nat
 | []=>0
 | j :: _=>caN x p k j
def Lnk(x:Bx)(f:Nat→Nat)(p k:Nat):List Nat→Prop
 | []=>True
 | i :: l=>M.word f (4096*p+i*szC k)=lkA x p k l∧Lnk x f p k l
structure SI(x:Bx)(t:Bt)(S:Sb):Prop where
 eP:x.P=pOf S t.m
 pg:∀ p k,S.c p=some k→k<8∧SlP S p k (t.m.pg p)
 fl:∀ p k,S.c p=some k→(S.fl p).Nodup∧(∀ i∈S.fl p,i<ncl k)∧Lnk x t.f p k (S.fl p)
 lv:∀ p k,S.c p=some k→(S.fl p).length≤ncl k
 pn:∀ k,k<8→(S.pl k).Nodup
 pm:∀ k,k<8→∀ p,p∈S.pl k↔(S.c p=some k∧S.fl p≠[])
def Lve(S:Sb):Prop:=∀ p k,S.c p=some k→(S.fl p).length<ncl k
theorem Sf.repaint{x t fr ls}(s:Sf x t fr ls)(S S':Sb)(hP:x.P=pOf S t.m)(m':Mp)(ho:m'.o=t.m.o)(hn:m'.n=t.m.n)(hw:m'.wd=t.m.wd)(h1:∀ p,S'.c p=none→m'.pg p=(if S.c p=none then t.m.pg p else bkP 2 0))(h2:∀ p k,S'.c p=some k→(m'.pg p).kd=4∧(p,0)∈ls):
  Sf { x with P:=pOf S' m' } { t with m:=m' } fr ls:=by
 obtain⟨B,s,hN,hL⟩:=s;refine⟨B,⟨?_,s.o8,?_,?_,?_,s.b1,s.b2,s.tg,s.fi,?_,s.ds,?_,?_,s.ch,?_,?_,s.nm,?_⟩,hN,hL⟩
 ·show m'.o=x.o
  rw[ho];exact s.mo
 ·show ∃ r,m'.n=r*2 ^ x.o
  rw[hn];exact s.dv
 ·show m'.n*4096≤x.n
  rw[hn];exact s.nb
 ·show m'.n≤1024
  rw[hn];exact s.n1
 ·intro g p k hb;show k≤x.o∧p%2 ^ k=0∧p+2 ^ k≤m'.n
  rw[hn];exact s.al g p k hb
 ·intro i hi;have hi:i<m'.n:=hi;rw[hn] at hi;exact s.cv i hi
 ·intro g p k hb h9 i hi1 hi2;show m'.pg i=(pOf S' m' i).getD _
  cases e:S'.c i with
  | some k'=>rw[zaQ e];rfl
  | none=>
   rw[zaP e,Option.getD_none,h1 i e]
   cases e2:S.c i with
   | none=>
    rw[if_pos rfl];have:=s.pg g p k hb h9 i hi1 hi2;rw[hP,zaP e2,Option.getD_none] at this;exact this
   | some k'=>
    rw[if_neg (by rintro ⟨⟩)];have hv:=(s.vs i (t.m.pg i) (by rw[hP];exact zaQ e2)).1;rcases s.ds _ _ _ _ _ _ hv hb with ⟨e3,e4,e5⟩|e3|e3
    ·rw[if_pos e4,←e3,←e5];rfl
    ·omega
    ·omega
 ·intro k hk;show(m'.wd k).length=(m'.n/2 ^ (k+1)+63)/64
  rw[hw,hn];exact s.wl k hk
 ·intro k hk i hi;have hi:i<m'.n/2 ^ (k+1):=hi;rw[hn] at hi;show bit (m'.wd k) i=_
  rw[hw];exact s.bt k hk i hi
 ·intro p q h;have h:pOf S' m' p=some q:=h;obtain⟨⟨k,hk⟩,hq⟩:=zlC h;obtain⟨h3,h4⟩:=h2 p k hk;exact⟨(hL p 0).2 h4,by rw[←hq];exact h3⟩
theorem BdAt.reP{W x t}(h:BdAt W x t)(P:Nat→Option Pg):BdAt W { x with P:=P } t:=⟨h.sp,h.mp,h.ls,h.bs,h.lr,h.mo,h.iL,h.hR⟩
theorem Pol.reP{w W lw x t}(h:Pol w W lw x t)(P:Nat→Option Pg):Pol w W lw { x with P:=P } t:=⟨h.box,h.bd.reP P,h.nw,h.kp⟩
theorem SW.reP{w W sb lw x t h}(s:SW w W sb lw x t h)(P:Nat→Option Pg):SW w W sb lw { x with P:=P } t h:=⟨s.pl.reP P,s.bx,s.nw,s.tb⟩
structure SO(w W:World)(sb lw:Nat)(x:Bx)(t:Bt)(fr:Nat→List Nat)(ls:List (Nat×Nat))(S:Sb)(h:Nat→Int):Prop where
 sw:SW w W sb lw x t h
 sf:Sf x t fr ls
 st:t.m.n*4096=x.n
 bm:x.base%4096=0
 si:SI x t S
 hd:∀ k,k<8→h k=hdI (S.pl k)
theorem SO.po{w W sb lw x t fr ls S h}(o:SO w W sb lw x t fr ls S h):PO w W lw x t fr ls:=⟨o.sw.pl,o.sf,o.st,o.bm⟩
theorem SO.keep{w W W' sb lw x t fr ls S h}(o:SO w W sb lw x t fr ls S h)(k:Kt nO W W'):SO w W' sb lw x t fr ls S h:=⟨o.sw.keep k,o.sf,o.st,o.bm,o.si,o.hd⟩
theorem SO.mem{w W sb lw x t fr ls S h}(o:SO w W sb lw x t fr ls S h){p k:Nat}(hp:S.c p=some k):(p,0)∈ls∧p<t.m.n∧p<1024∧x.base+4096*p+4096≤x.base+x.n:=by
 have h1:=o.sf.pslab (p:=p) (q:=t.m.pg p) (by rw[o.si.eP];exact zaQ hp);have hn:=o.po.nums.2.1;have hst:=o.st;refine⟨h1.1,h1.2.2.1,by omega,?_⟩;have h5:(p+1)*4096≤t.m.n*4096:=Nat.mul_le_mul_right _ h1.2.2.1;omega
theorem zaA{x:Bx}{p k i:Nat}(hk:k<8)(hi:i<ncl k)(hb:x.base+4096*p+4096≤9223372036854775808):offS x (caN x p k i)=4096*p+i*szC k∧i*szC k+szC k≤4096∧caN x p k i<18446744073709551616:=by
 have h1:=zaI hk;have h2:(i+1)*szC k≤ncl k*szC k:=Nat.mul_le_mul_right _ hi;rw[Nat.add_mul,Nat.one_mul,h1.1] at h2;have h3:caN x p k i=x.base+4096*p+i*szC k:=rfl;refine⟨?_,h2,by omega⟩;unfold offS;omega
theorem zia{x:Bx}{t:Bt}{p k i:Nat}(hk:k<8)(hi:i<ncl k)(hb:x.base+4096*p+4096≤9223372036854775808)(hp:p<t.m.n)(hkd:(t.m.pg p).kd=4)(hcl:(t.m.pg p).cl=(k:Int)):
  atB x t (caN x p k i)=true∧offS x (caN x p k i)/4096=p∧atQ x t (caN x p k i)=t.m.pg p∧atN x t (caN x p k i)=i:=by
 obtain⟨h1,h2,h3⟩:=zaA (x:=x) (p:=p) hk hi hb;have hz:=zay hk;have e1:offS x (caN x p k i)/4096=p:=by rw[h1];omega
 have e2:offS x (caN x p k i)%4096=i*szC k:=by rw[h1];omega
 have e3:atQ x t (caN x p k i)=t.m.pg p:=by
  unfold atQ atP;rw[e1,if_pos (zae hp),Int.toNat_natCast]
 have e4:(t.m.pg p).cl.toNat=k:=by rw[hcl];rfl
 refine⟨?_,e1,e3,?_⟩
 ·unfold atB;rw[e3,e4,e2,decide_eq_true hkd,decide_eq_true (Nat.mul_mod_left _ _)];rfl
 ·unfold atN;rw[e3,e4,e2,Nat.mul_div_cancel _ (by omega)]
theorem zb8(n:Nat):lnk n (-1)=true:=by unfold lnk;rfl
theorem zcv{n r:Nat}(h:r<n):lnk n (r:Int)=true:=by unfold lnk;rw[zae h,Bool.or_true]
theorem zbm{m:Mp}{p:Nat}{a b:Int}(hp:p<m.n)(hk:(m.pg p).kd=4)(ha:lnk m.n a=true)(hb:lnk m.n b=true):zao m (p:Int) a b={ m with pg:=upp m.pg p { m.pg p with nx:=a,pv:=b } }:=by
 unfold zao zaJ;rw[Int.toNat_natCast,zae hp,decide_eq_true hk,ha,hb];rfl
theorem zgQ(m:Mp)(a b:Int):zao m (-1) a b=m:=by
 unfold zao zaJ;rw[show inR m.n (-1)=false from decide_eq_false (by omega)];rfl
theorem zew{m:Mp}{p:Nat}(hp:p<m.n):atP m (p:Int)=m.pg p:=by unfold atP;rw[if_pos (zae hp),Int.toNat_natCast]
theorem zcD{m:Mp}{r:Nat}{v:Int}(hr:r<m.n)(hk:(m.pg r).kd=4)(hn:lnk m.n (m.pg r).nx=true)(hv:lnk m.n v=true):zax m (r:Int) v={ m with pg:=upp m.pg r { m.pg r with pv:=v } }:=by
 unfold zax;rw[zew hr,zbm hr hk hn hv]
theorem zcE(m:Mp)(v:Int):zax m (-1) v=m:=zgQ _ _ _
theorem zex{m:Mp}{r:Nat}{v:Int}(hr:r<m.n)(hk:(m.pg r).kd=4)(hn:lnk m.n (m.pg r).pv=true)(hv:lnk m.n v=true):zbS m (r:Int) v={ m with pg:=upp m.pg r { m.pg r with nx:=v } }:=by
 unfold zbS;rw[zew hr,zbm hr hk hv hn]
def putP(pg:Nat→Pg)(l:List Nat)(p:Nat):Nat→Pg:=fun r=>if r=p then { pg p with nx:=hdI l,pv := -1 } else if (r:Int)=hdI l then { pg r with pv:=(p:Int) } else pg r
theorem zkI{m:Mp}{h:Nat→Int}{p c:Nat}{l:List Nat}(hp:p<m.n)(hk:(m.pg p).kd=4)(hh:h c=hdI l)(hl:∀ r∈l,r<m.n∧(m.pg r).kd=4∧lnk m.n (m.pg r).nx=true)(hpl:p ∉ l):putM m h (p:Int) c={ m with pg:=putP m.pg l p }:=by
 unfold putM;rw[hh]
 cases l with
 | nil=>
  show zax (zao m (p:Int) (-1) (-1)) (-1) (p:Int)=_
  rw[zcE,zbm hp hk (zb8 _) (zb8 _)];refine congrArg (fun g=>({ m with pg:=g } : Mp)) (funext fun r=>?_);unfold upp putP;by_cases e:r=p
  ·rw[if_pos e,if_pos e];rfl
  ·rw[if_neg e,if_neg e,if_neg (by show ¬(r:Int) = -1;omega)]
 | cons b l=>
  obtain⟨h1,h2,h3⟩:=hl b List.mem_cons_self;have hbp:b≠p:=fun e=>hpl (by rw[e];exact List.mem_cons_self)
  show zax (zao m (p:Int) (b:Int) (-1)) (b:Int) (p:Int)=_
  rw[zbm hp hk (zcv h1) (zb8 _)];have e1:upp m.pg p { m.pg p with nx:=(b:Int),pv := -1 } b=m.pg b:=by unfold upp;rw[if_neg hbp]
  rw[zcD (m:={ m with pg:=upp m.pg p { m.pg p with nx:=(b:Int),pv := -1 } }) h1 (by show(upp m.pg p _ b).kd=4;rw[e1];exact h2) (by show lnk m.n (upp m.pg p _ b).nx=true;rw[e1];exact h3) (zcv hp)];show({ m with pg:=upp (upp m.pg p { m.pg p with nx:=(b:Int),pv := -1 }) b { upp m.pg p { m.pg p with nx:=(b:Int),pv := -1 } b with pv:=(p:Int) } } : Mp)=_
  rw[e1];refine congrArg (fun g=>({ m with pg:=g } : Mp)) (funext fun r=>?_);unfold upp putP;by_cases e:r=p
  ·rw[if_neg (show ¬r=b from fun e2=>hbp (e2.symm.trans e)),if_pos e,if_pos e];rfl
  ·rw[if_neg e];by_cases e2:r=b
   ·rw[if_pos e2,if_neg e,if_pos (by rw[e2];rfl),e2]
   ·rw[if_neg e2,if_neg e,if_neg];intro e3;have e3:(r:Int)=(b:Int):=e3;omega
def unlP(pg:Nat→Pg)(l:List Nat)(p:Nat):Nat→Pg:=fun r=>if r=p then { pg p with nx := -1,pv := -1 } else { pg r with nx:=if (r:Int)=pvI l p then nxI l p else (pg r).nx,pv:=if (r:Int)=nxI l p then pvI l p else (pg r).pv }
theorem zkJ{m:Mp}{h:Nat→Int}{p c:Nat}{l:List Nat}(hd:l.Nodup)(hp:p∈l)(hl:∀ r∈l,r<m.n∧(m.pg r).kd=4∧(m.pg r).nx=nxI l r∧(m.pg r).pv=pvI l r):unlM m (p:Int)={ m with pg:=unlP m.pg l p }∧unlH m h (p:Int) c=if pvI l p = -1 then uphI h c (nxI l p) else h:=by
 obtain⟨p1,p2,p3,p4⟩:=hl p hp;have lk:∀ r∈l,lnk m.n (nxI l r)=true∧lnk m.n (pvI l r)=true:=fun r hr=>by
  constructor
  ·rcases za4 l r hd with e|⟨b,e,hb,_⟩
   ·rw[e];exact zb8 _
   ·rw[e];exact zcv (hl b hb).1
  ·rcases zbC l r hd with e|⟨b,e,hb,_⟩
   ·rw[e];exact zb8 _
   ·rw[e];exact zcv (hl b hb).1
 refine⟨?_,by unfold unlH;rw[zew p1,p3,p4]⟩;unfold unlM;rw[zew p1,p3,p4]
 obtain⟨m1,hm1,hm1n,hpg1⟩:∃ m1:Mp,zax m (nxI l p) (pvI l p)=m1∧(m1.n=m.n∧m1={ m with pg:=m1.pg })∧∀ r,m1.pg r=if (r:Int)=nxI l p then { m.pg r with pv:=pvI l p } else m.pg r:=by
  rcases za4 l p hd with e|⟨b,e,hb,hbp⟩
  ·refine⟨m,by rw[e,zcE],⟨rfl,rfl⟩,fun r=>?_⟩;rw[e,if_neg (by omega)]
  ·obtain⟨b1,b2,b3,b4⟩:=hl b hb;refine⟨{ m with pg:=upp m.pg b { m.pg b with pv:=pvI l p } },by rw[e];exact zcD b1 b2 (by rw[b3];exact(lk b hb).1) (lk p hp).2,⟨rfl,rfl⟩,fun r=>?_⟩;show upp m.pg b _ r=_
   unfold upp;rw[e];by_cases e2:r=b
   ·rw[if_pos e2,if_pos (by rw[e2]),e2]
   ·rw[if_neg e2,if_neg (by omega)]
 rw[hm1]
 obtain⟨m2,hm2,hm2n,hpg2⟩:∃ m2:Mp,(if pvI l p = -1 then m1 else zbS m1 (pvI l p) (nxI l p))=m2∧(m2.n=m.n∧m2={ m with pg:=m2.pg })∧∀ r,m2.pg r=if (r:Int)=pvI l p then { m1.pg r with nx:=nxI l p } else m1.pg r:=by
  rcases zbC l p hd with e|⟨b,e,hb,hbp⟩
  ·refine⟨m1,by rw[if_pos e],hm1n,fun r=>?_⟩;rw[e,if_neg (by omega)]
  ·obtain⟨b1,b2,b3,b4⟩:=hl b hb;have hk1:(m1.pg b).kd=4:=by
    rw[hpg1];split
    ·exact b2
    ·exact b2
   have hl1:lnk m1.n (m1.pg b).pv=true:=by
    rw[hpg1,hm1n.1];split
    ·exact(lk p hp).2
    ·rw[b4];exact(lk b hb).2
   refine⟨{ m1 with pg:=upp m1.pg b { m1.pg b with nx:=nxI l p } },by rw[if_neg (by rw[e];omega),e];exact zex (by rw[hm1n.1];exact b1) hk1 hl1 (by rw[hm1n.1];exact(lk p hp).1),⟨hm1n.1,?_⟩,fun r=>?_⟩
   ·show({ m1 with pg:=_ } : Mp)={ m with pg:=_ }
    rw[hm1n.2]
   ·show upp m1.pg b _ r=_
    unfold upp;rw[e];by_cases e2:r=b
    ·rw[if_pos e2,if_pos (by rw[e2]),e2]
    ·rw[if_neg e2,if_neg (by omega)]
 rw[hm2];have np:¬(p:Int)=nxI l p:=fun e=>by
  rcases za4 l p hd with h|⟨b,h,_,hb⟩
  ·omega
  ·exact hb (by omega)
 have pp:¬(p:Int)=pvI l p:=fun e=>by
  rcases zbC l p hd with h|⟨b,h,_,hb⟩
  ·omega
  ·exact hb (by omega)
 have hp2:m2.pg p=m.pg p:=by rw[hpg2,if_neg pp,hpg1,if_neg np]
 rw[zbm (by rw[hm2n.1];exact p1) (by rw[hp2];exact p2) (by exact zb8 _) (by exact zb8 _),hp2,hm2n.2];show({ m with pg:=upp m2.pg p { m.pg p with nx := -1,pv := -1 } } : Mp)=_
 refine congrArg (fun g=>({ m with pg:=g } : Mp)) (funext fun r=>?_);unfold upp unlP;by_cases e:r=p
 ·rw[if_pos e,if_pos e]
 ·rw[if_neg e,if_neg e,hpg2,hpg1];by_cases e1:(r:Int)=pvI l p
  ·rw[if_pos e1,if_pos e1];by_cases e2:(r:Int)=nxI l p
   ·rw[if_pos e2,if_pos e2]
   ·rw[if_neg e2,if_neg e2]
  ·rw[if_neg e1,if_neg e1];by_cases e2:(r:Int)=nxI l p
   ·rw[if_pos e2,if_pos e2]
   ·rw[if_neg e2,if_neg e2]
def Rst(q q':Pg):Prop:=∃ a b,q'={ q with nx:=a,pv:=b }
theorem zfM(pg:Nat→Pg)(l:List Nat)(p r:Nat):Rst (pg r) (putP pg l p r):=by
 unfold putP;by_cases e:r=p
 ·rw[if_pos e,e];exact⟨_,_,rfl⟩
 ·rw[if_neg e];split
  ·exact⟨(pg r).nx,_,rfl⟩
  ·exact⟨(pg r).nx,(pg r).pv,rfl⟩
theorem zfN(pg:Nat→Pg)(l:List Nat)(p r:Nat):Rst (pg r) (unlP pg l p r):=by
 unfold unlP;by_cases e:r=p
 ·rw[if_pos e,e];exact⟨_,_,rfl⟩
 ·rw[if_neg e];exact⟨_,_,rfl⟩
def NP(pg:Nat→Pg)(S:Sb)(k:Nat)(l:List Nat):Prop:=∀ r,S.c r=some k→(pg r).nx=nxI l r∧(pg r).pv=pvI l r
theorem zkK{pg:Nat→Pg}{S:Sb}{k p:Nat}{l:List Nat}(h:NP pg S k l)(hd:l.Nodup)(hp:p ∉ l):NP (putP pg l p) S k (p :: l):=fun r hr=>by
 obtain⟨h1,h2⟩:=h r hr;unfold putP;by_cases e:r=p
 ·rw[if_pos e,e];exact⟨by show hdI l=_;rw[nxI,if_pos rfl],(zbN (List.nodup_cons.2 ⟨hp,hd⟩)).symm⟩
 ·have n1:nxI (p :: l) r=nxI l r:=by rw[nxI,if_neg (fun e2=>e e2.symm)]
  have n2:pvI (p :: l) r=if hdI l=(r:Int) then (p:Int) else pvI l r:=rfl;rw[if_neg e,n1,n2];by_cases e2:(r:Int)=hdI l
  ·rw[if_pos e2,if_pos e2.symm];exact⟨h1,rfl⟩
  ·rw[if_neg e2,if_neg (fun e3=>e2 e3.symm)];exact⟨h1,h2⟩
theorem zkL{pg:Nat→Pg}{S:Sb}{k p:Nat}{l:List Nat}(h:NP pg S k l)(hd:l.Nodup)(hp:p∈l):NP (unlP pg l p) S k (M.dropL l p):=fun r hr=>by
 obtain⟨h1,h2⟩:=h r hr;unfold unlP;by_cases e:r=p
 ·have ho:p ∉ M.dropL l p:=by rw[zaE];exact fun h=>h.2 rfl
  rw[if_pos e,e,zfb ho,zdY ho];exact⟨rfl,rfl⟩
 ·rw[if_neg e,zjv hd hp e,zjw hd hp e];exact⟨by show(if _ then _ else _)=_;rw[h1],by show(if _ then _ else _)=_;rw[h2]⟩
theorem zcN{m:Mp}{p i:Nat}{l:Bool}(hp:p<m.n)(hk:(m.pg p).kd=4)(hi:i<zaV (m.pg p).cl)(hl:litP (m.pg p) i=!l):ownE m (p:Int) (i:Int) l=0∧ownM m (p:Int) (i:Int) l={ m with pg:=upp m.pg p (ownP (m.pg p) i) }:=by
 have hc:zbA m (p:Int) (i:Int) l=true:=by
  unfold zbA zdS;rw[Int.toNat_natCast,Int.toNat_natCast,zae hp,decide_eq_true hk,zae hi,hl]
  cases l <;> rfl
 unfold ownE ownM;rw[if_pos hc,if_pos hc,Int.toNat_natCast,Int.toNat_natCast];exact⟨rfl,rfl⟩
theorem zbQ{m:Mp}{p:Nat}{c:Int}(hp:p<m.n)(hk:(m.pg p).kd=4)(hc:c = -1∨∃ j:Nat,c=(j:Int)∧j<zaV (m.pg p).cl):zaG m (p:Int) c={ m with pg:=upp m.pg p { m.pg p with fs:=c } }:=by
 have h:zaS m (p:Int) c=true:=by
  unfold zaS;rw[Int.toNat_natCast,zae hp,decide_eq_true hk];rcases hc with rfl|⟨j,rfl,hj⟩
  ·rfl
  ·rw[zae hj,Bool.or_true];rfl
 unfold zaG;rw[if_pos h,Int.toNat_natCast]
def zfj(m:Mp)(p i:Nat)(r:List Nat):Mp:=zaG (ownM m (p:Int) (i:Int) true) (p:Int) (hdI r)
def hanM(m:Mp)(p i:Nat)(r:List Nat):Mp:=if r=[] then unlM (zfj m p i r) (p:Int) else zfj m p i r
def hanH(m:Mp)(h:Nat→Int)(p k i:Nat)(r:List Nat):Nat→Int:=if r=[] then unlH (zfj m p i r) h (p:Int) k else h
theorem zkS{w W sb lw x t fr ls S h}(o:SO w W sb lw x t fr ls S h)(p k i:Nat)(r:List Nat)(hc:S.c p=some k)(hf:S.fl p=i :: r):
  Calls Tryz.prog 38 #[.pointer (some ⟨sb,0,none⟩),.int .i64 (p:Int),.int .i64 (k:Int)] W fun e w'=>e=.returned (.tuple #[.int .u64 ((caN x p k i:Nat):Int),.int .i64 0])∧SE w W sb lw x t (hanM t.m p i r) (hanH t.m h p k i r) w':=by
 obtain⟨hk,sp⟩:=o.si.pg p k hc;obtain⟨nd,lt,lk⟩:=o.si.fl p k hc;have hlv:=o.si.lv p k hc;obtain⟨hls,hpn,hp1,hpb⟩:=o.mem hc;have n4:=o.po.nums.2.2.2.1;rw[hf] at nd lt lk hlv;have hib:i<ncl k:=lt i List.mem_cons_self;have hnb:=zaI hk;have hoff:=zaA (x:=x) (p:=p) hk hib (by omega);have hin:M.In x.base x.n (caN x p k i) 8:=by
  have hz:=zay hk;unfold M.In;have e:caN x p k i=x.base+4096*p+i*szC k:=rfl;omega
 have hao:caN x p k i-x.base=4096*p+i*szC k:=by
  have e:caN x p k i=x.base+4096*p+i*szC k:=rfl;omega
 have hcn:zaV (t.m.pg p).cl=ncl k:=by rw[sp.cl];rfl
 have hlit:litP (t.m.pg p) i=!true:=by
  rw[sp.bt i (by omega),hf];exact decide_eq_false (fun e=>e.2 List.mem_cons_self)
 obtain⟨hoE,hoM⟩:=zcN hpn sp.kd (by rw[hcn];exact hib) hlit;have hnx:∃ nx:Int,nx=hdI r∧∀ W',Kt nO W W'→Calls Tryz.prog 90 #[.pointer (some ⟨sb,0,none⟩),.int .u64 ((caN x p k i:Nat):Int),.int .i64 (p:Int)] W' fun e w'=>e=.returned (.tuple #[.int .i64 nx,.bool true])∧Kt nO W' w':=by
  cases r with
  | nil=>exact⟨-1,rfl,fun W' kk=>zix (o.sw.keep kk) _ _ hin (by rw[hao];exact lk.1)⟩
  | cons j r'=>
   have hjb:j<ncl k:=lt j (List.mem_cons_of_mem _ List.mem_cons_self);have hj3:=zaA (x:=x) (p:=p) hk hjb (by omega);obtain⟨a1,a2,a3,a4⟩:=zia (x:=x) (t:=t) hk hjb (by omega) hpn sp.kd sp.cl;refine⟨(j:Int),rfl,fun W' kk=>?_⟩;have:=ziy (o.sw.keep kk) (caN x p k i) p (caN x p k j) hin (by rw[hao];exact lk.1) (by
    have e:caN x p k j=x.base+4096*p+j*szC k:=rfl;have:=o.sw.pl.bd.sp.cfg.b1;omega) hj3.2.2 a1 a2
   rw[a4] at this;exact this
 obtain⟨nx,hnx1,hnx2⟩:=hnx;have NX:=hid hnx2;obtain⟨q,hq⟩:=xe (t.m.pg p);have HA:=hid (show Calls Tryz.prog 16 #[.pointer (some ⟨x.m,0,none⟩),.int .i64 (p:Int)] W fun e w'=>e=.returned (.tuple #[pval q,.bool true])∧Kt nO W w' from by rw[hq];exact zfm x.m x.B t.m p W o.sw.pl.bd.mp hpn);have HM:=hid (Map6 o.sw.pl);have HC:=hid (show q.cl=(k:Int)from by rw[hq];exact sp.cl);have HF:=hid (show q.fs=(i:Int)from by rw[hq,sp.fs,hf];rfl);obtain⟨lv,hlv2⟩:∃ lv:Nat,q.lv=(lv:Int):=⟨_,by rw[hq];exact sp.lv⟩;have hlvr:lv=ncl k-(r.length+1):=by
  have:=sp.lv;rw[←hq,hlv2,hf] at this;have:=Int.ofNat.inj this;rw[this];rfl
 have HL:=hid hlv2;obtain⟨a,ha⟩:=xe (caN x p k i);have AD:=hid (show ∀ W',Kt nO W W'→Calls Tryz.prog 89 #[.pointer (some ⟨sb,0,none⟩),.int .i64 (p:Int),.int .i64 (k:Int),.int .i64 (i:Int)] W' fun e w'=>e=.returned (.int .u64 (a:Int))∧Kt nO W' w' from fun W' kk=>by
  rw[ha];exact zdi (o.sw.keep kk) p k i (by omega) hk (by omega))
 rw[←ha] at NX ⊢;obtain⟨m1,hm1⟩:=xe (ownM t.m (p:Int) (i:Int) true);have OW:=hid (show ∀ W',Kt nO W W'→Calls Tryz.prog 40 #[.pointer (some ⟨x.m,0,none⟩),.int .i64 (p:Int),.int .i64 (i:Int),.bool true] W' fun e w'=>e=.returned (.int .i64 0)∧SD w W' sb lw x t h m1 w' from fun W' kk=>by
  have:=zmC (o.sw.keep kk) (p:Int) (i:Int) true;rw[hoE,←hm1] at this;exact this)
 have FR:=hid (show ∀ W',SW w W' sb lw x { t with m:=m1 } h→Calls Tryz.prog 88 #[.pointer (some ⟨x.m,0,none⟩),.int .i64 (p:Int),.int .i64 nx] W' fun e w'=>e=.returned (.int .i64 (zbJ m1 (p:Int) nx))∧SD w W' sb lw x { t with m:=m1 } h (zaG m1 (p:Int) nx) w' from fun W' s=>zek s (p:Int) nx);obtain⟨m2,hm2⟩:=xe (zaG m1 (p:Int) nx);have hM2:zfj t.m p i r=m2:=by unfold zfj;rw[hm2,hm1,hnx1]
 rw[←hm2] at FR;generalize zbJ m1 (p:Int) nx=fe at *;obtain⟨mF,hmF⟩:=xe (hanM t.m p i r);obtain⟨hF,hhF⟩:=xe (hanH t.m h p k i r);rw[←hmF,←hhF];unfold hanM at hmF;unfold hanH at hhF;rw[hM2] at hmF hhF;have HMF:=hid hmF;have HHF:=hid hhF;have HO:=hid o.sw;obtain⟨c0,c1⟩:=o.sw.c0;have hnl2:=hnb.2.2;have CLS:=hid (show ∀ W' tt,SW w W' sb lw x tt h→Calls Tryz.prog 42 #[.int .i64 (k:Int)] W' fun e w'=>e=.returned (.int .i64 ((ncl k:Nat):Int))∧w'=W' from fun W' tt s=>zid s k hk);obtain⟨N,hN⟩:=xe (ncl k);rw[←hN] at CLS;have HLR:=hid (show lv+1=N↔r=[] from by
  have h9:r.length+1≤ncl k:=hlv;have h8:=hnb.2.1;rw[hlvr,hN];constructor
  ·intro e
   cases r with
   | nil=>rfl
   | cons j r'=>
    exfalso
    rw[List.length_cons] at e h9;omega
  ·intro e;rw[e,List.length_nil];omega)
 have hNb:N≤256:=by rw[hN];exact hnl2
 have hlvb:lv≤256:=by omega
 clear o sp nd lt lk hlv hls hpb n4 hf hib hnb hoff hin hao hcn hlit hoE hoM hnx2 hq hlv2 ha hm1 hm2 hM2 hmF hhF hlvr hN hnl2 hpn hc hnx1;go_enter Tryz.func38,Tryz.ntmps38;go_wp2_with fail;refine HM.out.mono ?_;rintro e w1 ⟨rfl,h1⟩;replace h1:=h1.symm;subst h1;go_wp2_with fail;refine HA.out.mono ?_;rintro e w2 ⟨rfl,hk2⟩;have K2:=hid (hk2.alloc (pobj q));have X2:=hid (nH w2 (pobj q));have S2:=hid (HO.out.keep K2.out);have NY:=hid (show ¬(bown x w2.heap.size∨w2.heap.size=sb)from fun e=>by
  rcases e with e|e
  ·exact absurd ((HO.out.keep hk2).pl.lt _ (.inl e)) (Nat.lt_irrefl _)
  ·have:=lH (HO.out.keep hk2).bx;omega)
 clear hk2 c0 c1;go_upto_region 2 with fail;generalize w2.heap.size=y at *;generalize w2.alloc (pobj q)=W2 at *;have PQ:=hid (show ∀ W':World,W'.heap[y]?=some (pobj q)→W'.cell? ⟨y,2,none⟩=some (.int .i64 (k:Int))∧W'.cell? ⟨y,3,none⟩=some (.int .i64 (lv:Int))∧W'.cell? ⟨y,6,none⟩=some (.int .i64 (i:Int))from fun W' hW=>by
  obtain⟨_,_,p2,p3,_,_,p6,_⟩:=pg11 hW;rw[HC.out] at p2;rw[HL.out] at p3;rw[HF.out] at p6;exact⟨p2,p3,p6⟩)
 obtain⟨p2,p3,p6⟩:=PQ.out _ X2.out;obtain⟨c0,c1⟩:=S2.out.c0;go_wp2_with fail;refine(AD.out _ K2.out).mono ?_;rintro e w3 ⟨rfl,hk3⟩;have K3:=hid (nT K2.out hk3);have X3:=hid ((hk3.block _ (lH X2.out) (fun e=>e)).trans X2.out);clear hk3 c0 c1 p2 p3 p6;go_wp2_with fail;refine(NX.out _ K3.out).mono ?_;rintro e w4 ⟨rfl,hk4⟩;have K4:=hid (nT K3.out hk4);have X4:=hid ((hk4.block _ (lH X3.out) (fun e=>e)).trans X3.out);have S4:=hid (HO.out.keep K4.out);clear hk4;go_upto_region 6 with fail;have KD:=hid ((Kt.refl nO w4).drew);have K5:=hid (nT K4.out KD.out);have S5:=hid (HO.out.keep K5.out);have X5:=hid ((KD.out.block _ (lH X4.out) (fun e=>e)).trans X4.out);have MP:=hid (Map6 S5.out.pl);obtain⟨p2,p3,p6⟩:=PQ.out _ X5.out;obtain⟨c0,c1⟩:=S5.out.c0;go_region_held3 (fun w'=>w'.cell? ⟨sb,0,none⟩=some (.pointer (some ⟨lw,0,none⟩))∧w'.cell? ⟨y,6,none⟩=some (.int .i64 (i:Int))) ((refine⟨?_,?_⟩ <;> first|with_reducible assumption|fail)) (first
  | (go_at_call 40;(with_reducible refine(OW.out _ K5.out).mono ?_);rintro e w6 ⟨rfl,hs6,hk6⟩;obtain⟨f0,f1⟩:=hs6.c0;have X6:=hid ((hk6.block _ (lH X5.out) (fun e=>NY.out (.inl e))).trans X5.out);obtain⟨f2,f3,f6⟩:=PQ.out _ X6.out;have S6:=hid hs6;have K6:=hid (K5.out.trans hk6 (fun _ _ e=>e.elim) (fun _ _ e=>e));clear hs6 hk6)
  | (go_at_call 15;(with_reducible refine MP.out.mono ?_);rintro e w5 ⟨rfl,h5⟩;replace h5:=h5.symm;subst h5)
  | fail)
 all_goals
  clear p2 p3 p6 c0 c1 f2 f3 f6;have MP6:=hid (Map6 S6.out.pl);go_wp2_with fail;refine MP6.out.mono ?_;rintro e w7 ⟨rfl,h7⟩;replace h7:=h7.symm;subst h7;go_wp2_with fail;refine(FR.out _ S6.out).mono ?_;rintro e w7 ⟨rfl,hs7,hk7⟩;have S7:=hid hs7;have K7:=hid (K6.out.trans hk7 (fun _ _ e=>e) (fun _ _ e=>e));have X7:=hid ((hk7.block _ (lH X6.out) (fun e=>NY.out (.inl e))).trans X6.out);clear hs7 hk7 f0 f1;go_upto_region 9 with fail;obtain⟨p2,p3,p6⟩:=PQ.out _ X7.out;have KD7:=hid ((Kt.refl nO w7).drew);have X8:=hid ((KD7.out.block _ (lH X7.out) (fun e=>e)).trans X7.out);obtain⟨q2,q3,q6⟩:=PQ.out _ X8.out;obtain⟨l1,hl1⟩:=xe (lv+1);have hl1i:(lv:Int)+1=(l1:Int):=by omega
  have hl1b:l1≤257:=by omega
  have hlw:IntKind.i64.wrap (l1:Int)=(l1:Int):=by rw[IntKind.wrap_i64];omega
  have HL1:=hid hl1;clear hl1;have CL:=hid (CLS.out _ _ (S7.out.keep KD7.out));go_region_held3 (fun w'=>w'.cell? ⟨y,3,none⟩=some (.int .i64 (lv:Int))) (first|with_reducible assumption|fail) (first
   | (go_at_call 42;(with_reducible refine CL.out.mono ?_);rintro e w8 ⟨rfl,h8⟩;replace h8:=h8.symm;subst h8)
   | fail)
  all_goals
   have S8:=hid (S7.out.keep KD7.out);have K8:=hid (K7.out.trans KD7.out (fun _ _ e=>e) (fun _ _ e=>e.elim));clear p2 p3 p6 q2 q3 q6 CL;by_cases hr:r=[]
   ·have hb:((l1:Int) == (N:Int))=true:=by
     rw[beq_iff_eq,HL1.out];have:=HLR.out.2 hr;omega
    have UL:=hid (show Calls Tryz.prog 91 #[.pointer (some ⟨sb,0,none⟩),.int .i64 (p:Int),.int .i64 (k:Int)] w7.drew fun e w'=>e=.returned (.tuple #[])∧SE w w7.drew sb lw x t mF hF w' from by
     have:=zgB S8.out (p:Int) k hk;rw[HMF.out,HHF.out,if_pos hr,if_pos hr];exact this)
    generalize w7.drew=W8 at *;as_aux_lemma=>
     go_wp2_with fail;refine UL.out.mono ?_;rintro e w9 ⟨rfl,hs9,hk9⟩;have D:=hid (show SE w W sb lw x t mF hF w9 from⟨hs9,(K8.out.mono (fun _ _ e=>.inl e)).trans hk9 (fun _ _ e=>e) (fun _ _ e=>e)⟩);clear hs9 hk9;go_wp2_with fail;exact⟨rfl,.tuple #[.int .u64 (a:Int),.int .i64 0],by simp[results,Tryz.results38,go_sem],rfl,D.out⟩
   ·have hb:((l1:Int) == (N:Int))=false:=by
     rw[beq_eq_false_iff_ne,HL1.out];intro e;exact hr (HLR.out.1 (by omega))
    have D:=hid (show SE w W sb lw x t mF hF w7.drew from by
     rw[HMF.out,HHF.out,if_neg hr,if_neg hr];exact⟨S8.out,K8.out.mono (fun _ _ e=>.inl e)⟩)
    generalize w7.drew=W8 at *;as_aux_lemma=>
     go_wp2_with fail;exact⟨rfl,.tuple #[.int .u64 (a:Int),.int .i64 0],by simp[results,Tryz.results38,go_sem],rfl,D.out⟩
theorem zi6(x r:Nat):(x/2 ^ r%2 == 1)=x.testBit r:=by
 rw[Nat.testBit_eq_decide_div_mod_eq];rfl
theorem zkx(p:Pg)(c j:Nat)(hc:c<256)(hj:j<256):litP (za3 p c) j=(if j=c then !litP p c else litP p j):=by
 have key:∀ x:Nat,∀ s r:Nat,(x ^^^ 2 ^ r).testBit s=(if s=r then !x.testBit s else x.testBit s):=fun x s r=>by
  rw[Nat.testBit_xor,Nat.testBit_two_pow];by_cases e:s=r
  ·subst e;simp
  ·have e':¬r=s:=fun h=>e h.symm
   simp[e,e']
 have two:∀ a b:Nat,a/64=b/64→(a%64=b%64↔a=b):=fun a b h=>by omega
 unfold litP;rw[zi6,zi6,zi6];rcases lt4 hc with h|h|h|h <;> rcases lt4 hj with g|g|g|g <;> simp only[za3,h,g,wP] <;> first
  |(
   rw[key];by_cases e:j=c
   ·subst e;simp
   ·have e2:¬j%64=c%64:=fun e3=>e ((two j c (by omega)).1 e3)
    simp[e,e2])
  | (rw[if_neg (by omega)])
theorem zi7(p:Pg)(c j:Nat)(hc:c<256)(hj:j<256):litP (ownP p c) j=(if j=c then !litP p c else litP p j):=by
 rw[←zkx p c j hc hj];unfold litP ownP;unfold wP;rfl
def updF{α : Type}(f:Nat→α)(p:Nat)(v : α):Nat→α:=fun r=>if r=p then v else f r
theorem uFs{α : Type}(f:Nat→α)(p:Nat)(v : α):updF f p v p=v:=if_pos rfl
theorem uFn{α : Type}(f:Nat→α){p r:Nat}(v : α)(h:r≠p):updF f p v r=f r:=if_neg h
structure SlQ(S:Sb)(p k:Nat)(q:Pg):Prop where
 kd:q.kd=4
 od:q.od=0
 cl:q.cl=(k:Int)
 lv:q.lv=((ncl k-(S.fl p).length:Nat):Int)
 fs:q.fs=hdI (S.fl p)
 bt:∀ i,i<256→litP q i=decide (i<ncl k∧i ∉ S.fl p)
theorem SlP.q{S p k q}(h:SlP S p k q):SlQ S p k q:=⟨h.kd,h.od,h.cl,h.lv,h.fs,h.bt⟩
theorem SlQ.p{S p k q}(h:SlQ S p k q)(n:q.nx=nxI (S.pl k) p)(v:q.pv=pvI (S.pl k) p):SlP S p k q:=⟨h.kd,h.od,h.cl,h.lv,n,v,h.fs,h.bt⟩
theorem zcm{q q':Pg}(h0:q'.b0=q.b0)(h1:q'.b1=q.b1)(h2:q'.b2=q.b2)(h3:q'.b3=q.b3)(i:Nat):litP q' i=litP q i:=by
 unfold litP;have:wP q' (i/64)=wP q (i/64):=by
  unfold wP;split <;> assumption
 rw[this]
theorem SlQ.rst{S p k q q'}(h:SlQ S p k q)(r:Rst q q'):SlQ S p k q':=by
 obtain⟨a,b,rfl⟩:=r;exact⟨h.kd,h.od,h.cl,h.lv,h.fs,fun i hi=>(zcm rfl rfl rfl rfl i).trans (h.bt i hi)⟩
theorem SlQ.congr{S S' p k q}(h:SlQ S p k q)(e:S'.fl p=S.fl p):SlQ S' p k q:=⟨h.kd,h.od,h.cl,by rw[e];exact h.lv,by rw[e];exact h.fs,fun i hi=>by rw[e];exact h.bt i hi⟩
theorem zbL{x:Bx}{P:Nat→Option Pg}{f:Nat→Nat}{p k:Nat} : ∀ {l:List Nat},Lnk x f p k l→Lnk { x with P:=P } f p k l
 | [],_=>trivial
 | i :: l,h=>⟨by
   rw[h.1]
   cases l <;> rfl,zbL h.2⟩
theorem zcn{pg:Nat→Pg}{l:List Nat}{p r:Nat}(hd:l.Nodup)(hr:r≠p)(hl:r ∉ l):unlP pg l p r=pg r:=by
 unfold unlP;rw[if_neg hr,if_neg,if_neg]
 ·intro e;rcases za4 l p hd with h|⟨b,h,hb,_⟩
  ·omega
  ·exact hl (by rw[show r=b by omega];exact hb)
 ·intro e;rcases zbC l p hd with h|⟨b,h,hb,_⟩
  ·omega
  ·exact hl (by rw[show r=b by omega];exact hb)
theorem zco{pg:Nat→Pg}{l:List Nat}{p r:Nat}(hr:r≠p)(hl:r ∉ l):putP pg l p r=pg r:=by
 unfold putP;rw[if_neg hr,if_neg (fun e=>hl (zcW e.symm))]
def takS(S:Sb)(p k:Nat)(r:List Nat):Sb:={ S with fl:=updF S.fl p r,pl:=if r=[] then updF S.pl k (M.dropL (S.pl k) p) else S.pl }
theorem zky{S:Sb}{p k i:Nat}{r:List Nat}{q:Pg}(hk:k<8)(h:SlP S p k q)(hf:S.fl p=i :: r)(nd:(S.fl p).Nodup)(hi:i<ncl k)(hl:(S.fl p).length≤ncl k):
  SlQ (takS S p k r) p k { ownP q i with fs:=hdI r }∧({ ownP q i with fs:=hdI r } : Pg).nx=q.nx∧({ ownP q i with fs:=hdI r } : Pg).pv=q.pv:=by
 obtain⟨t1,t2,t3,t4,t5,t6,t7⟩:=zaW q i;have hnb:=zaI hk;have hlit:litP q i=false:=by
  rw[h.bt i (by omega),hf];exact decide_eq_false (fun e=>e.2 List.mem_cons_self)
 rw[hf] at nd hl;have hni:i ∉ r:=(List.nodup_cons.1 nd).1;have hfl:(takS S p k r).fl p=r:=uFs _ _ _;rw[List.length_cons] at hl;refine⟨⟨t1.trans h.kd,t2.trans h.od,t3.trans h.cl,?_,by rw[hfl],fun j hj=>?_⟩,t5,t6⟩
 ·show wrap64 (if litP q i=true then q.lv-1 else q.lv+1)=_
  rw[hlit,if_neg (by decide),h.lv,hfl,hf,List.length_cons];unfold wrap64;omega
 ·have e1:litP { ownP q i with fs:=hdI r } j=litP (ownP q i) j:=zcm rfl rfl rfl rfl j;rw[e1,zi7 q i j (by omega) hj,hfl];by_cases e:j=i
  ·rw[if_pos e,hlit];symm;exact decide_eq_true ⟨by omega,by rw[e];exact hni⟩
  ·rw[if_neg e,h.bt j hj,hf];apply decide_eq_decide.2
   rw[List.mem_cons,not_or];exact⟨fun h=>⟨h.1,h.2.2⟩,fun h=>⟨h.1,e,h.2⟩⟩
theorem zkz{m:Mp}{p i k:Nat}{r:List Nat}(hp:p<m.n)(hkd:(m.pg p).kd=4)(hcl:(m.pg p).cl=(k:Int))(hi:i<ncl k)(hlit:litP (m.pg p) i=false)(hr:∀ j∈r,j<ncl k):zfj m p i r={ m with pg:=upp m.pg p { ownP (m.pg p) i with fs:=hdI r } }:=by
 have hcn:zaV (m.pg p).cl=ncl k:=by rw[hcl];rfl
 unfold zfj;rw[(zcN hp hkd (by rw[hcn];exact hi) (by rw[hlit];rfl)).2];obtain⟨t1,t2,t3,_⟩:=zaW (m.pg p) i;have e1:upp m.pg p (ownP (m.pg p) i) p=ownP (m.pg p) i:=if_pos rfl;rw[zbQ (m:={ m with pg:=upp m.pg p (ownP (m.pg p) i) }) hp (by show(upp m.pg p _ p).kd=4;rw[e1];exact t1.trans hkd) (by
  rcases zcX r with e|⟨j,e,hj⟩
  ·exact .inl e
  ·refine .inr ⟨j,e,?_⟩;show j<zaV (upp m.pg p _ p).cl
   rw[e1,show(ownP (m.pg p) i).cl=(m.pg p).cl from t3,hcn];exact hr j hj)]
 show({ m with pg:=upp (upp m.pg p (ownP (m.pg p) i)) p { upp m.pg p (ownP (m.pg p) i) p with fs:=hdI r } } : Mp)=_
 rw[e1];refine congrArg (fun g=>({ m with pg:=g } : Mp)) (funext fun a=>?_);unfold upp;by_cases e:a=p
 ·rw[if_pos e,if_pos e]
 ·rw[if_neg e,if_neg e,if_neg e]
theorem SO.hand{w W sb lw x t fr ls S h w'}(o:SO w W sb lw x t fr ls S h){p k i:Nat}{r:List Nat}(hc:S.c p=some k)(hf:S.fl p=i :: r)(se:SE w W sb lw x t (hanM t.m p i r) (hanH t.m h p k i r) w'):
  SO w w' sb lw { x with P:=pOf (takS S p k r) (hanM t.m p i r) } { t with m:=hanM t.m p i r } fr ls (takS S p k r) (hanH t.m h p k i r):=by
 obtain⟨hk,sp⟩:=o.si.pg p k hc;obtain⟨nd,lt,lk⟩:=o.si.fl p k hc;have hlv:=o.si.lv p k hc;obtain⟨hls,hpn,_⟩:=o.mem hc;have hnb:=zaI hk;have hib:i<ncl k:=lt i (by rw[hf];exact List.mem_cons_self);have hlit:litP (t.m.pg p) i=false:=by
  rw[sp.bt i (by omega),hf];exact decide_eq_false (fun e=>e.2 List.mem_cons_self)
 have e2:=zkz (r:=r) hpn sp.kd sp.cl hib hlit (fun j hj=>lt j (by rw[hf];exact List.mem_cons_of_mem _ hj));obtain⟨q2,q2n,q2v⟩:=zky hk sp hf nd hib hlv;generalize hq2:({ ownP (t.m.pg p) i with fs:=hdI r } : Pg)=Q2 at *;have hpl:p∈S.pl k:=(o.si.pm k hk p).2 ⟨hc,by rw[hf];exact List.cons_ne_nil _ _⟩;have hln:(S.pl k).Nodup:=o.si.pn k hk
 have pg2:∀ a c,S.c a=some c→SlQ (takS S p k r) a c (upp t.m.pg p Q2 a)∧(upp t.m.pg p Q2 a).nx=nxI (S.pl c) a∧(upp t.m.pg p Q2 a).pv=pvI (S.pl c) a:=fun a c ha=>by
  obtain⟨hc8,sa⟩:=o.si.pg a c ha;unfold upp;by_cases e:a=p
  ·subst e;rw[hc] at ha
   cases ha
   rw[if_pos rfl,q2n,q2v];exact⟨q2,sp.nx,sp.pv⟩
  ·rw[if_neg e];exact⟨sa.q.congr (uFn _ _ e),sa.nx,sa.pv⟩
 have hout2:∀ a,S.c a=none→upp t.m.pg p Q2 a=t.m.pg a:=fun a ha=>by
  unfold upp;rw[if_neg];intro e;rw[e,hc] at ha
  cases ha
 -- the pages in the end
 obtain⟨pgF,hpgF,hF1,hF2,hF3,hF4⟩:∃ pgF:Nat→Pg,hanM t.m p i r={ t.m with pg:=pgF }∧(∀ a,S.c a=none→pgF a=t.m.pg a)∧(∀ a c,S.c a=some c→SlQ (takS S p k r) a c (pgF a)∧(pgF a).nx=nxI ((takS S p k r).pl c) a∧(pgF a).pv=pvI ((takS S p k r).pl c) a)∧(∀ c,c<8→hanH t.m h p k i r c=hdI ((takS S p k r).pl c))∧True:=by
  by_cases hr:r=[]
  ·have hU:=zkJ (m:={ t.m with pg:=upp t.m.pg p Q2 }) (h:=h) (c:=k) hln hpl (fun a ha=>by
    have hca:=((o.si.pm k hk a).1 ha).1;obtain⟨h1,h2,h3⟩:=pg2 a k hca;exact⟨(o.mem hca).2.1,h1.kd,h2,h3⟩)
   have ePl:(takS S p k r).pl=updF S.pl k (M.dropL (S.pl k) p):=(by unfold takS;rw[if_pos hr]);have np:NP (upp t.m.pg p Q2) S k (S.pl k):=fun a ha=>(pg2 a k ha).2
   have np2:=zkL np hln hpl;refine⟨unlP (upp t.m.pg p Q2) (S.pl k) p,?_,fun a ha=>?_,fun a c ha=>?_,fun c hc8=>?_,trivial⟩
   ·unfold hanM;rw[if_pos hr,e2,hU.1]
   ·have hap:a≠p:=fun e=>by rw[e,hc] at ha;cases ha
    have hal:a ∉ S.pl k:=fun e=>by rw[((o.si.pm k hk a).1 e).1] at ha;cases ha
    rw[zcn hln hap hal];exact hout2 a ha
   ·obtain⟨h1,h2,h3⟩:=pg2 a c ha;refine⟨h1.rst (zfN _ _ _ _),?_⟩;rw[ePl];by_cases e:c=k
    ·subst e;rw[uFs];exact np2 a ha
    ·rw[uFn _ _ e];have hap:a≠p:=fun e3=>by rw[e3,hc] at ha;cases ha;exact e rfl
     have hal:a ∉ S.pl k:=fun e3=>by rw[((o.si.pm k hk a).1 e3).1] at ha;cases ha;exact e rfl
     rw[zcn hln hap hal];exact⟨h2,h3⟩
   ·unfold hanH;rw[if_pos hr,e2,hU.2,ePl];by_cases e:c=k
    ·subst e;rw[uFs,zcL hln hpl];by_cases e3:pvI (S.pl c) p = -1
     ·rw[if_pos e3,if_pos e3];exact if_pos rfl
     ·rw[if_neg e3,if_neg e3];exact o.hd c hc8
    ·rw[uFn _ _ e];by_cases e3:pvI (S.pl k) p = -1
     ·rw[if_pos e3];exact(if_neg e).trans (o.hd c hc8)
     ·rw[if_neg e3];exact o.hd c hc8
  ·have ePl:(takS S p k r).pl=S.pl:=(by unfold takS;rw[if_neg hr]);refine⟨upp t.m.pg p Q2,?_,hout2,fun a c ha=>?_,fun c hc8=>?_,trivial⟩
   ·unfold hanM;rw[if_neg hr,e2]
   ·rw[ePl];exact pg2 a c ha
   ·unfold hanH;rw[if_neg hr,ePl];exact o.hd c hc8
 have hsw:=se.1;rw[hpgF] at hsw ⊢;have hfl:∀ a c,S.c a=some c→((takS S p k r).fl a=r∧a=p)∨((takS S p k r).fl a=S.fl a∧a≠p):=fun a c ha=>by
  by_cases e:a=p
  ·exact .inl ⟨by rw[e];exact uFs _ _ _,e⟩
  ·exact .inr ⟨uFn _ _ e,e⟩
 refine⟨hsw.reP _,o.sf.repaint S (takS S p k r) o.si.eP { t.m with pg:=pgF } rfl rfl rfl (fun a ha=>?_) (fun a c ha=>⟨(hF2 a c ha).1.kd,(o.mem ha).1⟩),o.st,o.bm,⟨rfl,fun a c ha=>⟨(o.si.pg a c ha).1,(hF2 a c ha).1.p (hF2 a c ha).2.1 (hF2 a c ha).2.2⟩,fun a c ha=>?_,fun a c ha=>?_,fun c hc8=>?_,fun c hc8 a=>?_⟩,hF3⟩
 ·have ha:S.c a=none:=ha;rw[if_pos ha];exact hF1 a ha
 ·replace ha:S.c a=some c:=ha;obtain⟨n1,n2,n3⟩:=o.si.fl a c ha;rcases hfl a c ha with ⟨e,rfl⟩|⟨e,_⟩
  ·rw[e];rw[hc] at ha
   cases ha
   rw[hf] at n1 n2 n3;exact⟨(List.nodup_cons.1 n1).2,fun j hj=>n2 j (List.mem_cons_of_mem _ hj),zbL n3.2⟩
  ·rw[e];exact⟨n1,n2,zbL n3⟩
 ·have hl:=o.si.lv a c ha;rcases hfl a c ha with ⟨e,rfl⟩|⟨e,_⟩
  ·rw[e];rw[hf,List.length_cons] at hl;omega
  ·rw[e];exact hl
 ·have:=o.si.pn c hc8;unfold takS;by_cases hr:r=[]
  ·rw[if_pos hr];show(updF S.pl k _ c).Nodup
   by_cases e:c=k
   ·subst e;rw[uFs];exact zfK this p
   ·rw[uFn _ _ e];exact this
  ·rw[if_neg hr];exact this
 ·have hpm:=o.si.pm c hc8 a;show a∈(takS S p k r).pl c↔(S.c a=some c∧updF S.fl p r a≠[])
  by_cases hr:r=[]
  ·have ePl:(takS S p k r).pl=updF S.pl k (M.dropL (S.pl k) p):=(by unfold takS;rw[if_pos hr]);rw[ePl];by_cases ea:a=p
   ·subst ea;rw[uFs];constructor
    ·intro hm;exfalso
     by_cases e:c=k
     ·subst e;rw[uFs,zaE] at hm;exact hm.2 rfl
     ·rw[uFn _ _ e,hpm,hc] at hm
      cases hm.1
      exact e rfl
    ·exact fun hm=>absurd hr hm.2
   ·rw[uFn _ _ ea];by_cases e:c=k
    ·subst e;rw[uFs,zaE,hpm];exact⟨fun hm=>hm.1,fun hm=>⟨hm,ea⟩⟩
    ·rw[uFn _ _ e];exact hpm
  ·have ePl:(takS S p k r).pl=S.pl:=(by unfold takS;rw[if_neg hr]);rw[ePl,hpm];by_cases ea:a=p
   ·subst ea;rw[uFs,hf];exact⟨fun hm=>⟨hm.1,hr⟩,fun hm=>⟨hm.1,List.cons_ne_nil _ _⟩⟩
   ·rw[uFn _ _ ea]
end Go.Proofs.YtgjdmkfpmokkaaaGreatDoor
