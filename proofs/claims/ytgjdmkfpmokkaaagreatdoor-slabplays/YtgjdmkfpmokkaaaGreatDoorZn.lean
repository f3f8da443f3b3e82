import Derived.Test.YtgjdmkfpmokkaaaGreatDoorZm
set_option maxRecDepth 1000000
set_option maxHeartbeats 80000000
namespace Go.Proofs.YtgjdmkfpmokkaaaGreatDoor
open Go.RowKit
set_option linter.unusedVariables false
theorem zkM{x x':Bx}(h:x'.base=x.base)(p k n:Nat):caN x' p k n=caN x p k n:=by unfold caN;rw[h]
theorem zbO{x x':Bx}{f f':Nat→Nat}{p k:Nat}(hb:x'.base=x.base):∀ {l:List Nat},(∀ i∈l,M.word f' (4096*p+i*szC k)=M.word f (4096*p+i*szC k))→Lnk x f p k l→Lnk x' f' p k l
 | [],_,_=>trivial
 | i :: l,hf,h=>⟨by
   rw[hf i List.mem_cons_self,h.1]
   cases l with
   | nil=>rfl
   | cons j l=>exact(zkM hb p k j).symm,zbO hb (fun j hj=>hf j (List.mem_cons_of_mem _ hj)) h.2⟩
theorem zcw{f g:Nat→Nat}{o:Nat}(h:∀ i,i<8→g (o+i)=f (o+i)):M.word g o=M.word f o:=by
 unfold M.word;exact wordTo_congr _ _ 8 h
theorem SO.pool{w W W' sb lw x t fr ls S h x1 t1 fr1 ls1}(o:SO w W sb lw x t fr ls S h)(po:PO w W' lw x1 t1 fr1 ls1)(sm:Sm x x1)(bk:BK t t1 ls ls1)(sub:∀ p k,S.c p=some k→(p,0)∈ls1)(kp:Kt (bown x) W W'):SO w W' sb lw x1 t1 fr1 ls1 S h:=by
 have hpage:∀ p k,S.c p=some k→t1.m.pg p=t.m.pg p:=fun p k hp=>
  (po.sf.pslab (p:=p) (q:=t.m.pg p) (by rw[sm.P,o.si.eP];exact zaQ hp)).2.2.2
 refine⟨⟨po.pl,?_,o.sw.nw,o.sw.tb⟩,po.sf,po.st,po.bm,⟨?_,fun p k hp=>?_,fun p k hp=>?_,o.si.lv,o.si.pn,o.si.pm⟩,o.hd⟩
 ·rw[sm.base];exact(kp.block _ (lH o.sw.bx) (fun e=>o.sw.nsb (.inl e))).trans o.sw.bx
 ·rw[sm.P,o.si.eP];funext p
  cases e:S.c p with
  | none=>rw[zaP e,zaP e]
  | some k=>rw[zaQ e,zaQ e,hpage p k e]
 ·obtain⟨h1,h2⟩:=o.si.pg p k hp;rw[hpage p k hp];exact⟨h1,h2⟩
 ·obtain⟨n1,n2,n3⟩:=o.si.fl p k hp;have hk:=(o.si.pg p k hp).1;have hnb:=zaI hk;have hz:=zay hk;refine⟨n1,n2,zbO sm.base (fun i hi=>zcw fun j hj=>?_) n3⟩;have hib:=n2 i hi;have h2:(i+1)*szC k≤ncl k*szC k:=Nat.mul_le_mul_right _ hib;rw[Nat.add_mul,Nat.one_mul,hnb.1] at h2;have hd:(4096*p+i*szC k+j)/4096=p:=by omega
  refine bk _ ?_ ?_
  ·rw[hd];exact⟨p,0,(o.mem hp).1,Nat.le_refl _,by omega⟩
  ·rw[hd];exact⟨p,0,sub p k hp,Nat.le_refl _,by omega⟩
theorem zfO(f:Nat→Nat)(P off z:Nat)(hz : 8≤z):∀ k i,i<k→P+k*z<18446744073709551616→M.word (chF f P off z k) (off+i*z)=P+(i+1)*z
 | 0,i,h,_=>absurd h (Nat.not_lt_zero _)
 | k+1,i,h,h64=>by
  rw[chF];by_cases e:i=k
  ·subst e;rw[M.word_upd _ _ _ h64]
  ·have hl:i<k:=(by omega);have h1:(i+1)*z≤k*z:=Nat.mul_le_mul_right _ hl;rw[Nat.add_mul,Nat.one_mul] at h1;have h2:k*z≤(k+1)*z:=Nat.mul_le_mul_right _ (by omega);rw[M.word_far _ _ _ _ (.inr (by omega))];exact zfO f P off z hz k i hl (by omega)
theorem zhG(f:Nat→Nat)(P off z:Nat):∀ k j,(∀ i,i<k→¬(off+i*z≤j∧j<off+i*z+8))→chF f P off z k j=f j
 | 0,j,_=>rfl
 | k+1,j,h=>by
  rw[chF];unfold M.upd;rw[if_neg (h k (by omega))];exact zhG f P off z k j (fun i hi=>h i (by omega))
theorem zfc(f:Nat→Nat)(x:Bx)(p k:Nat)(hk:k<8)(j:Nat)(hj:¬(4096*p≤j∧j<4096*p+4096)):chA f (ad x p) (4096*p) (szC k) (ncl k) j=f j:=by
 have hnb:=zaI hk;have hz:=zay hk;have hin:∀ i,i<ncl k→i*szC k+szC k≤4096:=fun i hi=>by
  have h2:(i+1)*szC k≤ncl k*szC k:=Nat.mul_le_mul_right _ hi;rw[Nat.add_mul,Nat.one_mul,hnb.1] at h2;exact h2
 unfold chA;have h1:=hin (ncl k-1) (by omega);unfold M.upd;rw[if_neg (by omega)];refine zhG _ _ _ _ _ _ fun i hi=>?_
 have:=hin i (by omega);omega
theorem zey(x:Bx)(f:Nat→Nat)(p k:Nat)(hk:k<8)(hb:x.base+4096*p+4096≤9223372036854775808):∀ n a,a+n=ncl k→Lnk x (chA f (ad x p) (4096*p) (szC k) (ncl k)) p k (List.range' a n)
 | 0,a,_=>trivial
 | n+1,a,h=>by
  have hnb:=zaI hk;have hz:=zay hk;obtain⟨M1,hM⟩:∃ M1,ncl k=M1+1:=⟨ncl k-1,by omega⟩;have hMz:M1*szC k+szC k=4096:=by
   have:=hnb.1;rw[hM,Nat.add_mul,Nat.one_mul] at this;exact this
  refine⟨?_,zey x f p k hk hb n (a+1) (by omega)⟩;unfold chA;rw[show ncl k-1=M1 by omega]
  cases n with
  | zero=>
   have ea:a=M1:=(by omega);subst ea;rw[M.word_upd _ _ _ (by decide)];rfl
  | succ n=>
   have hl:a<M1:=(by omega);have h1:(a+1)*szC k≤M1*szC k:=Nat.mul_le_mul_right _ hl;rw[Nat.add_mul,Nat.one_mul] at h1;rw[M.word_far _ _ _ _ (.inr (by omega)),zfO _ _ _ _ (by omega) M1 a hl (by unfold ad;omega)];show _=caN x p k (a+1)
   unfold caN ad;rfl
def freS(S:Sb)(p k:Nat):Sb:=⟨updF S.c p (some k),updF S.fl p (List.range' 0 (ncl k)),updF S.pl k (p :: S.pl k)⟩
def freM(m:Mp)(h:Nat→Int)(p k:Nat):Mp:=putM (zaG (zcJ m (p:Int) (k:Int)) (p:Int) 0) h (p:Int) k
theorem zjy{q:Pg}(h0:q.b0=0)(h1:q.b1=0)(h2:q.b2=0)(h3:q.b3=0)(i:Nat):litP q i=false:=by
 unfold litP;have:wP q (i/64)=0:=by
  unfold wP;split <;> assumption
 rw[this];simp
theorem zlf{m:Mp}{h:Nat→Int}{p k:Nat}{l:List Nat}(hp:p<m.n)(hk:k<8)(hh:h k=hdI l)(hl:∀ r∈l,r<m.n∧(m.pg r).kd=4∧lnk m.n (m.pg r).nx=true)(hpl:p ∉ l):freM m h p k={ m with pg:=putP (upp m.pg p { zaL (k:Int)with fs:=0 }) l p }:=by
 have hnb:=zaI hk;have e1:zcJ m (p:Int) (k:Int)={ m with pg:=upp m.pg p (zaL (k:Int)) }:=by
  unfold zcJ;rw[if_pos ⟨zae hp,by omega,by omega⟩,Int.toNat_natCast]
 have e2:upp m.pg p (zaL (k:Int)) p=zaL (k:Int):=if_pos rfl;have e3:zaG { m with pg:=upp m.pg p (zaL (k:Int)) } (p:Int) 0={ m with pg:=upp m.pg p { zaL (k:Int)with fs:=0 } }:=by
  rw[zbQ (m:={ m with pg:=upp m.pg p (zaL (k:Int)) }) (c:=(0:Int)) hp (by show(upp m.pg p _ p).kd=4;rw[e2];rfl) (.inr ⟨0,rfl,by
   show 0<zaV (upp m.pg p _ p).cl
   rw[e2];show 0<ncl k
   omega⟩)]
  show({ m with pg:=upp (upp m.pg p (zaL (k:Int))) p { upp m.pg p (zaL (k:Int)) p with fs:=0 } } : Mp)=_
  rw[e2];refine congrArg (fun g=>({ m with pg:=g } : Mp)) (funext fun a=>?_);unfold upp;by_cases e:a=p
  ·rw[if_pos e,if_pos e]
  ·rw[if_neg e,if_neg e,if_neg e]
 unfold freM;rw[e1,e3];have e4:upp m.pg p { zaL (k:Int)with fs:=0 } p={ zaL (k:Int)with fs:=0 }:=if_pos rfl;exact zkI (m:={ m with pg:=upp m.pg p { zaL (k:Int)with fs:=0 } }) hp (by show(upp m.pg p _ p).kd=4;rw[e4];rfl) hh (fun r hr=>by
  have hrp:r≠p:=fun e=>hpl (e▸hr)
  have e5:upp m.pg p { zaL (k:Int)with fs:=0 } r=m.pg r:=if_neg hrp;show r<m.n∧(upp m.pg p _ r).kd=4∧lnk m.n (upp m.pg p _ r).nx=true
  rw[e5];exact hl r hr) hpl
theorem zi5{n:Nat}(h : 0<n):hdI (List.range' 0 n)=0:=by
 obtain⟨m,rfl⟩:∃ m,n=m+1:=⟨n-1,by omega⟩;rfl
theorem SO.fresh{w W W' sb lw x t fr ls S h}(o:SO w W sb lw x t fr ls S h){p k:Nat}(hk:k<8)(hls:(p,0)∈ls)(hc:S.c p=none)
  (sw:SW w W' sb lw x ⟨chA t.f (ad x p) (4096*p) (szC k) (ncl k),freM t.m h p k,t.hd⟩ (uphI h k (p:Int))):
  SO w W' sb lw { x with P:=pOf (freS S p k) (freM t.m h p k) } ⟨chA t.f (ad x p) (4096*p) (szC k) (ncl k),freM t.m h p k,t.hd⟩ fr ls (freS S p k) (uphI h k (p:Int)):=by
 have hnb:=zaI hk;have hz:=zay hk;have hpn:p<t.m.n:=by
  have:=(o.sf.sn.al hls).2.2;omega
 have n4:=o.po.nums.2.2.2.1;have hst:=o.st;have hpb:x.base+4096*p+4096≤9223372036854775808:=by
  have h5:(p+1)*4096≤t.m.n*4096:=Nat.mul_le_mul_right _ hpn;omega
 have hpl:p ∉ S.pl k:=fun e=>by
  rw[((o.si.pm k hk p).1 e).1] at hc
  cases hc
 have hln:=o.si.pn k hk;have eM:=zlf (m:=t.m) (h:=h) hpn hk (o.hd k hk) (fun r hr=>by
  have hcr:=((o.si.pm k hk r).1 hr).1;have sr:=(o.si.pg r k hcr).2;refine⟨(o.mem hcr).2.1,sr.kd,?_⟩;rw[sr.nx];rcases za4 (S.pl k) r hln with e|⟨b,e,hb,_⟩
  ·rw[e];exact zb8 _
  ·rw[e];exact zcv (o.mem ((o.si.pm k hk b).1 hb).1).2.1) hpl
 rw[eM] at sw ⊢;generalize hpgF:putP (upp t.m.pg p { zaL (k:Int)with fs:=0 }) (S.pl k) p=pgF at *;have hne:∀ a,a≠p→(freS S p k).c a=S.c a∧(freS S p k).fl a=S.fl a:=fun a ha=>⟨uFn _ _ ha,uFn _ _ ha⟩
 have hcp:(freS S p k).c p=some k:=uFs _ _ _;have hfp:(freS S p k).fl p=List.range' 0 (ncl k):=uFs _ _ _;have hup:∀ a,a≠p→upp t.m.pg p { zaL (k:Int)with fs:=0 } a=t.m.pg a:=fun a ha=>if_neg ha
 have huq:upp t.m.pg p { zaL (k:Int)with fs:=0 } p={ zaL (k:Int)with fs:=0 }:=if_pos rfl;have F0:∀ a,S.c a=none→a≠p→pgF a=t.m.pg a:=fun a ha hap=>by
  have hal:a ∉ S.pl k:=fun e=>by
   rw[((o.si.pm k hk a).1 e).1] at ha
   cases ha
  rw[←hpgF,zco hap hal];exact hup a hap
 have Q0:SlQ (freS S p k) p k { zaL (k:Int)with fs:=0 }:=by
  refine⟨rfl,rfl,rfl,?_,?_,fun i hi=>?_⟩
  ·rw[hfp,List.length_range',Nat.sub_self];rfl
  ·rw[hfp,zi5 (by omega)]
  ·rw[zjy rfl rfl rfl rfl,hfp];symm;refine decide_eq_false fun e=>e.2 (List.mem_range'_1.2 ⟨Nat.zero_le _,by omega⟩)
 have NP0:NP (upp t.m.pg p { zaL (k:Int)with fs:=0 }) (freS S p k) k (S.pl k):=fun a ha=>by
  by_cases e:a=p
  ·subst e;rw[huq,zfb hpl,zdY hpl];exact⟨rfl,rfl⟩
  ·rw[(hne a e).1] at ha;rw[hup a e];exact⟨(o.si.pg a k ha).2.nx,(o.si.pg a k ha).2.pv⟩
 have NP1:=zkK NP0 hln hpl;have F2:∀ a c,(freS S p k).c a=some c→c<8∧SlP (freS S p k) a c (pgF a):=fun a c ha=>by
  have hq:SlQ (freS S p k) a c (upp t.m.pg p { zaL (k:Int)with fs:=0 } a)∧c<8:=by
   by_cases e:a=p
   ·subst e;rw[hcp] at ha
    cases ha
    rw[huq];exact⟨Q0,hk⟩
   ·rw[(hne a e).1] at ha;rw[hup a e];exact⟨(o.si.pg a c ha).2.q.congr (hne a e).2,(o.si.pg a c ha).1⟩
  refine⟨hq.2,(hq.1.rst (by rw[←hpgF];exact zfM _ _ _ _)).p ?_ ?_⟩
  ·show(pgF a).nx=nxI (updF S.pl k (p :: S.pl k) c) a
   by_cases e:c=k
   ·subst e;rw[uFs,←hpgF];exact(NP1 a ha).1
   ·have hap:a≠p:=fun e2=>by rw[e2,hcp] at ha;cases ha;exact e rfl
    rw[uFn _ _ e];rw[(hne a hap).1] at ha;have hal:a ∉ S.pl k:=fun e2=>by rw[((o.si.pm k hk a).1 e2).1] at ha;cases ha;exact e rfl
    rw[←hpgF,zco hap hal,hup a hap];exact(o.si.pg a c ha).2.nx
  ·show(pgF a).pv=pvI (updF S.pl k (p :: S.pl k) c) a
   by_cases e:c=k
   ·subst e;rw[uFs,←hpgF];exact(NP1 a ha).2
   ·have hap:a≠p:=fun e2=>by rw[e2,hcp] at ha;cases ha;exact e rfl
    rw[uFn _ _ e];rw[(hne a hap).1] at ha;have hal:a ∉ S.pl k:=fun e2=>by rw[((o.si.pm k hk a).1 e2).1] at ha;cases ha;exact e rfl
    rw[←hpgF,zco hap hal,hup a hap];exact(o.si.pg a c ha).2.pv
 have sf1:=o.sf.fill (p:=p) (k:=0) hls (f':=chA t.f (ad x p) (4096*p) (szC k) (ncl k)) (fun j hj=>zfc t.f x p k hk j (by omega));refine⟨sw.reP _,sf1.repaint S (freS S p k) o.si.eP { t.m with pg:=pgF } rfl rfl rfl (fun a ha=>?_) (fun a c ha=>⟨(F2 a c ha).2.kd,?_⟩),o.st,o.bm,⟨rfl,F2,fun a c ha=>?_,fun a c ha=>?_,fun c hc8=>?_,fun c hc8 a=>?_⟩,fun c hc8=>?_⟩
 ·have hap:a≠p:=fun e=>by rw[e,hcp] at ha;cases ha
  rw[(hne a hap).1] at ha;rw[if_pos ha];exact F0 a ha hap
 ·by_cases e:a=p
  ·rw[e];exact hls
  ·rw[(hne a e).1] at ha;exact(o.mem ha).1
 ·by_cases e:a=p
  ·subst e;rw[hcp] at ha
   cases ha
   rw[hfp];refine⟨List.nodup_range',fun i hi=>?_,zbL (zey x t.f a k hk hpb (ncl k) 0 (by omega))⟩;have:=(List.mem_range'_1.1 hi).2;omega
  ·rw[(hne a e).1] at ha;rw[(hne a e).2];obtain⟨n1,n2,n3⟩:=o.si.fl a c ha;have hc8:=(o.si.pg a c ha).1;have hnb2:=zaI hc8;have hz2:=zay hc8;refine⟨n1,n2,zbL (zbO rfl (fun i hi=>zcw fun j hj=>?_) n3)⟩;have hib:=n2 i hi;have h2:(i+1)*szC c≤ncl c*szC c:=Nat.mul_le_mul_right _ hib;rw[Nat.add_mul,Nat.one_mul,hnb2.1] at h2;exact zfc t.f x p k hk _ (by omega)
 ·by_cases e:a=p
  ·subst e;rw[hcp] at ha
   cases ha
   rw[hfp,List.length_range'];exact Nat.le_refl _
  ·rw[(hne a e).1] at ha;rw[(hne a e).2];exact o.si.lv a c ha
 ·show(updF S.pl k (p :: S.pl k) c).Nodup
  by_cases e:c=k
  ·subst e;rw[uFs];exact List.nodup_cons.2 ⟨hpl,hln⟩
  ·rw[uFn _ _ e];exact o.si.pn c hc8
 ·show a∈updF S.pl k (p :: S.pl k) c↔((freS S p k).c a=some c∧(freS S p k).fl a≠[])
  have hpm:=o.si.pm c hc8 a;by_cases ea:a=p
  ·subst ea;rw[hcp,hfp];have hrn:List.range' 0 (ncl k)≠[]:=by
    intro e;have:=congrArg List.length e;rw[List.length_range',List.length_nil] at this;omega
   by_cases e:c=k
   ·subst e;rw[uFs];exact⟨fun _=>⟨rfl,hrn⟩,fun _=>List.mem_cons_self⟩
   ·rw[uFn _ _ e,hpm,hc];constructor
    ·rintro ⟨e2,_⟩;cases e2
    ·rintro ⟨e2,_⟩;cases e2;exact absurd rfl e
  ·rw[(hne a ea).1,(hne a ea).2];by_cases e:c=k
   ·subst e;rw[uFs,List.mem_cons,hpm];exact⟨fun h=>h.resolve_left ea,fun h=>.inr h⟩
   ·rw[uFn _ _ e];exact hpm
 ·show uphI h k (p:Int) c=hdI (updF S.pl k (p :: S.pl k) c)
  by_cases e:c=k
  ·subst e;rw[uFs];exact if_pos rfl
  ·rw[uFn _ _ e];exact(if_neg e).trans (o.hd c hc8)
inductive Ned(x:Bx)(t:Bt)(fr:Nat→List Nat)(d:Bool)(p:Nat)(b:Bool)(fr':Nat→List Nat):Prop where
 | here (j:Nat) (l:List Nat) (hj:j≤x.o) (hz:∀ a,a<j→fr a=[]) (hp:fr j=p :: l) (hb:b=false) (hf:fr'=cutF (frU fr j (M.dropL (fr j) p)) p j 0)
 | grew (hz:∀ a,a≤x.o→fr a=[]) (hd:d=false) (hl:x.n+x.R≤x.lim*x.R) (hb:b=true) (hp:p=t.m.n) (hf:fr'=cutF fr t.m.n x.o 0)
structure FrO(w W:World)(sb lw:Nat)(x:Bx)(t:Bt)(fr:Nat→List Nat)(ls:List (Nat×Nat))(S:Sb)(h:Nat→Int)(k:Nat)(d:Bool)(p:Nat)(b:Bool)(w':World):Prop where
 ex:∃ x' t' fr',Ned x t fr d p b fr'∧SO w w' sb lw x' t' fr' (ls ++ [(p,0)]) (freS S p k) (uphI h k (p:Int))∧Sm x { x' with P:=x.P }∧(∀ i,Lv ls (i/4096)→t'.f i=t.f i)∧Nb W x x'∧t'.m.n=(if b=true then t.m.n + 2 ^ x.o else t.m.n)∧x'.n=(if b=true then x.n + x.R else x.n)
 hc:S.c p=none
 nl:∀ i,(p,i) ∉ ls
 kp:Kt (sown x sb) W w'
inductive FrP(w W:World)(sb lw:Nat)(x:Bx)(t:Bt)(fr:Nat→List Nat)(ls:List (Nat×Nat))(S:Sb)(h:Nat→Int)(k:Nat)(d:Bool)(e:Ending)(w':World):Prop where
 | stuck (hz:∀ a,a≤x.o→fr a=[]) (hd:d=true∨x.n=x.lim*x.R) (he:e=.returned (.tuple #[.bool false,.int .i64 2])) (kp:Kt nO W w')
 | got (p:Nat) (b:Bool) (he:e=.returned (.tuple #[.bool b,.int .i64 0])) (fo:FrO w W sb lw x t fr ls S h k d p b w')
theorem znA{w W lw x t fr ls}(po:PO w W lw x t fr ls)(d:Bool):
  Calls Tryz.prog 19 #[.pointer (some ⟨lw,0,none⟩),.int .i64 0,.bool d] W fun e w'=>
   ((∀ a,a≤x.o→fr a=[])∧(d=true∨x.n=x.lim*x.R)∧e=.returned (.tuple #[.int .u64 0,.bool false,.int .i64 2])∧Kt nO W w')∨
   (∃ p b fr' x' t',e=.returned (.tuple #[.int .u64 ((ad x p:Nat):Int),.bool b,.int .i64 0])∧Ned x t fr d p b fr'∧PO w w' lw x' t' fr' (ls ++ [(p,0)])∧Sm x x'∧BK t t' ls (ls ++ [(p,0)])∧Nb W x x'∧Kt (bown x) W w'∧x.P p=none∧(∀ i,(p,i) ∉ ls)∧t'.m.n=(if b=true then t.m.n + 2 ^ x.o else t.m.n)∧x'.n=(if b=true then x.n + x.R else x.n)):=by
 refine(K.Need_any po 0 d).mono fun e w' hN=>?_
 cases hN with
 | bad hk he kp=>
  exfalso
  have:=of_decide_eq_false hk;omega
 | stuck i hk hi hz hd he kp=>
  obtain rfl:i=0:=by omega
  exact .inl ⟨fun a ha=>hz a (Nat.zero_le _) ha,hd,he,kp⟩
 | here i j p l hk hi hij hj hz hp he hs kp=>
  obtain rfl:i=0:=by omega
  obtain⟨t',h1,h2,h3⟩:=hs;refine .inr ⟨p,false,_,x,t',he,.here j l hj (fun a ha=>hz a (Nat.zero_le _) ha) hp rfl rfl,h1,Sm.refl x,h3,fun y e=>.inl e,kp,po.sf.pfree hj (by rw[hp];exact List.mem_cons_self),fun i hm=>?_,by rw[if_neg (by decide)];exact h2,by rw[if_neg (by decide)]⟩;have h0:=po.sf.apart0 hj (show p∈fr j by rw[hp];exact List.mem_cons_self) hm;have hz1 : 0<2 ^ i:=Nat.pow_pos (by decide);have hz2 : 0<2 ^ j:=Nat.pow_pos (by decide);omega
 | grew i hk hi hz hd hl he hs kp=>
  obtain rfl:i=0:=by omega
  obtain⟨x',t',h1,h2,h3,h4,h5,h6⟩:=hs;refine .inr ⟨t.m.n,true,_,x',t',he,.grew (fun a ha=>hz a (Nat.zero_le _) ha) hd hl rfl rfl rfl,h1,h2,h6,h5,kp,po.sf.pout (Nat.le_refl _),fun i hm=>?_,by rw[if_pos rfl];exact h4,by rw[if_pos rfl];exact h3⟩;have:=(po.sf.sn.al hm).2.2;have hz1 : 0<2 ^ i:=Nat.pow_pos (by decide);omega
theorem zmd{w W sb lw x t fr ls S h}(o:SO w W sb lw x t fr ls S h)(k:Nat)(hk:k<8)(d:Bool):
  Calls Tryz.prog 37 #[.pointer (some ⟨sb,0,none⟩),.int .i64 (k:Int),.bool d] W fun e w'=>FrP w W sb lw x t fr ls S h k d e w':=by
 have ND:=hid (znA o.po d);obtain⟨c0,c1⟩:=o.sw.c0;have HO:=hid o;clear o;go_enter Tryz.func37,Tryz.ntmps37;go_wp2_with fail;refine ND.out.mono ?_;rintro e w1 (⟨hz,hd,rfl,kp⟩|⟨p,b,fr1,x1,t1,rfl,hned,hpo,hsm,hbk,hnb,hk1,hPp,hnl,htn,hxn⟩)
 ·have D:=hid (show FrP w W sb lw x t fr ls S h k d (.returned (.tuple #[.bool false,.int .i64 2])) w1 from .stuck hz hd rfl kp);clear hz hd kp ND c0 c1;go_wp2_with fail;exact⟨rfl,.tuple #[.bool false,.int .i64 2],by simp[results,Tryz.results37,go_sem],D.out⟩
 ·have hc:S.c p=none:=by
   cases e:S.c p with
   | none=>rfl
   | some c=>
    rw[HO.out.si.eP,zaQ e] at hPp
    cases hPp
  have o1:=HO.out.pool hpo hsm hbk (fun a c ha=>List.mem_append_left _ (HO.out.mem ha).1) hk1;have hls:(p,0)∈ls ++ [(p,0)]:=List.mem_append_right _ (List.mem_singleton.2 rfl);have hpn:=(o1.sf.sn.al hls).2.2;have n4:=o1.po.nums.2.2.2.1;have n2:=o1.po.nums.2.1;have hst:=o1.st;have hpb : 4096*p+4096≤x1.n:=by
   have h5:(p+1)*4096≤t1.m.n*4096:=Nat.mul_le_mul_right _ hpn;omega
  have had:ad x p=ad x1 p:=by unfold ad;rw[hsm.base]
  rw[had];have hoff:offS x1 (ad x1 p)/4096=p:=by unfold offS ad;omega
  obtain⟨A,hA⟩:=xe (ad x1 p);have hA64:A<18446744073709551616:=by rw[hA];unfold ad;omega
  have PG:=hid (show Calls Tryz.prog 85 #[.pointer (some ⟨sb,0,none⟩),.int .u64 (A:Int)] w1 fun e w'=>e=.returned (.int .i64 (p:Int))∧w'=w1 from by
   have:=zim o1.sw A hA64;rw[hA,hoff] at this;rw[hA];exact this)
  have SL:=hid (zmD o1.sw (p:Int) (k:Int));obtain⟨m1,hm1⟩:=xe (zcJ t1.m (p:Int) (k:Int));rw[←hm1] at SL;generalize zh7 t1.m (p:Int) (k:Int)=se1 at *;have CH:=hid (show ∀ W',SW w W' sb lw x1 { t1 with m:=m1 } h→Calls Tryz.prog 87 #[.pointer (some ⟨sb,0,none⟩),.int .u64 (A:Int),.int .i64 (k:Int)] W' fun e w'=>e=.returned (.tuple #[])∧SW w w' sb lw x1 ⟨chA t1.f (ad x1 p) (4096*p) (szC k) (ncl k),m1,t1.hd⟩ h∧Kt (bown x1) W' w' from fun W' s=>by
   rw[hA];exact zll s p k hk hpb)
  obtain⟨f2,hf2⟩:=xe (chA t1.f (ad x1 p) (4096*p) (szC k) (ncl k));rw[←hf2] at CH;obtain⟨m2,hm2⟩:=xe (zaG m1 (p:Int) 0);have FR:=hid (show ∀ W',SW w W' sb lw x1 ⟨f2,m1,t1.hd⟩ h→Calls Tryz.prog 88 #[.pointer (some ⟨x1.m,0,none⟩),.int .i64 (p:Int),.int .i64 0] W' fun e w'=>e=.returned (.int .i64 (zbJ m1 (p:Int) 0))∧SD w W' sb lw x1 ⟨f2,m1,t1.hd⟩ h m2 w' from fun W' s=>by
   rw[hm2];exact zek s (p:Int) 0)
  generalize zbJ m1 (p:Int) 0=fe1 at *;have PT:=hid (show ∀ W',SW w W' sb lw x1 ⟨f2,m2,t1.hd⟩ h→Calls Tryz.prog 43 #[.pointer (some ⟨sb,0,none⟩),.int .i64 (p:Int),.int .i64 (k:Int)] W' fun e w'=>e=.returned (.tuple #[])∧SE w W' sb lw x1 ⟨f2,m2,t1.hd⟩ (putM m2 h (p:Int) k) (uphI h k (p:Int)) w' from fun W' s=>zmU s (p:Int) k hk);have FIN:=hid (show ∀ w',SW w w' sb lw x1 ⟨f2,putM m2 h (p:Int) k,t1.hd⟩ (uphI h k (p:Int))→Kt (sown x1 sb) w1 w'→FrP w W sb lw x t fr ls S h k d (.returned (.tuple #[.bool b,.int .i64 0])) w' from fun w' s kk=>by
   have e1:putM m2 h (p:Int) k=freM t1.m h p k:=(by unfold freM;rw[hm2,hm1]);rw[e1,hf2] at s;have so:=o1.fresh hk hls hc s;refine .got p b rfl ⟨⟨_,_,fr1,hned,so,⟨hsm.base,hsm.R,hsm.lim,hsm.o,hsm.b,hsm.s,hsm.m,hsm.l,rfl⟩,fun i hi=>?_,hnb,?_,hxn⟩,hc,hnl,?_⟩
   ·have h2:t1.f i=t.f i:=hbk i hi (K.Lv.more hi);show chA t1.f (ad x1 p) (4096*p) (szC k) (ncl k) i=t.f i
    rw[←h2];refine zfc t1.f x1 p k hk i (fun e=>?_);obtain⟨q,c,h3,h4,h5⟩:=hi;have hq:=hpo.sf.sn.apart (List.mem_append_left _ h3) hls;have hip:i/4096=p:=(by omega);rw[hip] at h4 h5;rcases hq with ⟨e2,e3⟩|e2|e2
    ·rw[e2] at h3;exact hnl c h3
    ·omega
    ·omega
   ·show(freM t1.m h p k).n=_
    rw[←htn];unfold freM putM zax;rw[zgn,zgn];unfold zaG;split <;> exact zlw _ _ _
   ·refine(hk1.mono (fun _ _ e=>.inl e)).trans kk (fun _ _ e=>e) (fun y hy e=>?_);rcases e with e|e
    ·rcases hnb y e with e|e
     ·exact .inl e
     ·omega
    ·exact .inr e)
  have O1:=hid o1.sw;rw[←hA];clear hned hpo hsm hbk hnb hk1 hPp hnl htn hxn hc o1 hls hpn n4 n2 hst hpb had hoff hA hm1 hf2 hm2 c0 c1 ND;obtain⟨c0,c1⟩:=O1.out.c0;go_wp2_with fail;refine PG.out.mono ?_;rintro e w2 ⟨rfl,h2⟩;replace h2:=h2.symm;subst h2;have MP:=hid (Map6 O1.out.pl);go_wp2_with fail;refine MP.out.mono ?_;rintro e w2 ⟨rfl,h2⟩;replace h2:=h2.symm;subst h2;go_wp2_with fail;refine SL.out.mono ?_;rintro e w3 ⟨rfl,hs3,hk3⟩;have S3:=hid hs3;have K3:=hid hk3;clear hs3 hk3 c0 c1 MP;go_wp2_with fail;refine(CH.out _ S3.out).mono ?_;rintro e w4 ⟨rfl,hs4,hk4⟩;have S4:=hid hs4;have K4:=hid (K3.out.trans hk4 (fun _ _ e=>e) (fun _ _ e=>e));have MP:=hid (Map6 hs4.pl);obtain⟨c0,c1⟩:=hs4.c0;clear hs4 hk4;go_wp2_with fail;refine MP.out.mono ?_;rintro e w5 ⟨rfl,h5⟩;replace h5:=h5.symm;subst h5;go_wp2_with fail;refine(FR.out _ S4.out).mono ?_;rintro e w5 ⟨rfl,hs5,hk5⟩;have S5:=hid hs5;have K5:=hid (K4.out.trans hk5 (fun _ _ e=>e) (fun _ _ e=>e));clear hs5 hk5 c0 c1;go_wp2_with fail;refine(PT.out _ S5.out).mono ?_;rintro e w6 ⟨rfl,hs6,hk6⟩;have D:=hid (FIN.out w6 hs6 ((K5.out.mono (fun _ _ e=>.inl e)).trans hk6 (fun _ _ e=>e) (fun _ _ e=>e)));clear hs6 hk6;go_wp2_with fail;exact⟨rfl,.tuple #[.bool b,.int .i64 0],by simp[results,Tryz.results37,go_sem],D.out⟩
inductive TkP(w W:World)(sb lw:Nat)(x:Bx)(t:Bt)(fr:Nat→List Nat)(ls:List (Nat×Nat))(S:Sb)(h:Nat→Int)(c:Int)(d:Bool)(e:Ending)(w':World):Prop where
 | bad (hc:¬(0≤c∧c<8)) (he:e=.returned (.tuple #[.int .u64 0,.bool false,.int .i64 1])) (kp:Kt nO W w')
 | stuck (k:Nat) (hk:k<8) (hc:c=(k:Int)) (hl:S.pl k=[]) (hz:∀ a,a≤x.o→fr a=[]) (hd:d=true∨x.n=x.lim*x.R) (he:e=.returned (.tuple #[.int .u64 0,.bool false,.int .i64 2])) (kp:Kt nO W w')
 | old (k p i:Nat) (l r:List Nat) (hk:k<8) (hc:c=(k:Int)) (hl:S.pl k=p :: l) (hf:S.fl p=i :: r) (he:e=.returned (.tuple #[.int .u64 ((caN x p k i:Nat):Int),.bool false,.int .i64 0])) (so:∃ P m' h',SO w w' sb lw { x with P:=P } { t with m:=m' } fr ls (takS S p k r) h'∧m'.n=t.m.n) (kp:Kt (sown x sb) W w')
 | new (k p:Nat) (b:Bool) (hk:k<8) (hc:c=(k:Int)) (hl:S.pl k=[]) (he:e=.returned (.tuple #[.int .u64 ((caN x p k 0:Nat):Int),.bool b,.int .i64 0])) (so:∃ x' t' fr' h',Ned x t fr d p b fr'∧SO w w' sb lw x' t' fr' (ls ++ [(p,0)]) (takS (freS S p k) p k (List.range' 1 (ncl k-1))) h'∧Sm x { x' with P:=x.P }∧(∀ i,Lv ls (i/4096)→t'.f i=t.f i)∧Nb W x x'∧t'.m.n=(if b=true then t.m.n + 2 ^ x.o else t.m.n)∧x'.n=(if b=true then x.n + x.R else x.n)) (hcp:S.c p=none) (nl:∀ i,(p,i) ∉ ls) (kp:Kt (sown x sb) W w')
theorem zkW{w W sb lw x t fr ls S h w'}(o:SO w W sb lw x t fr ls S h){p k i:Nat}{r:List Nat}(hc:S.c p=some k)(hf:S.fl p=i :: r)(se:SE w W sb lw x t (hanM t.m p i r) (hanH t.m h p k i r) w'):(hanM t.m p i r).n=t.m.n:=by
 have h1:=(o.hand hc hf se).st;have h2:=o.st;have h3:(hanM t.m p i r).n*4096=x.n:=h1;omega
theorem zgd{w W sb lw x t fr ls S h}(o:SO w W sb lw x t fr ls S h)(c:Int)(hc:¬(0≤c∧c<8))(d:Bool):
  Calls Tryz.prog 9 #[.pointer (some ⟨sb,0,none⟩),.int .i64 c,.bool d] W fun e w'=>TkP w W sb lw x t fr ls S h c d e w':=by
 have D:=hid (show TkP w W sb lw x t fr ls S h c d (.returned (.tuple #[.int .u64 0,.bool false,.int .i64 1])) W from .bad hc rfl (Kt.refl _ _));clear o;by_cases h0:c<0
 ·clear hc;go_enter Tryz.func9,Tryz.ntmps9;go_wp2_with fail;exact⟨rfl,.tuple #[.int .u64 0,.bool false,.int .i64 1],by simp[results,Tryz.results9,go_sem],D.out⟩
 ·have h8 : 8≤c:=by omega
  clear hc;go_enter Tryz.func9,Tryz.ntmps9;go_wp2_with fail;exact⟨rfl,.tuple #[.int .u64 0,.bool false,.int .i64 1],by simp[results,Tryz.results9,go_sem],D.out⟩
theorem zge{w W sb lw x t fr ls S h}(o:SO w W sb lw x t fr ls S h)(k:Nat)(hk:k<8)(d:Bool):
  Calls Tryz.prog 9 #[.pointer (some ⟨sb,0,none⟩),.int .i64 (k:Int),.bool d] W fun e w'=>TkP w W sb lw x t fr ls S h (k:Int) d e w':=by
 have ch:=o.sw.hd k hk;have hki:(k:Int)<8:=by omega
 have hk0:¬(k:Int)<0:=by omega
 have hk8:¬ 8≤(k:Int):=by omega
 have HO:=hid o;have HD:=o.hd k hk
 cases hl:S.pl k with
 | nil=>
  rw[hl] at HD;have hz:h k = -1:=HD;rw[hz] at ch;have FR:=hid (zmd o k hk d);have HL:=hid hl;clear o HD hz hl;go_enter Tryz.func9,Tryz.ntmps9;go_wp2_with fail;refine FR.out.mono ?_;intro e w1 hF
  cases hF with
  | stuck hz hd he kp=>
   subst he;have D:=hid (show TkP w W sb lw x t fr ls S h (k:Int) d (.returned (.tuple #[.int .u64 0,.bool false,.int .i64 2])) w1 from .stuck k hk rfl HL.out hz hd rfl kp);clear hz hd kp FR ch;go_wp2_with fail;exact⟨rfl,.tuple #[.int .u64 0,.bool false,.int .i64 2],by simp[results,Tryz.results9,go_sem],D.out⟩
  | got p b he fo=>
   subst he;obtain⟨⟨x1,t1,fr1,hned,o1,hsm,hf1,hnb,htn,hxn⟩,hc,nl,kp⟩:=fo;have hnl:=zaI hk;have hfp:(freS S p k).fl p=0 :: List.range' 1 (ncl k-1):=by
    have:(freS S p k).fl p=List.range' 0 (ncl k):=uFs _ _ _;rw[this];obtain⟨m,hm⟩:∃ m,ncl k=m+1:=⟨ncl k-1,by omega⟩;rw[hm];rfl
   have hcp:(freS S p k).c p=some k:=uFs _ _ _;have c1:w1.cell? ⟨sb,2+k,none⟩=some (.int .i64 (p:Int)):=by
    have:=o1.sw.hd k hk;rw[show uphI h k (p:Int) k=(p:Int)from if_pos rfl] at this;exact this
   have hca:caN x1 p k 0=caN x p k 0:=zkM hsm.base p k 0;have HA:=hid (show Calls Tryz.prog 38 #[.pointer (some ⟨sb,0,none⟩),.int .i64 (p:Int),.int .i64 (k:Int)] w1 fun e w'=>e=.returned (.tuple #[.int .u64 ((caN x p k 0:Nat):Int),.int .i64 0])∧TkP w W sb lw x t fr ls S h (k:Int) d (.returned (.tuple #[.int .u64 ((caN x p k 0:Nat):Int),.bool b,.int .i64 0])) w' from by
    refine(zkS o1 p k 0 _ hcp hfp).mono ?_;rintro e w2 ⟨rfl,se⟩;refine⟨by rw[hca],.new k p b hk rfl HL.out rfl ⟨_,_,fr1,_,hned,o1.hand hcp hfp se,hsm,hf1,hnb,?_,hxn⟩ hc nl ?_⟩
    ·rw[←htn];exact zkW o1 hcp hfp se
    ·refine kp.trans se.2 (fun _ _ e=>e) (fun y hy e=>?_);rcases e with e|e
     ·rcases hnb y e with e|e
      ·exact .inl e
      ·omega
     ·exact .inr e)
   obtain⟨a,ha⟩:=xe (caN x p k 0);rw[←ha] at HA;have hpn:(p:Int) ≠ -1:=(by omega);clear hned o1 hsm hf1 hnb htn hxn hc nl kp hnl hfp hcp hca ha FR ch;go_wp2_with fail;refine HA.out.mono ?_;rintro e w2 ⟨rfl,h2⟩;have D:=hid h2;clear h2;go_wp2_with fail;exact⟨rfl,.tuple #[.int .u64 (a:Int),.bool b,.int .i64 0],by simp[results,Tryz.results9,go_sem],D.out⟩
 | cons p l=>
  rw[hl] at HD;have hz:h k=(p:Int):=HD;rw[hz] at ch;obtain⟨hc,hne⟩:=(o.si.pm k hk p).1 (by rw[hl];exact List.mem_cons_self);obtain⟨i,r,hf⟩:∃ i r,S.fl p=i :: r:=by
   cases e:S.fl p with
   | nil=>exact absurd e hne
   | cons i r=>exact⟨i,r,rfl⟩
  have HA:=hid (show Calls Tryz.prog 38 #[.pointer (some ⟨sb,0,none⟩),.int .i64 (p:Int),.int .i64 (k:Int)] W fun e w'=>e=.returned (.tuple #[.int .u64 ((caN x p k i:Nat):Int),.int .i64 0])∧TkP w W sb lw x t fr ls S h (k:Int) d (.returned (.tuple #[.int .u64 ((caN x p k i:Nat):Int),.bool false,.int .i64 0])) w' from by
   refine(zkS o p k i r hc hf).mono ?_;rintro e w2 ⟨rfl,se⟩;exact⟨rfl,.old k p i l r hk rfl hl hf rfl ⟨_,_,_,o.hand hc hf se,zkW o hc hf se⟩ se.2⟩)
  obtain⟨a,ha⟩:=xe (caN x p k i);rw[←ha] at HA;have hpn:(p:Int) ≠ -1:=by omega
  clear o HD hz hl hc hne hf ha;go_enter Tryz.func9,Tryz.ntmps9;go_wp2_with fail;refine HA.out.mono ?_;rintro e w2 ⟨rfl,h2⟩;have D:=hid h2;clear h2;go_wp2_with fail;exact⟨rfl,.tuple #[.int .u64 (a:Int),.bool false,.int .i64 0],by simp[results,Tryz.results9,go_sem],D.out⟩
theorem zec{w W sb lw x t fr ls S h}(o:SO w W sb lw x t fr ls S h)(c:Int)(d:Bool):
  Calls Tryz.prog 9 #[.pointer (some ⟨sb,0,none⟩),.int .i64 c,.bool d] W fun e w'=>TkP w W sb lw x t fr ls S h c d e w':=by
 by_cases hc : 0≤c∧c<8
 ·obtain⟨k,rfl⟩:∃ k:Nat,c=(k:Int):=⟨c.toNat,by omega⟩;exact zge o k (by omega) d
 ·exact zgd o c hc d
def givS(S:Sb)(p k i:Nat):Sb:={ S with fl:=updF S.fl p (i :: S.fl p),pl:=if S.fl p=[] then updF S.pl k (p :: S.pl k) else S.pl }
def givN(m:Mp)(h:Nat→Int)(p k i:Nat)(f:List Nat):Mp:=if f=[] then putM (ownM m (p:Int) (i:Int) false) h (p:Int) k else ownM m (p:Int) (i:Int) false
def givM(m:Mp)(h:Nat→Int)(p k i:Nat)(f:List Nat):Mp:=zaG (givN m h p k i f) (p:Int) (i:Int)
def givH(h:Nat→Int)(p k:Nat)(f:List Nat):Nat→Int:=if f=[] then uphI h k (p:Int) else h
theorem zaC(pg:Nat→Pg)(p:Nat)(q:Pg):upp pg p q p=q:=if_pos rfl
theorem zaY(pg:Nat→Pg){p a:Nat}(q:Pg)(h:a≠p):upp pg p q a=pg a:=if_neg h
theorem zmb(pg:Nat→Pg)(p:Nat)(q q':Pg):upp (upp pg p q) p q'=upp pg p q':=by
 funext a
 by_cases e:a=p
 ·subst e;rw[zaC,zaC]
 ·rw[zaY _ _ e,zaY _ _ e,zaY _ _ e]
theorem zm1(x:Bx)(p k:Nat)(l:List Nat):hdA x p k (hdI l)=lkA x p k l:=by
 cases l with
 | nil=>rfl
 | cons j l=>
  unfold hdA;rw[if_neg (by show ¬((j:Int) = -1);omega)];rfl
theorem zjl{S:Sb}{p k i:Nat}{q:Pg}(hk:k<8)(h:SlP S p k q)(hi:i<ncl k)(hn:i ∉ S.fl p)(hl:(S.fl p).length<ncl k):
  SlQ (givS S p k i) p k { ownP q i with fs:=(i:Int) }:=by
 obtain⟨t1,t2,t3,t4,t5,t6,t7⟩:=zaW q i;have hnb:=zaI hk;have hlit:litP q i=true:=by
  rw[h.bt i (by omega)];exact decide_eq_true ⟨hi,hn⟩
 have hfl:(givS S p k i).fl p=i :: S.fl p:=uFs _ _ _;refine⟨t1.trans h.kd,t2.trans h.od,t3.trans h.cl,?_,by rw[hfl];rfl,fun j hj=>?_⟩
 ·show wrap64 (if litP q i=true then q.lv-1 else q.lv+1)=_
  rw[hlit,if_pos rfl,h.lv,hfl,List.length_cons];unfold wrap64;omega
 ·have e1:litP { ownP q i with fs:=(i:Int) } j=litP (ownP q i) j:=zcm rfl rfl rfl rfl j;rw[e1,zi7 q i j (by omega) hj,hfl];by_cases e:j=i
  ·rw[if_pos e,hlit];symm;exact decide_eq_false (fun e2=>e2.2 (by rw[e];exact List.mem_cons_self))
  ·rw[if_neg e,h.bt j hj];apply decide_eq_decide.2
   rw[List.mem_cons,not_or];exact⟨fun h=>⟨h.1,e,h.2⟩,fun h=>⟨h.1,h.2.2⟩⟩
theorem SO.nxt{w W sb lw x t fr ls S h}(o:SO w W sb lw x t fr ls S h){k:Nat}(hk:k<8)(r:Nat)(hr:r∈S.pl k):r<t.m.n∧(t.m.pg r).kd=4∧lnk t.m.n (t.m.pg r).nx=true:=by
 have hcr:=((o.si.pm k hk r).1 hr).1;have sr:=(o.si.pg r k hcr).2;refine⟨(o.mem hcr).2.1,sr.kd,?_⟩;rw[sr.nx];rcases za4 (S.pl k) r (o.si.pn k hk)with e|⟨b,e,hb,_⟩
 ·rw[e];exact zb8 _
 ·rw[e];exact zcv (o.mem ((o.si.pm k hk b).1 hb).1).2.1
theorem zmc{w W sb lw x t fr ls S h}(o:SO w W sb lw x t fr ls S h){p k i:Nat}(hc:S.c p=some k)(hi:i<ncl k)(hn:i ∉ S.fl p):
  givM t.m h p k i (S.fl p)={ t.m with pg:=if S.fl p=[] then putP (upp t.m.pg p { ownP (t.m.pg p) i with fs:=(i:Int) }) (S.pl k) p else upp t.m.pg p { ownP (t.m.pg p) i with fs:=(i:Int) } }:=by
 obtain⟨hk,sp⟩:=o.si.pg p k hc;obtain⟨hls,hpn,_⟩:=o.mem hc;have hnb:=zaI hk;have hcn:zaV (t.m.pg p).cl=ncl k:=by rw[sp.cl];rfl
 have hlit:litP (t.m.pg p) i=!false:=by
  rw[sp.bt i (by omega)];exact decide_eq_true ⟨hi,hn⟩
 obtain⟨t1,t2,t3,_⟩:=zaW (t.m.pg p) i;have eO:=(zcN hpn sp.kd (by rw[hcn];exact hi) hlit).2;have hQk:(ownP (t.m.pg p) i).kd=4:=t1.trans sp.kd;have hQc:(ownP (t.m.pg p) i).cl=(k:Int):=t3.trans sp.cl;unfold givM givN;by_cases hf:S.fl p=[]
 ·rw[if_pos hf,if_pos hf,eO];have hpl:p ∉ S.pl k:=fun e=>((o.si.pm k hk p).1 e).2 hf
  rw[zkI (m:={ t.m with pg:=upp t.m.pg p (ownP (t.m.pg p) i) }) (l:=S.pl k) hpn (by show(upp t.m.pg p _ p).kd=4;rw[zaC];exact hQk) (o.hd k hk) (fun r hr=>by
   have hrp:r≠p:=fun e=>hpl (by rw[←e];exact hr)
   show r<t.m.n∧(upp t.m.pg p _ r).kd=4∧lnk t.m.n (upp t.m.pg p _ r).nx=true
   rw[zaY _ _ hrp];exact o.nxt hk r hr) hpl]
  have e1:putP (upp t.m.pg p (ownP (t.m.pg p) i)) (S.pl k) p p={ ownP (t.m.pg p) i with nx:=hdI (S.pl k),pv := -1 }:=by
   unfold putP;rw[if_pos rfl,zaC]
  rw[zbQ (m:={ t.m with pg:=putP (upp t.m.pg p (ownP (t.m.pg p) i)) (S.pl k) p }) hpn (by show(putP _ _ p p).kd=4;rw[e1];exact hQk) (.inr ⟨i,rfl,by show i<zaV (putP _ _ p p).cl;rw[e1];show i<zaV (ownP (t.m.pg p) i).cl;rw[hQc];exact hi⟩)];refine congrArg (fun g=>({ t.m with pg:=g } : Mp)) (funext fun a=>?_);show upp (putP (upp t.m.pg p (ownP (t.m.pg p) i)) (S.pl k) p) p { putP (upp t.m.pg p (ownP (t.m.pg p) i)) (S.pl k) p p with fs:=(i:Int) } a=_
  rw[e1];by_cases e:a=p
  ·subst e;rw[zaC];unfold putP;rw[if_pos rfl,zaC]
  ·rw[zaY _ _ e];unfold putP;rw[if_neg e,if_neg e,zaY _ _ e,zaY _ _ e]
 ·rw[if_neg hf,if_neg hf,eO];rw[zbQ (m:={ t.m with pg:=upp t.m.pg p (ownP (t.m.pg p) i) }) hpn (by show(upp t.m.pg p _ p).kd=4;rw[zaC];exact hQk) (.inr ⟨i,rfl,by show i<zaV (upp t.m.pg p _ p).cl;rw[zaC,hQc];exact hi⟩)];show({ t.m with pg:=upp (upp t.m.pg p (ownP (t.m.pg p) i)) p { upp t.m.pg p (ownP (t.m.pg p) i) p with fs:=(i:Int) } } : Mp)=_
  rw[zaC,zmb]
theorem SO.give{w W W' sb lw x t fr ls S h}(o:SO w W sb lw x t fr ls S h){p k i:Nat}(hc:S.c p=some k)(hi:i<ncl k)(hn:i ∉ S.fl p)(hl:(S.fl p).length<ncl k)
  (sw:SW w W' sb lw x ⟨M.upd t.f (4096*p+i*szC k) 8 (M.byteOf (lkA x p k (S.fl p))),givM t.m h p k i (S.fl p),t.hd⟩ (givH h p k (S.fl p))):
  SO w W' sb lw { x with P:=pOf (givS S p k i) (givM t.m h p k i (S.fl p)) } ⟨M.upd t.f (4096*p+i*szC k) 8 (M.byteOf (lkA x p k (S.fl p))),givM t.m h p k i (S.fl p),t.hd⟩ fr ls (givS S p k i) (givH h p k (S.fl p)):=by
 obtain⟨hk,sp⟩:=o.si.pg p k hc;obtain⟨nd,lt,lk⟩:=o.si.fl p k hc;obtain⟨hls,hpn,hp1,hpb⟩:=o.mem hc;have hnb:=zaI hk;have hz:=zay hk;have n4:=o.po.nums.2.2.2.1;have eM:=zmc o hc hi hn;have Q3:=zjl hk sp hi hn hl;have hq3n:({ ownP (t.m.pg p) i with fs:=(i:Int) } : Pg).nx=(t.m.pg p).nx:=(zaW (t.m.pg p) i).2.2.2.2.1;have hq3v:({ ownP (t.m.pg p) i with fs:=(i:Int) } : Pg).pv=(t.m.pg p).pv:=(zaW (t.m.pg p) i).2.2.2.2.2.1;have hln:(S.pl k).Nodup:=o.si.pn k hk;generalize ({ ownP (t.m.pg p) i with fs:=(i:Int) } : Pg)=Q at *;rw[eM] at sw ⊢;clear eM;have hfl:(givS S p k i).fl p=i :: S.fl p:=uFs _ _ _;have hfn:∀ a,a≠p→(givS S p k i).fl a=S.fl a:=fun a ha=>uFn _ _ ha
 have pg2:∀ a c,S.c a=some c→SlQ (givS S p k i) a c (upp t.m.pg p Q a)∧(upp t.m.pg p Q a).nx=nxI (S.pl c) a∧(upp t.m.pg p Q a).pv=pvI (S.pl c) a:=fun a c ha=>by
  obtain⟨hc8,sa⟩:=o.si.pg a c ha;by_cases e:a=p
  ·subst e;rw[hc] at ha
   cases ha
   rw[zaC,hq3n,hq3v];exact⟨Q3,sp.nx,sp.pv⟩
  ·rw[zaY _ _ e];exact⟨sa.q.congr (hfn a e),sa.nx,sa.pv⟩
 have hout2:∀ a,S.c a=none→upp t.m.pg p Q a=t.m.pg a:=fun a ha=>zaY _ _ (fun e=>by rw[e,hc] at ha;cases ha)
 have hPl:S.fl p=[]→p ∉ S.pl k:=fun hf e=>((o.si.pm k hk p).1 e).2 hf
 -- the pages in the end
 obtain⟨pgF,hpgF⟩:=xe ((if S.fl p=[] then putP (upp t.m.pg p Q) (S.pl k) p else upp t.m.pg p Q));rw[←hpgF] at sw ⊢;have hF1:∀ a,S.c a=none→pgF a=t.m.pg a:=fun a ha=>by
  rw[hpgF];by_cases hf:S.fl p=[]
  ·rw[if_pos hf];have hap:a≠p:=fun e=>by rw[e,hc] at ha;cases ha
   have hal:a ∉ S.pl k:=fun e=>by rw[((o.si.pm k hk a).1 e).1] at ha;cases ha
   rw[zco hap hal];exact hout2 a ha
  ·rw[if_neg hf];exact hout2 a ha
 have hF2:∀ a c,S.c a=some c→SlQ (givS S p k i) a c (pgF a)∧(pgF a).nx=nxI ((givS S p k i).pl c) a∧(pgF a).pv=pvI ((givS S p k i).pl c) a:=fun a c ha=>by
  obtain⟨h1,h2,h3⟩:=pg2 a c ha;rw[hpgF];by_cases hf:S.fl p=[]
  ·have ePl:(givS S p k i).pl=updF S.pl k (p :: S.pl k):=(by unfold givS;rw[if_pos hf]);rw[if_pos hf,ePl];refine⟨h1.rst (zfM _ _ _ _),?_⟩;by_cases e:c=k
   ·subst e;rw[uFs];exact zkK (fun a ha=>(pg2 a c ha).2) hln (hPl hf) a ha
   ·rw[uFn _ _ e];have hap:a≠p:=fun e3=>by rw[e3,hc] at ha;cases ha;exact e rfl
    have hal:a ∉ S.pl k:=fun e3=>by rw[((o.si.pm k hk a).1 e3).1] at ha;cases ha;exact e rfl
    rw[zco hap hal];exact⟨h2,h3⟩
  ·have ePl:(givS S p k i).pl=S.pl:=(by unfold givS;rw[if_neg hf]);rw[if_neg hf,ePl];exact⟨h1,h2,h3⟩
 have hF3:∀ c,c<8→givH h p k (S.fl p) c=hdI ((givS S p k i).pl c):=fun c hc8=>by
  unfold givH;by_cases hf:S.fl p=[]
  ·have ePl:(givS S p k i).pl=updF S.pl k (p :: S.pl k):=(by unfold givS;rw[if_pos hf]);rw[if_pos hf,ePl];by_cases e:c=k
   ·subst e;rw[uFs];exact if_pos rfl
   ·rw[uFn _ _ e];exact(if_neg e).trans (o.hd c hc8)
  ·have ePl:(givS S p k i).pl=S.pl:=(by unfold givS;rw[if_neg hf]);rw[if_neg hf,ePl];exact o.hd c hc8
 have hiz:(i+1)*szC k≤ncl k*szC k:=Nat.mul_le_mul_right _ hi;rw[Nat.add_mul,Nat.one_mul,hnb.1] at hiz;have sf1:=o.sf.fill (p:=p) (k:=0) hls (f':=M.upd t.f (4096*p+i*szC k) 8 (M.byteOf (lkA x p k (S.fl p)))) (fun j hj=>M.upd_out _ _ _ _ _ (by omega));refine⟨sw.reP _,sf1.repaint S (givS S p k i) o.si.eP { t.m with pg:=pgF } rfl rfl rfl (fun a ha=>?_) (fun a c ha=>⟨(hF2 a c ha).1.kd,(o.mem ha).1⟩),o.st,o.bm,⟨rfl,fun a c ha=>⟨(o.si.pg a c ha).1,(hF2 a c ha).1.p (hF2 a c ha).2.1 (hF2 a c ha).2.2⟩,fun a c ha=>?_,fun a c ha=>?_,fun c hc8=>?_,fun c hc8 a=>?_⟩,hF3⟩
 ·have ha:S.c a=none:=ha;rw[if_pos ha];exact hF1 a ha
 ·replace ha:S.c a=some c:=ha;obtain⟨n1,n2,n3⟩:=o.si.fl a c ha;by_cases e:a=p
  ·subst e;rw[hc] at ha
   cases ha
   rw[hfl];refine⟨List.nodup_cons.2 ⟨hn,n1⟩,fun j hj=>?_,?_,?_⟩
   ·rcases List.mem_cons.1 hj with rfl|hj
    ·exact hi
    ·exact n2 j hj
   ·have hb:lkA x a k (S.fl a)<18446744073709551616:=by
     cases e:S.fl a with
     | nil=>show 0<_;decide
     | cons j l=>
      have hj:=n2 j (by rw[e];exact List.mem_cons_self);exact(zaA (x:=x) (p:=a) hk hj (by omega)).2.2
    show M.word (M.upd t.f _ 8 _) _=lkA { x with P:=_ } a k (S.fl a)
    rw[M.word_upd _ _ _ hb]
    cases S.fl a <;> rfl
   ·refine zbL (zbO (x:=x) rfl (fun j hj=>?_) n3);have hji:j≠i:=fun e=>hn (by rw[←e];exact hj)
    refine M.word_far _ _ _ _ ?_;rcases Nat.lt_or_gt_of_ne hji with hlt|hlt
    ·have:(j+1)*szC k≤i*szC k:=Nat.mul_le_mul_right _ hlt;rw[Nat.add_mul,Nat.one_mul] at this;omega
    ·have:(i+1)*szC k≤j*szC k:=Nat.mul_le_mul_right _ hlt;rw[Nat.add_mul,Nat.one_mul] at this;omega
  ·rw[hfn a e];have hc8:=(o.si.pg a c ha).1;have hnb2:=zaI hc8;have hz2:=zay hc8;refine⟨n1,n2,zbL (zbO (x:=x) rfl (fun j hj=>?_) n3)⟩;have hjb:=n2 j hj;have h2:(j+1)*szC c≤ncl c*szC c:=Nat.mul_le_mul_right _ hjb;rw[Nat.add_mul,Nat.one_mul,hnb2.1] at h2;refine M.word_far _ _ _ _ ?_;omega
 ·replace ha:S.c a=some c:=ha;by_cases e:a=p
  ·subst e;rw[hc] at ha
   cases ha
   rw[hfl,List.length_cons];omega
  ·rw[hfn a e];exact o.si.lv a c ha
 ·have:=o.si.pn c hc8;unfold givS;by_cases hf:S.fl p=[]
  ·rw[if_pos hf];show(updF S.pl k _ c).Nodup
   by_cases e:c=k
   ·subst e;rw[uFs];exact List.nodup_cons.2 ⟨hPl hf,this⟩
   ·rw[uFn _ _ e];exact this
  ·rw[if_neg hf];exact this
 ·have hpm:=o.si.pm c hc8 a;show a∈(givS S p k i).pl c↔(S.c a=some c∧(givS S p k i).fl a≠[])
  by_cases hf:S.fl p=[]
  ·have ePl:(givS S p k i).pl=updF S.pl k (p :: S.pl k):=(by unfold givS;rw[if_pos hf]);rw[ePl];by_cases ea:a=p
   ·subst ea;rw[hfl,hc];by_cases e:c=k
    ·subst e;rw[uFs];exact⟨fun _=>⟨rfl,List.cons_ne_nil _ _⟩,fun _=>List.mem_cons_self⟩
    ·rw[uFn _ _ e,hpm,hc];constructor
     ·rintro ⟨e2,_⟩;cases e2;exact absurd rfl e
     ·rintro ⟨e2,_⟩;cases e2;exact absurd rfl e
   ·rw[hfn a ea];by_cases e:c=k
    ·subst e;rw[uFs,List.mem_cons,hpm];exact⟨fun h=>h.resolve_left ea,fun h=>.inr h⟩
    ·rw[uFn _ _ e];exact hpm
  ·have ePl:(givS S p k i).pl=S.pl:=(by unfold givS;rw[if_neg hf]);rw[ePl,hpm];by_cases ea:a=p
   ·subst ea;rw[hfl];exact⟨fun hm=>⟨hm.1,List.cons_ne_nil _ _⟩,fun hm=>⟨hm.1,hf⟩⟩
   ·rw[hfn a ea]
end Go.Proofs.YtgjdmkfpmokkaaaGreatDoor
