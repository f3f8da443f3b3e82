import Derived.Test.YtkfmheelhinjdaaGreatDoorXo
import Derived.Laws.CopyRow
set_option maxRecDepth 1000000
set_option maxHeartbeats 80000000
namespace Go.Proofs.YtkfmheelhinjdaaGreatDoor
open _root_.Go.Proofs.Tryz
open Go.RowKit
set_option linter.unusedVariables false
theorem SW.congr{w W sb lw x t h h'}(s:SW w W sb lw x t h)(e:∀ k,k<8->h k=h' k):SW w W sb lw x t h':=by
 refine⟨s.pl,?_,s.nw,s.tb⟩;have:=s.bx;rw[pV,e 0 (by decide),e 1 (by decide),e 2 (by decide),e 3 (by decide),e 4 (by decide),e 5 (by decide),e 6 (by decide),e 7 (by decide)] at this;exact this
theorem IK{w W lw x t fr ls}(s:PO w W lw x t fr ls)(hT:iU w):
  Calls prog 79 #[.pointer (some ⟨lw,0,none⟩)] W fun e w'=>∃ sb,e=.returned (.pointer (some ⟨sb,0,none⟩))/\SW w w' sb lw x t (fun _=>0)/\Kt nO W w'/\W.heap.size<=sb:=by
 obtain⟨n1,n2,n3,n4,_⟩:=s.nums;have hst:=s.st;have HM:=aA (bY s.pl);have PG:=aA (vZ s);have SP:=aA (fun W' (k:Kt nO W W')=>lM (s.keep k).pl);obtain⟨pn,hpn⟩:=xe (t.m.n);obtain⟨xn,hxn⟩:=xe (x.n);obtain⟨en,hen⟩:=xe (x.bS+x.n);have EN:=aA (fun W' (k:Kt nO W W')=>qA (s.keep k));rw[<-hen] at EN;rw[<-hpn] at PG;have hpi:(pn:Int)*4096=(xn:Int):=by omega
 have hxb:xn<=4194304:=by omega
 have hpb:pn<=1024:=by omega
 obtain⟨bs,hbs⟩:=xe (x.bS);have heb:(en:Int)-(xn:Int)=bs:=by omega
 have henb:en<=9223372036854775808:=by omega
 have hbsb:bs<=9223372036854775808:=by omega
 have HB:=aA hbs;have HS:=aA s;have HT:=aA hT;clear s hst n1 n2 n3 n4 hpn hxn hen hbs hT;go_enter func79,ntmps79;go_wp2_with fail;refine HM.out.mono ?_;rintro e w1 ⟨rfl,h1⟩;replace h1:=h1.symm;subst h1;go_wp2_with fail;refine PG.out.mono ?_;rintro e w2 ⟨rfl,h2⟩;replace h2:=h2.symm;subst h2;go_wp2_with fail;refine(SP.out _ (Kt.refl nO W)).mono ?_;rintro e w3 ⟨rfl,h3⟩;replace h3:=h3.symm;subst h3;go_wp2_with fail;refine(EN.out _ (Kt.refl nO W)).mono ?_;rintro e w4 ⟨rfl,hk⟩;have D:=aA (show SW w (w4.alloc (pV lw bs (fun _=>0))) w4.heap.size lw x t (fun _=>0)/\Kt nO W (w4.alloc (pV lw bs (fun _=>0)))/\W.heap.size<=w4.heap.size from by
  have k2:=hk.alloc (pV lw bs (fun _=>0));refine⟨⟨(HS.out.keep k2).pl,?_,Nat.le_trans (HS.out.keep hk).pl.kp.size (Nat.le_refl _),HT.out⟩,k2,hk.size⟩;rw[<-HB.out];exact nH w4 _)
 clear hk;go_wp2_with fail;go_ret;exact⟨_,rfl,D.out⟩
theorem vJ{w W lw x t fr ls}(s:PO w W lw x t fr ls)(hT:iU w):
  Calls prog 34 #[.pointer (some ⟨lw,0,none⟩)] W fun e w'=>∃ sb,e=.returned (.pointer (some ⟨sb,0,none⟩))/\SW w w' sb lw x t (fun _ => -1)/\Kt nO W w'/\W.heap.size<=sb:=by
 have OV:=aA (IK s hT);clear s hT;go_enter func34,ntmps34;go_wp2_with fail;refine OV.out.mono ?_;rintro e w1 ⟨sb,rfl,hs,hk,hz⟩;have I0:=aA (show SW w w1 sb lw x t (fun j=>if j<0 then -1 else 0)/\Kt nO W w1 from⟨hs,hk⟩);have HZ:=aA hz;clear hs hk hz OV;go_wp2_with fail;go_loopw [7] (fun si W'=>∃ k:Nat,k<=8/\si=.int .i64 k/\Hid (SW w W' sb lw x t (fun j=>if j<k then -1 else 0)/\Kt nO W W')) (fun si _=>8-(intOf si).toNat)
 case atStart=>exact⟨0,by decide,rfl,I0⟩
 case round=>
  clear I0;obtain⟨k,hk,rfl,HI⟩:=hrel;have SI:=aA HI.out.1;have KI:=aA HI.out.2;clear HI;by_cases hlt:k<8
  ·have hki:(k:Int)<8:=(by omega);have c2:=SI.out.hd k hlt;have fz:=SI.out.fz (2+k);have S2:=aA (show SW w (wr.setCell ⟨sb,2+k,none⟩ (.int .i64 (-1))) sb lw x t (fun j=>if j<k+1 then -1 else 0)/\Kt nO W (wr.setCell ⟨sb,2+k,none⟩ (.int .i64 (-1)))from by
    refine⟨(SI.out.set k hlt (-1)).congr (fun j hj=>?_),KI.out.setNew (p:=⟨sb,2+k,none⟩) (fun e=>absurd e (Nat.not_lt.2 HZ.out)) _⟩;unfold cU;by_cases e:j=k
    ·rw[if_pos e,if_pos (by omega)]
    ·rw[if_neg e];show(if j<k then (-1:Int) else 0)=if j<k+1 then (-1:Int) else 0
     by_cases e2:j<k
     ·rw[if_pos e2,if_pos (by omega)]
     ·rw[if_neg e2,if_neg (by omega)])
   go_wp2_with fail;go_round
   case rel=>exact⟨k+1,by omega,by go_num,S2⟩
   case measure=>simp[intOf];omega
  ·have hki:¬(k:Int)<8:=(by omega);have D:=aA (show SW w wr sb lw x t (fun _ => -1)/\Kt nO W wr/\W.heap.size<=sb from⟨SI.out.congr (fun j hj=>by show(if j<k then (-1:Int) else 0) = -1;rw[if_pos (by omega)]),KI.out,HZ.out⟩);go_wp2_with fail;go_ret;exact⟨sb,rfl,D.out⟩
abbrev nX(h:Nat->Int):Obj:=.cells #[.int .i64 (h 0),.int .i64 (h 1),.int .i64 (h 2),.int .i64 (h 3),.int .i64 (h 4),.int .i64 (h 5),.int .i64 (h 6),.int .i64 (h 7)] 133
theorem WW{w W sb lw x t h}(s:SW w W sb lw x t h):
  Calls prog 42 #[.pointer (some ⟨sb,0,none⟩)] W fun e w'=>∃ b,e=.returned (.slice (some ⟨b,0,none⟩) 8 8)/\w'.heap[b]?=some (nX h)/\Kt nO W w'/\W.heap.size<=b:=by
 have c0:=s.hd 0 (by decide);have c1:=s.hd 1 (by decide);have c2:=s.hd 2 (by decide);have c3:=s.hd 3 (by decide);have c4:=s.hd 4 (by decide);have c5:=s.hd 5 (by decide);have c6:=s.hd 6 (by decide);have c7:=s.hd 7 (by decide);have D:=aA (show(W.alloc (nX h)).heap[W.heap.size]?=some (nX h)/\Kt nO W (W.alloc (nX h))/\W.heap.size<=W.heap.size from⟨nH W _,(Kt.refl nO W).alloc _,Nat.le_refl _⟩);clear s;go_enter func42,ntmps42;go_wp2_with fail;go_ret;exact⟨_,rfl,D.out⟩
def bE:List Nat->Int
 | [] => -1
 | a :: _=>(a:Int)
def bD:List Nat->Nat->Int
 | [],_ => -1
 | a :: l,p=>if a=p then bE l else bD l p
def bG:List Nat->Nat->Int
 | [],_ => -1
 | a :: l,p=>if bE l=(p:Int) then (a:Int) else bG l p
theorem nL{l:List Nat}{p:Nat}(h:bE l=(p:Int)):p∈l:=by
 cases l with
 | nil=>
  have h:(-1:Int)=(p:Int):=h;omega
 | cons a l=>
  have h:(a:Int)=p:=h;rw[show p=a by omega];exact List.mem_cons_self
theorem pB(l:List Nat):bE l = -1\/∃ r:Nat,bE l=(r:Int)/\r∈l:=by
 cases l with
 | nil=>exact .inl rfl
 | cons a l=>exact .inr ⟨a,rfl,List.mem_cons_self⟩
theorem sN{l:List Nat}{p:Nat}(h:p ∉ l):bD l p = -1:=by
 induction l with
 | nil=>rfl
 | cons a l ih=>
  rw[List.mem_cons,not_or] at h;rw[bD,if_neg (fun e=>h.1 e.symm)];exact ih h.2
theorem oX{l:List Nat}{p:Nat}(h:p ∉ l):bG l p = -1:=by
 induction l with
 | nil=>rfl
 | cons a l ih=>
  rw[List.mem_cons,not_or] at h;rw[bG,if_neg (fun e=>h.2 (nL e))];exact ih h.2
theorem lR(l:List Nat)(p:Nat)(hd:l.Nodup):bD l p = -1\/∃ r:Nat,bD l p=(r:Int)/\r∈l/\r≠p:=by
 induction l with
 | nil=>exact .inl rfl
 | cons a l ih=>
  rw[List.nodup_cons] at hd;rw[bD];by_cases e:a=p
  ·rw[if_pos e];rcases pB l with h|⟨r,h1,h2⟩
   ·exact .inl h
   ·exact .inr ⟨r,h1,List.mem_cons_of_mem _ h2,fun e2=>hd.1 (by rw[e,<-e2];exact h2)⟩
  ·rw[if_neg e];rcases ih hd.2 with h|⟨r,h1,h2,h3⟩
   ·exact .inl h
   ·exact .inr ⟨r,h1,List.mem_cons_of_mem _ h2,h3⟩
theorem mL(l:List Nat)(p:Nat)(hd:l.Nodup):bG l p = -1\/∃ r:Nat,bG l p=(r:Int)/\r∈l/\r≠p:=by
 induction l with
 | nil=>exact .inl rfl
 | cons a l ih=>
  rw[List.nodup_cons] at hd;rw[bG];by_cases e:bE l=(p:Int)
  ·rw[if_pos e];exact .inr ⟨a,rfl,List.mem_cons_self,fun e2=>hd.1 (by rw[e2];exact nL e)⟩
  ·rw[if_neg e];rcases ih hd.2 with h|⟨r,h1,h2,h3⟩
   ·exact .inl h
   ·exact .inr ⟨r,h1,List.mem_cons_of_mem _ h2,h3⟩
theorem pL{a:Nat}{l:List Nat}(hd:(a :: l).Nodup):bG (a :: l) a = -1:=by
 rw[List.nodup_cons] at hd;rw[bG,if_neg (fun e=>hd.1 (nL e))];exact oX hd.1
theorem mE{l:List Nat}{p:Nat}(hd:l.Nodup)(hp:p∈l):bG l p = -1↔bE l=(p:Int):=by
 cases l with
 | nil=>cases hp
 | cons a l=>
  constructor
  ·intro h;rcases List.mem_cons.1 hp with e|hm
   ·rw[e];rfl
   ·exfalso
    clear hp;induction l generalizing a with
    | nil=>cases hm
    | cons b l ih=>
     rw[bG] at h;by_cases e:bE (b :: l)=(p:Int)
     ·rw[if_pos e] at h;omega
     ·rw[if_neg e] at h;rcases List.mem_cons.1 hm with e2|hm2
      ·exact e (by rw[e2];rfl)
      ·exact ih b (List.nodup_cons.1 hd).2 h hm2
  ·intro h;have h:(a:Int)=p:=h;rw[show p=a by omega];exact pL hd
theorem uS{l:List Nat}{p:Nat}(h:p ∉ l):M.dropL (p :: l) p=l:=by
 unfold M.dropL;rw[List.filter_cons_of_neg (by simp)];exact List.filter_eq_self.2 fun q hq=>by simp;exact fun e=>h (e▸hq)
theorem uO{l:List Nat}{a p:Nat}(h:a≠p):M.dropL (a :: l) p=a :: M.dropL l p:=by
 unfold M.dropL;rw[List.filter_cons_of_pos (by simp[h])]
theorem QJ{l:List Nat}(h:l.Nodup)(p:Nat):(M.dropL l p).Nodup:=h.filter _
theorem uB{l:List Nat}{p:Nat}(hd:l.Nodup)(hp:p∈l):bE (M.dropL l p)=if bG l p = -1 then bD l p else bE l:=by
 cases l with
 | nil=>cases hp
 | cons a l=>
  have hn:=List.nodup_cons.1 hd;by_cases e:a=p
  ·subst e;rw[uS hn.1,if_pos (pL hd),bD,if_pos rfl]
  ·rw[uO e,if_neg]
   ·rfl
   ·rw[mE hd hp];intro h;have h:(a:Int)=p:=h;omega
theorem QI{l:List Nat}{p r:Nat}(hd:l.Nodup)(hp:p∈l)(hr:r≠p):bD (M.dropL l p) r=if (r:Int)=bG l p then bD l p else bD l r:=by
 induction l with
 | nil=>cases hp
 | cons a l ih=>
  have hn:=List.nodup_cons.1 hd;by_cases e:a=p
  ·subst e;rw[uS hn.1,pL hd,if_neg (by omega)];show bD l r=if a=r then bE l else bD l r
   rw[if_neg (fun h=>hr h.symm)]
  ·have hpl:p∈l:=by
    rcases List.mem_cons.1 hp with h|h
    ·exact absurd h.symm e
    ·exact h
   rw[uO e];have hnx:bD (a :: l) p=bD l p:=(by rw[bD,if_neg e]);rw[hnx];by_cases e2:a=r
   ·subst e2;rw[bD,if_pos rfl,uB hn.2 hpl,bD,if_pos rfl,bG];by_cases e3:bE l=(p:Int)
    ·rw[if_pos e3,if_pos rfl,if_pos ((mE hn.2 hpl).2 e3)]
    ·rw[if_neg e3,if_neg (fun h=>e3 ((mE hn.2 hpl).1 h)),if_neg];intro h;rcases mL l p hn.2 with h2|⟨b,h2,h3,_⟩
     ·rw[h2] at h;omega
     ·rw[h2] at h;exact hn.1 (by rw[show a=b by omega];exact h3)
   ·rw[bD,if_neg e2,ih hn.2 hpl,bD,if_neg e2,bG];by_cases e3:bE l=(p:Int)
    ·rw[if_pos e3,(mE hn.2 hpl).2 e3,if_neg (by omega),if_neg (fun h=>e2 (by omega))]
    ·rw[if_neg e3]
theorem QH{l:List Nat}{p r:Nat}(hd:l.Nodup)(hp:p∈l)(hr:r≠p):bG (M.dropL l p) r=if (r:Int)=bD l p then bG l p else bG l r:=by
 induction l with
 | nil=>cases hp
 | cons a l ih=>
  have hn:=List.nodup_cons.1 hd;by_cases e:a=p
  ·subst e;rw[uS hn.1,pL hd];have hnx:bD (a :: l) a=bE l:=(by rw[bD,if_pos rfl]);rw[hnx];by_cases e2:(r:Int)=bE l
   ·rw[if_pos e2];exact(mE hn.2 (nL e2.symm)).2 e2.symm
   ·rw[if_neg e2,bG,if_neg (fun h=>e2 h.symm)]
  ·have hpl:p∈l:=by
    rcases List.mem_cons.1 hp with h|h
    ·exact absurd h.symm e
    ·exact h
   rw[uO e];have hnx:bD (a :: l) p=bD l p:=(by rw[bD,if_neg e]);rw[hnx,bG,uB hn.2 hpl,ih hn.2 hpl,bG,bG];by_cases e3:bE l=(p:Int)
   ·have h1:=(mE hn.2 hpl).2 e3;rw[if_pos h1,if_pos e3,h1];by_cases e4:bD l p=(r:Int)
    ·rw[if_pos e4,if_pos e4.symm]
    ·rw[if_neg e4,if_neg (fun h=>e4 h.symm),if_neg (fun h=>e4 h.symm),if_neg];intro h;rw[e3] at h;exact hr (by omega)
   ·have h1:¬bG l p = -1:=fun h=>e3 ((mE hn.2 hpl).1 h)
    rw[if_neg h1,if_neg e3];by_cases e4:bE l=(r:Int)
    ·rw[if_pos e4];by_cases e5:(r:Int)=bD l p
     ·exfalso
      -- the head stands behind nobody
      cases l with
      | nil=>cases hpl
      | cons b l=>
       have e4:(b:Int)=r:=e4;have:bD (b :: l) p=(b:Int):=by rw[<-e5,e4]
       rw[bD] at this;have hn2:=List.nodup_cons.1 hn.2;by_cases e6:b=p
       ·exact e3 (by rw[e6];rfl)
       ·rw[if_neg e6] at this;rcases lR l p hn2.2 with h|⟨c,h2,h3,_⟩
        ·omega
        ·exact hn2.1 (by rw[show b=c by omega];exact h3)
     ·rw[if_neg e5,if_pos e4]
    ·rw[if_neg e4,if_neg e4]
def aG(k:Nat):Nat:=256/2 ^ k
theorem dN{k:Nat}(h:k<8):aG k*aE k=4096/\2<=aG k/\aG k<=256:=AP k h
structure Sb where
 c:Nat->Option Nat
 fl:Nat->List Nat
 pl:Nat->List Nat
def jC(S:Sb)(m:Mp):Nat->Option Pg:=fun p=>(S.c p).map fun _=>m.pg p
theorem iG{S:Sb}{m:Mp}{p:Nat}(h:S.c p=none):jC S m p=none:=by unfold jC;rw[h];rfl
theorem jB{S:Sb}{m:Mp}{p k:Nat}(h:S.c p=some k):jC S m p=some (m.pg p):=by unfold jC;rw[h];rfl
theorem JV{S:Sb}{m:Mp}{p:Nat}{q:Pg}(h:jC S m p=some q):(∃ k,S.c p=some k)/\m.pg p=q:=by
 cases e:S.c p with
 | none=>rw[iG e] at h;cases h
 | some k=>
  rw[jB e] at h;injection h with h
  exact⟨⟨k,rfl⟩,h⟩
structure SlP(S:Sb)(p k:Nat)(q:Pg):Prop where
 kd:q.kd=4
 od:q.od=0
 cl:q.cl=(k:Int)
 lv:q.lv=((aG k-(S.fl p).length:Nat):Int)
 nx:q.nx=bD (S.pl k) p
 pv:q.pv=bG (S.pl k) p
 fs:q.fs=bE (S.fl p)
 bt:∀ i,i<256->aH q i=decide (i<aG k/\i ∉ S.fl p)
def lkA(x:Bx)(p k:Nat):List Nat->Nat
 | []=>0
 | j :: _=>aQ x p k j
def lZ(x:Bx)(f:Nat->Nat)(p k:Nat):List Nat->Prop
 | []=>True
 | i :: l=>M.word f (4096*p+i*aE k)=lkA x p k l/\lZ x f p k l
structure SI(x:Bx)(t:Bt)(S:Sb):Prop where
 eP:x.P=jC S t.m
 pg:∀ p k,S.c p=some k->k<8/\SlP S p k (t.m.pg p)
 fl:∀ p k,S.c p=some k->(S.fl p).Nodup/\(∀ i∈S.fl p,i<aG k)/\lZ x t.f p k (S.fl p)
 lv:∀ p k,S.c p=some k->(S.fl p).length<=aG k
 pn:∀ k,k<8->(S.pl k).Nodup
 pm:∀ k,k<8->∀ p,p∈S.pl k↔(S.c p=some k/\S.fl p≠[])
def gF(S:Sb):Prop:=∀ p k,S.c p=some k->(S.fl p).length<aG k
theorem Sf.repaint{x t fr ls}(s:Sf x t fr ls)(S S':Sb)(hP:x.P=jC S t.m)(m':Mp)(ho:m'.o=t.m.o)(hn:m'.n=t.m.n)(hw:m'.wd=t.m.wd)(h1:∀ p,S'.c p=none->m'.pg p=(if S.c p=none then t.m.pg p else aN 2 0))(h2:∀ p k,S'.c p=some k->(m'.pg p).kd=4/\(p,0)∈ls):
  Sf { x with P:=jC S' m' } { t with m:=m' } fr ls:=by
 obtain⟨B,s,hN,hL⟩:=s;refine⟨B,⟨?_,s.o8,?_,?_,?_,s.b1,s.b2,s.tg,s.fi,?_,s.ds,?_,?_,s.ch,?_,?_,s.nm,?_⟩,hN,hL⟩
 ·show m'.o=x.o
  rw[ho];exact s.mo
 ·show ∃ r,m'.n=r*2 ^ x.o
  rw[hn];exact s.dv
 ·show m'.n*4096<=x.n
  rw[hn];exact s.nb
 ·show m'.n<=1024
  rw[hn];exact s.n1
 ·intro g p k hb;show k<=x.o/\p%2 ^ k=0/\p+2 ^ k<=m'.n
  rw[hn];exact s.al g p k hb
 ·intro i hi;have hi:i<m'.n:=hi;rw[hn] at hi;exact s.cv i hi
 ·intro g p k hb h9 i hi1 hi2;show m'.pg i=(jC S' m' i).getD _
  cases e:S'.c i with
  | some k'=>rw[jB e];rfl
  | none=>
   rw[iG e,Option.getD_none,h1 i e]
   cases e2:S.c i with
   | none=>
    rw[if_pos rfl];have:=s.pg g p k hb h9 i hi1 hi2;rw[hP,iG e2,Option.getD_none] at this;exact this
   | some k'=>
    rw[if_neg (by rintro ⟨⟩)];have hv:=(s.vs i (t.m.pg i) (by rw[hP];exact jB e2)).1;rcases s.ds _ _ _ _ _ _ hv hb with ⟨e3,e4,e5⟩|e3|e3
    ·rw[if_pos e4,<-e3,<-e5];rfl
    ·omega
    ·omega
 ·intro k hk;show(m'.wd k).length=(m'.n/2 ^ (k+1)+63)/64
  rw[hw,hn];exact s.wl k hk
 ·intro k hk i hi;have hi:i<m'.n/2 ^ (k+1):=hi;rw[hn] at hi;show aF (m'.wd k) i=_
  rw[hw];exact s.bt k hk i hi
 ·intro p q h;have h:jC S' m' p=some q:=h;obtain⟨⟨k,hk⟩,hq⟩:=JV h;obtain⟨h3,h4⟩:=h2 p k hk;exact⟨(hL p 0).2 h4,by rw[<-hq];exact h3⟩
theorem BdAt.reP{W x t}(h:BdAt W x t)(P:Nat->Option Pg):BdAt W { x with P:=P } t:=⟨h.sp,h.mp,h.ls,h.bs,h.lr,h.mo,h.iL,h.hR⟩
theorem Pol.reP{w W lw x t}(h:Pol w W lw x t)(P:Nat->Option Pg):Pol w W lw { x with P:=P } t:=⟨h.box,h.bd.reP P,h.nw,h.kp⟩
theorem SW.reP{w W sb lw x t h}(s:SW w W sb lw x t h)(P:Nat->Option Pg):SW w W sb lw { x with P:=P } t h:=⟨s.pl.reP P,s.bx,s.nw,s.tb⟩
structure SO(w W:World)(sb lw:Nat)(x:Bx)(t:Bt)(fr:Nat->List Nat)(ls:List (Nat×Nat))(S:Sb)(h:Nat->Int):Prop where
 sw:SW w W sb lw x t h
 sf:Sf x t fr ls
 st:t.m.n*4096=x.n
 bm:x.bS%4096=0
 si:SI x t S
 hd:∀ k,k<8->h k=bE (S.pl k)
theorem SO.po{w W sb lw x t fr ls S h}(o:SO w W sb lw x t fr ls S h):PO w W lw x t fr ls:=⟨o.sw.pl,o.sf,o.st,o.bm⟩
theorem SO.keep{w W W' sb lw x t fr ls S h}(o:SO w W sb lw x t fr ls S h)(k:Kt nO W W'):SO w W' sb lw x t fr ls S h:=⟨o.sw.keep k,o.sf,o.st,o.bm,o.si,o.hd⟩
theorem SO.mem{w W sb lw x t fr ls S h}(o:SO w W sb lw x t fr ls S h){p k:Nat}(hp:S.c p=some k):(p,0)∈ls/\p<t.m.n/\p<1024/\x.bS+4096*p+4096<=x.bS+x.n:=by
 have h1:=o.sf.pslab (p:=p) (q:=t.m.pg p) (by rw[o.si.eP];exact jB hp);have hn:=o.po.nums.2.1;have hst:=o.st;refine⟨h1.1,h1.2.2.1,by omega,?_⟩;have h5:(p+1)*4096<=t.m.n*4096:=Nat.mul_le_mul_right _ h1.2.2.1;omega
theorem kH{x:Bx}{p k i:Nat}(hk:k<8)(hi:i<aG k)(hb:x.bS+4096*p+4096<=9223372036854775808):bF x (aQ x p k i)=4096*p+i*aE k/\i*aE k+aE k<=4096/\aQ x p k i<18446744073709551616:=by
 have h1:=dN hk;have h2:(i+1)*aE k<=aG k*aE k:=Nat.mul_le_mul_right _ hi;rw[Nat.add_mul,Nat.one_mul,h1.1] at h2;have h3:aQ x p k i=x.bS+4096*p+i*aE k:=rfl;refine⟨?_,h2,by omega⟩;unfold bF;omega
theorem sQ{x:Bx}{t:Bt}{p k i:Nat}(hk:k<8)(hi:i<aG k)(hb:x.bS+4096*p+4096<=9223372036854775808)(hp:p<t.m.n)(hkd:(t.m.pg p).kd=4)(hcl:(t.m.pg p).cl=(k:Int)):
  iT x t (aQ x p k i)=true/\bF x (aQ x p k i)/4096=p/\dA x t (aQ x p k i)=t.m.pg p/\fQ x t (aQ x p k i)=i:=by
 obtain⟨h1,h2,h3⟩:=kH (x:=x) (p:=p) hk hi hb;have hz:=dU hk;have e1:bF x (aQ x p k i)/4096=p:=by rw[h1];omega
 have e2:bF x (aQ x p k i)%4096=i*aE k:=by rw[h1];omega
 have e3:dA x t (aQ x p k i)=t.m.pg p:=by
  unfold dA cH;rw[e1,if_pos (dH hp),Int.toNat_natCast]
 have e4:(t.m.pg p).cl.toNat=k:=by rw[hcl];rfl
 refine⟨?_,e1,e3,?_⟩
 ·unfold iT;rw[e3,e4,e2,decide_eq_true hkd,decide_eq_true (Nat.mul_mod_left _ _)];rfl
 ·unfold fQ;rw[e3,e4,e2,Nat.mul_div_cancel _ (by omega)]
theorem lL(n:Nat):cK n (-1)=true:=by unfold cK;rfl
theorem oK{n r:Nat}(h:r<n):cK n (r:Int)=true:=by unfold cK;rw[dH h,Bool.or_true]
theorem pD{m:Mp}{p:Nat}{a b:Int}(hp:p<m.n)(hk:(m.pg p).kd=4)(ha:cK m.n a=true)(hb:cK m.n b=true):dG m (p:Int) a b={ m with pg:=aJ m.pg p { m.pg p with nx:=a,pv:=b } }:=by
 unfold dG jM;rw[Int.toNat_natCast,dH hp,decide_eq_true hk,ha,hb];rfl
theorem YV(m:Mp)(a b:Int):dG m (-1) a b=m:=by
 unfold dG jM;rw[show aC m.n (-1)=false from decide_eq_false (by omega)];rfl
theorem oG{m:Mp}{p:Nat}(hp:p<m.n):cH m (p:Int)=m.pg p:=by unfold cH;rw[if_pos (dH hp),Int.toNat_natCast]
theorem BV{m:Mp}{r:Nat}{v:Int}(hr:r<m.n)(hk:(m.pg r).kd=4)(hn:cK m.n (m.pg r).nx=true)(hv:cK m.n v=true):gY m (r:Int) v={ m with pg:=aJ m.pg r { m.pg r with pv:=v } }:=by
 unfold gY;rw[oG hr,pD hr hk hn hv]
theorem BU(m:Mp)(v:Int):gY m (-1) v=m:=YV _ _ _
theorem ZG{m:Mp}{r:Nat}{v:Int}(hr:r<m.n)(hk:(m.pg r).kd=4)(hn:cK m.n (m.pg r).pv=true)(hv:cK m.n v=true):nR m (r:Int) v={ m with pg:=aJ m.pg r { m.pg r with nx:=v } }:=by
 unfold nR;rw[oG hr,pD hr hk hv hn]
def dV(pg:Nat->Pg)(l:List Nat)(p:Nat):Nat->Pg:=fun r=>if r=p then { pg p with nx:=bE l,pv := -1 } else if (r:Int)=bE l then { pg r with pv:=(p:Int) } else pg r
theorem DG{m:Mp}{h:Nat->Int}{p c:Nat}{l:List Nat}(hp:p<m.n)(hk:(m.pg p).kd=4)(hh:h c=bE l)(hl:∀ r∈l,r<m.n/\(m.pg r).kd=4/\cK m.n (m.pg r).nx=true)(hpl:p ∉ l):fE m h (p:Int) c={ m with pg:=dV m.pg l p }:=by
 unfold fE;rw[hh]
 cases l with
 | nil=>
  show gY (dG m (p:Int) (-1) (-1)) (-1) (p:Int)=_
  rw[BU,pD hp hk (lL _) (lL _)];refine congrArg (fun g=>({ m with pg:=g } : Mp)) (funext fun r=>?_);unfold aJ dV;by_cases e:r=p
  ·rw[if_pos e,if_pos e];rfl
  ·rw[if_neg e,if_neg e,if_neg (by show ¬(r:Int) = -1;omega)]
 | cons b l=>
  obtain⟨h1,h2,h3⟩:=hl b List.mem_cons_self;have hbp:b≠p:=fun e=>hpl (by rw[e];exact List.mem_cons_self)
  show gY (dG m (p:Int) (b:Int) (-1)) (b:Int) (p:Int)=_
  rw[pD hp hk (oK h1) (lL _)];have e1:aJ m.pg p { m.pg p with nx:=(b:Int),pv := -1 } b=m.pg b:=by unfold aJ;rw[if_neg hbp]
  rw[BV (m:={ m with pg:=aJ m.pg p { m.pg p with nx:=(b:Int),pv := -1 } }) h1 (by show(aJ m.pg p _ b).kd=4;rw[e1];exact h2) (by show cK m.n (aJ m.pg p _ b).nx=true;rw[e1];exact h3) (oK hp)];show({ m with pg:=aJ (aJ m.pg p { m.pg p with nx:=(b:Int),pv := -1 }) b { aJ m.pg p { m.pg p with nx:=(b:Int),pv := -1 } b with pv:=(p:Int) } } : Mp)=_
  rw[e1];refine congrArg (fun g=>({ m with pg:=g } : Mp)) (funext fun r=>?_);unfold aJ dV;by_cases e:r=p
  ·rw[if_neg (show ¬r=b from fun e2=>hbp (e2.symm.trans e)),if_pos e,if_pos e];rfl
  ·rw[if_neg e];by_cases e2:r=b
   ·rw[if_pos e2,if_neg e,if_pos (by rw[e2];rfl),e2]
   ·rw[if_neg e2,if_neg e,if_neg];intro e3;have e3:(r:Int)=b:=e3;omega
def fD(pg:Nat->Pg)(l:List Nat)(p:Nat):Nat->Pg:=fun r=>if r=p then { pg p with nx := -1,pv := -1 } else { pg r with nx:=if (r:Int)=bG l p then bD l p else (pg r).nx,pv:=if (r:Int)=bD l p then bG l p else (pg r).pv }
theorem DE{m:Mp}{h:Nat->Int}{p c:Nat}{l:List Nat}(hd:l.Nodup)(hp:p∈l)(hl:∀ r∈l,r<m.n/\(m.pg r).kd=4/\(m.pg r).nx=bD l r/\(m.pg r).pv=bG l r):iJ m (p:Int)={ m with pg:=fD m.pg l p }/\iK m h (p:Int) c=if bG l p = -1 then cU h c (bD l p) else h:=by
 obtain⟨p1,p2,p3,p4⟩:=hl p hp;have lk:∀ r∈l,cK m.n (bD l r)=true/\cK m.n (bG l r)=true:=fun r hr=>by
  constructor
  ·rcases lR l r hd with e|⟨b,e,hb,_⟩
   ·rw[e];exact lL _
   ·rw[e];exact oK (hl b hb).1
  ·rcases mL l r hd with e|⟨b,e,hb,_⟩
   ·rw[e];exact lL _
   ·rw[e];exact oK (hl b hb).1
 refine⟨?_,by unfold iK;rw[oG p1,p3,p4]⟩;unfold iJ;rw[oG p1,p3,p4]
 obtain⟨m1,hm1,hm1n,hpg1⟩:∃ m1:Mp,gY m (bD l p) (bG l p)=m1/\(m1.n=m.n/\m1={ m with pg:=m1.pg })/\∀ r,m1.pg r=if (r:Int)=bD l p then { m.pg r with pv:=bG l p } else m.pg r:=by
  rcases lR l p hd with e|⟨b,e,hb,hbp⟩
  ·refine⟨m,by rw[e,BU],⟨rfl,rfl⟩,fun r=>?_⟩;rw[e,if_neg (by omega)]
  ·obtain⟨b1,b2,b3,b4⟩:=hl b hb;refine⟨{ m with pg:=aJ m.pg b { m.pg b with pv:=bG l p } },by rw[e];exact BV b1 b2 (by rw[b3];exact(lk b hb).1) (lk p hp).2,⟨rfl,rfl⟩,fun r=>?_⟩;show aJ m.pg b _ r=_
   unfold aJ;rw[e];by_cases e2:r=b
   ·rw[if_pos e2,if_pos (by rw[e2]),e2]
   ·rw[if_neg e2,if_neg (by omega)]
 rw[hm1]
 obtain⟨m2,hm2,hm2n,hpg2⟩:∃ m2:Mp,(if bG l p = -1 then m1 else nR m1 (bG l p) (bD l p))=m2/\(m2.n=m.n/\m2={ m with pg:=m2.pg })/\∀ r,m2.pg r=if (r:Int)=bG l p then { m1.pg r with nx:=bD l p } else m1.pg r:=by
  rcases mL l p hd with e|⟨b,e,hb,hbp⟩
  ·refine⟨m1,by rw[if_pos e],hm1n,fun r=>?_⟩;rw[e,if_neg (by omega)]
  ·obtain⟨b1,b2,b3,b4⟩:=hl b hb;have hk1:(m1.pg b).kd=4:=by
    rw[hpg1];split
    ·exact b2
    ·exact b2
   have hl1:cK m1.n (m1.pg b).pv=true:=by
    rw[hpg1,hm1n.1];split
    ·exact(lk p hp).2
    ·rw[b4];exact(lk b hb).2
   refine⟨{ m1 with pg:=aJ m1.pg b { m1.pg b with nx:=bD l p } },by rw[if_neg (by rw[e];omega),e];exact ZG (by rw[hm1n.1];exact b1) hk1 hl1 (by rw[hm1n.1];exact(lk p hp).1),⟨hm1n.1,?_⟩,fun r=>?_⟩
   ·show({ m1 with pg:=_ } : Mp)={ m with pg:=_ }
    rw[hm1n.2]
   ·show aJ m1.pg b _ r=_
    unfold aJ;rw[e];by_cases e2:r=b
    ·rw[if_pos e2,if_pos (by rw[e2]),e2]
    ·rw[if_neg e2,if_neg (by omega)]
 rw[hm2];have np:¬(p:Int)=bD l p:=fun e=>by
  rcases lR l p hd with h|⟨b,h,_,hb⟩
  ·omega
  ·exact hb (by omega)
 have pp:¬(p:Int)=bG l p:=fun e=>by
  rcases mL l p hd with h|⟨b,h,_,hb⟩
  ·omega
  ·exact hb (by omega)
 have hp2:m2.pg p=m.pg p:=by rw[hpg2,if_neg pp,hpg1,if_neg np]
 rw[pD (by rw[hm2n.1];exact p1) (by rw[hp2];exact p2) (by exact lL _) (by exact lL _),hp2,hm2n.2];show({ m with pg:=aJ m2.pg p { m.pg p with nx := -1,pv := -1 } } : Mp)=_
 refine congrArg (fun g=>({ m with pg:=g } : Mp)) (funext fun r=>?_);unfold aJ fD;by_cases e:r=p
 ·rw[if_pos e,if_pos e]
 ·rw[if_neg e,if_neg e,hpg2,hpg1];by_cases e1:(r:Int)=bG l p
  ·rw[if_pos e1,if_pos e1];by_cases e2:(r:Int)=bD l p
   ·rw[if_pos e2,if_pos e2]
   ·rw[if_neg e2,if_neg e2]
  ·rw[if_neg e1,if_neg e1];by_cases e2:(r:Int)=bD l p
   ·rw[if_pos e2,if_pos e2]
   ·rw[if_neg e2,if_neg e2]
def vI(q q':Pg):Prop:=∃ a b,q'={ q with nx:=a,pv:=b }
theorem OH(pg:Nat->Pg)(l:List Nat)(p r:Nat):vI (pg r) (dV pg l p r):=by
 unfold dV;by_cases e:r=p
 ·rw[if_pos e,e];exact⟨_,_,rfl⟩
 ·rw[if_neg e];split
  ·exact⟨(pg r).nx,_,rfl⟩
  ·exact⟨(pg r).nx,(pg r).pv,rfl⟩
theorem OG(pg:Nat->Pg)(l:List Nat)(p r:Nat):vI (pg r) (fD pg l p r):=by
 unfold fD;by_cases e:r=p
 ·rw[if_pos e,e];exact⟨_,_,rfl⟩
 ·rw[if_neg e];exact⟨_,_,rfl⟩
def NP(pg:Nat->Pg)(S:Sb)(k:Nat)(l:List Nat):Prop:=∀ r,S.c r=some k->(pg r).nx=bD l r/\(pg r).pv=bG l r
theorem DA{pg:Nat->Pg}{S:Sb}{k p:Nat}{l:List Nat}(h:NP pg S k l)(hd:l.Nodup)(hp:p ∉ l):NP (dV pg l p) S k (p :: l):=fun r hr=>by
 obtain⟨h1,h2⟩:=h r hr;unfold dV;by_cases e:r=p
 ·rw[if_pos e,e];exact⟨by show bE l=_;rw[bD,if_pos rfl],(pL (List.nodup_cons.2 ⟨hp,hd⟩)).symm⟩
 ·have n1:bD (p :: l) r=bD l r:=by rw[bD,if_neg (fun e2=>e e2.symm)]
  have n2:bG (p :: l) r=if bE l=(r:Int) then (p:Int) else bG l r:=rfl;rw[if_neg e,n1,n2];by_cases e2:(r:Int)=bE l
  ·rw[if_pos e2,if_pos e2.symm];exact⟨h1,rfl⟩
  ·rw[if_neg e2,if_neg (fun e3=>e2 e3.symm)];exact⟨h1,h2⟩
theorem CZ{pg:Nat->Pg}{S:Sb}{k p:Nat}{l:List Nat}(h:NP pg S k l)(hd:l.Nodup)(hp:p∈l):NP (fD pg l p) S k (M.dropL l p):=fun r hr=>by
 obtain⟨h1,h2⟩:=h r hr;unfold fD;by_cases e:r=p
 ·have ho:p ∉ M.dropL l p:=by rw[kF];exact fun h=>h.2 rfl
  rw[if_pos e,e,sN ho,oX ho];exact⟨rfl,rfl⟩
 ·rw[if_neg e,QI hd hp e,QH hd hp e];exact⟨by show(if _ then _ else _)=_;rw[h1],by show(if _ then _ else _)=_;rw[h2]⟩
theorem yO{m:Mp}{p i:Nat}{l:Bool}(hp:p<m.n)(hk:(m.pg p).kd=4)(hi:i<eN (m.pg p).cl)(hl:aH (m.pg p) i=!l):dW m (p:Int) (i:Int) l=0/\cR m (p:Int) (i:Int) l={ m with pg:=aJ m.pg p (bT (m.pg p) i) }:=by
 have hc:iY m (p:Int) (i:Int) l=true:=by
  unfold iY nK;rw[Int.toNat_natCast,Int.toNat_natCast,dH hp,decide_eq_true hk,dH hi,hl]
  cases l <;> rfl
 unfold dW cR;rw[if_pos hc,if_pos hc,Int.toNat_natCast,Int.toNat_natCast];exact⟨rfl,rfl⟩
theorem BH{m:Mp}{p:Nat}{c:Int}(hp:p<m.n)(hk:(m.pg p).kd=4)(hc:c = -1\/∃ j:Nat,c=(j:Int)/\j<eN (m.pg p).cl):fO m (p:Int) c={ m with pg:=aJ m.pg p { m.pg p with fs:=c } }:=by
 have h:kG m (p:Int) c=true:=by
  unfold kG;rw[Int.toNat_natCast,dH hp,decide_eq_true hk];rcases hc with rfl|⟨j,rfl,hj⟩
  ·rfl
  ·rw[dH hj,Bool.or_true];rfl
 unfold fO;rw[if_pos h,Int.toNat_natCast]
def mA(m:Mp)(p i:Nat)(r:List Nat):Mp:=fO (cR m (p:Int) (i:Int) true) (p:Int) (bE r)
def dS(m:Mp)(p i:Nat)(r:List Nat):Mp:=if r=[] then iJ (mA m p i r) (p:Int) else mA m p i r
def fI(m:Mp)(h:Nat->Int)(p k i:Nat)(r:List Nat):Nat->Int:=if r=[] then iK (mA m p i r) h (p:Int) k else h
theorem wI{w W sb lw x t fr ls S h}(o:SO w W sb lw x t fr ls S h)(p k i:Nat)(r:List Nat)(hc:S.c p=some k)(hf:S.fl p=i :: r):
  Calls prog 162 #[.pointer (some ⟨sb,0,none⟩),.int .i64 p,.int .i64 k] W fun e w'=>e=.returned (.tuple #[.int .u64 ((aQ x p k i:Nat):Int),.int .i64 0])/\SE w W sb lw x t (dS t.m p i r) (fI t.m h p k i r) w':=by
 obtain⟨hk,sp⟩:=o.si.pg p k hc;obtain⟨nd,lt,lk⟩:=o.si.fl p k hc;have hlv:=o.si.lv p k hc;obtain⟨hls,hpn,hp1,hpb⟩:=o.mem hc;have n4:=o.po.nums.2.2.2.1;rw[hf] at nd lt lk hlv;have hib:i<aG k:=lt i List.mem_cons_self;have hnb:=dN hk;have hoff:=kH (x:=x) (p:=p) hk hib (by omega);have hin:M.In x.bS x.n (aQ x p k i) 8:=by
  have hz:=dU hk;unfold M.In;have e:aQ x p k i=x.bS+4096*p+i*aE k:=rfl;omega
 have hao:aQ x p k i-x.bS=4096*p+i*aE k:=by
  have e:aQ x p k i=x.bS+4096*p+i*aE k:=rfl;omega
 have hcn:eN (t.m.pg p).cl=aG k:=by rw[sp.cl];rfl
 have hlit:aH (t.m.pg p) i=!true:=by
  rw[sp.bt i (by omega),hf];exact decide_eq_false (fun e=>e.2 List.mem_cons_self)
 obtain⟨hoE,hoM⟩:=yO hpn sp.kd (by rw[hcn];exact hib) hlit;have hnx:∃ nx:Int,nx=bE r/\∀ W',Kt nO W W'->Calls prog 199 #[.pointer (some ⟨sb,0,none⟩),.int .u64 ((aQ x p k i:Nat):Int),.int .i64 p] W' fun e w'=>e=.returned (.tuple #[.int .i64 nx,.bool true])/\Kt nO W' w':=by
  cases r with
  | nil=>exact⟨-1,rfl,fun W' kk=>WF (o.sw.keep kk) _ _ hin (by rw[hao];exact lk.1)⟩
  | cons j r'=>
   have hjb:j<aG k:=lt j (List.mem_cons_of_mem _ List.mem_cons_self);have hj3:=kH (x:=x) (p:=p) hk hjb (by omega);obtain⟨a1,a2,a3,a4⟩:=sQ (x:=x) (t:=t) hk hjb (by omega) hpn sp.kd sp.cl;refine⟨(j:Int),rfl,fun W' kk=>?_⟩;have:=WE (o.sw.keep kk) (aQ x p k i) p (aQ x p k j) hin (by rw[hao];exact lk.1) (by
    have e:aQ x p k j=x.bS+4096*p+j*aE k:=rfl;have:=o.sw.pl.bd.sp.cfg.b1;omega) hj3.2.2 a1 a2
   rw[a4] at this;exact this
 obtain⟨nx,hnx1,hnx2⟩:=hnx;have NX:=aA hnx2;obtain⟨q,hq⟩:=xe (t.m.pg p);have HA:=aA (show Calls prog 72 #[.pointer (some ⟨x.m,0,none⟩),.int .i64 p] W fun e w'=>e=.returned (.tuple #[cC q,.bool true])/\Kt nO W w' from by rw[hq];exact mB x.m x.B t.m p W o.sw.pl.bd.mp hpn);have HM:=aA (bY o.sw.pl);have HC:=aA (show q.cl=(k:Int)from by rw[hq];exact sp.cl);have HF:=aA (show q.fs=(i:Int)from by rw[hq,sp.fs,hf];rfl);obtain⟨lv,hlv2⟩:∃ lv:Nat,q.lv=(lv:Int):=⟨_,by rw[hq];exact sp.lv⟩;have hlvr:lv=aG k-(r.length+1):=by
  have:=sp.lv;rw[<-hq,hlv2,hf] at this;have:=Int.ofNat.inj this;rw[this];rfl
 have HL:=aA hlv2;obtain⟨a,ha⟩:=xe (aQ x p k i);have AD:=aA (show ∀ W',Kt nO W W'->Calls prog 198 #[.pointer (some ⟨sb,0,none⟩),.int .i64 p,.int .i64 k,.int .i64 i] W' fun e w'=>e=.returned (.int .u64 a)/\Kt nO W' w' from fun W' kk=>by
  rw[ha];exact XD (o.sw.keep kk) p k i (by omega) hk (by omega))
 rw[<-ha] at NX ⊢;obtain⟨m1,hm1⟩:=xe (cR t.m (p:Int) (i:Int) true);have OW:=aA (show ∀ W',Kt nO W W'->Calls prog 200 #[.pointer (some ⟨x.m,0,none⟩),.int .i64 p,.int .i64 i,.bool true] W' fun e w'=>e=.returned (.int .i64 0)/\SD w W' sb lw x t h m1 w' from fun W' kk=>by
  have:=FV (o.sw.keep kk) (p:Int) (i:Int) true;rw[hoE,<-hm1] at this;exact this)
 have FR:=aA (show ∀ W',SW w W' sb lw x { t with m:=m1 } h->Calls prog 196 #[.pointer (some ⟨x.m,0,none⟩),.int .i64 p,.int .i64 nx] W' fun e w'=>e=.returned (.int .i64 (jL m1 (p:Int) nx))/\SD w W' sb lw x { t with m:=m1 } h (fO m1 (p:Int) nx) w' from fun W' s=>xX s (p:Int) nx);obtain⟨m2,hm2⟩:=xe (fO m1 (p:Int) nx);have hM2:mA t.m p i r=m2:=by unfold mA;rw[hm2,hm1,hnx1]
 rw[<-hm2] at FR;generalize jL m1 (p:Int) nx=fe at *;obtain⟨mF,hmF⟩:=xe (dS t.m p i r);obtain⟨hF,hhF⟩:=xe (fI t.m h p k i r);rw[<-hmF,<-hhF];unfold dS at hmF;unfold fI at hhF;rw[hM2] at hmF hhF;have HMF:=aA hmF;have HHF:=aA hhF;have HO:=aA o.sw;obtain⟨c0,c1⟩:=o.sw.c0;have hnl2:=hnb.2.2;have CLS:=aA (show ∀ W' tt,SW w W' sb lw x tt h->Calls prog 201 #[.int .i64 k] W' fun e w'=>e=.returned (.int .i64 ((aG k:Nat):Int))/\w'=W' from fun W' tt s=>IH s k hk);obtain⟨N,hN⟩:=xe (aG k);rw[<-hN] at CLS;have HLR:=aA (show lv+1=N↔r=[] from by
  have h9:r.length+1<=aG k:=hlv;have h8:=hnb.2.1;rw[hlvr,hN];constructor
  ·intro e
   cases r with
   | nil=>rfl
   | cons j r'=>
    exfalso
    rw[List.length_cons] at e h9;omega
  ·intro e;rw[e,List.length_nil];omega)
 have hNb:N<=256:=by rw[hN];exact hnl2
 have hlvb:lv<=256:=by omega
 clear o sp nd lt lk hlv hls hpb n4 hf hib hnb hoff hin hao hcn hlit hoE hoM hnx2 hq hlv2 ha hm1 hm2 hM2 hmF hhF hlvr hN hnl2 hpn hc hnx1;go_enter func162,ntmps162;go_wp2_with fail;refine HM.out.mono ?_;rintro e w1 ⟨rfl,h1⟩;replace h1:=h1.symm;subst h1;go_wp2_with fail;refine HA.out.mono ?_;rintro e w2 ⟨rfl,hk2⟩;have K2:=aA (hk2.alloc (aI q));have X2:=aA (nH w2 (aI q));have S2:=aA (HO.out.keep K2.out);have NY:=aA (show ¬(aD x w2.heap.size\/w2.heap.size=sb)from fun e=>by
  rcases e with e|e
  ·exact absurd ((HO.out.keep hk2).pl.lt _ (.inl e)) (Nat.lt_irrefl _)
  ·have:=lH (HO.out.keep hk2).bx;omega)
 clear hk2 c0 c1;go_upto_region 2 with fail;generalize w2.heap.size=y at *;generalize w2.alloc (aI q)=W2 at *;have PQ:=aA (show ∀ W':World,W'.heap[y]?=some (aI q)->W'.cell? ⟨y,2,none⟩=some (.int .i64 k)/\W'.cell? ⟨y,3,none⟩=some (.int .i64 lv)/\W'.cell? ⟨y,6,none⟩=some (.int .i64 i)from fun W' hW=>by
  obtain⟨_,_,p2,p3,_,_,p6,_⟩:=fG hW;rw[HC.out] at p2;rw[HL.out] at p3;rw[HF.out] at p6;exact⟨p2,p3,p6⟩)
 obtain⟨p2,p3,p6⟩:=PQ.out _ X2.out;obtain⟨c0,c1⟩:=S2.out.c0;go_wp2_with fail;refine(AD.out _ K2.out).mono ?_;rintro e w3 ⟨rfl,hk3⟩;have K3:=aA (nT K2.out hk3);have X3:=aA ((hk3.block _ (lH X2.out) id).trans X2.out);clear hk3 c0 c1 p2 p3 p6;go_wp2_with fail;refine(NX.out _ K3.out).mono ?_;rintro e w4 ⟨rfl,hk4⟩;have K4:=aA (nT K3.out hk4);have X4:=aA ((hk4.block _ (lH X3.out) id).trans X3.out);have S4:=aA (HO.out.keep K4.out);clear hk4;go_upto_region 6 with fail;have KD:=aA ((Kt.refl nO w4).drew);have K5:=aA (nT K4.out KD.out);have S5:=aA (HO.out.keep K5.out);have X5:=aA ((KD.out.block _ (lH X4.out) id).trans X4.out);have MP:=aA (bY S5.out.pl);obtain⟨p2,p3,p6⟩:=PQ.out _ X5.out;obtain⟨c0,c1⟩:=S5.out.c0;go_region_held3 (fun w'=>w'.cell? ⟨sb,0,none⟩=some (.pointer (some ⟨lw,0,none⟩))/\w'.cell? ⟨y,6,none⟩=some (.int .i64 i)) ((refine⟨?_,?_⟩ <;> first|with_reducible assumption|fail)) (first
  | (go_at_call 200;(with_reducible refine(OW.out _ K5.out).mono ?_);rintro e w6 ⟨rfl,hs6,hk6⟩;obtain⟨f0,f1⟩:=hs6.c0;have X6:=aA ((hk6.block _ (lH X5.out) (fun e=>NY.out (.inl e))).trans X5.out);obtain⟨f2,f3,f6⟩:=PQ.out _ X6.out;have S6:=aA hs6;have K6:=aA (K5.out.trans hk6 (fun _ _ e=>e.elim) (fun _ _ e=>e));clear hs6 hk6)
  | (go_at_call 45;(with_reducible refine MP.out.mono ?_);rintro e w5 ⟨rfl,h5⟩;replace h5:=h5.symm;subst h5)
  | fail)
 all_goals
  clear p2 p3 p6 c0 c1 f2 f3 f6;have MP6:=aA (bY S6.out.pl);go_wp2_with fail;refine MP6.out.mono ?_;rintro e w7 ⟨rfl,h7⟩;replace h7:=h7.symm;subst h7;go_wp2_with fail;refine(FR.out _ S6.out).mono ?_;rintro e w7 ⟨rfl,hs7,hk7⟩;have S7:=aA hs7;have K7:=aA (K6.out.trans hk7 (fun _ _ e=>e) (fun _ _ e=>e));have X7:=aA ((hk7.block _ (lH X6.out) (fun e=>NY.out (.inl e))).trans X6.out);clear hs7 hk7 f0 f1;go_upto_region 9 with fail;obtain⟨p2,p3,p6⟩:=PQ.out _ X7.out;have KD7:=aA ((Kt.refl nO w7).drew);have X8:=aA ((KD7.out.block _ (lH X7.out) id).trans X7.out);obtain⟨q2,q3,q6⟩:=PQ.out _ X8.out;obtain⟨l1,hl1⟩:=xe (lv+1);have hl1i:(lv:Int)+1=(l1:Int):=by omega
  have hl1b:l1<=257:=by omega
  have hlw:IntKind.i64.wrap (l1:Int)=l1:=by rw[IntKind.wrap_i64];omega
  have HL1:=aA hl1;clear hl1;have CL:=aA (CLS.out _ _ (S7.out.keep KD7.out));go_region_held3 (fun w'=>w'.cell? ⟨y,3,none⟩=some (.int .i64 lv)) (first|with_reducible assumption|fail) (first
   | (go_at_call 201;(with_reducible refine CL.out.mono ?_);rintro e w8 ⟨rfl,h8⟩;replace h8:=h8.symm;subst h8)
   | fail)
  all_goals
   have S8:=aA (S7.out.keep KD7.out);have K8:=aA (K7.out.trans KD7.out (fun _ _ e=>e) (fun _ _ e=>e.elim));clear p2 p3 p6 q2 q3 q6 CL;by_cases hr:r=[]
   ·have hb:((l1:Int) == (N:Int))=true:=by
     rw[beq_iff_eq,HL1.out];have:=HLR.out.2 hr;omega
    have UL:=aA (show Calls prog 202 #[.pointer (some ⟨sb,0,none⟩),.int .i64 p,.int .i64 k] w7.drew fun e w'=>e=.returned (.tuple #[])/\SE w w7.drew sb lw x t mF hF w' from by
     have:=OF S8.out (p:Int) k hk;rw[HMF.out,HHF.out,if_pos hr,if_pos hr];exact this)
    generalize w7.drew=W8 at *;as_aux_lemma=>
     go_wp2_with fail;refine UL.out.mono ?_;rintro e w9 ⟨rfl,hs9,hk9⟩;have D:=aA (show SE w W sb lw x t mF hF w9 from⟨hs9,(K8.out.mono (fun _ _ e=>.inl e)).trans hk9 (fun _ _ e=>e) (fun _ _ e=>e)⟩);clear hs9 hk9;go_wp2_with fail;exact⟨rfl,.tuple #[.int .u64 a,.int .i64 0],by simp[results,results162,go_sem],rfl,D.out⟩
   ·have hb:((l1:Int) == (N:Int))=false:=by
     rw[beq_eq_false_iff_ne,HL1.out];intro e;exact hr (HLR.out.1 (by omega))
    have D:=aA (show SE w W sb lw x t mF hF w7.drew from by
     rw[HMF.out,HHF.out,if_neg hr,if_neg hr];exact⟨S8.out,K8.out.mono (fun _ _ e=>.inl e)⟩)
    generalize w7.drew=W8 at *;as_aux_lemma=>
     go_wp2_with fail;exact⟨rfl,.tuple #[.int .u64 a,.int .i64 0],by simp[results,results162,go_sem],rfl,D.out⟩
theorem sD(x r:Nat):(x/2 ^ r%2 == 1)=x.testBit r:=by
 rw[Nat.testBit_eq_decide_div_mod_eq];rfl
theorem QY(p:Pg)(c j:Nat)(hc:c<256)(hj:j<256):aH (dT p c) j=(if j=c then !aH p c else aH p j):=by
 have key:∀ x:Nat,∀ s r:Nat,(x ^^^ 2 ^ r).testBit s=(if s=r then !x.testBit s else x.testBit s):=fun x s r=>by
  rw[Nat.testBit_xor,Nat.testBit_two_pow];by_cases e:s=r
  ·subst e;simp
  ·have e':¬r=s:=fun h=>e h.symm
   simp[e,e']
 have two:∀ a b:Nat,a/64=b/64->(a%64=b%64↔a=b):=fun a b h=>by omega
 unfold aH;rw[sD,sD,sD];rcases sA hc with h|h|h|h <;> rcases sA hj with g|g|g|g <;> simp only[dT,h,g,wP] <;> first
  |(
   rw[key];by_cases e:j=c
   ·subst e;simp
   ·have e2:¬j%64=c%64:=fun e3=>e ((two j c (by omega)).1 e3)
    simp[e,e2])
  | (rw[if_neg (by omega)])
theorem JW(p:Pg)(c j:Nat)(hc:c<256)(hj:j<256):aH (bT p c) j=(if j=c then !aH p c else aH p j):=by
 rw[<-QY p c j hc hj];unfold aH bT;unfold wP;rfl
def aZ{α : Type}(f:Nat->α)(p:Nat)(v : α):Nat->α:=fun r=>if r=p then v else f r
theorem cV{α : Type}(f:Nat->α)(p:Nat)(v : α):aZ f p v p=v:=if_pos rfl
theorem cT{α : Type}(f:Nat->α){p r:Nat}(v : α)(h:r≠p):aZ f p v r=f r:=if_neg h
structure SlQ(S:Sb)(p k:Nat)(q:Pg):Prop where
 kd:q.kd=4
 od:q.od=0
 cl:q.cl=(k:Int)
 lv:q.lv=((aG k-(S.fl p).length:Nat):Int)
 fs:q.fs=bE (S.fl p)
 bt:∀ i,i<256->aH q i=decide (i<aG k/\i ∉ S.fl p)
theorem SlP.q{S p k q}(h:SlP S p k q):SlQ S p k q:=⟨h.kd,h.od,h.cl,h.lv,h.fs,h.bt⟩
theorem SlQ.p{S p k q}(h:SlQ S p k q)(n:q.nx=bD (S.pl k) p)(v:q.pv=bG (S.pl k) p):SlP S p k q:=⟨h.kd,h.od,h.cl,h.lv,n,v,h.fs,h.bt⟩
theorem AA{q q':Pg}(h0:q'.b0=q.b0)(h1:q'.b1=q.b1)(h2:q'.b2=q.b2)(h3:q'.b3=q.b3)(i:Nat):aH q' i=aH q i:=by
 unfold aH;have:wP q' (i/64)=wP q (i/64):=by
  unfold wP;split <;> assumption
 rw[this]
theorem SlQ.rst{S p k q q'}(h:SlQ S p k q)(r:vI q q'):SlQ S p k q':=by
 obtain⟨a,b,rfl⟩:=r;exact⟨h.kd,h.od,h.cl,h.lv,h.fs,fun i hi=>(AA rfl rfl rfl rfl i).trans (h.bt i hi)⟩
theorem SlQ.congr{S S' p k q}(h:SlQ S p k q)(e:S'.fl p=S.fl p):SlQ S' p k q:=⟨h.kd,h.od,h.cl,by rw[e];exact h.lv,by rw[e];exact h.fs,fun i hi=>by rw[e];exact h.bt i hi⟩
theorem oY{x:Bx}{P:Nat->Option Pg}{f:Nat->Nat}{p k:Nat} : ∀ {l:List Nat},lZ x f p k l->lZ { x with P:=P } f p k l
 | [],_=>trivial
 | i :: l,h=>⟨by
   rw[h.1]
   cases l <;> rfl,oY h.2⟩
theorem zS{pg:Nat->Pg}{l:List Nat}{p r:Nat}(hd:l.Nodup)(hr:r≠p)(hl:r ∉ l):fD pg l p r=pg r:=by
 unfold fD;rw[if_neg hr,if_neg,if_neg]
 ·intro e;rcases lR l p hd with h|⟨b,h,hb,_⟩
  ·omega
  ·exact hl (by rw[show r=b by omega];exact hb)
 ·intro e;rcases mL l p hd with h|⟨b,h,hb,_⟩
  ·omega
  ·exact hl (by rw[show r=b by omega];exact hb)
theorem uD{pg:Nat->Pg}{l:List Nat}{p r:Nat}(hr:r≠p)(hl:r ∉ l):dV pg l p r=pg r:=by
 unfold dV;rw[if_neg hr,if_neg (fun e=>hl (nL e.symm))]
def aP(S:Sb)(p k:Nat)(r:List Nat):Sb:={ S with fl:=aZ S.fl p r,pl:=if r=[] then aZ S.pl k (M.dropL (S.pl k) p) else S.pl }
theorem QX{S:Sb}{p k i:Nat}{r:List Nat}{q:Pg}(hk:k<8)(h:SlP S p k q)(hf:S.fl p=i :: r)(nd:(S.fl p).Nodup)(hi:i<aG k)(hl:(S.fl p).length<=aG k):
  SlQ (aP S p k r) p k { bT q i with fs:=bE r }/\({ bT q i with fs:=bE r } : Pg).nx=q.nx/\({ bT q i with fs:=bE r } : Pg).pv=q.pv:=by
 obtain⟨t1,t2,t3,t4,t5,t6,t7⟩:=tQ q i;have hnb:=dN hk;have hlit:aH q i=false:=by
  rw[h.bt i (by omega),hf];exact decide_eq_false (fun e=>e.2 List.mem_cons_self)
 rw[hf] at nd hl;have hni:i ∉ r:=(List.nodup_cons.1 nd).1;have hfl:(aP S p k r).fl p=r:=cV _ _ _;rw[List.length_cons] at hl;refine⟨⟨t1.trans h.kd,t2.trans h.od,t3.trans h.cl,?_,by rw[hfl],fun j hj=>?_⟩,t5,t6⟩
 ·show wrap64 (if aH q i=true then q.lv-1 else q.lv+1)=_
  rw[hlit,if_neg (by decide),h.lv,hfl,hf,List.length_cons];unfold wrap64;omega
 ·have e1:aH { bT q i with fs:=bE r } j=aH (bT q i) j:=AA rfl rfl rfl rfl j;rw[e1,JW q i j (by omega) hj,hfl];by_cases e:j=i
  ·rw[if_pos e,hlit];symm;exact decide_eq_true ⟨by omega,by rw[e];exact hni⟩
  ·rw[if_neg e,h.bt j hj,hf];apply decide_eq_decide.2
   rw[List.mem_cons,not_or];exact⟨fun h=>⟨h.1,h.2.2⟩,fun h=>⟨h.1,e,h.2⟩⟩
theorem QW{m:Mp}{p i k:Nat}{r:List Nat}(hp:p<m.n)(hkd:(m.pg p).kd=4)(hcl:(m.pg p).cl=(k:Int))(hi:i<aG k)(hlit:aH (m.pg p) i=false)(hr:∀ j∈r,j<aG k):mA m p i r={ m with pg:=aJ m.pg p { bT (m.pg p) i with fs:=bE r } }:=by
 have hcn:eN (m.pg p).cl=aG k:=by rw[hcl];rfl
 unfold mA;rw[(yO hp hkd (by rw[hcn];exact hi) (by rw[hlit];rfl)).2];obtain⟨t1,t2,t3,_⟩:=tQ (m.pg p) i;have e1:aJ m.pg p (bT (m.pg p) i) p=bT (m.pg p) i:=if_pos rfl;rw[BH (m:={ m with pg:=aJ m.pg p (bT (m.pg p) i) }) hp (by show(aJ m.pg p _ p).kd=4;rw[e1];exact t1.trans hkd) (by
  rcases pB r with e|⟨j,e,hj⟩
  ·exact .inl e
  ·refine .inr ⟨j,e,?_⟩;show j<eN (aJ m.pg p _ p).cl
   rw[e1,show(bT (m.pg p) i).cl=(m.pg p).cl from t3,hcn];exact hr j hj)]
 show({ m with pg:=aJ (aJ m.pg p (bT (m.pg p) i)) p { aJ m.pg p (bT (m.pg p) i) p with fs:=bE r } } : Mp)=_
 rw[e1];refine congrArg (fun g=>({ m with pg:=g } : Mp)) (funext fun a=>?_);unfold aJ;by_cases e:a=p
 ·rw[if_pos e,if_pos e]
 ·rw[if_neg e,if_neg e,if_neg e]
theorem SO.hand{w W sb lw x t fr ls S h w'}(o:SO w W sb lw x t fr ls S h){p k i:Nat}{r:List Nat}(hc:S.c p=some k)(hf:S.fl p=i :: r)(se:SE w W sb lw x t (dS t.m p i r) (fI t.m h p k i r) w'):
  SO w w' sb lw { x with P:=jC (aP S p k r) (dS t.m p i r) } { t with m:=dS t.m p i r } fr ls (aP S p k r) (fI t.m h p k i r):=by
 obtain⟨hk,sp⟩:=o.si.pg p k hc;obtain⟨nd,lt,lk⟩:=o.si.fl p k hc;have hlv:=o.si.lv p k hc;obtain⟨hls,hpn,_⟩:=o.mem hc;have hnb:=dN hk;have hib:i<aG k:=lt i (by rw[hf];exact List.mem_cons_self);have hlit:aH (t.m.pg p) i=false:=by
  rw[sp.bt i (by omega),hf];exact decide_eq_false (fun e=>e.2 List.mem_cons_self)
 have e2:=QW (r:=r) hpn sp.kd sp.cl hib hlit (fun j hj=>lt j (by rw[hf];exact List.mem_cons_of_mem _ hj));obtain⟨q2,q2n,q2v⟩:=QX hk sp hf nd hib hlv;generalize hq2:({ bT (t.m.pg p) i with fs:=bE r } : Pg)=Q2 at *;have hpl:p∈S.pl k:=(o.si.pm k hk p).2 ⟨hc,by rw[hf];exact List.cons_ne_nil _ _⟩;have hln:(S.pl k).Nodup:=o.si.pn k hk
 have pg2:∀ a c,S.c a=some c->SlQ (aP S p k r) a c (aJ t.m.pg p Q2 a)/\(aJ t.m.pg p Q2 a).nx=bD (S.pl c) a/\(aJ t.m.pg p Q2 a).pv=bG (S.pl c) a:=fun a c ha=>by
  obtain⟨hc8,sa⟩:=o.si.pg a c ha;unfold aJ;by_cases e:a=p
  ·subst e;rw[hc] at ha
   cases ha
   rw[if_pos rfl,q2n,q2v];exact⟨q2,sp.nx,sp.pv⟩
  ·rw[if_neg e];exact⟨sa.q.congr (cT _ _ e),sa.nx,sa.pv⟩
 have hout2:∀ a,S.c a=none->aJ t.m.pg p Q2 a=t.m.pg a:=fun a ha=>by
  unfold aJ;rw[if_neg];intro e;rw[e,hc] at ha
  cases ha
 -- the pages in the end
 obtain⟨pgF,hpgF,hF1,hF2,hF3,hF4⟩:∃ pgF:Nat->Pg,dS t.m p i r={ t.m with pg:=pgF }/\(∀ a,S.c a=none->pgF a=t.m.pg a)/\(∀ a c,S.c a=some c->SlQ (aP S p k r) a c (pgF a)/\(pgF a).nx=bD ((aP S p k r).pl c) a/\(pgF a).pv=bG ((aP S p k r).pl c) a)/\(∀ c,c<8->fI t.m h p k i r c=bE ((aP S p k r).pl c))/\True:=by
  by_cases hr:r=[]
  ·have hU:=DE (m:={ t.m with pg:=aJ t.m.pg p Q2 }) (h:=h) (c:=k) hln hpl (fun a ha=>by
    have hca:=((o.si.pm k hk a).1 ha).1;obtain⟨h1,h2,h3⟩:=pg2 a k hca;exact⟨(o.mem hca).2.1,h1.kd,h2,h3⟩)
   have ePl:(aP S p k r).pl=aZ S.pl k (M.dropL (S.pl k) p):=(by unfold aP;rw[if_pos hr]);have np:NP (aJ t.m.pg p Q2) S k (S.pl k):=fun a ha=>(pg2 a k ha).2
   have np2:=CZ np hln hpl;refine⟨fD (aJ t.m.pg p Q2) (S.pl k) p,?_,fun a ha=>?_,fun a c ha=>?_,fun c hc8=>?_,trivial⟩
   ·unfold dS;rw[if_pos hr,e2,hU.1]
   ·have hap:a≠p:=fun e=>by rw[e,hc] at ha;cases ha
    have hal:a ∉ S.pl k:=fun e=>by rw[((o.si.pm k hk a).1 e).1] at ha;cases ha
    rw[zS hln hap hal];exact hout2 a ha
   ·obtain⟨h1,h2,h3⟩:=pg2 a c ha;refine⟨h1.rst (OG _ _ _ _),?_⟩;rw[ePl];by_cases e:c=k
    ·subst e;rw[cV];exact np2 a ha
    ·rw[cT _ _ e];have hap:a≠p:=fun e3=>by rw[e3,hc] at ha;cases ha;exact e rfl
     have hal:a ∉ S.pl k:=fun e3=>by rw[((o.si.pm k hk a).1 e3).1] at ha;cases ha;exact e rfl
     rw[zS hln hap hal];exact⟨h2,h3⟩
   ·unfold fI;rw[if_pos hr,e2,hU.2,ePl];by_cases e:c=k
    ·subst e;rw[cV,uB hln hpl];by_cases e3:bG (S.pl c) p = -1
     ·rw[if_pos e3,if_pos e3];exact if_pos rfl
     ·rw[if_neg e3,if_neg e3];exact o.hd c hc8
    ·rw[cT _ _ e];by_cases e3:bG (S.pl k) p = -1
     ·rw[if_pos e3];exact(if_neg e).trans (o.hd c hc8)
     ·rw[if_neg e3];exact o.hd c hc8
  ·have ePl:(aP S p k r).pl=S.pl:=(by unfold aP;rw[if_neg hr]);refine⟨aJ t.m.pg p Q2,?_,hout2,fun a c ha=>?_,fun c hc8=>?_,trivial⟩
   ·unfold dS;rw[if_neg hr,e2]
   ·rw[ePl];exact pg2 a c ha
   ·unfold fI;rw[if_neg hr,ePl];exact o.hd c hc8
 have hsw:=se.1;rw[hpgF] at hsw ⊢;have hfl:∀ a c,S.c a=some c->((aP S p k r).fl a=r/\a=p)\/((aP S p k r).fl a=S.fl a/\a≠p):=fun a c ha=>by
  by_cases e:a=p
  ·exact .inl ⟨by rw[e];exact cV _ _ _,e⟩
  ·exact .inr ⟨cT _ _ e,e⟩
 refine⟨hsw.reP _,o.sf.repaint S (aP S p k r) o.si.eP { t.m with pg:=pgF } rfl rfl rfl (fun a ha=>?_) (fun a c ha=>⟨(hF2 a c ha).1.kd,(o.mem ha).1⟩),o.st,o.bm,⟨rfl,fun a c ha=>⟨(o.si.pg a c ha).1,(hF2 a c ha).1.p (hF2 a c ha).2.1 (hF2 a c ha).2.2⟩,fun a c ha=>?_,fun a c ha=>?_,fun c hc8=>?_,fun c hc8 a=>?_⟩,hF3⟩
 ·have ha:S.c a=none:=ha;rw[if_pos ha];exact hF1 a ha
 ·replace ha:S.c a=some c:=ha;obtain⟨n1,n2,n3⟩:=o.si.fl a c ha;rcases hfl a c ha with ⟨e,rfl⟩|⟨e,_⟩
  ·rw[e];rw[hc] at ha
   cases ha
   rw[hf] at n1 n2 n3;exact⟨(List.nodup_cons.1 n1).2,fun j hj=>n2 j (List.mem_cons_of_mem _ hj),oY n3.2⟩
  ·rw[e];exact⟨n1,n2,oY n3⟩
 ·have hl:=o.si.lv a c ha;rcases hfl a c ha with ⟨e,rfl⟩|⟨e,_⟩
  ·rw[e];rw[hf,List.length_cons] at hl;omega
  ·rw[e];exact hl
 ·have:=o.si.pn c hc8;unfold aP;by_cases hr:r=[]
  ·rw[if_pos hr];show(aZ S.pl k _ c).Nodup
   by_cases e:c=k
   ·subst e;rw[cV];exact QJ this p
   ·rw[cT _ _ e];exact this
  ·rw[if_neg hr];exact this
 ·have hpm:=o.si.pm c hc8 a;show a∈(aP S p k r).pl c↔(S.c a=some c/\aZ S.fl p r a≠[])
  by_cases hr:r=[]
  ·have ePl:(aP S p k r).pl=aZ S.pl k (M.dropL (S.pl k) p):=(by unfold aP;rw[if_pos hr]);rw[ePl];by_cases ea:a=p
   ·subst ea;rw[cV];constructor
    ·intro hm;exfalso
     by_cases e:c=k
     ·subst e;rw[cV,kF] at hm;exact hm.2 rfl
     ·rw[cT _ _ e,hpm,hc] at hm
      cases hm.1
      exact e rfl
    ·exact fun hm=>absurd hr hm.2
   ·rw[cT _ _ ea];by_cases e:c=k
    ·subst e;rw[cV,kF,hpm];exact⟨fun hm=>hm.1,fun hm=>⟨hm,ea⟩⟩
    ·rw[cT _ _ e];exact hpm
  ·have ePl:(aP S p k r).pl=S.pl:=(by unfold aP;rw[if_neg hr]);rw[ePl,hpm];by_cases ea:a=p
   ·subst ea;rw[cV,hf];exact⟨fun hm=>⟨hm.1,hr⟩,fun hm=>⟨hm.1,List.cons_ne_nil _ _⟩⟩
   ·rw[cT _ _ ea]
theorem wR{x x':Bx}(h:x'.bS=x.bS)(p k n:Nat):aQ x' p k n=aQ x p k n:=by unfold aQ;rw[h]
theorem uA{x x':Bx}{f f':Nat->Nat}{p k:Nat}(hb:x'.bS=x.bS):∀ {l:List Nat},(∀ i∈l,M.word f' (4096*p+i*aE k)=M.word f (4096*p+i*aE k))->lZ x f p k l->lZ x' f' p k l
 | [],_,_=>trivial
 | i :: l,hf,h=>⟨by
   rw[hf i List.mem_cons_self,h.1]
   cases l with
   | nil=>rfl
   | cons j l=>exact(wR hb p k j).symm,uA hb (fun j hj=>hf j (List.mem_cons_of_mem _ hj)) h.2⟩
theorem BM{f g:Nat->Nat}{o:Nat}(h:∀ i,i<8->g (o+i)=f (o+i)):M.word g o=M.word f o:=by
 unfold M.word;exact wordTo_congr _ _ 8 h
theorem SO.pool{w W W' sb lw x t fr ls S h x1 t1 fr1 ls1}(o:SO w W sb lw x t fr ls S h)(po:PO w W' lw x1 t1 fr1 ls1)(sm:Sm x x1)(bk:BK t t1 ls ls1)(sub:∀ p k,S.c p=some k->(p,0)∈ls1)(kp:Kt (aD x) W W'):SO w W' sb lw x1 t1 fr1 ls1 S h:=by
 have hpage:∀ p k,S.c p=some k->t1.m.pg p=t.m.pg p:=fun p k hp=>
  (po.sf.pslab (p:=p) (q:=t.m.pg p) (by rw[sm.P,o.si.eP];exact jB hp)).2.2.2
 refine⟨⟨po.pl,?_,o.sw.nw,o.sw.tb⟩,po.sf,po.st,po.bm,⟨?_,fun p k hp=>?_,fun p k hp=>?_,o.si.lv,o.si.pn,o.si.pm⟩,o.hd⟩
 ·rw[sm.bS];exact(kp.block _ (lH o.sw.bx) (fun e=>o.sw.nsb (.inl e))).trans o.sw.bx
 ·rw[sm.P,o.si.eP];funext p
  cases e:S.c p with
  | none=>rw[iG e,iG e]
  | some k=>rw[jB e,jB e,hpage p k e]
 ·obtain⟨h1,h2⟩:=o.si.pg p k hp;rw[hpage p k hp];exact⟨h1,h2⟩
 ·obtain⟨n1,n2,n3⟩:=o.si.fl p k hp;have hk:=(o.si.pg p k hp).1;have hnb:=dN hk;have hz:=dU hk;refine⟨n1,n2,uA sm.bS (fun i hi=>BM fun j hj=>?_) n3⟩;have hib:=n2 i hi;have h2:(i+1)*aE k<=aG k*aE k:=Nat.mul_le_mul_right _ hib;rw[Nat.add_mul,Nat.one_mul,hnb.1] at h2;have hd:(4096*p+i*aE k+j)/4096=p:=by omega
  refine bk _ ?_ ?_
  ·rw[hd];exact⟨p,0,(o.mem hp).1,Nat.le_refl _,by omega⟩
  ·rw[hd];exact⟨p,0,sub p k hp,Nat.le_refl _,by omega⟩
theorem zQ(f:Nat->Nat)(P off z:Nat)(hz : 8<=z):∀ k i,i<k->P+k*z<18446744073709551616->M.word (jU f P off z k) (off+i*z)=P+(i+1)*z
 | 0,i,h,_=>absurd h (Nat.not_lt_zero _)
 | k+1,i,h,h64=>by
  rw[jU];by_cases e:i=k
  ·subst e;rw[M.word_upd _ _ _ h64]
  ·have hl:i<k:=(by omega);have h1:(i+1)*z<=k*z:=Nat.mul_le_mul_right _ hl;rw[Nat.add_mul,Nat.one_mul] at h1;have h2:k*z<=(k+1)*z:=Nat.mul_le_mul_right _ (by omega);rw[M.word_far _ _ _ _ (.inr (by omega))];exact zQ f P off z hz k i hl (by omega)
theorem xW(f:Nat->Nat)(P off z:Nat):∀ k j,(∀ i,i<k->¬(off+i*z<=j/\j<off+i*z+8))->jU f P off z k j=f j
 | 0,j,_=>rfl
 | k+1,j,h=>by
  rw[jU];unfold M.upd;rw[if_neg (h k (by omega))];exact xW f P off z k j (fun i hi=>h i (by omega))
theorem sY(f:Nat->Nat)(x:Bx)(p k:Nat)(hk:k<8)(j:Nat)(hj:¬(4096*p<=j/\j<4096*p+4096)):iQ f (ad x p) (4096*p) (aE k) (aG k) j=f j:=by
 have hnb:=dN hk;have hz:=dU hk;have hin:∀ i,i<aG k->i*aE k+aE k<=4096:=fun i hi=>by
  have h2:(i+1)*aE k<=aG k*aE k:=Nat.mul_le_mul_right _ hi;rw[Nat.add_mul,Nat.one_mul,hnb.1] at h2;exact h2
 unfold iQ;have h1:=hin (aG k-1) (by omega);unfold M.upd;rw[if_neg (by omega)];refine xW _ _ _ _ _ _ fun i hi=>?_
 have:=hin i (by omega);omega
theorem zX(x:Bx)(f:Nat->Nat)(p k:Nat)(hk:k<8)(hb:x.bS+4096*p+4096<=9223372036854775808):∀ n a,a+n=aG k->lZ x (iQ f (ad x p) (4096*p) (aE k) (aG k)) p k (List.range' a n)
 | 0,a,_=>trivial
 | n+1,a,h=>by
  have hnb:=dN hk;have hz:=dU hk;obtain⟨M1,hM⟩:∃ M1,aG k=M1+1:=⟨aG k-1,by omega⟩;have hMz:M1*aE k+aE k=4096:=by
   have:=hnb.1;rw[hM,Nat.add_mul,Nat.one_mul] at this;exact this
  refine⟨?_,zX x f p k hk hb n (a+1) (by omega)⟩;unfold iQ;rw[show aG k-1=M1 by omega]
  cases n with
  | zero=>
   have ea:a=M1:=(by omega);subst ea;rw[M.word_upd _ _ _ (by decide)];rfl
  | succ n=>
   have hl:a<M1:=(by omega);have h1:(a+1)*aE k<=M1*aE k:=Nat.mul_le_mul_right _ hl;rw[Nat.add_mul,Nat.one_mul] at h1;rw[M.word_far _ _ _ _ (.inr (by omega)),zQ _ _ _ _ (by omega) M1 a hl (by unfold ad;omega)];show _=aQ x p k (a+1)
   unfold aQ ad;rfl
def aW(S:Sb)(p k:Nat):Sb:=⟨aZ S.c p (some k),aZ S.fl p (List.range' 0 (aG k)),aZ S.pl k (p :: S.pl k)⟩
def fJ(m:Mp)(h:Nat->Int)(p k:Nat):Mp:=fE (fO (iW m (p:Int) (k:Int)) (p:Int) 0) h (p:Int) k
theorem QG{q:Pg}(h0:q.b0=0)(h1:q.b1=0)(h2:q.b2=0)(h3:q.b3=0)(i:Nat):aH q i=false:=by
 unfold aH;have:wP q (i/64)=0:=by
  unfold wP;split <;> assumption
 rw[this];simp
theorem MR{m:Mp}{h:Nat->Int}{p k:Nat}{l:List Nat}(hp:p<m.n)(hk:k<8)(hh:h k=bE l)(hl:∀ r∈l,r<m.n/\(m.pg r).kd=4/\cK m.n (m.pg r).nx=true)(hpl:p ∉ l):fJ m h p k={ m with pg:=dV (aJ m.pg p { dD (k:Int)with fs:=0 }) l p }:=by
 have hnb:=dN hk;have e1:iW m (p:Int) (k:Int)={ m with pg:=aJ m.pg p (dD (k:Int)) }:=by
  unfold iW;rw[if_pos ⟨dH hp,by omega,by omega⟩,Int.toNat_natCast]
 have e2:aJ m.pg p (dD (k:Int)) p=dD (k:Int):=if_pos rfl;have e3:fO { m with pg:=aJ m.pg p (dD (k:Int)) } (p:Int) 0={ m with pg:=aJ m.pg p { dD (k:Int)with fs:=0 } }:=by
  rw[BH (m:={ m with pg:=aJ m.pg p (dD (k:Int)) }) (c:=(0:Int)) hp (by show(aJ m.pg p _ p).kd=4;rw[e2];rfl) (.inr ⟨0,rfl,by
   show 0<eN (aJ m.pg p _ p).cl
   rw[e2];show 0<aG k
   omega⟩)]
  show({ m with pg:=aJ (aJ m.pg p (dD (k:Int))) p { aJ m.pg p (dD (k:Int)) p with fs:=0 } } : Mp)=_
  rw[e2];refine congrArg (fun g=>({ m with pg:=g } : Mp)) (funext fun a=>?_);unfold aJ;by_cases e:a=p
  ·rw[if_pos e,if_pos e]
  ·rw[if_neg e,if_neg e,if_neg e]
 unfold fJ;rw[e1,e3];have e4:aJ m.pg p { dD (k:Int)with fs:=0 } p={ dD (k:Int)with fs:=0 }:=if_pos rfl;exact DG (m:={ m with pg:=aJ m.pg p { dD (k:Int)with fs:=0 } }) hp (by show(aJ m.pg p _ p).kd=4;rw[e4];rfl) hh (fun r hr=>by
  have hrp:r≠p:=fun e=>hpl (e▸hr)
  have e5:aJ m.pg p { dD (k:Int)with fs:=0 } r=m.pg r:=if_neg hrp;show r<m.n/\(aJ m.pg p _ r).kd=4/\cK m.n (aJ m.pg p _ r).nx=true
  rw[e5];exact hl r hr) hpl
theorem WH{n:Nat}(h : 0<n):bE (List.range' 0 n)=0:=by
 obtain⟨m,rfl⟩:∃ m,n=m+1:=⟨n-1,by omega⟩;rfl
theorem SO.fresh{w W W' sb lw x t fr ls S h}(o:SO w W sb lw x t fr ls S h){p k:Nat}(hk:k<8)(hls:(p,0)∈ls)(hc:S.c p=none)
  (sw:SW w W' sb lw x ⟨iQ t.f (ad x p) (4096*p) (aE k) (aG k),fJ t.m h p k,t.hd⟩ (cU h k (p:Int))):
  SO w W' sb lw { x with P:=jC (aW S p k) (fJ t.m h p k) } ⟨iQ t.f (ad x p) (4096*p) (aE k) (aG k),fJ t.m h p k,t.hd⟩ fr ls (aW S p k) (cU h k (p:Int)):=by
 have hnb:=dN hk;have hz:=dU hk;have hpn:p<t.m.n:=by
  have:=(o.sf.sn.al hls).2.2;omega
 have n4:=o.po.nums.2.2.2.1;have hst:=o.st;have hpb:x.bS+4096*p+4096<=9223372036854775808:=by
  have h5:(p+1)*4096<=t.m.n*4096:=Nat.mul_le_mul_right _ hpn;omega
 have hpl:p ∉ S.pl k:=fun e=>by
  rw[((o.si.pm k hk p).1 e).1] at hc
  cases hc
 have hln:=o.si.pn k hk;have eM:=MR (m:=t.m) (h:=h) hpn hk (o.hd k hk) (fun r hr=>by
  have hcr:=((o.si.pm k hk r).1 hr).1;have sr:=(o.si.pg r k hcr).2;refine⟨(o.mem hcr).2.1,sr.kd,?_⟩;rw[sr.nx];rcases lR (S.pl k) r hln with e|⟨b,e,hb,_⟩
  ·rw[e];exact lL _
  ·rw[e];exact oK (o.mem ((o.si.pm k hk b).1 hb).1).2.1) hpl
 rw[eM] at sw ⊢;generalize hpgF:dV (aJ t.m.pg p { dD (k:Int)with fs:=0 }) (S.pl k) p=pgF at *;have hne:∀ a,a≠p->(aW S p k).c a=S.c a/\(aW S p k).fl a=S.fl a:=fun a ha=>⟨cT _ _ ha,cT _ _ ha⟩
 have hcp:(aW S p k).c p=some k:=cV _ _ _;have hfp:(aW S p k).fl p=List.range' 0 (aG k):=cV _ _ _;have hup:∀ a,a≠p->aJ t.m.pg p { dD (k:Int)with fs:=0 } a=t.m.pg a:=fun a ha=>if_neg ha
 have huq:aJ t.m.pg p { dD (k:Int)with fs:=0 } p={ dD (k:Int)with fs:=0 }:=if_pos rfl;have F0:∀ a,S.c a=none->a≠p->pgF a=t.m.pg a:=fun a ha hap=>by
  have hal:a ∉ S.pl k:=fun e=>by
   rw[((o.si.pm k hk a).1 e).1] at ha
   cases ha
  rw[<-hpgF,uD hap hal];exact hup a hap
 have Q0:SlQ (aW S p k) p k { dD (k:Int)with fs:=0 }:=by
  refine⟨rfl,rfl,rfl,?_,?_,fun i hi=>?_⟩
  ·rw[hfp,List.length_range',Nat.sub_self];rfl
  ·rw[hfp,WH (by omega)]
  ·rw[QG rfl rfl rfl rfl,hfp];symm;refine decide_eq_false fun e=>e.2 (List.mem_range'_1.2 ⟨Nat.zero_le _,by omega⟩)
 have NP0:NP (aJ t.m.pg p { dD (k:Int)with fs:=0 }) (aW S p k) k (S.pl k):=fun a ha=>by
  by_cases e:a=p
  ·subst e;rw[huq,sN hpl,oX hpl];exact⟨rfl,rfl⟩
  ·rw[(hne a e).1] at ha;rw[hup a e];exact⟨(o.si.pg a k ha).2.nx,(o.si.pg a k ha).2.pv⟩
 have NP1:=DA NP0 hln hpl;have F2:∀ a c,(aW S p k).c a=some c->c<8/\SlP (aW S p k) a c (pgF a):=fun a c ha=>by
  have hq:SlQ (aW S p k) a c (aJ t.m.pg p { dD (k:Int)with fs:=0 } a)/\c<8:=by
   by_cases e:a=p
   ·subst e;rw[hcp] at ha
    cases ha
    rw[huq];exact⟨Q0,hk⟩
   ·rw[(hne a e).1] at ha;rw[hup a e];exact⟨(o.si.pg a c ha).2.q.congr (hne a e).2,(o.si.pg a c ha).1⟩
  refine⟨hq.2,(hq.1.rst (by rw[<-hpgF];exact OH _ _ _ _)).p ?_ ?_⟩
  ·show(pgF a).nx=bD (aZ S.pl k (p :: S.pl k) c) a
   by_cases e:c=k
   ·subst e;rw[cV,<-hpgF];exact(NP1 a ha).1
   ·have hap:a≠p:=fun e2=>by rw[e2,hcp] at ha;cases ha;exact e rfl
    rw[cT _ _ e];rw[(hne a hap).1] at ha;have hal:a ∉ S.pl k:=fun e2=>by rw[((o.si.pm k hk a).1 e2).1] at ha;cases ha;exact e rfl
    rw[<-hpgF,uD hap hal,hup a hap];exact(o.si.pg a c ha).2.nx
  ·show(pgF a).pv=bG (aZ S.pl k (p :: S.pl k) c) a
   by_cases e:c=k
   ·subst e;rw[cV,<-hpgF];exact(NP1 a ha).2
   ·have hap:a≠p:=fun e2=>by rw[e2,hcp] at ha;cases ha;exact e rfl
    rw[cT _ _ e];rw[(hne a hap).1] at ha;have hal:a ∉ S.pl k:=fun e2=>by rw[((o.si.pm k hk a).1 e2).1] at ha;cases ha;exact e rfl
    rw[<-hpgF,uD hap hal,hup a hap];exact(o.si.pg a c ha).2.pv
 have sf1:=o.sf.fill (p:=p) (k:=0) hls (f':=iQ t.f (ad x p) (4096*p) (aE k) (aG k)) (fun j hj=>sY t.f x p k hk j (by omega));refine⟨sw.reP _,sf1.repaint S (aW S p k) o.si.eP { t.m with pg:=pgF } rfl rfl rfl (fun a ha=>?_) (fun a c ha=>⟨(F2 a c ha).2.kd,?_⟩),o.st,o.bm,⟨rfl,F2,fun a c ha=>?_,fun a c ha=>?_,fun c hc8=>?_,fun c hc8 a=>?_⟩,fun c hc8=>?_⟩
 ·have hap:a≠p:=fun e=>by rw[e,hcp] at ha;cases ha
  rw[(hne a hap).1] at ha;rw[if_pos ha];exact F0 a ha hap
 ·by_cases e:a=p
  ·rw[e];exact hls
  ·rw[(hne a e).1] at ha;exact(o.mem ha).1
 ·by_cases e:a=p
  ·subst e;rw[hcp] at ha
   cases ha
   rw[hfp];refine⟨List.nodup_range',fun i hi=>?_,oY (zX x t.f a k hk hpb (aG k) 0 (by omega))⟩;have:=(List.mem_range'_1.1 hi).2;omega
  ·rw[(hne a e).1] at ha;rw[(hne a e).2];obtain⟨n1,n2,n3⟩:=o.si.fl a c ha;have hc8:=(o.si.pg a c ha).1;have hnb2:=dN hc8;have hz2:=dU hc8;refine⟨n1,n2,oY (uA rfl (fun i hi=>BM fun j hj=>?_) n3)⟩;have hib:=n2 i hi;have h2:(i+1)*aE c<=aG c*aE c:=Nat.mul_le_mul_right _ hib;rw[Nat.add_mul,Nat.one_mul,hnb2.1] at h2;exact sY t.f x p k hk _ (by omega)
 ·by_cases e:a=p
  ·subst e;rw[hcp] at ha
   cases ha
   rw[hfp,List.length_range'];exact Nat.le_refl _
  ·rw[(hne a e).1] at ha;rw[(hne a e).2];exact o.si.lv a c ha
 ·show(aZ S.pl k (p :: S.pl k) c).Nodup
  by_cases e:c=k
  ·subst e;rw[cV];exact List.nodup_cons.2 ⟨hpl,hln⟩
  ·rw[cT _ _ e];exact o.si.pn c hc8
 ·show a∈aZ S.pl k (p :: S.pl k) c↔((aW S p k).c a=some c/\(aW S p k).fl a≠[])
  have hpm:=o.si.pm c hc8 a;by_cases ea:a=p
  ·subst ea;rw[hcp,hfp];have hrn:List.range' 0 (aG k)≠[]:=by
    intro e;have:=congrArg List.length e;rw[List.length_range',List.length_nil] at this;omega
   by_cases e:c=k
   ·subst e;rw[cV];exact⟨fun _=>⟨rfl,hrn⟩,fun _=>List.mem_cons_self⟩
   ·rw[cT _ _ e,hpm,hc];constructor
    ·rintro ⟨e2,_⟩;cases e2
    ·rintro ⟨e2,_⟩;cases e2;exact absurd rfl e
  ·rw[(hne a ea).1,(hne a ea).2];by_cases e:c=k
   ·subst e;rw[cV,List.mem_cons,hpm];exact⟨fun h=>h.resolve_left ea,fun h=>.inr h⟩
   ·rw[cT _ _ e];exact hpm
 ·show cU h k (p:Int) c=bE (aZ S.pl k (p :: S.pl k) c)
  by_cases e:c=k
  ·subst e;rw[cV];exact if_pos rfl
  ·rw[cT _ _ e];exact(if_neg e).trans (o.hd c hc8)
inductive Ned(x:Bx)(t:Bt)(fr:Nat->List Nat)(d:Bool)(p:Nat)(b:Bool)(fr':Nat->List Nat):Prop where
 | here (j:Nat) (l:List Nat) (hj:j<=x.o) (hz:∀ a,a<j->fr a=[]) (hp:fr j=p :: l) (hb:b=false) (hf:fr'=cL (cD fr j (M.dropL (fr j) p)) p j 0)
 | grew (hz:∀ a,a<=x.o->fr a=[]) (hd:d=false) (hl:x.n+x.R<=x.lim*x.R) (hb:b=true) (hp:p=t.m.n) (hf:fr'=cL fr t.m.n x.o 0)
structure FrO(w W:World)(sb lw:Nat)(x:Bx)(t:Bt)(fr:Nat->List Nat)(ls:List (Nat×Nat))(S:Sb)(h:Nat->Int)(k:Nat)(d:Bool)(p:Nat)(b:Bool)(w':World):Prop where
 ex:∃ x' t' fr',Ned x t fr d p b fr'/\SO w w' sb lw x' t' fr' (ls ++ [(p,0)]) (aW S p k) (cU h k (p:Int))/\Sm x { x' with P:=x.P }/\(∀ i,Lv ls (i/4096)->t'.f i=t.f i)/\Nb W x x'/\t'.m.n=(if b=true then t.m.n + 2 ^ x.o else t.m.n)/\x'.n=(if b=true then x.n + x.R else x.n)
 hc:S.c p=none
 nl:∀ i,(p,i) ∉ ls
 kp:Kt (cW x sb) W w'
inductive qE(w W:World)(sb lw:Nat)(x:Bx)(t:Bt)(fr:Nat->List Nat)(ls:List (Nat×Nat))(S:Sb)(h:Nat->Int)(k:Nat)(d:Bool)(e:Ending)(w':World):Prop where
 | stuck (hz:∀ a,a<=x.o->fr a=[]) (hd:d=true\/x.n=x.lim*x.R) (he:e=.returned (.tuple #[.bool false,.int .i64 2])) (kp:Kt nO W w')
 | got (p:Nat) (b:Bool) (he:e=.returned (.tuple #[.bool b,.int .i64 0])) (fo:FrO w W sb lw x t fr ls S h k d p b w')
theorem FU{w W lw x t fr ls}(po:PO w W lw x t fr ls)(d:Bool):
  Calls prog 130 #[.pointer (some ⟨lw,0,none⟩),.int .i64 0,.bool d] W fun e w'=>
   ((∀ a,a<=x.o->fr a=[])/\(d=true\/x.n=x.lim*x.R)/\e=.returned (.tuple #[.int .u64 0,.bool false,.int .i64 2])/\Kt nO W w')\/
   (∃ p b fr' x' t',e=.returned (.tuple #[.int .u64 ((ad x p:Nat):Int),.bool b,.int .i64 0])/\Ned x t fr d p b fr'/\PO w w' lw x' t' fr' (ls ++ [(p,0)])/\Sm x x'/\BK t t' ls (ls ++ [(p,0)])/\Nb W x x'/\Kt (aD x) W w'/\x.P p=none/\(∀ i,(p,i) ∉ ls)/\t'.m.n=(if b=true then t.m.n + 2 ^ x.o else t.m.n)/\x'.n=(if b=true then x.n + x.R else x.n)):=by
 refine(K.Need_any po 0 d).mono fun e w' hN=>?_
 cases hN with
 | bad hk he kp=>
  exfalso
  have:=of_decide_eq_false hk;omega
 | stuck i hk hi hz hd he kp=>
  obtain rfl:i=0:=by omega
  exact .inl ⟨fun a ha=>hz a (Nat.zero_le _) ha,hd,he,kp⟩
 | here i j p l hk hi hij hj hz hp he hs kp=>
  obtain rfl:i=0:=by omega
  obtain⟨t',h1,h2,h3⟩:=hs;refine .inr ⟨p,false,_,x,t',he,.here j l hj (fun a ha=>hz a (Nat.zero_le _) ha) hp rfl rfl,h1,Sm.refl x,h3,fun y e=>.inl e,kp,po.sf.pfree hj (by rw[hp];exact List.mem_cons_self),fun i hm=>?_,by rw[if_neg (by decide)];exact h2,by rw[if_neg (by decide)]⟩;have h0:=po.sf.apart0 hj (show p∈fr j by rw[hp];exact List.mem_cons_self) hm;have hz1 : 0<2 ^ i:=Nat.pow_pos (by decide);have hz2 : 0<2 ^ j:=Nat.pow_pos (by decide);omega
 | grew i hk hi hz hd hl he hs kp=>
  obtain rfl:i=0:=by omega
  obtain⟨x',t',h1,h2,h3,h4,h5,h6⟩:=hs;refine .inr ⟨t.m.n,true,_,x',t',he,.grew (fun a ha=>hz a (Nat.zero_le _) ha) hd hl rfl rfl rfl,h1,h2,h6,h5,kp,po.sf.pout (Nat.le_refl _),fun i hm=>?_,by rw[if_pos rfl];exact h4,by rw[if_pos rfl];exact h3⟩;have:=(po.sf.sn.al hm).2.2;have hz1 : 0<2 ^ i:=Nat.pow_pos (by decide);omega
theorem ID{w W sb lw x t fr ls S h}(o:SO w W sb lw x t fr ls S h)(k:Nat)(hk:k<8)(d:Bool):
  Calls prog 161 #[.pointer (some ⟨sb,0,none⟩),.int .i64 k,.bool d] W fun e w'=>qE w W sb lw x t fr ls S h k d e w':=by
 have ND:=aA (FU o.po d);obtain⟨c0,c1⟩:=o.sw.c0;have HO:=aA o;clear o;go_enter func161,ntmps161;go_wp2_with fail;refine ND.out.mono ?_;rintro e w1 (⟨hz,hd,rfl,kp⟩|⟨p,b,fr1,x1,t1,rfl,hned,hpo,hsm,hbk,hnb,hk1,hPp,hnl,htn,hxn⟩)
 ·have D:=aA (show qE w W sb lw x t fr ls S h k d (.returned (.tuple #[.bool false,.int .i64 2])) w1 from .stuck hz hd rfl kp);clear hz hd kp ND c0 c1;go_wp2_with fail;exact⟨rfl,.tuple #[.bool false,.int .i64 2],by simp[results,results161,go_sem],D.out⟩
 ·have hc:S.c p=none:=by
   cases e:S.c p with
   | none=>rfl
   | some c=>
    rw[HO.out.si.eP,jB e] at hPp
    cases hPp
  have o1:=HO.out.pool hpo hsm hbk (fun a c ha=>List.mem_append_left _ (HO.out.mem ha).1) hk1;have hls:(p,0)∈ls ++ [(p,0)]:=List.mem_append_right _ (List.mem_singleton.2 rfl);have hpn:=(o1.sf.sn.al hls).2.2;have n4:=o1.po.nums.2.2.2.1;have n2:=o1.po.nums.2.1;have hst:=o1.st;have hpb : 4096*p+4096<=x1.n:=by
   have h5:(p+1)*4096<=t1.m.n*4096:=Nat.mul_le_mul_right _ hpn;omega
  have had:ad x p=ad x1 p:=by unfold ad;rw[hsm.bS]
  rw[had];have hoff:bF x1 (ad x1 p)/4096=p:=by unfold bF ad;omega
  obtain⟨A,hA⟩:=xe (ad x1 p);have hA64:A<18446744073709551616:=by rw[hA];unfold ad;omega
  have PG:=aA (show Calls prog 193 #[.pointer (some ⟨sb,0,none⟩),.int .u64 A] w1 fun e w'=>e=.returned (.int .i64 p)/\w'=w1 from by
   have:=sM o1.sw A hA64;rw[hA,hoff] at this;rw[hA];exact this)
  have SL:=aA (JH o1.sw (p:Int) (k:Int));obtain⟨m1,hm1⟩:=xe (iW t1.m (p:Int) (k:Int));rw[<-hm1] at SL;generalize oD t1.m (p:Int) (k:Int)=se1 at *;have CH:=aA (show ∀ W',SW w W' sb lw x1 { t1 with m:=m1 } h->Calls prog 195 #[.pointer (some ⟨sb,0,none⟩),.int .u64 A,.int .i64 k] W' fun e w'=>e=.returned (.tuple #[])/\SW w w' sb lw x1 ⟨iQ t1.f (ad x1 p) (4096*p) (aE k) (aG k),m1,t1.hd⟩ h/\Kt (aD x1) W' w' from fun W' s=>by
   rw[hA];exact LI s p k hk hpb)
  obtain⟨f2,hf2⟩:=xe (iQ t1.f (ad x1 p) (4096*p) (aE k) (aG k));rw[<-hf2] at CH;obtain⟨m2,hm2⟩:=xe (fO m1 (p:Int) 0);have FR:=aA (show ∀ W',SW w W' sb lw x1 ⟨f2,m1,t1.hd⟩ h->Calls prog 196 #[.pointer (some ⟨x1.m,0,none⟩),.int .i64 p,.int .i64 0] W' fun e w'=>e=.returned (.int .i64 (jL m1 (p:Int) 0))/\SD w W' sb lw x1 ⟨f2,m1,t1.hd⟩ h m2 w' from fun W' s=>by
   rw[hm2];exact xX s (p:Int) 0)
  generalize jL m1 (p:Int) 0=fe1 at *;have PT:=aA (show ∀ W',SW w W' sb lw x1 ⟨f2,m2,t1.hd⟩ h->Calls prog 197 #[.pointer (some ⟨sb,0,none⟩),.int .i64 p,.int .i64 k] W' fun e w'=>e=.returned (.tuple #[])/\SE w W' sb lw x1 ⟨f2,m2,t1.hd⟩ (fE m2 h (p:Int) k) (cU h k (p:Int)) w' from fun W' s=>CQ s (p:Int) k hk);have FIN:=aA (show ∀ w',SW w w' sb lw x1 ⟨f2,fE m2 h (p:Int) k,t1.hd⟩ (cU h k (p:Int))->Kt (cW x1 sb) w1 w'->qE w W sb lw x t fr ls S h k d (.returned (.tuple #[.bool b,.int .i64 0])) w' from fun w' s kk=>by
   have e1:fE m2 h (p:Int) k=fJ t1.m h p k:=(by unfold fJ;rw[hm2,hm1]);rw[e1,hf2] at s;have so:=o1.fresh hk hls hc s;refine .got p b rfl ⟨⟨_,_,fr1,hned,so,⟨hsm.bS,hsm.R,hsm.lim,hsm.o,hsm.b,hsm.s,hsm.m,hsm.l,rfl⟩,fun i hi=>?_,hnb,?_,hxn⟩,hc,hnl,?_⟩
   ·have h2:t1.f i=t.f i:=hbk i hi (K.Lv.more hi);show iQ t1.f (ad x1 p) (4096*p) (aE k) (aG k) i=t.f i
    rw[<-h2];refine sY t1.f x1 p k hk i (fun e=>?_);obtain⟨q,c,h3,h4,h5⟩:=hi;have hq:=hpo.sf.sn.apart (List.mem_append_left _ h3) hls;have hip:i/4096=p:=(by omega);rw[hip] at h4 h5;rcases hq with ⟨e2,e3⟩|e2|e2
    ·rw[e2] at h3;exact hnl c h3
    ·omega
    ·omega
   ·show(fJ t1.m h p k).n=_
    rw[<-htn];unfold fJ fE gY;rw[yN,yN];unfold fO;split <;> exact KY _ _ _
   ·refine(hk1.mono (fun _ _ e=>.inl e)).trans kk (fun _ _ e=>e) (fun y hy e=>?_);rcases e with e|e
    ·rcases hnb y e with e|e
     ·exact .inl e
     ·omega
    ·exact .inr e)
  have O1:=aA o1.sw;rw[<-hA];clear hned hpo hsm hbk hnb hk1 hPp hnl htn hxn hc o1 hls hpn n4 n2 hst hpb had hoff hA hm1 hf2 hm2 c0 c1 ND;obtain⟨c0,c1⟩:=O1.out.c0;go_wp2_with fail;refine PG.out.mono ?_;rintro e w2 ⟨rfl,h2⟩;replace h2:=h2.symm;subst h2;have MP:=aA (bY O1.out.pl);go_wp2_with fail;refine MP.out.mono ?_;rintro e w2 ⟨rfl,h2⟩;replace h2:=h2.symm;subst h2;go_wp2_with fail;refine SL.out.mono ?_;rintro e w3 ⟨rfl,hs3,hk3⟩;have S3:=aA hs3;have K3:=aA hk3;clear hs3 hk3 c0 c1 MP;go_wp2_with fail;refine(CH.out _ S3.out).mono ?_;rintro e w4 ⟨rfl,hs4,hk4⟩;have S4:=aA hs4;have K4:=aA (K3.out.trans hk4 (fun _ _ e=>e) (fun _ _ e=>e));have MP:=aA (bY hs4.pl);obtain⟨c0,c1⟩:=hs4.c0;clear hs4 hk4;go_wp2_with fail;refine MP.out.mono ?_;rintro e w5 ⟨rfl,h5⟩;replace h5:=h5.symm;subst h5;go_wp2_with fail;refine(FR.out _ S4.out).mono ?_;rintro e w5 ⟨rfl,hs5,hk5⟩;have S5:=aA hs5;have K5:=aA (K4.out.trans hk5 (fun _ _ e=>e) (fun _ _ e=>e));clear hs5 hk5 c0 c1;go_wp2_with fail;refine(PT.out _ S5.out).mono ?_;rintro e w6 ⟨rfl,hs6,hk6⟩;have D:=aA (FIN.out w6 hs6 ((K5.out.mono (fun _ _ e=>.inl e)).trans hk6 (fun _ _ e=>e) (fun _ _ e=>e)));clear hs6 hk6;go_wp2_with fail;exact⟨rfl,.tuple #[.bool b,.int .i64 0],by simp[results,results161,go_sem],D.out⟩
inductive TkP(w W:World)(sb lw:Nat)(x:Bx)(t:Bt)(fr:Nat->List Nat)(ls:List (Nat×Nat))(S:Sb)(h:Nat->Int)(c:Int)(d:Bool)(e:Ending)(w':World):Prop where
 | bad (hc:¬(0<=c/\c<8)) (he:e=.returned (.tuple #[.int .u64 0,.bool false,.int .i64 1])) (kp:Kt nO W w')
 | stuck (k:Nat) (hk:k<8) (hc:c=(k:Int)) (hl:S.pl k=[]) (hz:∀ a,a<=x.o->fr a=[]) (hd:d=true\/x.n=x.lim*x.R) (he:e=.returned (.tuple #[.int .u64 0,.bool false,.int .i64 2])) (kp:Kt nO W w')
 | old (k p i:Nat) (l r:List Nat) (hk:k<8) (hc:c=(k:Int)) (hl:S.pl k=p :: l) (hf:S.fl p=i :: r) (he:e=.returned (.tuple #[.int .u64 ((aQ x p k i:Nat):Int),.bool false,.int .i64 0])) (so:∃ P m' h',SO w w' sb lw { x with P:=P } { t with m:=m' } fr ls (aP S p k r) h'/\m'.n=t.m.n) (kp:Kt (cW x sb) W w')
 | new (k p:Nat) (b:Bool) (hk:k<8) (hc:c=(k:Int)) (hl:S.pl k=[]) (he:e=.returned (.tuple #[.int .u64 ((aQ x p k 0:Nat):Int),.bool b,.int .i64 0])) (so:∃ x' t' fr' h',Ned x t fr d p b fr'/\SO w w' sb lw x' t' fr' (ls ++ [(p,0)]) (aP (aW S p k) p k (List.range' 1 (aG k-1))) h'/\Sm x { x' with P:=x.P }/\(∀ i,Lv ls (i/4096)->t'.f i=t.f i)/\Nb W x x'/\t'.m.n=(if b=true then t.m.n + 2 ^ x.o else t.m.n)/\x'.n=(if b=true then x.n + x.R else x.n)) (hcp:S.c p=none) (nl:∀ i,(p,i) ∉ ls) (kp:Kt (cW x sb) W w')
theorem wF{w W sb lw x t fr ls S h w'}(o:SO w W sb lw x t fr ls S h){p k i:Nat}{r:List Nat}(hc:S.c p=some k)(hf:S.fl p=i :: r)(se:SE w W sb lw x t (dS t.m p i r) (fI t.m h p k i r) w'):(dS t.m p i r).n=t.m.n:=by
 have h1:=(o.hand hc hf se).st;have h2:=o.st;have h3:(dS t.m p i r).n*4096=x.n:=h1;omega
theorem RI{w W sb lw x t fr ls S h}(o:SO w W sb lw x t fr ls S h)(c:Int)(hc:¬(0<=c/\c<8))(d:Bool):
  Calls prog 128 #[.pointer (some ⟨sb,0,none⟩),.int .i64 c,.bool d] W fun e w'=>TkP w W sb lw x t fr ls S h c d e w':=by
 have D:=aA (show TkP w W sb lw x t fr ls S h c d (.returned (.tuple #[.int .u64 0,.bool false,.int .i64 1])) W from .bad hc rfl (Kt.refl _ _));clear o;by_cases h0:c<0
 ·clear hc;go_enter func128,ntmps128;go_wp2_with fail;exact⟨rfl,.tuple #[.int .u64 0,.bool false,.int .i64 1],by simp[results,results128,go_sem],D.out⟩
 ·have h8 : 8<=c:=by omega
  clear hc;go_enter func128,ntmps128;go_wp2_with fail;exact⟨rfl,.tuple #[.int .u64 0,.bool false,.int .i64 1],by simp[results,results128,go_sem],D.out⟩
theorem DQ{w W sb lw x t fr ls S h}(o:SO w W sb lw x t fr ls S h)(k:Nat)(hk:k<8)(d:Bool):
  Calls prog 128 #[.pointer (some ⟨sb,0,none⟩),.int .i64 k,.bool d] W fun e w'=>TkP w W sb lw x t fr ls S h (k:Int) d e w':=by
 have ch:=o.sw.hd k hk;have hki:(k:Int)<8:=by omega
 have hk0:¬(k:Int)<0:=by omega
 have hk8:¬ 8<=(k:Int):=by omega
 have HO:=aA o;have HD:=o.hd k hk
 cases hl:S.pl k with
 | nil=>
  rw[hl] at HD;have hz:h k = -1:=HD;rw[hz] at ch;have FR:=aA (ID o k hk d);have HL:=aA hl;clear o HD hz hl;go_enter func128,ntmps128;go_wp2_with fail;refine FR.out.mono ?_;intro e w1 hF
  cases hF with
  | stuck hz hd he kp=>
   subst he;have D:=aA (show TkP w W sb lw x t fr ls S h (k:Int) d (.returned (.tuple #[.int .u64 0,.bool false,.int .i64 2])) w1 from .stuck k hk rfl HL.out hz hd rfl kp);clear hz hd kp FR ch;go_wp2_with fail;exact⟨rfl,.tuple #[.int .u64 0,.bool false,.int .i64 2],by simp[results,results128,go_sem],D.out⟩
  | got p b he fo=>
   subst he;obtain⟨⟨x1,t1,fr1,hned,o1,hsm,hf1,hnb,htn,hxn⟩,hc,nl,kp⟩:=fo;have hnl:=dN hk;have hfp:(aW S p k).fl p=0 :: List.range' 1 (aG k-1):=by
    have:(aW S p k).fl p=List.range' 0 (aG k):=cV _ _ _;rw[this];obtain⟨m,hm⟩:∃ m,aG k=m+1:=⟨aG k-1,by omega⟩;rw[hm];rfl
   have hcp:(aW S p k).c p=some k:=cV _ _ _;have c1:w1.cell? ⟨sb,2+k,none⟩=some (.int .i64 p):=by
    have:=o1.sw.hd k hk;rw[show cU h k (p:Int) k=(p:Int)from if_pos rfl] at this;exact this
   have hca:aQ x1 p k 0=aQ x p k 0:=wR hsm.bS p k 0;have HA:=aA (show Calls prog 162 #[.pointer (some ⟨sb,0,none⟩),.int .i64 p,.int .i64 k] w1 fun e w'=>e=.returned (.tuple #[.int .u64 ((aQ x p k 0:Nat):Int),.int .i64 0])/\TkP w W sb lw x t fr ls S h (k:Int) d (.returned (.tuple #[.int .u64 ((aQ x p k 0:Nat):Int),.bool b,.int .i64 0])) w' from by
    refine(wI o1 p k 0 _ hcp hfp).mono ?_;rintro e w2 ⟨rfl,se⟩;refine⟨by rw[hca],.new k p b hk rfl HL.out rfl ⟨_,_,fr1,_,hned,o1.hand hcp hfp se,hsm,hf1,hnb,?_,hxn⟩ hc nl ?_⟩
    ·rw[<-htn];exact wF o1 hcp hfp se
    ·refine kp.trans se.2 (fun _ _ e=>e) (fun y hy e=>?_);rcases e with e|e
     ·rcases hnb y e with e|e
      ·exact .inl e
      ·omega
     ·exact .inr e)
   obtain⟨a,ha⟩:=xe (aQ x p k 0);rw[<-ha] at HA;have hpn:(p:Int) ≠ -1:=(by omega);clear hned o1 hsm hf1 hnb htn hxn hc nl kp hnl hfp hcp hca ha FR ch;go_wp2_with fail;refine HA.out.mono ?_;rintro e w2 ⟨rfl,h2⟩;have D:=aA h2;clear h2;go_wp2_with fail;exact⟨rfl,.tuple #[.int .u64 a,.bool b,.int .i64 0],by simp[results,results128,go_sem],D.out⟩
 | cons p l=>
  rw[hl] at HD;have hz:h k=(p:Int):=HD;rw[hz] at ch;obtain⟨hc,hne⟩:=(o.si.pm k hk p).1 (by rw[hl];exact List.mem_cons_self);obtain⟨i,r,hf⟩:∃ i r,S.fl p=i :: r:=by
   cases e:S.fl p with
   | nil=>exact absurd e hne
   | cons i r=>exact⟨i,r,rfl⟩
  have HA:=aA (show Calls prog 162 #[.pointer (some ⟨sb,0,none⟩),.int .i64 p,.int .i64 k] W fun e w'=>e=.returned (.tuple #[.int .u64 ((aQ x p k i:Nat):Int),.int .i64 0])/\TkP w W sb lw x t fr ls S h (k:Int) d (.returned (.tuple #[.int .u64 ((aQ x p k i:Nat):Int),.bool false,.int .i64 0])) w' from by
   refine(wI o p k i r hc hf).mono ?_;rintro e w2 ⟨rfl,se⟩;exact⟨rfl,.old k p i l r hk rfl hl hf rfl ⟨_,_,_,o.hand hc hf se,wF o hc hf se⟩ se.2⟩)
  obtain⟨a,ha⟩:=xe (aQ x p k i);rw[<-ha] at HA;have hpn:(p:Int) ≠ -1:=by omega
  clear o HD hz hl hc hne hf ha;go_enter func128,ntmps128;go_wp2_with fail;refine HA.out.mono ?_;rintro e w2 ⟨rfl,h2⟩;have D:=aA h2;clear h2;go_wp2_with fail;exact⟨rfl,.tuple #[.int .u64 a,.bool false,.int .i64 0],by simp[results,results128,go_sem],D.out⟩
theorem RF{w W sb lw x t fr ls S h}(o:SO w W sb lw x t fr ls S h)(c:Int)(d:Bool):
  Calls prog 128 #[.pointer (some ⟨sb,0,none⟩),.int .i64 c,.bool d] W fun e w'=>TkP w W sb lw x t fr ls S h c d e w':=by
 by_cases hc : 0<=c/\c<8
 ·obtain⟨k,rfl⟩:∃ k:Nat,c=(k:Int):=⟨c.toNat,by omega⟩;exact DQ o k (by omega) d
 ·exact RI o c hc d
end Go.Proofs.YtkfmheelhinjdaaGreatDoor
