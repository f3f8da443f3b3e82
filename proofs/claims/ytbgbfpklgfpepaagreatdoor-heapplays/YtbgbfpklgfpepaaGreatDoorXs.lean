import Derived.Test.YtbgbfpklgfpepaaGreatDoorXr
import Derived.Test.YtbgbfpklgfpepaaGreatDoorWb
import Derived.Deep.AppendLies
set_option maxRecDepth 1000000
set_option maxHeartbeats 80000000
namespace Go.Proofs.YtbgbfpklgfpepaaGreatDoor
open Tryz
open Go.RowKit
open Go.MuLone
set_option linter.unusedVariables false
structure Ac8 where
 op:Int
 ref:Int
 p:Nat
 a:Nat
 b:Nat
 d:Bool
 sa:Option Addr
 sn:Nat
 sc:Nat
abbrev zG(c:Ac8):Value:=.agg #[.int .i64 c.op,.int .i64 c.ref,.int .u64 c.p,.int .u64 c.a,.int .u64 c.b,.bool c.d,.slice c.sa c.sn c.sc]
abbrev mJ(c:Ac8):Obj:=.cells #[.int .i64 c.op,.int .i64 c.ref,.int .u64 c.p,.int .u64 c.a,.int .u64 c.b,.bool c.d,.slice c.sa c.sn c.sc] 66
abbrev zB:Obj:=.cells #[.int .i64 0,.int .u64 0,.int .u64 0,.int .u64 0,.bool false,.slice none 0 0] 63
theorem KY{W:World}{y:Nat}{c:Ac8}(h:W.heap[y]?=some (mJ c)):W.cell? ⟨y,0,none⟩=some (.int .i64 c.op)/\W.cell? ⟨y,1,none⟩=some (.int .i64 c.ref)/\W.cell? ⟨y,2,none⟩=some (.int .u64 c.p)/\W.cell? ⟨y,3,none⟩=some (.int .u64 c.a)/\W.cell? ⟨y,4,none⟩=some (.int .u64 c.b)/\W.cell? ⟨y,5,none⟩=some (.bool c.d)/\W.cell? ⟨y,6,none⟩=some (.slice c.sa c.sn c.sc):=by
 refine⟨?_,?_,?_,?_,?_,?_,?_⟩ <;> simp[World.cell?,h]
def kZ(l:List Nat):List Value:=l.map (fun (n:Nat)=>.int .u64 n)
def vC(c:Ac8)(l:List Nat):Nat:=if 0<c.ref/\c.ref<=(l.length:Int) then (c.p+l.getD (c.ref-1).toNat 0)%18446744073709551616 else c.p
def yN(c:Ac8)(l:List Nat):Cl8:=⟨c.op,vC c l,c.a,c.b,c.d,.slice c.sa c.sn c.sc⟩
theorem zib{W:World}{va:Option Addr}{n vc:Nat}(c:Ac8)(hr:¬(0<c.ref/\c.ref<=(n:Int))):
  Calls prog 28 #[zG c,.slice va n vc] W fun e w'=>e=.returned (bJ ⟨c.op,c.p,c.a,c.b,c.d,.slice c.sa c.sn c.sc⟩)/\Kt nO W w':=by
 obtain⟨x0,x1,x2,x3,x4,x5,x6⟩:=KY ((((Kt.refl nO (W.alloc (mJ c))).alloc zB).block _ (lH (nH W (mJ c))) id).trans (nH W (mJ c)));have D:=aA (((Kt.refl nO W).alloc (mJ c)).alloc (bP ⟨c.op,c.p,c.a,c.b,c.d,.slice c.sa c.sn c.sc⟩));by_cases h0 : 0<c.ref
 ·have h1:¬c.ref<=(n:Int):=fun e=>hr ⟨h0,e⟩
  clear hr;go_enter func28,ntmps28;go_wp2_with fail;exact⟨rfl,bJ ⟨c.op,c.p,c.a,c.b,c.d,.slice c.sa c.sn c.sc⟩,by simp[results,results28,go_sem],rfl,D.out⟩
 ·clear hr;go_enter func28,ntmps28;go_wp2_with fail;exact⟨rfl,bJ ⟨c.op,c.p,c.a,c.b,c.d,.slice c.sa c.sn c.sc⟩,by simp[results,results28,go_sem],rfl,D.out⟩
theorem zhf{W:World}{g n vc k u r:Nat}(c:Ac8)(hk:k<n)(hn:n<=1000000)(hr:c.ref=(k:Int)+1)(hu:W.cell? ⟨g,k,none⟩=some (.int .u64 u))(hr2:r=(c.p+u)%18446744073709551616):
  Calls prog 28 #[zG c,.slice (some ⟨g,0,none⟩) n vc] W fun e w'=>e=.returned (bJ ⟨c.op,r,c.a,c.b,c.d,.slice c.sa c.sn c.sc⟩)/\Kt nO W w':=by
 have KA:=((Kt.refl nO W).alloc (mJ c)).alloc zB;obtain⟨x0,x1,x2,x3,x4,x5,x6⟩:=KY ((((Kt.refl nO (W.alloc (mJ c))).alloc zB).block _ (lH (nH W (mJ c))) id).trans (nH W (mJ c)));have t0:=KA.cell id hu;have D:=aA (((Kt.refl nO W).alloc (mJ c)).alloc (bP ⟨c.op,r,c.a,c.b,c.d,.slice c.sa c.sn c.sc⟩));have w1:IntKind.u64.wrap ((c.p:Int)+(u:Int))=(r:Int):=by rw[wrap_u64,hr2];omega
 have h0 : 0<c.ref:=by omega
 have h1:c.ref<=(n:Int):=by omega
 have h2:c.ref-1=(k:Int):=by omega
 have h3:(k:Int)<n:=by omega
 clear KA hu hr2 hr;generalize c.ref=rf at *;go_enter func28,ntmps28;go_wp2_with fail;exact⟨rfl,bJ ⟨c.op,r,c.a,c.b,c.d,.slice c.sa c.sn c.sc⟩,by simp[results,results28,go_sem],rfl,D.out⟩
theorem WX{w0 W:World}{v:Value}{l:List Nat}(h:GS w0 W 27 1 v l.length (kZ l))(hl:l.length<=1000000)(c:Ac8):
  Calls prog 28 #[zG c,v] W fun e w'=>e=.returned (bJ (yN c l))/\Kt nO W w':=by
 obtain⟨va,vc,rfl⟩:=eR h.own;unfold yN vC;by_cases hr : 0<c.ref/\c.ref<=(l.length:Int)
 ·rw[if_pos hr];have hk:(c.ref-1).toNat<l.length:=by omega
  have hg:(kZ l)[(c.ref-1).toNat]?=some (.int .u64 ((l.getD (c.ref-1).toNat 0:Nat):Int)):=by
   unfold kZ;rw[List.getElem?_map,List.getD_eq_getElem?_getD,List.getElem?_eq_getElem hk];rfl
  obtain⟨g,rfl,hc⟩:=gW h.own hg;exact zhf c hk hl (by omega) hc rfl
 ·rw[if_neg hr];exact zib c hr
open Go.Proofs.YtbgbfpklgfpepaaGreatDoor.M (RS gJ mayB bE)
structure He8 where
 p:Nat
 s:Nat
 v:Value
 f:Nat->Nat
def dT:List He8->List Value
 | []=>[]
 | h :: l=>.int .u64 h.p :: .int .u64 h.s :: h.v :: dT l
theorem uD:∀ l m:List He8,dT (l ++ m)=dT l ++ dT m
 | [],_=>rfl
 | b :: l,m=>by
  show _ :: _ :: _ :: dT (l ++ m)=_
  rw[uD l m];rfl
theorem CU:∀ (l:List He8) (i:Nat) (h:He8),l[i]?=some h->(dT l)[i*3]?=some (.int .u64 h.p)/\(dT l)[i*3+1]?=some (.int .u64 h.s)/\(dT l)[i*3+2]?=some h.v
 | [],i,b,h=>by simp at h
 | c :: l,0,b,h=>by
  simp at h;subst h;exact⟨rfl,rfl,rfl⟩
 | c :: l,i+1,b,h=>by
  have h:l[i]?=some b:=by simpa using h
  have:=CU l i b h;rw[show(i+1)*3=i*3+1+1+1 by omega];exact this
def aR(l:List He8):List (Nat×Nat):=l.map fun h=>(h.p,h.s)
abbrev aK(bS:Nat)(lim o n:Int)(v:Value):Value:=.agg #[.int .u64 bS,.int .i64 lim,.int .i64 o,.int .i64 n,v]
abbrev aM(bS:Nat)(lim o n:Int)(v:Value):Obj:=.cells #[.int .u64 bS,.int .i64 lim,.int .i64 o,.int .i64 n,v] 53
theorem aD{W:World}{y bS:Nat}{lim o n:Int}{v:Value}(h:W.heap[y]?=some (aM bS lim o n v)):W.cell? ⟨y,0,none⟩=some (.int .u64 bS)/\W.cell? ⟨y,1,none⟩=some (.int .i64 lim)/\W.cell? ⟨y,2,none⟩=some (.int .i64 o)/\W.cell? ⟨y,3,none⟩=some (.int .i64 n)/\W.cell? ⟨y,4,none⟩=some v/\∀ j,W.frozen? ⟨y,j,none⟩=false:=by
 refine⟨?_,?_,?_,?_,?_,fun j=>?_⟩ <;> simp[World.cell?,World.frozen?,h]
theorem bK{W W':World}{y bS:Nat}{lim o n:Int}{v:Value}(h:W.heap[y]?=some (aM bS lim o n v))(k:Kt nO W W'):W'.heap[y]?=some (aM bS lim o n v):=(k.block _ (lH h) id).trans h
structure BK8(W:World)(v:Value)(l:List He8):Prop where
 own:W.ownsRow 0 164 3 v l.length (dT l)
 bt:∀ h∈l,M.Bytes W h.v h.s h.f
 bd:∀ h∈l,h.p+h.s<18446744073709551616/\16<=h.s/\h.s<=1048576
 ln:l.length<=300000
 cp:∀ h∈l,∃ va vc,h.v=.slice va h.s vc/\h.s<=vc
theorem BK8.keep{W W':World}{v:Value}{l:List He8}(h:BK8 W v l)(k:Kt nO W W'):BK8 W' v l:=
 ⟨qC h.own k (fun _ _ e=>e),fun x hx=>(h.bt x hx).keep (cH k),h.bd,h.ln,h.cp⟩
theorem BK8.nil(W:World):BK8 W (.slice none 0 0) []:=⟨World.ownsRow_nil _ _ _ _,(fun _ h=>by cases h),(fun _ h=>by cases h),Nat.zero_le _,(fun _ h=>by cases h)⟩
theorem BK8.val{W:World}{v:Value}{l:List He8}(h:BK8 W v l):∃ va vc,v=.slice va l.length vc:=eR h.own
theorem BK8.get{W:World}{va:Option Addr}{n vc:Nat}{l:List He8}(h:BK8 W (.slice va n vc) l)(hn:n=l.length){i:Nat}{b:He8}(hi:l[i]?=some b):∃ g,va=some ⟨g,0,none⟩/\W.cell? ⟨g,i*3,none⟩=some (.int .u64 b.p)/\W.cell? ⟨g,i*3+1,none⟩=some (.int .u64 b.s)/\W.cell? ⟨g,i*3+2,none⟩=some b.v:=by
 subst hn;obtain⟨e1,e2,e3⟩:=CU l i b hi;obtain⟨g,hg,c1⟩:=gW h.own e1;obtain⟨g',hg',c2⟩:=gW h.own e2;obtain⟨g3,hg3,c3⟩:=gW h.own e3;rw[hg] at hg' hg3;injection hg' with e1
 injection hg3 with e2
 injection e1 with e1
 injection e2 with e2
 subst e1 e2;exact⟨g,hg,c1,c2,c3⟩
theorem sS(va vb:Value)(m:Nat)(hm:m<=9223372036854775807)(g:Nat->Nat)(w:World)(ha:M.Bytes w va m g)(hb:M.Bytes w vb m g):
  Calls prog 32 #[va,vb] w fun e w'=>e=.returned (.bool true)/\Kt nO w w':=by
 obtain⟨-,ao,ac,rfl,ha⟩:=ha;obtain⟨-,bo,bc,rfl,hb⟩:=hb;have HA:=aA ha;have HB:=aA hb;clear ha hb;go_enter func32,ntmps32;go_wp2
 go_loopw [5] (fun i wr=>∃ k:Nat,k<=m/\i=.int .i64 k/\∃ d,wr=w.drewN d) (fun i _=>m-(intOf i).toNat)
 case atStart=>exact⟨0,by omega,rfl,0,rfl⟩
 case round=>
  obtain⟨k,hk,rfl,d,rfl⟩:=hrel;by_cases hlt:k<m
  ·obtain⟨a,rfl,-,hac⟩:=HA.out.resolve_left (by omega);obtain⟨b,rfl,-,hbc⟩:=HB.out.resolve_left (by omega);have h1:=hac k hlt;have h2:=hbc k hlt;obtain⟨ab,ad,rfl⟩:=M.addr_plain (hac 0 (by omega));obtain⟨bb,bd,rfl⟩:=M.addr_plain (hbc 0 (by omega));rw[Addr.add_lit] at h1 h2;have hik:(k:Int)<m:=(by omega);clear hac hbc HA HB;go_wp2
   go_quiet (fail)
   go_wp2
   refine⟨⟨k+1,by omega,by simp,_,rfl⟩,by simp[intOf];omega⟩
  ·obtain rfl:k=m:=(by omega);go_wp2
   go_ret;exact⟨rfl,(Kt.refl _ w).drewN _⟩
theorem LI(va:Value)(m:Nat)(hm:m<=9223372036854775807)(g:Nat->Nat)(hz:∀ i,i<m->g i=0)(w:World)(ha:M.Bytes w va m g):
  Calls prog 150 #[va] w fun e w'=>e=.returned (.bool true)/\w'=w:=by
 obtain⟨-,ao,ac,rfl,ha⟩:=ha;have HA:=aA ha;have HZ:=aA hz;clear ha hz;go_enter func150,ntmps150;go_wp2_with fail;go_loopw [3] (fun i wr=>∃ k:Nat,k<=m/\i=.int .i64 k/\wr=w) (fun i _=>m-(intOf i).toNat)
 case atStart=>exact⟨0,by omega,rfl,rfl⟩
 case round=>
  obtain⟨k,hk,rfl,rfl⟩:=hrel;by_cases hlt:k<m
  ·obtain⟨a,rfl,-,hac⟩:=HA.out.resolve_left (by omega);have h1:=hac k hlt;obtain⟨ab,ad,rfl⟩:=M.addr_plain (hac 0 (by omega));rw[Addr.add_lit] at h1;rw[HZ.out k hlt] at h1;have hik:(k:Int)<m:=(by omega);clear hac HA;go_wp2_with fail;exact⟨⟨k+1,by omega,by simp,trivial⟩,by simp[intOf];omega⟩
  ·obtain rfl:k=m:=(by omega);go_wp2_with fail;go_ret;exact⟨rfl,rfl⟩
theorem H8(bS:Nat)(lim:Int)(o n:Nat)(ho:o<=8)(hn:n<=64)(v:Value)(w:World):
  Calls prog 108 #[aK bS lim (o:Int) (n:Int) v] w fun e w'=>e=.returned (.int .u64 ((n*RS o:Nat):Int))/\Kt nO w w':=by
 have K0:=aA ((Kt.refl nO w).alloc (aM bS lim (o:Int) (n:Int) v));have X0:=aA (nH w (aM bS lim (o:Int) (n:Int) v));have RR:=aA (fun W=>jJ (bS:Int) lim o ho W);have hR:=bE o ho;have hw:IntKind.u64.wrap (n:Int)=n:=by rw[wrap_u64];omega
 obtain⟨H,hH⟩:=xe (n*RS o);have hb:H<=67108864:=by
  rw[hH];exact Nat.le_trans (Nat.mul_le_mul hn (show RS o<=1048576 by unfold RS;omega)) (by decide)
 have E:=aA (show IntKind.u64.wrap ((n:Int)*((RS o:Nat):Int))=(H:Int)by
  rw[show(n:Int)*((RS o:Nat):Int)=((n*RS o:Nat):Int)by simp,<-hH,wrap_u64];omega)
 rw[<-hH];generalize RS o=R at *;clear hH hR;go_enter func108,ntmps108;go_upto_region 1 with fail;have c0':=fun y:KW (w.alloc (aM bS lim (o:Int) (n:Int) v))=>(aD (bK X0.out y.k)).1
 have c1':=fun y:KW (w.alloc (aM bS lim (o:Int) (n:Int) v))=>(aD (bK X0.out y.k)).2.1
 have c2':=fun y:KW (w.alloc (aM bS lim (o:Int) (n:Int) v))=>(aD (bK X0.out y.k)).2.2.1
 have c3':=fun y:KW (w.alloc (aM bS lim (o:Int) (n:Int) v))=>(aD (bK X0.out y.k)).2.2.2.1
 have EE:=E.out;refine fC (by kernel_rfl) (by kernel_rfl) ?_;repeat (go_big_quiet_step (first|(go_at_call 25;exact Calls.kept_of (RR.out _))|fail))
 refine wpQuiet_nil ?_;intro y;have D:=aA (nT K0.out y.k);clear c0' c1' c2' c3' EE;go_wp2_with fail;go_ret;exact⟨rfl,D.out⟩
def bI(q:He8->Bool):List He8->Nat->Int
 | [],_ => -1
 | h :: l,k=>if q h then (k:Int) else bI q l (k+1)
theorem rW{q:He8->Bool} : ∀ (l:List He8) (i:Nat) (h:He8) (k:Nat),l[i]?=some h->q h=true->(∀ j c,j<i->l[j]?=some c->q c=false)->bI q l k=((k+i:Nat):Int)
 | [],i,h,k,e,_,_=>by simp at e
 | c :: l,0,h,k,e,hq,_=>by
  simp at e;subst e;simp[bI,hq]
 | c :: l,i+1,h,k,e,hq,hb=>by
  have:=hb 0 c (by omega) rfl;rw[bI,if_neg (by rw[this];decide),rW l i h (k+1) (by simpa using e) hq (fun j d hj hd=>hb (j+1) d (by omega) (by simpa using hd))];congr 1
  omega
theorem rV{q:He8->Bool} : ∀ (l:List He8) (k:Nat),(∀ h∈l,q h=false)->bI q l k = -1
 | [],_,_=>rfl
 | c :: l,k,hb=>by
  rw[bI,if_neg (by rw[hb c List.mem_cons_self];decide)];exact rV l (k+1) (fun h hm=>hb h (List.mem_cons_of_mem _ hm))
def gD(p:Nat)(h:He8):Bool:=decide (h.p=p)
theorem sY(bS:Nat)(lim o n:Int)(v:Value)(l:List He8)(p:Nat)(hp:p<18446744073709551616)(w:World)(hB:BK8 w v l):
  Calls prog 101 #[aK bS lim o n v,.int .u64 p] w fun e w'=>e=.returned (.int .i64 (bI (gD p) l 0))/\Kt nO w w':=by
 obtain⟨va,vc,rfl⟩:=hB.val;have hl:=hB.ln;have K0:=aA ((Kt.refl nO w).alloc (aM bS lim o n (.slice va l.length vc)));have X0:=aA (nH w (aM bS lim o n (.slice va l.length vc)));have HB:=aA (hB.keep K0.out);clear hB;obtain⟨m,hm⟩:=xe (l.length);have HM:=aA hm;rw[<-hm] at K0 X0 HB hl ⊢;obtain⟨x0,x1,x2,x3,x4,xf⟩:=aD X0.out;clear hm;go_enter func101,ntmps101;go_wp2_with fail;go_loopw [5] (fun i W=>∃ k:Nat,k<=m/\i=.int .i64 k/\W=w.alloc (aM bS lim o n (.slice va m vc))/\Hid (∀ j c,j<k->l[j]?=some c->gD p c=false)) (fun i _=>m-(intOf i).toNat)
 case atStart=>exact⟨0,by omega,rfl,rfl,aA (fun j c hj=>by omega)⟩
 case round=>
  obtain⟨k,hk,rfl,rfl,hQ⟩:=hrel;by_cases hlt:k<m
  ·have hki:(k:Int)<m:=(by omega);have hkl:k<l.length:=(by rw[<-HM.out];exact hlt);obtain⟨b,hb⟩:∃ b,l[k]?=some b:=⟨_,List.getElem?_eq_getElem hkl⟩;obtain⟨g,rfl,c0,c1,c2⟩:=HB.out.get HM.out hb;by_cases he:b.p=p
   ·have D:=aA (show bI (gD p) l 0=((k:Nat):Int)by rw[rW l k b 0 hb (by unfold gD;exact decide_eq_true he) hQ.out,Nat.zero_add]);rw[he] at c0;clear he hb hkl;go_wp2_with fail;go_ret;exact⟨by rw[D.out];rfl,K0.out⟩
   ·have he2:¬(b.p:Int)=p:=(by omega);have D:=aA (show ∀ j c,j<k+1->l[j]?=some c->gD p c=false from fun j c hj hc=>by
     by_cases e:j=k
     ·subst e;rw[hb] at hc;injection hc with hc
      subst hc;exact decide_eq_false he
     ·exact hQ.out j c (by omega) hc)
    clear he hb hkl;go_wp2_with fail;exact⟨⟨k+1,by omega,by simp,trivial,D⟩,by simp[intOf];omega⟩
  ·obtain rfl:k=m:=(by omega);have D:=aA (show bI (gD p) l 0 = -1 from rV l 0 (fun h hm=>by
    obtain⟨i,hi⟩:=List.getElem?_of_mem hm;exact hQ.out i h (by have:=(List.getElem?_eq_some_iff.1 hi).1;rw[HM.out];exact this) hi))
   go_wp2_with fail;go_ret;exact⟨by rw[D.out];rfl,K0.out⟩
def fG(p n:Nat)(h:He8):Bool:=decide (h.p<=p) && decide (p-h.p<h.s) && decide (n<=h.s-(p-h.p))
abbrev dL(p s:Nat):Obj:=.cells #[.int .u64 p,.int .u64 s] 162
theorem gA{W:World}{y p s:Nat}(h:W.heap[y]?=some (dL p s)):W.cell? ⟨y,0,none⟩=some (.int .u64 p)/\W.cell? ⟨y,1,none⟩=some (.int .u64 s):=by
 refine⟨?_,?_⟩ <;> simp[World.cell?,h]
theorem vH(bS:Nat)(lim o nr:Int)(v:Value)(l:List He8)(p n:Nat)(hp:p<18446744073709551616)(hn:n<18446744073709551616)(w:World)(hB:BK8 w v l):
  Calls prog 204 #[aK bS lim o nr v,.int .u64 p,.int .u64 n] w fun e w'=>e=.returned (.int .i64 (bI (fG p n) l 0))/\Kt nO w w':=by
 obtain⟨va,vc,rfl⟩:=hB.val;have hl:=hB.ln;have K0:=aA ((Kt.refl nO w).alloc (aM bS lim o nr (.slice va l.length vc)));have X0:=aA (nH w (aM bS lim o nr (.slice va l.length vc)));have HB:=aA hB;clear hB;obtain⟨m,hm⟩:=xe (l.length);have HM:=aA hm;rw[<-hm] at K0 X0 HB hl ⊢;clear hm;obtain⟨y,hy⟩:=xe (w.heap.size);rw[<-hy] at X0;go_enter func204,ntmps204;go_wp2_with fail;rw[<-hy];clear hy;go_loopw [7] (fun i W=>∃ k:Nat,k<=m/\i=.int .i64 k/\Hid (Kt nO w W/\W.heap[y]?=some (aM bS lim o nr (.slice va m vc))/\∀ j c,j<k->l[j]?=some c->fG p n c=false)) (fun i _=>m-(intOf i).toNat)
 case atStart=>exact⟨0,by omega,rfl,aA ⟨K0.out,X0.out,fun j c hj=>by omega⟩⟩
 case round=>
  obtain⟨k,hk,rfl,hQ⟩:=hrel;obtain⟨x0,x1,x2,x3,x4,xf⟩:=aD hQ.out.2.1;by_cases hlt:k<m
  ·have hki:(k:Int)<m:=(by omega);have hkl:k<l.length:=(by rw[<-HM.out];exact hlt);obtain⟨b,hb⟩:∃ b,l[k]?=some b:=⟨_,List.getElem?_eq_getElem hkl⟩;obtain⟨g,rfl,c0,c1,c2⟩:=(HB.out.keep hQ.out.1).get HM.out hb;have hbd:=HB.out.bd b (List.mem_of_getElem? hb);have KN:=aA (nT hQ.out.1 ((Kt.refl nO wr).alloc (dL b.p b.s)));have XN:=aA (bK hQ.out.2.1 ((Kt.refl nO wr).alloc (dL b.p b.s)));have HQ:=aA (show ∀ (h:fG p n b=false),∀ j c,j<k+1->l[j]?=some c->fG p n c=false from fun h j c hj hc=>by
     by_cases e:j=k
     ·subst e;rw[hb] at hc;injection hc with hc
      subst hc;exact h
     ·exact hQ.out.2.2 j c (by omega) hc)
   have HF:=aA (show fG p n b=true->bI (fG p n) l 0=((k:Nat):Int)from fun h=>by rw[rW l k b 0 hb h hQ.out.2.2,Nat.zero_add]);obtain⟨bp,bs,bv,bf⟩:=b;dsimp only at *;clear hb hkl hQ c2;by_cases h1:bp<=p
   ·obtain⟨d,rfl⟩:=Nat.exists_eq_add_of_le h1;have hw:IntKind.u64.wrap (((bp+d:Nat):Int)-(bp:Int))=(d:Int):=(by rw[wrap_u64];omega);have h1i:(bp:Int)<=((bp+d:Nat):Int):=(by omega);by_cases h2:d<bs
    ·obtain⟨r,rfl⟩:=Nat.exists_eq_add_of_le (Nat.le_of_lt h2);have hw2:IntKind.u64.wrap (((d+r:Nat):Int)-(d:Int))=(r:Int):=(by rw[wrap_u64];omega);have h2i:(d:Int)<((d+r:Nat):Int):=(by omega);have hin:fG (bp+d) n ⟨bp,d+r,bv,bf⟩=decide (n<=r):=by
      unfold fG;simp[show bp+d-bp=d by omega,h2]
     rw[hin] at HQ HF;by_cases h3:n<=r
     ·have h3i:(n:Int)<=r:=(by omega);have D:=aA (HF.out (decide_eq_true h3));clear HF HQ hin h3 h1 h2;go_wp2_with fail;go_ret;exact⟨by rw[D.out];rfl,KN.out⟩
     ·have h3i:¬(n:Int)<=r:=(by omega);have D:=aA (And.intro KN.out (And.intro XN.out (HQ.out (decide_eq_false h3))));clear HF HQ hin h3 h1 h2;go_wp2_with fail;exact⟨⟨k+1,by omega,by simp,D⟩,by simp[intOf];omega⟩
    ·have h2i:¬(d:Int)<bs:=(by omega);have D:=aA (And.intro KN.out (And.intro XN.out (HQ.out (by unfold fG;simp[show bp+d-bp=d by omega,h2]))));clear HF HQ h1 h2;go_wp2_with fail;exact⟨⟨k+1,by omega,by simp,D⟩,by simp[intOf];omega⟩
   ·have h1i:¬(bp:Int)<=p:=(by omega);have D:=aA (And.intro KN.out (And.intro XN.out (HQ.out (by unfold fG;simp[h1]))));clear HF HQ h1;go_wp2_with fail;exact⟨⟨k+1,by omega,by simp,D⟩,by simp[intOf];omega⟩
  ·obtain rfl:k=m:=(by omega);have D:=aA (show bI (fG p n) l 0 = -1 from rV l 0 (fun h hm=>by
    obtain⟨i,hi⟩:=List.getElem?_of_mem hm;exact hQ.out.2.2 i h (by have:=(List.getElem?_eq_some_iff.1 hi).1;rw[HM.out];exact this) hi))
   have KN:=aA hQ.out.1;clear hQ;go_wp2_with fail;go_ret;exact⟨by rw[D.out];rfl,KN.out⟩
theorem EH:(prog.info? 162).map (fun i=>(i.zero,i.size,i.bytes))=some (some (.agg #[.int .u64 0,.int .u64 0]),2,16):=by kernel_rfl
theorem EG{w0 W:World}{v:Value}{n:Nat}{xs:List Value}(h:GS w0 W 162 2 v n xs)(p z:Nat)(hn:n<=1000000):
  ∃ g cap w',(∀ ty,(Builtin.append_ #[165,165] ty #[v,.slice (some ⟨W.heap.size,0,none⟩) 1 1]).run prog (W.alloc (dL p z))=.ok (.slice (some ⟨g,0,none⟩) (n + 1) cap) w')/\GS w0 w' 162 2 (.slice (some ⟨g,0,none⟩) (n + 1) cap) (n + 1) (xs ++ [.int .u64 p,.int .u64 z])/\w0.heap.size<=g/\Kt (fun b=>v.ownBlock=some b) W w'/\(v.ownBlock=some g\/W.heap.size<=g):=by
 obtain⟨i,hi,hzz⟩:=Option.map_eq_some_iff.1 EH;simp only[Prod.mk.injEq] at hzz;have ka:=(Kt.refl nO W).alloc (dL p z);obtain⟨g,cap,w',h1,h2,h5,h6,h7⟩:=(h.keep ka).pushM 165 i (.agg #[.int .u64 0,.int .u64 0]) 16 Tryz.underlying165 hi hzz.1 hzz.2.1 hzz.2.2 rfl (by decide) ⟨W.heap.size,0,none⟩ 1 1 (by decide) [.int .u64 p,.int .u64 z] rfl (fun j u hj=>pX (cs:=#[.int .u64 p,.int .u64 z]) j u hj) (by simp[Value.oneCell']) (by simp only[maxLen];omega) (by omega);exact⟨g,cap,w',h1,h2,h5,ka.trans h6 (fun _ _ e=>e.elim) (fun _ _ e=>e),h7.imp id (fun e=>Nat.le_trans ka.size e)⟩
theorem WV(l:List He8)(k:Nat)(b:He8)(h:l[k]?=some b):dC (aR (l.take (k + 1)))=dC (aR (l.take k)) ++ [.int .u64 b.p,.int .u64 b.s]:=by
 have hk:k<l.length:=(List.getElem?_eq_some_iff.1 h).1;have hb:l[k]=b:=(List.getElem?_eq_some_iff.1 h).2;rw[List.take_succ_eq_append_getElem hk,hb];unfold aR;rw[List.map_append,nN];rfl
theorem uG(bS:Nat)(lim o nr:Int)(v:Value)(l:List He8)(w:World)(hB:BK8 w v l):
  Calls prog 107 #[aK bS lim o nr v] w fun e w'=>∃ u,e=.returned u/\GS w w' 162 2 u l.length (dC (aR l))/\∀ g,u.ownBlock=some g->w.heap.size<=g:=by
 obtain⟨va,vc,rfl⟩:=hB.val;have hl:=hB.ln;have K0:=aA ((Kt.refl nO w).alloc (aM bS lim o nr (.slice va l.length vc)));have X0:=aA (nH w (aM bS lim o nr (.slice va l.length vc)));have HB:=aA hB;clear hB;obtain⟨m,hm⟩:=xe (l.length);have HM:=aA hm;rw[<-hm] at K0 X0 HB hl ⊢;clear hm;obtain⟨y,hy⟩:=xe (w.heap.size);have HY:=aA hy;rw[<-hy] at X0;go_enter func107,ntmps107;go_wp2_with fail;rw[<-hy];clear hy;go_loopw [3,4] (fun u i W=>∃ k:Nat,k<=m/\i=.int .i64 k/\Hid (GS w W 162 2 u k (dC (aR (l.take k)))/\W.heap[y]?=some (aM bS lim o nr (.slice va m vc))/\∀ g,u.ownBlock=some g->w.heap.size<=g)) (fun _ i _=>m-(intOf i).toNat)
 case atStart=>exact⟨0,by omega,rfl,aA ⟨GS.nil _ _ _ _ K0.out,X0.out,fun g e=>by simp[Value.ownBlock] at e⟩⟩
 case round=>
  obtain⟨k,hk,rfl,hQ⟩:=hrel;obtain⟨x0,x1,x2,x3,x4,xf⟩:=aD hQ.out.2.1;obtain⟨ua,uc,rfl⟩:=eR hQ.out.1.own;by_cases hlt:k<m
  ·have hki:(k:Int)<m:=(by omega);have hkl:k<l.length:=(by rw[<-HM.out];exact hlt);obtain⟨b,hb⟩:∃ b,l[k]?=some b:=⟨_,List.getElem?_eq_getElem hkl⟩;obtain⟨g,rfl,c0,c1,c2⟩:=(HB.out.keep hQ.out.1.kp).get HM.out hb;obtain⟨gg,cap,w9,hap,hG9,hge,hK9,_⟩:=EG hQ.out.1 b.p b.s (by omega);have E9:=aA (show GS w w9 162 2 (.slice (some ⟨gg,0,none⟩) (k+1) cap) (k+1) (dC (aR (l.take (k+1))))/\w9.heap[y]?=some (aM bS lim o nr (.slice (some ⟨g,0,none⟩) m vc))/\∀ g',(Value.slice (some ⟨gg,0,none⟩) (k+1) cap).ownBlock=some g'->w.heap.size<=g' from⟨by rw[WV l k b hb];exact hG9,(hK9.block _ (lH hQ.out.2.1) (fun e=>by
    obtain⟨cs,hcs⟩:=cB hQ.out.1.own e;exact absurd (bM hcs hQ.out.2.1) (by decide))).trans hQ.out.2.1,fun g' e=>by simp[Value.ownBlock] at e;omega⟩)
   have HAP:=aA hap;clear hap hG9 hge hK9 hb hkl c2 hQ;go_wp2_with (at_builtin;refine Lib.wpList_append_run _ rfl _ _ _ _ rfl (.slice ua k uc) (.slice (some ⟨wr.heap.size,0,none⟩) 1 1) rfl rfl _ _ (HAP.out _) ?_)
   exact⟨⟨k+1,by omega,by simp,E9⟩,by simp[intOf];omega⟩
  ·obtain rfl:k=m:=(by omega);have D:=aA (And.intro (show GS w wr 162 2 (.slice ua k uc) k (dC (aR l))from by
    have:=hQ.out.1;rw[List.take_of_length_le (by rw[<-HM.out];exact Nat.le_refl _)] at this;exact this) hQ.out.2.2)
   clear hQ;go_wp2_with fail;go_ret;exact⟨_,rfl,D.out⟩
def aQ(l:List He8):Option Nat->List He8
 | none=>l
 | some i=>l.eraseIdx i
def qF:Option Nat->Int
 | none => -1
 | some i=>(i:Int)
theorem zi9{l:List He8}{k:Nat}{b:He8}(h:l[k]?=some b):aQ (l.take (k+1)) (some k)=aQ (l.take k) (some k):=by
 have hk:k<l.length:=(List.getElem?_eq_some_iff.1 h).1;have hl:(l.take k).length=k:=by rw[List.length_take];omega
 show(l.take (k+1)).eraseIdx k=(l.take k).eraseIdx k
 rw[List.take_succ_eq_append_getElem hk,List.eraseIdx_append_of_length_le (by omega),hl,Nat.sub_self];have e2:(l.take k).eraseIdx k=l.take k:=List.eraseIdx_of_length_le (by omega);rw[e2];simp
theorem zja{l:List He8}{k:Nat}{b:He8}(h:l[k]?=some b){d:Option Nat}(hd:d≠some k):aQ (l.take (k + 1)) d=aQ (l.take k) d ++ [b]:=by
 have hk:k<l.length:=(List.getElem?_eq_some_iff.1 h).1;have hb:l[k]=b:=(List.getElem?_eq_some_iff.1 h).2;have hl:(l.take k).length=k:=by rw[List.length_take];omega
 rw[List.take_succ_eq_append_getElem hk,hb]
 cases d with
 | none=>rfl
 | some i=>
  show(l.take k ++ [b]).eraseIdx i=(l.take k).eraseIdx i ++ [b]
  by_cases e:i<k
  ·rw[List.eraseIdx_append_of_lt_length (by omega)]
  ·have:i≠k:=fun e=>hd (by rw[e])
   rw[List.eraseIdx_of_length_le (l:=l.take k) (by omega),List.eraseIdx_of_length_le (by simp;omega)]
theorem BR:(prog.info? 164).map (fun i=>(i.zero,i.size,i.bytes))=some (some (.agg #[.int .u64 0,.int .u64 0,.slice none 0 0]),3,40):=by kernel_rfl
abbrev eY(p s:Nat)(v:Value):Obj:=.cells #[.int .u64 p,.int .u64 s,v] 164
theorem BQ{w0 W:World}{v:Value}{n:Nat}{xs:List Value}(h:GS w0 W 164 3 v n xs)(p z:Nat)(u:Value)(hu:u.oneCell'=true)(hn:n<=1000000):
  ∃ g cap w',(∀ ty,(Builtin.append_ #[51,51] ty #[v,.slice (some ⟨W.heap.size,0,none⟩) 1 1]).run prog (W.alloc (eY p z u))=.ok (.slice (some ⟨g,0,none⟩) (n + 1) cap) w')/\GS w0 w' 164 3 (.slice (some ⟨g,0,none⟩) (n + 1) cap) (n + 1) (xs ++ [.int .u64 p,.int .u64 z,u])/\w0.heap.size<=g/\Kt (fun b=>v.ownBlock=some b) W w'/\(v.ownBlock=some g\/W.heap.size<=g):=by
 obtain⟨i,hi,hzz⟩:=Option.map_eq_some_iff.1 BR;simp only[Prod.mk.injEq] at hzz;have ka:=(Kt.refl nO W).alloc (eY p z u);obtain⟨g,cap,w',h1,h2,h5,h6,h7⟩:=(h.keep ka).pushM 51 i (.agg #[.int .u64 0,.int .u64 0,.slice none 0 0]) 40 Tryz.underlying51 hi hzz.1 hzz.2.1 hzz.2.2 rfl (by decide) ⟨W.heap.size,0,none⟩ 1 1 (by decide) [.int .u64 p,.int .u64 z,u] rfl (fun j u' hj=>pX (cs:=#[.int .u64 p,.int .u64 z,u]) j u' hj) (fun u' hm=>by
  simp only[List.mem_cons,List.not_mem_nil,or_false] at hm;rcases hm with rfl|rfl|rfl
  ·rfl
  ·rfl
  ·exact hu) (by simp only[maxLen];omega) (by omega)
 exact⟨g,cap,w',h1,h2,h5,ka.trans h6 (fun _ _ e=>e.elim) (fun _ _ e=>e),h7.imp id (fun e=>Nat.le_trans ka.size e)⟩
abbrev cC:Obj:=.cells #[.int .u64 0,.int .i64 0,.int .i64 0,.int .i64 0,.slice none 0 0] 53
structure Wo8(w W:World)(yb yr yn bS:Nat)(lim o n:Int)(ov:Value)(l':List He8)(v':Value):Prop where
 gs:GS w W 164 3 v' l'.length (dT l')
 bx:W.heap[yn]?=some (aM bS lim o n v')
 ob:W.heap[yb]?=some (aM bS lim o n ov)
 rb:W.heap[yr]?=some cC
theorem GS.setBox{w0 W:World}{e:TypeId}{size:Nat}{v:Value}{n:Nat}{xs:List Value}(h:GS w0 W e size v n xs){y i:Nat}(u:Value)(hy:w0.heap.size<=y)(hne:v.ownBlock≠some y):GS w0 (W.setCell ⟨y,i,none⟩ u) e size v n xs:=by
 have k:Kt (fun z=>z=y) W (W.setCell ⟨y,i,none⟩ u):=(Kt.refl (fun z=>z=y) W).setCell (p:=⟨y,i,none⟩) rfl u;exact⟨qC h.own k (fun z hz e=>hne (by rw[hz,e])),h.new,h.kp.trans k (fun _ _ e=>e) (fun z hz e=>by subst e;omega)⟩
theorem Wo8.put{w W W':World}{yb yr yn bS:Nat}{lim o n:Int}{ov:Value}{l':List He8}{v':Value}(h:Wo8 w W yb yr yn bS lim o n ov l' v')(hyn:w.heap.size<=yn)(hne:yb≠yn)(hne2:yr≠yn){b:He8}{g cap n':Nat}(hl:n'=l'.length)(hG:GS w W' 164 3 (.slice (some ⟨g,0,none⟩) (n' + 1) cap) (n' + 1) (dT l' ++ [.int .u64 b.p,.int .u64 b.s,b.v]))(hK:Kt (fun z=>v'.ownBlock=some z) W W'):
  W'.heap[yn]?=some (aM bS lim o n v')/\Wo8 w (W'.setCell ⟨yn,4,none⟩ (.slice (some ⟨g,0,none⟩) (n' + 1) cap)) yb yr yn bS lim o n ov (l' ++ [b]) (.slice (some ⟨g,0,none⟩) (n' + 1) cap):=by
 subst hl;have key:∀ {y:Nat} {cs:Array Value} {z:Nat×Nat},W.heap[y]?=some (.cells cs 53 z)->W'.heap[y]?=some (.cells cs 53 z):=fun {y cs z} hy=>(hK.block _ (lH hy) (fun e=>by
  obtain⟨cs',hcs⟩:=cB h.gs.own e;exact absurd (bM hcs hy) (by decide))).trans hy
 have hb:=key h.bx;have k:Kt (fun z=>z=yn) W' (W'.setCell ⟨yn,4,none⟩ (.slice (some ⟨g,0,none⟩) (l'.length+1) cap)):=(Kt.refl (fun z=>z=yn) W').setCell (p:=⟨yn,4,none⟩) rfl _;refine⟨hb,⟨?_,?_,(k.block _ (lH (key h.ob)) hne).trans (key h.ob),(k.block _ (lH (key h.rb)) hne2).trans (key h.rb)⟩⟩
 ·have:(l' ++ [b]).length=l'.length + 1:=by simp
  rw[this,uD];refine hG.setBox _ hyn (fun e=>?_);obtain⟨cs',hcs⟩:=cB hG.own e;exact absurd (bM hcs hb) (by decide)
 ·have:=bB hb 4 (.slice (some ⟨g,0,none⟩) (l'.length+1) cap);simpa using this
abbrev set5(W:World)(y:Nat)(u0 u1 u2 u3 u4:Value):World:=((((W.setCell ⟨y,0,none⟩ u0).setCell ⟨y,1,none⟩ u1).setCell ⟨y,2,none⟩ u2).setCell ⟨y,3,none⟩ u3).setCell ⟨y,4,none⟩ u4
theorem dM{W:World}{y bS:Nat}{lim o n:Int}{v:Value}(h:W.heap[y]?=some cC):(set5 W y (.int .u64 bS) (.int .i64 lim) (.int .i64 o) (.int .i64 n) v).heap[y]?=some (aM bS lim o n v):=by
 have:=bB (bB (bB (bB (bB h 0 (.int .u64 bS)) 1 (.int .i64 lim)) 2 (.int .i64 o)) 3 (.int .i64 n)) 4 v;simpa using this
theorem fA{W:World}{y:Nat}(u0 u1 u2 u3 u4:Value):Kt (fun z=>z=y) W (set5 W y u0 u1 u2 u3 u4):=
 (((((Kt.refl (fun z=>z=y) W).setCell (p:=⟨y,0,none⟩) rfl u0).setCell (p:=⟨y,1,none⟩) rfl u1).setCell (p:=⟨y,2,none⟩) rfl u2).setCell (p:=⟨y,3,none⟩) rfl u3).setCell (p:=⟨y,4,none⟩) rfl u4
theorem GS.set5{w0 W:World}{e:TypeId}{size:Nat}{v:Value}{n:Nat}{xs:List Value}(h:GS w0 W e size v n xs){y:Nat}(u0 u1 u2 u3 u4:Value)(hy:w0.heap.size<=y)(hne:v.ownBlock≠some y):GS w0 (set5 W y u0 u1 u2 u3 u4) e size v n xs:=
 ((((h.setBox u0 hy hne).setBox u1 hy hne).setBox u2 hy hne).setBox u3 hy hne).setBox u4 hy hne
theorem dE{W:World}{y:Nat}(h:W.heap[y]?=some cC):W.cell? ⟨y,0,none⟩=some (.int .u64 0)/\W.cell? ⟨y,1,none⟩=some (.int .i64 0)/\W.cell? ⟨y,2,none⟩=some (.int .i64 0)/\W.cell? ⟨y,3,none⟩=some (.int .i64 0)/\W.cell? ⟨y,4,none⟩=some (.slice none 0 0)/\∀ j,W.frozen? ⟨y,j,none⟩=false:=by
 refine⟨?_,?_,?_,?_,?_,fun j=>?_⟩ <;> simp[World.cell?,World.frozen?,h]
theorem UT{ops:Array Oper}{o:Oper}{a:Act}{K:Act->World->Prop}{Q:Exit->Act->World->Prop}{E:Prop}{w0 w:World}{v:Value}{n:Nat}{xs:List Value}(hG:GS w0 w 164 3 v n xs)(hn:n<=1000000)
  (hgd:o.guard=none) (s x:Operand) (hop:o.op=.call { callee:=.builtin .append,args:=#[s,x],argTypes:=#[51,51] })
  (hs:a.eval s=v) (b c2 p z:Nat) (u:Value) (hx:a.eval x=.slice (some ⟨b,0,none⟩) 1 c2) (hb:w.heap[b]?=some (eY p z u)) (hu:u.oneCell'=true)
  (h:∀ g2 cap2 w2,GS w0 w2 164 3 (.slice (some ⟨g2,0,none⟩) (n + 1) cap2) (n + 1) (xs ++ [.int .u64 p,.int .u64 z,u])->Kt (fun y=>v.ownBlock=some y) w w2->K (a.put o.dst (.slice (some ⟨g2,0,none⟩) (n + 1) cap2)) w2):
  if Region.wanted o (yielded ops a.tmps)=true then Oper.wp prog o a w K Q else E:=by
 have hw:Region.wanted o (yielded ops a.tmps)=true:=by simp[Region.wanted,hgd]
 rw[if_pos hw];obtain⟨i,hi,hzz⟩:=Option.map_eq_some_iff.1 BR;simp only[Prod.mk.injEq] at hzz;obtain⟨g2,cap2,w2,h1,h2,h5,h6,h7⟩:=hG.pushM 51 i (.agg #[.int .u64 0,.int .u64 0,.slice none 0 0]) 40 Tryz.underlying51 hi hzz.1 hzz.2.1 hzz.2.2 rfl (by decide) ⟨b,0,none⟩ c2 1 (by decide) [.int .u64 p,.int .u64 z,u] rfl (World.news_of_block (cs:=#[.int .u64 p,.int .u64 z,u]) hb) (fun u' hm=>by
  simp only[List.mem_cons,List.not_mem_nil,or_false] at hm;rcases hm with rfl|rfl|rfl
  ·rfl
  ·rfl
  ·exact hu) (by simp only[maxLen];omega) (by omega)
 exact Lib.wp_append_run w s x _ _ hop _ _ hs hx _ _ (h1 _) (h g2 cap2 w2 h2 h6)
theorem Wo8.keep{w W W':World}{yb yr yn bS:Nat}{lim o n:Int}{ov:Value}{l':List He8}{v':Value}(h:Wo8 w W yb yr yn bS lim o n ov l' v')(k:Kt nO W W'):Wo8 w W' yb yr yn bS lim o n ov l' v':=
 ⟨h.gs.keep k,bK h.bx k,bK h.ob k,(k.block _ (lH h.rb) id).trans h.rb⟩
theorem uM(bS:Nat)(lim o nr:Int)(v:Value)(l:List He8)(d:Option Nat)(w:World)(hB:BK8 w v l):
  Calls prog 103 #[aK bS lim o nr v,.int .i64 (qF d)] w fun e w'=>∃ u,e=.returned (aK bS lim o nr u)/\GS w w' 164 3 u (aQ l d).length (dT (aQ l d)):=by
 obtain⟨va,vc,rfl⟩:=hB.val;have hl:=hB.ln;have K0:=((Kt.refl nO w).alloc (aM bS lim o nr (.slice va l.length vc)));have X0:=(nH w (aM bS lim o nr (.slice va l.length vc)));obtain⟨w1,hw1⟩:=xe (w.alloc (aM bS lim o nr (.slice va l.length vc)));have s1:w1.heap.size=w.heap.size+1:=by rw[hw1];simp
 rw[<-hw1] at K0 X0;have K1:=(Kt.refl nO w1).alloc cC;have X1:=nH w1 cC;obtain⟨w2,hw2⟩:=xe (w1.alloc cC);have s2:w2.heap.size=w.heap.size+1+1:=by rw[hw2];simp[s1]
 rw[<-hw2] at K1 X1;have K2:=(Kt.refl nO w2).alloc (aM bS lim o nr (.slice none 0 0));have X2:=nH w2 (aM bS lim o nr (.slice none 0 0));have L0:=aA (show Wo8 w (w2.alloc (aM bS lim o nr (.slice none 0 0))) w.heap.size w1.heap.size w2.heap.size bS lim o nr (.slice va l.length vc) [] (.slice none 0 0)from⟨GS.nil _ _ _ _ (nT (nT K0 K1) K2),X2,bK X0 (nT K1 K2),(K2.block _ (lH X1) id).trans X1⟩);rw[s1,s2,hw2,hw1] at L0;have HB:=aA hB;clear hB X0 X1 X2 K0 K1 K2 s1 s2 hw2 hw1 w2 w1;obtain⟨m,hm⟩:=xe (l.length);have HM:=aA hm;rw[<-hm] at L0 HB hl ⊢;clear hm;obtain⟨s0,s1,s2,s3,s4,sf⟩:=aD L0.out.bx;obtain⟨b0,b1,b2,b3,b4,bf⟩:=aD L0.out.ob;obtain⟨di,hdi⟩:=xe (qF d);have HD:=aA hdi;rw[<-hdi];clear hdi;go_enter func103,ntmps103;go_wp2_with fail;obtain⟨yb,hyb⟩:∃ y,y=w.heap.size:=⟨_,rfl⟩;obtain⟨yr,hyr⟩:∃ y,y=w.heap.size+1:=⟨_,rfl⟩;obtain⟨yn,hyn⟩:∃ y,y=w.heap.size+1+1:=⟨_,rfl⟩;have HY:=aA (show w.heap.size<=yn/\yb≠yn/\yr≠yn/\w.heap.size<=yr from⟨by omega,by omega,by omega,by omega⟩);rw[<-hyn,<-hyr,<-hyb] at L0;rw[<-hyn,<-hyr,<-hyb];clear hyn hyr hyb s0 s1 s2 s3 s4 sf b0 b1 b2 b3 b4 bf;go_loopw [6] (fun i W=>∃ (k:Nat) (u:Value),k<=m/\i=.int .i64 k/\Hid (Wo8 w W yb yr yn bS lim o nr (.slice va m vc) (aQ (l.take k) d) u)) (fun i _=>m-(intOf i).toNat)
 case atStart=>exact⟨0,_,Nat.zero_le _,rfl,by
  have:aQ (l.take 0) d=[]:=by cases d <;> simp[aQ]
  rw[this];exact L0⟩
 case round=>
  clear L0;obtain⟨k,u,hk,rfl,hQ⟩:=hrel;obtain⟨s0,s1,s2,s3,s4,sf⟩:=aD hQ.out.bx;obtain⟨b0,b1,b2,b3,b4,bf⟩:=aD hQ.out.ob;obtain⟨ua,uc,rfl⟩:=eR hQ.out.gs.own;obtain⟨n',hn'⟩:=xe ((aQ (l.take k) d).length);have HN:=aA hn';rw[<-hn'] at s4;by_cases hlt:k<m
  ·have hki:(k:Int)<m:=(by omega);have hkl:k<l.length:=(by rw[<-HM.out];exact hlt);obtain⟨b,hb⟩:∃ b,l[k]?=some b:=⟨_,List.getElem?_eq_getElem hkl⟩;by_cases hd:d=some k
   ·have hdi:di=(k:Int):=(by rw[HD.out,hd];rfl);have E9:=aA (show Wo8 w wr yb yr yn bS lim o nr (.slice va m vc) (aQ (l.take (k+1)) d) (.slice ua (aQ (l.take k) d).length uc)from by
     rw[hd,zi9 hb,<-hd];exact hQ.out)
    clear hQ hb hd hn';subst hdi;go_wp2_with fail;exact⟨⟨k+1,_,by omega,by simp,E9⟩,by simp[intOf];omega⟩
   ·have hdi:¬(k:Int)=di:=fun e=>hd (by
     have:=HD.out;rw[<-e] at this
     cases d with
     | none=>exact absurd this (by show ¬(k:Int) = -1;omega)
     | some j=>
      have e2:(k:Int)=j:=this;rw[show j=k by omega])
    obtain⟨g,rfl,c0,c1,c2⟩:=(HB.out.keep hQ.out.gs.kp).get HM.out hb;obtain⟨_,ba,bc,hbv,_⟩:=HB.out.bt b (List.mem_of_getElem? hb);rw[hbv] at c2;have hle:(aQ (l.take k) d).length<=300000:=by
     have h1:(l.take k).length<=k:=List.length_take_le _ _;have h2:(aQ (l.take k) d).length<=(l.take k).length:=by
      cases d with
      | none=>exact Nat.le_refl _
      | some j=>exact List.length_eraseIdx_le _ _
     omega
    have HBV:=aA hbv;have HNX:=aA (zja hb hd);have HQ:=aA hQ.out;rw[<-hn'] at HQ hle;have HGN:=aA (show GS w wr 164 3 (.slice ua n' uc) n' (dT (aQ (l.take k) d))from by
     have:=HQ.out.gs;rw[<-hn'] at this;exact this)
    have hn6:n'<=1000000:=(by omega);clear hb hbv hn' hQ hd;obtain⟨bp,bs,bv,bf'⟩:=b;dsimp only at c0 c1 c2;have s4d:=(aD (HQ.out.keep (((Kt.refl nO wr).alloc (eY bp bs (.slice ba bs bc))).drew)).bx).2.2.2.2.1;go_upto_region 6 with fail;go_region_law (first
     | (refine UT (w0:=w) (v:=.slice ua n' uc) (n:=n') (HGN.out.keep (by first | exact((Kt.refl nO wr).alloc _) | exact((Kt.refl nO wr).alloc _).drew | exact((Kt.refl nO wr).drew).alloc _)) hn6 rfl (.tmp 23) (.tmp 29) rfl rfl _ 1 bp bs (.slice ba bs bc) rfl (by first | exact nH wr _ | exact nH wr.drew _) rfl ?_;intro g2 cap2 w2 hG2 hK2;obtain⟨hb9,hW9⟩:=(HQ.out.keep (by first | exact((Kt.refl nO wr).alloc _) | exact((Kt.refl nO wr).alloc _).drew | exact((Kt.refl nO wr).drew).alloc _)).put HY.out.1 HY.out.2.1 HY.out.2.2.1 (b:=⟨bp,bs,bv,bf'⟩) HN.out (by rw[HBV.out];exact hG2) hK2;rw[<-HNX.out] at hW9;obtain⟨t0,t1,t2,t3,t4,tf⟩:=aD hb9;have E9:=aA hW9;clear hW9 hG2 hK2 hb9))
    all_goals (go_wp2_with fail;exact⟨⟨k+1,_,by omega,by simp,E9⟩,by simp[intOf];omega⟩)
  ·obtain rfl:k=m:=(by omega);have hkk:¬(k:Int)<k:=(by omega);rw[List.take_of_length_le (by rw[<-HM.out];exact Nat.le_refl _)] at hQ HN;obtain⟨z0,z1,z2,z3,z4,zf⟩:=dE hQ.out.rb;have D:=aA (hQ.out.gs.set5 (y:=yr) (.int .u64 bS) (.int .i64 lim) (.int .i64 o) (.int .i64 nr) (.slice ua (aQ l d).length uc) HY.out.2.2.2 (fun e=>by
    obtain⟨cs',hcs⟩:=cB hQ.out.gs.own e;exact absurd (bM hcs hQ.out.rb) (by decide)))
   obtain⟨r0,r1,r2,r3,r4,rf⟩:=aD (dM (bS:=bS) (lim:=lim) (o:=o) (n:=nr) (v:=.slice ua n' uc) hQ.out.rb);rw[<-HN.out] at D;clear hQ hn';go_wp2_with fail;exact⟨rfl,aK bS lim o nr (.slice ua n' uc),by simp[results,results103,go_sem,r0,r1,r2,r3,r4],_,rfl,by rw[<-HN.out];exact D.out⟩
end Go.Proofs.YtbgbfpklgfpepaaGreatDoor
