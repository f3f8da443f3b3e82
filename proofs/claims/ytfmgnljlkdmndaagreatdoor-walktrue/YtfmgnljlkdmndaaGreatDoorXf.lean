import Derived.Test.YtfmgnljlkdmndaaGreatDoorXe
import Derived.RangeFuncNested
import Derived.RangeFuncBound
import Derived.RangeFuncCalls
import Derived.RangeFuncLeaves
import Derived.Shelf.Abstract
import Derived.Shelf.RegionOpen
import Derived.WalkMore
import Derived.OwnWalkIn
import Derived.TacticsInMore
import Derived.LoopNIn
import Derived.LoopIn
import Derived.Maps.AppendAt
import Derived.ArgAppend
import Derived.Laws.OwnMore
set_option maxRecDepth 1000000
set_option maxHeartbeats 80000000
namespace Go.Proofs.YtfmgnljlkdmndaaGreatDoor.M
open Tryz
open Go.RowKit
set_option linter.unusedVariables false
def jU(bS:Nat)(f:Nat->Nat)(p:Nat):Nat->Nat:=
 let q:=pv bS f p;let m:=nx bS f p
 let f1:=if q=0 then f else eK bS f q m
 if m=0 then f1 else eK bS f1 (m+8) q
def removeR(bS n:Nat)(f:Nat->Nat)(hd p:Nat):(Nat->Nat)×Nat×Nat:=
 if In bS n p 16 then (if iJ bS n f hd (pv bS f p) p && gM bS n f (nx bS f p) p then (jU bS f p,(if pv bS f p=0 then nx bS f p else hd),0) else (f,hd,8)) else (f,hd,4)
theorem zi7{bS n f hd q p}(h:iJ bS n f hd q p=true)(h0:q≠0):In bS n q 16:=by
 unfold iJ at h;split at h
 ·exact absurd (bw h).1 h0
 ·exact(bw h).1
theorem zk5{bS n f q p}(h:gM bS n f q p=true)(h0:q≠0):In bS n q 16:=by
 unfold gM at h;rcases bw h with e|⟨e,_⟩
 ·exact absurd e h0
 ·exact e
theorem Remove_any(c b ao bS R lim n f hd)(p:Nat)(hp:p<18446744073709551616)(w:World)(h:LS w c b ao bS R lim n f hd):
  Calls prog 209 #[.pointer (some ⟨c,0,none⟩),.int .u64 p] w fun e T=>e=.returned (.int .i64 ((removeR bS n f hd p).2.2:Int))/\LS T c b ao bS R lim n (removeR bS n f hd p).1 (removeR bS n f hd p).2.1/\Kt (lown c b ao) w T:=by
 have h64:=h.l.h64;have H:=aA h;have A:=aA (fun T (k:Kt nO w T)=>jC c b ao bS R lim n f hd p hp T (h.keep k).s (h.keep k).l);by_cases q:In bS n p 16
 ·have eu:lR bS n f p=nx bS f p:=by unfold lR;rw[ae q]
  have ev:lQ bS n f p=pv bS f p:=by unfold lQ;rw[ae q]
  have a2:=h.s.nx_lt p q;have a0:=h.s.pv_lt p q;rw[eu,ev,af q] at A;have L:=aA (fun T (k:Kt nO w T)=>zgv c b ao bS R lim n f hd (pv bS f p) p a0 hp T (h.keep k).s (h.keep k).l);have C:=aA (fun T (k:Kt nO w T)=>KY c b ao bS R lim n f hd (nx bS f p) p a2 hp T (h.keep k).s (h.keep k).l);have hR:removeR bS n f hd p=if iJ bS n f hd (pv bS f p) p && gM bS n f (nx bS f p) p then (jU bS f p,(if pv bS f p=0 then nx bS f p else hd),0) else (f,hd,8):=by unfold removeR;rw[ae q]
  have hF:jU bS f p=(let f1:=if pv bS f p=0 then f else eK bS f (pv bS f p) (nx bS f p);if nx bS f p=0 then f1 else eK bS f1 (nx bS f p+8) (pv bS f p)):=rfl;have hI:iJ bS n f hd (pv bS f p) p=true->pv bS f p≠0->In bS n (pv bS f p) 16:=zi7;have hJ:gM bS n f (nx bS f p) p=true->nx bS f p≠0->In bS n (nx bS f p) 16:=zk5;obtain⟨g,rfl⟩:=h.s.has (by decide) q;rw[hR,hF];clear hR hF eu ev q h;generalize nx bS f p=u at *;generalize pv bS f p=v at *;generalize a6:iJ bS n f hd v p=lb at *;generalize a5:gM bS n f u p=cb at *;clear a6 a5
  cases lb with
  | false=>
   simp only[Bool.false_and,Bool.false_eq_true,if_false];clear C hI hJ;go_enter func209,ntmps209;go_wp2_with fail;refine(A.o _ (Kt.refl _ w)).mono ?_;rintro e z ⟨rfl,B⟩;have m:=aA (B.alloc (.cells #[.int .u64 u,.int .u64 v] 246));have o:=cX.box (w:=z) u v;have j:=o.c0;have i:=o.c1;clear B o;go_wp2_with fail;refine(L.o _ m.o).mono ?_;rintro e w2 ⟨rfl,y⟩;have G:=aA (nT m.o y);clear y;go_wp2_with fail;go_ret;exact⟨rfl,H.o.keep G.o,G.o.lown⟩
  | true=>
   cases cb with
   | false=>
    simp only[Bool.and_false,Bool.false_eq_true,if_false];clear hI hJ;go_enter func209,ntmps209;go_wp2_with fail;refine(A.o _ (Kt.refl _ w)).mono ?_;rintro e z ⟨rfl,B⟩;have m:=aA (B.alloc (.cells #[.int .u64 u,.int .u64 v] 246));have o:=cX.box (w:=z) u v;have j:=o.c0;have i:=o.c1;have K:=aA o;clear B o;go_wp2_with fail;refine(L.o _ m.o).mono ?_;rintro e w2 ⟨rfl,y⟩;have G:=aA (nT m.o y);have Z:=K.o.keep y;have j:=Z.c0;have i:=Z.c1;clear y Z;go_wp2_with fail;refine(C.o _ G.o).mono ?_;rintro e w3 ⟨rfl,E⟩;have I:=aA (nT G.o E);clear E;go_wp2_with fail;go_ret;exact⟨rfl,H.o.keep I.o,I.o.lown⟩
   | true=>
    simp only[Bool.and_true,if_true];have J:=hI rfl;have N:=hJ rfl;clear hI hJ;by_cases F:v=0
    ·by_cases D:u=0
     ·subst F;subst D;simp only[if_true];clear J N;go_enter func209,ntmps209;go_wp2_with fail;refine(A.o _ (Kt.refl _ w)).mono ?_;rintro e z ⟨rfl,B⟩;have m:=aA (B.alloc (.cells #[.int .u64 ((0:Nat):Int),.int .u64 ((0:Nat):Int)] 246));have o:=cX.box (w:=z) 0 0;have j:=o.c0;have i:=o.c1;have K:=aA o;clear B o;have S:=aA (show ¬z.heap.size=c by intro e;have:=(H.o.keep m.o).l.hc;rw[<-e,nH] at this;simp at this);have P:=aA (show ¬own b (some g) z.heap.size by
       intro e;obtain⟨cap,hb,hr⟩:=(H.o.keep m.o).s.ex;rcases e with e|e
       ·rw[<-e,nH] at hb;simp at hb
       ·cases e
        obtain⟨_,rs,_,hg,_⟩:=hr;rw[nH] at hg;simp at hg)
      go_wp2_with fail;refine(L.o _ m.o).mono ?_;rintro e w2 ⟨rfl,y⟩;have G:=aA (nT m.o y);have a:=aA (K.o.keep y);have j:=a.o.c0;have i:=a.o.c1;clear y K;go_wp2_with fail;refine(C.o _ G.o).mono ?_;rintro e w3 ⟨rfl,E⟩;have I:=aA (nT G.o E);have t:=aA (H.o.keep I.o);have d:=aA (a.o.keep E);have j:=d.o.c0;have i:=d.o.c1;have hz:=t.o.l.fz 1;have Y:=t.o.l.c1;clear E a;have r:=aA (d.o.kept ((Kt.refl (fun x=>x=c) w3).setCell (p:=⟨c,1,none⟩) (fun _=>rfl) (.int .u64 ((0:Nat):Int))) S.o);have Q:=aA (t.o.head 0 (by first|decide|assumption));have X:=aA (LS.keptHead (I.o.lown (c:=c) (b:=b) (ao:=some g)) (.int .u64 ((0:Nat):Int)));have U:=r.o.c0;have V:=r.o.c1;go_wp2_with fail;go_ret;exact⟨rfl,Q.o,X.o⟩
     ·subst F;have a1:((u:Int) == 0)=false:=ag.2 (by omega);have IU:=aA (show In bS n (u+8) 8 by have:=N D;unfold In at this ⊢;omega);simp only[ac D];simp only[if_true];clear J N D;go_enter func209,ntmps209;go_wp2_with fail;refine(A.o _ (Kt.refl _ w)).mono ?_;rintro e z ⟨rfl,B⟩;have m:=aA (B.alloc (.cells #[.int .u64 u,.int .u64 ((0:Nat):Int)] 246));have o:=cX.box (w:=z) u 0;have j:=o.c0;have i:=o.c1;have K:=aA o;clear B o;have S:=aA (show ¬z.heap.size=c by intro e;have:=(H.o.keep m.o).l.hc;rw[<-e,nH] at this;simp at this);have P:=aA (show ¬own b (some g) z.heap.size by
       intro e;obtain⟨cap,hb,hr⟩:=(H.o.keep m.o).s.ex;rcases e with e|e
       ·rw[<-e,nH] at hb;simp at hb
       ·cases e
        obtain⟨_,rs,_,hg,_⟩:=hr;rw[nH] at hg;simp at hg)
      go_wp2_with fail;refine(L.o _ m.o).mono ?_;rintro e w2 ⟨rfl,y⟩;have G:=aA (nT m.o y);have a:=aA (K.o.keep y);have j:=a.o.c0;have i:=a.o.c1;clear y K;go_wp2_with fail;refine(C.o _ G.o).mono ?_;rintro e w3 ⟨rfl,E⟩;have I:=aA (nT G.o E);have t:=aA (H.o.keep I.o);have d:=aA (a.o.keep E);have j:=d.o.c0;have i:=d.o.c1;have hz:=t.o.l.fz 1;have Y:=t.o.l.c1;clear E a;have r:=aA (d.o.kept ((Kt.refl (fun x=>x=c) w3).setCell (p:=⟨c,1,none⟩) (fun _=>rfl) (.int .u64 u)) S.o);have Q:=aA (t.o.head u (by first|decide|assumption));have X:=aA (LS.keptHead (I.o.lown (c:=c) (b:=b) (ao:=some g)) (.int .u64 u));have U:=r.o.c0;have V:=r.o.c1;clear d t I;go_wp2_with fail;refine(qN c b g bS R lim n _ _ u 0 (by first|decide|assumption) _ Q.o.s Q.o.l IU.o).mono ?_;rintro e w5 ⟨rfl,hS,hK⟩;have H5:=aA (Q.o.stored hS hK);have K5:=aA (mC X.o (hK.lown' (c:=c)));clear hS hK;go_wp2_with fail;go_ret;exact⟨rfl,H5.o,K5.o⟩
    ·by_cases D:u=0
     ·have a4:((v:Int) == 0)=false:=ag.2 (by omega);have IV:=aA (show In bS n v 8 by have:=J F;unfold In at this ⊢;omega);simp only[ac F];subst D;simp only[if_true];clear J N F;go_enter func209,ntmps209;go_wp2_with fail;refine(A.o _ (Kt.refl _ w)).mono ?_;rintro e z ⟨rfl,B⟩;have m:=aA (B.alloc (.cells #[.int .u64 ((0:Nat):Int),.int .u64 v] 246));have o:=cX.box (w:=z) 0 v;have j:=o.c0;have i:=o.c1;have K:=aA o;clear B o;have S:=aA (show ¬z.heap.size=c by intro e;have:=(H.o.keep m.o).l.hc;rw[<-e,nH] at this;simp at this);have P:=aA (show ¬own b (some g) z.heap.size by
       intro e;obtain⟨cap,hb,hr⟩:=(H.o.keep m.o).s.ex;rcases e with e|e
       ·rw[<-e,nH] at hb;simp at hb
       ·cases e
        obtain⟨_,rs,_,hg,_⟩:=hr;rw[nH] at hg;simp at hg)
      go_wp2_with fail;refine(L.o _ m.o).mono ?_;rintro e w2 ⟨rfl,y⟩;have G:=aA (nT m.o y);have a:=aA (K.o.keep y);have j:=a.o.c0;have i:=a.o.c1;clear y K;go_wp2_with fail;refine(C.o _ G.o).mono ?_;rintro e w3 ⟨rfl,E⟩;have I:=aA (nT G.o E);have t:=aA (H.o.keep I.o);have d:=aA (a.o.keep E);have j:=d.o.c0;have i:=d.o.c1;have hz:=t.o.l.fz 1;have Y:=t.o.l.c1;clear E a;go_wp2_with fail;refine(tY c b g bS R lim n f hd v 0 (by first|decide|assumption) _ t.o.s t.o.l IV.o).mono ?_;rintro e w4 ⟨rfl,hS,hK⟩;have Q:=aA (t.o.stored hS hK);have X:=aA (mC I.o.lown (hK.lown' (c:=c)));have r:=aA (d.o.kept hK P.o);have U:=r.o.c0;have V:=r.o.c1;clear hS hK d t I;go_wp2_with fail;go_ret;exact⟨rfl,Q.o,X.o⟩
     ·have a4:((v:Int) == 0)=false:=ag.2 (by omega);have IV:=aA (show In bS n v 8 by have:=J F;unfold In at this ⊢;omega);simp only[ac F];have a1:((u:Int) == 0)=false:=ag.2 (by omega);have IU:=aA (show In bS n (u+8) 8 by have:=N D;unfold In at this ⊢;omega);simp only[ac D];clear J N F D;go_enter func209,ntmps209;go_wp2_with fail;refine(A.o _ (Kt.refl _ w)).mono ?_;rintro e z ⟨rfl,B⟩;have m:=aA (B.alloc (.cells #[.int .u64 u,.int .u64 v] 246));have o:=cX.box (w:=z) u v;have j:=o.c0;have i:=o.c1;have K:=aA o;clear B o;have S:=aA (show ¬z.heap.size=c by intro e;have:=(H.o.keep m.o).l.hc;rw[<-e,nH] at this;simp at this);have P:=aA (show ¬own b (some g) z.heap.size by
       intro e;obtain⟨cap,hb,hr⟩:=(H.o.keep m.o).s.ex;rcases e with e|e
       ·rw[<-e,nH] at hb;simp at hb
       ·cases e
        obtain⟨_,rs,_,hg,_⟩:=hr;rw[nH] at hg;simp at hg)
      go_wp2_with fail;refine(L.o _ m.o).mono ?_;rintro e w2 ⟨rfl,y⟩;have G:=aA (nT m.o y);have a:=aA (K.o.keep y);have j:=a.o.c0;have i:=a.o.c1;clear y K;go_wp2_with fail;refine(C.o _ G.o).mono ?_;rintro e w3 ⟨rfl,E⟩;have I:=aA (nT G.o E);have t:=aA (H.o.keep I.o);have d:=aA (a.o.keep E);have j:=d.o.c0;have i:=d.o.c1;have hz:=t.o.l.fz 1;have Y:=t.o.l.c1;clear E a;go_wp2_with fail;refine(tY c b g bS R lim n f hd v u (by first|decide|assumption) _ t.o.s t.o.l IV.o).mono ?_;rintro e w4 ⟨rfl,hS,hK⟩;have Q:=aA (t.o.stored hS hK);have X:=aA (mC I.o.lown (hK.lown' (c:=c)));have r:=aA (d.o.kept hK P.o);have U:=r.o.c0;have V:=r.o.c1;clear hS hK d t I;go_wp2_with fail;refine(qN c b g bS R lim n _ _ u v (by first|decide|assumption) _ Q.o.s Q.o.l IU.o).mono ?_;rintro e w5 ⟨rfl,hS,hK⟩;have H5:=aA (Q.o.stored hS hK);have K5:=aA (mC X.o (hK.lown' (c:=c)));clear hS hK;go_wp2_with fail;go_ret;exact⟨rfl,H5.o,K5.o⟩
 ·have a3:removeR bS n f hd p=(f,hd,4):=by unfold removeR;rw[ac q]
  rw[a3];rw[ah q] at A;generalize lR bS n f p=u at *;generalize lQ bS n f p=v at *;clear h q a3;go_enter func209,ntmps209;go_wp2_with fail;refine(A.o _ (Kt.refl _ w)).mono ?_;rintro e z ⟨rfl,B⟩;have m:=aA (B.alloc (.cells #[.int .u64 u,.int .u64 v] 246));clear B;go_wp2_with fail;go_ret;exact⟨rfl,H.o.keep m.o,m.o.lown⟩
def popR(bS n:Nat)(f:Nat->Nat)(hd:Nat):(Nat->Nat)×Nat×Nat×Nat:=
 if hd=0 then (f,hd,0,9) else if (removeR bS n f hd hd).2.2=0 then ((removeR bS n f hd hd).1,(removeR bS n f hd hd).2.1,hd,0) else (f,hd,0,(removeR bS n f hd hd).2.2)
theorem LC{bS n f hd p}(h:(removeR bS n f hd p).2.2≠0):(removeR bS n f hd p).1=f/\(removeR bS n f hd p).2.1=hd:=by
 revert h
 unfold removeR;split
 ·split
  ·intro h;exact absurd rfl h
  ·intro _;exact⟨rfl,rfl⟩
 ·intro _;exact⟨rfl,rfl⟩
theorem zhX(bS n f hd p):(removeR bS n f hd p).2.2<=8:=by
 unfold removeR;split
 ·split
  ·exact az _
  ·exact aj _
 ·exact(by omega : 4<=8)
theorem Pop_any(c b ao bS R lim n f hd)(w:World)(h:LS w c b ao bS R lim n f hd):
  Calls prog 219 #[.pointer (some ⟨c,0,none⟩)] w fun e k=>e=.returned (.tuple #[.int .u64 ((popR bS n f hd).2.2.1:Int),.int .i64 ((popR bS n f hd).2.2.2:Int)])/\LS k c b ao bS R lim n (popR bS n f hd).1 (popR bS n f hd).2.1/\Kt (lown c b ao) w k:=by
 have h64:=h.l.h64;have p:=h.l.c1;by_cases h0:hd=0
 ·subst h0;have a:popR bS n f 0=(f,0,0,9):=by simp[popR]
  rw[a];have H:=aA h;clear h a;go_enter func219,ntmps219;go_wp2
  exact⟨rfl,_,by simp[results,results219,go_sem],rfl,H.o,Kt.refl _ _⟩
 ·have o:((hd:Int) == 0)=false:=ag.2 (by omega);have A:=aA (Remove_any c b ao bS R lim n f hd hd h64 w h);by_cases he:(removeR bS n f hd hd).2.2=0
  ·have a:popR bS n f hd=((removeR bS n f hd hd).1,(removeR bS n f hd hd).2.1,hd,0):=(by unfold popR;rw[ac h0,ae he]);rw[a];rw[he] at A;generalize (removeR bS n f hd hd).1=f' at *;generalize (removeR bS n f hd hd).2.1=s at *;clear h a he h0;go_enter func219,ntmps219;go_wp2_with fail;refine A.o.mono ?_;rintro e r ⟨rfl,d,g⟩;have i:=aA d;have j:=aA g;clear d g;go_wp2_with fail;exact⟨rfl,_,by simp[results,results219,go_sem],rfl,i.o,j.o⟩
  ·have a:popR bS n f hd=(f,hd,0,(removeR bS n f hd hd).2.2):=(by unfold popR;rw[ac h0,ac he]);rw[a];rw[(LC he).1,(LC he).2] at A;have q:=zhX bS n f hd hd;generalize (removeR bS n f hd hd).2.2=x at *;have m:((x:Int) == 0)=false:=ag.2 (by omega);clear h a he h0;go_enter func219,ntmps219;go_wp2_with fail;refine A.o.mono ?_;rintro e r ⟨rfl,d,g⟩;have i:=aA d;have j:=aA g;clear d g;go_wp2_with fail;exact⟨rfl,_,by simp[results,results219,go_sem],rfl,i.o,j.o⟩
theorem Byte_any(b ao bS R lim n f)(p:Nat)(hp:p<18446744073709551616)(w:World)(h:SpA w b ao bS R lim n f):
  Calls prog 231 #[.pointer (some ⟨b,0,none⟩),.int .u64 p] w fun e c=>e=.returned (.tuple #[.int .u8 ((if In bS n p 1 then f (p-bS) else 0:Nat):Int),.int .i64 (if In bS n p 1 then 0 else 4)])/\Kt nO w c:=by
 by_cases a:In bS n p 1
 ·obtain⟨g,rfl⟩:=h.has (by decide) a;refine(VV b g bS R lim n f p w h a).mono ?_;rintro e c ⟨rfl,k⟩;rw[ae a,ae a];exact⟨rfl,k⟩
 ·refine(zk9 b ao bS R lim n f p 1 0 none 0 w h hp (by decide) (by decide) a).mono ?_;rintro e c ⟨rfl,k⟩;rw[ac a,ac a];exact⟨rfl,k⟩
theorem zeD(b ao bS R lim n f)(o:Nat)(ho:o<=8)(hR:R=4096*2 ^ o)(w:World)(h:SpA w b ao bS R lim n f):
  Calls prog 260 #[.pointer (some ⟨b,0,none⟩)] w fun e d=>e=.returned (.int .u64 n)/\Kt nO w d:=by
 have HH:=aA h;obtain⟨k,s,l⟩:=h.kn;have u:k<=64:=an l h.cfg.l2;have hend:=h.end_le;have r1:=h.cfg.r1;have a2:=h.cfg.b1;have hq:n/R=k:=by rw[s];exact dg _ (by omega)
 have z:=aA (fun d (A:Kt nO w d)=>regions_any b ao bS R lim n f d (h.keep A));rw[hq] at z;have x:=aA (fun d (A:Kt nO w d)=>end_any b ao bS R lim n f d (h.keep A));obtain⟨E,I⟩:=xe (bS+n);rw[<-I] at x hend;have L:=aA (fun p (hp:p<18446744073709551616) d (A:Kt nO w d)=>Byte_any b ao bS R lim n f p hp d (h.keep A));have HN:=aA (show n=k*(4096*2 ^ o)by rw[s,hR]);have HE:=aA (show E=bS+n from I);clear h s l hq I hR;go_enter func260,ntmps260;go_wp2_with fail;refine(z.o _ (Kt.refl _ w)).mono ?_;rintro e w1 ⟨rfl,U,rfl⟩;go_wp2_with fail;refine(x.o _ ((Kt.refl _ w).drewN U)).mono ?_;rintro e w2 ⟨rfl,Z,rfl⟩;have K2:=aA (((Kt.refl nO w).drewN U).drewN Z);generalize (w.drewN U).drewN Z=w2 at *;go_wp2_with fail;go_loopw [5] (fun i wr=>∃ j:Int,-1<=j/\j<=8/\i=.int .i64 j/\(k≠0->(o:Int)<=j)/\Kt nO w wr) (fun i _=>(intOf i+1).toNat)
 case atStart=>exact⟨8,by omega,by omega,rfl,fun _=>by omega,K2.o⟩
 case round=>
  obtain⟨j,a6,a4,rfl,r,Y⟩:=hrel;have T:=aA Y;clear Y K2;by_cases a0:j<0
  ·have Q:k=0:=by
    rcases Nat.eq_zero_or_pos k with e|e
    ·exact e
    ·have:=r (by omega);omega
   have m:=HN.o;rw[Q,Nat.zero_mul] at m;have X:=aA m;clear m;have a5:¬ 0<=j:=(by omega);go_wp2_with fail;go_ret;exact⟨dZ (by rw[X.o];rfl),T.o⟩
  ·obtain⟨t,rfl⟩:∃ t:Nat,j=(t:Int):=⟨j.toNat,by omega⟩;have ht:t<=8:=(by omega);obtain⟨P,D⟩:=xe (2 ^ t);have g:=pow8 t (by omega);rw[<-D] at g;obtain⟨S,hS⟩:=xe (k*4096*P);have a1:S<=67108864:=by
    rw[hS];exact an (Nat.mul_le_mul (ak 4096 u) g.2) (by decide)
   have a3:k*4096<=262144:=(by omega);have HW:=aA (show IntKind.u64.wrap ((k:Int)*4096*2 ^ t)=(S:Int)by
    have e:((2:Int) ^ t)=((2 ^ t:Nat):Int):=(by simp);have e2:(k:Int)*4096*((P:Nat):Int)=(S:Int):=(by rw[hS];simp);rw[e,<-D,e2,wrap_u64];omega)
   have hx:∃ q:Nat,q<18446744073709551616/\IntKind.u64.wrap ((E:Int)-(S:Int))=(q:Int)/\(In bS n q 1↔(k≠0/\t=o))/\(k≠0->t=o->S=n):=by
    have s:=HN.o;have I:=HE.o;have c:k≠0->t=o->S=n:=by rintro _ rfl;rw[hS,s,D,cx]
    by_cases hc:S<=E
    ·refine⟨E-S,by omega,by rw[wrap_u64];omega,?_,c⟩;constructor
     ·intro hi;unfold In at hi;rcases Nat.eq_zero_or_pos k with e|e
      ·rw[e,Nat.zero_mul] at s;omega
      ·refine⟨by omega,?_⟩;rcases Nat.lt_or_ge o t with N|a7
       ·exfalso
        have G : 2 ^ o*2<=P:=(by rw[D,<-ci];exact bj (by decide) N);have h3:k*(4096*2 ^ o)*2<=S:=by rw[hS,cx k 4096 P,cx k];exact Nat.mul_le_mul_left k (by rw[cx];exact Nat.mul_le_mul_left _ G)
        have h4 : 1<=k*(4096*2 ^ o):=Nat.mul_pos e (Nat.mul_pos (by decide) (ap (by decide)));omega
       ·have:=r (by omega);omega
     ·rintro ⟨F,rfl⟩;have:=c F rfl;have h4 : 1<=k*(4096*2 ^ t):=Nat.mul_pos (by omega) (Nat.mul_pos (by decide) (ap (by decide)));unfold In;omega
    ·refine⟨18446744073709551616+E-S,by omega,by rw[wrap_u64];omega,?_,c⟩;constructor
     ·intro hi;unfold In at hi;omega
     ·rintro ⟨F,G⟩;have:=c F G;omega
   obtain⟨q,B,C,v,y⟩:=hx;have HQ:=aA C;have HI:=aA v;have K:=aA y;clear C v y hS D g;go_wp2_with fail;rw[HW.o,HQ.o];refine(L.o q B _ T.o).mono ?_;rintro e w3 ⟨rfl,k3⟩;have K3:=aA (nT T.o k3);clear k3;by_cases a:In bS n q 1
   ·have V:=HI.o.1 a;have c:=aA (K.o V.1 V.2);rw[ae a,ae a];clear V a;go_wp2_with fail;go_ret;exact⟨dZ (by rw[c.o]),K3.o⟩
   ·rw[ac a,ac a];have J:=aA (fun l:k≠0=>show ¬t=o from fun e=>a (HI.o.2 ⟨l,e⟩));clear a;go_wp2_with fail;refine⟨⟨(t:Int)-1,by omega,by omega,rfl,fun l=>?_,K3.o⟩,by simp[intOf]⟩;have F:=r l;have G:=J.o l;omega
theorem All_any(c:Nat)(w:World):
  Calls prog 254 #[.pointer (some ⟨c,0,none⟩)] w fun e b=>e=.returned (.func (.func 259) #[] #[.pointer (some ⟨w.heap.size,0,none⟩)])/\b=w.alloc (.cells #[.pointer (some ⟨c,0,none⟩)] 135):=by
 have a:=mkf;go_enter func254,ntmps254;go_wp2
 go_ret;exact⟨rfl,rfl⟩
theorem zio(c:Nat)(w:World):
  Calls prog 261 #[.pointer (some ⟨c,0,none⟩)] w fun e b=>e=.returned (.func (.func 262) #[] #[.pointer (some ⟨w.heap.size,0,none⟩)])/\b=w.alloc (.cells #[.pointer (some ⟨c,0,none⟩)] 135):=by
 have a:=mkf;go_enter func261,ntmps261;go_wp2
 go_ret;exact⟨rfl,rfl⟩
end Go.Proofs.YtfmgnljlkdmndaaGreatDoor.M
namespace Go.Proofs.YtfmgnljlkdmndaaGreatDoor.M
open Tryz
open Go.RowKit Go.Shelf
set_option linter.unusedVariables false
abbrev fP(fn:FuncId)(tmps:Array Value)(ps:Array Tmp)(assign body:Code)(D:Nat)(st:LoopState)(pe:Option Code):Loop:=
 { state:=st,pending:=pe,fn:=fn,tmps:=tmps,params:=ps,assign:=assign,body:=body,defers:=D }
def fM(w:World)(l:Nat)(r:Loop):Prop:=w.heap[l]?=some (.loop r)
def jN(w:World)(d:Nat):Prop:=w.heap[d]?=some (.deferred (some []))
theorem fM.lt{w l r}(h:fM w l r):l<w.heap.size:=(Array.getElem?_eq_some_iff.1 h).1
theorem jN.lt{w d}(h:jN w d):d<w.heap.size:=(Array.getElem?_eq_some_iff.1 h).1
theorem fM.kept{w w' l r}{S:Nat->Prop}(h:fM w l r)(k:Kt S w w')(hS:¬S l):fM w' l r:=(k.block l h.lt hS).trans h
theorem jN.kept{w w' d}{S:Nat->Prop}(h:jN w d)(k:Kt S w w')(hS:¬S d):jN w' d:=(k.block d h.lt hS).trans h
theorem Kt.putObj{S:Nat->Prop}{a b:World}(h:Kt S a b){l:Nat}(hl:l<a.heap.size->S l)(o:Obj):Kt S a (b.putObj l o):=
 ⟨h.os,h.tape,h.output,by rw[World.putObj_size];exact h.size,fun i hi c=>(World.putObj_heap_other (fun e=>c (by rw[e];exact hl (e▸hi)))).trans (h.block i hi c)⟩
theorem fM.put{w l r}(h:fM w l r)(a:Loop):fM (w.putObj l (.loop a)) l a:=World.putObj_heap_same h.lt
def PS(l:Nat)(rc:LoopState->Option Code->Loop)(R:Ending->World->Prop):Exit->Act->World->Prop
 | .normal,_,w=>fM w l (rc .busy none)/\R (.returned (.bool true)) (w.putObj l (.loop (rc .ready none)))
 | .ret,_,w=>fM w l (rc .busy none)/\R (.returned (.bool false)) (w.putObj l (.loop (rc .done (some .ret))))
 | .exit id,_,w=>fM w l (rc .busy none)/\R (.returned (.bool false)) (w.putObj l (.loop (rc .done (some (.exit id)))))
 | _,_,_=>False
theorem LB{P:Program}{m l:Nat}{fn:FuncId}{tmps:Array Value}{b:Array Tmp}{assign body:Code}{D:Nat}{args:Array Value}{W:World}{R:Ending->World->Prop}
  (hl:fM W l (fP fn tmps b assign body D .ready none)) (hs:args.size=b.size)
  (h:assign.wpIn (Fence.wide.inRound l) m P (Exit.then (fun a₁ w₁=>fM w₁ l (fP fn tmps b assign body D .ready none)/\
    body.wpIn (Fence.wide.inRound l) m P (PS l (fP fn tmps b assign body D) R) a₁ (w₁.putObj l (.loop (fP fn tmps b assign body D .busy none)))) (fun _ _ _=>False))
   { tmps:=(b.zip args).foldl (fun t (p,v)=>t.setIfInBounds p v) tmps,defers:=[] } W):
  YieldAt Fence.wide m P l args W R:=by
 have hy:=run_yield (P:=P) (args:=args) hl hs;refine⟨fn,_,assign,body,hy,roundIn_of_wpIn trivial (wpIn_mono h ?_)⟩;rintro e a₁ w₁ hq
 cases e with
 | normal=>
  obtain⟨c,hb⟩:=hq;refine⟨_,run_beginRound c rfl,wpIn_mono hb ?_⟩;rintro e a₂ w₂ hq
  cases e with
  | normal=>exact⟨_,_,run_endRound none hq.1,hq.2⟩
  | ret=>exact⟨_,_,run_endRound (some .ret) hq.1,hq.2⟩
  | exit id=>exact⟨_,_,run_endRound (some (.exit id)) hq.1,hq.2⟩
  | goto t=>exact hq.elim
  | panic ch=>exact hq.elim
  | outgrown=>exact hq.elim
 | ret=>exact hq
 | exit id=>exact hq
 | goto t=>exact hq
 | panic ch=>exact hq
 | outgrown=>exact hq
def ES(P:Program)(w:World)(l:Nat)(rc:LoopState->Option Code->Loop)(N:World->Prop)(X:Code->World->Prop):Ending->World->Prop:=fun e W2=>
 (∃ v,e=.returned v)/\∃ st pe,st≠.busy/\fM W2 l (rc st pe)/\(pe=none->N (W2.putObj l (.loop (rc .exhausted pe))))/\(∀ c,pe=some c->X c (W2.putObj l (.loop (rc .exhausted pe))))
theorem zh5{F:Fence}{P:Program}{g:Operand}{b:Array Tmp}{assign body:Code}{Q:Exit->Act->World->Prop}{a:Act}{w:World}
  (k:F.round=none) (n:∀ f,F.fn f) (d:F.depth.isSome=false)
  {gf:Nat} {lb:Array Value} (hg:a.eval g=.func (.func gf) #[] lb) (o:∀ args w,(callFunc gf args).run P w=.ok (.enter gf args) w)
  (h:∀ fn,CallsIn F 0 P gf (#[.func (.yield (w.heap.size + 1)) #[] #[]] ++ lb) ((w.alloc (.deferred (some []))).alloc (.loop (fP fn a.tmps b assign body w.heap.size .ready none)))
   (ES P w (w.heap.size+1) (fP fn a.tmps b assign body w.heap.size) (Q .normal { a with defers:={ target:=.collected w.heap.size,args:=#[] } :: a.defers })
    (fun c=>c.wpIn F 0 P Q { a with defers:={ target:=.collected w.heap.size,args:=#[] } :: a.defers }))):
  (Code.rangeFunc g b assign body).wpIn F 0 P Q a w:=by
 refine wpIn_rangeFunc ?_;intro fn q;rw[k];refine⟨w.heap.size+1,[{ target:=.collected w.heap.size,args:=#[] }],(w.alloc (.deferred (some []))).alloc (.loop (fP fn a.tmps b assign body w.heap.size .ready none)),{ target:=.fn (.func gf) lb,args:=#[.func (.yield (w.heap.size+1)) #[] #[]] },(w.alloc (.deferred (some []))).alloc (.loop (fP fn a.tmps b assign body w.heap.size .ready none)),gf,
  #[.func (.yield (w.heap.size + 1)) #[] #[]] ++ lb,(w.alloc (.deferred (some []))).alloc (.loop (fP fn a.tmps b assign body w.heap.size .ready none)),?_,?_,fun f' _=>n f',?_,fun h=>(by rw[d] at h;cases h),?_⟩
 ·exact run_enterLoop_outer _ _ _ _ _
 ·simp only[resolve,hg];simp[go_sem]
 ·simp[invoke,go_sem,o]
 ·refine CallsIn.mono (h fn) ?_;rintro e r ⟨⟨v,rfl⟩,st,m,i,p,l,j⟩;refine⟨m,_,run_endLoop p i,?_⟩
  cases m with
  | none=>exact l rfl
  | some c=>exact j c rfl
theorem EP{P:Program}{g:Operand}{j:Array Tmp}{assign body:Code}{Q:Exit->Act->World->Prop}{a:Act}{w:World}
  {gf:Nat} {lb:Array Value} (hg:a.eval g=.func (.func gf) #[] lb) (l:∀ args w,(callFunc gf args).run P w=.ok (.enter gf args) w)
  (h:∀ fn f,f=fP fn a.tmps j assign body w.heap.size->Calls P gf (#[.func (.yield (w.heap.size + 1)) #[] #[]] ++ lb) ((w.alloc (.deferred (some []))).alloc (.loop (f .ready none)))
   (ES P w (w.heap.size+1) f (Q .normal { a with defers:={ target:=.collected w.heap.size,args:=#[] } :: a.defers })
    (fun c=>c.wp P Q { a with defers:={ target:=.collected w.heap.size,args:=#[] } :: a.defers }))):
  (Code.rangeFunc g j assign body).wp P Q a w:=by
 refine(wpIn_wide (n:=0)).1 (zh5 rfl (fun _=>trivial) rfl hg l (fun fn=>callsIn_wide.2 ((h fn _ rfl).mono ?_)));rintro e p ⟨o,st,k,b,m,i,d⟩;exact⟨o,st,k,b,m,i,fun c hc=>wpIn_wide.2 (d c hc)⟩
theorem LA{P:Program}{f:FuncId}{fn:Func}{c:Code}{args:Array Value}{w:World}{R:Ending->World->Prop}
  (hf:P.funcs[f]?=some fn) (hb:fn.body=some c)
  (h:c.wp P (bodyPostM Fence.wide 0 P fn R) { tmps:=args ++ Array.replicate (fn.ntmps-args.size) undef,defers:=[] } w):Calls P f args w R:=
 callsIn_wide.1 (callsIn_of_wp_marks hf hb trivial (wpIn_wide.2 h) rfl)
attribute [local go_sem] Oper.semAt_some
theorem wC{Q:Nat->Prop}(h:∃ m,Q m):∃ m,Q m/\∀ k,Q k->m<=k:=by
 obtain⟨m,a⟩:=h;induction m using Nat.strongRecOn with
 | _ m c=>
  by_cases hx:∃ k,k<m/\Q k
  ·obtain⟨k,b,hq⟩:=hx;exact c k b hq
  ·exact⟨m,a,fun k hq=>Nat.le_of_not_lt fun hl=>hx ⟨k,hl,hq⟩⟩
open Classical in
noncomputable def oS(Q:Nat->Prop):Nat:=if h:∃ m,Q m then Classical.choose (wC h) else 0
theorem zhV{Q:Nat->Prop}(h:∃ m,Q m):Q (oS Q):=by unfold oS;rw[dif_pos h];exact(Classical.choose_spec (wC h)).1
theorem zk4{Q:Nat->Prop}{k:Nat}(h:Q k):oS Q<=k:=by unfold oS;rw[dif_pos ⟨k,h⟩];exact(Classical.choose_spec (wC ⟨k,h⟩)).2 k h
def PtrB(w:World)(k c:Nat):Prop:=w.heap[k]?=some (.cells #[.pointer (some ⟨c,0,none⟩)] 135 (0,0))
theorem PtrB.lt{w k c}(h:PtrB w k c):k<w.heap.size:=(Array.getElem?_eq_some_iff.1 h).1
theorem PtrB.c0{w k c}(h:PtrB w k c):w.cell? ⟨k,0,none⟩=some (.pointer (some ⟨c,0,none⟩)):=by simp[World.cell?,show w.heap[k]?=_ from h]
theorem PtrB.kept{w w' k c}{S:Nat->Prop}(h:PtrB w k c)(a:Kt S w w')(hS:¬S k):PtrB w' k c:=(a.block k h.lt hS).trans h
theorem PtrB.keep{w w' k c}(h:PtrB w k c)(a:Kt nO w w'):PtrB w' k c:=h.kept a (fun x=>x)
theorem zhW(k l c b:Nat)(ao:Option Nat)(bS R lim n:Nat)(J:Nat->Nat->(Nat->Nat)->(Nat->Prop)->World->Prop)(Z:World->Prop)
  (hJ:∀ m p f S W,J m p f S W->p<18446744073709551616/\PtrB W k c/\(∃ hd,LS W c b ao bS R lim n f hd)/\∀ x,S x->x<W.heap.size)
  (hK:∀ m p f S W W',J m p f S W->Kt nO W W'->J m p f S W')
  (hY:∀ m p f S W,J m p f S W->p≠0->In bS n p 16->YieldAt Fence.wide 0 prog l #[.int .u64 p,.agg #[.int .u64 (nx bS f p:Int),.int .u64 (pv bS f p:Int)]] W fun e W'=>
   (e=.returned (.bool true)/\(∃ G f' P,G<m/\J G (nx bS f p) f' P W')/\Kt S W W')\/(e=.returned (.bool false)/\Z W'))
  (m0 hd:Nat) (f:Nat->Nat) (S:Nat->Prop) (w:World) (h:LS w c b ao bS R lim n f hd) (h0:J m0 hd f S w):
  Calls prog 262 #[.func (.yield l) #[] #[],.pointer (some ⟨k,0,none⟩)] w fun e W'=>(∃ v,e=.returned v)/\
   ((∃ m p f S,J m p f S W'/\(p=0\/¬In bS n p 16))\/Z W'):=by
 have i:=(hJ _ _ _ _ _ h0).2.1.c0;have a1:=h.l.c1;have HJ:=aA hJ;have HK:=aA hK;have HY:=aA hY;have H0:=aA h0;clear hJ hK hY h h0;refine(callsIn_wide (n:=0)).1 ?_;refine callsIn_of_wp func262 rfl trivial ?_ rfl;simp only[ntmps262,List.size_toArray,List.length_cons,List.length_nil,Nat.reduceAdd,Nat.reduceSub,Array.replicate_succ,Array.replicate_zero,List.push_toArray,List.append_toArray,List.nil_append,List.cons_append];gi_wp2
 gi_loopw [3] (fun p wr=>∃ m a f S,p=.int .u64 ((a:Nat):Int)/\J m a f S wr) (fun p wr=>oS (fun m=>∃ a f S,p=.int .u64 ((a:Nat):Int)/\J m a f S wr))
 case atStart=>exact⟨m0,hd,f,S,rfl,H0.o⟩
 case round=>
  have D:=zhV hrel;obtain⟨M,V⟩:=xe (oS (fun m=>∃ a f S,u3=.int .u64 ((a:Nat):Int)/\J m a f S wr));rw[<-V] at D;obtain⟨a,f,S,rfl,o⟩:=D;have HM:=aA V;have N:=aA o;obtain⟨z,i,⟨F,hL⟩,X⟩:=HJ.o _ _ _ _ _ o;have i:=i.c0;have HL:=aA hL;clear hrel o V X;by_cases h0:a=0
  ·subst h0;clear hL;gi_wp2
   go_end0
   exact⟨⟨_,rfl⟩,.inl ⟨_,_,_,_,N.o,.inl rfl⟩⟩
  ·have a3:((a:Int) == 0)=false:=ag.2 (by omega);by_cases d:In bS n a 16
   ·have A:=aA (IF c b ao bS R lim n f F a wr hL.s hL.l d);have U:=aA d;clear hL d;gi_wp2_with fail
    refine⟨trivial,rfl,?_⟩;refine(callsIn_wide.2 A.o).mono ?_;rintro e L ⟨rfl,E⟩;have I:=cX.box (w:=L) (nx bS f a) (pv bS f a);obtain⟨W,r⟩:=xe (L.alloc (.cells #[.int .u64 (nx bS f a:Int),.int .u64 (pv bS f a:Int)] 246));have j:J M a f S W:=(by rw[r];exact HK.o _ _ _ _ _ _ N.o (E.alloc _));have K:¬S L.heap.size:=fun hs=>by have h1:=(HJ.o _ _ _ _ _ N.o).2.2.2 _ hs;have h2:=E.size;omega
    rw[<-r] at I;have hy:=HY.o M a f S W j h0 U.o;have T:=I.c0;have a0:=I.c1;have HP:=aA I;have Q:=aA K;have a2:=aA j;generalize nx bS f a=x at *;generalize pv bS f a=y at *;obtain⟨fn,tmps,assign,body,q,hR⟩:=hy;clear I K E j;gi_wp2_with fail
    rw[<-r,q];refine⟨fun h=>absurd h (by decide),?_⟩;refine hR.mono ?_;rintro e W' (⟨rfl,g,hk⟩|⟨rfl,B⟩)
    ·have C:=HP.o.kept hk Q.o;have T:=C.c0;obtain⟨G,f',P,u,g⟩:=g;have t:=aA g;have Y:=aA u;clear hk C u g hR q r;gi_wp2_with fail
     go_roundw
     case rel=>exact⟨G,x,f',P,rfl,t.o⟩
     case measure=>
      refine Nat.lt_of_le_of_lt (zk4 (k:=G) ⟨x,f',P,rfl,t.o⟩) ?_;rw[<-HM.o];exact Y.o
    ·have HX:=aA B;clear B hR q r;gi_wp2_with fail
     refine bodyPost_ret (results_none rfl _ _ _) rfl ?_;exact⟨⟨_,rfl⟩,.inr HX.o⟩
   ·have A:=aA (AV c b ao bS R lim n f F a z wr hL.s hL.l d);have U:=aA d;clear hL d;gi_wp2_with fail
    refine⟨trivial,rfl,?_⟩;refine(callsIn_wide.2 A.o).mono ?_;rintro e L ⟨rfl,E⟩;gi_wp2_with fail
    refine⟨fun _ h=>(by cases h),?_⟩;gi_wp2_with fail
    refine bodyPost_ret (results_none rfl _ _ _) rfl ?_;exact⟨⟨_,rfl⟩,.inl ⟨_,_,_,_,HK.o _ _ _ _ _ _ N.o (E.alloc _),.inr U.o⟩⟩
attribute [local go_sem] Oper.semAt_some
structure Six(W:World)(y lf la kb D L:Nat)(l left q c:Nat)(rc:Loop):Prop where
 hy:W.heap[y]?=some (.cells #[.func (.yield l) #[] #[]] 118 (0,0))
 hlf:W.heap[lf]?=some (.cells #[.int .u64 left] 22 (0,0))
 hla:W.heap[la]?=some (.cells #[.int .u64 q] 22 (0,0))
 hkb:PtrB W kb c
 hL:fM W L rc
 hD:jN W D
def dH(y lf la kb D L:Nat):Nat->Prop:=fun x=>x=y\/x=lf\/x=la\/x=kb\/x=D\/x=L
theorem Six.kept{W W' y lf la kb D L l left q c rc}{S:Nat->Prop}(h:Six W y lf la kb D L l left q c rc)(k:Kt S W W')(hS:∀ x,dH y lf la kb D L x->¬S x):Six W' y lf la kb D L l left q c rc:=
 ⟨(k.block y (Array.getElem?_eq_some_iff.1 h.hy).1 (hS _ (.inl rfl))).trans h.hy,(k.block lf (Array.getElem?_eq_some_iff.1 h.hlf).1 (hS _ (.inr (.inl rfl)))).trans h.hlf,
  (k.block la (Array.getElem?_eq_some_iff.1 h.hla).1 (hS _ (.inr (.inr (.inl rfl))))).trans h.hla,h.hkb.kept k (hS _ (.inr (.inr (.inr (.inl rfl))))),h.hL.kept k (hS _ (.inr (.inr (.inr (.inr (.inr rfl)))))),h.hD.kept k (hS _ (.inr (.inr (.inr (.inr (.inl rfl)))))) ⟩
theorem Six.lt{W y lf la kb D L l left q c rc}(h:Six W y lf la kb D L l left q c rc)(x:Nat)(hx:dH y lf la kb D L x):x<W.heap.size:=by
 rcases hx with rfl|rfl|rfl|rfl|rfl|rfl
 ·exact(Array.getElem?_eq_some_iff.1 h.hy).1
 ·exact(Array.getElem?_eq_some_iff.1 h.hlf).1
 ·exact(Array.getElem?_eq_some_iff.1 h.hla).1
 ·exact h.hkb.lt
 ·exact h.hD.lt
 ·exact h.hL.lt
theorem Six.looped{W y lf la kb D L l left q c rc}(h:Six W y lf la kb D L l left q c rc)(b:y≠L)(e:lf≠L)(d:la≠L)(f:kb≠L)(a:D≠L)(r:Loop):Six (W.putObj L (.loop r)) y lf la kb D L l left q c r:=
 ⟨(World.putObj_heap_other b).trans h.hy,(World.putObj_heap_other e).trans h.hlf,(World.putObj_heap_other d).trans h.hla,(World.putObj_heap_other f).trans h.hkb,h.hL.put r,(World.putObj_heap_other a).trans h.hD⟩
theorem Six.step{W y lf la kb D L l left q c rc}(h:Six W y lf la kb D L l left q c rc)(f:y<lf)(i:lf<la)(g:la<kb)(j:kb<D)(e:D<L)(a b:Nat):
  Six ((W.setCell ⟨la,0,none⟩ (.int .u64 b)).setCell ⟨lf,0,none⟩ (.int .u64 a)) y lf la kb D L l a b c rc:=by
 have k:Kt (fun x=>x=la\/x=lf) W ((W.setCell ⟨la,0,none⟩ (.int .u64 b)).setCell ⟨lf,0,none⟩ (.int .u64 a)):=((Kt.refl _ W).setCell (fun _=>Or.inl rfl) _).setCell (fun _=>Or.inr rfl) _;refine⟨(k.block y (Array.getElem?_eq_some_iff.1 h.hy).1 (by omega)).trans h.hy,?_,?_,h.hkb.kept k (by omega),h.hL.kept k (by omega),h.hD.kept k (by omega)⟩
 ·exact cF ((((Kt.refl (fun x=>x=la) W).setCell (p:=⟨la,0,none⟩) (fun _=>rfl) _).block lf (Array.getElem?_eq_some_iff.1 h.hlf).1 (by omega)).trans h.hlf) 0 _
 ·have d:=cF h.hla 0 (.int .u64 b);exact(((Kt.refl (fun x=>x=lf) _).setCell (p:=⟨lf,0,none⟩) (fun _=>rfl) _).block la (Array.getElem?_eq_some_iff.1 d).1 (by omega)).trans d
theorem lX{W:World}{k:Nat}{v:Value}{t:TypeId}(h:W.heap[k]?=some (.cells #[v] t (0,0))):W.cell? ⟨k,0,none⟩=some v:=by simp[World.cell?,h]
theorem wY{W:World}{k:Nat}{cs:Array Value}{t:TypeId}(h:W.heap[k]?=some (.cells cs t (0,0))):W.frozen? ⟨k,0,none⟩=false:=by simp[World.frozen?,h]
theorem mU(w:World)(A B:Obj):((w.alloc A).alloc B).heap[w.heap.size+1]?=some B:=by have:=nH (w.alloc A) B;rwa [World.size_alloc] at this
def rX(K:Nat->Nat->Nat->(Nat->Nat)->(Nat->Prop)->World->Prop)(N l c y lf la kb D L:Nat)(rc:LoopState->Option Code->Loop)(m p:Nat)(f:Nat->Nat)(S':Nat->Prop)(W:World):Prop:=
 ∃ i q S,m+i=N/\K i q p f S W/\Six W y lf la kb D L l m q c (rc .ready none)/\(∀ x,S x->¬dH y lf la kb D L x)/\S'=fun x=>S x\/dH y lf la kb D L x
def rW(K:Nat->Nat->Nat->(Nat->Nat)->(Nat->Prop)->World->Prop)(Kx:(Nat->Prop)->World->Prop)(N bS D L:Nat)(rc:LoopState->Option Code->Loop)(W:World):Prop:=
 fM W L (rc .done (some (.exit 0)))/\jN W D/\((∃ i q p f S,K i q p f S W/\i<=N/\(pv bS f p≠q\/i=N)/\¬S D/\¬S L)\/∃ S,Kx S W/\¬S D/\¬S L)
theorem zkv(k l c b:Nat)(ao:Option Nat)(bS R lim n o:Nat)(ho:o<=8)(hR:R=4096*2 ^ o)(B:Nat)(K:Nat->Nat->Nat->(Nat->Nat)->(Nat->Prop)->World->Prop)(Kx:(Nat->Prop)->World->Prop)
  (hK1:∀ i q p f S W,K i q p f S W->p<18446744073709551616/\q<18446744073709551616/\(∃ hd,LS W c b ao bS R lim n f hd)/\(∀ x,S x->x<W.heap.size)/\PtrB W k c)
  (hK2:∀ i q p f S T W W',K i q p f S W->Kt T W W'->(∀ x,T x->B<=x/\¬S x)->K i q p f S W')
  (c3:∀ S T W W',Kx S W->Kt T W W'->(∀ x,T x->B<=x/\¬S x)->Kx S W')
  (hY:∀ i q p f S W,K i q p f S W->i<n/16->p≠0->In bS n p 16->pv bS f p=q->YieldAt Fence.wide 0 prog l #[.int .u64 p] W fun e W'=>
   (e=.returned (.bool true)/\∃ f' Z,K (i+1) p (nx bS f p) f' Z W'/\Kt S W W'/\∀ x,Z x->S x\/W.heap.size<=x)\/
   (e=.returned (.bool false)/\∃ Z,Kx Z W'/\Kt S W W'/\∀ x,Z x->S x\/W.heap.size<=x))
  (hd:Nat) (f:Nat->Nat) (S:Nat->Prop) (w:World) (hB:B<=w.heap.size) (h:LS w c b ao bS R lim n f hd) (h0:K 0 0 hd f S w):
  Calls prog 259 #[.func (.yield l) #[] #[],.pointer (some ⟨k,0,none⟩)] w fun e W'=>(∃ v,e=.returned v)/\
   ((∃ i q p f S,K i q p f S W'/\i<=n/16/\(p=0\/¬In bS n p 16\/pv bS f p≠q\/i=n/16))\/∃ S,Kx S W'):=by
 have A:=aA (fun w' (kk:Kt nO w w')=>zeD b ao bS R lim n f o ho hR w' (h.keep kk).s);have HH:=aA h;have H0:=aA h0;have P:=aA hK1;have g:=aA hK2;have c8:=aA c3;have HY:=aA hY;have hn:n<=4194304:=an h.s.nle h.s.cfg.lr;obtain⟨N,hN⟩:=xe (n/16);have HN:=aA (show(n:Int)/16=(N:Int)by rw[hN];simp);have f6:N<=4194304:=by omega
 rw[<-hN] at HY ⊢;have b2:=(hK1 _ _ _ _ _ _ h0).2.2.2.1;have a7:=(hK1 _ _ _ _ _ _ h0).2.2.2.2;have HP:=aA a7;clear hK1 hK2 c3 hY h0 hN h;have d9:=(a7.keep ((Kt.refl nO w).alloc (.cells #[.func (.yield l) #[] #[]] 118))).c0;have e3:=(HH.o.l.keep ((Kt.refl nO w).alloc (.cells #[.func (.yield l) #[] #[]] 118))).c0;clear a7;refine LA func259 rfl ?_;simp only[ntmps259,List.size_toArray,List.length_cons,List.length_nil,Nat.reduceAdd,Nat.reduceSub,Array.replicate_succ,Array.replicate_zero,List.push_toArray,List.append_toArray,List.nil_append,List.cons_append];go_wp2_with fail;apply wp_scope_straight
 go_wp2_with fail;refine(A.o _ ((Kt.refl nO w).alloc _)).mono ?_;rintro e Q ⟨rfl,k1⟩;have a9:=(HP.o.keep (nT ((Kt.refl nO w).alloc (.cells #[.func (.yield l) #[] #[]] 118)) k1)).keep (((Kt.refl nO Q).alloc (.cells #[.int .u64 N] 22)).alloc (.cells #[.int .u64 0] 22));have a9:=a9.c0;clear d9 e3;go_wp2_with fail;rw[HN.o];apply wp_label
 go_wp2_with fail;refine(zio c _).mono ?_;rintro e u ⟨rfl,r⟩;rw[World.size_alloc,World.size_alloc];have KW:=aA (show Kt nO w u by rw[r];exact(((nT ((Kt.refl nO w).alloc _) k1).alloc _).alloc _).alloc _);have F1:=aA (show u.heap[w.heap.size]?=some (.cells #[.func (.yield l) #[] #[]] 118 (0,0))by
  have f4:w.heap.size<Q.heap.size:=by have:=k1.size;simp at this;omega
  rw[r,Below.heap_alloc _ _ _ (by simp;omega),Below.heap_alloc _ _ _ (by simp;omega),Below.heap_alloc _ _ _ (by omega)];exact(k1.block _ (by simp) (fun x=>x)).trans (nH _ _))
 have F2:=aA (show u.heap[Q.heap.size]?=some (.cells #[.int .u64 N] 22 (0,0))by
  rw[r,Below.heap_alloc _ _ _ (by simp;omega),Below.heap_alloc _ _ _ (by simp)];exact nH _ _)
 have F3:=aA (show u.heap[Q.heap.size+1]?=some (.cells #[.int .u64 ((0:Nat):Int)] 22 (0,0))by
  rw[r,Below.heap_alloc _ _ _ (by simp)];exact mU _ _ _)
 have F4:=aA (show PtrB u (Q.heap.size+2) c by
  rw[r];have:=nH ((Q.alloc (.cells #[.int .u64 N] 22)).alloc (.cells #[.int .u64 0] 22)) (.cells #[.pointer (some ⟨c,0,none⟩)] 135);rw[World.size_alloc,World.size_alloc] at this;exact this)
 have a8:u.heap.size=Q.heap.size+3:=by rw[r];simp
 have d6:w.heap.size<Q.heap.size:=by have:=k1.size;simp at this;omega
 have H2:=aA (HH.o.keep KW.o);have K2:=aA (g.o _ _ _ _ _ _ _ _ H0.o KW.o (fun x hx=>hx.elim));clear a9 k1 r A;generalize Q.heap.size=z at *;go_wp2_with fail;refine EP (gf:=262) (lb:=#[.pointer (some ⟨z+2,0,none⟩)]) rfl (enters_of func262 (by kernel_rfl) rfl) ?_;intro fn d c6;have d0:=aA c6;clear c6;rw[a8];obtain⟨E,V⟩:=xe ((u.alloc (.deferred (some []))).alloc (.loop (d .ready none)));have C:=aA (show Kt nO u E by rw[V];exact((Kt.refl nO u).alloc _).alloc _);have X6:=aA (show Six E w.heap.size z (z+1) (z+2) (z+3) (z+4) l N 0 c (d .ready none)from by
  refine⟨?_,?_,?_,F4.o.keep C.o,?_,?_⟩
  ·exact(C.o.block _ (by omega) (fun x=>x)).trans F1.o
  ·exact(C.o.block _ (by omega) (fun x=>x)).trans F2.o
  ·exact(C.o.block _ (by omega) (fun x=>x)).trans F3.o
  ·rw[V];have:=mU u (.deferred (some [])) (.loop (d .ready none));rw[a8] at this;exact this
  ·rw[V];have:=(Below.heap_alloc (u.alloc (.deferred (some []))) (.loop (d .ready none)) u.heap.size (by simp)).trans (nH u _);rw[a8] at this;exact this)
 rw[<-V];have e4:∀ x,S x->¬dH w.heap.size z (z+1) (z+2) (z+3) (z+4) x:=fun x hx t=>by have:=b2 x hx;unfold dH at t;omega
 have J0:=aA (show rX K N l c w.heap.size z (z+1) (z+2) (z+3) (z+4) d N hd f (fun x=>S x\/dH w.heap.size z (z+1) (z+2) (z+3) (z+4) x) E from
  ⟨0,0,S,rfl,g.o _ _ _ _ _ _ _ _ K2.o C.o (fun x hx=>hx.elim),X6.o,e4,rfl⟩)
 have L:=aA (show ∀ x,dH w.heap.size z (z+1) (z+2) (z+3) (z+4) x->B<=x from fun x hx=>by unfold dH at hx;omega);have g2:=aA (show ∀ x,x≠z->x≠z+1->x≠z+4->dH w.heap.size z (z+1) (z+2) (z+3) (z+4) x->x≠z/\x≠z+1/\x≠z+4 from fun x X h2 h3 _=>⟨X,h2,h3⟩);have e6:=aA (show w.heap.size<z from d6);refine(zhW (z+2) (z+4) c b ao bS R lim n (rX K N l c w.heap.size z (z+1) (z+2) (z+3) (z+4) d) (rW K Kx N bS (z+3) (z+4) d) ?hJ ?hK ?hY N hd f _ E (H2.o.keep C.o) J0.o).mono ?hend
 case hJ=>
  rintro m p f' Z W ⟨i,q,S,a0,j,t,hS,rfl⟩;obtain⟨X,h2,h3,h4,h5⟩:=P.o _ _ _ _ _ _ j;refine⟨X,t.hkb,h3,?_⟩;rintro x (hx|hx)
  ·exact h4 x hx
  ·exact t.lt x hx
 case hK=>
  rintro m p f' Z W W' ⟨i,q,S,a0,j,t,hS,rfl⟩ d2;exact⟨i,q,S,a0,g.o _ _ _ _ _ _ _ _ j d2 (fun x hx=>hx.elim),t.kept d2 (fun _ _ x=>x),hS,rfl⟩
 case hend=>
  rintro e W' ⟨hv,hq⟩;refine⟨hv,?_⟩;rcases hq with ⟨m,p,f',Z,⟨i,q,S,a0,j,t,hS,rfl⟩,hp⟩|⟨hr,hD,hx⟩
  ·refine⟨.ready,none,by simp,t.hL,fun _=>?_,fun c hc=>by cases hc⟩;have hD:=t.hD;have a5:jN (W'.putObj (z+4) (.loop (d .exhausted none))) (z+3):=(World.putObj_heap_other (by omega)).trans hD;have HF:=aA (show ∃ i q p f S,K i q p f S ((W'.putObj (z+4) (.loop (d .exhausted none))).putObj (z+3) (.deferred none))/\i<=N/\(p=0\/¬In bS n p 16\/pv bS f p≠q\/i=N)from by
    refine⟨i,q,p,f',S,g.o _ _ _ _ _ (fun x=>x=z+3\/x=z+4) _ _ j ((((Kt.refl _ W').putObj (fun _=>Or.inr rfl) _)).putObj (fun _=>Or.inl rfl) _) ?_,by omega,?_⟩
    ·rintro x (rfl|rfl)
     ·exact⟨L.o _ (by unfold dH;omega),fun hs=>hS _ hs (by unfold dH;omega)⟩
     ·exact⟨L.o _ (by unfold dH;omega),fun hs=>hS _ hs (by unfold dH;omega)⟩
    ·rcases hp with hp|hp
     ·exact .inl hp
     ·exact .inr (.inl hp))
   clear j t hS hp;go_wp2_with fail;refine⟨by simp,.inl ⟨_,_,rfl,run_takeDeferred a5,?_⟩⟩;exact⟨_,results_none rfl _ _ _,⟨_,rfl⟩,.inl HF.o⟩
  ·refine⟨.done,some (.exit 0),by simp,hr,fun h=>(by cases h),fun c hc=>?_⟩
   cases hc
   have a5:jN (W'.putObj (z+4) (.loop (d .exhausted (some (.exit 0))))) (z+3):=(World.putObj_heap_other (by omega)).trans hD;have a:Kt (fun x=>x=z+3\/x=z+4) W' ((W'.putObj (z+4) (.loop (d .exhausted (some (.exit 0))))).putObj (z+3) (.deferred none)):=((Kt.refl _ W').putObj (fun _=>Or.inr rfl) _).putObj (fun _=>Or.inl rfl) _;have HF:=aA (show(∃ i q p f S,K i q p f S ((W'.putObj (z+4) (.loop (d .exhausted (some (.exit 0))))).putObj (z+3) (.deferred none))/\i<=N/\(p=0\/¬In bS n p 16\/pv bS f p≠q\/i=N))\/∃ S,Kx S ((W'.putObj (z+4) (.loop (d .exhausted (some (.exit 0))))).putObj (z+3) (.deferred none))from by
    rcases hx with ⟨i,q,p,f',S,j,hi,hp,a3,a4⟩|⟨S,j,a3,a4⟩
    ·refine .inl ⟨i,q,p,f',S,g.o _ _ _ _ _ _ _ _ j a ?_,hi,.inr (.inr hp)⟩;rintro x (rfl|rfl)
     ·exact⟨L.o _ (by unfold dH;omega),a3⟩
     ·exact⟨L.o _ (by unfold dH;omega),a4⟩
    ·refine .inr ⟨S,c8.o _ _ _ _ j a ?_⟩;rintro x (rfl|rfl)
     ·exact⟨L.o _ (by unfold dH;omega),a3⟩
     ·exact⟨L.o _ (by unfold dH;omega),a4⟩)
   clear hx a;go_wp2_with fail;refine⟨by simp,.inl ⟨_,_,rfl,run_takeDeferred a5,?_⟩⟩;exact⟨_,results_none rfl _ _ _,⟨_,rfl⟩,HF.o⟩
 case hY=>
  rintro m p f' Z W ⟨i,q,S,a0,j,t,hS,rfl⟩ e8 e5;have hL:=t.hL;rw[d0.o] at hL;have f1:=(P.o _ _ _ _ _ _ j).1;have f3:=(P.o _ _ _ _ _ _ j).2.1;have c4:=(P.o _ _ _ _ _ _ j).2.2.2.1;refine LB hL rfl ?_;rw[<-d0.o];clear hL;have H6:=aA t;have HK:=aA j;have f9:=aA c4;have HS:=aA hS;clear t j c4 hS;have e2:=aA (show ∀ x,S x->x≠z+4 from fun x hx e=>HS.o x hx (by unfold dH;omega));gi_wp2_with fail
  refine⟨H6.o.hL.kept ((Kt.refl nO W).alloc _) (fun x=>x),?_⟩;obtain⟨W2,G⟩:=xe ((W.alloc (.cells #[.int .u64 (nx bS f' p:Int),.int .u64 (pv bS f' p:Int)] 246)).putObj (z+4) (.loop (d .busy none)));have e9:=H6.o.hL.lt;have b8:=aA (show Kt (fun x=>x=z+4) W W2 by rw[G];exact((Kt.refl (fun x=>x=z+4) W).alloc _).putObj (fun _=>rfl) _);have I:=aA (show Six W2 w.heap.size z (z+1) (z+2) (z+3) (z+4) l m q c (d .busy none)by
   rw[G];exact(H6.o.kept ((Kt.refl nO W).alloc _) (fun _ _ x=>x)).looped (by omega) (by omega) (by omega) (by omega) (by omega) _)
  have P2:=aA (show cX W2 W.heap.size (nx bS f' p) (pv bS f' p)by
   rw[G];exact(World.putObj_heap_other (by omega)).trans (cX.box _ _))
  have b9:=aA (g.o _ _ _ _ _ _ _ _ HK.o b8.o (fun x hx=>by subst hx;exact⟨L.o _ (by unfold dH;omega),fun hs=>e2.o _ hs rfl⟩));have a6:=P2.o.c1;have d1:=lX I.o.hla;have b7:=lX I.o.hlf;have b3:=lX I.o.hy;have f0:m<=4194304:=by omega
  rw[<-G];clear G e9;have HD:=aA (show ¬S (z+3)from fun hs=>HS.o _ hs (by unfold dH;omega));have c7:=aA (show ¬S (z+4)from fun hs=>HS.o _ hs (by unfold dH;omega));have a1:=aA (show(pv bS f' p≠q\/i=N)->rW K Kx N bS (z+3) (z+4) d (W2.putObj (z+4) (.loop (d .done (some (.exit 0)))))from fun d3=>by refine⟨I.o.hL.put _,(World.putObj_heap_other (by omega)).trans I.o.hD,.inl ⟨i,q,p,f',S,g.o _ _ _ _ _ (fun x=>x=z+4) _ _ b9.o ((Kt.refl (fun x=>x=z+4) W2).putObj (fun _=>rfl) _) ?_,by omega,d3,HD.o,c7.o⟩⟩;rintro x rfl;exact⟨L.o _ (by unfold dH;omega),c7.o⟩)
  obtain⟨y,hy⟩:=xe (pv bS f' p);rw[<-hy] at a6;by_cases b0:y=q
  ·have b5:((y:Int) == (q:Int))=true:=co.2 (by omega);by_cases g1:m=0
   ·have c2:((m:Int) == 0)=true:=co.2 (by omega);have hi:i=N:=(by omega);have HI:=aA hi;clear hi hy;gi_wp2_with fail
    exact⟨I.o.hL,.inr ⟨rfl,a1.o (.inr HI.o)⟩⟩
   ·have c2:((m:Int) == 0)=false:=ag.2 (by omega);have hY:=HY.o i q p f' S W2 b9.o (by omega) e8 e5 (by rw[<-hy];exact b0);obtain⟨g3,e0,c5,d5,b6,a2⟩:=hY;obtain⟨m',rfl⟩:∃ m',m=m'+1:=⟨m-1,by omega⟩;clear hy;gi_wp2_with fail
    refine⟨rfl,?_⟩;refine RoundIn.mono (F:=Fence.wide.inRound (z+4)) a2 ?_;rintro e E (⟨rfl,f2,S2,b4,a,hs⟩|⟨rfl,S2,c9,a,hs⟩)
    ·have Y:=aA (I.o.kept a (fun x hx b1=>HS.o x b1 hx));have d8:=aA b4;have e1:=aA a;have D:=aA (show ∀ x,S2 x->¬dH w.heap.size z (z+1) (z+2) (z+3) (z+4) x from fun x hx J=>by
      rcases hs x hx with X|X
      ·exact HS.o x X J
      ·have:=I.o.lt x J;omega)
     have f8:=lX Y.o.hla;have f5:=wY Y.o.hla;have d4:=lX Y.o.hlf;have g0:=wY Y.o.hlf;have k5:Kt (fun x=>x=z+1) E (E.setCell ⟨z+1,0,none⟩ (.int .u64 p)):=(Kt.refl (fun x=>x=z+1) E).setCell (fun _=>rfl) _;have f7:=k5.cell (p:=⟨z,0,none⟩) (by simp) d4;clear b4 a hs a2 b6 k5 a6 d1 b7 b3;gi_wp2_with fail
     have X4:=Y.o.step e6.o (by omega) (by omega) (by omega) (by omega) m' p;have k6:Kt (dH w.heap.size z (z+1) (z+2) (z+3) (z+4)) E (((E.setCell ⟨z+1,0,none⟩ (.int .u64 p)).setCell ⟨z,0,none⟩ (.int .u64 m')).putObj (z+4) (.loop (d .ready none))):=
      (((Kt.refl _ E).setCell (fun _=>by unfold dH;simp) _).setCell (fun _=>by unfold dH;simp) _).putObj (fun _=>by unfold dH;simp) _
     refine⟨X4.hL,.inl ⟨rfl,⟨m',by omega,f2,_,i+1,p,S2,by omega,g.o _ _ _ _ _ _ _ _ d8.o k6 (fun x hx=>⟨L.o x hx,fun h=>D.o x h hx⟩),X4.looped (by omega) (by omega) (by omega) (by omega) (by omega) _,D.o,rfl⟩,?_⟩⟩;refine((b8.o.trans (U:=fun x=>S x\/dH w.heap.size z (z+1) (z+2) (z+3) (z+4) x) e1.o (fun x _ hx=>.inr (by subst hx;unfold dH;simp)) (fun x _ hx=>.inl hx))).trans k6 (fun x _ hx=>hx) (fun x _ hx=>.inr hx)
    ·have Y:=aA (I.o.kept a (fun x hx b1=>HS.o x b1 hx));have e7:=aA c9;have D:=aA (show ∀ x,S2 x->¬dH w.heap.size z (z+1) (z+2) (z+3) (z+4) x from fun x hx J=>by
      rcases hs x hx with X|X
      ·exact HS.o x X J
      ·have:=I.o.lt x J;omega)
     clear c9 a hs a2 b6 a6 d1 b7 b3;gi_wp2_with fail
     refine⟨Y.o.hL,.inr ⟨rfl,Y.o.hL.put _,(World.putObj_heap_other (by omega)).trans Y.o.hD,.inr ⟨S2,c8.o _ (fun x=>x=z+4) _ _ e7.o ((Kt.refl (fun x=>x=z+4) E).putObj (fun _=>rfl) _) ?_,fun h=>D.o _ h (by unfold dH;omega),fun h=>D.o _ h (by unfold dH;omega)⟩⟩⟩;rintro x rfl;exact⟨L.o _ (by unfold dH;omega),fun h=>D.o _ h (by unfold dH;omega)⟩
  ·have b5:((y:Int) == (q:Int))=false:=ag.2 (by omega);have d7:=aA (show pv bS f' p≠q by rw[<-hy];exact b0);clear b0 hy;gi_wp2_with fail
   exact⟨I.o.hL,.inr ⟨rfl,a1.o (.inl d7.o)⟩⟩
def gY(x:Nat):Value:=.int .u64 x
structure Lst(w:World)(v:Value)(xs:List Nat):Prop where
 lt:∀ x∈xs,x<18446744073709551616
 own:w.ownsRow 0 22 1 v xs.length (xs.map gY)
def Wds(w:World)(v:Value)(xs:List Nat):Prop:=
 (∀ x∈xs,x<18446744073709551616)/\∃ ao cap,v=.slice (adr ao) xs.length cap/\(xs≠[]->∃ g,ao=some g)/\∀ g,ao=some g->g<w.heap.size/\xs.length<=cap/\∀ i,i<xs.length->w.cell? ⟨g,i,none⟩=some (gY (xs.getD i 0))
theorem Lst.wds{w v xs}(h:Lst w v xs):Wds w v xs:=by
 refine⟨h.lt,?_⟩;rcases h.own.2 with ⟨rfl,h0⟩|⟨g,cap,c,rfl,hb,hg,d,f,j,b⟩
 ·have:xs=[]:=bq h0;subst this;exact⟨none,0,rfl,fun h=>absurd rfl h,fun g hg=>by cases hg⟩
 ·refine⟨some g,cap,rfl,fun _=>⟨g,rfl⟩,fun k e=>?_⟩
  cases e
  refine⟨(Array.getElem?_eq_some_iff.1 hg).1,d,fun i hi=>?_⟩;have a:(c.toList.take (xs.length*1))[i]?=(xs.map gY)[i]?:=by rw[b]
  rw[List.getElem?_take,ae (by omega)] at a;rw[List.getElem?_map] at a;simp only[World.cell?,hg];rw[<-Array.getElem?_toList,a,bo hi];simp[hi,List.getD]
theorem Wds.lt{w v xs r}(h:Wds w v xs)(a:v.ownBlock=some r):r<w.heap.size:=by
 obtain⟨c,ao,cap,rfl,d,b⟩:=h
 cases ao with
 | none=>simp[adr,Value.ownBlock] at a
 | some g=>simp[adr,Value.ownBlock] at a;subst a;exact(b g rfl).1
theorem Lst.kept{w w' v xs}{S:Nat->Prop}(h:Lst w v xs)(k:Kt S w w')(hS:∀ r,v.ownBlock=some r->¬S r):Lst w' v xs:=by
 refine⟨h.lt,h.own.1,?_⟩;rcases h.own.2 with h0|⟨g,cap,a,rfl,hb,hg,b⟩
 ·exact .inl h0
 ·exact .inr ⟨g,cap,a,rfl,hb,(k.block g (Array.getElem?_eq_some_iff.1 hg).1 (hS g rfl)).trans hg,b⟩
theorem Lst.keep{w w' v xs}(h:Lst w v xs)(k:Kt nO w w'):Lst w' v xs:=h.kept k (fun _ _ x=>x)
theorem Lst.nil(w:World):Lst w (.slice none 0 0) []:=⟨fun _ h=>(by cases h),World.ownsRow_nil _ _ _ _⟩
theorem Lst.blk{w v xs r}(h:Lst w v xs)(a:v.ownBlock=some r):∃ cs,w.heap[r]?=some (.cells cs 22 (0,0)):=by
 rcases h.own.2 with ⟨rfl,_⟩|⟨g,cap,b,rfl,hb,hg,c⟩
 ·simp[Value.ownBlock] at a
 ·simp[Value.ownBlock] at a;subst a;exact⟨_,hg⟩
theorem tK:(prog.info? 22).map (fun i=>(i.zero,i.size,i.bytes))=some (some (.int .u64 0),1,8):=by kernel_rfl
theorem lL{w a:World}{row:Option Nat}(h:w.grownBy a row):Kt (fun b=>row=some b) w a:=⟨h.os,h.tape,h.output,h.size,fun k c d=>h.block k c (fun e=>d e.symm)⟩
theorem zkl(w:World)(v:Value)(k:List Nat)(x:Nat)(h:Lst w v k)(hx:x<18446744073709551616)(K:k.length+1<=4194305)(a:Addr)(c:Nat)(ha:w.cell? (a.add 0)=some (gY x)):
  ∃ n m,(∀ G,(Builtin.append_ #[39,39] G #[v,.slice (some a) 1 c]).run prog w=.ok n m)/\Lst m n (k ++ [x])/\Kt (fun b=>v.ownBlock=some b) w m/\
   (n.ownBlock=v.ownBlock\/∃ r,n.ownBlock=some r/\w.heap.size<=r)/\∃ g cap,n=.slice (some ⟨g,0,none⟩) (k.length+1) cap:=by
 obtain⟨i,hi,D,z,F⟩:=info_parts tK;have q:k.length+1<=maxLen:=by simp only[maxLen];omega
 have B:∀ y∈k ++ [x],y<18446744073709551616:=by
  intro y hy;rcases List.mem_append.1 hy with hy|hy
  ·exact h.lt y hy
  ·simp at hy;subst hy;exact hx
 have l:∀ j u,[gY x][j]?=some u->w.cell? (a.add j)=some u:=by
  intro j u o;match j,o with
  | 0,o=>simp at o;subst o;exact ha
  | j+1,o=>simp at o
 have s:(k ++ [x]).map gY=k.map gY ++ [gY x]:=by simp
 have C:(k ++ [x]).length=k.length + 1:=by simp
 by_cases L:∃ g cap,v=.slice (some ⟨g,0,none⟩) k.length cap/\k.length+1<=cap
 ·obtain⟨g,cap,rfl,t⟩:=L;obtain⟨m,f,d,p⟩:=run_append_fits (P:=prog) w 0 39 0 22 i 1 Tryz.underlying39 hi z g k.length cap (k.map gY) h.own a 1 c [gY x] rfl l (by simp[Value.oneCell',gY]) t;refine⟨.slice (some ⟨g,0,none⟩) (k.length+1) cap,m,fun G=>?_,⟨B,?_⟩,lL p,.inl rfl,g,cap,rfl⟩
  ·rw[<-f];simp[Builtin.append_]
  ·rw[s,C];exact d
 ·have I:∃ n m,(Builtin.append_ #[39,39] 0 #[v,.slice (some a) 1 c]).run prog w=.ok n m/\m.ownsRow w.heap.size 22 1 n (k.length + 1) (k.map gY ++ [gY x])/\Kt (fun b=>v.ownBlock=some b) w m:=by
   have N:=h.own;rcases N.2 with ⟨rfl,h0⟩|⟨g,cap,E,rfl,hb,hg,Q,U,S,A⟩
   ·have:k=[]:=bq h0;subst this;obtain⟨n,m,f,d,p,_⟩:=run_append_own (P:=prog) w w.heap.size 39 0 22 i (.int .u64 0) 1 8 Tryz.underlying39 hi D z F rfl (by decide) (.slice none 0 0) 0 [] (World.ownsRow_nil _ _ _ _) a 1 c [gY x] rfl l (by simp[Value.oneCell',gY]) q (by simp) (aj _);exact⟨n,m,f,d,lL p⟩
   ·obtain⟨n,m,f,d,p⟩:=run_append_arg_grows (P:=prog) w 39 0 22 i (.int .u64 0) 1 8 Tryz.underlying39 hi D z F rfl (by decide) ⟨g,0,none⟩ k.length cap (k.map gY) (by simp) (fun j u o=>by
     rw[Addr.add_lit,Nat.zero_add];rw[<-A,List.getElem?_take] at o;split at o
     ·simp only[World.cell?,hg];rw[<-Array.getElem?_toList,o];rfl
     ·cases o) a 1 c [gY x] rfl l (Nat.lt_of_not_le fun J=>L ⟨g,cap,rfl,J⟩) q (by omega)
    exact⟨n,m,f,d,(lL p).mono (fun _ _ e=>by cases e)⟩
  obtain⟨n,m,f,d,T⟩:=I;rcases d.2 with ⟨_,h0⟩|⟨g,cap,E,rfl,hb,hg,R⟩
  ·omega
  ·refine⟨_,m,fun G=>?_,⟨B,?_⟩,T,.inr ⟨g,rfl,hb⟩,g,cap,rfl⟩
   ·rw[<-f];simp[Builtin.append_]
   ·rw[s,C];exact⟨d.1,.inr ⟨g,cap,E,rfl,az _,hg,R⟩⟩
theorem zch{F:Fence}{n:Nat}{P:Program}(w:World){e:Array Oper}{rest:List Oper}{o:Oper}{a:Act}{Q:Exit->Act->World->Prop}(hg:o.guard=none)(s x:Operand)(t:TypeId)
  (b:o.op=Op.call { callee:=Callee.builtin Builtin.append,args:=#[s,x],argTypes:=#[t,t] }) (v u:Value) (hs:a.eval s=v) (hx:a.eval x=u) (j:Value) (i:World)
  (l:∀ k,(Builtin.append_ #[t,t] k #[v,u]).run P w=.ok j i) (h:wpListIn F n P e Q rest (a.put o.dst j) i):wpListIn F n P e Q (o :: rest) a w:=by
 refine wpListIn_plain hg fun K f=>?_
 have d:=l o.type;unfold Oper.wpIn;refine⟨?_,?_⟩
 ·simp[Oper.about,b,resolve,Target.leads,Sem.run_pure]
 ·rw[Oper.semAt_plain F _ _ (by rw[b];intro c g;cases g)];simp[execOp,b,resolve,invoke,builtin,hs,hx,d,Result.andThen];exact f _ _ h
attribute [local go_sem] Oper.semAt_some
def walkR(bS n:Nat)(f:Nat->Nat):Nat->Nat->Nat->List Nat
 | 0,_,_=>[]
 | k+1,q,p=>if p≠0/\In bS n p 16/\pv bS f p=q then p :: walkR bS n f k p (nx bS f p) else []
def fA(w:World)(k:Nat)(v:Value):Prop:=w.heap[k]?=some (.cells #[v] 39 (0,0))
theorem fA.lt{w k v}(h:fA w k v):k<w.heap.size:=(Array.getElem?_eq_some_iff.1 h).1
theorem fA.kept{w w' k v}{S:Nat->Prop}(h:fA w k v)(a:Kt S w w')(hS:¬S k):fA w' k v:=(a.block k h.lt hS).trans h
theorem fA.set{w k v}(h:fA w k v)(u:Value):fA (w.setCell ⟨k,0,none⟩ u) k u:=cF h 0 u
structure Taking(c b:Nat)(ao:Option Nat)(bS R lim n:Nat)(f0:Nat->Nat)(hd0 kk ob D L:Nat)(w0:World)(rc:LoopState->Option Code->Loop)(N i q p:Nat)(f:Nat->Nat)(S:Nat->Prop)(W:World):Prop where
 hf:f=f0
 ls:LS W c b ao bS R lim n f hd0
 pk:PtrB W kk c
 k0:Kt nO w0 W
 hp:p<18446744073709551616
 hq:q<18446744073709551616
 ex:∃ (xs:List Nat) (v:Value),xs.length=i/\i<=N/\xs ++ walkR bS n f0 (N-i) q p=walkR bS n f0 N 0 hd0/\fA W ob v/\Lst W v xs/\fM W L (rc .ready none)/\jN W D/\
  (∀ r,v.ownBlock=some r->w0.heap.size<=r)/\S=fun x=>x<w0.heap.size\/x=kk\/x=ob\/x=D\/x=L\/v.ownBlock=some x
theorem TI(d:Nat)(f:Fn)(a b:Array Value)(w:World):(Op.equalIn (d+1) 255 (.func f a b) .nilFunc).run prog w=.ok false w:=by simp[Op.equalIn,run_underlying Tryz.underlying255]
theorem yY(f:Fn)(a b:Array Value)(w:World):(binOp .eql 255 (.func f a b) .nilFunc).run prog w=.ok (.bool false) w:=by simp only[binOp];simp[Op.equal,Op.maxDepth,TI 9999]
end Go.Proofs.YtfmgnljlkdmndaaGreatDoor.M
