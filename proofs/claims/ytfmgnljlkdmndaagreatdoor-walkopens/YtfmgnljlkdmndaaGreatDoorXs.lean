import Derived.Test.YtfmgnljlkdmndaaGreatDoorXn
import Derived.RangeFuncNested
import Derived.RangeFuncBound
import Derived.RangeFuncCalls
import Derived.RangeFuncLeaves
import Derived.Shelf.Abstract
import Derived.Shelf.RegionOpen
import Derived.WalkMore
import Derived.OwnWalkIn
import Derived.TacticsInMore
import Derived.LoopNIn
import Derived.LoopIn
import Derived.Maps.AppendAt
import Derived.ArgAppend
import Derived.Laws.OwnMore
set_option maxRecDepth 1000000
set_option maxHeartbeats 0
namespace Go.Proofs.YtfmgnljlkdmndaaGreatDoor
namespace M
open Tryz RowKit
set_option linter.unusedVariables false
def jO(bS:Nat)(f:Nat->Nat)(p:Nat):Nat->Nat:=
 let q:=pv bS f p;let m:=nx bS f p
 let f1:=if q=0 then f else eG bS f q m
 if m=0 then f1 else eG bS f1 (m+8) q
def removeR(bS n:Nat)(f:Nat->Nat)(hd p:Nat):(Nat->Nat)×Nat×Nat:=
 if In bS n p 16 then (if iH bS n f hd (pv bS f p) p && gK bS n f (nx bS f p) p then (jO bS f p,(if pv bS f p=0 then nx bS f p else hd),0) else (f,hd,8)) else (f,hd,4)
theorem zjg{bS n f hd q p}(h:iH bS n f hd q p=true)(h0:q≠0):In bS n q 16:=by
 unfold iH at h;split at h;·exact absurd (bw h).1 h0
 ·exact(bw h).1
theorem zlj{bS n f q p}(h:gK bS n f q p=true)(h0:q≠0):In bS n q 16:=by
 unfold gK at h;rcases bw h with e|⟨e,_⟩
 ·exact absurd e h0
 ·exact e
theorem Remove_any(c b ao bS R dl n f hd)(p:Nat)(hp:p<18446744073709551616)(w:Wd)(h:LS w c b ao bS R dl n f hd):Calls prog 209 #[.pointer (some ⟨c,0,none⟩),.int .u64 p] w fun e Q=>e=.returned (.int .i64 ((removeR bS n f hd p).2.2:Int))/\LS Q c b ao bS R dl n (removeR bS n f hd p).1 (removeR bS n f hd p).2.1/\Kt (eE c b ao) w Q:=by
 have eN:=h.l.eN;have H:=aA h;have A:=aA (fun Q (k:Kt nO w Q)=>jB c b ao bS R dl n f hd p hp Q (h.dk k).s (h.dk k).l);by_cases r:In bS n p 16
 ·have eu:lQ bS n f p=nx bS f p:=by unfold lQ;rw[ae r]
  have ev:lP bS n f p=pv bS f p:=by unfold lP;rw[ae r]
  have a5:=h.s.kj p r;have a3:=h.s.lx p r;rw[eu,ev,af r] at A;have L:=aA (fun Q (k:Kt nO w Q)=>zgz c b ao bS R dl n f hd (pv bS f p) p a3 hp Q (h.dk k).s (h.dk k).l);have C:=aA (fun Q (k:Kt nO w Q)=>MB c b ao bS R dl n f hd (nx bS f p) p a5 hp Q (h.dk k).s (h.dk k).l);have hR:removeR bS n f hd p=if iH bS n f hd (pv bS f p) p && gK bS n f (nx bS f p) p then (jO bS f p,(if pv bS f p=0 then nx bS f p else hd),0) else (f,hd,8):=by unfold removeR;rw[ae r]
  have hF:jO bS f p=(let f1:=if pv bS f p=0 then f else eG bS f (pv bS f p) (nx bS f p);if nx bS f p=0 then f1 else eG bS f1 (nx bS f p+8) (pv bS f p)):=rfl;have hI:iH bS n f hd (pv bS f p) p=true->pv bS f p≠0->In bS n (pv bS f p) 16:=zjg;have hJ:gK bS n f (nx bS f p) p=true->nx bS f p≠0->In bS n (nx bS f p) 16:=zlj;obtain⟨g,rfl⟩:=h.s.has (by decide) r;rw[hR,hF];clear hR hF eu ev r h;generalize nx bS f p=u at *;generalize pv bS f p=v at *;generalize a7:iH bS n f hd v p=lb at *;generalize a6:gK bS n f u p=cb at *;clear a7 a6
  cases lb with
  | false=>simp only[eb,Bool.false_eq_true,if_false];clear C hI hJ;go_enter func209,ntmps209;go_wp2_with fail;refine(A.o _ (Kt.refl _ w)).mono ?_;rintro e z ⟨rfl,B⟩;have m:=aA (B.alloc (.cells #[.int .u64 u,.int .u64 v] 246));have o:=cW.box (w:=z) u v;have j:=o.c0;have i:=o.c1;clear B o;go_wp2_with fail;refine(L.o _ m.o).mono ?_;rintro e w2 ⟨rfl,t⟩;have G:=aA (nT m.o t);clear t;go_wp2_with fail;go_ret;exact⟨rfl,H.o.dk G.o,G.o.eE⟩
  | true=>
   cases cb with
   | false=>simp only[Bool.and_false,Bool.false_eq_true,if_false];clear hI hJ;go_enter func209,ntmps209;go_wp2_with fail;refine(A.o _ (Kt.refl _ w)).mono ?_;rintro e z ⟨rfl,B⟩;have m:=aA (B.alloc (.cells #[.int .u64 u,.int .u64 v] 246));have o:=cW.box (w:=z) u v;have j:=o.c0;have i:=o.c1;have N:=aA o;clear B o;go_wp2_with fail;refine(L.o _ m.o).mono ?_;rintro e w2 ⟨rfl,t⟩;have G:=aA (nT m.o t);have U:=N.o.dk t;have j:=U.c0;have i:=U.c1;clear t U;go_wp2_with fail;refine(C.o _ G.o).mono ?_;rintro e w3 ⟨rfl,E⟩;have F:=aA (nT G.o E);clear E;go_wp2_with fail;go_ret;exact⟨rfl,H.o.dk F.o,F.o.eE⟩
   | true=>
    simp only[Bool.and_true,if_true];have K:=hI rfl;have J:=hJ rfl;clear hI hJ;by_cases I:v=0
    ·by_cases D:u=0
     ·subst I;subst D;simp only[if_true];clear K J;go_enter func209,ntmps209;go_wp2_with fail;refine(A.o _ (Kt.refl _ w)).mono ?_;rintro e z ⟨rfl,B⟩;have m:=aA (B.alloc (.cells #[.int .u64 ((0:Nat):Int),.int .u64 ((0:Nat):Int)] 246));have o:=cW.box (w:=z) 0 0;have j:=o.c0;have i:=o.c1;have N:=aA o;clear B o;have T:=aA (show ¬z.heap.size=c by intro e;have:=(H.o.dk m.o).l.hc;rw[<-e,nH] at this;simp at this);have S:=aA (show ¬own b (some g) z.heap.size by
       intro e;obtain⟨cap,hb,X⟩:=(H.o.dk m.o).s.ex;rcases e with e|e
       ·rw[<-e,nH] at hb;simp at hb
       ·cases e
        obtain⟨_,rs,_,hg,_⟩:=X;rw[nH] at hg;simp at hg)
      go_wp2_with fail;refine(L.o _ m.o).mono ?_;rintro e w2 ⟨rfl,t⟩;have G:=aA (nT m.o t);have a:=aA (N.o.dk t);have j:=a.o.c0;have i:=a.o.c1;clear t N;go_wp2_with fail;refine(C.o _ G.o).mono ?_;rintro e w3 ⟨rfl,E⟩;have F:=aA (nT G.o E);have y:=aA (H.o.dk F.o);have d:=aA (a.o.dk E);have j:=d.o.c0;have i:=d.o.c1;have hz:=y.o.l.fz 1;have a0:=y.o.l.c1;clear E a;have q:=aA (d.o.kept ((Kt.refl (fun x=>x=c) w3).setCell (p:=⟨c,1,none⟩) (fun _=>rfl) (.int .u64 ((0:Nat):Int))) T.o);have P:=aA (y.o.head 0 (by first|decide|assumption));have V:=aA (LS.gh (F.o.eE (c:=c) (b:=b) (ao:=some g)) (.int .u64 ((0:Nat):Int)));have Y:=q.o.c0;have Z:=q.o.c1;go_wp2_with fail;go_ret;exact⟨rfl,P.o,V.o⟩
     ·subst I;have a1:((u:Int) == 0)=false:=ag.2 (by omega);have IU:=aA (show In bS n (u+8) 8 by have:=J D;unfold In at this ⊢;omega);simp only[ac D];simp only[if_true];clear K J D;go_enter func209,ntmps209;go_wp2_with fail;refine(A.o _ (Kt.refl _ w)).mono ?_;rintro e z ⟨rfl,B⟩;have m:=aA (B.alloc (.cells #[.int .u64 u,.int .u64 ((0:Nat):Int)] 246));have o:=cW.box (w:=z) u 0;have j:=o.c0;have i:=o.c1;have N:=aA o;clear B o;have T:=aA (show ¬z.heap.size=c by intro e;have:=(H.o.dk m.o).l.hc;rw[<-e,nH] at this;simp at this);have S:=aA (show ¬own b (some g) z.heap.size by
       intro e;obtain⟨cap,hb,X⟩:=(H.o.dk m.o).s.ex;rcases e with e|e
       ·rw[<-e,nH] at hb;simp at hb
       ·cases e
        obtain⟨_,rs,_,hg,_⟩:=X;rw[nH] at hg;simp at hg)
      go_wp2_with fail;refine(L.o _ m.o).mono ?_;rintro e w2 ⟨rfl,t⟩;have G:=aA (nT m.o t);have a:=aA (N.o.dk t);have j:=a.o.c0;have i:=a.o.c1;clear t N;go_wp2_with fail;refine(C.o _ G.o).mono ?_;rintro e w3 ⟨rfl,E⟩;have F:=aA (nT G.o E);have y:=aA (H.o.dk F.o);have d:=aA (a.o.dk E);have j:=d.o.c0;have i:=d.o.c1;have hz:=y.o.l.fz 1;have a0:=y.o.l.c1;clear E a;have q:=aA (d.o.kept ((Kt.refl (fun x=>x=c) w3).setCell (p:=⟨c,1,none⟩) (fun _=>rfl) (.int .u64 u)) T.o);have P:=aA (y.o.head u (by first|decide|assumption));have V:=aA (LS.gh (F.o.eE (c:=c) (b:=b) (ao:=some g)) (.int .u64 u));have Y:=q.o.c0;have Z:=q.o.c1;clear d y F;go_wp2_with fail;refine(qP c b g bS R dl n _ _ u 0 (by first|decide|assumption) _ P.o.s P.o.l IU.o).mono ?_;rintro e w5 ⟨rfl,hS,hK⟩;have H5:=aA (P.o.stored hS hK);have K5:=aA (mC V.o (hK.gi (c:=c)));clear hS hK;go_wp2_with fail;go_ret;exact⟨rfl,H5.o,K5.o⟩
    ·by_cases D:u=0
     ·have a2:((v:Int) == 0)=false:=ag.2 (by omega);have IV:=aA (show In bS n v 8 by have:=K I;unfold In at this ⊢;omega);simp only[ac I];subst D;simp only[if_true];clear K J I;go_enter func209,ntmps209;go_wp2_with fail;refine(A.o _ (Kt.refl _ w)).mono ?_;rintro e z ⟨rfl,B⟩;have m:=aA (B.alloc (.cells #[.int .u64 ((0:Nat):Int),.int .u64 v] 246));have o:=cW.box (w:=z) 0 v;have j:=o.c0;have i:=o.c1;have N:=aA o;clear B o;have T:=aA (show ¬z.heap.size=c by intro e;have:=(H.o.dk m.o).l.hc;rw[<-e,nH] at this;simp at this);have S:=aA (show ¬own b (some g) z.heap.size by
       intro e;obtain⟨cap,hb,X⟩:=(H.o.dk m.o).s.ex;rcases e with e|e
       ·rw[<-e,nH] at hb;simp at hb
       ·cases e
        obtain⟨_,rs,_,hg,_⟩:=X;rw[nH] at hg;simp at hg)
      go_wp2_with fail;refine(L.o _ m.o).mono ?_;rintro e w2 ⟨rfl,t⟩;have G:=aA (nT m.o t);have a:=aA (N.o.dk t);have j:=a.o.c0;have i:=a.o.c1;clear t N;go_wp2_with fail;refine(C.o _ G.o).mono ?_;rintro e w3 ⟨rfl,E⟩;have F:=aA (nT G.o E);have y:=aA (H.o.dk F.o);have d:=aA (a.o.dk E);have j:=d.o.c0;have i:=d.o.c1;have hz:=y.o.l.fz 1;have a0:=y.o.l.c1;clear E a;go_wp2_with fail;refine(uB c b g bS R dl n f hd v 0 (by first|decide|assumption) _ y.o.s y.o.l IV.o).mono ?_;rintro e w4 ⟨rfl,hS,hK⟩;have P:=aA (y.o.stored hS hK);have V:=aA (mC F.o.eE (hK.gi (c:=c)));have q:=aA (d.o.kept hK S.o);have Y:=q.o.c0;have Z:=q.o.c1;clear hS hK d y F;go_wp2_with fail;go_ret;exact⟨rfl,P.o,V.o⟩
     ·have a2:((v:Int) == 0)=false:=ag.2 (by omega);have IV:=aA (show In bS n v 8 by have:=K I;unfold In at this ⊢;omega);simp only[ac I];have a1:((u:Int) == 0)=false:=ag.2 (by omega);have IU:=aA (show In bS n (u+8) 8 by have:=J D;unfold In at this ⊢;omega);simp only[ac D];clear K J I D;go_enter func209,ntmps209;go_wp2_with fail;refine(A.o _ (Kt.refl _ w)).mono ?_;rintro e z ⟨rfl,B⟩;have m:=aA (B.alloc (.cells #[.int .u64 u,.int .u64 v] 246));have o:=cW.box (w:=z) u v;have j:=o.c0;have i:=o.c1;have N:=aA o;clear B o;have T:=aA (show ¬z.heap.size=c by intro e;have:=(H.o.dk m.o).l.hc;rw[<-e,nH] at this;simp at this);have S:=aA (show ¬own b (some g) z.heap.size by
       intro e;obtain⟨cap,hb,X⟩:=(H.o.dk m.o).s.ex;rcases e with e|e
       ·rw[<-e,nH] at hb;simp at hb
       ·cases e
        obtain⟨_,rs,_,hg,_⟩:=X;rw[nH] at hg;simp at hg)
      go_wp2_with fail;refine(L.o _ m.o).mono ?_;rintro e w2 ⟨rfl,t⟩;have G:=aA (nT m.o t);have a:=aA (N.o.dk t);have j:=a.o.c0;have i:=a.o.c1;clear t N;go_wp2_with fail;refine(C.o _ G.o).mono ?_;rintro e w3 ⟨rfl,E⟩;have F:=aA (nT G.o E);have y:=aA (H.o.dk F.o);have d:=aA (a.o.dk E);have j:=d.o.c0;have i:=d.o.c1;have hz:=y.o.l.fz 1;have a0:=y.o.l.c1;clear E a;go_wp2_with fail;refine(uB c b g bS R dl n f hd v u (by first|decide|assumption) _ y.o.s y.o.l IV.o).mono ?_;rintro e w4 ⟨rfl,hS,hK⟩;have P:=aA (y.o.stored hS hK);have V:=aA (mC F.o.eE (hK.gi (c:=c)));have q:=aA (d.o.kept hK S.o);have Y:=q.o.c0;have Z:=q.o.c1;clear hS hK d y F;go_wp2_with fail;refine(qP c b g bS R dl n _ _ u v (by first|decide|assumption) _ P.o.s P.o.l IU.o).mono ?_;rintro e w5 ⟨rfl,hS,hK⟩;have H5:=aA (P.o.stored hS hK);have K5:=aA (mC V.o (hK.gi (c:=c)));clear hS hK;go_wp2_with fail;go_ret;exact⟨rfl,H5.o,K5.o⟩
 ·have a4:removeR bS n f hd p=(f,hd,4):=by unfold removeR;rw[ac r]
  rw[a4];rw[ah r] at A;generalize lQ bS n f p=u at *;generalize lP bS n f p=v at *;clear h r a4;go_enter func209,ntmps209;go_wp2_with fail;refine(A.o _ (Kt.refl _ w)).mono ?_;rintro e z ⟨rfl,B⟩;have m:=aA (B.alloc (.cells #[.int .u64 u,.int .u64 v] 246));clear B;go_wp2_with fail;go_ret;exact⟨rfl,H.o.dk m.o,m.o.eE⟩
def popR(bS n:Nat)(f:Nat->Nat)(hd:Nat):(Nat->Nat)×Nat×Nat×Nat:=
 if hd=0 then (f,hd,0,9) else if (removeR bS n f hd hd).2.2=0 then ((removeR bS n f hd hd).1,(removeR bS n f hd hd).2.1,hd,0) else (f,hd,0,(removeR bS n f hd hd).2.2)
theorem ML{bS n f hd p}(h:(removeR bS n f hd p).2.2≠0):(removeR bS n f hd p).1=f/\(removeR bS n f hd p).2.1=hd:=by
 revert h
 unfold removeR;split
 ·split
  ·intro h;exact absurd rfl h
  ·intro _;exact⟨rfl,rfl⟩
 ·intro _;exact⟨rfl,rfl⟩
theorem zh3(bS n f hd p):(removeR bS n f hd p).2.2<=8:=by
 unfold removeR;split
 ·split
  ·exact az _
  ·exact aj _
 ·exact(by omega : 4<=8)
theorem Pop_any(c b ao bS R dl n f hd)(w:Wd)(h:LS w c b ao bS R dl n f hd):Calls prog 219 #[.pointer (some ⟨c,0,none⟩)] w fun e k=>e=.returned (.tuple #[.int .u64 ((popR bS n f hd).2.2.1:Int),.int .i64 ((popR bS n f hd).2.2.2:Int)])/\LS k c b ao bS R dl n (popR bS n f hd).1 (popR bS n f hd).2.1/\Kt (eE c b ao) w k:=by
 have eN:=h.l.eN;have m:=h.l.c1;by_cases h0:hd=0
 ·subst h0;have a:popR bS n f 0=(f,0,0,9):=by simp[popR]
  rw[a];have H:=aA h;clear h a;go_enter func219,ntmps219;go_wp2
  exact⟨rfl,_,by simp[results,results219,go_sem],rfl,H.o,Kt.refl _ _⟩
 ·have o:((hd:Int) == 0)=false:=ag.2 (by omega);have A:=aA (Remove_any c b ao bS R dl n f hd hd eN w h);by_cases he:(removeR bS n f hd hd).2.2=0
  ·have a:popR bS n f hd=((removeR bS n f hd hd).1,(removeR bS n f hd hd).2.1,hd,0):=(by unfold popR;rw[ac h0,ae he]);rw[a];rw[he] at A;generalize (removeR bS n f hd hd).1=f' at *;generalize (removeR bS n f hd hd).2.1=s at *;clear h a he h0;go_enter func219,ntmps219;go_wp2_with fail;refine A.o.mono ?_;rintro e p ⟨rfl,d,g⟩;have i:=aA d;have j:=aA g;clear d g;go_wp2_with fail;exact⟨rfl,_,by simp[results,results219,go_sem],rfl,i.o,j.o⟩
  ·have a:popR bS n f hd=(f,hd,0,(removeR bS n f hd hd).2.2):=(by unfold popR;rw[ac h0,ac he]);rw[a];rw[(ML he).1,(ML he).2] at A;have q:=zh3 bS n f hd hd;generalize (removeR bS n f hd hd).2.2=x at *;have r:((x:Int) == 0)=false:=ag.2 (by omega);clear h a he h0;go_enter func219,ntmps219;go_wp2_with fail;refine A.o.mono ?_;rintro e p ⟨rfl,d,g⟩;have i:=aA d;have j:=aA g;clear d g;go_wp2_with fail;exact⟨rfl,_,by simp[results,results219,go_sem],rfl,i.o,j.o⟩
theorem Byte_any(b ao bS R dl n f)(p:Nat)(hp:p<18446744073709551616)(w:Wd)(h:SpA w b ao bS R dl n f):Calls prog 231 #[.pointer (some ⟨b,0,none⟩),.int .u64 p] w fun e c=>e=.returned (.tuple #[.int .u8 ((if In bS n p 1 then f (p-bS) else 0:Nat):Int),.int .i64 (if In bS n p 1 then 0 else 4)])/\Kt nO w c:=by
 by_cases a:In bS n p 1;·obtain⟨g,rfl⟩:=h.has (by decide) a;refine(YF b g bS R dl n f p w h a).mono ?_;rintro e c ⟨rfl,k⟩;rw[ae a,ae a];exact⟨rfl,k⟩
 ·refine(ZW b ao bS R dl n f p 1 0 none 0 w h hp (by decide) (by decide) a).mono ?_;rintro e c ⟨rfl,k⟩;rw[ac a,ac a];exact⟨rfl,k⟩
theorem zeH(b ao bS R dl n f)(o:Nat)(ho:o<=8)(hR:R=4096*2 ^ o)(w:Wd)(h:SpA w b ao bS R dl n f):Calls prog 260 #[.pointer (some ⟨b,0,none⟩)] w fun e d=>e=.returned (.int .u64 n)/\Kt nO w d:=by
 have HH:=aA h;obtain⟨k,s,r⟩:=h.kn;have D:k<=64:=an r h.cfg.l2;have hend:=h.gz;have r1:=h.cfg.r1;have a5:=h.cfg.b1;have hq:n/R=k:=by rw[s];exact dh _ (by omega)
 have C:=aA (fun d (z:Kt nO w d)=>regions_any b ao bS R dl n f d (h.dk z));rw[hq] at C;have u:=aA (fun d (z:Kt nO w d)=>end_any b ao bS R dl n f d (h.dk z));obtain⟨E,I⟩:=xe (bS+n);rw[<-I] at u hend;have X:=aA (fun p (hp:p<18446744073709551616) d (z:Kt nO w d)=>Byte_any b ao bS R dl n f p hp d (h.dk z));have HN:=aA (show n=k*(4096*2 ^ o)by rw[s,hR]);have HE:=aA (show E=bS+n from I);clear h s r hq I hR;go_enter func260,ntmps260;go_wp2_with fail;refine(C.o _ (Kt.refl _ w)).mono ?_;rintro e w1 ⟨rfl,L,rfl⟩;go_wp2_with fail;refine(u.o _ ((Kt.refl _ w).drewN L)).mono ?_;rintro e w2 ⟨rfl,m2,rfl⟩;have K2:=aA (((kz w).drewN L).drewN m2);generalize (w.drewN L).drewN m2=w2 at *;go_wp2_with fail;go_loopw [5] (fun i wr=>∃ j:Int,-1<=j/\j<=8/\i=.int .i64 j/\(k≠0->(o:Int)<=j)/\Kt nO w wr) (fun i _=>(intOf i+1).toNat)
 case atStart=>exact⟨8,by omega,by omega,rfl,fun _=>by omega,K2.o⟩
 case round=>
  obtain⟨j,a3,a4,rfl,m,kr⟩:=hrel;have T:=aA kr;clear kr K2;by_cases a0:j<0
  ·have N:k=0:=by
    rcases dx k with e|e
    ·exact e
    ·have:=m (by omega);omega
   have g:=HN.o;rw[N,Nat.zero_mul] at g;have U:=aA g;clear g;have a6:¬ 0<=j:=(by omega);go_wp2_with fail;go_ret;exact⟨dX (by rw[U.o];rfl),T.o⟩
  ·obtain⟨t,rfl⟩:∃ t:Nat,j=(t:Int):=⟨j.toNat,by omega⟩;have ht:t<=8:=(by omega);obtain⟨P,y⟩:=xe (2 ^ t);have l:=pow8 t (by omega);rw[<-y] at l;obtain⟨S,hS⟩:=xe (k*4096*P);have a1:S<=67108864:=by
    rw[hS];exact an (Nat.mul_le_mul (ak 4096 D) l.2) (by decide)
   have a7:k*4096<=262144:=(by omega);have HW:=aA (show IntKind.u64.wrap ((k:Int)*4096*2 ^ t)=(S:Int)by
    have e:((2:Int) ^ t)=((2 ^ t:Nat):Int):=(by simp);have e2:(k:Int)*4096*((P:Nat):Int)=(S:Int):=(by rw[hS];simp);rw[e,<-y,e2,wrap_u64];omega)
   have hx:∃ q:Nat,q<18446744073709551616/\IntKind.u64.wrap ((E:Int)-(S:Int))=(q:Int)/\(In bS n q 1↔(k≠0/\t=o))/\(k≠0->t=o->S=n):=by
    have s:=HN.o;have I:=HE.o;have c:k≠0->t=o->S=n:=by rintro _ rfl;rw[hS,s,y,cy]
    by_cases hc:S<=E
    ·refine⟨E-S,by omega,by rw[wrap_u64];omega,?_,c⟩;constructor
     ·intro hi;unfold In at hi;rcases dx k with e|e
      ·rw[e,Nat.zero_mul] at s;omega
      ·refine⟨by omega,?_⟩;rcases du o t with Q|a2
       ·exfalso
        have F : 2 ^ o*2<=P:=(by rw[y,<-co];exact bj (by decide) Q);have h3:k*(4096*2 ^ o)*2<=S:=by rw[hS,cy k 4096 P,cy k];exact Nat.mul_le_mul_left k (by rw[cy];exact Nat.mul_le_mul_left _ F)
        have h4 : 1<=k*(4096*2 ^ o):=Nat.mul_pos e (Nat.mul_pos (by decide) (ap (by decide)));omega
       ·have:=m (by omega);omega
     ·rintro ⟨G,rfl⟩;have:=c G rfl;have h4 : 1<=k*(4096*2 ^ t):=Nat.mul_pos (by omega) (Nat.mul_pos (by decide) (ap (by decide)));unfold In;omega
    ·refine⟨18446744073709551616+E-S,by omega,by rw[wrap_u64];omega,?_,c⟩;constructor
     ·intro hi;unfold In at hi;omega
     ·rintro ⟨G,F⟩;have:=c G F;omega
   obtain⟨q,v,B,x,A⟩:=hx;have HQ:=aA B;have Z:=aA x;have V:=aA A;clear B x A hS y l;go_wp2_with fail;rw[HW.o,HQ.o];refine(X.o q v _ T.o).mono ?_;rintro e w3 ⟨rfl,Y⟩;have K3:=aA (nT T.o Y);clear Y;by_cases a:In bS n q 1;·have K:=Z.o.1 a;have c:=aA (V.o K.1 K.2);rw[ae a,ae a];clear K a;go_wp2_with fail;go_ret;exact⟨dX (by rw[c.o]),K3.o⟩
   ·rw[ac a,ac a];have J:=aA (fun r:k≠0=>show ¬t=o from fun e=>a (Z.o.2 ⟨r,e⟩));clear a;go_wp2_with fail;refine⟨⟨(t:Int)-1,by omega,by omega,rfl,fun r=>?_,K3.o⟩,by simp[intOf]⟩;have G:=m r;have F:=J.o r;omega
theorem All_any(c:Nat)(w:Wd):Calls prog 254 #[.pointer (some ⟨c,0,none⟩)] w fun e a=>e=.returned (.func (.func 259) #[] #[.pointer (some ⟨w.heap.size,0,none⟩)])/\a=w.alloc (.cells #[.pointer (some ⟨c,0,none⟩)] 135):=by
 have b:=mkf;go_enter func254,ntmps254;go_wp2
 go_ret;exact⟨rfl,rfl⟩
theorem zix(c:Nat)(w:Wd):Calls prog 261 #[.pointer (some ⟨c,0,none⟩)] w fun e a=>e=.returned (.func (.func 262) #[] #[.pointer (some ⟨w.heap.size,0,none⟩)])/\a=w.alloc (.cells #[.pointer (some ⟨c,0,none⟩)] 135):=by
 have b:=mkf;go_enter func261,ntmps261;go_wp2
 go_ret;exact⟨rfl,rfl⟩
open Tryz RowKit Shelf
set_option linter.unusedVariables false
abbrev fN(fn:FuncId)(tmps:Array Vl)(ps:Array Tmp)(assign body:Code)(D:Nat)(st:LoopState)(pe:Option Code):Loop:=
 { state:=st,pending:=pe,fn:=fn,tmps:=tmps,params:=ps,assign:=assign,body:=body,defers:=D }
def fK(w:Wd)(l:Nat)(r:Loop):Prop:=w.heap[l]?=some (.loop r)
def jM(w:Wd)(d:Nat):Prop:=w.heap[d]?=some (.deferred (some []))
theorem fK.lt{w l r}(h:fK w l r):l<w.heap.size:=(am.1 h).1
theorem jM.lt{w d}(h:jM w d):d<w.heap.size:=(am.1 h).1
theorem fK.kept{w w' l r}{S:Nat->Prop}(h:fK w l r)(k:Kt S w w')(hS:¬S l):fK w' l r:=(k.block l h.lt hS).trans h
theorem jM.kept{w w' d}{S:Nat->Prop}(h:jM w d)(k:Kt S w w')(hS:¬S d):jM w' d:=(k.block d h.lt hS).trans h
theorem Kt.putObj{S:Nat->Prop}{a b:Wd}(h:Kt S a b){l:Nat}(hl:l<a.heap.size->S l)(o:Obj):Kt S a (b.putObj l o):=
 ⟨h.os,h.tape,h.output,by rw[World.putObj_size];exact h.size,fun i hi c=>(World.putObj_heap_other (fun e=>c (by rw[e];exact hl (e▸hi)))).trans (h.block i hi c)⟩
theorem fK.put{w l r}(h:fK w l r)(a:Loop):fK (w.putObj l (.loop a)) l a:=World.putObj_heap_same h.lt
def SY(l:Nat)(rc:LoopState->Option Code->Loop)(R:Ending->Wd->Prop):Exit->Act->Wd->Prop
 | .normal,_,w=>fK w l (rc .busy none)/\R (.returned (.bool true)) (w.putObj l (.loop (rc .ready none)))
 | .ret,_,w=>fK w l (rc .busy none)/\R (.returned (.bool false)) (w.putObj l (.loop (rc .done (some .ret))))
 | .exit id,_,w=>fK w l (rc .busy none)/\R (.returned (.bool false)) (w.putObj l (.loop (rc .done (some (.exit id)))))
 | _,_,_=>False
theorem MT{P:Program}{m l:Nat}{fn:FuncId}{tmps:Array Vl}{b:Array Tmp}{assign body:Code}{D:Nat}{args:Array Vl}{W:Wd}{R:Ending->Wd->Prop}(hl:fK W l (fN fn tmps b assign body D .ready none)) (hs:args.size=b.size)(h:assign.wpIn (Fence.wide.inRound l) m P (Exit.then (fun a₁ w₁=>fK w₁ l (fN fn tmps b assign body D .ready none)/\
    body.wpIn (Fence.wide.inRound l) m P (SY l (fN fn tmps b assign body D) R) a₁ (w₁.putObj l (.loop (fN fn tmps b assign body D .busy none)))) (fun _ _ _=>False))
   { tmps:=(b.zip args).foldl (fun t (p,v)=>t.setIfInBounds p v) tmps,defers:=[] } W):
  YieldAt Fence.wide m P l args W R:=by
 have hy:=run_yield (P:=P) (args:=args) hl hs;refine⟨fn,_,assign,body,hy,roundIn_of_wpIn trivial (wpIn_mono h ?_)⟩;rintro e a₁ w₁ hq
 cases e with
 | normal=>
  obtain⟨c,hb⟩:=hq;refine⟨_,run_beginRound c rfl,wpIn_mono hb ?_⟩;rintro e a₂ w₂ hq
  cases e with
  | normal=>exact⟨_,_,run_endRound none hq.1,hq.2⟩
  | ret=>exact⟨_,_,run_endRound (some .ret) hq.1,hq.2⟩
  | exit id=>exact⟨_,_,run_endRound (some (.exit id)) hq.1,hq.2⟩
  | goto t=>exact hq.elim
  | panic ch=>exact hq.elim
  | outgrown=>exact hq.elim
 | ret=>exact hq
 | exit id=>exact hq
 | goto t=>exact hq
 | panic ch=>exact hq
 | outgrown=>exact hq
def FI(P:Program)(w:Wd)(l:Nat)(rc:LoopState->Option Code->Loop)(N:Wd->Prop)(X:Code->Wd->Prop):Ending->Wd->Prop:=fun e W2=>(∃ v,e=.returned v)/\∃ st pe,st≠.busy/\fK W2 l (rc st pe)/\(pe=none->N (W2.putObj l (.loop (rc .exhausted pe))))/\(∀ c,pe=some c->X c (W2.putObj l (.loop (rc .exhausted pe))))
theorem zib{F:Fence}{P:Program}{g:Operand}{b:Array Tmp}{assign body:Code}{Q:Exit->Act->Wd->Prop}{a:Act}{w:Wd}(k:F.round=none) (n:∀ f,F.fn f) (d:F.depth.isSome=false){gf:Nat} {lb:Array Vl} (hg:a.eval g=.func (.func gf) #[] lb) (p:∀ args w,(callFunc gf args).run P w=.ok (.enter gf args) w)(h:∀ fn,CallsIn F 0 P gf (#[.func (.yield (w.heap.size + 1)) #[] #[]] ++ lb) ((w.alloc (.deferred (some []))).alloc (.loop (fN fn a.tmps b assign body w.heap.size .ready none)))
   (FI P w (w.heap.size+1) (fN fn a.tmps b assign body w.heap.size) (Q .normal { a with defers:={ target:=.collected w.heap.size,args:=#[] } :: a.defers })
    (fun c=>c.wpIn F 0 P Q { a with defers:={ target:=.collected w.heap.size,args:=#[] } :: a.defers }))):
  (Code.rangeFunc g b assign body).wpIn F 0 P Q a w:=by
 refine wpIn_rangeFunc ?_;intro fn o;rw[k];refine⟨w.heap.size+1,[{ target:=.collected w.heap.size,args:=#[] }],(w.alloc (.deferred (some []))).alloc (.loop (fN fn a.tmps b assign body w.heap.size .ready none)),{ target:=.fn (.func gf) lb,args:=#[.func (.yield (w.heap.size+1)) #[] #[]] },(w.alloc (.deferred (some []))).alloc (.loop (fN fn a.tmps b assign body w.heap.size .ready none)),gf,
  #[.func (.yield (w.heap.size + 1)) #[] #[]] ++ lb,(w.alloc (.deferred (some []))).alloc (.loop (fN fn a.tmps b assign body w.heap.size .ready none)),?_,?_,fun f' _=>n f',?_,fun h=>(by rw[d] at h;cases h),?_⟩
 ·exact run_enterLoop_outer _ _ _ _ _
 ·simp only[resolve,hg];simp[go_sem]
 ·simp[invoke,go_sem,p]
 ·refine CallsIn.mono (h fn) ?_;rintro e r ⟨⟨v,rfl⟩,st,m,l,q,j,i⟩;refine⟨m,_,run_endLoop q l,?_⟩
  cases m with
  | none=>exact j rfl
  | some c=>exact i c rfl
theorem FH{P:Program}{g:Operand}{j:Array Tmp}{assign body:Code}{Q:Exit->Act->Wd->Prop}{a:Act}{w:Wd}{gf:Nat} {lb:Array Vl} (hg:a.eval g=.func (.func gf) #[] lb) (m:∀ args w,(callFunc gf args).run P w=.ok (.enter gf args) w)(h:∀ fn f,f=fN fn a.tmps j assign body w.heap.size->Calls P gf (#[.func (.yield (w.heap.size + 1)) #[] #[]] ++ lb) ((w.alloc (.deferred (some []))).alloc (.loop (f .ready none)))
   (FI P w (w.heap.size+1) f (Q .normal { a with defers:={ target:=.collected w.heap.size,args:=#[] } :: a.defers })
    (fun c=>c.wp P Q { a with defers:={ target:=.collected w.heap.size,args:=#[] } :: a.defers }))):
  (Code.rangeFunc g j assign body).wp P Q a w:=by
 refine(wpIn_wide (n:=0)).1 (zib rfl (fun _=>trivial) rfl hg m (fun fn=>callsIn_wide.2 ((h fn _ rfl).mono ?_)));rintro e p ⟨l,st,k,i,o,d,b⟩;exact⟨l,st,k,i,o,d,fun c hc=>wpIn_wide.2 (b c hc)⟩
theorem MR{P:Program}{f:FuncId}{fn:Func}{c:Code}{args:Array Vl}{w:Wd}{R:Ending->Wd->Prop}(hf:P.funcs[f]?=some fn) (hb:fn.body=some c)(h:c.wp P (bodyPostM Fence.wide 0 P fn R) { tmps:=args ++ Array.replicate (fn.ntmps-args.size) undef,defers:=[] } w):Calls P f args w R:=
 callsIn_wide.1 (callsIn_of_wp_marks hf hb trivial (wpIn_wide.2 h) rfl)
attribute [local go_sem] Oper.semAt_some
theorem xB{Q:Nat->Prop}(h:∃ m,Q m):∃ m,Q m/\∀ k,Q k->m<=k:=by
 obtain⟨m,b⟩:=h;induction m using Nat.strongRecOn with
 | _ m a=>
  by_cases hx:∃ k,k<m/\Q k;·obtain⟨k,c,hq⟩:=hx;exact a k c hq
  ·exact⟨m,b,fun k hq=>Nat.le_of_not_lt fun hl=>hx ⟨k,hl,hq⟩⟩
open Classical in
noncomputable def oT(Q:Nat->Prop):Nat:=if h:∃ m,Q m then Classical.choose (xB h) else 0
theorem zh1{Q:Nat->Prop}(h:∃ m,Q m):Q (oT Q):=by unfold oT;rw[dif_pos h];exact(Classical.choose_spec (xB h)).1
theorem zli{Q:Nat->Prop}{k:Nat}(h:Q k):oT Q<=k:=by unfold oT;rw[dif_pos ⟨k,h⟩];exact(Classical.choose_spec (xB ⟨k,h⟩)).2 k h
def PtrB(w:Wd)(k c:Nat):Prop:=w.heap[k]?=some (.cells #[.pointer (some ⟨c,0,none⟩)] 135 (0,0))
theorem PtrB.lt{w k c}(h:PtrB w k c):k<w.heap.size:=(am.1 h).1
theorem PtrB.c0{w k c}(h:PtrB w k c):w.cell? ⟨k,0,none⟩=some (.pointer (some ⟨c,0,none⟩)):=by simp[World.cell?,show w.heap[k]?=_ from h]
theorem PtrB.kept{w w' k c}{S:Nat->Prop}(h:PtrB w k c)(a:Kt S w w')(hS:¬S k):PtrB w' k c:=(a.block k h.lt hS).trans h
theorem PtrB.dk{w w' k c}(h:PtrB w k c)(a:Kt nO w w'):PtrB w' k c:=h.kept a (fun x=>x)
theorem zh2(k l c b:Nat)(ao:Option Nat)(bS R dl n:Nat)(J:Nat->Nat->(Nat->Nat)->(Nat->Prop)->Wd->Prop)(Z:Wd->Prop)(hJ:∀ m p f S W,J m p f S W->p<18446744073709551616/\PtrB W k c/\(∃ hd,LS W c b ao bS R dl n f hd)/\∀ x,S x->x<W.heap.size)(hK:∀ m p f S W W',J m p f S W->Kt nO W W'->J m p f S W')(hY:∀ m p f S W,J m p f S W->p≠0->In bS n p 16->YieldAt Fence.wide 0 prog l #[.int .u64 p,.agg #[.int .u64 (nx bS f p:Int),.int .u64 (pv bS f p:Int)]] W fun e W'=>
   (e=.returned (.bool true)/\(∃ D f' N,D<m/\J D (nx bS f p) f' N W')/\Kt S W W')\/(e=.returned (.bool false)/\Z W'))
  (m0 hd:Nat) (f:Nat->Nat) (S:Nat->Prop) (w:Wd) (h:LS w c b ao bS R dl n f hd) (h0:J m0 hd f S w):
  Calls prog 262 #[.func (.yield l) #[] #[],.pointer (some ⟨k,0,none⟩)] w fun e W'=>(∃ v,e=.returned v)/\
   ((∃ m p f S,J m p f S W'/\(p=0\/¬In bS n p 16))\/Z W'):=by
 have o:=(hJ _ _ _ _ _ h0).2.1.c0;have a3:=h.l.c1;have HJ:=aA hJ;have HK:=aA hK;have HY:=aA hY;have H0:=aA h0;clear hJ hK hY h h0;refine(callsIn_wide (n:=0)).1 ?_;refine callsIn_of_wp func262 rfl trivial ?_ rfl;simp only[ntmps262,List.size_toArray,ee,List.length_nil,Nat.reduceAdd,Nat.reduceSub,Array.replicate_succ,Array.replicate_zero,List.push_toArray,List.append_toArray,List.nil_append,List.cons_append];gi_wp2
 gi_loopw [3] (fun p wr=>∃ m a f S,p=.int .u64 ((a:Nat):Int)/\J m a f S wr) (fun p wr=>oT (fun m=>∃ a f S,p=.int .u64 ((a:Nat):Int)/\J m a f S wr))
 case atStart=>exact⟨m0,hd,f,S,rfl,H0.o⟩
 case round=>
  have r:=zh1 hrel;obtain⟨M,T⟩:=xe (oT (fun m=>∃ a f S,u3=.int .u64 ((a:Nat):Int)/\J m a f S wr));rw[<-T] at r;obtain⟨a,f,S,rfl,q⟩:=r;have HM:=aA T;have P:=aA q;obtain⟨I,o,⟨K,hL⟩,Y⟩:=HJ.o _ _ _ _ _ q;have o:=o.c0;have HL:=aA hL;clear hrel q T Y;by_cases h0:a=0
  ·subst h0;clear hL;gi_wp2
   go_end0
   exact⟨⟨_,rfl⟩,.inl ⟨_,_,_,_,P.o,.inl rfl⟩⟩
  ·have a0:((a:Int) == 0)=false:=ag.2 (by omega);by_cases d:In bS n a 16
   ·have A:=aA (GJ c b ao bS R dl n f K a wr hL.s hL.l d);have Q:=aA d;clear hL d;gi_wp2_with fail
    refine⟨trivial,rfl,?_⟩;refine(callsIn_wide.2 A.o).mono ?_;rintro e L ⟨rfl,B⟩;have C:=cW.box (w:=L) (nx bS f a) (pv bS f a);obtain⟨W,u⟩:=xe (L.alloc (.cells #[.int .u64 (nx bS f a:Int),.int .u64 (pv bS f a:Int)] 246));have j:J M a f S W:=(by rw[u];exact HK.o _ _ _ _ _ _ P.o (B.alloc _));have F:¬S L.heap.size:=fun hs=>by have h1:=(HJ.o _ _ _ _ _ P.o).2.2.2 _ hs;have h2:=B.size;omega
    rw[<-u] at C;have hy:=HY.o M a f S W j h0 Q.o;have V:=C.c0;have a2:=C.c1;have HP:=aA C;have U:=aA F;have a1:=aA j;generalize nx bS f a=x at *;generalize pv bS f a=y at *;obtain⟨fn,tmps,assign,body,i,hR⟩:=hy;clear C F B j;gi_wp2_with fail
    rw[<-u,i];refine⟨fun h=>absurd h (by decide),?_⟩;refine hR.mono ?_;rintro e W' (⟨rfl,g,hk⟩|⟨rfl,E⟩)
    ·have t:=HP.o.kept hk U.o;have V:=t.c0;obtain⟨D,f',N,G,g⟩:=g;have z:=aA g;have X:=aA G;clear hk t G g hR i u;gi_wp2_with fail
     go_roundw
     case rel=>exact⟨D,x,f',N,rfl,z.o⟩
     case measure=>refine Nat.lt_of_le_of_lt (zli (k:=D) ⟨x,f',N,rfl,z.o⟩) ?_;rw[<-HM.o];exact X.o
    ·have HX:=aA E;clear E hR i u;gi_wp2_with fail
     refine bodyPost_ret (results_none rfl _ _ _) rfl ?_;exact⟨⟨_,rfl⟩,.inr HX.o⟩
   ·have A:=aA (AO c b ao bS R dl n f K a I wr hL.s hL.l d);have Q:=aA d;clear hL d;gi_wp2_with fail
    refine⟨trivial,rfl,?_⟩;refine(callsIn_wide.2 A.o).mono ?_;rintro e L ⟨rfl,B⟩;gi_wp2_with fail
    refine⟨fun _ h=>(by cases h),?_⟩;gi_wp2_with fail
    refine bodyPost_ret (results_none rfl _ _ _) rfl ?_;exact⟨⟨_,rfl⟩,.inl ⟨_,_,_,_,HK.o _ _ _ _ _ _ P.o (B.alloc _),.inr Q.o⟩⟩
attribute [local go_sem] Oper.semAt_some
structure Six(W:Wd)(y lf la kb D L:Nat)(l left q c:Nat)(rc:Loop):Prop where
 hy:W.heap[y]?=some (.cells #[.func (.yield l) #[] #[]] 118 (0,0))
 jx:W.heap[lf]?=some (.cells #[.int .u64 left] 22 (0,0))
 js:W.heap[la]?=some (.cells #[.int .u64 q] 22 (0,0))
 jw:PtrB W kb c
 hL:fK W L rc
 hD:jM W D
def dF(y lf la kb D L:Nat):Nat->Prop:=fun x=>x=y\/x=lf\/x=la\/x=kb\/x=D\/x=L
theorem Six.kept{W W' y lf la kb D L l left q c rc}{S:Nat->Prop}(h:Six W y lf la kb D L l left q c rc)(k:Kt S W W')(hS:∀ x,dF y lf la kb D L x->¬S x):Six W' y lf la kb D L l left q c rc:=
 ⟨(k.block y (am.1 h.hy).1 (hS _ (.inl rfl))).trans h.hy,(k.block lf (am.1 h.jx).1 (hS _ (.inr (.inl rfl)))).trans h.jx,
  (k.block la (am.1 h.js).1 (hS _ (.inr (.inr (.inl rfl))))).trans h.js,h.jw.kept k (hS _ (.inr (.inr (.inr (.inl rfl))))),h.hL.kept k (hS _ (.inr (.inr (.inr (.inr (.inr rfl)))))),h.hD.kept k (hS _ (.inr (.inr (.inr (.inr (.inl rfl)))))) ⟩
theorem Six.lt{W y lf la kb D L l left q c rc}(h:Six W y lf la kb D L l left q c rc)(x:Nat)(hx:dF y lf la kb D L x):x<W.heap.size:=by
 rcases hx with rfl|rfl|rfl|rfl|rfl|rfl
 ·exact(am.1 h.hy).1
 ·exact(am.1 h.jx).1
 ·exact(am.1 h.js).1
 ·exact h.jw.lt
 ·exact h.hD.lt
 ·exact h.hL.lt
theorem Six.ji{W y lf la kb D L l left q c rc}(h:Six W y lf la kb D L l left q c rc)(a:y≠L)(f:lf≠L)(b:la≠L)(d:kb≠L)(e:D≠L)(r:Loop):Six (W.putObj L (.loop r)) y lf la kb D L l left q c r:=
 ⟨(World.putObj_heap_other a).trans h.hy,(World.putObj_heap_other f).trans h.jx,(World.putObj_heap_other b).trans h.js,(World.putObj_heap_other d).trans h.jw,h.hL.put r,(World.putObj_heap_other e).trans h.hD⟩
theorem Six.step{W y lf la kb D L l left q c rc}(h:Six W y lf la kb D L l left q c rc)(e:y<lf)(j:lf<la)(f:la<kb)(g:kb<D)(i:D<L)(a b:Nat):Six ((W.setCell ⟨la,0,none⟩ (.int .u64 b)).setCell ⟨lf,0,none⟩ (.int .u64 a)) y lf la kb D L l a b c rc:=by
 have k:Kt (fun x=>x=la\/x=lf) W ((W.setCell ⟨la,0,none⟩ (.int .u64 b)).setCell ⟨lf,0,none⟩ (.int .u64 a)):=((Kt.refl _ W).setCell (fun _=>Or.inl rfl) _).setCell (fun _=>Or.inr rfl) _;refine⟨(k.block y (am.1 h.hy).1 (by omega)).trans h.hy,?_,?_,h.jw.kept k (by omega),h.hL.kept k (by omega),h.hD.kept k (by omega)⟩;·exact cD ((((Kt.refl (fun x=>x=la) W).setCell (p:=⟨la,0,none⟩) (fun _=>rfl) _).block lf (am.1 h.jx).1 (by omega)).trans h.jx) 0 _
 ·have d:=cD h.js 0 (.int .u64 b);exact(((Kt.refl (fun x=>x=lf) _).setCell (p:=⟨lf,0,none⟩) (fun _=>rfl) _).block la (am.1 d).1 (by omega)).trans d
theorem lW{W:Wd}{k:Nat}{v:Vl}{t:TypeId}(h:W.heap[k]?=some (.cells #[v] t (0,0))):W.cell? ⟨k,0,none⟩=some v:=by simp[World.cell?,h]
theorem xL{W:Wd}{k:Nat}{cs:Array Vl}{t:TypeId}(h:W.heap[k]?=some (.cells cs t (0,0))):W.frozen? ⟨k,0,none⟩=false:=by simp[World.frozen?,h]
theorem mB(w:Wd)(A B:Obj):((w.alloc A).alloc B).heap[w.heap.size+1]?=some B:=by have:=nH (w.alloc A) B;rwa [World.size_alloc] at this
def rW(K:Nat->Nat->Nat->(Nat->Nat)->(Nat->Prop)->Wd->Prop)(N l c y lf la kb D L:Nat)(rc:LoopState->Option Code->Loop)(m p:Nat)(f:Nat->Nat)(S':Nat->Prop)(W:Wd):Prop:=
 ∃ i q S,m+i=N/\K i q p f S W/\Six W y lf la kb D L l m q c (rc .ready none)/\(∀ x,S x->¬dF y lf la kb D L x)/\S'=fun x=>S x\/dF y lf la kb D L x
def rV(K:Nat->Nat->Nat->(Nat->Nat)->(Nat->Prop)->Wd->Prop)(Kx:(Nat->Prop)->Wd->Prop)(N bS D L:Nat)(rc:LoopState->Option Code->Loop)(W:Wd):Prop:=
 fK W L (rc .done (some (.exit 0)))/\jM W D/\((∃ i q p f S,K i q p f S W/\i<=N/\(pv bS f p≠q\/i=N)/\¬S D/\¬S L)\/∃ S,Kx S W/\¬S D/\¬S L)
theorem zkK(k l c b:Nat)(ao:Option Nat)(bS R dl n o:Nat)(ho:o<=8)(hR:R=4096*2 ^ o)(B:Nat)(K:Nat->Nat->Nat->(Nat->Nat)->(Nat->Prop)->Wd->Prop)(Kx:(Nat->Prop)->Wd->Prop)(hK1:∀ i q p f S W,K i q p f S W->p<18446744073709551616/\q<18446744073709551616/\(∃ hd,LS W c b ao bS R dl n f hd)/\(∀ x,S x->x<W.heap.size)/\PtrB W k c)(hK2:∀ i q p f S T W W',K i q p f S W->Kt T W W'->(∀ x,T x->B<=x/\¬S x)->K i q p f S W')(c4:∀ S T W W',Kx S W->Kt T W W'->(∀ x,T x->B<=x/\¬S x)->Kx S W')(hY:∀ i q p f S W,K i q p f S W->i<n/16->p≠0->In bS n p 16->pv bS f p=q->YieldAt Fence.wide 0 prog l #[.int .u64 p] W fun e W'=>
   (e=.returned (.bool true)/\∃ f' Y,K (i+1) p (nx bS f p) f' Y W'/\Kt S W W'/\∀ x,Y x->S x\/W.heap.size<=x)\/
   (e=.returned (.bool false)/\∃ Y,Kx Y W'/\Kt S W W'/\∀ x,Y x->S x\/W.heap.size<=x))
  (hd:Nat) (f:Nat->Nat) (S:Nat->Prop) (w:Wd) (hB:B<=w.heap.size) (h:LS w c b ao bS R dl n f hd) (h0:K 0 0 hd f S w):
  Calls prog 259 #[.func (.yield l) #[] #[],.pointer (some ⟨k,0,none⟩)] w fun e W'=>(∃ v,e=.returned v)/\
   ((∃ i q p f S,K i q p f S W'/\i<=n/16/\(p=0\/¬In bS n p 16\/pv bS f p≠q\/i=n/16))\/∃ S,Kx S W'):=by
 have A:=aA (fun w' (kk:Kt nO w w')=>zeH b ao bS R dl n f o ho hR w' (h.dk kk).s);have HH:=aA h;have H0:=aA h0;have P:=aA hK1;have g:=aA hK2;have c9:=aA c4;have HY:=aA hY;have hn:n<=4194304:=an h.s.fk h.s.cfg.lr;obtain⟨N,hN⟩:=xe (n/16);have HN:=aA (show(n:Int)/16=(N:Int)by rw[hN];simp);have f7:N<=4194304:=by omega
 rw[<-hN] at HY ⊢;have c2:=(hK1 _ _ _ _ _ _ h0).2.2.2.1;have a7:=(hK1 _ _ _ _ _ _ h0).2.2.2.2;have HP:=aA a7;clear hK1 hK2 c4 hY h0 hN h;have e4:=(a7.dk ((kz w).alloc (.cells #[.func (.yield l) #[] #[]] 118))).c0;have e0:=(HH.o.l.dk ((kz w).alloc (.cells #[.func (.yield l) #[] #[]] 118))).c0;clear a7;refine MR func259 rfl ?_;simp only[ntmps259,List.size_toArray,ee,List.length_nil,Nat.reduceAdd,Nat.reduceSub,Array.replicate_succ,Array.replicate_zero,List.push_toArray,List.append_toArray,List.nil_append,List.cons_append];go_wp2_with fail;apply wp_scope_straight
 go_wp2_with fail;refine(A.o _ ((kz w).alloc _)).mono ?_;rintro e X ⟨rfl,k1⟩;have a2:=(HP.o.dk (nT ((kz w).alloc (.cells #[.func (.yield l) #[] #[]] 118)) k1)).dk (((kz X).alloc (.cells #[.int .u64 N] 22)).alloc (.cells #[.int .u64 0] 22));have a2:=a2.c0;clear e4 e0;go_wp2_with fail;rw[HN.o];apply wp_label
 go_wp2_with fail;refine(zix c _).mono ?_;rintro e u ⟨rfl,r⟩;rw[World.size_alloc,World.size_alloc];have KW:=aA (show Kt nO w u by rw[r];exact(((nT ((kz w).alloc _) k1).alloc _).alloc _).alloc _);have F1:=aA (show u.heap[w.heap.size]?=some (.cells #[.func (.yield l) #[] #[]] 118 (0,0))by
  have g1:w.heap.size<X.heap.size:=by have:=k1.size;simp at this;omega
  rw[r,Below.heap_alloc _ _ _ (by simp;omega),Below.heap_alloc _ _ _ (by simp;omega),Below.heap_alloc _ _ _ (by omega)];exact(k1.block _ (by simp) (fun x=>x)).trans (nH _ _))
 have F2:=aA (show u.heap[X.heap.size]?=some (.cells #[.int .u64 N] 22 (0,0))by
  rw[r,Below.heap_alloc _ _ _ (by simp;omega),Below.heap_alloc _ _ _ (by simp)];exact nH _ _)
 have F3:=aA (show u.heap[X.heap.size+1]?=some (.cells #[.int .u64 ((0:Nat):Int)] 22 (0,0))by
  rw[r,Below.heap_alloc _ _ _ (by simp)];exact mB _ _ _)
 have F4:=aA (show PtrB u (X.heap.size+2) c by
  rw[r];have:=nH ((X.alloc (.cells #[.int .u64 N] 22)).alloc (.cells #[.int .u64 0] 22)) (.cells #[.pointer (some ⟨c,0,none⟩)] 135);rw[World.size_alloc,World.size_alloc] at this;exact this)
 have a6:u.heap.size=X.heap.size+3:=by rw[r];simp
 have d9:w.heap.size<X.heap.size:=by have:=k1.size;simp at this;omega
 have H2:=aA (HH.o.dk KW.o);have K2:=aA (g.o _ _ _ _ _ _ _ _ H0.o KW.o (fun x hx=>hx.elim));clear a2 k1 r A;generalize X.heap.size=z at *;go_wp2_with fail;refine FH (gf:=262) (lb:=#[.pointer (some ⟨z+2,0,none⟩)]) rfl (enters_of func262 (by kernel_rfl) rfl) ?_;intro fn d b2;have c5:=aA b2;clear b2;rw[a6];obtain⟨E,Q⟩:=xe ((u.alloc (.deferred (some []))).alloc (.loop (d .ready none)));have C:=aA (show Kt nO u E by rw[Q];exact((kz u).alloc _).alloc _);have X6:=aA (show Six E w.heap.size z (z+1) (z+2) (z+3) (z+4) l N 0 c (d .ready none)from by
  refine⟨?_,?_,?_,F4.o.dk C.o,?_,?_⟩;·exact(C.o.block _ (by omega) (fun x=>x)).trans F1.o
  ·exact(C.o.block _ (by omega) (fun x=>x)).trans F2.o
  ·exact(C.o.block _ (by omega) (fun x=>x)).trans F3.o
  ·rw[Q];have:=mB u (.deferred (some [])) (.loop (d .ready none));rw[a6] at this;exact this
  ·rw[Q];have:=(Below.heap_alloc (u.alloc (.deferred (some []))) (.loop (d .ready none)) u.heap.size (by simp)).trans (nH u _);rw[a6] at this;exact this)
 rw[<-Q];have d6:∀ x,S x->¬dF w.heap.size z (z+1) (z+2) (z+3) (z+4) x:=fun x hx t=>by have:=c2 x hx;unfold dF at t;omega
 have J0:=aA (show rW K N l c w.heap.size z (z+1) (z+2) (z+3) (z+4) d N hd f (fun x=>S x\/dF w.heap.size z (z+1) (z+2) (z+3) (z+4) x) E from
  ⟨0,0,S,rfl,g.o _ _ _ _ _ _ _ _ K2.o C.o (fun x hx=>hx.elim),X6.o,d6,rfl⟩)
 have L:=aA (show ∀ x,dF w.heap.size z (z+1) (z+2) (z+3) (z+4) x->B<=x from fun x hx=>by unfold dF at hx;omega);have g2:=aA (show ∀ x,x≠z->x≠z+1->x≠z+4->dF w.heap.size z (z+1) (z+2) (z+3) (z+4) x->x≠z/\x≠z+1/\x≠z+4 from fun x Z h2 h3 _=>⟨Z,h2,h3⟩);have e1:=aA (show w.heap.size<z from d9);refine(zh2 (z+2) (z+4) c b ao bS R dl n (rW K N l c w.heap.size z (z+1) (z+2) (z+3) (z+4) d) (rV K Kx N bS (z+3) (z+4) d) ?hJ ?hK ?hY N hd f _ E (H2.o.dk C.o) J0.o).mono ?hend
 case hJ=>
  rintro m p f' Y W ⟨i,q,S,V,j,t,hS,rfl⟩;obtain⟨Z,h2,h3,h4,h5⟩:=P.o _ _ _ _ _ _ j;refine⟨Z,t.jw,h3,?_⟩;rintro x (hx|hx);·exact h4 x hx
  ·exact t.lt x hx
 case hK=>rintro m p f' Y W W' ⟨i,q,S,V,j,t,hS,rfl⟩ c7;exact⟨i,q,S,V,g.o _ _ _ _ _ _ _ _ j c7 (fun x hx=>hx.elim),t.kept c7 (fun _ _ x=>x),hS,rfl⟩
 case hend=>
  rintro e W' ⟨hv,hq⟩;refine⟨hv,?_⟩;rcases hq with ⟨m,p,f',Y,⟨i,q,S,V,j,t,hS,rfl⟩,hp⟩|⟨hr,hD,hx⟩
  ·refine⟨.ready,none,by simp,t.hL,fun _=>?_,fun c hc=>by cases hc⟩;have hD:=t.hD;have b0:jM (W'.putObj (z+4) (.loop (d .exhausted none))) (z+3):=(World.putObj_heap_other (by omega)).trans hD;have HF:=aA (show ∃ i q p f S,K i q p f S ((W'.putObj (z+4) (.loop (d .exhausted none))).putObj (z+3) (.deferred none))/\i<=N/\(p=0\/¬In bS n p 16\/pv bS f p≠q\/i=N)from by
    refine⟨i,q,p,f',S,g.o _ _ _ _ _ (fun x=>x=z+3\/x=z+4) _ _ j ((((Kt.refl _ W').putObj (fun _=>Or.inr rfl) _)).putObj (fun _=>Or.inl rfl) _) ?_,by omega,?_⟩
    ·rintro x (rfl|rfl)
     ·exact⟨L.o _ (by unfold dF;omega),fun hs=>hS _ hs (by unfold dF;omega)⟩
     ·exact⟨L.o _ (by unfold dF;omega),fun hs=>hS _ hs (by unfold dF;omega)⟩
    ·rcases hp with hp|hp
     ·exact .inl hp
     ·exact .inr (.inl hp))
   clear j t hS hp;go_wp2_with fail;refine⟨by simp,.inl ⟨_,_,rfl,run_takeDeferred b0,?_⟩⟩;exact⟨_,results_none rfl _ _ _,⟨_,rfl⟩,.inl HF.o⟩
  ·refine⟨.done,some (.exit 0),by simp,hr,fun h=>(by cases h),fun c hc=>?_⟩
   cases hc
   have b0:jM (W'.putObj (z+4) (.loop (d .exhausted (some (.exit 0))))) (z+3):=(World.putObj_heap_other (by omega)).trans hD;have a:Kt (fun x=>x=z+3\/x=z+4) W' ((W'.putObj (z+4) (.loop (d .exhausted (some (.exit 0))))).putObj (z+3) (.deferred none)):=((Kt.refl _ W').putObj (fun _=>Or.inr rfl) _).putObj (fun _=>Or.inl rfl) _;have HF:=aA (show(∃ i q p f S,K i q p f S ((W'.putObj (z+4) (.loop (d .exhausted (some (.exit 0))))).putObj (z+3) (.deferred none))/\i<=N/\(p=0\/¬In bS n p 16\/pv bS f p≠q\/i=N))\/∃ S,Kx S ((W'.putObj (z+4) (.loop (d .exhausted (some (.exit 0))))).putObj (z+3) (.deferred none))from by
    rcases hx with ⟨i,q,p,f',S,j,hi,hp,a8,a3⟩|⟨S,j,a8,a3⟩
    ·refine .inl ⟨i,q,p,f',S,g.o _ _ _ _ _ _ _ _ j a ?_,hi,.inr (.inr hp)⟩;rintro x (rfl|rfl)
     ·exact⟨L.o _ (by unfold dF;omega),a8⟩
     ·exact⟨L.o _ (by unfold dF;omega),a3⟩
    ·refine .inr ⟨S,c9.o _ _ _ _ j a ?_⟩;rintro x (rfl|rfl)
     ·exact⟨L.o _ (by unfold dF;omega),a8⟩
     ·exact⟨L.o _ (by unfold dF;omega),a3⟩)
   clear hx a;go_wp2_with fail;refine⟨by simp,.inl ⟨_,_,rfl,run_takeDeferred b0,?_⟩⟩;exact⟨_,results_none rfl _ _ _,⟨_,rfl⟩,HF.o⟩
 case hY=>
  rintro m p f' Y W ⟨i,q,S,V,j,t,hS,rfl⟩ e3 d4;have hL:=t.hL;rw[c5.o] at hL;have f1:=(P.o _ _ _ _ _ _ j).1;have f0:=(P.o _ _ _ _ _ _ j).2.1;have d1:=(P.o _ _ _ _ _ _ j).2.2.2.1;refine MT hL rfl ?_;rw[<-c5.o];clear hL;have H6:=aA t;have HK:=aA j;have f6:=aA d1;have HS:=aA hS;clear t j d1 hS;have e2:=aA (show ∀ x,S x->x≠z+4 from fun x hx e=>HS.o x hx (by unfold dF;omega));gi_wp2_with fail
  refine⟨H6.o.hL.kept ((kz W).alloc _) (fun x=>x),?_⟩;obtain⟨W2,I⟩:=xe ((W.alloc (.cells #[.int .u64 (nx bS f' p:Int),.int .u64 (pv bS f' p:Int)] 246)).putObj (z+4) (.loop (d .busy none)));have d5:=H6.o.hL.lt;have c6:=aA (show Kt (fun x=>x=z+4) W W2 by rw[I];exact((Kt.refl (fun x=>x=z+4) W).alloc _).putObj (fun _=>rfl) _);have G:=aA (show Six W2 w.heap.size z (z+1) (z+2) (z+3) (z+4) l m q c (d .busy none)by
   rw[I];exact(H6.o.kept ((kz W).alloc _) (fun _ _ x=>x)).ji (by omega) (by omega) (by omega) (by omega) (by omega) _)
  have P2:=aA (show cW W2 W.heap.size (nx bS f' p) (pv bS f' p)by
   rw[I];exact(World.putObj_heap_other (by omega)).trans (cW.box _ _))
  have d0:=aA (g.o _ _ _ _ _ _ _ _ HK.o c6.o (fun x hx=>by subst hx;exact⟨L.o _ (by unfold dF;omega),fun hs=>e2.o _ hs rfl⟩));have a9:=P2.o.c1;have b8:=lW G.o.js;have b7:=lW G.o.jx;have b3:=lW G.o.hy;have e9:m<=4194304:=by omega
  rw[<-I];clear I d5;have HD:=aA (show ¬S (z+3)from fun hs=>HS.o _ hs (by unfold dF;omega));have b6:=aA (show ¬S (z+4)from fun hs=>HS.o _ hs (by unfold dF;omega));have a0:=aA (show(pv bS f' p≠q\/i=N)->rV K Kx N bS (z+3) (z+4) d (W2.putObj (z+4) (.loop (d .done (some (.exit 0)))))from fun d2=>by refine⟨G.o.hL.put _,(World.putObj_heap_other (by omega)).trans G.o.hD,.inl ⟨i,q,p,f',S,g.o _ _ _ _ _ (fun x=>x=z+4) _ _ d0.o ((Kt.refl (fun x=>x=z+4) W2).putObj (fun _=>rfl) _) ?_,by omega,d2,HD.o,b6.o⟩⟩;rintro x rfl;exact⟨L.o _ (by unfold dF;omega),b6.o⟩)
  obtain⟨y,hy⟩:=xe (pv bS f' p);rw[<-hy] at a9;by_cases a5:y=q
  ·have b5:((y:Int) == (q:Int))=true:=cu.2 (by omega);by_cases f5:m=0
   ·have b9:((m:Int) == 0)=true:=cu.2 (by omega);have hi:i=N:=(by omega);have HI:=aA hi;clear hi hy;gi_wp2_with fail
    exact⟨G.o.hL,.inr ⟨rfl,a0.o (.inr HI.o)⟩⟩
   ·have b9:((m:Int) == 0)=false:=ag.2 (by omega);have hY:=HY.o i q p f' S W2 d0.o (by omega) e3 d4 (by rw[<-hy];exact a5);obtain⟨f3,d7,b4,e6,b1,a4⟩:=hY;obtain⟨m',rfl⟩:∃ m',m=m'+1:=⟨m-1,by omega⟩;clear hy;gi_wp2_with fail
    refine⟨rfl,?_⟩;refine RoundIn.mono (F:=Fence.wide.inRound (z+4)) a4 ?_;rintro e E (⟨rfl,f2,S2,c8,a,hs⟩|⟨rfl,S2,c3,a,hs⟩)
    ·have X3:=aA (G.o.kept a (fun x hx a1=>HS.o x a1 hx));have e7:=aA c8;have e5:=aA a;have D:=aA (show ∀ x,S2 x->¬dF w.heap.size z (z+1) (z+2) (z+3) (z+4) x from fun x hx J=>by
      rcases hs x hx with Z|Z
      ·exact HS.o x Z J
      ·have:=G.o.lt x J;omega)
     have f4:=lW X3.o.js;have f8:=xL X3.o.js;have d8:=lW X3.o.jx;have f9:=xL X3.o.jx;have k5:Kt (fun x=>x=z+1) E (E.setCell ⟨z+1,0,none⟩ (.int .u64 p)):=(Kt.refl (fun x=>x=z+1) E).setCell (fun _=>rfl) _;have g0:=k5.cell (p:=⟨z,0,none⟩) (by simp) d8;clear c8 a hs a4 b1 k5 a9 b8 b7 b3;gi_wp2_with fail
     have X4:=X3.o.step e1.o (by omega) (by omega) (by omega) (by omega) m' p;have k6:Kt (dF w.heap.size z (z+1) (z+2) (z+3) (z+4)) E (((E.setCell ⟨z+1,0,none⟩ (.int .u64 p)).setCell ⟨z,0,none⟩ (.int .u64 m')).putObj (z+4) (.loop (d .ready none))):=
      (((Kt.refl _ E).setCell (fun _=>by unfold dF;simp) _).setCell (fun _=>by unfold dF;simp) _).putObj (fun _=>by unfold dF;simp) _
     refine⟨X4.hL,.inl ⟨rfl,⟨m',by omega,f2,_,i+1,p,S2,by omega,g.o _ _ _ _ _ _ _ _ e7.o k6 (fun x hx=>⟨L.o x hx,fun h=>D.o x h hx⟩),X4.ji (by omega) (by omega) (by omega) (by omega) (by omega) _,D.o,rfl⟩,?_⟩⟩;refine((c6.o.trans (U:=fun x=>S x\/dF w.heap.size z (z+1) (z+2) (z+3) (z+4) x) e5.o (fun x _ hx=>.inr (by subst hx;unfold dF;simp)) (fun x _ hx=>.inl hx))).trans k6 (fun x _ hx=>hx) (fun x _ hx=>.inr hx)
    ·have X3:=aA (G.o.kept a (fun x hx a1=>HS.o x a1 hx));have d3:=aA c3;have D:=aA (show ∀ x,S2 x->¬dF w.heap.size z (z+1) (z+2) (z+3) (z+4) x from fun x hx J=>by
      rcases hs x hx with Z|Z
      ·exact HS.o x Z J
      ·have:=G.o.lt x J;omega)
     clear c3 a hs a4 b1 a9 b8 b7 b3;gi_wp2_with fail
     refine⟨X3.o.hL,.inr ⟨rfl,X3.o.hL.put _,(World.putObj_heap_other (by omega)).trans X3.o.hD,.inr ⟨S2,c9.o _ (fun x=>x=z+4) _ _ d3.o ((Kt.refl (fun x=>x=z+4) E).putObj (fun _=>rfl) _) ?_,fun h=>D.o _ h (by unfold dF;omega),fun h=>D.o _ h (by unfold dF;omega)⟩⟩⟩;rintro x rfl;exact⟨L.o _ (by unfold dF;omega),fun h=>D.o _ h (by unfold dF;omega)⟩
  ·have b5:((y:Int) == (q:Int))=false:=ag.2 (by omega);have e8:=aA (show pv bS f' p≠q by rw[<-hy];exact a5);clear a5 hy;gi_wp2_with fail
   exact⟨G.o.hL,.inr ⟨rfl,a0.o (.inl e8.o)⟩⟩
def gW(x:Nat):Vl:=.int .u64 x
structure Lst(w:Wd)(v:Vl)(xs:List Nat):Prop where
 lt:∀ x∈xs,x<18446744073709551616
 own:w.ownsRow 0 22 1 v xs.length (xs.map gW)
def Wds(w:Wd)(v:Vl)(xs:List Nat):Prop:=
 (∀ x∈xs,x<18446744073709551616)/\∃ ao cap,v=.slice (adr ao) xs.length cap/\(xs≠[]->∃ g,ao=some g)/\∀ g,ao=some g->g<w.heap.size/\xs.length<=cap/\∀ i,i<xs.length->w.cell? ⟨g,i,none⟩=some (gW (xs.getD i 0))
theorem Lst.ot{w v xs}(h:Lst w v xs):Wds w v xs:=by
 refine⟨h.lt,?_⟩;rcases h.own.2 with ⟨rfl,h0⟩|⟨g,cap,c,rfl,hb,hg,d,j,f,a⟩
 ·have:xs=[]:=bq h0;subst this;exact⟨none,0,rfl,fun h=>absurd rfl h,fun g hg=>by cases hg⟩
 ·refine⟨some g,cap,rfl,fun _=>⟨g,rfl⟩,fun k e=>?_⟩
  cases e
  refine⟨(am.1 hg).1,d,fun i hi=>?_⟩;have b:(c.toList.take (xs.length*1))[i]?=(xs.map gW)[i]?:=by rw[a]
  rw[dc,ae (by omega)] at b;rw[List.getElem?_map] at b;simp only[World.cell?,hg];rw[<-ef,b,bo hi];simp[hi,List.getD]
theorem Wds.lt{w v xs r}(h:Wds w v xs)(a:v.ownBlock=some r):r<w.heap.size:=by
 obtain⟨c,ao,cap,rfl,d,b⟩:=h
 cases ao with
 | none=>simp[adr,Value.ownBlock] at a
 | some g=>simp[adr,Value.ownBlock] at a;subst a;exact(b g rfl).1
theorem Lst.kept{w w' v xs}{S:Nat->Prop}(h:Lst w v xs)(k:Kt S w w')(hS:∀ r,v.ownBlock=some r->¬S r):Lst w' v xs:=by
 refine⟨h.lt,h.own.1,?_⟩;rcases h.own.2 with h0|⟨g,cap,a,rfl,hb,hg,b⟩
 ·exact .inl h0
 ·exact .inr ⟨g,cap,a,rfl,hb,(k.block g (am.1 hg).1 (hS g rfl)).trans hg,b⟩
theorem Lst.dk{w w' v xs}(h:Lst w v xs)(k:Kt nO w w'):Lst w' v xs:=h.kept k (fun _ _ x=>x)
theorem Lst.nil(w:Wd):Lst w (.slice none 0 0) []:=⟨fun _ h=>(by cases h),World.ownsRow_nil _ _ _ _⟩
theorem Lst.jd{w v xs r}(h:Lst w v xs)(a:v.ownBlock=some r):∃ cs,w.heap[r]?=some (.cells cs 22 (0,0)):=by
 rcases h.own.2 with ⟨rfl,_⟩|⟨g,cap,b,rfl,hb,hg,c⟩
 ·simp[Value.ownBlock] at a
 ·simp[Value.ownBlock] at a;subst a;exact⟨_,hg⟩
theorem tK:(prog.info? 22).map (fun i=>(i.zero,i.size,i.bytes))=some (some (.int .u64 0),1,8):=by kernel_rfl
theorem lK{w a:Wd}{row:Option Nat}(h:w.grownBy a row):Kt (fun b=>row=some b) w a:=⟨h.os,h.tape,h.output,h.size,fun k c d=>h.block k c (fun e=>d e.symm)⟩
theorem zkB(w:Wd)(v:Vl)(k:List Nat)(x:Nat)(h:Lst w v k)(hx:x<18446744073709551616)(L:k.length+1<=4194305)(a:Addr)(c:Nat)(ha:w.cell? (a.add 0)=some (gW x)):∃ n l,(∀ J,(Builtin.append_ #[39,39] J #[v,.slice (some a) 1 c]).run prog w=.ok n l)/\Lst l n (k ++ [x])/\Kt (fun b=>v.ownBlock=some b) w l/\
   (n.ownBlock=v.ownBlock\/∃ r,n.ownBlock=some r/\w.heap.size<=r)/\∃ g cap,n=.slice (some ⟨g,0,none⟩) (k.length+1) cap:=by
 obtain⟨i,hi,C,z,D⟩:=info_parts tK;have q:k.length+1<=maxLen:=by simp only[maxLen];omega
 have E:∀ y∈k ++ [x],y<18446744073709551616:=by
  intro y hy;rcases List.mem_append.1 hy with hy|hy
  ·exact h.lt y hy
  ·simp at hy;subst hy;exact hx
 have m:∀ j u,[gW x][j]?=some u->w.cell? (a.add j)=some u:=by
  intro j u p;match j,p with
  | 0,p=>simp at p;subst p;exact ha
  | j+1,p=>simp at p
 have s:(k ++ [x]).map gW=k.map gW ++ [gW x]:=by simp
 have F:(k ++ [x]).length=k.length + 1:=by simp
 by_cases K:∃ g cap,v=.slice (some ⟨g,0,none⟩) k.length cap/\k.length+1<=cap
 ·obtain⟨g,cap,rfl,t⟩:=K;obtain⟨l,f,d,o⟩:=run_append_fits (P:=prog) w 0 39 0 22 i 1 Tryz.underlying39 hi z g k.length cap (k.map gW) h.own a 1 c [gW x] rfl m (by simp[Value.oneCell',gW]) t;refine⟨.slice (some ⟨g,0,none⟩) (k.length+1) cap,l,fun J=>?_,⟨E,?_⟩,lK o,.inl rfl,g,cap,rfl⟩
  ·rw[<-f];simp[Builtin.append_]
  ·rw[s,F];exact d
 ·have G:∃ n l,(Builtin.append_ #[39,39] 0 #[v,.slice (some a) 1 c]).run prog w=.ok n l/\l.ownsRow w.heap.size 22 1 n (k.length + 1) (k.map gW ++ [gW x])/\Kt (fun b=>v.ownBlock=some b) w l:=by
   have R:=h.own;rcases R.2 with ⟨rfl,h0⟩|⟨g,cap,B,rfl,hb,hg,S,T,N,A⟩
   ·have:k=[]:=bq h0;subst this;obtain⟨n,l,f,d,o,_⟩:=run_append_own (P:=prog) w w.heap.size 39 0 22 i (.int .u64 0) 1 8 Tryz.underlying39 hi C z D rfl (by decide) (.slice none 0 0) 0 [] (World.ownsRow_nil _ _ _ _) a 1 c [gW x] rfl m (by simp[Value.oneCell',gW]) q (by simp) (aj _);exact⟨n,l,f,d,lK o⟩
   ·obtain⟨n,l,f,d,o⟩:=run_append_arg_grows (P:=prog) w 39 0 22 i (.int .u64 0) 1 8 Tryz.underlying39 hi C z D rfl (by decide) ⟨g,0,none⟩ k.length cap (k.map gW) (by simp) (fun j u p=>by
     rw[Addr.add_lit,dz];rw[<-A,dc] at p;split at p;·simp only[World.cell?,hg];rw[<-ef,p];rfl
     ·cases p) a 1 c [gW x] rfl m (Nat.lt_of_not_le fun I=>K ⟨g,cap,rfl,I⟩) q (by omega)
    exact⟨n,l,f,d,(lK o).mono (fun _ _ e=>by cases e)⟩
  obtain⟨n,l,f,d,U⟩:=G;rcases d.2 with ⟨_,h0⟩|⟨g,cap,B,rfl,hb,hg,Q⟩
  ·omega
  ·refine⟨_,l,fun J=>?_,⟨E,?_⟩,U,.inr ⟨g,rfl,hb⟩,g,cap,rfl⟩
   ·rw[<-f];simp[Builtin.append_]
   ·rw[s,F];exact⟨d.1,.inr ⟨g,cap,B,rfl,az _,hg,Q⟩⟩
theorem zci{F:Fence}{n:Nat}{P:Program}(w:Wd){d:Array Oper}{rest:List Oper}{o:Oper}{a:Act}{Q:Exit->Act->Wd->Prop}(hg:o.guard=none)(s x:Operand)(t:TypeId)(b:o.op=Op.call { callee:=Callee.builtin Builtin.append,args:=#[s,x],argTypes:=#[t,t] }) (v u:Vl) (hs:a.eval s=v) (hx:a.eval x=u) (j:Vl) (i:Wd)(k:∀ l,(Builtin.append_ #[t,t] l #[v,u]).run P w=.ok j i) (h:wpListIn F n P d Q rest (a.put o.dst j) i):wpListIn F n P d Q (o :: rest) a w:=by
 refine wpListIn_plain hg fun K f=>?_
 have e:=k o.type;unfold Oper.wpIn;refine⟨?_,?_⟩;·simp[Oper.about,b,resolve,Target.leads,Sem.run_pure]
 ·rw[Oper.semAt_plain F _ _ (by rw[b];intro c g;cases g)];simp[execOp,b,resolve,invoke,builtin,hs,hx,e,Result.andThen];exact f _ _ h
attribute [local go_sem] Oper.semAt_some
def walkR(bS n:Nat)(f:Nat->Nat):Nat->Nat->Nat->List Nat
 | 0,_,_=>[]
 | k+1,q,p=>if p≠0/\In bS n p 16/\pv bS f p=q then p :: walkR bS n f k p (nx bS f p) else []
def eX(w:Wd)(k:Nat)(v:Vl):Prop:=w.heap[k]?=some (.cells #[v] 39 (0,0))
theorem eX.lt{w k v}(h:eX w k v):k<w.heap.size:=(am.1 h).1
theorem eX.kept{w w' k v}{S:Nat->Prop}(h:eX w k v)(a:Kt S w w')(hS:¬S k):eX w' k v:=(a.block k h.lt hS).trans h
theorem eX.set{w k v}(h:eX w k v)(u:Vl):eX (w.setCell ⟨k,0,none⟩ u) k u:=cD h 0 u
structure Taking(c b:Nat)(ao:Option Nat)(bS R dl n:Nat)(f0:Nat->Nat)(hd0 kk ob D L:Nat)(w0:Wd)(rc:LoopState->Option Code->Loop)(N i q p:Nat)(f:Nat->Nat)(S:Nat->Prop)(W:Wd):Prop where
 hf:f=f0
 ls:LS W c b ao bS R dl n f hd0
 pk:PtrB W kk c
 k0:Kt nO w0 W
 hp:p<18446744073709551616
 hq:q<18446744073709551616
 ex:∃ (xs:List Nat) (v:Vl),xs.length=i/\i<=N/\xs ++ walkR bS n f0 (N-i) q p=walkR bS n f0 N 0 hd0/\eX W ob v/\Lst W v xs/\fK W L (rc .ready none)/\jM W D/\
  (∀ r,v.ownBlock=some r->w0.heap.size<=r)/\S=fun x=>x<w0.heap.size\/x=kk\/x=ob\/x=D\/x=L\/v.ownBlock=some x
theorem VJ(d:Nat)(f:Fn)(a b:Array Vl)(w:Wd):(Op.equalIn (d+1) 255 (.func f a b) .nilFunc).run prog w=.ok false w:=by simp[Op.equalIn,run_underlying Tryz.underlying255]
theorem zD(f:Fn)(a b:Array Vl)(w:Wd):(binOp .eql 255 (.func f a b) .nilFunc).run prog w=.ok (.bool false) w:=by simp only[binOp];simp[Op.equal,Op.maxDepth,VJ 9999]
end M
end Go.Proofs.YtfmgnljlkdmndaaGreatDoor
