import Derived.Test.YtfmgnljlkdmndaaGreatDoorWa
import Derived.Test.YtfmgnljlkdmndaaGreatDoorXh
import Derived.Conc.MuLone
set_option maxRecDepth 1000000
set_option maxHeartbeats 0
namespace Go.Proofs.YtfmgnljlkdmndaaGreatDoor
open Tryz RowKit
set_option linter.unusedVariables false
theorem SO.four{w W sb lw x t fr ls S h}(o:SO w W sb lw x t fr ls S h){g:Nat}(hg:g<t.m.n)(b:(t.m.pg g).kd=4):∃ k,S.c g=some k:=by
 cases e:S.c g with
 | some k=>exact⟨k,rfl⟩
 | none=>
  exfalso
  obtain⟨B,s,f,hL⟩:=o.sf;obtain⟨a,p,k,hb,i,j⟩:=s.cv g hg;have d:a≠9:=fun e=>f p k (e▸hb)
  have hp:=s.pg a p k hb d g i j;rw[o.si.eP,iU e,ej] at hp;rw[hp] at b;have b:(if g=p then (a:Int) else (a:Int)+1)=4:=b;rcases s.tg a p k hb with rfl|rfl|rfl
  ·split at b <;> omega
  ·split at b <;> omega
  ·exact d rfl
def iY(x:Bx)(S:Sb)(p g k i:Nat):Prop:=S.c g=some k/\i<aF k/\i ∉ S.fl g/\p=aM x g k i
theorem SO.ld{w W sb lw x t fr ls S h}(o:SO w W sb lw x t fr ls S h){p:Nat}(hp:p<18446744073709551616)(hl:fD x t p=true):∃ g k i,iY x S p g k i:=by
 unfold fD jK at hl;rw[bu,bu] at hl;obtain⟨⟨a,f⟩,j⟩:=hl;have a:=bw a;have f:=bw f;obtain⟨g,hg⟩:=xe (aK x p/4096);have c:g<t.m.n:=by
  refine Nat.lt_of_not_le fun b=>?_
  unfold dQ cL at a;rw[<-hg,ac] at a;·exact absurd a (by decide)
  ·intro e;obtain⟨k,D,C⟩:=gP e;omega
 have q:dQ x t p=t.m.pg g:=by unfold dQ;rw[<-hg];exact pT c
 rw[q] at a;obtain⟨k,hc⟩:=o.four c a;obtain⟨v,sp⟩:=o.si.pg g k hc;have r:=cV v;have hz:=cM v;have u:(dQ x t p).cl.toNat=k:=by rw[q,sp.cl];rfl
 rw[u] at f;obtain⟨i,hi⟩:=xe (aK x p%4096/aB k);have A:gI x t p=i:=by unfold gI;rw[u,hi]
 have d:i*aB k=aK x p%4096:=by have:=dy (aK x p%4096) (aB k);rw[f,Nat.add_zero,aq,<-hi] at this;exact this
 have l:i<aF k:=by
  refine Nat.lt_of_not_le fun b=>?_
  have:=ak (aB k) b;rw[r.1,d] at this;have:=Nat.mod_lt (aK x p) (show 0<4096 by decide);omega
 rw[q,A,sp.bt i (by omega)] at j;have j:=bw j;refine⟨g,k,i,hc,l,j.2,?_⟩;obtain⟨_,B,y,z⟩:=o.mem hc;have F:=o.po.en.2.2.2.1;have e:aM x g k i=x.bS+4096*g+i*aB k:=rfl;rw[e,d,hg];have hd:=dy (aK x p) 4096;have E:aK x p=(p+18446744073709551616-x.bS)%18446744073709551616:=rfl;omega
theorem SO.jk{w W sb lw x t fr ls S h}(o:SO w W sb lw x t fr ls S h){p g k i:Nat}(hl:iY x S p g k i):fD x t p=true/\jK x t p=true/\aK x p/4096=g/\dQ x t p=t.m.pg g/\gI x t p=i/\p<18446744073709551616:=by obtain⟨hc,hi,j,rfl⟩:=hl;obtain⟨b,sp⟩:=o.si.pg g k hc;have r:=cV b;obtain⟨_,a,f,q⟩:=o.mem hc;have u:=o.po.en.2.2.2.1;obtain⟨c,l,d,e⟩:=sO (x:=x) (t:=t) b hi (by omega) a sp.kd sp.cl;refine⟨?_,c,l,d,e,(fT (x:=x) (p:=g) b hi (by omega)).2.2⟩;unfold fD;rw[c,d,e,sp.bt i (by omega),af ⟨hi,j⟩];rfl
theorem QS{n L lv N l1 a:Nat}(h:L<n)(f : 2<=n)(c:lv=n-L)(b:l1=lv-1)(d:N=n)(e:a=N-1):(l1=0↔L+1=n)/\(l1=a↔L=0)/\(L+1=n\/L+1<n):=by omega
inductive GvP(w W:Wd)(sb lw:Nat)(x:Bx)(t:Bt)(fr:Nat->List Nat)(ls:List (Nat×Nat))(S:Sb)(g k i:Nat)(w':Wd):Prop where
 | back (hl:(S.fl g).length+1<aF k) (so:∃ P t' h',SO w w' sb lw { x with P:=P } t' fr ls (bC S g k i) h'/\(∀ j,¬(4096*g+i*aB k<=j/\j<4096*g+i*aB k+8)->t'.f j=t.f j)/\t'.m.n=t.m.n) (kp:Kt (bM x sb) W w')
 | rel (hl:(S.fl g).length+1=aF k) (so:zN w W sb lw x t fr ls S g k w')
theorem zjf{w W sb lw x t fr ls S h}(o:SO w W sb lw x t fr ls S h)(hv:eY S)(p g k i:Nat)(hl:iY x S p g k i):Calls prog 112 #[.pointer (some ⟨sb,0,none⟩),.int .u64 p] W fun e a=>e=.returned (.int .i64 0)/\GvP w W sb lw x t fr ls S g k i a:=by
 obtain⟨v,hB,hg,hQ,hN,hp⟩:=o.jk hl;obtain⟨hc,hi,hn,c7⟩:=hl;obtain⟨U,sp⟩:=o.si.pg g k hc;have F:=cV U;have f:=hv g k hc;obtain⟨c3,c4,a9,d0⟩:=o.mem hc;have n4:=o.po.en.2.2.2.1;have c5:=fT (x:=x) (p:=g) U hi (by omega);have LV:=aA (show Calls prog 151 #[.pointer (some ⟨sb,0,none⟩),.int .u64 p] W fun e a=>e=.returned (.tuple #[kX (g:Int) (i:Int) (t.m.pg g),.bool true])/\Kt nO W a from by have:=wI o.sw p hp hB;unfold fD at v;rw[hB,bf] at v;rw[v,hg,hN,hQ] at this;exact this)
 obtain⟨q,hq⟩:=xe (t.m.pg g);have HC:=aA (show q.cl=(k:Int)from by rw[hq];exact sp.cl);obtain⟨lv,l⟩:=xe (aF k-(S.fl g).length);have HL:=aA (show q.lv=(lv:Int)from by rw[hq,l];exact sp.lv);have HF:=aA (show q.fs=bB (S.fl g)from by rw[hq];exact sp.fs);have A:q.fs = -1\/∃ j:Nat,j<=256/\q.fs=(j:Int):=by
  rw[HF.o];rcases pA (S.fl g)with e|⟨r,e,hr⟩
  ·exact .inl e
  ·refine .inr ⟨r,?_,e⟩;have:=(o.si.fl g k hc).2.1 r hr;omega
 rw[<-hq] at LV;have OW:=aA (show ∀ W',SW w W' sb lw x t h->Calls prog 165 #[.pointer (some ⟨x.m,0,none⟩),.int .i64 g,.int .i64 i,.bool false] W' fun e a=>e=.returned (.int .i64 (eB t.m (g:Int) (i:Int) false))/\SW w a sb lw x { t with m:=bU t.m (g:Int) (i:Int) false } h/\Kt (aC x) W' a from fun W' s=>AM s (g:Int) (i:Int) false);generalize eB t.m (g:Int) (i:Int) false=oe at *;obtain⟨G,z⟩:=xe (bU t.m (g:Int) (i:Int) false);have RL:=aA (show ∀ W',SW w W' sb lw x { t with m:=G } h->Kt (aC x) W W'->(S.fl g).length+1=aF k->Calls prog 166 #[.pointer (some ⟨sb,0,none⟩),.int .i64 g,.int .i64 k] W' fun e a=>e=.returned (.int .i64 0)/\GvP w W sb lw x t fr ls S g k i a from fun W' s Y hl=>by rw[z] at s;refine(zjP o g k i hc hi hn (fun e=>by rw[e,List.length_nil] at hl;omega) s).mono ?_;rintro e a ⟨rfl,P,t',h',h1,h2,B,c⟩;exact⟨rfl,.rel hl ⟨P,t',h',h1,h2,B,(Y.mono (fun _ _ e=>.inl e)).trans c (fun _ _ e=>e) (fun _ _ e=>e)⟩⟩)
 have PT:=aA (show ∀ W',SW w W' sb lw x { t with m:=G } h->Calls prog 168 #[.pointer (some ⟨sb,0,none⟩),.int .i64 g,.int .i64 k] W' fun e a=>e=.returned (.tuple #[])/\SW w a sb lw x { t with m:=eA G h (g:Int) k } (cO h k (g:Int))/\Kt (bM x sb) W' a from fun W' s=>AJ s (g:Int) k U);have EN:=aA (show ∀ W',SW w W' sb lw x { t with m:=kU t.m h g k i (S.fl g) } (gD h g k (S.fl g))->Kt (bM x sb) W W'->(S.fl g).length+1<aF k->Calls prog 169 #[.pointer (some ⟨sb,0,none⟩),kX (g:Int) (i:Int) q,.int .u64 p] W' fun e a=>e=.returned (.tuple #[])/\GvP w W sb lw x t fr ls S g k i a from fun W' s Y hl=>by
  have c2:M.In x.bS x.n p 8:=by have hz:=cM U;unfold M.In;have e:aM x g k i=x.bS+4096*g+i*aB k:=rfl;omega
  refine(XL s g i k p q (by omega) U HC.o A hp c2).mono ?_;rintro e a ⟨rfl,h1,h2⟩;have c6:p-x.bS=4096*g+i*aB k:=by have e:aM x g k i=x.bS+4096*g+i*aB k:=rfl;omega
  rw[c6,HF.o,VI] at h1;have so:=o.kf hc hi hn f h1;refine⟨rfl,.back hl ⟨_,_,_,so,fun j hj=>M.upd_out _ _ _ _ _ hj,?_⟩ (Y.trans (h2.mono (fun _ _ e=>.inl e)) (fun _ _ e=>e) (fun _ _ e=>e))⟩;have B:=so.st;have c:=o.st;have h5:(iO t.m h g k i (S.fl g)).n*4096=x.n:=B;show(iO t.m h g k i (S.fl g)).n=t.m.n
  omega)
 have Z:=aA (show ∀ W',SW w W' sb lw x { t with m:=G } h->Calls prog 167 #[.int .i64 k] W' fun e a=>e=.returned (.int .i64 ((aF k:Nat):Int))/\a=W' from fun W' s=>EK s k U);obtain⟨N,C⟩:=xe (aF k);rw[<-C] at Z;obtain⟨l1,V⟩:=xe (lv-1);obtain⟨T,a8⟩:=xe (N-1);have d2:(lv:Int)-1=(l1:Int):=by omega
 have d4:l1<=256:=by omega
 have d3:(N:Int)-1=(T:Int):=by omega
 have d5:T<=256:=by omega
 have d7:N<=256:=by omega
 have d1:lv<=256:=by omega
 have hx:=QS f F.2.1 l V C a8;have X1:=aA hx.1;have X2:=aA hx.2.1;have X3:=aA hx.2.2;clear hx;have X4:=aA F.2.1;have GN:=aA (show kU t.m h g k i (S.fl g)=(if S.fl g=[] then eA G h (g:Int) k else G)from by unfold kU;rw[z]);have HS:=aA o.sw;rw[<-z] at OW;clear o hv v hB hg hQ hN hp hc hi hn c7 sp f c3 c4 a9 d0 n4 c5 hq l A z C V a8 F;go_enter func112,ntmps112;go_wp2_with fail;refine LV.o.mono ?_;rintro e X ⟨rfl,u⟩;have K1:=aA (u.alloc (dP (g:Int) (i:Int) q));have Y1:=aA (nH X (dP (g:Int) (i:Int) q));have S1:=aA (HS.o.dk K1.o);have NY:=aA (show ¬(aC x X.heap.size\/X.heap.size=sb)from fun e=>by
  rcases e with e|e
  ·exact absurd ((HS.o.dk u).pl.lt _ (.inl e)) (de _)
  ·have:=lH (HS.o.dk u).bx;omega)
 clear u;go_upto_region 4 with fail;generalize X.heap.size=y at *;generalize X.alloc (dP (g:Int) (i:Int) q)=W1 at *;have CQ:=aA (show ∀ W':Wd,W'.heap[y]?=some (dP (g:Int) (i:Int) q)->W'.cell? ⟨y,0,none⟩=some (.int .i64 g)/\W'.cell? ⟨y,1,none⟩=some (.int .i64 i)/\W'.cell? ⟨y,4,none⟩=some (.int .i64 k)/\W'.cell? ⟨y,5,none⟩=some (.int .i64 lv)from fun W' hW=>by obtain⟨a0,a1,a2,a3,a4,a5,_⟩:=cQ hW;rw[HC.o] at a4;rw[HL.o] at a5;exact⟨a0,a1,a4,a5⟩)
 have KD:=aA ((kz W1).drew);have K2:=aA (nT K1.o KD.o);have S2:=aA (HS.o.dk K2.o);have Y2:=aA ((KD.o.block _ (lH Y1.o) id).trans Y1.o);have MP:=aA (bR S2.o.pl);obtain⟨p0,p1,p4,p5⟩:=CQ.o _ Y2.o;obtain⟨c0,c1⟩:=S2.o.c0;go_region_held3 (fun a=>a.cell? ⟨sb,0,none⟩=some (.pointer (some ⟨lw,0,none⟩))/\a.cell? ⟨y,0,none⟩=some (.int .i64 g)/\a.cell? ⟨y,1,none⟩=some (.int .i64 i)) ((refine⟨?_,?_,?_⟩ <;> first|with_reducible assumption|fail)) (first
  | (go_at_call 165;(with_reducible refine(OW.o _ S2.o).mono ?_);rintro e w3 ⟨rfl,I,Q⟩;obtain⟨f0,f1⟩:=I.c0;have Y3:=aA ((Q.block _ (lH Y2.o) (fun e=>NY.o (.inl e))).trans Y2.o);obtain⟨g0,g1,g4,g5⟩:=CQ.o _ Y3.o;have S3:=aA I;have K3:=aA (K2.o.trans Q (fun _ _ e=>e.elim) (fun _ _ e=>e));clear I Q)
  | (go_at_call 38;(with_reducible refine MP.o.mono ?_);rintro e w3 ⟨rfl,B⟩;replace B:=B.symm;subst B)
  | fail)
 all_goals
  clear p0 p1 p4 p5 c0 c1 MP;by_cases hz:l1=0;·have hb:((l1:Int) == 0)=true:=(by rw[cu];omega);have c8:=aA (X1.o.1 hz);have RR:=aA (RL.o _ S3.o K3.o c8.o);subst hz;as_aux_lemma=>go_wp2_with fail;refine RR.o.mono ?_;rintro e w4 ⟨rfl,c⟩;have D:=aA c;clear c;go_wp2_with fail;exact⟨rfl,.int .i64 0,by simp[results,results112,go_sem],rfl,D.o⟩
  ·have hb:((l1:Int) == 0)=false:=(by rw[ag];omega);have d9:¬(l1:Int)=0:=(by omega);have a6:=aA (X3.o.resolve_left (fun e=>hz (X1.o.2 e)));have CL:=aA (Z.o _ S3.o);clear hz;by_cases d:l1=T
   ·have b:S.fl g=[]:=List.length_eq_zero_iff.1 (X2.o.1 d);have PP:=aA (PT.o _ S3.o);have EE:=aA (show ∀ W',SW w W' sb lw x { t with m:=eA G h (g:Int) k } (cO h k (g:Int))->Kt (bM x sb) W W'->Calls prog 169 #[.pointer (some ⟨sb,0,none⟩),kX (g:Int) (i:Int) q,.int .u64 p] W' fun e a=>e=.returned (.tuple #[])/\GvP w W sb lw x t fr ls S g k i a from fun W' s Y=>by
     refine EN.o W' ?_ Y a6.o;rw[GN.o,ae b,show gD h g k (S.fl g)=cO h k (g:Int)from by unfold gD;rw[ae b]];exact s)
    have c9:((l1:Int) == (T:Int))=true:=(by rw[cu];omega);have d6:=aA d;clear d b;as_aux_lemma=>go_wp2_with fail;refine CL.o.mono ?_;rintro e w4 ⟨rfl,c⟩;replace c:=c.symm;subst c;go_wp2_with fail;refine PP.o.mono ?_;rintro e w5 ⟨rfl,a7,L⟩;have E5:=aA (EE.o _ a7 ((K3.o.mono (fun _ _ e=>.inl e)).trans L (fun _ _ e=>e) (fun _ _ e=>e)));have Y5:=aA ((L.block _ (lH Y3.o) NY.o).trans Y3.o);clear a7 L g0 g1 g4 g5 f0 f1 CL PP;obtain⟨b0,b1,b2,b3,b4,b5,b6,b7,b8,b9,K,E,J⟩:=cQ Y5.o;go_wp2_with fail;refine E5.o.mono ?_;rintro e w6 ⟨rfl,h6⟩;have D:=aA h6;clear h6 b0 b1 b2 b3 b4 b5 b6 b7 b8 b9 K E J;go_wp2_with fail;exact⟨rfl,.int .i64 0,by simp[results,results112,go_sem],rfl,D.o⟩
   ·have b:S.fl g≠[]:=fun e=>d (X2.o.2 (by rw[e];rfl))
    have EE:=aA (show Calls prog 169 #[.pointer (some ⟨sb,0,none⟩),kX (g:Int) (i:Int) q,.int .u64 p] _ fun e a=>e=.returned (.tuple #[])/\GvP w W sb lw x t fr ls S g k i a from by refine EN.o _ ?_ (K3.o.mono (fun _ _ e=>.inl e)) a6.o;rw[GN.o,ac b,show gD h g k (S.fl g)=h from by unfold gD;rw[ac b]];exact S3.o)
    have c9:((l1:Int) == (T:Int))=false:=(by rw[ag];omega);have d8:¬(l1:Int)=T:=(by omega);clear d b;as_aux_lemma=>go_wp2_with fail;refine CL.o.mono ?_;rintro e w4 ⟨rfl,c⟩;replace c:=c.symm;subst c;clear g0 g1 g4 g5;obtain⟨b0,b1,b2,b3,b4,b5,b6,b7,b8,b9,K,E,J⟩:=cQ Y3.o;go_wp2_with fail;refine EE.o.mono ?_;rintro e w6 ⟨rfl,h6⟩;have D:=aA h6;clear h6 b0 b1 b2 b3 b4 b5 b6 b7 b8 b9 K E J;go_wp2_with fail;exact⟨rfl,.int .i64 0,by simp[results,results112,go_sem],rfl,D.o⟩
theorem eY.nu{S:Sb}{p k i:Nat}{r:List Nat}(h:∀ a c,a≠p->S.c a=some c->(S.fl a).length<aF c)(hc:S.c p=some k)(hf:S.fl p=i :: r)(hl:(S.fl p).length<=aF k):eY (bA S p k r):=by
 intro a c ha;replace ha:S.c a=some c:=ha;show(aQ S.fl p r a).length<aF c
 by_cases e:a=p
 ·subst e;rw[hc] at ha
  cases ha
  rw[bP];rw[hf,ee] at hl;omega
 ·rw[bQ _ _ e];exact h a c e ha
theorem eY.old{w W sb lw x t fr ls S h}(o:SO w W sb lw x t fr ls S h)(v:eY S){p k i:Nat}{l r:List Nat}(b:k<8)(hl:S.pl k=p :: l)(hf:S.fl p=i :: r):eY (bA S p k r):=by have hc:=((o.si.pm k b p).1 (by rw[hl];exact aw)).1;exact eY.nu (fun a c _ ha=>v a c ha) hc hf (o.si.lv p k hc)
theorem eY.new{S:Sb}(v:eY S){p k:Nat}(f:k<8):eY (bA (bJ S p k) p k (List.range' 1 (aF k-1))):=by
 have d:=cV f;have e:(bJ S p k).fl p=List.range' 0 (aF k):=bP _ _ _;refine eY.nu (i:=0) (fun a c ha hc=>?_) (bP _ _ _) ?_ ?_;·rw[show(bJ S p k).c a=S.c a from bQ _ _ ha] at hc;rw[show(bJ S p k).fl a=S.fl a from bQ _ _ ha];exact v a c hc
 ·rw[e];obtain⟨m,b⟩:∃ m,aF k=m+1:=⟨aF k-1,by omega⟩;rw[b];rfl
 ·rw[e,List.length_range'];exact aj _
theorem eY.back{S:Sb}(v:eY S){p k i:Nat}(hc:S.c p=some k)(hl:(S.fl p).length+1<aF k):eY (bC S p k i):=by
 intro a c ha;replace ha:S.c a=some c:=ha;show(aQ S.fl p (i :: S.fl p) a).length<aF c
 by_cases e:a=p
 ·subst e;rw[hc] at ha
  cases ha
  rw[bP,ee];exact hl
 ·rw[bQ _ _ e];exact v a c ha
theorem eY.rel{S:Sb}(v:eY S)(p k:Nat):eY (bZ S p k):=by
 intro a c ha;replace ha:aQ S.c p none a=some c:=ha;by_cases e:a=p
 ·rw[e,bP] at ha
  cases ha
 ·rw[bQ _ _ e] at ha;exact v a c ha
theorem SO.new{w W sb lw x t}(a:PO w W lw x t (fun _=>[]) [])(sw:SW w W sb lw x t (fun _ => -1))(c:x.P=fun _=>none):SO w W sb lw x t (fun _=>[]) [] ⟨fun _=>none,fun _=>[],fun _=>[]⟩ (fun _ => -1):=by
 refine⟨sw,a.sf,a.st,a.bm,⟨?_,fun p k h=>?_,fun p k h=>?_,fun p k h=>?_,fun k b=>List.nodup_nil,fun k b p=>?_⟩,fun k b=>rfl⟩
 ·rw[c];funext p
  exact(iU rfl).symm
 ·cases h
 ·cases h
 ·cases h
 ·constructor
  ·intro h;cases h
  ·rintro ⟨h,_⟩;cases h
theorem eY.none:eY ⟨fun _=>Option.none,fun _=>[],fun _=>[]⟩:=fun p k h=>by cases h
def aR(x:Bx)(ls:List (Nat×Nat))(S:Sb)(p s:Nat):Prop:=(∃ g k i,iY x S p g k i/\s=aB k)\/(∃ q k,(q,k)∈ls/\S.c q=none/\p=ad x q/\s=4096*2 ^ k)
theorem wO:∀ (n:Nat) (l:List Nat),l.Nodup->(∀ i∈l,i<n)->l.length<=n
 | 0,l,hd,h=>by
  cases l with
  | nil=>exact aj _
  | cons a l=>exact absurd (h a aw) (Nat.not_lt_zero _)
 | n+1,l,hd,h=>by
  by_cases c:n∈l
  ·have:=wO n (l.erase n) (hd.erase n) (fun i hi=>by
    have b:=(hd.mem_erase_iff).1 hi;have:=h i b.2;have:=b.1;omega)
   rw[dp c] at this;omega
  ·have:=wO n l hd (fun i hi=>by
    have:=h i hi;have:i≠n:=fun e=>c (e▸hi)
    omega)
   omega
section
variable {w W:Wd} {sb lw:Nat} {x:Bx} {t:Bt} {fr:Nat->List Nat} {ls:List (Nat×Nat)} {S:Sb} {h:Nat->Int}
theorem SO.apart(o:SO w W sb lw x t fr ls S h){p k q j:Nat}(hp:(p,k)∈ls)(hq:(q,j)∈ls):(p=q/\k=j)\/p+2 ^ k<=q\/q+2 ^ j<=p:=by
 obtain⟨B,s,c,hL⟩:=o.sf;rcases s.ds _ _ _ _ _ _ ((hL p k).2 hp) ((hL q j).2 hq)with ⟨_,b,a⟩|e|e
 ·exact .inl ⟨b,a⟩
 ·exact .inr (.inl e)
 ·exact .inr (.inr e)
theorem SO.al(o:SO w W sb lw x t fr ls S h){p k:Nat}(hp:(p,k)∈ls):k<=x.o/\p%2 ^ k=0/\p+2 ^ k<=t.m.n:=o.sf.sn.al hp
theorem SO.span(o:SO w W sb lw x t fr ls S h){p s:Nat}(hl:aR x ls S p s) : 0<s/\∃ q k,(q,k)∈ls/\ad x q<=p/\p+s<=ad x q+4096*2 ^ k:=by
 rcases hl with ⟨g,k,i,⟨a,c,f,rfl⟩,rfl⟩|⟨q,k,a,c,rfl,rfl⟩
 ·have b:=(o.si.pg g k a).1;have hz:=cM b;have d:=o.mem a;have e:=o.po.en.2.2.2.1;have hc:=fT (x:=x) (p:=g) b c (by omega);refine⟨by omega,g,0,d.1,?_,?_⟩
  ·unfold aM ad;omega
  ·unfold aM ad;rw[Nat.pow_zero];omega
 ·have : 0<2 ^ k:=ap (by decide);exact⟨by omega,q,k,a,aj _,aj _⟩
theorem SO.inside(o:SO w W sb lw x t fr ls S h){p s:Nat}(hl:aR x ls S p s):x.bS<=p/\p+s<=x.bS+x.n:=by obtain⟨_,q,k,a,e,c⟩:=o.span hl;have b:=(o.al a).2.2;have d:=o.st;have:(q+2 ^ k)*4096<=t.m.n*4096:=ak _ b;unfold ad at e c;omega
theorem SO.two(o:SO w W sb lw x t fr ls S h){p s f v:Nat}(E:aR x ls S p s)(B:aR x ls S f v):(p=f/\s=v)\/p+s<=f\/f+v<=p:=by
 have C:∀ {g k i q j:Nat},iY x S (aM x g k i) g k i->(q,j)∈ls->S.c q=none->aM x g k i+aB k<=ad x q\/ad x q+4096*2 ^ j<=aM x g k i:=by
  intro g k i q j hl hq A;obtain⟨a,l,D,_⟩:=hl;have y:=(o.si.pg g k a).1;have z:=o.mem a;have J:=o.po.en.2.2.2.1;have hc:=fT (x:=x) (p:=g) y l (by omega);rcases o.apart z.1 hq with ⟨rfl,_⟩|e|e
  ·rw[a] at A;cases A
  ·left;unfold aM ad;omega
  ·right;unfold aM ad;omega
 rcases E with ⟨g,k,i,l1,rfl⟩|⟨q,k,b1,b2,rfl,rfl⟩
 ·have F:p=aM x g k i:=l1.2.2.2;subst F;rcases B with ⟨b,m,d,l2,rfl⟩|⟨q,j,b1,b2,rfl,rfl⟩
  ·have r:f=aM x b m d:=l2.2.2.2;subst r;by_cases e:g=b
   ·subst e;obtain⟨a,l,D,_⟩:=l1;obtain⟨c1,c2,c3,_⟩:=l2;rw[a] at c1;injection c1 with c1
    subst c1;rcases Nat.lt_trichotomy i d with e|rfl|e
    ·right;left
     have:(i+1)*aB k<=d*aB k:=ak _ e;rw[av,aL] at this;unfold aM;omega
    ·exact .inl ⟨rfl,rfl⟩
    ·right;right
     have:(d+1)*aB k<=i*aB k:=ak _ e;rw[av,aL] at this;unfold aM;omega
   ·obtain⟨a,l,D,_⟩:=l1;obtain⟨c1,c2,c3,_⟩:=l2;have y:=(o.si.pg g k a).1;have u:=(o.si.pg b m c1).1;have z:=o.mem a;have I:=o.mem c1;have J:=o.po.en.2.2.2.1;have hc:=fT (x:=x) (p:=g) y l (by omega);have G:=fT (x:=x) (p:=b) u c2 (by omega);unfold aM;rcases Nat.lt_or_gt_of_ne e with e|e
    ·right;left;omega
    ·right;right;omega
  ·exact .inr (C l1 b1 b2)
 ·rcases B with ⟨b,m,d,l2,rfl⟩|⟨K,j,c1,c2,rfl,rfl⟩
  ·have r:f=aM x b m d:=l2.2.2.2;subst r;exact .inr (C l2 b1 b2).symm
  ·rcases o.apart b1 c1 with ⟨rfl,rfl⟩|e|e
   ·exact .inl ⟨rfl,rfl⟩
   ·right;left;unfold ad;omega
   ·right;right;unfold ad;omega
end
theorem qH{x x':Bx}(hb:x'.bS=x.bS){ls:List (Nat×Nat)}{S:Sb}{p s:Nat} : aR x' ls S p s↔aR x ls S p s:=by unfold aR iY aM ad;rw[hb]
section
variable {w W:Wd} {sb lw:Nat} {x:Bx} {t:Bt} {fr:Nat->List Nat} {ls:List (Nat×Nat)} {S:Sb} {h:Nat->Int} {n:Nat}
variable {w2 W2:Wd} {sb2 lw2:Nat} {x':Bx} {t':Bt} {fr':Nat->List Nat} {eF:List (Nat×Nat)} {S':Sb} {h':Nat->Int}
theorem SO.gx(o:SO w W sb lw x t fr ls S h){g k i b f j:Nat}(l:S.c g=some k)(q:i<aF k)(a:S.c b=some f)(r:j<aF f)(e:aM x g k i=aM x b f j):g=b/\k=f/\i=j:=by
 have m:=(o.si.pg g k l).1;have d:=(o.si.pg b f a).1;have A:=o.mem l;have y:=o.mem a;have B:=o.po.en.2.2.2.1;have hc:=fT (x:=x) (p:=g) m q (by omega);have v:=fT (x:=x) (p:=b) d r (by omega);have hz:=cM m;have z:=cM d;unfold aM at e;have u:g=b:=by omega
 subst u;rw[l] at a;injection a with a
 subst a;refine⟨rfl,rfl,?_⟩;have:i*aB k=j*aB k:=by omega
 exact Nat.eq_of_mul_eq_mul_right (by omega) this
theorem SO.kg(o:SO w W sb lw x t fr ls S h){p k i:Nat}(hc:S.c p=some k)(hi:i∈S.fl p)(s:Nat):¬aR x ls S (aM x p k i) s:=by
 have a:=(o.si.fl p k hc).2.1 i hi;rintro (⟨g,y,A,⟨d,b,f,u⟩,_⟩|⟨q,j,d,b,f,_⟩);·obtain⟨rfl,rfl,rfl⟩:=o.gx hc a d b u;exact f hi
 ·have l:=(o.si.pg p k hc).1;have m:=o.mem hc;have z:=o.po.en.2.2.2.1;have v:=fT (x:=x) (p:=p) l a (by omega);have hz:=cM l;have r : 0<2 ^ j:=ap (by decide);unfold aM ad at f;rcases o.apart m.1 d with ⟨e,_⟩|e|e
  ·rw[<-e,hc] at b;cases b
  ·omega
  ·omega
theorem YV(o:SO w W sb lw x t fr ls S h){p k i:Nat}{r:List Nat}(hc:S.c p=some k)(hf:S.fl p=i :: r)(a s:Nat):aR x ls (bA S p k r) a s↔aR x ls S a s\/(a=aM x p k i/\s=aB k):=by
 obtain⟨n1,A,_⟩:=o.si.fl p k hc;rw[hf,dr] at n1;have y:=A i (by rw[hf];exact aw);constructor
 ·rintro (⟨g,v,m,⟨d,l,b,f⟩,u⟩|⟨q,j,d,l,b,f⟩)
  ·replace d:S.c g=some v:=d;replace b:m ∉ aQ S.fl p r g:=b;by_cases e:g=p
   ·subst e;rw[hc] at d;injection d with d
    subst d;rw[bP] at b;by_cases z:m=i;·subst z;exact .inr ⟨f,u⟩
    ·refine .inl (.inl ⟨g,k,m,⟨hc,l,?_,f⟩,u⟩);rw[hf,eg,not_or];exact⟨z,b⟩
   ·rw[bQ _ _ e] at b;exact .inl (.inl ⟨g,v,m,⟨d,l,b,f⟩,u⟩)
  ·exact .inl (.inr ⟨q,j,d,l,b,f⟩)
 ·rintro ((⟨g,v,m,⟨d,l,b,f⟩,u⟩|⟨q,j,d,l,b,f⟩)|⟨rfl,rfl⟩)
  ·refine .inl ⟨g,v,m,⟨d,l,?_,f⟩,u⟩;show m ∉ aQ S.fl p r g
   by_cases e:g=p;·subst e;rw[bP];rw[hf,eg,not_or] at b;exact b.2
   ·rw[bQ _ _ e];exact b
  ·exact .inr ⟨q,j,d,l,b,f⟩
  ·refine .inl ⟨p,k,i,⟨hc,y,?_,rfl⟩,rfl⟩;show i ∉ aQ S.fl p r p
   rw[bP];exact n1.1
theorem YU{p k:Nat}(z:k<8)(hc:S.c p=none)(v:∀ i,(p,i) ∉ ls)(a s:Nat):aR x (ls ++ [(p,0)]) (bA (bJ S p k) p k (List.range' 1 (aF k-1))) a s↔aR x ls S a s\/(a=aM x p k 0/\s=aB k):=by
 have y:=cV z;constructor
 ·rintro (⟨g,r,m,⟨b,d,f,l⟩,u⟩|⟨q,j,b,d,f,l⟩)
  ·replace b:aQ S.c p (some k) g=some r:=b;replace f:m ∉ aQ (aQ S.fl p (List.range' 0 (aF k))) p (List.range' 1 (aF k-1)) g:=f;by_cases e:g=p
   ·subst e;rw[bP] at b f;injection b with b
    subst b;have o:m=0:=by
     rcases dx m with o|o
     ·exact o
     ·exact absurd (List.mem_range'_1.2 ⟨o,by omega⟩) f
    subst o;exact .inr ⟨l,u⟩
   ·rw[bQ _ _ e] at b;rw[bQ _ _ e,bQ _ _ e] at f;exact .inl (.inl ⟨g,r,m,⟨b,d,f,l⟩,u⟩)
  ·replace d:aQ S.c p (some k) q=none:=d;have e:q≠p:=fun e=>by rw[e,bP] at d;cases d
   rw[bQ _ _ e] at d;refine .inl (.inr ⟨q,j,?_,d,f,l⟩);rcases List.mem_append.1 b with b|b
   ·exact b
   ·rw[List.mem_singleton] at b;injection b with b
    exact absurd b e
 ·rintro ((⟨g,r,m,⟨b,d,f,l⟩,u⟩|⟨q,j,b,d,f,l⟩)|⟨rfl,rfl⟩)
  ·have e:g≠p:=fun e=>by rw[e,hc] at b;cases b
   refine .inl ⟨g,r,m,⟨?_,d,?_,l⟩,u⟩
   ·show aQ S.c p (some k) g=some r
    rw[bQ _ _ e];exact b
   ·show m ∉ aQ (aQ S.fl p (List.range' 0 (aF k))) p (List.range' 1 (aF k-1)) g
    rw[bQ _ _ e,bQ _ _ e];exact f
  ·have e:q≠p:=fun e=>v j (e▸b)
   refine .inr ⟨q,j,List.mem_append_left _ b,?_,f,l⟩;show aQ S.c p (some k) q=none
   rw[bQ _ _ e];exact d
  ·refine .inl ⟨p,k,0,⟨bP _ _ _,by omega,?_,rfl⟩,rfl⟩;show 0 ∉ aQ (aQ S.fl p (List.range' 0 (aF k))) p (List.range' 1 (aF k-1)) p
   rw[bP,List.mem_range'_1];omega
theorem zkC(o:SO w W sb lw x t fr ls S h){p k i:Nat}(A:iY x S (aM x p k i) p k i)(a s:Nat):aR x ls (bC S p k i) a s↔aR x ls S a s/\a≠aM x p k i:=by
 obtain⟨hc,hi,z,_⟩:=A;constructor
 ·rintro (⟨g,r,m,⟨d,l,b,f⟩,u⟩|⟨q,j,d,l,b,f⟩)
  ·replace d:S.c g=some r:=d;replace b:m ∉ aQ S.fl p (i :: S.fl p) g:=b;have v:m ∉ S.fl g:=by
    by_cases e:g=p;·subst e;rw[bP,eg,not_or] at b;exact b.2
    ·rw[bQ _ _ e] at b;exact b
   refine⟨.inl ⟨g,r,m,⟨d,l,v,f⟩,u⟩,fun e=>?_⟩;rw[f] at e;obtain⟨rfl,rfl,rfl⟩:=o.gx d l hc hi e;rw[bP,eg,not_or] at b;exact b.1 rfl
  ·have hl:aR x ls S a s:=.inr ⟨q,j,d,l,b,f⟩;refine⟨hl,fun e=>?_⟩;have B:=(o.si.pg p k hc).1;have hz:=cM B;have C : 0<2 ^ j:=ap (by decide);rcases o.two hl (.inl ⟨p,k,i,⟨hc,hi,z,rfl⟩,rfl⟩)with ⟨_,y⟩|y|y <;> omega
 ·rintro ⟨⟨g,r,m,⟨d,l,b,f⟩,u⟩|⟨q,j,d,l,b,f⟩,v⟩
  ·refine .inl ⟨g,r,m,⟨d,l,?_,f⟩,u⟩;show m ∉ aQ S.fl p (i :: S.fl p) g
   by_cases e:g=p
   ·subst e;rw[hc] at d;injection d with d
    subst d;rw[bP,eg,not_or];exact⟨fun e=>v (by rw[f,e]),b⟩
   ·rw[bQ _ _ e];exact b
  ·exact .inr ⟨q,j,d,l,b,f⟩
theorem YT(o:SO w W sb lw x t fr ls S h){p k i:Nat}(C:iY x S (aM x p k i) p k i)(hl:(S.fl p).length+1=aF k)(a s:Nat):aR x (dR ls p) (bZ S p k) a s↔aR x ls S a s/\a≠aM x p k i:=by
 obtain⟨hc,hi,B,_⟩:=C;obtain⟨n1,D,_⟩:=o.si.fl p k hc;constructor
 ·rintro (⟨g,y,z,⟨b,d,m,l⟩,A⟩|⟨q,j,b,d,m,l⟩)
  ·replace b:aQ S.c p none g=some y:=b;have e:g≠p:=fun e=>by rw[e,bP] at b;cases b
   rw[bQ _ _ e] at b;refine⟨.inl ⟨g,y,z,⟨b,d,m,l⟩,A⟩,fun r=>?_⟩;rw[l] at r;exact e (o.gx b d hc hi r).1
  ·obtain⟨b,u⟩:=List.mem_filter.1 b;have u:q≠p:=bw u;replace d:aQ S.c p none q=none:=d;rw[bQ _ _ u] at d;have v:aR x ls S a s:=.inr ⟨q,j,b,d,m,l⟩;refine⟨v,fun e=>?_⟩;have F:=(o.si.pg p k hc).1;have hz:=cM F;have G : 0<2 ^ j:=ap (by decide);rcases o.two v (.inl ⟨p,k,i,⟨hc,hi,B,rfl⟩,rfl⟩)with ⟨_,r⟩|r|r <;> omega
 ·rintro ⟨⟨g,y,z,⟨b,d,m,l⟩,A⟩|⟨q,j,b,d,m,l⟩,E⟩
  ·have e:g≠p:=fun e=>by
    subst e;rw[hc] at b;injection b with b
    subst b;have r:z≠i:=fun e=>E (by rw[l,e])
    have u:=wO (aF k) (z :: i :: S.fl g) (by
     rw[dr,dr,eg,not_or];exact⟨⟨r,m⟩,B,n1⟩) (fun c f=>by
     rcases eg.1 f with rfl|f
     ·exact d
     ·rcases eg.1 f with rfl|f
      ·exact hi
      ·exact D c f)
    rw[ee,ee] at u;omega
   refine .inl ⟨g,y,z,⟨?_,d,m,l⟩,A⟩;show aQ S.c p none g=some y
   rw[bQ _ _ e];exact b
  ·have e:q≠p:=fun e=>by rw[e,hc] at d;cases d
   refine .inr ⟨q,j,List.mem_filter.2 ⟨b,af e⟩,?_,m,l⟩;show aQ S.c p none q=none
   rw[bQ _ _ e];exact d
theorem JA{p k:Nat}(hc:S.c p=none)(a s:Nat):aR x (ls ++ [(p,k)]) S a s↔aR x ls S a s\/(a=ad x p/\s=4096*2 ^ k):=by
 constructor
 ·rintro (b|⟨q,j,b,f,d,e⟩)
  ·exact .inl (.inl b)
  ·rcases List.mem_append.1 b with b|b
   ·exact .inl (.inr ⟨q,j,b,f,d,e⟩)
   ·rw[List.mem_singleton] at b;injection b with e1 e2
    subst e1 e2;exact .inr ⟨d,e⟩
 ·rintro ((b|⟨q,j,b,f,d,e⟩)|⟨d,e⟩)
  ·exact .inl b
  ·exact .inr ⟨q,j,List.mem_append_left _ b,f,d,e⟩
  ·exact .inr ⟨p,k,List.mem_append_right _ (List.mem_singleton.2 rfl),hc,d,e⟩
theorem EJ(o:SO w W sb lw x t fr ls S h){p k:Nat}(hp:(p,k)∈ls)(hc:S.c p=none)(a s:Nat):aR x (dR ls p) S a s↔aR x ls S a s/\a≠ad x p:=by
 constructor
 ·rintro (⟨g,r,y,i,v⟩|⟨q,j,b,f,d,l⟩)
  ·refine⟨.inl ⟨g,r,y,i,v⟩,fun e=>?_⟩;have hz:=cM (o.si.pg g r i.1).1;have A : 0<2 ^ k:=ap (by decide);rcases o.two (.inl ⟨g,r,y,i,v⟩) (.inr ⟨p,k,hp,hc,rfl,rfl⟩)with ⟨_,u⟩|u|u <;> omega
  ·obtain⟨b,m⟩:=List.mem_filter.1 b;have m:q≠p:=bw m;refine⟨.inr ⟨q,j,b,f,d,l⟩,fun e=>m ?_⟩;rw[d] at e;unfold ad at e;omega
 ·rintro ⟨b|⟨q,j,b,f,d,l⟩,z⟩
  ·exact .inl b
  ·refine .inr ⟨q,j,List.mem_filter.2 ⟨b,af fun e=>z ?_⟩,f,d,l⟩;have e:q=p:=e;rw[d,e]
def nA(x:Bx)(ls:List (Nat×Nat))(S:Sb)(j:Nat):Prop:=∃ p s,aR x ls S p s/\p<=x.bS+j/\x.bS+j<p+s
theorem SO.byte(o:SO w W sb lw x t fr ls S h){j:Nat}(c:nA x ls S j):Lv ls (j/4096):=by
 obtain⟨p,s,a,g,f⟩:=c;obtain⟨_,q,k,b,d,e⟩:=o.span a;unfold ad at d e;refine⟨q,k,b,?_,?_⟩;·exact(Nat.le_div_iff_mul_le (by decide)).2 (by omega)
 ·exact(Nat.div_lt_iff_lt_mul (by decide)).2 (by omega)
structure Ch(x:Bx)(t:Bt)(ls:List (Nat×Nat))(S:Sb)(x':Bx)(t':Bt)(eF:List (Nat×Nat))(S':Sb):Prop where
 bS:x'.bS=x.bS
 R:x'.R=x.R
 dl:x'.dl=x.dl
 o:x'.o=x.o
 kb:∀ j,nA x ls S j->nA x' eF S' j->t'.f j=t.f j
end
open Go.MuLone
def KW(w:Wd):Type:={ W:Wd // Kt nO w W }
def KW.v{w:Wd}(x:KW w):Wd:=x.1
theorem KW.k{w:Wd}(x:KW w):Kt nO w x.v:=x.2
instance (w:Wd):Nonempty (KW w):=⟨⟨w,Kt.refl _ _⟩⟩
theorem cR{P:Program}{id:Nat}{Q:Exit->Act->Wd->Prop}{a:Act}{w:Wd}{l:List Oper}(d:P.follows .mixedOrders=true)(c:Region.lexB .any l.toArray=true)(h:wpQuiet P l.toArray (fun b=>∃ x:KW w,b=x.v) (fun a'=>∀ x:KW w,Q .normal a' x.v) l a):(Code.region id l.toArray true).wp P Q a w:=by
 refine wp_region_quiet (C:=fun b=>∃ x:KW w,b=x.v) d c ⟨⟨w.drew,(Kt.refl _ w).drew⟩,rfl⟩ ?_;have e:(fun a'=>∀ b,(∃ x:KW w,b=x.v)->Q .normal a' b)=(fun a'=>∀ x:KW w,Q .normal a' x.v):=by
  funext a'
  exact propext ⟨fun h x=>h _ ⟨x,rfl⟩,fun h b ⟨x,hx⟩=>hx▸h x⟩
 rw[e];simpa using h
theorem Calls.ek{P:Program}{f:FuncId}{args:Array Vl}{w:Wd}{x:KW w}{v:Vl}(h:Calls P f args x.v fun e c=>e=.returned v/\Kt nO x.v c):Calls P f args x.v fun e a=>e=.returned v/\∃ y:KW w,a=y.v:=
 h.mono fun _ b ⟨he,hk⟩=>⟨he,⟨b,nT x.k hk⟩,rfl⟩
abbrev muK:Go.Conc.Locks.MuLink:={ lock:=29,unlock:=30,ilock:=70,iunlock:=71,lockSlow:=123,unlockSlow:=126,disable:=119,enable:=121,acquire:=122,relMerge:=124,cas32:=120,add32:=125,tMutex:=66,tIMutex:=64,tPMutex:=128,tPIMutex:=171,tPI32:=173,tUP:=175,tNoCopy:=61,tU32:=62 }
theorem NJ:Go.Conc.Locks.MuLib prog muK:=
 ⟨func29,func30,func70,func71,func119,func121,func122,func124,func120,func125,
 Tryz.underlying64,Tryz.runUnderlying64,Tryz.sizeOf64,Tryz.isAgg64,Tryz.zeroValue64,
 Tryz.underlying66,Tryz.runUnderlying66,Tryz.sizeOf66,Tryz.isAgg66,Tryz.zeroValue66,
 Tryz.underlying128,Tryz.runUnderlying128,Tryz.sizeOf128,Tryz.isAgg128,Tryz.zeroValue128,
 Tryz.underlying171,Tryz.runUnderlying171,Tryz.sizeOf171,Tryz.isAgg171,Tryz.zeroValue171,
 Tryz.underlying173,Tryz.runUnderlying173,Tryz.sizeOf173,Tryz.isAgg173,Tryz.zeroValue173,
 Tryz.underlying175,Tryz.runUnderlying175,Tryz.sizeOf175,Tryz.isAgg175,Tryz.zeroValue175,
 Tryz.underlying61,Tryz.runUnderlying61,Tryz.sizeOf61,Tryz.isAgg61,Tryz.zeroValue61,
 Tryz.underlying21,Tryz.runUnderlying21,Tryz.sizeOf21,Tryz.isAgg21,Tryz.zeroValue21,
 (by kernel_rfl)⟩
abbrev rP(s:Int)(lw sb bS dl o:Nat):Obj:=.cells #[.int .i32 s,.int .u32 0,.int .u64 bS,.int .i64 dl,.int .i64 o,.pointer (some ⟨lw,0,none⟩),.pointer (some ⟨sb,0,none⟩)] 68
structure HW(w W:Wd)(hb sb lw:Nat)(x:Bx)(t:Bt)(fr:Nat->List Nat)(ls:List (Nat×Nat))(S:Sb)(s:Int):Prop where
 so:∃ h,SO w W sb lw x t fr ls S h
 lv:eY S
 bx:W.heap[hb]?=some (rP s lw sb x.bS x.dl x.o)
 nw:w.heap.size<=hb
 br:x.bS%x.R=0
theorem SO.o6{w W sb lw x t fr ls S h}(s:SO w W sb lw x t fr ls S h){y:Nat}{cs:Array Vl}{z:Nat×Nat}(hy:W.heap[y]?=some (.cells cs 68 z)):¬bM x sb y:=by
 rintro (e|e);·exact absurd (s.sw.pl.pty hy (.inl e)) (by unfold Go.Proofs.YtfmgnljlkdmndaaGreatDoor.pty;decide)
 ·subst e;exact absurd (kM hy s.sw.bx) (by decide)
section
variable {w W W':Wd} {hb sb lw:Nat} {x:Bx} {t:Bt} {fr:Nat->List Nat} {ls:List (Nat×Nat)} {S:Sb} {s:Int}
theorem HW.ms(H:HW w W hb sb lw x t fr ls S s):¬bM x sb hb:=by obtain⟨h,o⟩:=H.so;exact o.o6 H.bx
theorem HW.po(H:HW w W hb sb lw x t fr ls S s):PO w W lw x t fr ls:=by obtain⟨h,o⟩:=H.so;exact o.po
theorem HW.dk(H:HW w W hb sb lw x t fr ls S s)(k:Kt nO W W'):HW w W' hb sb lw x t fr ls S s:=by obtain⟨h,o⟩:=H.so;exact⟨⟨h,o.dk k⟩,H.lv,(k.block _ (lH H.bx) id).trans H.bx,H.nw,H.br⟩
theorem HW.c(H:HW w W hb sb lw x t fr ls S s):W.cell? ⟨hb,0,none⟩=some (.int .i32 s)/\W.cell? ⟨hb,2,none⟩=some (.int .u64 x.bS)/\W.cell? ⟨hb,3,none⟩=some (.int .i64 x.dl)/\W.cell? ⟨hb,4,none⟩=some (.int .i64 x.o)/\W.cell? ⟨hb,5,none⟩=some (.pointer (some ⟨lw,0,none⟩))/\W.cell? ⟨hb,6,none⟩=some (.pointer (some ⟨sb,0,none⟩)):=by refine⟨?_,?_,?_,?_,?_,?_⟩ <;> simp[World.cell?,H.bx]
theorem HW.fz(H:HW w W hb sb lw x t fr ls S s)(j:Nat):W.frozen? ⟨hb,j,none⟩=false:=by simp[World.frozen?,H.bx]
theorem HW.call{x':Bx}{t':Bt}{fr':Nat->List Nat}{eF:List (Nat×Nat)}{S':Sb}{h':Nat->Int}(H:HW w W hb sb lw x t fr ls S s)(o:SO w W' sb lw x' t' fr' eF S' h')(v:eY S')(c:Ch x t ls S x' t' eF S')(k:Kt (bM x sb) W W'):HW w W' hb sb lw x' t' fr' eF S' s:=
 ⟨⟨h',o⟩,v,by rw[c.bS,c.dl,c.o];exact(k.block _ (lH H.bx) H.ms).trans H.bx,H.nw,by rw[c.bS,c.R];exact H.br⟩
theorem HW.set(H:HW w W hb sb lw x t fr ls S s)(v:Int):HW w (W.setCell ⟨hb,0,none⟩ (.int .i32 v)) hb sb lw x t fr ls S v/\Kt (fun y=>y=hb) W (W.setCell ⟨hb,0,none⟩ (.int .i32 v)):=by
 have kp:Kt (fun y=>y=hb) W (W.setCell ⟨hb,0,none⟩ (.int .i32 v)):=(Kt.refl (fun y=>y=hb) W).setCell (p:=⟨hb,0,none⟩) rfl _;refine⟨⟨?_,H.lv,?_,H.nw,H.br⟩,kp⟩
 ·obtain⟨h,o⟩:=H.so;have nl:∀ {y cs e z},W.heap[y]?=some (.cells cs e z)->e≠68->y≠hb:=fun hy he e=>he (kM (e▸hy) H.bx)
  have a:∀ y,(aC x y\/y=x.b\/y=x.l\/y=lw)->y≠hb:=fun y hy e=>by subst e;exact absurd (o.sw.pl.pty H.bx hy) (by unfold Go.Proofs.YtfmgnljlkdmndaaGreatDoor.pty;decide)
  refine⟨h,⟨⟨⟨(kp.block _ (lH o.sw.pl.box) (a _ (.inr (.inr (.inr rfl))))).trans o.sw.pl.box,o.sw.pl.bd.kept kp (fun y hy=>a y ?_),o.sw.pl.nw,o.sw.pl.kp.em (p:=⟨hb,0,none⟩) (fun e=>absurd H.nw (Nat.not_le.2 e)) _⟩,(kp.block _ (lH o.sw.bx) (nl o.sw.bx (by decide))).trans o.sw.bx,o.sw.nw,o.sw.tb⟩,o.sf,o.st,o.bm,o.si,o.hd⟩⟩;rcases hy with hy|hy|hy
  ·exact .inl hy
  ·exact .inr (.inl hy)
  ·exact .inr (.inr (.inl hy))
 ·rw[cD H.bx];simp
theorem HW.lock(H:HW w W hb sb lw x t fr ls S 0):Calls prog 29 #[.pointer (some ⟨hb,0,none⟩)] W fun e a=>e=.returned (.tuple #[])/\a=W.setCell ⟨hb,0,none⟩ (.int .i32 1):=lock_free NJ ⟨hb,0,none⟩ W H.c.1 (H.fz 0)
theorem HW.unlock(H:HW w W hb sb lw x t fr ls S 1)(u:FrameMode):CallsD prog 30 #[.pointer (some ⟨hb,0,none⟩)] u W fun e a b=>a=u/\(e=.returned (.tuple #[])/\b=W.setCell ⟨hb,0,none⟩ (.int .i32 0)):=unlock_deferred NJ ⟨hb,0,none⟩ u W H.c.1 (H.fz 0)
theorem HW.round{K:Nat->Prop}{w2:Wd}{b:Bx}{l:Bt}{f:Nat->List Nat}{d:List (Nat×Nat)}{p:Sb}(H:HW w W hb sb lw x t fr ls S 0)(hK:¬K hb)(k:Kt K (W.setCell ⟨hb,0,none⟩ (.int .i32 1)) w2)(m:HW w w2 hb sb lw b l f d p 1)(j:b.bS=x.bS)(c:b.dl=x.dl)(q:b.o=x.o):Kt K W (w2.setCell ⟨hb,0,none⟩ (.int .i32 0)):=by
 have a:=(H.set 1).2;refine⟨k.os.trans a.os,k.tape.trans a.tape,k.output.trans a.output,?_,fun i hi g=>?_⟩
 ·have r:=a.size;have u:=k.size;simp
  omega
 ·by_cases e:i=hb
  ·subst e;rw[cD m.bx,H.bx,j,c,q];simp
  ·rw[Below.heap_setCell w2 ⟨hb,0,none⟩ _ i (fun c=>e c),k.block i (bg hi a.size) g];exact a.block i hi e
end
inductive Pk(x:Bx)(t:Bt)(fr:Nat->List Nat)(ls:List (Nat×Nat))(S:Sb)(g:Nat):Prop where
 | fj (k:Nat) (hc:S.c g=some k)
 | big (q k:Nat) (hm:(q,k)∈ls) (hc:S.c q=none) (hg:S.c g=none) (h1:q<=g) (h2:g<q+2 ^ k) (hp:t.m.pg g=aT (if g=q then 2 else 3) (k:Int))
 | free (q j:Nat) (hm:q∈fr j) (hj:j<=x.o) (hg:S.c g=none) (h1:q<=g) (h2:g<q+2 ^ j) (hp:t.m.pg g=aT (if g=q then 0 else 1) (j:Int))
section
variable {w W:Wd} {sb lw:Nat} {x:Bx} {t:Bt} {fr:Nat->List Nat} {ls:List (Nat×Nat)} {S:Sb} {h:Nat->Int}
theorem SO.kind(o:SO w W sb lw x t fr ls S h){g:Nat}(hg:g<t.m.n):Pk x t fr ls S g:=by
 cases e:S.c g with
 | some k=>exact .fj k e
 | none=>
  have i:=fun {p k q j:Nat}=>o.apart (p:=p) (k:=k) (q:=q) (j:=j)
  have r:=fun {p k:Nat}=>o.mem (p:=p) (k:=k)
  have l:=o.si.eP;obtain⟨B,s,y,hL⟩:=o.sf;obtain⟨a,p,k,hb,f,b⟩:=s.cv g hg;have v:a≠9:=fun e=>y p k (e▸hb)
  have hp:=s.pg a p k hb v g f b;rw[l,iU e,ej] at hp;rcases s.tg a p k hb with rfl|rfl|rfl
  ·obtain⟨A,z⟩:=(s.fi p k).1 hb;exact .free p k z A e f b hp
  ·have u:=(hL p k).1 hb;refine .big p k u ?_ e f b hp
   cases e2:S.c p with
   | none=>rfl
   | some c=>
    exfalso
    have hz : 0<2 ^ k:=ap (by decide);rcases i (r e2).1 u with ⟨_,d⟩|d|d
    ·subst d;rw[Nat.pow_zero] at b;obtain rfl:p=g:=(by omega);rw[e] at e2
     cases e2
    ·rw[Nat.pow_zero] at d;omega
    ·omega
  ·exact absurd rfl v
inductive Pa(x:Bx)(t:Bt)(ls:List (Nat×Nat))(S:Sb)(a s g:Nat):Prop where
 | cell (k i:Nat) (hc:S.c g=some k) (hl:iY x S a g k i) (hs:s=aB k)
 | big (q k:Nat) (hm:(q,k)∈ls) (hc:S.c q=none) (hg:S.c g=none) (h1:q<=g) (h2:g<q+2 ^ k) (ha:a=ad x q) (hs:s=4096*2 ^ k)
theorem SO.jo(o:SO w W sb lw x t fr ls S h){q k g:Nat}(b:(q,k)∈ls)(hc:S.c q=none)(d:q<=g)(f:g<q+2 ^ k):S.c g=none:=by
 cases e:S.c g with
 | none=>rfl
 | some c=>
  exfalso
  rcases o.apart (o.mem e).1 b with ⟨a,_⟩|a|a
  ·subst a;rw[hc] at e
   cases e
  ·rw[Nat.pow_zero] at a;omega
  ·omega
theorem SO.iq(o:SO w W sb lw x t fr ls S h){a s p:Nat}(hl:aR x ls S a s)(u:a<=p)(v:p<a+s):aK x p/4096<t.m.n/\Pa x t ls S a s (aK x p/4096):=by
 have y:=o.inside hl;have C:=o.po.en.2.2.2.1;have c:aK x p=p-x.bS:=by unfold aK;omega
 have z:=o.st;rw[c];refine⟨by omega,?_⟩;rcases hl with ⟨g,k,i,j,rfl⟩|⟨q,k,d,hc,rfl,rfl⟩
 ·have b:=j;obtain⟨c1,c2,c3,rfl⟩:=b;have r:=(o.si.pg g k c1).1;have B:=o.mem c1;have A:=fT (x:=x) (p:=g) r c2 (by omega);have e:aM x g k i=x.bS+4096*g+i*aB k:=rfl;have hg:(p-x.bS)/4096=g:=by omega
  rw[hg];exact .cell k i c1 j rfl
 ·unfold ad at u v;have f:q<=(p-x.bS)/4096:=by omega
  have l:(p-x.bS)/4096<q+2 ^ k:=by omega
  exact .big q k d hc (o.jo d hc f l) f l rfl rfl
def jA(x:Bx)(ls:List (Nat×Nat))(S:Sb)(p a s:Nat)(l:Bool):Prop:=(l=true/\aR x ls S a s/\a<=p/\p<a+s)\/(l=false/\∀ b z,aR x ls S b z->¬(b<=p/\p<b+z))
theorem SO.ku(o:SO w W sb lw x t fr ls S h){p:Nat}(hg:¬aK x p/4096<t.m.n)(a s:Nat):jA x ls S p a s false:=.inr ⟨rfl,fun b z hl ⟨c,h2⟩=>hg (o.iq hl c h2).1⟩
theorem SO.kc(o:SO w W sb lw x t fr ls S h){p q j:Nat}(f:q∈fr j)(g:j<=x.o)(r:q<=aK x p/4096)(v:aK x p/4096<q+2 ^ j)(hc:S.c (aK x p/4096)=none)(a s:Nat):jA x ls S p a s false:=.inr ⟨rfl,fun b z hl ⟨l1,l2⟩=>by
 have hL:=(o.iq hl l1 l2).2;obtain⟨B,sd,A,m⟩:=o.sf
 cases hL with
 | cell k i c1=>rw[hc] at c1;cases c1
 | big l k d _ _ u y=>
  rcases sd.ds _ _ _ _ _ _ ((sd.fi q j).2 ⟨g,f⟩) ((m l k).2 d)with ⟨e,_⟩|e|e
  ·exact absurd e (by decide)
  ·omega
  ·omega⟩
theorem SO.jf(o:SO w W sb lw x t fr ls S h){p:Nat}(hp:p<18446744073709551616)(hg:aK x p/4096<t.m.n):x.bS<=p/\aK x p=p-x.bS:=by have b:=o.po.en.2.2.2.1;have a:=o.st;unfold aK at hg ⊢;omega
theorem SO.ko(o:SO w W sb lw x t fr ls S h){p q k:Nat}(hp:p<18446744073709551616)(hg:aK x p/4096<t.m.n)(b:(q,k)∈ls)(hc:S.c q=none)(a:q<=aK x p/4096)(d:aK x p/4096<q+2 ^ k):jA x ls S p (ad x q) (4096*2 ^ k) true:=by
 obtain⟨b1,b2⟩:=o.jf hp hg;rw[b2] at a d;refine .inl ⟨rfl,.inr ⟨q,k,b,hc,rfl,rfl⟩,?_,?_⟩;·unfold ad;omega
 ·unfold ad;omega
theorem SO.jy(o:SO w W sb lw x t fr ls S h){p g k:Nat}(hp:p<18446744073709551616)(hg:aK x p/4096=g)(hc:S.c g=some k):∃ i,i<aF k/\p/aB k*aB k=aM x g k i/\aM x g k i<=p/\p<aM x g k i+aB k:=by
 obtain⟨l,_⟩:=o.si.pg g k hc;have j:=o.mem hc;have hz:=cM l;have a:=cV l;obtain⟨b1,b2⟩:=o.jf hp (by rw[hg];exact j.2.1);have v:=o.bm;rw[b2] at hg;obtain⟨d,hd⟩:=xe ((p-x.bS)%4096);have f:p=x.bS+4096*g+d:=by omega
 have u:d<4096:=by omega
 obtain⟨b,hb⟩:∃ b,x.bS=4096*b:=⟨x.bS/4096,by omega⟩;have m:x.bS+4096*g=aF k*(b+g)*aB k:=by rw[hb,<-Nat.mul_add,Nat.mul_right_comm,a.1]
 have r:p/aB k=aF k*(b+g)+d/aB k:=by rw[f,m,Nat.add_comm,Nat.add_mul_div_right _ _ (by omega),Nat.add_comm]
 have q:=dy d (aB k);have y:=Nat.mod_lt d (show 0<aB k by omega);refine⟨d/aB k,?_,?_,?_,?_⟩
 ·refine Nat.lt_of_not_le fun e=>?_
  have:=ak (aB k) e;rw[a.1,aq] at this;omega
 ·rw[r,av,<-m];rfl
 ·show x.bS+4096*g+d/aB k*aB k<=p
  rw[aq] at q;omega
 ·show p<x.bS+4096*g+d/aB k*aB k+aB k
  rw[aq] at q;omega
theorem SO.ke(o:SO w W sb lw x t fr ls S h){p g k i:Nat}(hg:aK x p/4096=g)(hc:S.c g=some k)(hi:i<aF k)(d:aM x g k i<=p)(f:p<aM x g k i+aB k):jA x ls S p (aM x g k i) (aB k) (decide (i ∉ S.fl g)):=by
 by_cases hf:i∈S.fl g
 ·rw[ah (fun e=>e hf)];refine .inr ⟨rfl,fun b z hl ⟨l1,l2⟩=>?_⟩;have hL:=(o.iq hl l1 l2).2;rw[hg] at hL
  cases hL with
  | big r l _ _ e=>rw[hc] at e;cases e
  | cell l a c1 j hs=>
   rw[hc] at c1;injection c1 with c1
   subst c1 hs;obtain⟨v1,v2,v3,rfl⟩:=j;have hz:=cM (o.si.pg g k hc).1;have q:aM x g k i=x.bS+4096*g+i*aB k:=rfl;have m:aM x g k a=x.bS+4096*g+a*aB k:=rfl;have:i=a:=by
    rcases Nat.lt_trichotomy i a with e|e|e
    ·have:=ak (aB k) (show i+1<=a from e);rw[av,aL] at this;omega
    ·exact e
    ·have:=ak (aB k) (show a+1<=i from e);rw[av,aL] at this;omega
   subst this;exact v3 hf
 ·rw[af hf];exact .inl ⟨rfl,.inl ⟨g,k,i,⟨hc,hi,hf,rfl⟩,rfl⟩,d,f⟩
theorem SO.io(o:SO w W sb lw x t fr ls S h){g k i:Nat}(hc:S.c g=some k)(hi:i<aF k):fD x t (aM x g k i)=decide (i ∉ S.fl g):=by
 by_cases hf:i∈S.fl g
 ·rw[ah (fun e=>e hf)]
  cases e:fD x t (aM x g k i)with
  | false=>rfl
  | true=>
   exfalso
   have a:=(o.si.pg g k hc).1;have f:=o.mem hc;have m:=o.po.en.2.2.2.1;obtain⟨l,q,r,v1,v2,v3,v4⟩:=o.ld (fT (x:=x) (p:=g) a hi (by omega)).2.2 e;obtain⟨d,b,j⟩:=o.gx hc hi v1 v2 v4;subst d b j;exact v3 hf
 ·rw[af hf];exact(o.jk ⟨hc,hi,hf,rfl⟩).1
end
abbrev jJ(a s:Nat):Vl:=.agg #[.int .u64 a,.int .u64 s]
abbrev bY(a s:Nat):Obj:=.cells #[.int .u64 a,.int .u64 s] 73
abbrev pG:Obj:=.cells #[.int .u64 0,.int .u64 0] 73
theorem fQ{W:Wd}{y a s:Nat}(h:W.heap[y]?=some (bY a s)):W.cell? ⟨y,0,none⟩=some (.int .u64 a)/\W.cell? ⟨y,1,none⟩=some (.int .u64 s)/\∀ j,W.frozen? ⟨y,j,none⟩=false:=by refine⟨?_,?_,fun j=>?_⟩ <;> simp[World.cell?,World.frozen?,h]
theorem le8{P:Nat->Prop}(h0:P 0)(a:P 1)(i:P 2)(b:P 3)(c:P 4)(d:P 5)(g:P 6)(f:P 7)(e:P 8):∀ k,k<=8->P k:=fun k j=>by
 rcases du k 8 with h|h
 ·exact uM h0 a i b c d g f k h
 ·obtain rfl:k=8:=by omega
  exact e
theorem AI:∀ k:Nat,k<=8->∀ (q:Pg) (hq:q.od=(k:Int)) (W:Wd),
  Calls prog 47 #[cA q] W fun e c=>e=.returned (.int .u64 ((4096*2 ^ k:Nat):Int))/\Kt nO W c:=by
 apply le8 <;>
 ·intro q hq W;have d:=aA ((kz W).alloc (aO q));have a:=aA (nH W (aO q));obtain⟨_,b,_⟩:=iR a.o;rw[hq] at b;clear hq a;go_enter func47,ntmps47;go_wp2_with fail;go_ret;exact⟨rfl,d.o⟩
theorem BW:∀ k:Nat,k<8->∀ (q:Pg) (hq:q.cl=(k:Int)) (W:Wd),
  Calls prog 95 #[cA q] W fun e b=>e=.returned (.int .u64 ((aB k:Nat):Int))/\Kt nO W b:=by
 apply uM <;>
 ·intro q hq W;have d:=aA ((kz W).alloc (aO q));have a:=aA (nH W (aO q));obtain⟨_,_,c,_⟩:=iR a.o;rw[hq] at c;clear hq a;go_enter func95,ntmps95;go_wp2_with fail;go_ret;exact⟨rfl,d.o⟩
section
variable {w W W':Wd} {hb sb lw:Nat} {x:Bx} {t:Bt} {fr:Nat->List Nat} {ls:List (Nat×Nat)} {S:Sb} {s:Int}
theorem tW(H:HW w W hb sb lw x t fr ls S s)(n:Nat)(l:n<=1024):Calls prog 46 #[.pointer (some ⟨hb,0,none⟩),.int .i64 n] W fun e g=>e=.returned (.int .u64 ((x.bS+4096*n:Nat):Int))/\g=W:=by
 obtain⟨c0,c2,c3,c4,c5,k⟩:=H.c;have f:=H.po.en.2.2.2.1;have d:x.bS<=9223372036854775808:=by omega
 clear H;generalize x.bS=b at c2 f d ⊢;obtain⟨a,ha⟩:=xe (b+4096*n);rw[<-ha];have m:IntKind.u64.wrap (n:Int)=n:=by rw[wrap_u64];omega
 have i:IntKind.u64.wrap ((n:Int)*4096)=(n:Int)*4096:=by rw[wrap_u64];omega
 have o:IntKind.u64.wrap ((b:Int)+(n:Int)*4096)=(a:Int):=by rw[wrap_u64];omega
 have j:(b:Int)+(n:Int)*4096=(a:Int):=by omega
 clear f;go_enter func46,ntmps46;go_wp2_with fail;go_ret;exact⟨dX (by omega),rfl⟩
theorem zgu(H:HW w W hb sb lw x t fr ls S s):Calls prog 37 #[.pointer (some ⟨hb,0,none⟩)] W fun e i=>e=.returned (.int .u64 x.n)/\Kt nO W i:=by
 obtain⟨c0,c2,c3,c4,c5,B⟩:=H.c;have q:=H.po.en.2.2.2.1;obtain⟨C,l1,l2⟩:=H.po.pl.c;have A:=aA (fun W' (k:Kt nO W W')=>iI (H.dk k).po.pl);have j:=aA (fun W' (k:Kt nO W W')=>rQ (H.dk k).po);obtain⟨b,a⟩:=xe (x.bS);obtain⟨g,d⟩:=xe (x.bS+x.n);rw[<-d] at j;obtain⟨n,f⟩:=xe (x.n);have r:b<=9223372036854775808:=by omega
 have E:(g:Int)-(b:Int)=n:=by omega
 have u:n<=9223372036854775808:=by omega
 have z:g<=9223372036854775808:=by omega
 rw[<-a] at c2;rw[<-f];clear H q a d f;have p:=aA (fun W' (k:Kt nO W W')=>(k.cell id c5));have m:=aA (fun W' (k:Kt nO W W')=>(k.cell id c2));go_enter func37,ntmps37;go_wp2_with fail;have l:=fun y:KW W=>p.o y.v y.k
 have o:=fun y:KW W=>m.o y.v y.k
 refine cR (by kernel_rfl) (by kernel_rfl) ?_;repeat (go_big_quiet_step (first|(go_at_call 31;exact Calls.ek ((A.o _ (KW.k _)).mono fun e i h=>⟨h.1,by rw[h.2];exact Kt.refl _ _⟩))|(go_at_call 76;exact Calls.ek (j.o _ (KW.k _)))))
 refine wpQuiet_nil ?_;intro y;have D:=aA y.k;go_wp2_with fail;go_ret;exact⟨by simp,D.o⟩
end
end Go.Proofs.YtfmgnljlkdmndaaGreatDoor
