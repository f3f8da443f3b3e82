import Derived.Test.YtfmgnljlkdmndaaGreatDoorWd
import Derived.Test.YtfmgnljlkdmndaaGreatDoorWa
import Derived.Conc.MuLone
set_option maxRecDepth 1000000
set_option maxHeartbeats 80000000
namespace Go.Proofs.YtfmgnljlkdmndaaGreatDoor
open Tryz
open Go.RowKit
set_option linter.unusedVariables false
theorem SO.four{w W sb lw x t fr ls S h}(o:SO w W sb lw x t fr ls S h){g:Nat}(hg:g<t.m.n)(b:(t.m.pg g).kd=4):∃ k,S.c g=some k:=by
 cases e:S.c g with
 | some k=>exact⟨k,rfl⟩
 | none=>
  exfalso
  obtain⟨B,s,f,hL⟩:=o.sf;obtain⟨a,p,k,hb,i,j⟩:=s.cv g hg;have d:a≠9:=fun e=>f p k (e▸hb)
  have hp:=s.pg a p k hb d g i j;rw[o.si.eP,iW e,Option.getD_none] at hp;rw[hp] at b;have b:(if g=p then (a:Int) else (a:Int)+1)=4:=b;rcases s.tg a p k hb with rfl|rfl|rfl
  ·split at b <;> omega
  ·split at b <;> omega
  ·exact d rfl
def iZ(x:Bx)(S:Sb)(p g k i:Nat):Prop:=S.c g=some k/\i<aF k/\i ∉ S.fl g/\p=aK x g k i
theorem SO.liv_of{w W sb lw x t fr ls S h}(o:SO w W sb lw x t fr ls S h){p:Nat}(hp:p<18446744073709551616)(hl:fH x t p=true):∃ g k i,iZ x S p g k i:=by
 unfold fH jL at hl;rw[bu,bu] at hl;obtain⟨⟨a,f⟩,j⟩:=hl;have a:=bw a;have f:=bw f;obtain⟨g,hg⟩:=xe (aJ x p/4096);have d:g<t.m.n:=by
  refine Nat.lt_of_not_le fun c=>?_
  unfold dT cM at a;rw[<-hg,ac] at a
  ·exact absurd a (by decide)
  ·intro e;obtain⟨k,D,F⟩:=gR e;omega
 have l:dT x t p=t.m.pg g:=by unfold dT;rw[<-hg];exact pT d
 rw[l] at a;obtain⟨k,hc⟩:=o.four d a;obtain⟨v,sp⟩:=o.si.pg g k hc;have q:=cW v;have hz:=cN v;have u:(dT x t p).cl.toNat=k:=by rw[l,sp.cl];rfl
 rw[u] at f;obtain⟨i,hi⟩:=xe (aJ x p%4096/aB k);have A:gK x t p=i:=by unfold gK;rw[u,hi]
 have b:i*aB k=aJ x p%4096:=by have:=Nat.div_add_mod (aJ x p%4096) (aB k);rw[f,Nat.add_zero,aq,<-hi] at this;exact this
 have r:i<aF k:=by
  refine Nat.lt_of_not_le fun c=>?_
  have:=ak (aB k) c;rw[q.1,b] at this;have:=Nat.mod_lt (aJ x p) (show 0<4096 by decide);omega
 rw[l,A,sp.bt i (by omega)] at j;have j:=bw j;refine⟨g,k,i,hc,r,j.2,?_⟩;obtain⟨_,y,z,B⟩:=o.mem hc;have C:=o.po.nums.2.2.2.1;have e:aK x g k i=x.bS+4096*g+i*aB k:=rfl;rw[e,b,hg];have hd:=Nat.div_add_mod (aJ x p) 4096;have E:aJ x p=(p+18446744073709551616-x.bS)%18446744073709551616:=rfl;omega
theorem SO.of_liv{w W sb lw x t fr ls S h}(o:SO w W sb lw x t fr ls S h){p g k i:Nat}(hl:iZ x S p g k i):fH x t p=true/\jL x t p=true/\aJ x p/4096=g/\dT x t p=t.m.pg g/\gK x t p=i/\p<18446744073709551616:=by obtain⟨hc,hi,q,rfl⟩:=hl;obtain⟨b,sp⟩:=o.si.pg g k hc;have r:=cW b;obtain⟨_,a,j,l⟩:=o.mem hc;have u:=o.po.nums.2.2.2.1;obtain⟨c,f,d,e⟩:=sO (x:=x) (t:=t) b hi (by omega) a sp.kd sp.cl;refine⟨?_,c,f,d,e,(fV (x:=x) (p:=g) b hi (by omega)).2.2⟩;unfold fH;rw[c,d,e,sp.bt i (by omega),af ⟨hi,q⟩];rfl
theorem MU{n L lv N l1 a:Nat}(h:L<n)(c : 2<=n)(f:lv=n-L)(d:l1=lv-1)(e:N=n)(b:a=N-1):(l1=0↔L+1=n)/\(l1=a↔L=0)/\(L+1=n\/L+1<n):=by omega
inductive GvP(w W:World)(sb lw:Nat)(x:Bx)(t:Bt)(fr:Nat->List Nat)(ls:List (Nat×Nat))(S:Sb)(g k i:Nat)(w':World):Prop where
 | back (hl:(S.fl g).length+1<aF k) (so:∃ P t' h',SO w w' sb lw { x with P:=P } t' fr ls (bD S g k i) h'/\(∀ j,¬(4096*g+i*aB k<=j/\j<4096*g+i*aB k+8)->t'.f j=t.f j)/\t'.m.n=t.m.n) (kp:Kt (bN x sb) W w')
 | rel (hl:(S.fl g).length+1=aF k) (so:zI w W sb lw x t fr ls S g k w')
theorem zi6{w W sb lw x t fr ls S h}(o:SO w W sb lw x t fr ls S h)(hv:fB S)(p g k i:Nat)(hl:iZ x S p g k i):
  Calls prog 112 #[.pointer (some ⟨sb,0,none⟩),.int .u64 p] W fun e a=>e=.returned (.int .i64 0)/\GvP w W sb lw x t fr ls S g k i a:=by
 obtain⟨z,hB,hg,hQ,hN,hp⟩:=o.of_liv hl;obtain⟨hc,hi,hn,c6⟩:=hl;obtain⟨T,sp⟩:=o.si.pg g k hc;have Q:=cW T;have f:=hv g k hc;obtain⟨a9,c3,c5,a8⟩:=o.mem hc;have n4:=o.po.nums.2.2.2.1;have c4:=fV (x:=x) (p:=g) T hi (by omega);have LV:=aA (show Calls prog 151 #[.pointer (some ⟨sb,0,none⟩),.int .u64 p] W fun e a=>e=.returned (.tuple #[kZ (g:Int) (i:Int) (t.m.pg g),.bool true])/\Kt nO W a from by have:=wU o.sw p hp hB;unfold fH at z;rw[hB,bf] at z;rw[z,hg,hN,hQ] at this;exact this)
 obtain⟨q,hq⟩:=xe (t.m.pg g);have HC:=aA (show q.cl=(k:Int)from by rw[hq];exact sp.cl);obtain⟨lv,l⟩:=xe (aF k-(S.fl g).length);have HL:=aA (show q.lv=(lv:Int)from by rw[hq,l];exact sp.lv);have HF:=aA (show q.fs=bC (S.fl g)from by rw[hq];exact sp.fs);have A:q.fs = -1\/∃ j:Nat,j<=256/\q.fs=(j:Int):=by
  rw[HF.o];rcases oV (S.fl g)with e|⟨r,e,hr⟩
  ·exact .inl e
  ·refine .inr ⟨r,?_,e⟩;have:=(o.si.fl g k hc).2.1 r hr;omega
 rw[<-hq] at LV;have OW:=aA (show ∀ W',SW w W' sb lw x t h->Calls prog 165 #[.pointer (some ⟨x.m,0,none⟩),.int .i64 g,.int .i64 i,.bool false] W' fun e a=>e=.returned (.int .i64 (eD t.m (g:Int) (i:Int) false))/\SW w a sb lw x { t with m:=bX t.m (g:Int) (i:Int) false } h/\Kt (aC x) W' a from fun W' s=>zP s (g:Int) (i:Int) false);generalize eD t.m (g:Int) (i:Int) false=oe at *;obtain⟨B,v⟩:=xe (bX t.m (g:Int) (i:Int) false);have RL:=aA (show ∀ W',SW w W' sb lw x { t with m:=B } h->Kt (aC x) W W'->(S.fl g).length+1=aF k->Calls prog 166 #[.pointer (some ⟨sb,0,none⟩),.int .i64 g,.int .i64 k] W' fun e a=>e=.returned (.int .i64 0)/\GvP w W sb lw x t fr ls S g k i a from fun W' s kk hl=>by rw[v] at s;refine(zjE o g k i hc hi hn (fun e=>by rw[e,List.length_nil] at hl;omega) s).mono ?_;rintro e a ⟨rfl,P,t',h',h1,h2,K,c⟩;exact⟨rfl,.rel hl ⟨P,t',h',h1,h2,K,(kk.mono (fun _ _ e=>.inl e)).trans c (fun _ _ e=>e) (fun _ _ e=>e)⟩⟩)
 have PT:=aA (show ∀ W',SW w W' sb lw x { t with m:=B } h->Calls prog 168 #[.pointer (some ⟨sb,0,none⟩),.int .i64 g,.int .i64 k] W' fun e a=>e=.returned (.tuple #[])/\SW w a sb lw x { t with m:=eC B h (g:Int) k } (cP h k (g:Int))/\Kt (bN x sb) W' a from fun W' s=>zO s (g:Int) k T);have EN:=aA (show ∀ W',SW w W' sb lw x { t with m:=kX t.m h g k i (S.fl g) } (gF h g k (S.fl g))->Kt (bN x sb) W W'->(S.fl g).length+1<aF k->Calls prog 169 #[.pointer (some ⟨sb,0,none⟩),kZ (g:Int) (i:Int) q,.int .u64 p] W' fun e a=>e=.returned (.tuple #[])/\GvP w W sb lw x t fr ls S g k i a from fun W' s kk hl=>by
  have c8:M.In x.bS x.n p 8:=by have hz:=cN T;unfold M.In;have e:aK x g k i=x.bS+4096*g+i*aB k:=rfl;omega
  refine(UQ s g i k p q (by omega) T HC.o A hp c8).mono ?_;rintro e a ⟨rfl,h1,h2⟩;have c9:p-x.bS=4096*g+i*aB k:=by have e:aK x g k i=x.bS+4096*g+i*aB k:=rfl;omega
  rw[c9,HF.o,TH] at h1;have so:=o.give hc hi hn f h1;refine⟨rfl,.back hl ⟨_,_,_,so,fun j hj=>M.upd_out _ _ _ _ _ hj,?_⟩ (kk.trans (h2.mono (fun _ _ e=>.inl e)) (fun _ _ e=>e) (fun _ _ e=>e))⟩;have K:=so.st;have c:=o.st;have h5:(iQ t.m h g k i (S.fl g)).n*4096=x.n:=K;show(iQ t.m h g k i (S.fl g)).n=t.m.n
  omega)
 have Z:=aA (show ∀ W',SW w W' sb lw x { t with m:=B } h->Calls prog 167 #[.int .i64 k] W' fun e a=>e=.returned (.int .i64 ((aF k:Nat):Int))/\a=W' from fun W' s=>EA s k T);obtain⟨N,G⟩:=xe (aF k);rw[<-G] at Z;obtain⟨l1,a6⟩:=xe (lv-1);obtain⟨U,V⟩:=xe (N-1);have d1:(lv:Int)-1=(l1:Int):=by omega
 have d2:l1<=256:=by omega
 have d3:(N:Int)-1=(U:Int):=by omega
 have d0:U<=256:=by omega
 have d8:N<=256:=by omega
 have d4:lv<=256:=by omega
 have hx:=MU f Q.2.1 l a6 G V;have X1:=aA hx.1;have X2:=aA hx.2.1;have X3:=aA hx.2.2;clear hx;have X4:=aA Q.2.1;have GN:=aA (show kX t.m h g k i (S.fl g)=(if S.fl g=[] then eC B h (g:Int) k else B)from by unfold kX;rw[v]);have HS:=aA o.sw;rw[<-v] at OW;clear o hv z hB hg hQ hN hp hc hi hn c6 sp f a9 c3 c5 a8 n4 c4 hq l A v G a6 V Q;go_enter func112,ntmps112;go_wp2_with fail;refine LV.o.mono ?_;rintro e w1 ⟨rfl,u⟩;have K1:=aA (u.alloc (dS (g:Int) (i:Int) q));have Y1:=aA (nH w1 (dS (g:Int) (i:Int) q));have S1:=aA (HS.o.keep K1.o);have NY:=aA (show ¬(aC x w1.heap.size\/w1.heap.size=sb)from fun e=>by
  rcases e with e|e
  ·exact absurd ((HS.o.keep u).pl.lt _ (.inl e)) (dc _)
  ·have:=lH (HS.o.keep u).bx;omega)
 clear u;go_upto_region 4 with fail;generalize w1.heap.size=y at *;generalize w1.alloc (dS (g:Int) (i:Int) q)=W1 at *;have CQ:=aA (show ∀ W':World,W'.heap[y]?=some (dS (g:Int) (i:Int) q)->W'.cell? ⟨y,0,none⟩=some (.int .i64 g)/\W'.cell? ⟨y,1,none⟩=some (.int .i64 i)/\W'.cell? ⟨y,4,none⟩=some (.int .i64 k)/\W'.cell? ⟨y,5,none⟩=some (.int .i64 lv)from fun W' hW=>by obtain⟨a0,a1,a2,a3,a4,a5,_⟩:=cR hW;rw[HC.o] at a4;rw[HL.o] at a5;exact⟨a0,a1,a4,a5⟩)
 have KD:=aA ((Kt.refl nO W1).drew);have K2:=aA (nT K1.o KD.o);have S2:=aA (HS.o.keep K2.o);have Y2:=aA ((KD.o.block _ (lH Y1.o) id).trans Y1.o);have MP:=aA (bT S2.o.pl);obtain⟨p0,p1,p4,p5⟩:=CQ.o _ Y2.o;obtain⟨c0,c1⟩:=S2.o.c0;go_region_held3 (fun a=>a.cell? ⟨sb,0,none⟩=some (.pointer (some ⟨lw,0,none⟩))/\a.cell? ⟨y,0,none⟩=some (.int .i64 g)/\a.cell? ⟨y,1,none⟩=some (.int .i64 i)) ((refine⟨?_,?_,?_⟩ <;> first|with_reducible assumption|fail)) (first
  | (go_at_call 165;(with_reducible refine(OW.o _ S2.o).mono ?_);rintro e w3 ⟨rfl,J,E⟩;obtain⟨f0,f1⟩:=J.c0;have Y3:=aA ((E.block _ (lH Y2.o) (fun e=>NY.o (.inl e))).trans Y2.o);obtain⟨g0,g1,g4,g5⟩:=CQ.o _ Y3.o;have S3:=aA J;have K3:=aA (K2.o.trans E (fun _ _ e=>e.elim) (fun _ _ e=>e));clear J E)
  | (go_at_call 38;(with_reducible refine MP.o.mono ?_);rintro e w3 ⟨rfl,K⟩;replace K:=K.symm;subst K)
  | fail)
 all_goals
  clear p0 p1 p4 p5 c0 c1 MP;by_cases hz:l1=0
  ·have hb:((l1:Int) == 0)=true:=(by rw[co];omega);have c2:=aA (X1.o.1 hz);have RR:=aA (RL.o _ S3.o K3.o c2.o);subst hz;as_aux_lemma=>
    go_wp2_with fail;refine RR.o.mono ?_;rintro e w4 ⟨rfl,c⟩;have D:=aA c;clear c;go_wp2_with fail;exact⟨rfl,.int .i64 0,by simp[results,results112,go_sem],rfl,D.o⟩
  ·have hb:((l1:Int) == 0)=false:=(by rw[ag];omega);have d7:¬(l1:Int)=0:=(by omega);have Y:=aA (X3.o.resolve_left (fun e=>hz (X1.o.2 e)));have CL:=aA (Z.o _ S3.o);clear hz;by_cases d:l1=U
   ·have b:S.fl g=[]:=List.length_eq_zero_iff.1 (X2.o.1 d);have PP:=aA (PT.o _ S3.o);have EE:=aA (show ∀ W',SW w W' sb lw x { t with m:=eC B h (g:Int) k } (cP h k (g:Int))->Kt (bN x sb) W W'->Calls prog 169 #[.pointer (some ⟨sb,0,none⟩),kZ (g:Int) (i:Int) q,.int .u64 p] W' fun e a=>e=.returned (.tuple #[])/\GvP w W sb lw x t fr ls S g k i a from fun W' s kk=>by
     refine EN.o W' ?_ kk Y.o;rw[GN.o,ae b,show gF h g k (S.fl g)=cP h k (g:Int)from by unfold gF;rw[ae b]];exact s)
    have c7:((l1:Int) == (U:Int))=true:=(by rw[co];omega);have d6:=aA d;clear d b;as_aux_lemma=>
     go_wp2_with fail;refine CL.o.mono ?_;rintro e w4 ⟨rfl,c⟩;replace c:=c.symm;subst c;go_wp2_with fail;refine PP.o.mono ?_;rintro e w5 ⟨rfl,a7,I⟩;have E5:=aA (EE.o _ a7 ((K3.o.mono (fun _ _ e=>.inl e)).trans I (fun _ _ e=>e) (fun _ _ e=>e)));have Y5:=aA ((I.block _ (lH Y3.o) NY.o).trans Y3.o);clear a7 I g0 g1 g4 g5 f0 f1 CL PP;obtain⟨b0,b1,b2,b3,b4,b5,b6,b7,b8,b9,F,L,C⟩:=cR Y5.o;go_wp2_with fail;refine E5.o.mono ?_;rintro e w6 ⟨rfl,X⟩;have D:=aA X;clear X b0 b1 b2 b3 b4 b5 b6 b7 b8 b9 F L C;go_wp2_with fail;exact⟨rfl,.int .i64 0,by simp[results,results112,go_sem],rfl,D.o⟩
   ·have b:S.fl g≠[]:=fun e=>d (X2.o.2 (by rw[e];rfl))
    have EE:=aA (show Calls prog 169 #[.pointer (some ⟨sb,0,none⟩),kZ (g:Int) (i:Int) q,.int .u64 p] _ fun e a=>e=.returned (.tuple #[])/\GvP w W sb lw x t fr ls S g k i a from by refine EN.o _ ?_ (K3.o.mono (fun _ _ e=>.inl e)) Y.o;rw[GN.o,ac b,show gF h g k (S.fl g)=h from by unfold gF;rw[ac b]];exact S3.o)
    have c7:((l1:Int) == (U:Int))=false:=(by rw[ag];omega);have d5:¬(l1:Int)=U:=(by omega);clear d b;as_aux_lemma=>
     go_wp2_with fail;refine CL.o.mono ?_;rintro e w4 ⟨rfl,c⟩;replace c:=c.symm;subst c;clear g0 g1 g4 g5;obtain⟨b0,b1,b2,b3,b4,b5,b6,b7,b8,b9,F,L,C⟩:=cR Y3.o;go_wp2_with fail;refine EE.o.mono ?_;rintro e w6 ⟨rfl,X⟩;have D:=aA X;clear X b0 b1 b2 b3 b4 b5 b6 b7 b8 b9 F L C;go_wp2_with fail;exact⟨rfl,.int .i64 0,by simp[results,results112,go_sem],rfl,D.o⟩
theorem fB.tak{S:Sb}{p k i:Nat}{r:List Nat}(h:∀ a c,a≠p->S.c a=some c->(S.fl a).length<aF c)(hc:S.c p=some k)(hf:S.fl p=i :: r)(hl:(S.fl p).length<=aF k):fB (bB S p k r):=by
 intro a c ha;replace ha:S.c a=some c:=ha;show(aR S.fl p r a).length<aF c
 by_cases e:a=p
 ·subst e;rw[hc] at ha
  cases ha
  rw[bQ];rw[hf,List.length_cons] at hl;omega
 ·rw[bR _ _ e];exact h a c e ha
theorem fB.old{w W sb lw x t fr ls S h}(o:SO w W sb lw x t fr ls S h)(v:fB S){p k i:Nat}{l r:List Nat}(b:k<8)(hl:S.pl k=p :: l)(hf:S.fl p=i :: r):fB (bB S p k r):=by have hc:=((o.si.pm k b p).1 (by rw[hl];exact aw)).1;exact fB.tak (fun a c _ ha=>v a c ha) hc hf (o.si.lv p k hc)
theorem fB.new{S:Sb}(v:fB S){p k:Nat}(d:k<8):fB (bB (bK S p k) p k (List.range' 1 (aF k-1))):=by
 have b:=cW d;have e:(bK S p k).fl p=List.range' 0 (aF k):=bQ _ _ _;refine fB.tak (i:=0) (fun a c ha hc=>?_) (bQ _ _ _) ?_ ?_
 ·rw[show(bK S p k).c a=S.c a from bR _ _ ha] at hc;rw[show(bK S p k).fl a=S.fl a from bR _ _ ha];exact v a c hc
 ·rw[e];obtain⟨m,f⟩:∃ m,aF k=m+1:=⟨aF k-1,by omega⟩;rw[f];rfl
 ·rw[e,List.length_range'];exact aj _
theorem fB.back{S:Sb}(v:fB S){p k i:Nat}(hc:S.c p=some k)(hl:(S.fl p).length+1<aF k):fB (bD S p k i):=by
 intro a c ha;replace ha:S.c a=some c:=ha;show(aR S.fl p (i :: S.fl p) a).length<aF c
 by_cases e:a=p
 ·subst e;rw[hc] at ha
  cases ha
  rw[bQ,List.length_cons];exact hl
 ·rw[bR _ _ e];exact v a c ha
theorem fB.rel{S:Sb}(v:fB S)(p k:Nat):fB (cC S p k):=by
 intro a c ha;replace ha:aR S.c p none a=some c:=ha;by_cases e:a=p
 ·rw[e,bQ] at ha
  cases ha
 ·rw[bR _ _ e] at ha;exact v a c ha
theorem SO.new{w W sb lw x t}(a:PO w W lw x t (fun _=>[]) [])(sw:SW w W sb lw x t (fun _ => -1))(c:x.P=fun _=>none):SO w W sb lw x t (fun _=>[]) [] ⟨fun _=>none,fun _=>[],fun _=>[]⟩ (fun _ => -1):=by
 refine⟨sw,a.sf,a.st,a.bm,⟨?_,fun p k h=>?_,fun p k h=>?_,fun p k h=>?_,fun k b=>List.nodup_nil,fun k b p=>?_⟩,fun k b=>rfl⟩
 ·rw[c];funext p
  exact(iW rfl).symm
 ·cases h
 ·cases h
 ·cases h
 ·constructor
  ·intro h;cases h
  ·rintro ⟨h,_⟩;cases h
theorem fB.none:fB ⟨fun _=>Option.none,fun _=>[],fun _=>[]⟩:=fun p k h=>by cases h
def aS(x:Bx)(ls:List (Nat×Nat))(S:Sb)(p s:Nat):Prop:=(∃ g k i,iZ x S p g k i/\s=aB k)\/(∃ q k,(q,k)∈ls/\S.c q=none/\p=ad x q/\s=4096*2 ^ k)
theorem wH:∀ (n:Nat) (l:List Nat),l.Nodup->(∀ i∈l,i<n)->l.length<=n
 | 0,l,hd,h=>by
  cases l with
  | nil=>exact aj _
  | cons a l=>exact absurd (h a aw) (Nat.not_lt_zero _)
 | n+1,l,hd,h=>by
  by_cases c:n∈l
  ·have:=wH n (l.erase n) (hd.erase n) (fun i hi=>by
    have b:=(hd.mem_erase_iff).1 hi;have:=h i b.2;have:=b.1;omega)
   rw[List.length_erase_of_mem c] at this;omega
  ·have:=wH n l hd (fun i hi=>by
    have:=h i hi;have:i≠n:=fun e=>c (e▸hi)
    omega)
   omega
section
variable {w W:World} {sb lw:Nat} {x:Bx} {t:Bt} {fr:Nat->List Nat} {ls:List (Nat×Nat)} {S:Sb} {h:Nat->Int}
theorem SO.apart(o:SO w W sb lw x t fr ls S h){p k q j:Nat}(hp:(p,k)∈ls)(hq:(q,j)∈ls):(p=q/\k=j)\/p+2 ^ k<=q\/q+2 ^ j<=p:=by
 obtain⟨B,s,c,hL⟩:=o.sf;rcases s.ds _ _ _ _ _ _ ((hL p k).2 hp) ((hL q j).2 hq)with ⟨_,a,b⟩|e|e
 ·exact .inl ⟨a,b⟩
 ·exact .inr (.inl e)
 ·exact .inr (.inr e)
theorem SO.al(o:SO w W sb lw x t fr ls S h){p k:Nat}(hp:(p,k)∈ls):k<=x.o/\p%2 ^ k=0/\p+2 ^ k<=t.m.n:=o.sf.sn.al hp
theorem SO.span(o:SO w W sb lw x t fr ls S h){p s:Nat}(hl:aS x ls S p s) : 0<s/\∃ q k,(q,k)∈ls/\ad x q<=p/\p+s<=ad x q+4096*2 ^ k:=by
 rcases hl with ⟨g,k,i,⟨a,c,f,rfl⟩,rfl⟩|⟨q,k,a,c,rfl,rfl⟩
 ·have b:=(o.si.pg g k a).1;have hz:=cN b;have d:=o.mem a;have e:=o.po.nums.2.2.2.1;have hc:=fV (x:=x) (p:=g) b c (by omega);refine⟨by omega,g,0,d.1,?_,?_⟩
  ·unfold aK ad;omega
  ·unfold aK ad;rw[Nat.pow_zero];omega
 ·have : 0<2 ^ k:=ap (by decide);exact⟨by omega,q,k,a,aj _,aj _⟩
theorem SO.inside(o:SO w W sb lw x t fr ls S h){p s:Nat}(hl:aS x ls S p s):x.bS<=p/\p+s<=x.bS+x.n:=by obtain⟨_,q,k,a,b,c⟩:=o.span hl;have e:=(o.al a).2.2;have d:=o.st;have:(q+2 ^ k)*4096<=t.m.n*4096:=ak _ e;unfold ad at b c;omega
theorem SO.two(o:SO w W sb lw x t fr ls S h){p s b v:Nat}(G:aS x ls S p s)(A:aS x ls S b v):(p=b/\s=v)\/p+s<=b\/b+v<=p:=by
 have B:∀ {g k i q j:Nat},iZ x S (aK x g k i) g k i->(q,j)∈ls->S.c q=none->aK x g k i+aB k<=ad x q\/ad x q+4096*2 ^ j<=aK x g k i:=by
  intro g k i q j hl hq C;obtain⟨a,m,D,_⟩:=hl;have r:=(o.si.pg g k a).1;have z:=o.mem a;have E:=o.po.nums.2.2.2.1;have hc:=fV (x:=x) (p:=g) r m (by omega);rcases o.apart z.1 hq with ⟨rfl,_⟩|e|e
  ·rw[a] at C;cases C
  ·left;unfold aK ad;omega
  ·right;unfold aK ad;omega
 rcases G with ⟨g,k,i,l1,rfl⟩|⟨q,k,b1,b2,rfl,rfl⟩
 ·have F:p=aK x g k i:=l1.2.2.2;subst F;rcases A with ⟨d,l,f,l2,rfl⟩|⟨q,j,b1,b2,rfl,rfl⟩
  ·have y:b=aK x d l f:=l2.2.2.2;subst y;by_cases e:g=d
   ·subst e;obtain⟨a,m,D,_⟩:=l1;obtain⟨c1,c2,c3,_⟩:=l2;rw[a] at c1;injection c1 with c1
    subst c1;rcases Nat.lt_trichotomy i f with e|rfl|e
    ·right;left
     have:(i+1)*aB k<=f*aB k:=ak _ e;rw[av,aL] at this;unfold aK;omega
    ·exact .inl ⟨rfl,rfl⟩
    ·right;right
     have:(f+1)*aB k<=i*aB k:=ak _ e;rw[av,aL] at this;unfold aK;omega
   ·obtain⟨a,m,D,_⟩:=l1;obtain⟨c1,c2,c3,_⟩:=l2;have r:=(o.si.pg g k a).1;have u:=(o.si.pg d l c1).1;have z:=o.mem a;have I:=o.mem c1;have E:=o.po.nums.2.2.2.1;have hc:=fV (x:=x) (p:=g) r m (by omega);have J:=fV (x:=x) (p:=d) u c2 (by omega);unfold aK;rcases Nat.lt_or_gt_of_ne e with e|e
    ·right;left;omega
    ·right;right;omega
  ·exact .inr (B l1 b1 b2)
 ·rcases A with ⟨d,l,f,l2,rfl⟩|⟨K,j,c1,c2,rfl,rfl⟩
  ·have y:b=aK x d l f:=l2.2.2.2;subst y;exact .inr (B l2 b1 b2).symm
  ·rcases o.apart b1 c1 with ⟨rfl,rfl⟩|e|e
   ·exact .inl ⟨rfl,rfl⟩
   ·right;left;unfold ad;omega
   ·right;right;unfold ad;omega
end
theorem qF{x x':Bx}(hb:x'.bS=x.bS){ls:List (Nat×Nat)}{S:Sb}{p s:Nat} : aS x' ls S p s↔aS x ls S p s:=by unfold aS iZ aK ad;rw[hb]
section
variable {w W:World} {sb lw:Nat} {x:Bx} {t:Bt} {fr:Nat->List Nat} {ls:List (Nat×Nat)} {S:Sb} {h:Nat->Int} {n:Nat}
variable {w2 W2:World} {sb2 lw2:Nat} {x':Bx} {t':Bt} {fr':Nat->List Nat} {ls':List (Nat×Nat)} {S':Sb} {h':Nat->Int}
theorem SO.cell_ne(o:SO w W sb lw x t fr ls S h){g k i b f j:Nat}(l:S.c g=some k)(r:i<aF k)(a:S.c b=some f)(v:j<aF f)(e:aK x g k i=aK x b f j):g=b/\k=f/\i=j:=by
 have m:=(o.si.pg g k l).1;have d:=(o.si.pg b f a).1;have B:=o.mem l;have u:=o.mem a;have A:=o.po.nums.2.2.2.1;have hc:=fV (x:=x) (p:=g) m r (by omega);have z:=fV (x:=x) (p:=b) d v (by omega);have hz:=cN m;have y:=cN d;unfold aK at e;have q:g=b:=by omega
 subst q;rw[l] at a;injection a with a
 subst a;refine⟨rfl,rfl,?_⟩;have:i*aB k=j*aB k:=by omega
 exact Nat.eq_of_mul_eq_mul_right (by omega) this
theorem SO.free_no(o:SO w W sb lw x t fr ls S h){p k i:Nat}(hc:S.c p=some k)(hi:i∈S.fl p)(s:Nat):¬aS x ls S (aK x p k i) s:=by
 have a:=(o.si.fl p k hc).2.1 i hi;rintro (⟨g,z,A,⟨d,b,f,u⟩,_⟩|⟨q,j,d,b,f,_⟩)
 ·obtain⟨rfl,rfl,rfl⟩:=o.cell_ne hc a d b u;exact f hi
 ·have l:=(o.si.pg p k hc).1;have m:=o.mem hc;have y:=o.po.nums.2.2.2.1;have r:=fV (x:=x) (p:=p) l a (by omega);have hz:=cN l;have v : 0<2 ^ j:=ap (by decide);unfold aK ad at f;rcases o.apart m.1 d with ⟨e,_⟩|e|e
  ·rw[<-e,hc] at b;cases b
  ·omega
  ·omega
theorem WX(o:SO w W sb lw x t fr ls S h){p k i:Nat}{r:List Nat}(hc:S.c p=some k)(hf:S.fl p=i :: r)(a s:Nat):aS x ls (bB S p k r) a s↔aS x ls S a s\/(a=aK x p k i/\s=aB k):=by
 obtain⟨n1,A,_⟩:=o.si.fl p k hc;rw[hf,List.nodup_cons] at n1;have y:=A i (by rw[hf];exact aw);constructor
 ·rintro (⟨g,v,m,⟨d,l,b,f⟩,u⟩|⟨q,j,d,l,b,f⟩)
  ·replace d:S.c g=some v:=d;replace b:m ∉ aR S.fl p r g:=b;by_cases e:g=p
   ·subst e;rw[hc] at d;injection d with d
    subst d;rw[bQ] at b;by_cases z:m=i
    ·subst z;exact .inr ⟨f,u⟩
    ·refine .inl (.inl ⟨g,k,m,⟨hc,l,?_,f⟩,u⟩);rw[hf,List.mem_cons,not_or];exact⟨z,b⟩
   ·rw[bR _ _ e] at b;exact .inl (.inl ⟨g,v,m,⟨d,l,b,f⟩,u⟩)
  ·exact .inl (.inr ⟨q,j,d,l,b,f⟩)
 ·rintro ((⟨g,v,m,⟨d,l,b,f⟩,u⟩|⟨q,j,d,l,b,f⟩)|⟨rfl,rfl⟩)
  ·refine .inl ⟨g,v,m,⟨d,l,?_,f⟩,u⟩;show m ∉ aR S.fl p r g
   by_cases e:g=p
   ·subst e;rw[bQ];rw[hf,List.mem_cons,not_or] at b;exact b.2
   ·rw[bR _ _ e];exact b
  ·exact .inr ⟨q,j,d,l,b,f⟩
  ·refine .inl ⟨p,k,i,⟨hc,y,?_,rfl⟩,rfl⟩;show i ∉ aR S.fl p r p
   rw[bQ];exact n1.1
theorem WW{p k:Nat}(v:k<8)(hc:S.c p=none)(y:∀ i,(p,i) ∉ ls)(a s:Nat):aS x (ls ++ [(p,0)]) (bB (bK S p k) p k (List.range' 1 (aF k-1))) a s↔aS x ls S a s\/(a=aK x p k 0/\s=aB k):=by
 have z:=cW v;constructor
 ·rintro (⟨g,o,m,⟨b,d,f,l⟩,u⟩|⟨q,j,b,d,f,l⟩)
  ·replace b:aR S.c p (some k) g=some o:=b;replace f:m ∉ aR (aR S.fl p (List.range' 0 (aF k))) p (List.range' 1 (aF k-1)) g:=f;by_cases e:g=p
   ·subst e;rw[bQ] at b f;injection b with b
    subst b;have r:m=0:=by
     rcases Nat.eq_zero_or_pos m with r|r
     ·exact r
     ·exact absurd (List.mem_range'_1.2 ⟨r,by omega⟩) f
    subst r;exact .inr ⟨l,u⟩
   ·rw[bR _ _ e] at b;rw[bR _ _ e,bR _ _ e] at f;exact .inl (.inl ⟨g,o,m,⟨b,d,f,l⟩,u⟩)
  ·replace d:aR S.c p (some k) q=none:=d;have e:q≠p:=fun e=>by rw[e,bQ] at d;cases d
   rw[bR _ _ e] at d;refine .inl (.inr ⟨q,j,?_,d,f,l⟩);rcases List.mem_append.1 b with b|b
   ·exact b
   ·rw[List.mem_singleton] at b;injection b with b
    exact absurd b e
 ·rintro ((⟨g,o,m,⟨b,d,f,l⟩,u⟩|⟨q,j,b,d,f,l⟩)|⟨rfl,rfl⟩)
  ·have e:g≠p:=fun e=>by rw[e,hc] at b;cases b
   refine .inl ⟨g,o,m,⟨?_,d,?_,l⟩,u⟩
   ·show aR S.c p (some k) g=some o
    rw[bR _ _ e];exact b
   ·show m ∉ aR (aR S.fl p (List.range' 0 (aF k))) p (List.range' 1 (aF k-1)) g
    rw[bR _ _ e,bR _ _ e];exact f
  ·have e:q≠p:=fun e=>y j (e▸b)
   refine .inr ⟨q,j,List.mem_append_left _ b,?_,f,l⟩;show aR S.c p (some k) q=none
   rw[bR _ _ e];exact d
  ·refine .inl ⟨p,k,0,⟨bQ _ _ _,by omega,?_,rfl⟩,rfl⟩;show 0 ∉ aR (aR S.fl p (List.range' 0 (aF k))) p (List.range' 1 (aF k-1)) p
   rw[bQ,List.mem_range'_1];omega
theorem zkm(o:SO w W sb lw x t fr ls S h){p k i:Nat}(B:iZ x S (aK x p k i) p k i)(a s:Nat):aS x ls (bD S p k i) a s↔aS x ls S a s/\a≠aK x p k i:=by
 obtain⟨hc,hi,A,_⟩:=B;constructor
 ·rintro (⟨g,r,m,⟨d,l,b,f⟩,v⟩|⟨q,j,d,l,b,f⟩)
  ·replace d:S.c g=some r:=d;replace b:m ∉ aR S.fl p (i :: S.fl p) g:=b;have u:m ∉ S.fl g:=by
    by_cases e:g=p
    ·subst e;rw[bQ,List.mem_cons,not_or] at b;exact b.2
    ·rw[bR _ _ e] at b;exact b
   refine⟨.inl ⟨g,r,m,⟨d,l,u,f⟩,v⟩,fun e=>?_⟩;rw[f] at e;obtain⟨rfl,rfl,rfl⟩:=o.cell_ne d l hc hi e;rw[bQ,List.mem_cons,not_or] at b;exact b.1 rfl
  ·have hl:aS x ls S a s:=.inr ⟨q,j,d,l,b,f⟩;refine⟨hl,fun e=>?_⟩;have z:=(o.si.pg p k hc).1;have hz:=cN z;have C : 0<2 ^ j:=ap (by decide);rcases o.two hl (.inl ⟨p,k,i,⟨hc,hi,A,rfl⟩,rfl⟩)with ⟨_,y⟩|y|y <;> omega
 ·rintro ⟨⟨g,r,m,⟨d,l,b,f⟩,v⟩|⟨q,j,d,l,b,f⟩,u⟩
  ·refine .inl ⟨g,r,m,⟨d,l,?_,f⟩,v⟩;show m ∉ aR S.fl p (i :: S.fl p) g
   by_cases e:g=p
   ·subst e;rw[hc] at d;injection d with d
    subst d;rw[bQ,List.mem_cons,not_or];exact⟨fun e=>u (by rw[f,e]),b⟩
   ·rw[bR _ _ e];exact b
  ·exact .inr ⟨q,j,d,l,b,f⟩
theorem WV(o:SO w W sb lw x t fr ls S h){p k i:Nat}(E:iZ x S (aK x p k i) p k i)(hl:(S.fl p).length+1=aF k)(a s:Nat):aS x (dU ls p) (cC S p k) a s↔aS x ls S a s/\a≠aK x p k i:=by
 obtain⟨hc,hi,B,_⟩:=E;obtain⟨n1,F,_⟩:=o.si.fl p k hc;constructor
 ·rintro (⟨g,u,z,⟨b,d,m,l⟩,A⟩|⟨q,j,b,d,m,l⟩)
  ·replace b:aR S.c p none g=some u:=b;have e:g≠p:=fun e=>by rw[e,bQ] at b;cases b
   rw[bR _ _ e] at b;refine⟨.inl ⟨g,u,z,⟨b,d,m,l⟩,A⟩,fun r=>?_⟩;rw[l] at r;exact e (o.cell_ne b d hc hi r).1
  ·obtain⟨b,v⟩:=List.mem_filter.1 b;have v:q≠p:=bw v;replace d:aR S.c p none q=none:=d;rw[bR _ _ v] at d;have y:aS x ls S a s:=.inr ⟨q,j,b,d,m,l⟩;refine⟨y,fun e=>?_⟩;have C:=(o.si.pg p k hc).1;have hz:=cN C;have G : 0<2 ^ j:=ap (by decide);rcases o.two y (.inl ⟨p,k,i,⟨hc,hi,B,rfl⟩,rfl⟩)with ⟨_,r⟩|r|r <;> omega
 ·rintro ⟨⟨g,u,z,⟨b,d,m,l⟩,A⟩|⟨q,j,b,d,m,l⟩,D⟩
  ·have e:g≠p:=fun e=>by
    subst e;rw[hc] at b;injection b with b
    subst b;have r:z≠i:=fun e=>D (by rw[l,e])
    have v:=wH (aF k) (z :: i :: S.fl g) (by
     rw[List.nodup_cons,List.nodup_cons,List.mem_cons,not_or];exact⟨⟨r,m⟩,B,n1⟩) (fun c f=>by
     rcases List.mem_cons.1 f with rfl|f
     ·exact d
     ·rcases List.mem_cons.1 f with rfl|f
      ·exact hi
      ·exact F c f)
    rw[List.length_cons,List.length_cons] at v;omega
   refine .inl ⟨g,u,z,⟨?_,d,m,l⟩,A⟩;show aR S.c p none g=some u
   rw[bR _ _ e];exact b
  ·have e:q≠p:=fun e=>by rw[e,hc] at d;cases d
   refine .inr ⟨q,j,List.mem_filter.2 ⟨b,af e⟩,?_,m,l⟩;show aR S.c p none q=none
   rw[bR _ _ e];exact d
theorem IE{p k:Nat}(hc:S.c p=none)(a s:Nat):aS x (ls ++ [(p,k)]) S a s↔aS x ls S a s\/(a=ad x p/\s=4096*2 ^ k):=by
 constructor
 ·rintro (b|⟨q,j,b,f,d,e⟩)
  ·exact .inl (.inl b)
  ·rcases List.mem_append.1 b with b|b
   ·exact .inl (.inr ⟨q,j,b,f,d,e⟩)
   ·rw[List.mem_singleton] at b;injection b with e1 e2
    subst e1 e2;exact .inr ⟨d,e⟩
 ·rintro ((b|⟨q,j,b,f,d,e⟩)|⟨d,e⟩)
  ·exact .inl b
  ·exact .inr ⟨q,j,List.mem_append_left _ b,f,d,e⟩
  ·exact .inr ⟨p,k,List.mem_append_right _ (List.mem_singleton.2 rfl),hc,d,e⟩
theorem DW(o:SO w W sb lw x t fr ls S h){p k:Nat}(hp:(p,k)∈ls)(hc:S.c p=none)(a s:Nat):aS x (dU ls p) S a s↔aS x ls S a s/\a≠ad x p:=by
 constructor
 ·rintro (⟨g,i,y,r,u⟩|⟨q,j,b,f,d,l⟩)
  ·refine⟨.inl ⟨g,i,y,r,u⟩,fun e=>?_⟩;have hz:=cN (o.si.pg g i r.1).1;have A : 0<2 ^ k:=ap (by decide);rcases o.two (.inl ⟨g,i,y,r,u⟩) (.inr ⟨p,k,hp,hc,rfl,rfl⟩)with ⟨_,v⟩|v|v <;> omega
  ·obtain⟨b,m⟩:=List.mem_filter.1 b;have m:q≠p:=bw m;refine⟨.inr ⟨q,j,b,f,d,l⟩,fun e=>m ?_⟩;rw[d] at e;unfold ad at e;omega
 ·rintro ⟨b|⟨q,j,b,f,d,l⟩,z⟩
  ·exact .inl b
  ·refine .inr ⟨q,j,List.mem_filter.2 ⟨b,af fun e=>z ?_⟩,f,d,l⟩;have e:q=p:=e;rw[d,e]
def nC(x:Bx)(ls:List (Nat×Nat))(S:Sb)(j:Nat):Prop:=∃ p s,aS x ls S p s/\p<=x.bS+j/\x.bS+j<p+s
theorem SO.byte(o:SO w W sb lw x t fr ls S h){j:Nat}(d:nC x ls S j):Lv ls (j/4096):=by
 obtain⟨p,s,b,g,f⟩:=d;obtain⟨_,q,k,e,c,a⟩:=o.span b;unfold ad at c a;refine⟨q,k,e,?_,?_⟩
 ·exact(Nat.le_div_iff_mul_le (by decide)).2 (by omega)
 ·exact(Nat.div_lt_iff_lt_mul (by decide)).2 (by omega)
structure Ch(x:Bx)(t:Bt)(ls:List (Nat×Nat))(S:Sb)(x':Bx)(t':Bt)(ls':List (Nat×Nat))(S':Sb):Prop where
 bS:x'.bS=x.bS
 R:x'.R=x.R
 lim:x'.lim=x.lim
 o:x'.o=x.o
 kb:∀ j,nC x ls S j->nC x' ls' S' j->t'.f j=t.f j
end
open Go.MuLone
def KW(w:World):Type:={ W:World // Kt nO w W }
def KW.v{w:World}(x:KW w):World:=x.1
theorem KW.k{w:World}(x:KW w):Kt nO w x.v:=x.2
instance (w:World):Nonempty (KW w):=⟨⟨w,Kt.refl _ _⟩⟩
theorem cS{P:Program}{id:Nat}{Q:Exit->Act->World->Prop}{a:Act}{w:World}{l:List Oper}(d:P.follows .mixedOrders=true)(c:Region.lexB .any l.toArray=true)
  (h:wpQuiet P l.toArray (fun b=>∃ x:KW w,b=x.v) (fun a'=>∀ x:KW w,Q .normal a' x.v) l a):(Code.region id l.toArray true).wp P Q a w:=by
 refine wp_region_quiet (C:=fun b=>∃ x:KW w,b=x.v) d c ⟨⟨w.drew,(Kt.refl _ w).drew⟩,rfl⟩ ?_;have e:(fun a'=>∀ b,(∃ x:KW w,b=x.v)->Q .normal a' b)=(fun a'=>∀ x:KW w,Q .normal a' x.v):=by
  funext a'
  exact propext ⟨fun h x=>h _ ⟨x,rfl⟩,fun h b ⟨x,hx⟩=>hx▸h x⟩
 rw[e];simpa using h
theorem Calls.kept_of{P:Program}{f:FuncId}{args:Array Value}{w:World}{x:KW w}{v:Value}
  (h:Calls P f args x.v fun e b=>e=.returned v/\Kt nO x.v b):Calls P f args x.v fun e a=>e=.returned v/\∃ y:KW w,a=y.v:=
 h.mono fun _ c ⟨he,hk⟩=>⟨he,⟨c,nT x.k hk⟩,rfl⟩
abbrev muK:Go.Conc.Locks.MuLink:={ lock:=29,unlock:=30,ilock:=70,iunlock:=71,lockSlow:=123,unlockSlow:=126,disable:=119,enable:=121,acquire:=122,relMerge:=124,cas32:=120,add32:=125,tMutex:=66,tIMutex:=64,tPMutex:=128,tPIMutex:=171,tPI32:=173,tUP:=175,tNoCopy:=61,tU32:=62 }
theorem MI:Go.Conc.Locks.MuLib prog muK:=
 ⟨func29,func30,func70,func71,func119,func121,func122,func124,func120,func125,
 Tryz.underlying64,Tryz.runUnderlying64,Tryz.sizeOf64,Tryz.isAgg64,Tryz.zeroValue64,
 Tryz.underlying66,Tryz.runUnderlying66,Tryz.sizeOf66,Tryz.isAgg66,Tryz.zeroValue66,
 Tryz.underlying128,Tryz.runUnderlying128,Tryz.sizeOf128,Tryz.isAgg128,Tryz.zeroValue128,
 Tryz.underlying171,Tryz.runUnderlying171,Tryz.sizeOf171,Tryz.isAgg171,Tryz.zeroValue171,
 Tryz.underlying173,Tryz.runUnderlying173,Tryz.sizeOf173,Tryz.isAgg173,Tryz.zeroValue173,
 Tryz.underlying175,Tryz.runUnderlying175,Tryz.sizeOf175,Tryz.isAgg175,Tryz.zeroValue175,
 Tryz.underlying61,Tryz.runUnderlying61,Tryz.sizeOf61,Tryz.isAgg61,Tryz.zeroValue61,
 Tryz.underlying21,Tryz.runUnderlying21,Tryz.sizeOf21,Tryz.isAgg21,Tryz.zeroValue21,
 (by kernel_rfl)⟩
abbrev rQ(s:Int)(lw sb bS lim o:Nat):Obj:=.cells #[.int .i32 s,.int .u32 0,.int .u64 bS,.int .i64 lim,.int .i64 o,.pointer (some ⟨lw,0,none⟩),.pointer (some ⟨sb,0,none⟩)] 68
structure HW(w W:World)(hb sb lw:Nat)(x:Bx)(t:Bt)(fr:Nat->List Nat)(ls:List (Nat×Nat))(S:Sb)(s:Int):Prop where
 so:∃ h,SO w W sb lw x t fr ls S h
 lv:fB S
 bx:W.heap[hb]?=some (rQ s lw sb x.bS x.lim x.o)
 nw:w.heap.size<=hb
 br:x.bS%x.R=0
theorem SO.hty{w W sb lw x t fr ls S h}(s:SO w W sb lw x t fr ls S h){y:Nat}{cs:Array Value}{z:Nat×Nat}(hy:W.heap[y]?=some (.cells cs 68 z)):¬bN x sb y:=by
 rintro (e|e)
 ·exact absurd (s.sw.pl.pty hy (.inl e)) (by unfold Go.Proofs.YtfmgnljlkdmndaaGreatDoor.pty;decide)
 ·subst e;exact absurd (kN hy s.sw.bx) (by decide)
section
variable {w W W':World} {hb sb lw:Nat} {x:Bx} {t:Bt} {fr:Nat->List Nat} {ls:List (Nat×Nat)} {S:Sb} {s:Int}
theorem HW.nhb(H:HW w W hb sb lw x t fr ls S s):¬bN x sb hb:=by obtain⟨h,o⟩:=H.so;exact o.hty H.bx
theorem HW.po(H:HW w W hb sb lw x t fr ls S s):PO w W lw x t fr ls:=by obtain⟨h,o⟩:=H.so;exact o.po
theorem HW.keep(H:HW w W hb sb lw x t fr ls S s)(k:Kt nO W W'):HW w W' hb sb lw x t fr ls S s:=by obtain⟨h,o⟩:=H.so;exact⟨⟨h,o.keep k⟩,H.lv,(k.block _ (lH H.bx) id).trans H.bx,H.nw,H.br⟩
theorem HW.c(H:HW w W hb sb lw x t fr ls S s):W.cell? ⟨hb,0,none⟩=some (.int .i32 s)/\W.cell? ⟨hb,2,none⟩=some (.int .u64 x.bS)/\W.cell? ⟨hb,3,none⟩=some (.int .i64 x.lim)/\W.cell? ⟨hb,4,none⟩=some (.int .i64 x.o)/\W.cell? ⟨hb,5,none⟩=some (.pointer (some ⟨lw,0,none⟩))/\W.cell? ⟨hb,6,none⟩=some (.pointer (some ⟨sb,0,none⟩)):=by refine⟨?_,?_,?_,?_,?_,?_⟩ <;> simp[World.cell?,H.bx]
theorem HW.fz(H:HW w W hb sb lw x t fr ls S s)(j:Nat):W.frozen? ⟨hb,j,none⟩=false:=by simp[World.frozen?,H.bx]
theorem HW.call{x':Bx}{t':Bt}{fr':Nat->List Nat}{ls':List (Nat×Nat)}{S':Sb}{h':Nat->Int}(H:HW w W hb sb lw x t fr ls S s)(o:SO w W' sb lw x' t' fr' ls' S' h')(v:fB S')(c:Ch x t ls S x' t' ls' S')(k:Kt (bN x sb) W W'):HW w W' hb sb lw x' t' fr' ls' S' s:=
 ⟨⟨h',o⟩,v,by rw[c.bS,c.lim,c.o];exact(k.block _ (lH H.bx) H.nhb).trans H.bx,H.nw,by rw[c.bS,c.R];exact H.br⟩
theorem HW.set(H:HW w W hb sb lw x t fr ls S s)(v:Int):HW w (W.setCell ⟨hb,0,none⟩ (.int .i32 v)) hb sb lw x t fr ls S v/\Kt (fun y=>y=hb) W (W.setCell ⟨hb,0,none⟩ (.int .i32 v)):=by
 have kp:Kt (fun y=>y=hb) W (W.setCell ⟨hb,0,none⟩ (.int .i32 v)):=(Kt.refl (fun y=>y=hb) W).setCell (p:=⟨hb,0,none⟩) rfl _;refine⟨⟨?_,H.lv,?_,H.nw,H.br⟩,kp⟩
 ·obtain⟨h,o⟩:=H.so;have nl:∀ {y cs e z},W.heap[y]?=some (.cells cs e z)->e≠68->y≠hb:=fun hy he e=>he (kN (e▸hy) H.bx)
  have a:∀ y,(aC x y\/y=x.b\/y=x.l\/y=lw)->y≠hb:=fun y hy e=>by subst e;exact absurd (o.sw.pl.pty H.bx hy) (by unfold Go.Proofs.YtfmgnljlkdmndaaGreatDoor.pty;decide)
  refine⟨h,⟨⟨⟨(kp.block _ (lH o.sw.pl.box) (a _ (.inr (.inr (.inr rfl))))).trans o.sw.pl.box,o.sw.pl.bd.kept kp (fun y hy=>a y ?_),o.sw.pl.nw,o.sw.pl.kp.setNew (p:=⟨hb,0,none⟩) (fun e=>absurd H.nw (Nat.not_le.2 e)) _⟩,(kp.block _ (lH o.sw.bx) (nl o.sw.bx (by decide))).trans o.sw.bx,o.sw.nw,o.sw.tb⟩,o.sf,o.st,o.bm,o.si,o.hd⟩⟩;rcases hy with hy|hy|hy
  ·exact .inl hy
  ·exact .inr (.inl hy)
  ·exact .inr (.inr (.inl hy))
 ·rw[cF H.bx];simp
theorem HW.lock(H:HW w W hb sb lw x t fr ls S 0):
  Calls prog 29 #[.pointer (some ⟨hb,0,none⟩)] W fun e a=>e=.returned (.tuple #[])/\a=W.setCell ⟨hb,0,none⟩ (.int .i32 1):=lock_free MI ⟨hb,0,none⟩ W H.c.1 (H.fz 0)
theorem HW.unlock(H:HW w W hb sb lw x t fr ls S 1)(u:FrameMode):
  CallsD prog 30 #[.pointer (some ⟨hb,0,none⟩)] u W fun e a b=>a=u/\(e=.returned (.tuple #[])/\b=W.setCell ⟨hb,0,none⟩ (.int .i32 0)):=unlock_deferred MI ⟨hb,0,none⟩ u W H.c.1 (H.fz 0)
theorem HW.round{K:Nat->Prop}{w2:World}{b:Bx}{g:Bt}{d:Nat->List Nat}{c:List (Nat×Nat)}{q:Sb}(H:HW w W hb sb lw x t fr ls S 0)(hK:¬K hb)(k:Kt K (W.setCell ⟨hb,0,none⟩ (.int .i32 1)) w2)(p:HW w w2 hb sb lw b g d c q 1)(j:b.bS=x.bS)(f:b.lim=x.lim)(l:b.o=x.o):Kt K W (w2.setCell ⟨hb,0,none⟩ (.int .i32 0)):=by
 have a:=(H.set 1).2;refine⟨k.os.trans a.os,k.tape.trans a.tape,k.output.trans a.output,?_,fun i hi m=>?_⟩
 ·have u:=a.size;have r:=k.size;simp
  omega
 ·by_cases e:i=hb
  ·subst e;rw[cF p.bx,H.bx,j,f,l];simp
  ·rw[Below.heap_setCell w2 ⟨hb,0,none⟩ _ i (fun f=>e f),k.block i (bg hi a.size) m];exact a.block i hi e
end
inductive Pk(x:Bx)(t:Bt)(fr:Nat->List Nat)(ls:List (Nat×Nat))(S:Sb)(g:Nat):Prop where
 | slab (k:Nat) (hc:S.c g=some k)
 | big (q k:Nat) (hm:(q,k)∈ls) (hc:S.c q=none) (hg:S.c g=none) (h1:q<=g) (h2:g<q+2 ^ k) (hp:t.m.pg g=aU (if g=q then 2 else 3) (k:Int))
 | free (q j:Nat) (hm:q∈fr j) (hj:j<=x.o) (hg:S.c g=none) (h1:q<=g) (h2:g<q+2 ^ j) (hp:t.m.pg g=aU (if g=q then 0 else 1) (j:Int))
section
variable {w W:World} {sb lw:Nat} {x:Bx} {t:Bt} {fr:Nat->List Nat} {ls:List (Nat×Nat)} {S:Sb} {h:Nat->Int}
theorem SO.kind(o:SO w W sb lw x t fr ls S h){g:Nat}(hg:g<t.m.n):Pk x t fr ls S g:=by
 cases e:S.c g with
 | some k=>exact .slab k e
 | none=>
  have i:=fun {p k q j:Nat}=>o.apart (p:=p) (k:=k) (q:=q) (j:=j)
  have r:=fun {p k:Nat}=>o.mem (p:=p) (k:=k)
  have l:=o.si.eP;obtain⟨B,s,A,hL⟩:=o.sf;obtain⟨a,p,k,hb,f,b⟩:=s.cv g hg;have v:a≠9:=fun e=>A p k (e▸hb)
  have hp:=s.pg a p k hb v g f b;rw[l,iW e,Option.getD_none] at hp;rcases s.tg a p k hb with rfl|rfl|rfl
  ·obtain⟨z,y⟩:=(s.fi p k).1 hb;exact .free p k y z e f b hp
  ·have u:=(hL p k).1 hb;refine .big p k u ?_ e f b hp
   cases e2:S.c p with
   | none=>rfl
   | some c=>
    exfalso
    have hz : 0<2 ^ k:=ap (by decide);rcases i (r e2).1 u with ⟨_,d⟩|d|d
    ·subst d;rw[Nat.pow_zero] at b;obtain rfl:p=g:=(by omega);rw[e] at e2
     cases e2
    ·rw[Nat.pow_zero] at d;omega
    ·omega
  ·exact absurd rfl v
inductive Pa(x:Bx)(t:Bt)(ls:List (Nat×Nat))(S:Sb)(a s g:Nat):Prop where
 | cell (k i:Nat) (hc:S.c g=some k) (hl:iZ x S a g k i) (hs:s=aB k)
 | big (q k:Nat) (hm:(q,k)∈ls) (hc:S.c q=none) (hg:S.c g=none) (h1:q<=g) (h2:g<q+2 ^ k) (ha:a=ad x q) (hs:s=4096*2 ^ k)
theorem SO.big_none(o:SO w W sb lw x t fr ls S h){q k g:Nat}(b:(q,k)∈ls)(hc:S.c q=none)(d:q<=g)(f:g<q+2 ^ k):S.c g=none:=by
 cases e:S.c g with
 | none=>rfl
 | some c=>
  exfalso
  rcases o.apart (o.mem e).1 b with ⟨a,_⟩|a|a
  ·subst a;rw[hc] at e
   cases e
  ·rw[Nat.pow_zero] at a;omega
  ·omega
theorem SO.lth_at(o:SO w W sb lw x t fr ls S h){a s p:Nat}(hl:aS x ls S a s)(u:a<=p)(r:p<a+s):aJ x p/4096<t.m.n/\Pa x t ls S a s (aJ x p/4096):=by
 have z:=o.inside hl;have C:=o.po.nums.2.2.2.1;have c:aJ x p=p-x.bS:=by unfold aJ;omega
 have A:=o.st;rw[c];refine⟨by omega,?_⟩;rcases hl with ⟨g,k,i,l,rfl⟩|⟨q,k,f,hc,rfl,rfl⟩
 ·have b:=l;obtain⟨c1,c2,c3,rfl⟩:=b;have v:=(o.si.pg g k c1).1;have B:=o.mem c1;have y:=fV (x:=x) (p:=g) v c2 (by omega);have e:aK x g k i=x.bS+4096*g+i*aB k:=rfl;have hg:(p-x.bS)/4096=g:=by omega
  rw[hg];exact .cell k i c1 l rfl
 ·unfold ad at u r;have j:q<=(p-x.bS)/4096:=by omega
  have d:(p-x.bS)/4096<q+2 ^ k:=by omega
  exact .big q k f hc (o.big_none f hc j d) j d rfl rfl
def jB(x:Bx)(ls:List (Nat×Nat))(S:Sb)(p a s:Nat)(l:Bool):Prop:=(l=true/\aS x ls S a s/\a<=p/\p<a+s)\/(l=false/\∀ b z,aS x ls S b z->¬(b<=p/\p<b+z))
theorem SO.ar_far(o:SO w W sb lw x t fr ls S h){p:Nat}(hg:¬aJ x p/4096<t.m.n)(a s:Nat):jB x ls S p a s false:=.inr ⟨rfl,fun b z hl ⟨c,h2⟩=>hg (o.lth_at hl c h2).1⟩
theorem SO.ar_free(o:SO w W sb lw x t fr ls S h){p q j:Nat}(g:q∈fr j)(l:j<=x.o)(v:q<=aJ x p/4096)(u:aJ x p/4096<q+2 ^ j)(hc:S.c (aJ x p/4096)=none)(a s:Nat):jB x ls S p a s false:=.inr ⟨rfl,fun b z hl ⟨l1,l2⟩=>by
 have hL:=(o.lth_at hl l1 l2).2;obtain⟨B,sd,y,f⟩:=o.sf
 cases hL with
 | cell k i c1=>rw[hc] at c1;cases c1
 | big m k d _ _ A r=>
  rcases sd.ds _ _ _ _ _ _ ((sd.fi q j).2 ⟨l,g⟩) ((f m k).2 d)with ⟨e,_⟩|e|e
  ·exact absurd e (by decide)
  ·omega
  ·omega⟩
theorem SO.off_eq(o:SO w W sb lw x t fr ls S h){p:Nat}(hp:p<18446744073709551616)(hg:aJ x p/4096<t.m.n):x.bS<=p/\aJ x p=p-x.bS:=by have b:=o.po.nums.2.2.2.1;have a:=o.st;unfold aJ at hg ⊢;omega
theorem SO.ar_big(o:SO w W sb lw x t fr ls S h){p q k:Nat}(hp:p<18446744073709551616)(hg:aJ x p/4096<t.m.n)(b:(q,k)∈ls)(hc:S.c q=none)(a:q<=aJ x p/4096)(d:aJ x p/4096<q+2 ^ k):jB x ls S p (ad x q) (4096*2 ^ k) true:=by
 obtain⟨b1,b2⟩:=o.off_eq hp hg;rw[b2] at a d;refine .inl ⟨rfl,.inr ⟨q,k,b,hc,rfl,rfl⟩,?_,?_⟩
 ·unfold ad;omega
 ·unfold ad;omega
theorem SO.down_at(o:SO w W sb lw x t fr ls S h){p g k:Nat}(hp:p<18446744073709551616)(hg:aJ x p/4096=g)(hc:S.c g=some k):∃ i,i<aF k/\p/aB k*aB k=aK x g k i/\aK x g k i<=p/\p<aK x g k i+aB k:=by
 obtain⟨q,_⟩:=o.si.pg g k hc;have j:=o.mem hc;have hz:=cN q;have a:=cW q;obtain⟨b1,b2⟩:=o.off_eq hp (by rw[hg];exact j.2.1);have r:=o.bm;rw[b2] at hg;obtain⟨d,hd⟩:=xe ((p-x.bS)%4096);have e:p=x.bS+4096*g+d:=by omega
 have u:d<4096:=by omega
 obtain⟨b,hb⟩:∃ b,x.bS=4096*b:=⟨x.bS/4096,by omega⟩;have l:x.bS+4096*g=aF k*(b+g)*aB k:=by rw[hb,<-Nat.mul_add,Nat.mul_right_comm,a.1]
 have v:p/aB k=aF k*(b+g)+d/aB k:=by rw[e,l,Nat.add_comm,Nat.add_mul_div_right _ _ (by omega),Nat.add_comm]
 have m:=Nat.div_add_mod d (aB k);have y:=Nat.mod_lt d (show 0<aB k by omega);refine⟨d/aB k,?_,?_,?_,?_⟩
 ·refine Nat.lt_of_not_le fun f=>?_
  have:=ak (aB k) f;rw[a.1,aq] at this;omega
 ·rw[v,av,<-l];rfl
 ·show x.bS+4096*g+d/aB k*aB k<=p
  rw[aq] at m;omega
 ·show p<x.bS+4096*g+d/aB k*aB k+aB k
  rw[aq] at m;omega
theorem SO.ar_cell(o:SO w W sb lw x t fr ls S h){p g k i:Nat}(hg:aJ x p/4096=g)(hc:S.c g=some k)(hi:i<aF k)(f:aK x g k i<=p)(d:p<aK x g k i+aB k):jB x ls S p (aK x g k i) (aB k) (decide (i ∉ S.fl g)):=by
 by_cases hf:i∈S.fl g
 ·rw[ah (fun e=>e hf)];refine .inr ⟨rfl,fun b z hl ⟨l1,l2⟩=>?_⟩;have hL:=(o.lth_at hl l1 l2).2;rw[hg] at hL
  cases hL with
  | big q j _ _ e=>rw[hc] at e;cases e
  | cell j a c1 l hs=>
   rw[hc] at c1;injection c1 with c1
   subst c1 hs;obtain⟨v1,v2,v3,rfl⟩:=l;have hz:=cN (o.si.pg g k hc).1;have m:aK x g k i=x.bS+4096*g+i*aB k:=rfl;have r:aK x g k a=x.bS+4096*g+a*aB k:=rfl;have:i=a:=by
    rcases Nat.lt_trichotomy i a with e|e|e
    ·have:=ak (aB k) (show i+1<=a from e);rw[av,aL] at this;omega
    ·exact e
    ·have:=ak (aB k) (show a+1<=i from e);rw[av,aL] at this;omega
   subst this;exact v3 hf
 ·rw[af hf];exact .inl ⟨rfl,.inl ⟨g,k,i,⟨hc,hi,hf,rfl⟩,rfl⟩,f,d⟩
theorem SO.cell_liv(o:SO w W sb lw x t fr ls S h){g k i:Nat}(hc:S.c g=some k)(hi:i<aF k):fH x t (aK x g k i)=decide (i ∉ S.fl g):=by
 by_cases hf:i∈S.fl g
 ·rw[ah (fun e=>e hf)]
  cases e:fH x t (aK x g k i)with
  | false=>rfl
  | true=>
   exfalso
   have d:=(o.si.pg g k hc).1;have j:=o.mem hc;have l:=o.po.nums.2.2.2.1;obtain⟨q,r,m,v1,v2,v3,v4⟩:=o.liv_of (fV (x:=x) (p:=g) d hi (by omega)).2.2 e;obtain⟨a,f,b⟩:=o.cell_ne hc hi v1 v2 v4;subst a f b;exact v3 hf
 ·rw[af hf];exact(o.of_liv ⟨hc,hi,hf,rfl⟩).1
end
abbrev jK(a s:Nat):Value:=.agg #[.int .u64 a,.int .u64 s]
abbrev cA(a s:Nat):Obj:=.cells #[.int .u64 a,.int .u64 s] 73
abbrev pF:Obj:=.cells #[.int .u64 0,.int .u64 0] 73
theorem fS{W:World}{y a s:Nat}(h:W.heap[y]?=some (cA a s)):W.cell? ⟨y,0,none⟩=some (.int .u64 a)/\W.cell? ⟨y,1,none⟩=some (.int .u64 s)/\∀ j,W.frozen? ⟨y,j,none⟩=false:=by refine⟨?_,?_,fun j=>?_⟩ <;> simp[World.cell?,World.frozen?,h]
theorem le8{P:Nat->Prop}(h0:P 0)(b:P 1)(g:P 2)(e:P 3)(f:P 4)(d:P 5)(a:P 6)(i:P 7)(c:P 8):∀ k,k<=8->P k:=fun k j=>by
 rcases Nat.lt_or_ge k 8 with h|h
 ·exact uJ h0 b g e f d a i k h
 ·obtain rfl:k=8:=by omega
  exact c
theorem zN:∀ k:Nat,k<=8->∀ (q:Pg) (hq:q.od=(k:Int)) (W:World),
  Calls prog 47 #[cD q] W fun e d=>e=.returned (.int .u64 ((4096*2 ^ k:Nat):Int))/\Kt nO W d:=by
 apply le8 <;>
 ·intro q hq W;have b:=aA ((Kt.refl nO W).alloc (aN q));have a:=aA (nH W (aN q));obtain⟨_,c,_⟩:=iU a.o;rw[hq] at c;clear hq a;go_enter func47,ntmps47;go_wp2_with fail;go_ret;exact⟨rfl,b.o⟩
theorem BF:∀ k:Nat,k<8->∀ (q:Pg) (hq:q.cl=(k:Int)) (W:World),
  Calls prog 95 #[cD q] W fun e d=>e=.returned (.int .u64 ((aB k:Nat):Int))/\Kt nO W d:=by
 apply uJ <;>
 ·intro q hq W;have b:=aA ((Kt.refl nO W).alloc (aN q));have a:=aA (nH W (aN q));obtain⟨_,_,c,_⟩:=iU a.o;rw[hq] at c;clear hq a;go_enter func95,ntmps95;go_wp2_with fail;go_ret;exact⟨rfl,b.o⟩
section
variable {w W W':World} {hb sb lw:Nat} {x:Bx} {t:Bt} {fr:Nat->List Nat} {ls:List (Nat×Nat)} {S:Sb} {s:Int}
theorem tT(H:HW w W hb sb lw x t fr ls S s)(n:Nat)(l:n<=1024):
  Calls prog 46 #[.pointer (some ⟨hb,0,none⟩),.int .i64 n] W fun e g=>e=.returned (.int .u64 ((x.bS+4096*n:Nat):Int))/\g=W:=by
 obtain⟨c0,c2,c3,c4,c5,k⟩:=H.c;have f:=H.po.nums.2.2.2.1;have d:x.bS<=9223372036854775808:=by omega
 clear H;generalize x.bS=b at c2 f d ⊢;obtain⟨a,ha⟩:=xe (b+4096*n);rw[<-ha];have i:IntKind.u64.wrap (n:Int)=n:=by rw[wrap_u64];omega
 have m:IntKind.u64.wrap ((n:Int)*4096)=(n:Int)*4096:=by rw[wrap_u64];omega
 have j:IntKind.u64.wrap ((b:Int)+(n:Int)*4096)=(a:Int):=by rw[wrap_u64];omega
 have o:(b:Int)+(n:Int)*4096=(a:Int):=by omega
 clear f;go_enter func46,ntmps46;go_wp2_with fail;go_ret;exact⟨dZ (by omega),rfl⟩
theorem zgq(H:HW w W hb sb lw x t fr ls S s):
  Calls prog 37 #[.pointer (some ⟨hb,0,none⟩)] W fun e g=>e=.returned (.int .u64 x.n)/\Kt nO W g:=by
 obtain⟨c0,c2,c3,c4,c5,C⟩:=H.c;have l:=H.po.nums.2.2.2.1;obtain⟨E,l1,l2⟩:=H.po.pl.c;have u:=aA (fun W' (k:Kt nO W W')=>iK (H.keep k).po.pl);have j:=aA (fun W' (k:Kt nO W W')=>rR (H.keep k).po);obtain⟨b,a⟩:=xe (x.bS);obtain⟨f,d⟩:=xe (x.bS+x.n);rw[<-d] at j;obtain⟨n,i⟩:=xe (x.n);have p:b<=9223372036854775808:=by omega
 have B:(f:Int)-(b:Int)=n:=by omega
 have z:n<=9223372036854775808:=by omega
 have r:f<=9223372036854775808:=by omega
 rw[<-a] at c2;rw[<-i];clear H l a d i;have q:=aA (fun W' (k:Kt nO W W')=>(k.cell id c5));have m:=aA (fun W' (k:Kt nO W W')=>(k.cell id c2));go_enter func37,ntmps37;go_wp2_with fail;have A:=fun y:KW W=>q.o y.v y.k
 have o:=fun y:KW W=>m.o y.v y.k
 refine cS (by kernel_rfl) (by kernel_rfl) ?_;repeat (go_big_quiet_step (first|(go_at_call 31;exact Calls.kept_of ((u.o _ (KW.k _)).mono fun e g h=>⟨h.1,by rw[h.2];exact Kt.refl _ _⟩))|(go_at_call 76;exact Calls.kept_of (j.o _ (KW.k _)))))
 refine wpQuiet_nil ?_;intro y;have D:=aA y.k;go_wp2_with fail;go_ret;exact⟨by simp,D.o⟩
end
end Go.Proofs.YtfmgnljlkdmndaaGreatDoor
