import Derived.Test.YtfmgnljlkdmndaaGreatDoorWm
import Derived.Test.YtfmgnljlkdmndaaGreatDoorWh
import Derived.Test.YtfmgnljlkdmndaaGreatDoorWq
import Derived.Test.YtfmgnljlkdmndaaGreatDoorWn
set_option maxRecDepth 1000000
set_option maxHeartbeats 0
namespace Go.Proofs.YtfmgnljlkdmndaaGreatDoor
open Tryz
open Go.ChangeShapes Go.WideShapes Go.ChangeAt Go.RowKit Go.Deep
set_option linter.unusedVariables false
theorem tF{w a:Wd}(h:iQ w)(k:Kt nO w a):iQ a:=fun i hi=>k.cell (fun x=>x) (h i hi)
theorem CU(w:Wd)(i:iQ w):Calls prog 5 #[] w fun e a=>e=.returned (.bool true)/\Kt nO w a:=by
 refine W.awake_of (fun _ _ h k=>tF h k) (fun V b=>?_) (fun V U s b f=>?_) w i;·refine(YP 65536 (by decide) 2 1 (by decide) (by decide) (by decide) (by decide) V b).mono ?_;rintro e a ⟨hb,g,c,x,rfl,H,-⟩;exact⟨hb,rfl,H.po.pl.kp⟩
 ·refine(zU f.d (by rw[W.chk_vo]) b).mono ?_;rintro e a ⟨hb,g,c,x,t,fr,ls,S,rfl,H,-⟩;exact⟨hb,rfl,H.po.pl.kp⟩
structure OpIn9(w:Wd)(bl o k:Nat)(c:Op9)(g:Nat->Nat):Prop where
 hw : -9223372036854775808<=c.w/\c.w<=9223372036854775807
 ha:c.a<18446744073709551616
 hb:c.b<18446744073709551616
 hs:c.sn<=c.sc
 hc:c.sc<=9223372036854775807
 na:M.Bytes w (.slice c.sa c.sn c.sc) c.sn g
 c0:w.cell? ⟨bl,o+k*6,none⟩=some (.int .i64 c.k)
 c1:w.cell? ⟨bl,o+k*6+1,none⟩=some (.int .i64 c.w)
 c2:w.cell? ⟨bl,o+k*6+2,none⟩=some (.int .u64 c.a)
 c3:w.cell? ⟨bl,o+k*6+3,none⟩=some (.int .u64 c.b)
 c4:w.cell? ⟨bl,o+k*6+4,none⟩=some (.bool c.d)
 c5:w.cell? ⟨bl,o+k*6+5,none⟩=some (.slice c.sa c.sn c.sc)
def oF(w:Wd)(v:Vl)(m:Nat):Prop:=
 m<=9223372036854775807/\∃ oa oc,v=.slice oa m oc/\(m=0\/∃ bl o,oa=some ⟨bl,o,none⟩/\bl<w.heap.size/\∀ k,k<m->∃ c g,OpIn9 w bl o k c g)
theorem OpIn9.dk{w W:Wd}{a o k:Nat}{c:Op9}{g:Nat->Nat}(h:OpIn9 w a o k c g)(kp:Kt nO w W):OpIn9 W a o k c g:=
 ⟨h.hw,h.ha,h.hb,h.hs,h.hc,h.na.dk (fJ kp),kp.cell id h.c0,kp.cell id h.c1,kp.cell id h.c2,kp.cell id h.c3,kp.cell id h.c4,kp.cell id h.c5⟩
theorem zkp:prog.cellsOf 36=6:=by kernel_rfl
theorem ziq:prog.cellsOf 22=1:=by kernel_rfl
theorem zir:prog.cellsOf 3=1:=by kernel_rfl
theorem zgN:prog.cellsOf 4=1:=by kernel_rfl
theorem LW:prog.cellsOf 34=1:=by kernel_rfl
theorem IL{w:Wd}{a:Addr}{v:Vl}(h:w.cell? a=some v):∃ b o,a=⟨b,o,none⟩/\b<w.heap.size:=by
 obtain⟨b,o,s⟩:=a;unfold World.cell? at h;split at h
 ·rename_i c;have hb:=(am.1 c).1
  cases s with
  | none=>exact⟨b,o,rfl,hb⟩
  | some s=>simp at h
 ·cases h
theorem CT{x:Int}(h:(Lit.int .u64 x).wf=true) : 0<=x/\x<18446744073709551616:=by simp[Lit.wf,show IntKind.u64.min=0 from rfl,show IntKind.u64.max=18446744073709551615 from rfl] at h;omega
theorem OH{x:Int}(h:(Lit.int .u8 x).wf=true) : 0<=x/\x<256:=by simp[Lit.wf,show IntKind.u8.min=0 from rfl,show IntKind.u8.max=255 from rfl] at h;omega
theorem zl9{w:Wd}{x:Addr}{l c:Nat}{zs:List Int}(hl:l<=c)(hz:zs.length=c)(a:∀ i,i<zs.length->w.cell? (x.add i)=some (.int .u8 (zs.getD i 0)))(h:∀ n∈zs,(Lit.int .u8 n).wf=true):∃ g,M.Bytes w (.slice (some x) l c) l g:=by
 have hb:∀ i,i<zs.length->0<=zs.getD i 0/\zs.getD i 0<256:=fun i hi=>by rw[ai,bo hi];exact OH (h _ (List.getElem_mem hi))
 refine⟨fun i=>(zs.getD i 0).toNat,fun i hi=>?_,some x,c,rfl,?_⟩
 ·have:=hb i (by omega);show(zs.getD i 0).toNat<256
  omega
 ·rcases dx l with h0|h0
  ·exact .inl h0
  ·have c0:=a 0 (by omega);obtain⟨b,o,e,f⟩:=IL c0;have d:x.block=b:=by
    have:=congrArg Addr.block e;rw[M.addr_add_block] at this;exact this
   refine .inr ⟨x,rfl,by rw[d];exact f,fun j k=>?_⟩;have:=hb j (by omega);rw[a j (by omega),Int.toNat_of_nonneg this.1]
theorem PM{x:Int}(h:(Lit.int .i64 x).wf=true) : -9223372036854775808<=x/\x<=9223372036854775807:=by simp[Lit.wf,show IntKind.i64.min = -9223372036854775808 from rfl,show IntKind.i64.max=9223372036854775807 from rfl] at h;omega
theorem TW{H:Type}{enc:TypeId×Vl->H}{W:Wd}{a:Option Addr}{len cap:Nat}{d:DataW H}{p:List MemPlace}{fuel:Nat} (hf:DataW.trod enc prog W 0 (fun _=>true) true fuel 25 [.slice a len cap]=some (d,p)):oF W (.slice a len cap) len:=by
 rcases open_slice Tryz.underlying25 hf with ⟨f,_⟩|⟨x,l,c,m,n,D,Pl,f,_,hl,S,z,_,hx⟩
 ·simp at f;obtain⟨rfl,rfl,rfl⟩:=f;exact⟨by omega,none,0,rfl,Or.inl rfl⟩
 ·simp at f;obtain⟨rfl,rfl,rfl⟩:=f;simp only[if_true] at z;subst z;have a0:m<=9223372036854775807:=by unfold maxLen at S;omega
  refine⟨by omega,some x,m,rfl,?_⟩;by_cases h0:len=0;·exact Or.inl h0
  ·right
   rw[zkp] at hx;have v:∀ k,k<len->∃ (G s:Int) (A B:Nat) (I:Bool) (ao:Option Addr) (q j:Nat) (g:Nat->Nat),(-9223372036854775808<=s/\s<=9223372036854775807)/\A<18446744073709551616/\B<18446744073709551616/\q<=j/\j<=9223372036854775807/\M.Bytes W (.slice ao q j) q g/\
     W.cell? ((x.add (k*6)).add 0)=some (.int .i64 G)/\W.cell? ((x.add (k*6)).add 1)=some (.int .i64 s)/\W.cell? ((x.add (k*6)).add 2)=some (.int .u64 A)/\W.cell? ((x.add (k*6)).add 3)=some (.int .u64 B)/\W.cell? ((x.add (k*6)).add 4)=some (.bool I)/\W.cell? ((x.add (k*6)).add 5)=some (.slice ao q j):=by
    intro k hk;obtain⟨cs,V,P⟩:=hx k (by omega);obtain⟨_,u,e⟩:=World.cells?_some V;obtain⟨xs,nn,_,_,_,Y,h⟩:=DataW.trod_struct Tryz.underlying36 P;match cs,u,xs,Y with
    | [c0,c1,c2,c3,c4,c5],_,[y0,y1,y2,y3,y4,y5],_=>
     have r:=h 0 _ rfl;have C:=h 1 _ rfl;have K:=h 2 _ rfl;have J:=h 3 _ rfl;have L:=h 4 _ rfl;have N:=h 5 _ rfl;obtain⟨x0,E,_,_⟩:=DataW.trod_int Tryz.underlying3 r;obtain⟨x1,e1,_,w1⟩:=DataW.trod_int Tryz.underlying3 C;obtain⟨x2,e2,_,w2⟩:=DataW.trod_int Tryz.underlying22 K;obtain⟨x3,e3,_,w3⟩:=DataW.trod_int Tryz.underlying22 J;obtain⟨x4,Z,_⟩:=DataW.trod_bool Tryz.underlying4 L;simp[ziq,zir,zgN] at E e1 e2 e3 Z;subst E e1 e2 e3 Z;have b1:=PM w1;have b2:=CT w2;have b3:=CT w3;obtain⟨A,rfl⟩:=au b2.1;obtain⟨B,rfl⟩:=au b3.1;have t:∃ F q j y,c5=.slice F q j/\q<=j/\j<=maxLen/\M.Bytes W (.slice F q j) q y:=by
      rcases open_ints Tryz.underlying34 Tryz.underlying5 (by kernel_rfl) N with ⟨f,_⟩|⟨x,l,c,zs,f,_,hl,S,hz,_,e,R⟩
      ·simp[LW] at f;exact⟨none,0,0,fun _=>0,f,aj _,az _,fun i hi=>by omega,none,0,rfl,.inl rfl⟩
      ·simp[LW] at f;obtain⟨y,Q⟩:=zl9 (w:=W) (x:=x) (l:=l) (c:=c) (zs:=zs) hl (by simpa using hz) e R;exact⟨some x,l,c,y,f,hl,S,Q⟩
     obtain⟨F,q,j,y,rfl,T,U,X⟩:=t;unfold maxLen at U;exact⟨x0,x1,A,B,x4,F,q,j,y,b1,by omega,by omega,T,by omega,X,e 0 (by simp),e 1 (by simp),e 2 (by simp),e 3 (by simp),e 4 (by simp),e 5 (by simp)⟩
   obtain⟨G,s,A,B,I,ao,q,j,g,_,_,_,_,_,_,r,_⟩:=v 0 (by omega);have E:(x.add (0*6)).add 0=x:=(by simp[Addr.add]);rw[E] at r;obtain⟨b,o,rfl,hb⟩:=IL r;refine⟨b,o,rfl,hb,fun k hk=>?_⟩;obtain⟨G,s,A,B,I,ao,q,j,g,V,P,Q,h4,h5,h6,r,C,K,J,L,N⟩:=v k hk;rw[Addr.add_lit,Addr.add_lit] at r C K J L N;exact⟨⟨G,s,A,B,I,ao,q,j⟩,g,⟨V,P,Q,h4,h5,h6,by simpa using r,C,K,J,L,N⟩⟩
open Go.RowKit
def rT(w:Wd)(e:Ending)(w':Wd):Prop:=e=.returned (.bool true)/\Kt nO w w'
structure Ag9(I J:W.Img):Prop where
 bS:I.bS=J.bS
 dl:I.dl=J.dl
 ord:I.ord=J.ord
 ep:I.ep=J.ep
 nm:I.nm=J.nm
 mem:∀ i,i<I.nm->I.mem i=J.mem i
 np:I.np=J.np
 pg:∀ i,i<I.np->I.pg i=J.pg i
 no:I.no=J.no
 pr:∀ i,i<I.no->I.pr i=J.pr i
 hd:I.hd=J.hd
 pt:I.pt=J.pt
theorem Ag9.a{I J:W.Img}(h:Ag9 I J)(V:W.ImV):W.imA I V=W.imA J V:=by
 show Value.agg #[.int .u64 I.bS,.int .i64 I.dl,.int .i64 I.ord,.int .i64 I.ep,_,_,_,_,_]=Value.agg #[.int .u64 J.bS,.int .i64 J.dl,.int .i64 J.ord,.int .i64 J.ep,_,_,_,_,_]
 rw[h.bS,h.dl,h.ord,h.ep]
theorem SlIn9.kx{w:Wd}{v:Vl}{n:Nat}{C D:Nat->Nat->Nat->Prop}(h:W.SlIn w v n C)(b:∀ a o i,i<n->C a o i->D a o i):W.SlIn w v n D:=by obtain⟨d,g,c,f,e⟩:=h;exact⟨d,g,c,f,e.imp id fun ⟨a,o,e1,e2,e3⟩=>⟨a,o,e1,e2,fun i hi=>b _ _ _ hi (e3 i hi)⟩⟩
theorem Ag9.d{I J:W.Img}(h:Ag9 I J){V:W.ImV}{w:Wd}(hd:W.ImD w I V):W.ImD w J V:=by
 obtain⟨d,j,f,m,n,c,e,k,g,a⟩:=hd;have p:=h.nm;have l:=h.np;have q:=h.no;refine⟨by rw[<-h.bS];exact d,by rw[<-h.dl];exact j,by rw[<-h.ord];exact f,by rw[<-h.ep];exact m,?_,c,?_,?_,by rw[<-h.hd];exact g,by rw[<-h.pt];exact a⟩
 ·rw[<-p];refine SlIn9.kx n fun b o i hi hc=>?_
  rw[W.ByC] at hc ⊢;rw[<-h.mem i hi];exact hc
 ·rw[<-l];refine SlIn9.kx e fun b o i hi hc=>?_
  rw[<-h.pg i hi];exact hc
 ·obtain⟨ws,hp⟩:=k;rw[<-q];refine⟨ws,SlIn9.kx hp fun b o i hi hc=>?_⟩;rw[<-h.pr i hi];exact hc
theorem Ag9.gy{I J:W.Img}(h:Ag9 I J):∀ j,j<=I.np->W.gy I j=W.gy J j
 | 0,_=>rfl
 | j+1,a=>by
  show W.gy I j ++ W.ig I j=W.gy J j ++ W.ig J j
  rw[h.gy j (by omega)];congr 1
  unfold W.ig;rw[h.pg j (by omega),h.bS]
theorem Ag9.ey{I J:W.Img}(h:Ag9 I J)(hi:(W.chk I).1=0)(a:(W.chk J).1=0):W.ey I=W.ey J:=by unfold W.ey;rw[ae hi,ae a,h.gy _ (aj _),h.np]
theorem IJ{α : Type}(d : α){l m:List α}(hl:l.length=m.length)(h:∀ i,i<l.length->l.getD i d=m.getD i d):l=m:=by
 refine List.ext_getElem hl fun i a b=>?_
 have:=h i a;rw[ai,ai,bo a,bo b] at this;exact this
theorem SV{I:W.Img}(hc:(W.chk I).1=0)(a:∀ i,i<I.np->W.PgIn (I.pg i)){x:Bx}{t:Bt}{fr:Nat->List Nat}{S:Sb}(hx:Im9 I x t S)(hl:Ls9 I I.ord.toNat fr S)(j:x.dl=I.dl.toNat)(c:∀ i,i<I.nm->t.f i=I.mem i):Ag9 (bN x t S x.dl) I:=by
 obtain⟨r,hS⟩:=W.sn9_chk hc;obtain⟨st,g,e⟩:=AH hc a hl hx;obtain⟨d,l,h⟩:=vD ((nW I).symm.trans (W.chk_zero hc 1 (by decide)));have k8:=hS.k8;have p:=hS.ord;have b:=hx.o;refine⟨hx.bS,?_,?_,?_,hx.n,fun i hi=>c i (by rw[<-hx.n];exact hi),hx.mn,fun i hi=>hx.pg i (by rw[<-hx.mn];exact hi),?_,fun i hi=>hx.wd i hi,?_,?_⟩
 ·show(x.dl:Int)=I.dl
  omega
 ·show(x.o:Int)=I.ord
  omega
 ·show((t.m.n/2 ^ x.o:Nat):Int)=I.ep
  rw[hx.mn,b,<-d,dh _ (ax _)];omega
 ·show x.o=I.no
  rw[hS.no,b]
 ·show(List.range (x.o+1)).map t.hd=I.hd
  refine IJ 0 (by rw[List.length_map,List.length_range,hS.hl,b]) fun i hi=>?_
  have hi:i<x.o+1:=by simpa using hi
  rw[ai,List.getElem?_map,List.getElem?_range hi];exact hx.hd i (by omega)
 ·show((List.range 8).map fun k=>bB (S.pl k))=I.pt
  refine IJ 0 (by rw[List.length_map,List.length_range,hS.tl]) fun i hi=>?_
  have hi:i<8:=by simpa using hi
  rw[ai,List.getElem?_map,List.getElem?_range hi];exact(e i hi).symm
def RR(l:List (Nat×Nat)):Vl->Wd->Prop:=fun u U=>lB U u l
def RI(I:W.Img):Vl->Wd->Prop:=fun u U=>∃ V,u=W.imA I V/\W.ImD U I V
def L7(I:W.Img)(hb:Nat)(A:Vl):List (Vl->Wd->Prop):=[VQ (.int .i64 0),VQ (.bool false),VQ (.bool false),VQ (.pointer (some ⟨hb,0,none⟩)),RR (W.ey I),VQ A,RR (W.ey I),VQ (.bool true),VQ (.bool false),VQ (.bool false),VQ (.bool false),VQ (.pointer (some ⟨hb,0,none⟩)),RI I,VQ A,VQ (.bool true),VQ (.bool false),VQ (.bool false)]
theorem QU(I:W.Img)(hb:Nat)(A:Vl):∀ r∈L7 I hb A,lA r:=by
 have b:lA (RR (W.ey I)):=fun u U d h k=>W.RBk.dk h k
 have c:lA (RI I):=fun u U d ⟨V,e,h⟩ k=>⟨V,e,h.dk k⟩
 unfold L7;repeat refine List.forall_mem_cons.2 ⟨by first|exact AF _|exact b|exact c,?_⟩
 exact fun r l=>by cases l
abbrev F7(I:W.Img)(A:Vl)(o p:Nat)(z:Nat)(b c d e f g:Option Addr)(m h i j k l n:Nat)(v:Nat->Vl):Act:=⟨#[W.imA I ⟨.slice c I.nm i,.slice d I.np j,.slice e I.no k,.slice f I.hd.length l,.slice g I.pt.length n⟩,.slice b m h,.pointer (some ⟨p,0,none⟩),undef,.bool false,.int .i64 0,.int .i64 z,.pointer (some ⟨o,0,none⟩),.int .i64 0,undef,undef,.bool true,.bool false,.tuple #[.int .i64 0,.int .i64 z],A,.tuple #[.int .i64 0,.int .i64 z],.int .i64 0,.int .i64 z,.int .i64 0,.bool false,undef,undef,undef,undef,.tuple #[.pointer (some ⟨o,0,none⟩),.int .i64 0],A,.tuple #[.pointer (some ⟨o,0,none⟩),.int .i64 0],.pointer (some ⟨o,0,none⟩),.int .i64 0,v 0,v 1,v 2,v 3,v 4,v 5,v 6,v 7,v 8,v 9,v 10,v 11,v 12,v 13,v 14,v 15,v 16,undef,undef,undef,undef,undef,undef,undef,undef,undef,undef,undef,undef,undef,undef,undef,undef,undef,undef,undef,undef,undef,undef,undef,undef,undef,undef,undef,undef,undef,undef,undef,undef],[]⟩
theorem zjb(I:W.Img)(V:W.ImV)(L:Vl)(w:Wd)(U:iQ w)(m:W.ImD w I V)(hc:(W.chk I).1≠0):Calls prog 4 #[W.imA I V,L] w (rT w):=by
 obtain⟨⟨p,r,y⟩,⟨q,u,hp⟩,⟨x,j,D⟩,⟨ha,b,F⟩,⟨s,h,C⟩,-⟩:=m.sl;obtain⟨Y,vp,Z,vh,vt⟩:=V;dsimp only at y hp D F C;subst y hp D F C;have A:=aA (show W.ImAt (w.alloc (W.imO I ⟨.slice p I.nm r,.slice q I.np u,.slice x I.no j,.slice ha I.hd.length b,.slice s I.pt.length h⟩)) w.heap.size I _ from⟨nH _ _,m.dk ((Kt.refl _ w).alloc _)⟩);have k:=aA ((kz w).alloc (W.imO I ⟨.slice p I.nm r,.slice q I.np u,.slice x I.no j,.slice ha I.hd.length b,.slice s I.pt.length h⟩));have B:=aA (CU _ (tF U k.o));obtain⟨z,hz⟩:=xe ((W.chk I).1);have Q:((z:Int) != 0)=true:=cx.2 (by omega);have R:¬(z:Int)=0:=by omega
 have BK:=aA (show W.ey I=[] from by unfold W.ey;rw[ac hc]);have X:=aA hz;clear m hc hz;go_enter func4,ntmps4;go_wp2_with fail;refine B.o.mono ?_;rintro e N ⟨rfl,n⟩;have S:=aA (nT k.o n);have a:=aA (A.o.dk n);have g:=aA (W.Check9 I _ N a.o.d);rw[<-X.o] at g;clear n B A k;generalize w.heap.size=ib at *;obtain⟨c0,c1,c2,c3,c4,c5,i,c7,l⟩:=a.o.cells;go_wp2_with fail;refine g.o.mono ?_;rintro e T ⟨rfl,t⟩;have G:=aA (nT S.o t);have c:=aA (a.o.dk t);have E:=aA (W.Blocks_any I _ T c.o.d);clear c0 c1 c2 c3 c4 c5 i c7 l t g a;obtain⟨c0,c1,c2,c3,c4,c5,i,c7,l⟩:=c.o.cells;go_wp2_with fail;refine E.o.mono ?_;rintro e w3 ⟨v,rfl,o⟩;have P:=aA (nT G.o o.kp);obtain⟨J,K,f,-⟩:=W.GB.rb o;rw[BK.o] at f;have f:v=.slice J 0 K:=f;subst f;clear o E c0 c1 c2 c3 c4 c5 i c7 l;go_wp2_with fail;go_ret;exact⟨rfl,P.o⟩
theorem zk9(I:W.Img)(V:W.ImV)(sa:Option Addr)(sc m:Nat)(i6:m<=9223372036854775807)(w:Wd)(hT:iQ w)(hI:W.ImD w I V)(hc:(W.chk I).1=0)(l:m=0\/∃ bl o,sa=some ⟨bl,o,none⟩/\bl<w.heap.size/\∀ k,k<m->∃ c g,OpIn9 w bl o k c g):Calls prog 4 #[W.imA I V,.slice sa m sc] w (rT w):=by
 have Q:=W.may_of (W.chk_zero hc 0 (by decide));obtain⟨k,L,f1,f2,f3,f4,-⟩:=W.may_facts Q;have b2:∀ i,i<I.np->W.PgIn (I.pg i):=fun i hi=>by
  obtain⟨-,oa,oc,-,e|⟨bl,o,-,-,hc⟩⟩:=hI.je;·omega
  ·exact(hc i hi).1
 obtain⟨b,b1⟩:=xe (I.bS);have a3:=aA (show M.mayB b (L:Int) (k:Int)=true from by rw[b1,<-f1,<-f2];exact Q);have b4:=aA b2;have HC:=aA hc;have HO:=aA l;have HT:=aA hT;have d6:=aA (show ∀ i,i<I.no->(I.pr i).length<=9223372036854775807 from fun i hi=>by obtain⟨r,hS⟩:=W.sn9_chk hc;have h1:=hS.pl i (by rw[<-hS.no];exact hi);have h2:=hS.gj;have h3:I.np/2 ^ (i+1)<=I.np:=dg _ _;rw[h1];unfold W.pwN;omega)
 obtain⟨z,hz⟩:∃ z,W.chk I=(0,z):=⟨(W.chk I).2,by rw[<-hc]⟩;have d3:=aA hz;clear hz;have f6:=aA b1;have FF:=aA (And.intro f1 f2);clear Q b2 hc l b1 f1 f2;obtain⟨⟨C,D,hm⟩,⟨s,A,hp⟩,⟨J,F,hr⟩,⟨ha,hc,hh⟩,⟨G,q,ht⟩,-⟩:=hI.sl;obtain⟨vm,vp,vr,vh,vt⟩:=V;dsimp only at hm hp hr hh ht;subst hm hp hr hh ht;have IA:=aA (show W.ImAt (w.alloc (W.imO I ⟨.slice C I.nm D,.slice s I.np A,.slice J I.no F,.slice ha I.hd.length hc,.slice G I.pt.length q⟩)) w.heap.size I _ from⟨nH _ _,hI.dk ((Kt.refl _ w).alloc _)⟩);have K0:=aA ((kz w).alloc (W.imO I ⟨.slice C I.nm D,.slice s I.np A,.slice J I.no F,.slice ha I.hd.length hc,.slice G I.pt.length q⟩));have AW:=aA (CU _ (tF hT K0.o));clear hI;go_enter func4,ntmps4;go_wp2_with fail;refine AW.o.mono ?_;rintro e w1 ⟨rfl,k1⟩;have K1:=aA (nT K0.o k1);have Y:=aA (IA.o.dk k1);have CH:=aA (W.Check9 I _ w1 Y.o.d);rw[d3.o] at CH;clear k1 AW IA K0;generalize w.heap.size=ib at *;obtain⟨c0,c1,c2,c3,c4,c5,X,c7,T⟩:=Y.o.cells;go_wp2_with fail;refine CH.o.mono ?_;rintro e w2 ⟨rfl,k2⟩;have K2:=aA (nT K1.o k2);have a0:=aA (Y.o.dk k2);have OP:=aA (zU a0.o.d HC.o (tF HT.o K2.o));clear c0 c1 c2 c3 c4 c5 X c7 T k2 CH Y;obtain⟨c0,c1,c2,c3,c4,c5,X,c7,T⟩:=a0.o.cells;go_wp2_with fail;refine OP.o.mono ?_;rintro e w3 ⟨hb,sb,lw,x,t,fr,ls,S,rfl,H,hx,hl,el,hf⟩;have AG:=aA (SV HC.o b4.o hx hl el hf);have g4:=aA (show w2.heap.size<=hb from H.nw);have EX:=aA (show x.bS=b/\x.dl=L/\x.o=k from⟨by rw[hx.bS,f6.o],by rw[el];have:=FF.o.2;omega,by rw[hx.o];have:=FF.o.1;omega⟩);have mx:M.mayB x.bS (x.dl:Int) (x.o:Int)=true:=by rw[EX.o.1,EX.o.2.1,EX.o.2.2];exact a3.o
 have BB:=aA (show W.ey I=iX x t S t.m.n from by obtain⟨B,st⟩:=H.mr mx;rw[<-st.ey,AG.o.ey (by rw[st.sound]) HC.o])
 have H3:=aA H;have K3:=aA H.po.pl.kp;have a2:=aA (a0.o.dk K3.o);have MX:=aA mx;clear mx H hx hl el hf OP c0 c1 c2 c3 c4 c5 X c7 T;go_upto_region 7 with fail;rename_i K hK;have LV:=aA (show ∀ U,Kt nO w3 U->Calls prog 14 #[.pointer (some ⟨hb,0,none⟩)] U fun e N=>∃ u,e=.returned u/\RR (W.ey I) u N/\Kt nO U N from fun U hU=>by refine(vK (H3.o.dk hU)).mono ?_;rintro e N ⟨u,rfl,hg⟩;exact⟨u,rfl,by rw[BB.o];exact yT hg,hg.kp⟩)
 have BL:=aA (show ∀ U,Kt nO w3 U->Calls prog 13 #[.agg #[.int .u64 I.bS,.int .i64 I.dl,.int .i64 I.ord,.int .i64 I.ep,.slice C I.nm D,.slice s I.np A,.slice J I.no F,.slice ha I.hd.length hc,.slice G I.pt.length q]] U fun e N=>∃ u,e=.returned u/\RR (W.ey I) u N/\Kt nO U N from fun U hU=>by refine(W.Blocks_any I ⟨.slice C I.nm D,.slice s I.np A,.slice J I.no F,.slice ha I.hd.length hc,.slice G I.pt.length q⟩ U (a2.o.d.dk hU)).mono ?_;rintro e N ⟨u,rfl,hg⟩;exact⟨u,rfl,W.GB.rb hg,hg.kp⟩)
 have LN:=aA (show(W.ey I).length<=9223372036854775807 from by rw[BB.o];exact(H3.o.nj MX.o).1);have SM:=aA (show ∀ U u v,RR (W.ey I) u U->RR (W.ey I) v U->Calls prog 12 #[u,v] U fun e N=>e=.returned (.bool true)/\Kt nO U N from fun U u v hu hv=>W.Same9_yes u v (W.ey I) U LN.o hu hv);have IM:=aA (show ∀ U,Kt nO w3 U->Calls prog 9 #[.pointer (some ⟨hb,0,none⟩)] U fun e N=>∃ u,e=.returned u/\RI I u N/\Kt nO U N from fun U hU=>by refine(EI (H3.o.dk hU) MX.o).mono ?_;rintro e N ⟨V,rfl,hD,E⟩;exact⟨_,rfl,⟨V,AG.o.a V,AG.o.d hD⟩,E⟩)
 have AK:=aA (show ∀ U V,Kt nO w3 U->W.ImD U I V->Calls prog 16 #[W.imA I V,.agg #[.int .u64 I.bS,.int .i64 I.dl,.int .i64 I.ord,.int .i64 I.ep,.slice C I.nm D,.slice s I.np A,.slice J I.no F,.slice ha I.hd.length hc,.slice G I.pt.length q]] U fun e N=>e=.returned (.bool true)/\Kt nO U N from fun U V hU hV=>W.Alike_yes I V ⟨.slice C I.nm D,.slice s I.np A,.slice J I.no F,.slice ha I.hd.length hc,.slice G I.pt.length q⟩ U hV (a2.o.d.dk hU) d6.o);refine MZ (by kernel_rfl) (F7 I (.agg #[.int .u64 I.bS,.int .i64 I.dl,.int .i64 I.ord,.int .i64 I.ep,.slice C I.nm D,.slice s I.np A,.slice J I.no F,.slice ha I.hd.length hc,.slice G I.pt.length q]) hb ib z sa C s J ha G m sc D A F hc q) (fun _=>undef) (fun U=>Kt nO w3 U) (fun _=>Kt nO) (fun i=>(L7 I hb (.agg #[.int .u64 I.bS,.int .i64 I.dl,.int .i64 I.ord,.int .i64 I.ep,.slice C I.nm D,.slice s I.np A,.slice J I.no F,.slice ha I.hd.length hc,.slice G I.pt.length q])).getD i dV) (fun i U U' hb hg=>nT hb hg) (fun i j u U U' _ _ hr hg=>zY (QU I hb _) j u U U' hr hg) (by kernel_rfl) (kz w3).drew ?_ ?_
 ·intro i o l v U R hd;have hi:i<17:=(am.1 l).1;obtain⟨c0,c1,c2,c3,c4,c5,X,c7,T⟩:=(a2.o.dk R).cells;match i,hi with
  | 0,_=>clear hd l;refine bD rfl ?_;go_wp2_with fail;exact⟨_,(by simp[aG]),rfl,kz _⟩
  | 1,_=>have e0:v 0=.int .i64 0:=hd 0 (by kernel_rfl);clear hd l;refine bD rfl ?_;go_wp2_with fail;exact⟨_,(by simp[aG,e0]),rfl,kz _⟩
  | 2,_=>have e1:v 1=.bool false:=hd 1 (by kernel_rfl);clear hd l;refine bD rfl ?_;go_wp2_with fail;exact⟨_,(by simp[aG,e1]),rfl,kz _⟩
  | 3,_=>have h:v 2=.bool false:=hd 2 (by kernel_rfl);clear hd l;refine bD rfl ?_;go_wp2_with fail;exact⟨_,(by simp[aG,h]),rfl,kz _⟩
  | 4,_=>
   have h:v 2=.bool false:=hd 2 (by kernel_rfl);have e3:v 3=.pointer (some ⟨hb,0,none⟩):=hd 3 (by kernel_rfl);clear hd l;refine bD rfl ?_;go_wp2_with (go_at_call 14;(refine(LV.o _ R).mono ?_);rintro e wX ⟨u,rfl,hu,E⟩;have q1:=aA E;have q2:=aA hu;clear E)
   exact⟨u,(by simp[aG,h,e3]),q2.o,q1.o⟩
  | 5,_=>have h:v 2=.bool false:=hd 2 (by kernel_rfl);clear hd l;refine bD rfl ?_;go_wp2_with fail;exact⟨_,(by simp[aG,h]),rfl,kz _⟩
  | 6,_=>
   have h:v 2=.bool false:=hd 2 (by kernel_rfl);have e5:v 5=.agg #[.int .u64 I.bS,.int .i64 I.dl,.int .i64 I.ord,.int .i64 I.ep,.slice C I.nm D,.slice s I.np A,.slice J I.no F,.slice ha I.hd.length hc,.slice G I.pt.length q]:=hd 5 (by kernel_rfl);clear hd l;refine bD rfl ?_;go_wp2_with (go_at_call 13;(refine(BL.o _ R).mono ?_);rintro e wX ⟨u,rfl,hu,E⟩;have q1:=aA E;have q2:=aA hu;clear E)
   exact⟨u,(by simp[aG,h,e5]),q2.o,q1.o⟩
  | 7,_=>
   have h:v 2=.bool false:=hd 2 (by kernel_rfl);have r4:RR (W.ey I) (v 4) U:=hd 4 (by kernel_rfl);obtain⟨h8,i1,e4,-⟩:=id r4;rw[e4] at r4;have r6:RR (W.ey I) (v 6) U:=hd 6 (by kernel_rfl);obtain⟨g8,i0,e6,-⟩:=id r6;rw[e6] at r6;clear hd l;refine bD rfl ?_;go_wp2_with (go_at_call 12;(refine(SM.o _ _ _ r4 r6).mono ?_);rintro e wX ⟨rfl,E⟩;have q1:=aA E;clear E)
   exact⟨_,(by simp[aG,h,e4,e6]),rfl,q1.o⟩
  | 8,_=>have h:v 2=.bool false:=hd 2 (by kernel_rfl);have e7:v 7=.bool true:=hd 7 (by kernel_rfl);clear hd l;refine bD rfl ?_;go_wp2_with fail;exact⟨_,(by simp[aG,h,e7]),rfl,kz _⟩
  | 9,_=>have h:v 2=.bool false:=hd 2 (by kernel_rfl);have e8:v 8=.bool false:=hd 8 (by kernel_rfl);clear hd l;refine bD rfl ?_;go_wp2_with fail;exact⟨_,(by simp[aG,h,e8]),rfl,kz _⟩
  | 10,_=>have e9:v 9=.bool false:=hd 9 (by kernel_rfl);clear hd l;refine bD rfl ?_;go_wp2_with fail;exact⟨_,(by simp[aG,e9]),rfl,kz _⟩
  | 11,_=>have f:v 10=.bool false:=hd 10 (by kernel_rfl);clear hd l;refine bD rfl ?_;go_wp2_with fail;exact⟨_,(by simp[aG,f]),rfl,kz _⟩
  | 12,_=>
   have f:v 10=.bool false:=hd 10 (by kernel_rfl);have d7:v 11=.pointer (some ⟨hb,0,none⟩):=hd 11 (by kernel_rfl);clear hd l;refine bD rfl ?_;go_wp2_with (go_at_call 9;(refine(IM.o _ R).mono ?_);rintro e wX ⟨u,rfl,hu,E⟩;have q1:=aA E;have q2:=aA hu;clear E)
   exact⟨u,(by simp[aG,f,d7]),q2.o,q1.o⟩
  | 13,_=>have f:v 10=.bool false:=hd 10 (by kernel_rfl);clear hd l;refine bD rfl ?_;go_wp2_with fail;exact⟨_,(by simp[aG,f]),rfl,kz _⟩
  | 14,_=>
   have f:v 10=.bool false:=hd 10 (by kernel_rfl);have f8:RI I (v 12) U:=hd 12 (by kernel_rfl);obtain⟨i3,f9,g0⟩:=id f8;have b8:v 13=.agg #[.int .u64 I.bS,.int .i64 I.dl,.int .i64 I.ord,.int .i64 I.ep,.slice C I.nm D,.slice s I.np A,.slice J I.no F,.slice ha I.hd.length hc,.slice G I.pt.length q]:=hd 13 (by kernel_rfl);clear hd l;refine bD rfl ?_;go_wp2_with (go_at_call 16;(refine(AK.o _ _ R g0).mono ?_);rintro e wX ⟨rfl,E⟩;have q1:=aA E;clear E)
   exact⟨_,(by simp[aG,f,f9,b8]),rfl,q1.o⟩
  | 15,_=>have f:v 10=.bool false:=hd 10 (by kernel_rfl);have f5:v 14=.bool true:=hd 14 (by kernel_rfl);clear hd l;refine bD rfl ?_;go_wp2_with fail;exact⟨_,(by simp[aG,f,f5]),rfl,kz _⟩
  | 16,_=>have f:v 10=.bool false:=hd 10 (by kernel_rfl);have b3:v 15=.bool false:=hd 15 (by kernel_rfl);clear hd l;refine bD rfl ?_;go_wp2_with fail;exact⟨_,(by simp[aG,f,b3]),rfl,kz _⟩
  | i+17,hi=>exact absurd hi (by show ¬i+17<17;omega)
 ·intro v U R hd;have a5:v 16=.bool false:=hd 16 (by decide);have f7:=aA (show H9 w2 U hb b L k from(H3.o.dk R).h9 EX.o);refine hK _ _ ?_;clear hd LV BL SM IM AK H3 K3 a2 BB AG LN d6 a0 EX MX b4 HC HT f6 FF d3;unfold F7;generalize v 16=i2 at a5;subst a5;go_wp2_with fail;go_loopw [9] (fun i W=>∃ a:Nat,a<=m/\i=.int .i64 a/\Hd (H9 w2 W hb b L k)) (fun i _=>m-(intOf i).toNat)
  case atStart=>exact⟨0,az _,rfl,f7⟩
  case round=>
   obtain⟨a,ha,rfl,hR⟩:=hrel;by_cases g3:a<m
   ·have g5:(a:Int)<m:=(by omega);obtain⟨bl,o,rfl,b5,b6⟩:=HO.o.resolve_left (by omega);obtain⟨c,g,a1⟩:=b6 a g3;have hc:=a1.dk (nT K2.o hR.o.kp);have HC:=aA hc;have h6:=aA b5;have g7:=aA a1;obtain⟨c0,c1,c2,c3,c4,c5⟩:_/\_/\_/\_/\_/\_:=⟨hc.c0,hc.c1,hc.c2,hc.c3,hc.c4,hc.c5⟩;have AC:=aA (show Calls prog 8 #[.pointer (some ⟨hb,0,none⟩),oA c] wr (zP (fun W=>H9 w2 W hb b L k))from by
     by_cases b7:c.k=1\/c.k=2\/c.k=5\/c.k=7;·exact QR (H9.ht a3.o) c hR.o hc.ha hc.hb b7
     ·refine VM (H9.ht a3.o) c hR.o b7 hc.hw.1 hc.hw.2 hc.ha g hc.na hc.hs hc.hc (fun h0 y hy=>?_)
      obtain⟨-,ao,cap,q1,q2⟩:=a1.na
      cases q1
      rcases q2 with q2|⟨a',q3,q4,-⟩
      ·omega
      ·rw[q3] at hy;have hy:a'.block=y:=(by simpa [Value.ownBlock] using hy);have:=K2.o.size;have:=g4.o;omega)
    clear hc a1 b6 b5;obtain⟨ck,cw,ca,g9,cd,h7,i4,i5⟩:=c;dsimp only at c0 c1 c2 c3 c4 c5;go_wp2_with fail;refine AC.o.mono ?_;rintro e w4 ⟨⟨p,er,rfl⟩,h4⟩;have H4:=aA h4;clear h4 c0 c1 c2 c3 c4 c5 AC;go_wp2_with fail;exact⟨⟨a+1,by omega,by simp,H4⟩,by simp[intOf];omega⟩
   ·obtain rfl:a=m:=(by omega);have g5:¬(a:Int)<a:=(by omega);obtain⟨sb,lw,x,t,fr,ls,S,H,e1,h,e3⟩:=hR.o;have may:M.mayB x.bS (x.dl:Int) (x.o:Int)=true:=(by rw[e1,h,e3];exact a3.o);have IM:=aA (EI H may);have EX:=aA (And.intro e1 (And.intro h e3));have HH:=aA H;have a9:=aA may;clear H e1 h e3 may;go_wp2_with fail;refine IM.o.mono ?_;rintro e w4 ⟨V,rfl,hD,k4⟩;obtain⟨B,st⟩:=HH.o.mr a9.o;have a7:=st.sound;have b0:=st.ey;obtain⟨I,hI⟩:=xe (bN x t S x.dl);rw[<-hI] at a7 b0 hD ⊢;have CK:=aA a7;have BK:=aA b0;have HD:=aA hD;have H4:=aA (HH.o.dk k4);have LV:=aA (HH.o.nj a9.o).1;have d4:=aA (nT hR.o.kp k4);have KW:=aA (nT K2.o d4.o);obtain⟨⟨C,D,hm⟩,⟨s,A,hp⟩,⟨J,F,hr⟩,⟨g2,hc,hh⟩,⟨G,q,ht⟩,-⟩:=hD.sl;clear hI a7 b0 hD k4 st IM hR HH a9 EX;obtain⟨vm,vp,vr,vh,vt⟩:=V;dsimp only at hm hp hr hh ht;subst hm hp hr hh ht;go_upto_region 14 with fail;refine W.gen_world (P:=fun W=>Code.wp prog _ _ _ W) _ ?_;intro W5 a6;have IA:W.ImAt W5 w4.heap.size I ⟨.slice C I.nm D,.slice s I.np A,.slice J I.no F,.slice g2 I.hd.length hc,.slice G I.pt.length q⟩:=by
     subst a6;exact⟨nH _ _,HD.o.dk ((Kt.refl _ w4).alloc _)⟩
    have K5:Kt nO w4 W5:=by subst a6;exact(kz w4).alloc _
    have g1:=aA K5;have d9:=aA IA;have H5:=aA (H4.o.dk K5);have KZ:=aA (nT KW.o K5);obtain⟨c0,c1,c2,c3,c4,c5,X,c7,T⟩:=IA.cells;have CH:=aA (W.Check9 I _ W5 IA.d);rw[CK.o] at CH;clear a6 IA K5 H4 HD d4 KW;generalize w4.heap.size=ib at *;go_wp2_with fail;refine CH.o.mono ?_;rintro e w6 ⟨rfl,k6⟩;have Z:=aA (d9.o.dk k6);have d5:=aA (nT KZ.o k6);have H6:=aA (H5.o.dk k6);have IS:=aA (W.is_any I _ 0 0 w6 Z.o.d true (by rw[CK.o];rfl));clear c0 c1 c2 c3 c4 c5 X c7 T k6 CH d9 KZ H5 g1;obtain⟨c0,c1,c2,c3,c4,c5,X,c7,T⟩:=Z.o.cells;go_wp2_with fail;refine IS.o.mono ?_;rintro e w7 ⟨rfl,k7⟩;have a4:=aA (Z.o.dk k7);have b9:=aA (nT d5.o k7);have H7:=aA (H6.o.dk k7);have BL:=aA (W.Blocks_any I _ w7 a4.o.d);clear c0 c1 c2 c3 c4 c5 X c7 T k7 IS Z d5 H6;obtain⟨c0,c1,c2,c3,c4,c5,X,c7,T⟩:=a4.o.cells;go_wp2_with fail;refine BL.o.mono ?_;rintro e w8 ⟨v8,rfl,R⟩;have k8:=R.kp;have c9:=aA (a4.o.dk k8);have d1:=aA (nT b9.o k8);have H8:=aA (H7.o.dk k8);have d0:=aA (show lB w8 v8 (W.ey I)from W.GB.rb R);have LH:=aA (vK H8.o);clear c0 c1 c2 c3 c4 c5 X c7 T k8 R BL a4 b9 H7;go_wp2_with fail;refine LH.o.mono ?_;rintro e w9 ⟨v9,rfl,hG⟩;have k9:=hG.kp;have d8:=aA (c9.o.dk k9);have d2:=aA (nT d1.o k9);have SM:=aA (W.Same9_yes v8 v9 (W.ey I) w9 (by rw[BK.o];exact LV.o) (d0.o.dk k9) (by rw[BK.o];exact yT hG));clear k9 hG LH c9 d1 H8 d0;go_wp2_with fail;refine SM.o.mono ?_;rintro e h5 ⟨rfl,a8⟩;have g6:=aA (d8.o.dk a8);have f0:=aA (nT d2.o a8);clear a8 SM d8 d2;go_wp2_with fail;go_ret;exact⟨rfl,f0.o⟩
theorem ze2(I:W.Img)(V:W.ImV)(a:Vl)(m:Nat)(w:Wd)(c:iQ w)(d:W.ImD w I V)(b:oF w a m):Calls prog 4 #[W.imA I V,a] w fun e f=>e=.returned (.bool true)/\Kt nO w f:=by
 by_cases hc:(W.chk I).1=0;·obtain⟨g,sa,sc,rfl,b⟩:=b;exact zk9 I V sa sc m g w c d hc b
 ·exact zjb I V a w c d hc
end Go.Proofs.YtfmgnljlkdmndaaGreatDoor
