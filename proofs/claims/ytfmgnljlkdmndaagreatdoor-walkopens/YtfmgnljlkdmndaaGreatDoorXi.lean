import Derived.ProofKit
import Derived.OpenShut
import Derived.Deep.Slices
import Derived.Deep.Strs
import Derived.Test.YtfmgnljlkdmndaaGreatDoorWb
import Derived.Test.YtfmgnljlkdmndaaGreatDoorWg
set_option maxRecDepth 1000000
set_option maxHeartbeats 0
namespace Go.Proofs.YtfmgnljlkdmndaaGreatDoor
namespace W
open Tryz
open Go.ChangeShapes Go.WideShapes Go.ChangeAt Go.RowKit Go.Deep
set_option linter.unusedVariables false
theorem zih:prog.cellsOf 97=11:=by kernel_rfl
theorem tQ:prog.cellsOf 22=1:=by kernel_rfl
theorem zlP:prog.cellsOf 5=1:=by kernel_rfl
theorem tP:prog.cellsOf 3=1:=by kernel_rfl
theorem zjX:prog.cellsOf 95=4:=by kernel_rfl
theorem KV:prog.cellsOf 39=1:=by kernel_rfl
theorem zjY:prog.cellsOf 34=1:=by kernel_rfl
theorem zjZ:prog.cellsOf 40=1:=by kernel_rfl
theorem zj0:prog.cellsOf 37=1:=by kernel_rfl
theorem zj1:prog.cellsOf 38=1:=by kernel_rfl
theorem zj2:prog.cellsOf 24=3:=by kernel_rfl
theorem zj3:prog.cellsOf 42=9:=by kernel_rfl
theorem pW{w:Wd}{a:Addr}{v:Vl}(h:w.cell? a=some v):∃ b o,a=⟨b,o,none⟩/\b<w.heap.size:=by
 obtain⟨b,o,s⟩:=a;unfold World.cell? at h;split at h
 ·rename_i c;have hb:=(am.1 c).1
  cases s with
  | none=>exact⟨b,o,rfl,hb⟩
  | some s=>simp at h
 ·cases h
theorem zlQ{H:Type}{enc:TypeId×Vl->H}{W:Wd}{fuel:Nat}{v:Vl}{x:DataW H×List MemPlace}(hf:DataW.trod enc prog W 0 (fun _=>true) true fuel 37 [v]=some x):∃ (n:Nat) (pg:Nat->Pg),SlIn W v n fun bl o i=>PgIn (pg i)/\PgC W bl o i (pg i):=by
 rcases open_slice Tryz.underlying37 hf with ⟨c,_⟩|⟨x,len,cap,m,n,D,Pl,c,_,hl,hm,z,_,hx⟩
 ·simp at c;subst c;exact⟨0,fun _=>aU,by omega,none,0,rfl,Or.inl rfl⟩
 ·simp at c;subst c;simp only[if_true] at z;subst z;have a4:m<=9223372036854775807:=by unfold maxLen at hm;omega
  rw[zih] at hx;have u:∀ k,k<len->∃ q:Pg,PgIn q/\∀ j,j<11->W.cell? ((x.add (k*11)).add j)=some (q.es j):=by
   intro k l;obtain⟨cs,h1,h2⟩:=hx k (by omega);obtain⟨_,r,f⟩:=World.cells?_some h1;obtain⟨xs,nn,_,_,_,K,a⟩:=DataW.trod_struct Tryz.underlying97 h2;match cs,r,xs,K with
   | [c0,c1,c2,c3,c4,c5,c6,c7,c8,c9,a5],_,[y0,y1,y2,y3,y4,y5,y6,y7],_=>
    have C:=a 0 _ rfl;have g1:=a 1 _ rfl;have g2:=a 2 _ rfl;have g3:=a 3 _ rfl;have g4:=a 4 _ rfl;have g5:=a 5 _ rfl;have g6:=a 6 _ rfl;have g7:=a 7 _ rfl;obtain⟨x0,A,_,w0⟩:=DataW.trod_int Tryz.underlying3 C;obtain⟨x1,Y,_,w1⟩:=DataW.trod_int Tryz.underlying3 g1;obtain⟨x2,e2,_,w2⟩:=DataW.trod_int Tryz.underlying3 g2;obtain⟨x3,e3,_,w3⟩:=DataW.trod_int Tryz.underlying3 g3;obtain⟨x4,N,_,w4⟩:=DataW.trod_int Tryz.underlying3 g4;obtain⟨x5,R,_,w5⟩:=DataW.trod_int Tryz.underlying3 g5;obtain⟨x6,e6,_,w6⟩:=DataW.trod_int Tryz.underlying3 g6;obtain⟨ys,n2,_,_,_,G,b⟩:=DataW.trod_array Tryz.underlying95 g7;match ys,G with
    | [z0,z1,z2,z3],_=>
     have a0:=b 0 (by decide);have V:=b 1 (by decide);have X:=b 2 (by decide);have a3:=b 3 (by decide);simp[zjX,tQ] at a0 V X a3;obtain⟨v7,Z,_,w7⟩:=DataW.trod_int Tryz.underlying22 a0;obtain⟨v8,T,_,w8⟩:=DataW.trod_int Tryz.underlying22 V;obtain⟨v9,U,_,w9⟩:=DataW.trod_int Tryz.underlying22 X;obtain⟨v10,y,_,F⟩:=DataW.trod_int Tryz.underlying22 a3;simp[tP] at A Y e2 e3 N R e6;simp at Z T U y;subst A Y e2 e3 N R e6 Z T U y;have b7:=bounds_u64 w7;have b8:=bounds_u64 w8;have b9:=bounds_u64 w9;have I:=bounds_u64 F;obtain⟨n7,rfl⟩:=au b7.1;obtain⟨n8,rfl⟩:=au b8.1;obtain⟨n9,rfl⟩:=au b9.1;obtain⟨p,rfl⟩:=au I.1;refine⟨⟨x0,x1,x2,x3,x4,x5,x6,n7,n8,n9,p⟩,⟨bounds_i64 w0,bounds_i64 w1,bounds_i64 w2,bounds_i64 w3,bounds_i64 w4,bounds_i64 w5,bounds_i64 w6,by show n7<_;omega,by show n8<_;omega,by show n9<_;omega,by show p<_;omega⟩,fun j J=>?_⟩;have:=f j (by simpa using J);rw[this];revert j
     apply jG <;> (intros;rfl)
  have d:∃ pg:Nat->Pg,∀ k,k<len->PgIn (pg k)/\∀ j,j<11->W.cell? ((x.add (k*11)).add j)=some ((pg k).es j):=
   ⟨fun k=>if h:k<len then (u k h).choose else aU,fun k l=>by simp only[l,dite_true];exact(u k l).choose_spec⟩
  obtain⟨pg,d⟩:=d;refine⟨len,pg,by omega,some x,m,rfl,?_⟩;by_cases h0:len=0;·exact Or.inl h0
  ·right
   have C:=(d 0 (by omega)).2 0 (by decide);have A:(x.add (0*11)).add 0=x:=(by simp[Addr.add]);rw[A] at C;obtain⟨E,o,rfl,hb⟩:=pW C;refine⟨E,o,rfl,hb,fun k l=>⟨(d k l).1,?_⟩⟩;have g:=(d k l).2;have e:∀ j,(Addr.add (Addr.add ⟨E,o,none⟩ (k*11)) j)=⟨E,o+k*11+j,none⟩:=fun j=>by rw[Addr.add_lit,Addr.add_lit]
   exact fun j J=>by rw[<-e j];exact g j J
theorem zlR{H:Type}{enc:TypeId×Vl->H}{W:Wd}{fuel:Nat}{v:Vl}{x:DataW H×List MemPlace}(h:DataW.trod enc prog W 0 (fun _=>true) true fuel 39 [v]=some x):∃ zs,Src W v zs:=by
 rcases open_slice1 Tryz.underlying39 tQ h with ⟨b,_⟩|⟨a,len,cap,m,n,V,D,C,b,_,hl,A,d,_,hx⟩
 ·simp at b;exact⟨[],fun i=>by simp,none,0,b,Or.inl rfl⟩
 ·simp at b;subst b;simp only[if_true] at d;subst d;have c:∀ k,k<len->∃ z:Nat,z<2 ^ 64/\W.cell? (a.add k)=some (.int .u64 z):=fun k f=>by
   obtain⟨o,q⟩:=hx k (by omega);obtain⟨v7,l,_,u⟩:=DataW.trod_int Tryz.underlying22 q;simp at l;have p:=bounds_u64 u;obtain⟨r,rfl⟩:=au p.1;exact⟨r,by omega,by rw[o,l]⟩
  have hz:∃ zs:List Nat,zs.length=len/\∀ k,k<len->zs.getD k 0<2 ^ 64/\W.cell? (a.add k)=some (.int .u64 ((zs.getD k 0:Nat):Int)):=
   ⟨(List.range len).map (fun k=>if h:k<len then (c k h).choose else 0),by simp,fun k f=>by
    have:((List.range len).map (fun k=>if h:k<len then (c k h).choose else 0)).getD k 0=(c k f).choose:=by simp[List.getD,f]
    rw[this];exact(c k f).choose_spec⟩
  obtain⟨zs,g,hz⟩:=hz;refine⟨zs,fun i=>?_,some a,m,by rw[g],?_⟩
  ·by_cases e:i<len
   ·exact(hz i e).1
   ·have:zs.getD i 0=0:=by simp only[List.getD];rw[dj (by omega)];rfl
    rw[this];decide
  ·by_cases h0:len=0
   ·exact Or.inl (bq (by omega))
   ·right
    refine⟨a,rfl,?_,fun j y=>(hz j (by omega)).2⟩;have:=oV (hz 0 (by omega)).2;rwa [addr_add_block] at this
theorem zlS{H:Type}{enc:TypeId×Vl->H}{W:Wd}{fuel:Nat}{v:Vl}{x:DataW H×List MemPlace}(h:DataW.trod enc prog W 0 (fun _=>true) true fuel 34 [v]=some x):∃ (n:Nat) (f:Nat->Nat),SlIn W v n (ByC W f)/\∀ a n c,v=.slice a n c->n<=c:=by
 rcases open_slice1 Tryz.underlying34 zlP h with ⟨b,_⟩|⟨a,len,cap,m,n,V,D,K,b,_,hl,y,p,_,hx⟩
 ·simp at b;subst b;exact⟨0,fun _=>0,⟨by omega,none,0,rfl,Or.inl rfl⟩,fun a n c e=>by cases e;exact aj _⟩
 ·simp at b;subst b;simp only[if_true] at p;subst p;have J:m<=9223372036854775807:=by unfold maxLen at y;omega
  have l:∀ k,k<len->∃ z:Nat,z<256/\W.cell? (a.add k)=some (.int .u8 z):=fun k d=>by obtain⟨u,C⟩:=hx k (by omega);obtain⟨v7,q,_,I⟩:=DataW.trod_int Tryz.underlying5 C;simp at q;have A:=bounds_u8 I;obtain⟨E,rfl⟩:=au A.1;exact⟨E,by omega,by rw[u,q]⟩
  have hz:∃ g:Nat->Nat,∀ k,k<len->g k<256/\W.cell? (a.add k)=some (.int .u8 (g k:Int)):=
   ⟨fun k=>if h:k<len then (l k h).choose else 0,fun k d=>by simp only[d,dite_true];exact(l k d).choose_spec⟩
  obtain⟨g,hz⟩:=hz;have hs:len=0\/∃ j o,a=⟨j,o,none⟩/\j<W.heap.size/\∀ i,i<len->g i<256/\W.cell? ⟨j,o+i,none⟩=some (.int .u8 (g i:Int)):=by
   by_cases h0:len=0;·exact Or.inl h0
   ·right
    have r:=(hz 0 (by omega)).2;have F:a.add 0=a:=(by simp[Addr.add]);rw[F] at r;obtain⟨G,o,rfl,hb⟩:=pW r;refine⟨G,o,rfl,hb,fun k d=>⟨(hz k d).1,?_⟩⟩;have:=(hz k d).2;rw[Addr.add_lit] at this;exact this
  refine⟨len,g,⟨by omega,_,_,rfl,?_⟩,fun a n c e=>by cases e;exact hl⟩;rcases hs with h0|⟨j,o,rfl,hb,hc⟩
  ·exact Or.inl h0
  ·exact Or.inr ⟨j,o,rfl,hb,hc⟩
theorem zlT{H:Type}{enc:TypeId×Vl->H}{W:Wd}{fuel:Nat}{v:Vl}{x:DataW H×List MemPlace}(h:DataW.trod enc prog W 0 (fun _=>true) true fuel 39 [v]=some x):∃ l,SlIn W v l.length (WdC W l):=by
 rcases open_slice1 Tryz.underlying39 tQ h with ⟨b,_⟩|⟨a,len,cap,m,n,V,D,J,b,_,hl,u,f,_,hx⟩
 ·simp at b;subst b;exact⟨[],by simp,none,0,rfl,Or.inl rfl⟩
 ·simp at b;subst b;simp only[if_true] at f;subst f;have I:m<=9223372036854775807:=by unfold maxLen at u;omega
  have e:∀ k,k<len->∃ z:Nat,z<18446744073709551616/\W.cell? (a.add k)=some (.int .u64 z):=fun k c=>by obtain⟨r,A⟩:=hx k (by omega);obtain⟨v7,p,_,G⟩:=DataW.trod_int Tryz.underlying22 A;simp at p;have y:=bounds_u64 G;obtain⟨C,rfl⟩:=au y.1;exact⟨C,by omega,by rw[r,p]⟩
  have hz:∃ g:Nat->Nat,∀ k,k<len->g k<18446744073709551616/\W.cell? (a.add k)=some (.int .u64 (g k:Int)):=
   ⟨fun k=>if h:k<len then (e k h).choose else 0,fun k c=>by simp only[c,dite_true];exact(e k c).choose_spec⟩
  obtain⟨g,hz⟩:=hz;have hs:len=0\/∃ d o,a=⟨d,o,none⟩/\d<W.heap.size/\∀ i,i<len->g i<18446744073709551616/\W.cell? ⟨d,o+i,none⟩=some (.int .u64 (g i:Int)):=by
   by_cases h0:len=0;·exact Or.inl h0
   ·right
    have q:=(hz 0 (by omega)).2;have E:a.add 0=a:=(by simp[Addr.add]);rw[E] at q;obtain⟨F,o,rfl,hb⟩:=pW q;refine⟨F,o,rfl,hb,fun k c=>⟨(hz k c).1,?_⟩⟩;have:=(hz k c).2;rw[Addr.add_lit] at this;exact this
  have hg:∀ i,i<len->((List.range len).map g).getD i 0=g i:=fun i hi=>by simp[List.getD,hi]
  have j:((List.range len).map g).length=len:=by simp
  refine⟨(List.range len).map g,by rw[j];omega,some a,m,by rw[j],?_⟩;rw[j];rcases hs with h0|⟨d,o,rfl,hb,hc⟩
  ·exact Or.inl h0
  ·exact Or.inr ⟨d,o,rfl,hb,fun i hi=>by unfold WdC;rw[hg i hi];exact hc i hi⟩
theorem zlU{H:Type}{enc:TypeId×Vl->H}{W:Wd}{fuel:Nat}{v:Vl}{x:DataW H×List MemPlace}(h:DataW.trod enc prog W 0 (fun _=>true) true fuel 40 [v]=some x):∃ l,SlIn W v l.length (InC W l):=by
 rcases open_slice1 Tryz.underlying40 tP h with ⟨b,_⟩|⟨a,len,cap,m,n,V,D,G,b,_,hl,u,e,_,hx⟩
 ·simp at b;subst b;exact⟨[],by simp,none,0,rfl,Or.inl rfl⟩
 ·simp at b;subst b;simp only[if_true] at e;subst e;have F:m<=9223372036854775807:=by unfold maxLen at u;omega
  have f:∀ k,k<len->∃ z:Int,N64 z/\W.cell? (a.add k)=some (.int .i64 z):=fun k c=>by obtain⟨r,y⟩:=hx k (by omega);obtain⟨v7,p,_,E⟩:=DataW.trod_int Tryz.underlying3 y;simp at p;exact⟨v7,bounds_i64 E,by rw[r,p]⟩
  have hz:∃ g:Nat->Int,∀ k,k<len->N64 (g k)/\W.cell? (a.add k)=some (.int .i64 (g k)):=
   ⟨fun k=>if h:k<len then (f k h).choose else 0,fun k c=>by simp only[c,dite_true];exact(f k c).choose_spec⟩
  obtain⟨g,hz⟩:=hz;have hs:len=0\/∃ d o,a=⟨d,o,none⟩/\d<W.heap.size/\∀ i,i<len->N64 (g i)/\W.cell? ⟨d,o+i,none⟩=some (.int .i64 (g i)):=by
   by_cases h0:len=0;·exact Or.inl h0
   ·right
    have q:=(hz 0 (by omega)).2;have A:a.add 0=a:=(by simp[Addr.add]);rw[A] at q;obtain⟨C,o,rfl,hb⟩:=pW q;refine⟨C,o,rfl,hb,fun k c=>⟨(hz k c).1,?_⟩⟩;have:=(hz k c).2;rw[Addr.add_lit] at this;exact this
  have hg:∀ i,i<len->((List.range len).map g).getD i 0=g i:=fun i hi=>by simp[List.getD,hi]
  have j:((List.range len).map g).length=len:=by simp
  refine⟨(List.range len).map g,by rw[j];omega,some a,m,by rw[j],?_⟩;rw[j];rcases hs with h0|⟨d,o,rfl,hb,hc⟩
  ·exact Or.inl h0
  ·exact Or.inr ⟨d,o,rfl,hb,fun i hi=>by unfold InC;rw[hg i hi];exact hc i hi⟩
theorem zlV{H:Type}{enc:TypeId×Vl->H}{W:Wd}{fuel:Nat}{v:Vl}{x:DataW H×List MemPlace}(hf:DataW.trod enc prog W 0 (fun _=>true) true fuel 38 [v]=some x):∃ (n:Nat) (zs:Nat->List Nat) (ws:Nat->Vl),SlIn W v n fun g o i=>W.cell? ⟨g,o+i,none⟩=some (ws i)/\Src W (ws i) (zs i):=by
 rcases open_slice1 Tryz.underlying38 KV hf with ⟨a,_⟩|⟨x,len,cap,m,n,V,D,q,a,_,hl,f,b,_,hx⟩
 ·simp at a;subst a;exact⟨0,fun _=>[],fun _=>.slice none 0 0,by omega,none,0,rfl,Or.inl rfl⟩
 ·simp at a;subst a;simp only[if_true] at b;subst b;have p:m<=9223372036854775807:=by unfold maxLen at f;omega
  have c:∀ k,k<len->∃ zs,Src W (V k) zs:=fun k d=>zlR (hx k (by omega)).2
  refine⟨len,fun k=>if h:k<len then (c k h).choose else [],V,by omega,some x,m,rfl,?_⟩;by_cases h0:len=0;·exact Or.inl h0
  ·right
   have e:=(hx 0 (by omega)).1;have j:x.add 0=x:=(by simp[Addr.add]);rw[j] at e;obtain⟨l,o,rfl,hb⟩:=pW e;refine⟨l,o,rfl,hb,fun k d=>⟨?_,?_⟩⟩;·have:=(hx k (by omega)).1;rw[Addr.add_lit] at this;exact this
   ·simp only[d,dite_true];exact(c k d).choose_spec
theorem image_of{H:Type}{enc:TypeId×Vl->H}{W:Wd}{bS:Nat}{v:Vl}{d:DataW H}{p:List MemPlace}(g:Value.okWide prog W .any bS 42 v)(h:DataW.Trod enc prog W 0 (fun _=>true) true 42 v d p):∃ I V,v=imA I V/\ImD W I V:=by
 obtain⟨cs,rfl,_⟩:=okWide_struct Tryz.underlying42 g;obtain⟨fuel,hf⟩:=h;obtain⟨xs,nn,_,_,c,k,a⟩:=DataW.trod_struct Tryz.underlying42 hf;obtain⟨l⟩:=cs;simp only[Value.cells] at c a;rw[zj3] at c;match l,c,xs,k with
 | [c0,c1,c2,c3,c4,c5,c6,c7,c8],_,[y0,y1,y2,y3,y4,y5,y6],_=>
  have F:=a 0 _ rfl;have n:=a 1 _ rfl;have C:=a 2 _ rfl;have A:=a 3 _ rfl;have D:=a 4 _ rfl;have E:=a 5 _ rfl;have m:=a 6 _ rfl;simp[zj2] at F;simp[tP] at n;simp[zjY] at C;simp[zj0] at A;simp[zj1] at D;simp[KV] at E;simp[zjZ] at m;obtain⟨i,n0,_,_,_,f,e⟩:=DataW.trod_struct Tryz.underlying24 F;match i,f with
  | [z0,z1,z2],_=>have k0:=e 0 _ rfl;have u:=e 1 _ rfl;have q:=e 2 _ rfl;simp[tQ] at k0;simp[tP] at u q;obtain⟨x0,o,_,Y⟩:=DataW.trod_int Tryz.underlying22 k0;obtain⟨Z,r,_,T⟩:=DataW.trod_int Tryz.underlying3 u;obtain⟨U,z,_,K⟩:=DataW.trod_int Tryz.underlying3 q;obtain⟨X,y,_,J⟩:=DataW.trod_int Tryz.underlying3 n;simp at o r z y;subst o r z y;have b0:=bounds_u64 Y;obtain⟨b,rfl⟩:=au b0.1;obtain⟨nm,mem,R,j⟩:=zlS C;obtain⟨np,pg,hp⟩:=zlQ A;obtain⟨no,pr,hr⟩:=zlV D;obtain⟨hd,N⟩:=zlT E;obtain⟨pt,G⟩:=zlU m;exact⟨⟨b,Z,U,X,nm,mem,np,pg,no,pr,hd,pt⟩,⟨c4,c5,c6,c7,c8⟩,rfl,⟨by show b<_;omega,bounds_i64 T,bounds_i64 K,bounds_i64 J,R,j,hp,hr,N,G⟩⟩
end W
open Tryz RowKit
set_option linter.unusedVariables false
theorem bD{P:Program}{ops:Array Oper}{Q:Exit->Act->Wd->Prop}{i:Nat}{o:Oper}{K:Act->Wd->Prop}{a:Act}{w:Wd}(b:ops[i]?=some o)(h:wpList P ops (Exit.then K Q) [o] a w):wpOp P ops Q i K a w:=W.wpOp_of_list b h
def aG(v:Nat->Vl)(i:Nat)(u:Vl):Nat->Vl:=fun j=>if j=i then u else v j
theorem EP{v:Nat->Vl}{i:Nat}{u:Vl} : aG v i u i=u:=ae rfl
theorem EM{v:Nat->Vl}{i j:Nat}{u:Vl}(h:j≠i):aG v i u j=v j:=ac h
def gX(ops:Array Oper)(i j:Nat):Bool:=match ops[i]? with
 | none=>false
 | some o=>o.after.any fun e=>Region.binds .any e && e.on == j
def mN(ops:Array Oper):Nat->Nat->Nat->Bool
 | 0,_,_=>false
 | n+1,i,j=>gX ops i j || match ops[i]? with
  | none=>false
  | some o=>o.after.any fun e=>Region.binds .any e && mN ops n e.on j
def jH(ops:Array Oper):Bool:=(List.range ops.size).all fun i=>match ops[i]? with
 | none=>true
 | some o=>o.after.all fun e=>!Region.binds .any e || decide (e.on<i)
def RF(ops:Array Oper)(last:Nat):Bool:=(List.range last).all fun j=>mN ops 40 last j
section
variable {P:Program} {ops:Array Oper} {Q:Exit->Act->Wd->Prop} {ls:Array Bool}
theorem JH{i j:Nat} : gX ops i j=true↔∃ o,ops[i]?=some o/\∃ e∈o.after,Region.binds .any e=true/\e.on=j:=by
 unfold gX
 cases h:ops[i]? with
 | none=>simp
 | some o=>simp[Array.any_eq_true,Array.mem_iff_getElem];grind
theorem xX(hc:∀ i j,gX ops i j=true->ls.getD i false=true->ls.getD j false=true){i j:Nat}(a:∀ j,gX ops i j=true->ls.getD j false=true):∀ n,mN ops n i j=true->ls.getD j false=true:=by
 intro n;induction n generalizing i with
 | zero=>intro h;cases h
 | succ n b=>
  intro h;unfold mN at h;rw[Bool.or_eq_true] at h;rcases h with h|h
  ·exact a _ h
  ·cases ho:ops[i]? with
   | none=>rw[ho] at h;cases h
   | some o=>rw[ho] at h;simp only[Array.any_eq_true',bu] at h;obtain⟨e,he,hb,h⟩:=h;have hd:=a _ (JH.2 ⟨o,ho,e,he,hb,rfl⟩);exact b (fun k c=>hc _ _ c hd) h
theorem tM{i:Nat}(hi:i∈Region.ready .any ops ls):∀ j,gX ops i j=true->ls.getD j false=true:=by
 intro j b;obtain⟨f,o,c,hd⟩:=mem_ready.1 hi;obtain⟨d,a,e,he,hb,rfl⟩:=JH.1 b;rw[c] at a
 cases a
 exact hd e he hb
theorem vO{i:Nat}(a:ls.getD i true=false):i<ls.size/\ls.getD i false=false:=by
 rcases du i ls.size with hl|hl
 ·exact⟨hl,by simpa [hl] using a⟩
 ·simp[Array.getElem?_eq_none hl] at a
theorem qW{i j:Nat}(hi:i<ls.size):(ls.setIfInBounds i true).getD j false=true↔j=i\/ls.getD j false=true:=by
 by_cases h:i=j;·subst h;simp[hi]
 ·rw[ec _ h];exact⟨.inr,fun a=>a.resolve_left (fun e=>h e.symm)⟩
theorem JG(hs:ls.size=ops.size)(a:jH ops=true)(b:Region.ready .any ops ls=[]):∀ n i,i<=n->i<ops.size->ls.getD i false=true:=by
 intro n;induction n with
 | zero=>
  intro i hi hl;obtain rfl:i=0:=by omega
  cases h:ls.getD 0 false with
  | true=>rfl
  | false=>
   have : 0∈Region.ready .any ops ls:=mem_ready.2 ⟨(by have:0<ls.size:=(by omega);simpa[this] using h),ops[0],by simp,fun e he hb=>by
    unfold jH at a;have:=List.all_eq_true.1 a 0 (by simpa using hl);simp only[Array.getElem?_eq_getElem hl] at this;have:=Array.all_eq_true'.1 this e he;simp[hb] at this⟩
   rw[b] at this
   cases this
 | succ n c=>
  intro i hi hl;rcases du i (n+1)with d|d
  ·exact c i (by omega) hl
  cases h:ls.getD i false with
  | true=>rfl
  | false=>
   have:i∈Region.ready .any ops ls:=mem_ready.2 ⟨(by have:i<ls.size:=(by omega);simpa[this] using h),ops[i],by simp,fun e he hb=>by
    unfold jH at a;have:=List.all_eq_true.1 a i (by simpa using hl);simp only[Array.getElem?_eq_getElem hl] at this;have:=Array.all_eq_true'.1 this e he;simp[hb] at this;exact c _ (by omega) (by omega)⟩
   rw[b] at this
   cases this
theorem pS{n i:Nat} : (Array.replicate n false).getD i false=false:=by
 rcases du i n with h|h
 ·simp[h]
 ·simp[Nat.not_lt.2 h]
structure Flw(ops:Array Oper)(G:Wd->Wd->Prop)(w1:Wd)(R:Nat->Vl->Wd->Prop)(ls:Array Bool)(v:Nat->Vl)(w:Wd):Prop where
 sz:ls.size=ops.size
 cl:∀ i j,gX ops i j=true->ls.getD i false=true->ls.getD j false=true
 k:G w1 w
 d:∀ i,ls.getD i false=true->R i (v i) w
theorem Flw.put{G:Wd->Wd->Prop}{m W W':Wd}{R:Nat->Vl->Wd->Prop}{v:Nat->Vl}{i:Nat}{u:Vl}(n:∀ a b c,G a b->G b c->G a c)(hR:∀ i u W W',R i u W->G W W'->R i u W')(h:Flw ops G m R ls v W) (hi:i∈Region.ready .any ops ls) (o:R i u W') (k:G W W'):Flw ops G m R (ls.setIfInBounds i true) (aG v i u) W':=by
 have hd:=tM hi;have l:=vO (mem_ready.1 hi).1;refine⟨by simpa using h.sz,fun a b f ha=>?_,n _ _ _ h.k k,fun j g=>?_⟩
 ·rw[qW l.1] at ha ⊢;rcases ha with rfl|ha
  ·exact .inr (hd _ f)
  ·exact .inr (h.cl _ _ f ha)
 ·rw[qW l.1] at g;by_cases e:j=i
  ·subst e;rw[EP];exact o
  ·rw[EM e];exact hR _ _ _ _ (h.d j (g.resolve_left e)) k
theorem MZ{id:Nat}{w:Wd}(m:P.follows .mixedOrders=true)(F:(Nat->Vl)->Act)(v0:Nat->Vl)(B:Wd->Prop)(G:Nat->Wd->Wd->Prop)(R:Nat->Vl->Wd->Prop)(r:∀ i W W',B W->G i W W'->B W') (hR:∀ i j u W W',j≠i->B W->R j u W->G i W W'->R j u W') (q:jH ops=true) (hw:B w.drew)(hs:∀ i o,ops[i]?=some o->∀ v W,B W->(∀ j,mN ops 40 i j=true->R j (v j) W)->wpOp P ops Q i (fun a' W'=>∃ u,a'=F (aG v i u)/\R i u W'/\G i W W') (F v) W)(hl:∀ v W,B W->(∀ i,i<ops.size->R i (v i) W)->Q .normal (F v) W):(Code.region id ops true).wp P Q (F v0) w:=by
 refine W.wp_region_inv m (fun ls a W=>∃ v,a=F v/\(ls.size=ops.size/\(∀ i j,gX ops i j=true->ls.getD i false=true->ls.getD j false=true)/\B W/\∀ i,ls.getD i false=true->R i (v i) W)) ⟨v0,rfl,by simp,fun i j _ h=>(by rw[pS] at h;cases h),hw,fun i h=>(by rw[pS] at h;cases h)⟩ ?_ ?_
 ·rintro ls a W i ⟨v,rfl,hz,hc,hb,c⟩ hi;obtain⟨n,o,p,hd⟩:=mem_ready.1 hi;have g:=vO n;have f:=tM hi;refine wpOp_mono ?_ (hs i o p v W hb fun j l=>c j (xX hc f _ l));rintro a' W' ⟨u,rfl,y,k⟩;refine⟨_,rfl,by simpa using hz,fun a b d ha=>?_,r _ _ _ hb k,fun j l=>?_⟩
  ·rw[qW g.1] at ha ⊢;rcases ha with rfl|ha
   ·exact .inr (f _ d)
   ·exact .inr (hc _ _ d ha)
  ·rw[qW g.1] at l;by_cases e:j=i
   ·subst e;rw[EP];exact y
   ·rw[EM e];exact hR _ _ _ _ _ e hb (c j (l.resolve_left e)) k
 ·rintro ls a W ⟨v,rfl,hz,hc,hb,c⟩ z;exact hl v W hb fun i hi=>c i (JG hz q z i i (aj _) hi)
theorem zcn{id:Nat}{w p:Wd}(y:P.follows .mixedOrders=true)(F:(Nat->Vl)->Act)(v0:Nat->Vl)(G:Wd->Wd->Prop)(C:∀ a b c,G a b->G b c->G a c)(R:Nat->Vl->Wd->Prop)(hR:∀ i u W W',R i u W->G W W'->R i u W') (f:Nat) (hz:ops.size=f+1) (A:jH ops=true) (hL:RF ops f=true) (hw:G p w.drew)(hs:∀ i o,ops[i]?=some o->i<f->∀ v W,G p W->(∀ j,mN ops 40 i j=true->R j (v j) W)->wpOp P ops Q i (fun a' W'=>∃ u,a'=F (aG v i u)/\R i u W'/\G W W') (F v) W)(hl:∀ o,ops[f]?=some o->∀ v W,G p W->(∀ i,i<f->R i (v i) W)->wpOp P ops Q f (fun a' W'=>Q .normal a' W') (F v) W):(Code.region id ops true).wp P Q (F v0) w:=by
 refine W.wp_region_inv y (fun ls a W=>ls.size=ops.size/\((ls.getD f false=false/\∃ v,a=F v/\Flw ops G p R ls v W)\/(∀ i,i<=f->ls.getD i false=true)/\Q .normal a W)) ⟨by simp,.inl ⟨pS,v0,rfl,by simp,fun i j _ h=>(by rw[pS] at h;cases h),hw,fun i h=>(by rw[pS] at h;cases h)⟩⟩ ?_ ?_
 ·rintro ls a W i ⟨l,h⟩ hi;obtain⟨z,o,r,hd⟩:=mem_ready.1 hi;have m:=vO z;rcases h with ⟨g,v,rfl,h⟩|⟨h,_⟩
  ·rcases Nat.lt_trichotomy i f with q|rfl|q
   ·refine wpOp_mono ?_ (hs i o r q v W h.k fun j n=>h.d j (xX h.cl (tM hi) _ n));rintro a' W' ⟨u,rfl,D,k⟩;exact⟨by simpa using l,.inl ⟨by rw[ec _ (by omega)];exact g,_,rfl,h.put C hR hi D k⟩⟩
   ·have ha:∀ j,j<i->ls.getD j false=true:=fun j n=>xX h.cl (tM hi) _ (List.all_eq_true.1 hL j (by simpa using n))
    refine wpOp_mono ?_ (hl o r v W h.k fun j n=>h.d j (ha j n));intro a' W' hq;refine⟨by simpa using l,.inr ⟨fun j n=>(qW m.1).2 ?_,hq⟩⟩;by_cases e:j=i;·exact .inl e
    ·exact .inr (ha j (by omega))
   ·omega
  ·rw[h i (by omega)] at m
   cases m.2
 ·rintro ls a W ⟨l,h⟩ E;rcases h with ⟨g,v,rfl,h⟩|⟨_,h⟩
  ·rw[JG l A E f f (aj _) (by omega)] at g
   cases g
  ·exact h
def dV:Vl->Wd->Prop:=fun _ _=>True
theorem zdj{id:Nat}{w:Wd}(y:P.follows .mixedOrders=true)(F:(Nat->Vl)->Act)(v0:Nat->Vl)(B:Wd->Prop)(N Wr:Wd->Wd->Prop)(a:List (Vl->Wd->Prop))(RS:Vl->Wd->Prop)(k:Nat)(E:a.length=k)(hz:ops.size=k+1)(z:∀ W W',B W->N W W'->B W') (C:∀ W W',B W->Wr W W'->B W') (p:∀ r∈a,∀ u W W',B W->r u W->N W W'->r u W') (q:∀ u W W',B W->RS u W->N W W'->RS u W') (l:∀ r∈a,∀ u W W',B W->r u W->Wr W W'->r u W') (A:jH ops=true) (hw:B w.drew)(hs:∀ i o,ops[i]?=some o->i<k->∀ v W,B W->(∀ j,mN ops 40 i j=true->((a ++ [RS]).getD j dV) (v j) W)->wpOp P ops Q i (fun a' W'=>∃ u,a'=F (aG v i u)/\(a.getD i dV) u W'/\N W W') (F v) W)(hx:∀ o,ops[k]?=some o->∀ v W,B W->(∀ j,mN ops 40 k j=true->((a ++ [RS]).getD j dV) (v j) W)->wpOp P ops Q k (fun a' W'=>∃ u,a'=F (aG v k u)/\RS u W'/\Wr W W') (F v) W)(hl:∀ v W,B W->(∀ i,i<k->(a.getD i dV) (v i) W)->RS (v k) W->Q .normal (F v) W):(Code.region id ops true).wp P Q (F v0) w:=by
 subst E;have lt:∀ j,j<a.length->(a ++ [RS]).getD j dV=a.getD j dV:=fun j d=>by rw[ai,ai,List.getElem?_append_left d]
 have n:(a ++ [RS]).getD a.length dV=RS:=by rw[ai,List.getElem?_append_right (aj _),Nat.sub_self];rfl
 have D:∀ j,a.length<j->(a ++ [RS]).getD j dV=dV:=fun j d=>by rw[ai,dj (by simp;omega)];rfl
 have mem:∀ j,j<a.length->a.getD j dV∈a:=fun j d=>by rw[ai,bo d];exact List.getElem_mem _
 refine MZ y F v0 B (fun i=>if i=a.length then Wr else N) (fun j=>(a ++ [RS]).getD j dV) (fun i W W' hb hg=>?_) (fun i j u W W' f hb c hg=>?_) A hw (fun i o m v W hb hd=>?_) (fun v W hb hd=>?_)
 ·by_cases e:i=a.length
  ·rw[ae e] at hg;exact C _ _ hb hg
  ·rw[ac e] at hg;exact z _ _ hb hg
 ·rcases Nat.lt_trichotomy j a.length with b|rfl|b
  ·rw[lt j b] at c ⊢;by_cases e:i=a.length
   ·rw[ae e] at hg;exact l _ (mem j b) _ _ _ hb c hg
   ·rw[ac e] at hg;exact p _ (mem j b) _ _ _ hb c hg
  ·rw[ac (Ne.symm f)] at hg;rw[n] at c ⊢;exact q _ _ _ hb c hg
  ·rw[D j b];exact True.intro
 ·have hi:i<ops.size:=(am.1 m).1;by_cases e:i=a.length
  ·subst e;refine wpOp_mono ?_ (hx o m v W hb hd);rintro a' W' ⟨u,b,g,h⟩;exact⟨u,b,by rw[n];exact g,by rw[ae rfl];exact h⟩
  ·refine wpOp_mono ?_ (hs i o m (by omega) v W hb hd);rintro a' W' ⟨u,b,g,h⟩;exact⟨u,b,by rw[lt i (by omega)];exact g,by rw[ac e];exact h⟩
 ·refine hl v W hb (fun i hi=>?_) ?_
  ·have:=hd i (by omega);rwa [lt i hi] at this
  ·have:=hd a.length (by omega);rwa [n] at this
end
def NF(x:Bx)(fr:Nat->List Nat)(S:Sb)(r:Nat):Prop:=(∃ k,k<8/\r=aB k/\S.pl k=[]/\∀ a,a<=x.o->fr a=[])\/(∃ k,k<=x.o/\r=4096*2 ^ k/\∀ a,k<=a->a<=x.o->fr a=[])
inductive Td(x:Bx)(t:Bt)(fr:Nat->List Nat)(ls:List (Nat×Nat))(S:Sb)(r:Nat)(d:Bool)(p:Nat)(b:Bool)(fr':Nat->List Nat)(eF:List (Nat×Nat))(S':Sb):Prop where
 | old (k g i:Nat) (l rr:List Nat) (hk:k<8) (hr:r=aB k) (hl:S.pl k=g :: l) (hf:S.fl g=i :: rr) (hp:p=aM x g k i) (hb:b=false) (e1:fr'=fr) (e2:eF=ls) (e3:S'=bA S g k rr)
 | new (k g:Nat) (hk:k<8) (hr:r=aB k) (hl:S.pl k=[]) (hp:p=aM x g k 0) (nd:Ned x t fr d g b fr') (e2:eF=ls ++ [(g,0)]) (e3:S'=bA (bJ S g k) g k (List.range' 1 (aF k-1)))
 | here (k g j:Nat) (l:List Nat) (hk:k<=x.o) (hr:r=4096*2 ^ k) (hkj:k<=j) (hj:j<=x.o) (hz:∀ a,k<=a->a<j->fr a=[]) (hl:fr j=g :: l) (hp:p=ad x g) (hb:b=false) (e1:fr'=dJ (cI fr j (M.dropL (fr j) g)) g j k) (e2:eF=ls ++ [(g,k)]) (e3:S'=S)
 | grew (k:Nat) (hk:k<=x.o) (hr:r=4096*2 ^ k) (hz:∀ a,k<=a->a<=x.o->fr a=[]) (hp:p=ad x t.m.n) (hb:b=true) (e1:fr'=dJ fr t.m.n x.o k) (e2:eF=ls ++ [(t.m.n,k)]) (e3:S'=S)
structure Nx(w W W':Wd)(hb sb lw:Nat)(x:Bx)(t:Bt)(ls:List (Nat×Nat))(S:Sb)(s:Int)(x':Bx)(t':Bt)(fr':Nat->List Nat)(eF:List (Nat×Nat))(S':Sb):Prop where
 H:HW w W' hb sb lw x' t' fr' eF S' s
 ch:Ch x t ls S x' t' eF S'
 kp:Kt (bM x sb) W W'
 ns:∀ y,bM x' sb y->bM x sb y\/W.heap.size<=y
inductive Tq(w W:Wd)(hb sb lw:Nat)(x:Bx)(t:Bt)(fr:Nat->List Nat)(ls:List (Nat×Nat))(S:Sb)(s:Int)(r:Nat)(d:Bool)(p:Nat)(er:Int)(w':Wd):Prop where
 | no (hp:p=0) (he:er=2) (nf:NF x fr S r) (hd:d=true\/x.n=x.dl*x.R) (kp:Kt nO W w')
 | yes (x':Bx) (t':Bt) (fr':Nat->List Nat) (eF:List (Nat×Nat)) (S':Sb) (b:Bool) (he:er=0) (td:Td x t fr ls S r d p b fr' eF S') (nx:Nx w W w' hb sb lw x t ls S s x' t' fr' eF S') (hL:∀ a z,aR x' eF S' a z↔aR x ls S a z\/(a=p/\z=r)) (hN:∀ z,¬aR x ls S p z) (hn:x'.n=(if b=true then x.n+x.R else x.n)) (hm:p%r=0) (hb1:b=true->NF x fr S r/\d=false/\x.n+x.R<=x.dl*x.R) (hb2:b=false->¬NF x fr S r)
abbrev rE(p:Nat)(g:Bool)(er:Int):Ending:=.returned (.tuple #[.int .u64 p,.bool g,.int .i64 er])
theorem zl6{k j:Nat}(h:aB k=aB j):k=j:=by unfold aB at h;exact ED _ _ (Nat.eq_of_mul_eq_mul_left (show 0<16 by decide) h)
theorem TX{k j:Nat}(h : 4096*2 ^ k=4096*2 ^ j):k=j:=ED _ _ (Nat.eq_of_mul_eq_mul_left (show 0<4096 by decide) h)
theorem CW{k j:Nat}(a:k<8):aB k≠4096*2 ^ j:=fun e=>by have:=(cM a).2;have : 0<2 ^ j:=ap (by decide);omega
theorem NF.cell{x fr S k}(d:k<8):NF x fr S (aB k)↔S.pl k=[]/\∀ a,a<=x.o->fr a=[]:=by
 constructor
 ·rintro (⟨j,e,b,c⟩|⟨j,e,b,c⟩)
  ·obtain rfl:=zl6 b;exact c
  ·exact absurd b (CW d)
 ·exact fun h=>.inl ⟨k,d,rfl,h⟩
theorem NF.ew{x:Bx}{fr S k}(e:k<=x.o):NF x fr S (4096*2 ^ k)↔∀ a,k<=a->a<=x.o->fr a=[]:=by
 constructor
 ·rintro (⟨j,c,b,d⟩|⟨j,c,b,d⟩)
  ·exact absurd b.symm (CW c)
  ·obtain rfl:=TX b;exact d
 ·exact fun h=>.inr ⟨k,e,rfl,h⟩
theorem IP{b k i p:Nat}(c:k<8)(hb:b%4096=0):(b+4096*p+i*aB k)%aB k=0:=by
 have hc:=(cV c).1;have a:b=b/4096*(aF k*aB k):=by rw[hc];omega
 rw[a,show 4096*p=p*(aF k*aB k)by rw[hc];omega,<-cy,<-cy,<-av,<-av];exact Nat.mul_mod_left _ _
theorem SO.jl{w W sb lw x t fr ls S h}(o:SO w W sb lw x t fr ls S h){q:Nat}(hc:S.c q=none):x.P q=none:=by rw[o.si.eP];exact iU hc
section
variable {w W W':Wd} {hb sb lw:Nat} {x:Bx} {t:Bt} {fr:Nat->List Nat} {ls:List (Nat×Nat)} {S:Sb} {s:Int}
theorem HW.ip(H:HW w W hb sb lw x t fr ls S s){k:Nat}(f:k<8)(d:Bool):Calls prog 107 #[.pointer (some ⟨sb,0,none⟩),.int .i64 k,.bool d] W fun e T=>∃ p g U,e=rE p g U/\Tq w W hb sb lw x t fr ls S s (aB k) d p U T:=by
 obtain⟨h,o⟩:=H.so;have hz:=cM f;refine(zkW o (k:Int) d).mono fun e T hT=>?_
 cases hT with
 | bad hc=>exact absurd ⟨by omega,by omega⟩ hc
 | stuck D E hc hl c hd he kp=>
  obtain rfl:k=D:=by omega
  exact⟨0,false,2,he,.no rfl rfl ((NF.cell f).2 ⟨hl,c⟩) hd kp⟩
 | old D p i l r E hc hl hf he so kp=>
  obtain rfl:k=D:=by omega
  obtain⟨P,m',h',n,hn⟩:=so;have u:=((o.si.pm k f p).1 (by rw[hl];exact aw)).1;have hL:∀ a z,aR { x with P:=P } ls (bA S p k r) a z↔aR x ls S a z\/(a=aM x p k i/\z=aB k):=fun a z=>by rw[qH (x:=x) (x':={ x with P:=P }) rfl];exact YV o u hf a z
  have ch:Ch x t ls S { x with P:=P } { t with m:=m' } ls (bA S p k r):=⟨rfl,rfl,rfl,rfl,fun j _ _=>rfl⟩;refine⟨aM x p k i,false,0,he,.yes _ _ _ _ _ false rfl (.old k p i l r f rfl hl hf rfl rfl rfl rfl rfl) ⟨H.call n (eY.old o H.lv f hl hf) ch kp,ch,kp,fun y e=>.inl e⟩ hL (o.kg u (by rw[hf];exact aw)) rfl (IP f o.bm) (fun e=>by cases e) (fun _ e=>?_)⟩;have:=((NF.cell f).1 e).1;rw[hl] at this
  cases this
 | new D p b E hc hl he so u nl kp=>
  obtain rfl:k=D:=by omega
  obtain⟨x',Z,a0,h',J,n,A,G,nb,a1,C⟩:=so;have hL:∀ a z,aR x' (ls ++ [(p,0)]) (bA (bJ S p k) p k (List.range' 1 (aF k-1))) a z↔aR x ls S a z\/(a=aM x p k 0/\z=aB k):=fun a z=>by rw[qH (x:=x) (x':=x') A.bS];exact YU f u nl a z
  have I:∀ z,¬aR x ls S (aM x p k 0) z:=fun z e=>by
   have h0 : 0<z:=(o.span e).1;obtain⟨_,q,j,X,V,N⟩:=o.span e;have c : 0<2 ^ j:=ap (by decide);unfold aM at V N;unfold ad at V N;rcases n.apart (List.mem_append_left _ X) (List.mem_append_right ls (List.mem_singleton.2 rfl))with ⟨F,e4⟩|F|F
   ·subst F;exact nl _ X
   ·omega
   ·rw[Nat.pow_zero] at F;omega
  have ch:Ch x t ls S x' Z (ls ++ [(p,0)]) (bA (bJ S p k) p k (List.range' 1 (aF k-1))):=⟨A.bS,A.R,A.dl,A.o,fun j Y _=>G j (o.byte Y)⟩;refine⟨aM x p k 0,b,0,he,.yes _ _ _ _ _ b rfl (.new k p f rfl hl rfl J rfl rfl) ⟨H.call n (H.lv.new f) ch kp,ch,kp,fun y e=>e.elim (fun e=>(nb y e).imp (fun e=>.inl e) id) (fun e=>.inl (.inr e))⟩ hL I C (IP f o.bm) (fun e=>?_) (fun e hf=>?_)⟩
  ·cases J with
   | here j l2 K c hp hb=>rw[hb] at e;cases e
   | grew c hd v hb hp=>exact⟨(NF.cell f).2 ⟨hl,c⟩,hd,v⟩
  ·cases J with
   | here j l2 K c hp hb=>
    have:=((NF.cell f).1 hf).2 j K;rw[hp] at this
    cases this
   | grew c hd v hb hp=>rw[hb] at e;cases e
theorem HW.jm(H:HW w W hb sb lw x t fr ls S s){k:Nat}(G:k<=x.o)(d:Bool):Calls prog 109 #[.pointer (some ⟨lw,0,none⟩),.int .i64 k,.bool d] W fun e A=>∃ p g U,e=rE p g U/\Tq w W hb sb lw x t fr ls S s (4096*2 ^ k) d p U A:=by
 obtain⟨h,o⟩:=H.so;have hz : 0<2 ^ k:=ap (by decide);have J:∀ (p:Nat) (b:Bool) (x':Bx) (C:Bt) (D:Nat->List Nat) (e:Ending) (A:Wd),e=.returned (.tuple #[.int .u64 ((ad x p:Nat):Int),.bool b,.int .i64 0])->PO w A lw x' C D (ls ++ [(p,k)])->Sm x x'->BK t C ls (ls ++ [(p,k)])->Nb W x x'->Kt (aC x) W A->S.c p=none->(∀ i,(p,i) ∉ ls)->x'.n=(if b=true then x.n + x.R else x.n)->Td x t fr ls S (4096*2 ^ k) d (ad x p) b D (ls ++ [(p,k)]) S->(b=true->NF x fr S (4096*2 ^ k)/\d=false/\x.n + x.R<=x.dl*x.R)->(b=false->¬NF x fr S (4096*2 ^ k))->∃ p g U,e=rE p g U/\Tq w W hb sb lw x t fr ls S s (4096*2 ^ k) d p U A:=by
  rintro p b x' C D e A he v E bk nb kp u nl Z td r N;have Y:=o.iz v E bk (fun a c ha=>List.mem_append_left _ (o.mem ha).1) kp;have hL:∀ a z,aR x' (ls ++ [(p,k)]) S a z↔aR x ls S a z\/(a=ad x p/\z=4096*2 ^ k):=fun a z=>by rw[qH (x:=x) (x':=x') E.bS];exact JA u a z
  have a0:p%2 ^ k=0:=(Y.al (List.mem_append_right ls (List.mem_singleton.2 rfl))).2.1;have a1:∀ z,¬aR x ls S (ad x p) z:=fun z e=>by
   have h0 : 0<z:=(o.span e).1;obtain⟨_,q,j,q1,q2,q3⟩:=o.span e;have f : 0<2 ^ j:=ap (by decide);unfold ad at q2 q3;rcases Y.apart (List.mem_append_left _ q1) (List.mem_append_right ls (List.mem_singleton.2 rfl))with ⟨e3,e4⟩|e3|e3
   ·subst e3;exact nl _ q1
   ·omega
   ·omega
  have ch:Ch x t ls S x' C (ls ++ [(p,k)]) S:=⟨E.bS,E.R,E.dl,E.o,fun j r N=>bk j (o.byte r) (Y.byte N)⟩;have V:Kt (bM x sb) W A:=kp.mono (fun _ _ e=>.inl e);refine⟨ad x p,b,0,he,.yes x' C D _ S b rfl td ⟨H.call Y H.lv ch V,ch,V,fun y e=>e.elim (fun e=>(nb y e).imp (fun e=>.inl e) id) (fun e=>.inl (.inr e))⟩ hL a1 Z ?_ r N⟩;have hR:=o.sw.pl.bd.hR;have r : 4096*2 ^ k ∣ x.bS:=Nat.dvd_trans (by rw[hR];exact Nat.mul_dvd_mul_left _ (Nat.pow_dvd_pow 2 G)) (da H.br);have N : 4096*2 ^ k ∣ 4096*p:=Nat.mul_dvd_mul_left _ (da a0);exact Nat.mod_eq_zero_of_dvd (Nat.dvd_add r N)
 refine(K.Need_any o.po (k:Int) d).mono fun e A hN=>?_
 cases hN with
 | bad hb he kp=>
  exfalso
  rw[UH G] at hb
  cases hb
 | stuck i hi I f hd he kp=>
  obtain rfl:k=i:=by omega
  exact⟨0,false,2,he,.no rfl rfl ((NF.ew G).2 f) hd kp⟩
 | here i j p l hi I T X f hp he hs kp=>
  obtain rfl:k=i:=by omega
  obtain⟨C,v,hn,bk⟩:=hs;have u:S.c p=none:=by
   have r:=o.sf.jj X (show p∈fr j by rw[hp];exact aw)
   cases e:S.c p with
   | none=>rfl
   | some c=>
    rw[o.si.eP,jS e] at r
    cases r
  refine J p false x C _ e A he v (Sm.refl x) bk (fun y e=>.inl e) kp u (fun i F=>?_) rfl (.here k p j l G rfl T X f hp rfl rfl rfl rfl rfl) (fun e=>by cases e) (fun _ e=>?_);·have h0:=o.sf.iw X (show p∈fr j by rw[hp];exact aw) F;have a2 : 0<2 ^ i:=ap (by decide);have f : 0<2 ^ j:=ap (by decide);omega
  ·have:=(NF.ew G).1 e j T X;rw[hp] at this
   cases this
 | grew i hi I f hd a3 he hs kp=>
  obtain rfl:k=i:=by omega
  obtain⟨x',C,v,E,hn,a4,nb,bk⟩:=hs;have u:S.c t.m.n=none:=by
   have r:=o.sf.li (aj t.m.n)
   cases e:S.c t.m.n with
   | none=>rfl
   | some c=>
    rw[o.si.eP,jS e] at r
    cases r
  refine J t.m.n true x' C _ e A he v E bk nb kp u (fun i F=>?_) (by rw[ae rfl];exact hn) (.grew k G rfl f rfl rfl rfl rfl rfl) (fun _=>⟨(NF.ew G).2 f,hd,a3⟩) (fun e=>by cases e);have:=(o.al F).2.2;have a2 : 0<2 ^ i:=ap (by decide);omega
inductive Gd(x:Bx)(fr:Nat->List Nat)(ls:List (Nat×Nat))(S:Sb)(p z:Nat)(fr':Nat->List Nat)(eF:List (Nat×Nat))(S':Sb):Prop where
 | back (g k i:Nat) (hv:iY x S p g k i) (hz:z=aB k) (hl:(S.fl g).length+1<aF k) (e1:fr'=fr) (e2:eF=ls) (e3:S'=bC S g k i)
 | rel (g k i:Nat) (hv:iY x S p g k i) (hz:z=aB k) (hl:(S.fl g).length+1=aF k) (e1:fr'=lE x.o fr g 0) (e2:eF=dR ls g) (e3:S'=bZ S g k)
 | fh (q k:Nat) (hm:(q,k)∈ls) (hc:S.c q=none) (hp:p=ad x q) (hz:z=4096*2 ^ k) (e1:fr'=lE x.o fr q k) (e2:eF=dR ls q) (e3:S'=S)
def Gq(w W:Wd)(hb sb lw:Nat)(x:Bx)(t:Bt)(fr:Nat->List Nat)(ls:List (Nat×Nat))(S:Sb)(s:Int)(p z:Nat)(w':Wd):Prop:=∃ x' t' fr' eF S',Gd x fr ls S p z fr' eF S'/\Nx w W w' hb sb lw x t ls S s x' t' fr' eF S'/\(∀ a c,aR x' eF S' a c↔aR x ls S a c/\a≠p)/\x'.n=x.n
theorem HW.jc(H:HW w W hb sb lw x t fr ls S s){p g k i:Nat}(b:iY x S p g k i):Calls prog 112 #[.pointer (some ⟨sb,0,none⟩),.int .u64 p] W fun e q=>e=.returned (.int .i64 0)/\Gq w W hb sb lw x t fr ls S s p (aB k) q:=by
 obtain⟨h,o⟩:=H.so;have v:=(o.si.pg g k b.1).1;have hz:=cM v;have hp:p=aM x g k i:=b.2.2.2;have d:iY x S (aM x g k i) g k i:=by rw[<-hp];exact b
 have I:=o.mem b.1;have J:=o.po.en.2.2.2.1;have F:=fT (x:=x) (p:=g) v b.2.1 (by omega);refine(zjf o H.lv _ g k i b).mono ?_;rintro e q ⟨rfl,G⟩;refine⟨rfl,?_⟩
 cases G with
 | back hl so kp=>
  obtain⟨P,n,D,c,hf,C⟩:=so;have hL:∀ a z,aR { x with P:=P } ls (bC S g k i) a z↔aR x ls S a z/\a≠p:=fun a z=>by rw[hp,qH (x:=x) (x':={ x with P:=P }) rfl];exact zkC o d a z
  have ch:Ch x t ls S { x with P:=P } n ls (bC S g k i):=⟨rfl,rfl,rfl,rfl,fun j _ A=>by
   refine hf j (fun E=>?_);obtain⟨a,z,f,l,r⟩:=A;obtain⟨f,u⟩:=(hL a z).1 f;have l:a<=x.bS+j:=l;have r:x.bS+j<a+z:=r;rw[hp] at u;have e:aM x g k i=x.bS+4096*g+i*aB k:=rfl;rcases o.two f (.inl ⟨g,k,i,d,rfl⟩)with ⟨m,_⟩|m|m
   ·exact u m
   ·omega
   ·omega⟩
  exact⟨_,_,_,_,_,.back g k i b rfl hl rfl rfl rfl,⟨H.call c (H.lv.back b.1 hl) ch kp,ch,kp,fun y e=>.inl e⟩,hL,rfl⟩
 | rel hl so=>
  obtain⟨P,n,D,c,C,bk,kp⟩:=so;have hL:∀ a z,aR { x with P:=P } (dR ls g) (bZ S g k) a z↔aR x ls S a z/\a≠p:=fun a z=>by rw[hp,qH (x:=x) (x':={ x with P:=P }) rfl];exact YT o d hl a z
  have ch:Ch x t ls S { x with P:=P } n (dR ls g) (bZ S g k):=⟨rfl,rfl,rfl,rfl,fun j f l=>bk j (o.byte f) (c.byte l)⟩;exact⟨_,_,_,_,_,.rel g k i b rfl hl rfl rfl rfl,⟨H.call c (H.lv.rel g k) ch kp,ch,kp,fun y e=>.inl e⟩,hL,rfl⟩
theorem HW.ir(H:HW w W hb sb lw x t fr ls S s){p q k:Nat}(hq:(q,k)∈ls)(hc:S.c q=none)(hp:p=ad x q):Calls prog 113 #[.pointer (some ⟨lw,0,none⟩),.int .u64 p,.int .i64 k] W fun e d=>e=.returned (.int .i64 0)/\Gq w W hb sb lw x t fr ls S s p (4096*2 ^ k) d:=by
 obtain⟨h,o⟩:=H.so;refine(K.Give6_yes o.po q k hq (o.jl hc) _ hp).mono ?_;rintro e d ⟨rfl,m,f,r,i,bk⟩;have g:=o.iz f (Sm.refl _) bk (fun a c ha=>List.mem_filter.2 ⟨(o.mem ha).1,af fun e=>by
  have e:a=q:=e;rw[e,hc] at ha
  cases ha⟩) i
 have hL:∀ a z,aR x (dR ls q) S a z↔aR x ls S a z/\a≠p:=fun a z=>by rw[hp];exact EJ o hq hc a z
 have ch:Ch x t ls S x m (dR ls q) S:=⟨rfl,rfl,rfl,rfl,fun j l n=>bk j (o.byte l) (g.byte n)⟩;have b:Kt (bM x sb) W d:=i.mono (fun _ _ e=>.inl e);exact⟨rfl,_,_,_,_,_,.fh q k hq hc hp rfl rfl rfl rfl,⟨H.call g H.lv ch b,ch,b,fun y e=>.inl e⟩,hL,rfl⟩
end
namespace W
theorem isF_od{p:Pg}{o:Int}(h:isF p o=true):p.kd=0/\p.od=o:=by simpa [isF] using h
theorem ok6_bad{I:Img}{k a i:Nat}(hi:i<k)(c:a%(2*2 ^ i)=0)(b:isF (I.pg a) (i:Int)=true)(d:isF (I.pg (a+2 ^ i)) (i:Int)=true):ok6 I k a=false:=by obtain⟨-,e⟩:=isF_od b;unfold ok6;rw[e,aa,b,d,af (show(i:Int)<k by omega),af c];rfl
theorem zkP{I:Img}{k r a:Nat}(hS:Sn9 I k r)(ha:a<I.np)(h:∀ i,i<k->a%(2*2 ^ i)=0->isF (I.pg a) (i:Int)=true->isF (I.pg (a+2 ^ i)) (i:Int)=false):ok6 I k a=true:=by
 obtain⟨kd,o,c,l,-,-,e,g,-⟩:=hS.pg a ha;unfold ok6;rw[e,aa];by_cases b:isF (I.pg a) (o:Int)=true
 ·by_cases f:o<k
  ·by_cases d:a%(2*2 ^ o)=0
   ·rw[h o f d b];simp
   ·rw[ah d];simp
  ·rw[ah (show ¬(o:Int)<k by omega)];simp
 ·rw[Bool.not_eq_true] at b;rw[b];simp
theorem ZI(I:Img)(V:ImV)(k r:Nat)(hS:Sn9 I k r)(w:Wd)(X:ImD w I V):Calls prog 82 #[imA I V] w fun e w'=>e=.returned (.int .i64 (fA (fst1 I.np (ok6 I k))))/\Kt nO w w':=by
 obtain⟨⟨ma,mc,J⟩,⟨pa,pc,hp⟩,⟨ra,rc,hr⟩,⟨ha,hc,hh⟩,⟨ta,tc,ht⟩,-⟩:=X.sl;obtain⟨vm,vp,vr,vh,vt⟩:=V;dsimp only at J hp hr hh ht;subst J hp hr hh ht;have U:=aA (show ImAt (w.alloc (imO I _)) w.heap.size I _ from⟨nH _ _,X.dk ((Kt.refl _ w).alloc _)⟩);have K0:=aA (show Kt nO w (w.alloc (imO I _))from(Kt.refl _ w).alloc (imO I ⟨.slice ma I.nm mc,.slice pa I.np pc,.slice ra I.no rc,.slice ha I.hd.length hc,.slice ta I.pt.length tc⟩));obtain⟨c0,c1,c2,c3,c4,c5,E,c7,z⟩:=U.o.cells;have HS:=aA hS;have OP:=aA (fun g o hg W X=>uW I ⟨.slice ma I.nm mc,.slice pa I.np pc,.slice ra I.no rc,.slice ha I.hd.length hc,.slice ta I.pt.length tc⟩ g o hg W X);have PW:=aA (fun j hj W=>nE j hj W);obtain⟨rr,n⟩:=xe (fA (fst1 I.np (ok6 I k)));rw[<-n];have a9:=aA (show ∀ a,a<I.np->(∀ j,j<a->ok6 I k j=true)->ok6 I k a=false->rr=(a:Int)from fun a h1 h2 h3=>by rw[n,fY h1 h2 h3];rfl);have a4:=aA (show(∀ j,j<I.np->ok6 I k j=true)->rr = -1 from fun h=>by rw[n,fst1_ok h];rfl);have Z:=aA hS.gj;have v:=aA hS.k8;have HO:=aA hS.ord;clear X n hS;go_enter func82,ntmps82;go_wp2_with fail;clear c0 c1 c2 c3 c4 c5 E c7 z;generalize w.heap.size=ib at *;generalize w.alloc (imO I ⟨.slice ma I.nm mc,.slice pa I.np pc,.slice ra I.no rc,.slice ha I.hd.length hc,.slice ta I.pt.length tc⟩)=W0 at *;go_loopw [3] (fun C W=>∃ a:Nat,a<=I.np/\C=.int .i64 a/\Hd (Kt nO W0 W/\∀ j,j<a->ok6 I k j=true)) (fun C _=>I.np-(intOf C).toNat)
 case atStart=>exact⟨0,az _,rfl,aA ⟨Kt.refl _ _,fun j hj=>by omega⟩⟩
 case round=>
  obtain⟨a,a8,rfl,G⟩:=hrel;have D:=aA (U.o.dk G.o.1);obtain⟨c0,c1,c2,c3,c4,c5,E,c7,z⟩:=D.o.cells;dsimp only at c5;by_cases a3:a<I.np
  ·have b6:(a:Int)<I.np:=(by omega);have f:=aA a3;have p:=aA G.o.2;have KA:=aA G.o.1;clear a3 a8 G;go_wp2_with fail;clear c0 c1 c2 c3 c4 c5 E c7 z;obtain⟨wq,y⟩:∃ W,W=wr:=⟨_,rfl⟩;rw[<-y] at KA D;rw[<-y];clear y;go_loopw [4] (fun C W=>∃ j:Nat,j<=k/\C=.int .i64 j/\Hd (Kt nO wq W/\∀ i,i<j->a%(2*2 ^ i)=0->isF (I.pg a) (i:Int)=true->isF (I.pg (a+2 ^ i)) (i:Int)=false)) (fun C _=>k-(intOf C).toNat)
   case atStart=>exact⟨0,az _,rfl,aA ⟨Kt.refl _ _,fun i hi=>by omega⟩⟩
   case round=>
    obtain⟨j,hj,rfl,hJ⟩:=hrel;have A:=aA (D.o.dk hJ.o.1);obtain⟨c0,c1,c2,c3,c4,c5,E,c7,z⟩:=A.o.cells;by_cases T:j<k
    ·have b0:(j:Int)<I.ord:=(by rw[HO.o];omega);have c:=aA T;have b4:=aA hJ.o.2;have KJ:=aA hJ.o.1;clear T hj hJ;go_wp2_with fail;refine(PW.o j (by have:=v.o;have:=c.o;omega) _).mono ?_;rintro e w1 ⟨rfl,rfl⟩;obtain⟨P,K⟩:=xe (2 ^ j);rw[<-K];have a7 : 1<=P:=(by rw[K];exact ax j);have a6:P<=512:=(by rw[K];exact nD j (by have:=v.o;have:=c.o;omega));have F:=aA K;have m1:wrap64 (2*(P:Int))=((2*P:Nat):Int):=(by rw[wrap64];omega);have R:=aA (show a%(2*P)=0->a+P<I.np from fun h=>by
      have h2 : 2*P=2 ^ (j+1):=(by rw[K,co,aq]);have:=mul_fits (HS.o.dvd (j+1) (by have:=c.o;omega)) (by rw[<-h2];exact h) f.o;omega)
     obtain⟨Q,hQ⟩:=xe (2*P);rw[<-hQ] at m1 R;have b7:¬(Q:Int)=0:=(by omega);have b8:((Q:Int) == 0)=false:=(by rw[ag];omega);have b9:¬(Q:Int) = -1:=(by omega);obtain⟨m,J⟩:=xe (a%Q);have r1:(a:Int)%(Q:Int)=m:=(by rw[J];rfl);have r2:(a:Int).tmod (Q:Int)=m:=(by rw[Int.tmod_eq_emod_of_nonneg (by omega)];exact r1);have b3:=aA (show a+P<=5000 by have:=f.o;have:=Z.o;omega);have HM:=aA J;have HQ:=aA hQ;clear K hQ J a7 a6;have l:=aA (show(a%(2*2 ^ j)=0->isF (I.pg a) (j:Int)=true->isF (I.pg (a+2 ^ j)) (j:Int)=false)->∀ i,i<j+1->a%(2*2 ^ i)=0->isF (I.pg a) (i:Int)=true->isF (I.pg (a+2 ^ i)) (i:Int)=false from fun h i hi=>by
      by_cases e:i=j;·subst e;exact h
      ·exact b4.o i (by omega))
     have ME:=aA (show a%(2*2 ^ j)=m by rw[HM.o,HQ.o,F.o]);have hw:wrap64 ((j:Int)+1)=((j+1:Nat):Int):=(by have:=v.o;have:=c.o;rw[wrap64];omega);have HW:=aA hw;clear hw;by_cases h0:m=0
     case neg=>have q0:((m:Int) == 0)=false:=(by rw[ag];omega);have Y:=aA (l.o (fun h=>absurd (ME.o.symm.trans h) h0));clear h0;go_wp2_with fail;rw[HW.o];exact⟨⟨j+1,by have:=c.o;omega,rfl,aA ⟨KJ.o,Y.o⟩⟩,by have:=c.o;simp only[intOf,aa];omega⟩
     have q0:((m:Int) == 0)=true:=(by rw[cu];omega);have H0:=aA h0;clear h0;obtain⟨b1,a2⟩:∃ b,b=isF (I.pg a) (j:Int):=⟨_,rfl⟩;have q:=aA a2;clear a2;go_wp2_with fail;refine(OP.o a (j:Int) f.o _ A.o.d).mono ?_;rintro e w2 ⟨rfl,k2⟩;rw[<-q.o];have N:=aA (A.o.dk k2);have K2:=aA (nT KJ.o k2);clear k2 c0 c1 c2 c3 c4 c5 E c7 z
     cases b1 with
     | false=>have Y:=aA (l.o (fun _ h=>by rw[<-q.o] at h;cases h));go_wp2_with fail;rw[HW.o];exact⟨⟨j+1,by have:=c.o;omega,rfl,aA ⟨K2.o,Y.o⟩⟩,by have:=c.o;simp only[intOf,aa];omega⟩
     | true=>
      obtain⟨c0,c1,c2,c3,c4,c5,E,c7,z⟩:=N.o.cells;obtain⟨g,hg⟩:=xe (a+P);have a1:wrap64 ((a:Int)+(P:Int))=(g:Int):=(by have:=b3.o;rw[wrap64];omega);have a5:=aA hg;have b5:=aA (show g<I.np by rw[hg];exact R.o (by rw[<-HM.o];exact H0.o));obtain⟨b2,a0⟩:∃ b,b=isF (I.pg g) (j:Int):=⟨_,rfl⟩;have u:=aA a0;clear a0 hg;go_wp2_with fail;refine(OP.o g (j:Int) b5.o _ N.o.d).mono ?_;rintro e w3 ⟨rfl,k3⟩;rw[<-u.o];have K3:=aA (nT K2.o k3);clear k3 c0 c1 c2 c3 c4 c5 E c7 z
      cases b2 with
      | false=>have Y:=aA (l.o (fun _ _=>by rw[<-F.o,<-a5.o];exact u.o.symm));go_wp2_with fail;rw[HW.o];exact⟨⟨j+1,by have:=c.o;omega,rfl,aA ⟨K3.o,Y.o⟩⟩,by have:=c.o;simp only[intOf,aa];omega⟩
      | true=>have er:=a9.o a f.o p.o (ok6_bad c.o (ME.o.trans H0.o) q.o.symm (by rw[<-F.o,<-a5.o];exact u.o.symm));subst er;go_wp2_with fail;go_ret;exact⟨rfl,nT K0.o (nT KA.o K3.o)⟩
    ·have b0:¬(j:Int)<I.ord:=(by rw[HO.o];omega);have eo:=zkP HS.o f.o (fun i hi=>hJ.o.2 i (by omega));have KE:=aA (nT KA.o hJ.o.1);have EO:=aA eo;clear hJ eo;go_wp2_with fail;have hw:wrap64 ((a:Int)+1)=((a+1:Nat):Int):=(by have:=Z.o;have:=f.o;rw[wrap64];omega);go_round
     case rel=>exact⟨a+1,by have:=f.o;omega,by rw[hw],aA ⟨KE.o,fun i hi=>by
      by_cases e:i=a;·rw[e];exact EO.o
      ·exact p.o i (by omega)⟩⟩
     case measure=>rw[hw];have:=f.o;simp only[intOf,aa];omega
  ·have b6:¬(a:Int)<I.np:=(by omega);have er:=a4.o (fun j hj=>G.o.2 j (by omega));subst er;go_wp2_with fail;go_ret;exact⟨rfl,nT K0.o G.o.1⟩
end W
def bN(x:Bx)(t:Bt)(S:Sb)(L:Nat):W.Img:=⟨x.bS,(L:Int),(x.o:Int),((t.m.n/2 ^ x.o:Nat):Int),x.n,t.f,t.m.n,t.m.pg,x.o,t.m.wd,(List.range (x.o+1)).map t.hd,(List.range 8).map fun k=>bB (S.pl k)⟩
structure St0(x:Bx)(t:Bt)(fr:Nat->List Nat)(B:Nat->Nat->Nat->Prop)(S:Sb)(L:Nat):Prop where
 sd:Sd x t fr B
 n9:∀ q i,¬B 9 q i
 st:t.m.n*4096=x.n
 si:SI x t S
 lv:eY S
 may:M.mayB x.bS (L:Int) (x.o:Int)=true
 le:t.m.n/2 ^ x.o<=L
 hz:∀ k,k<x.o->∀ j,t.m.n/2 ^ (k+1)<=j->aE (t.m.wd k) j=false
 me:∀ i,i<t.m.n->W.PgIn (t.m.pg i)
section
variable {x:Bx} {t:Bt} {fr:Nat->List Nat} {B:Nat->Nat->Nat->Prop} {S:Sb} {L:Nat}
theorem St0.tag(h:St0 x t fr B S L){g p k:Nat}(hb:B g p k):(g=0\/g=2)/\g≠9:=by
 rcases h.sd.tg g p k hb with e|e|e
 ·exact⟨.inl e,by omega⟩
 ·exact⟨.inr e,by omega⟩
 ·subst e;exact absurd hb (h.n9 p k)
theorem St0.ew(h:St0 x t fr B S L){i:Nat}(hi:i<t.m.n):(∃ k,S.c i=some k/\k<8/\SlP S i k (t.m.pg i)/\B 2 i 0)\/(S.c i=none/\∃ g p k,B g p k/\p<=i/\i<p+2 ^ k/\(g=0\/g=2)/\t.m.pg i=aT (if i=p then (g:Int) else (g:Int)+1) (k:Int)):=by
 cases e:S.c i with
 | some k=>obtain⟨a,b⟩:=h.si.pg i k e;exact .inl ⟨k,rfl,a,b,(h.sd.vs i (t.m.pg i) (by rw[h.si.eP];exact jS e)).1⟩
 | none=>obtain⟨g,p,k,hb,a,b⟩:=h.sd.cv i hi;have hp:=h.sd.pg g p k hb (h.tag hb).2 i a b;rw[h.si.eP,iU e,ej] at hp;exact .inr ⟨rfl,g,p,k,hb,a,b,(h.tag hb).1,hp⟩
theorem St0.first(h:St0 x t fr B S L){g i k:Nat}(hb:B g i k)(hc:S.c i=none):t.m.pg i=aT (g:Int) (k:Int):=by have hp:=h.sd.pg g i k hb (h.tag hb).2 i (aj _) (by have:=ax k;omega);rwa [h.si.eP,iU hc,ej,ae rfl] at hp
theorem St0.ij(h:St0 x t fr B S L){i k:Nat}(hc:S.c i=some k):B 2 i 0:=(h.sd.vs i (t.m.pg i) (by rw[h.si.eP];exact jS hc)).1
theorem St0.one(h:St0 x t fr B S L){g i k b a:Nat}(c:B g i k)(j:B b i a):g=b/\k=a:=by
 rcases h.sd.ds _ _ _ _ _ _ c j with ⟨f,-,d⟩|e|e
 ·exact⟨f,d⟩
 ·have:=ax k;omega
 ·have:=ax a;omega
theorem St0.ix(h:St0 x t fr B S L){i j:Nat}(hi:i<t.m.n):W.isF (t.m.pg i) (j:Int)=true↔B 0 i j:=by
 constructor
 ·intro hf;unfold W.isF at hf;rw[bu,ci,ci] at hf;rcases h.ew hi with ⟨k,f,o,b,q⟩|⟨f,g,p,k,hb,o,b,q,u⟩
  ·rw[b.kd] at hf;omega
  ·rw[u] at hf;obtain⟨a,d⟩:=hf;have a:(if i=p then (g:Int) else (g:Int)+1)=0:=a;have d:(k:Int)=j:=d;by_cases e:i=p
   ·rw[ae e] at a;have r:g=0:=(by omega);have l:k=j:=(by omega);rw[e,<-l,<-r];exact hb
   ·rw[ac e] at a;omega
 ·intro hb;have hc:S.c i=none:=by
   cases e:S.c i with
   | none=>rfl
   | some k=>have:=(h.one hb (h.ij e)).1;omega
  rw[h.first hb hc];simp[W.isF,aT]
theorem St0.fy(h:St0 x t fr B S L){i j:Nat}(hi:i<t.m.n)(a:j<=x.o):W.isF (t.m.pg i) (j:Int)=decide (i∈fr j):=by rw[Bool.eq_iff_iff,h.ix hi,h.sd.fi,ci];exact⟨fun e=>e.2,fun e=>⟨a,e⟩⟩
theorem St0.np(h:St0 x t fr B S L):t.m.n/2 ^ x.o*2 ^ x.o=t.m.n:=by obtain⟨r,a⟩:=h.sd.dv;rw[a,dh _ (ax _)]
theorem St0.nr(h:St0 x t fr B S L):W.rl (bN x t S L) 0=none:=by
 show(if _ then _ else _)=_
 exact ae h.may
theorem St0.nz(h:St0 x t fr B S L):W.rl (bN x t S L) 1=none:=by
 show W.r2 (bN x t S L) (x.o:Int).toNat=none
 rw[aa];unfold W.r2;have c:(bN x t S L).ep.toNat*2 ^ x.o=t.m.n:=by
  show((t.m.n/2 ^ x.o:Nat):Int).toNat*2 ^ x.o=_
  rw[aa];exact h.np
 have a:W.wiB (bN x t S L).ep 0 (bN x t S L).dl=true:=by
  unfold W.wiB;have hq:=h.le;show decide ((0:Int)<=((t.m.n/2 ^ x.o:Nat):Int)/\((t.m.n/2 ^ x.o:Nat):Int)<=(L:Int))=true
  generalize t.m.n/2 ^ x.o=q at hq;exact af ⟨by omega,by omega⟩
 rw[c,ac (by rw[a];simp),ac (bi (show(bN x t S L).nm=t.m.n*4096 from h.st.symm)),ac (bi (show(bN x t S L).np=t.m.n from rfl)),ac (bi (show(bN x t S L).no=x.o from rfl)),ac,ac (bi (show(bN x t S L).hd.length=x.o+1 by simp[bN])),ac (bi (show(bN x t S L).pt.length=8 by simp[bN]))];exact bi (W.fst1_ok fun j b=>af (h.sd.wl j b))
theorem St0.ou(h:St0 x t fr B S L):W.rl (bN x t S L) 2=none:=by
 refine W.fst1_ok fun i hi=>?_
 have hi:i<t.m.n:=hi;show W.rngB (x.o:Int) (t.m.n:Int) (t.m.pg i)=true
 have n1:=h.sd.n1;simp only[W.rngB,W.wiB,bu,ci];rcases h.ew hi with ⟨k,d,c,a,j⟩|⟨d,g,p,k,hb,c,a,j,l⟩
 ·have q:=cV c;have f:∀ r,r∈S.pl k->r<t.m.n:=fun r b=>by
   have:=h.sd.al _ _ _ (h.ij ((h.si.pm k c r).1 b).1);simp at this;omega
  have hf:(-1:Int)<=bB (S.fl i)/\bB (S.fl i)<=255:=by
   rcases pA (S.fl i)with e|⟨r,e,b⟩
   ·omega
   ·have:=(h.si.fl i k d).2.1 r b;omega
  have hx:(-1:Int)<=bE (S.pl k) i/\bE (S.pl k) i<=(t.m.n:Int)-1:=by
   rcases lZ (S.pl k) i (h.si.pn k c)with e|⟨r,e,b,-⟩
   ·omega
   ·have:=f r b;omega
  have hy:(-1:Int)<=bH (S.pl k) i/\bH (S.pl k) i<=(t.m.n:Int)-1:=by
   rcases nN (S.pl k) i (h.si.pn k c)with e|⟨r,e,b,-⟩
   ·omega
   ·have:=f r b;omega
  rw[a.kd,a.od,a.cl,a.lv,a.nx,a.pv,a.fs];refine⟨?_,?_,?_,?_,hx,hy,hf⟩ <;> omega
 ·have u:=(h.sd.al _ _ _ hb).1;rw[l];simp only[aT];refine⟨?_,?_,?_,?_,?_,?_,?_⟩ <;> (try split) <;> omega
theorem St0.jh(h:St0 x t fr B S L){a:Nat}(ha:a<t.m.n)(hs:a=0\/∃ g p k,B g p k/\p+2 ^ k=a):∃ g k,B g a k:=by
 obtain⟨g,p,k,hb,j,f⟩:=h.sd.cv a ha;by_cases e:p=a;·exact⟨g,k,by rw[<-e];exact hb⟩
 rcases hs with l|⟨q,r,i,c,o⟩
 ·omega
 ·exfalso
  rcases h.sd.ds _ _ _ _ _ _ hb c with ⟨-,b,d⟩|b|b
  ·rw[b,d] at f;omega
  ·have:=ax i;omega
  ·omega
theorem St0.r4(h:St0 x t fr B S L):∀ m a,t.m.n-a<m->(a=t.m.n\/∃ g k,B g a k)->W.r4F (bN x t S L) m a=none
 | 0,a,l,_=>by omega
 | m+1,a,l,hs=>by
  by_cases e:a=t.m.n;·subst e;exact W.r4F_end
  rcases hs with r|⟨g,k,hb⟩
  ·exact absurd r e
  have d:=h.sd.al _ _ _ hb;have hp:=ax k;have ha:a<t.m.n:=by omega
  have b:a+2 ^ k=t.m.n\/∃ v u,B v (a+2 ^ k) u:=by
   by_cases j:a+2 ^ k=t.m.n;·exact .inl j
   ·exact .inr (h.jh (by omega) (.inr ⟨g,a,k,hb,rfl⟩))
  cases hc:S.c a with
  | some c=>
   obtain⟨-,f⟩:=h.si.pg a c hc;obtain⟨-,q⟩:=h.one hb (h.ij hc);subst q;have hd:W.hdOk ((bN x t S L).pg a) a=true:=by
    show W.hdOk (t.m.pg a) a=true
    unfold W.hdOk;rw[ae f.kd,f.od];rfl
   rw[W.r4F_ok (o:=0) ha (by show(t.m.pg a).od=_;rw[f.od];rfl) hd (fun x hx=>by simp at hx)];exact h.r4 m (a+2 ^ 0) (by omega) b
  | none=>
   have hf:=h.first hb hc
   have hd:W.hdOk ((bN x t S L).pg a) a=true:=by
    show W.hdOk (t.m.pg a) a=true
    rw[hf];unfold W.hdOk;have hg:=(h.tag hb).1;rw[ac (by show ¬(g:Int)=4;omega),ae (by show(g:Int)=0\/(g:Int)=2;omega)];show(decide (a%2 ^ (k:Int).toNat=0) && W.pgE (aT (g:Int) (k:Int)) (aT (g:Int) (k:Int)))=true
    rw[aa,af d.2.1,bf];exact af rfl
   rw[W.r4F_ok (o:=k) ha (by show(t.m.pg a).od=_;rw[hf];rfl) hd];·exact h.r4 m (a+2 ^ k) (by omega) b
   ·intro y hy;show W.rsOk (t.m.pg a) (t.m.pg (a+1+y))=true
    have p:S.c (a+1+y)=none:=by
     cases z:S.c (a+1+y)with
     | none=>rfl
     | some c=>
      rcases h.sd.ds _ _ _ _ _ _ hb (h.ij z)with ⟨-,i,-⟩|i|i
      ·omega
      ·omega
      ·simp at i;omega
    have hq:=h.sd.pg g a k hb (h.tag hb).2 (a+1+y) (by omega) (by omega);rw[h.si.eP,iU p,ej,ac (by omega)] at hq;rw[hq,hf];show W.pgE (aT ((g:Int)+1) (k:Int)) (aT ((g:Int)+1) (k:Int))=true
    simp[W.pgE]
theorem St0.o9(h:St0 x t fr B S L):W.rl (bN x t S L) 3=none:=by
 show W.r4F (bN x t S L) (t.m.n+1) 0=none
 refine h.r4 _ 0 (by omega) ?_;by_cases e:t.m.n=0;·exact .inl e.symm
 ·exact .inr (h.jh (by omega) (.inl rfl))
theorem St0.pd(h:St0 x t fr B S L):W.rl (bN x t S L) 5=none:=by
 show W.fst1 t.m.n (W.ok6 (bN x t S L) (x.o:Int).toNat)=none
 rw[aa];refine W.fst1_ok fun a ha=>?_
 unfold W.ok6;show(!(W.isF (t.m.pg a) (t.m.pg a).od && decide ((t.m.pg a).od<(x.o:Int)) && decide (a%(2*2 ^ (t.m.pg a).od.toNat)=0)) || !W.isF (t.m.pg (a+2 ^ (t.m.pg a).od.toNat)) (t.m.pg a).od)=true
 cases hf:W.isF (t.m.pg a) (t.m.pg a).od with
 | false=>rfl
 | true=>
  have:∃ j:Nat,(t.m.pg a).od=(j:Int):=by
   rcases h.ew ha with ⟨k,q,v,l,y⟩|⟨q,g,p,k,hb,v,l,y,z⟩
   ·exact⟨0,l.od⟩
   ·exact⟨k,by rw[z];rfl⟩
  obtain⟨j,r⟩:=this;rw[r] at hf ⊢;rw[aa];have hb:=(h.ix ha).1 hf;obtain⟨f,e⟩:=(h.sd.fi _ _).1 hb;by_cases c:j<x.o
  ·by_cases b:a%(2*2 ^ j)=0
   ·rw[af (show(j:Int)<x.o by omega),af b];obtain⟨i,hi⟩:=da b;have d:a+2 ^ j<t.m.n:=by
     have hd : 2*2 ^ j ∣ t.m.n:=by rw[<-h.np,show 2*2 ^ j=2 ^ (j+1)by rw[co,aq]];exact Nat.dvd_trans (Nat.pow_dvd_pow 2 c) (Nat.dvd_mul_left _ _)
     have:=W.mul_fits hd b ha;have:=ax j;omega
    rw[h.fy d f,ah];·rfl
    ·intro u;refine h.sd.nm j c i ⟨?_,?_⟩
     ·rw[show 2*i*2 ^ j=a by rw[hi,Nat.mul_right_comm]];exact e
     ·rw[show(2*i+1)*2 ^ j=a+2 ^ j by rw[av,aL,hi,Nat.mul_right_comm]];exact u
   ·rw[ah b];simp
  ·rw[ah (show ¬(j:Int)<x.o by omega)];simp
theorem St0.ox(h:St0 x t fr B S L):W.rl (bN x t S L) 6=none:=by
 show W.fstO x.o (W.r7k (bN x t S L))=none
 refine W.fstO_ok fun a ha=>W.r7k_good (fun i hi=>?_) (fun i hi _=>h.hz a ha i hi)
 have hi:i<t.m.n/2 ^ (a+1):=hi;show aE (t.m.wd a) i=(W.isF (t.m.pg (i*2 ^ (a+1))) (a:Int) != W.isF (t.m.pg (i*2 ^ (a+1)+2 ^ a)) (a:Int))
 have hl:=W.half_lt hi;have hp:=ax a;rw[h.sd.bt a ha i hi,h.fy (by omega) (by omega),h.fy hl (by omega)];rw[show i*2 ^ (a+1)=2*i*2 ^ a by rw[co,aq 2 i,cy,aq 2],show(2*i+1)*2 ^ a=2*i*2 ^ a+2 ^ a by rw[av,aL]]
end
theorem DK(p:Pg){i:Nat}(hi:i<256):aE (W.wsP p) i=aJ p i:=by
 unfold aE aJ;have:(W.wsP p).getD (i/64) 0=wP p (i/64):=by
  obtain⟨q,hq⟩:=xe (i/64);rw[<-hq];match q,(show q<4 by omega)with
  | 0,_=>rfl
  | 1,_=>rfl
  | 2,_=>rfl
  | 3,_=>rfl
  | _+4,h=>omega
 rw[this]
theorem TV(l:List Nat):∀ n,l.Nodup->(∀ i∈l,i<n)->aI (fun i=>decide (i ∉ l)) n+l.length=n:=by
 intro n hd hl;have b:∀ n,aI (fun i=>decide (i ∉ l)) n+((List.range n).filter fun i=>decide (i∈l)).length=n:=by
  intro n;induction n with
  | zero=>rfl
  | succ n c=>
   rw[List.range_succ,List.filter_append,ei];by_cases h:n∈l;·have a : [n].filter (fun i=>decide (i∈l))=[n]:=(by simp[h]);rw[lL _ _ (ah (bi h)),a,<-Nat.add_assoc,c];rfl
   ·have a : [n].filter (fun i=>decide (i∈l))=[]:=(by simp[h]);rw[mA _ _ (af h),a,List.length_nil];omega
 have hp:((List.range n).filter fun i=>decide (i∈l)).length=l.length:=by refine List.Perm.length_eq ((List.perm_ext_iff_of_nodup (List.nodup_range.filter _) hd).2 fun i=>?_);simp only[List.mem_filter,List.mem_range,ci];exact⟨fun h=>h.2,fun h=>⟨hl i h,h⟩⟩
 have:=b n;omega
section
variable {x:Bx} {t:Bt} {fr:Nat->List Nat} {B:Nat->Nat->Nat->Prop} {S:Sb} {L:Nat}
theorem St0.bits(h:St0 x t fr B S L){i k:Nat}(hc:S.c i=some k)(j:Nat)(a:j<256):aE (W.wsP (t.m.pg i)) j=decide (j<aF k/\j ∉ S.fl i):=by rw[DK _ a];exact(h.si.pg i k hc).2.bt j a
theorem St0.ju(h:St0 x t fr B S L){i k:Nat}(hc:S.c i=some k):aI (aE (W.wsP (t.m.pg i))) 256=aF k-(S.fl i).length:=by
 obtain⟨f,-⟩:=h.si.pg i k hc;have l:=cV f;have e:=TV (S.fl i) (aF k) (h.si.fl i k hc).1 (h.si.fl i k hc).2.1;have a:aI (aE (W.wsP (t.m.pg i))) (aF k+(256-aF k))=aI (aE (W.wsP (t.m.pg i))) (aF k):=W.cntB_cut _ _ _ fun j g n=>by rw[h.bits hc j (by omega),ah];omega
 rw[show aF k+(256-aF k)=256 by omega] at a;rw[a,uF _ (fun d=>decide (d ∉ S.fl i)) (aF k) fun j b=>by rw[h.bits hc j (by omega)];simp[b]];omega
theorem St0.ly(h:St0 x t fr B S L){i:Nat}(hi:i<t.m.n):W.ok5 (t.m.pg i)=true:=by
 rcases h.ew hi with ⟨k,a,l,b,c⟩|⟨a,g,p,k,hb,l,b,c,d⟩
 ·rw[W.ok5_iff (t.m.pg i) (h.me i hi) k b.cl b.kd,b.lv,h.ju a];have:=h.lv i k a;refine⟨⟨by omega,rfl⟩,fun j f e=>?_⟩;rw[h.bits a j e,ah];have:aF k<=j:=f;omega
 ·unfold W.ok5;rw[d,ah]
  ·rfl
  ·show ¬(if i=p then (g:Int) else (g:Int)+1)=4
   split <;> omega
theorem St0.o4(h:St0 x t fr B S L):W.rl (bN x t S L) 4=none:=W.fst1_ok fun i hi=>h.ly hi
theorem St0.o5(h:St0 x t fr B S L):∃ r,W.Sn9 (bN x t S L) x.o r:=by have:=W.sn9_of h.nr h.nz h.ou;rwa [show(bN x t S L).ord.toNat=x.o from aa _] at this
theorem St0.mz(h:St0 x t fr B S L):W.rl (bN x t S L) 10=none:=by
 refine W.fst1_ok fun i hi=>?_
 have hi:i<t.m.n:=hi;unfold W.ok11;show(!(decide ((t.m.pg i).kd=4) && decide ((t.m.pg i).lv=(W.celN9 (t.m.pg i).cl.toNat:Int))) || (decide ((t.m.pg i).nx = -1) && decide ((t.m.pg i).pv = -1)))=true
 rcases h.ew hi with ⟨k,d,c,a,f⟩|⟨d,g,p,k,hb,c,a,f,j⟩
 ·by_cases e:S.fl i=[]
  ·have b:i ∉ S.pl k:=fun l=>((h.si.pm k c i).1 l).2 e
   rw[a.nx,a.pv,sT b,oR b];simp
  ·have hl : 0<(S.fl i).length:=List.length_pos_iff.2 e;have o:=h.si.lv i k d;have b:=cV c;rw[a.lv,a.cl,aa,ah (show ¬((aF k-(S.fl i).length:Nat):Int)=((W.celN9 k:Nat):Int)from fun e=>by
    have e:aF k-(S.fl i).length=aF k:=Int.ofNat.inj e;omega)]
   simp
 ·rw[j,ah]
  ·rfl
  ·show ¬(if i=p then (g:Int) else (g:Int)+1)=4
   split <;> omega
theorem zkr{α : Type}[DecidableEq α]{dec : α->Option Nat}{nil : α}{ez bk:Nat->α}{S:Nat->Bool}{n i:Nat}{p b : α}(h:dec p=some i):W.refL dec nil ez bk S (n+1) p b=(S i && (decide (bk i=b) && W.refL dec nil ez bk S n (ez i) p)):=by rw[W.refL,h]
theorem wJ{α : Type}[DecidableEq α]{dec : α->Option Nat}{nil : α}{ez bk:Nat->α}{P:Nat->Bool}(cod:Nat->α)(a:List Nat)(b:∀ i∈a,dec (cod i)=some i)(f:∀ i∈a,P i=true)(c:∀ j,j<a.length->ez (a.getD j 0)=if j+1<a.length then cod (a.getD (j+1) 0) else nil) (hb:∀ j,j<a.length->bk (a.getD j 0)=if j=0 then nil else cod (a.getD (j-1) 0)):∀ d j,j+d=a.length->W.refL dec nil ez bk P d (if j<a.length then cod (a.getD j 0) else nil) (if j=0 then nil else cod (a.getD (j-1) 0))=true
 | 0,j,g=>by rw[ac (by omega)];exact af rfl
 | d+1,j,g=>by
  have e:a.getD j 0∈a:=by rw[ai,bo (by omega)];exact List.getElem_mem _
  rw[ae (by omega),zkr (b _ e),f _ e,hb j (by omega),af rfl,c j (by omega),bf,bf];have:=wJ cod a b f c hb d (j+1) (by omega);rwa [ac (by omega:¬j+1=0),eh] at this
theorem DJ{I:W.Img}{P:Pg->Bool}{a:List Nat}(hd:a.Nodup)(h:∀ i,i∈a↔i<I.np/\P (I.pg i)=true):(W.pgL I P).length=a.length:=
 List.Perm.length_eq ((List.perm_ext_iff_of_nodup (W.pgL_nodup I P) hd).2 fun i=>by rw[W.pgL_mem];exact(h i).symm)
theorem oY(f:Nat->Nat)(l:List Nat)(j:Nat)(a:j<l.length):(l.map f).getD j 0=f (l.getD j 0):=by simp[bo a]
theorem St0.o7(h:St0 x t fr B S L):W.rl (bN x t S L) 7=none:=by
 show W.fst1 ((x.o:Int).toNat+1) (W.ok8 (bN x t S L))=none
 rw[aa];refine W.fst1_ok fun k l=>?_
 obtain⟨r,hS⟩:=h.o5;have l:k<=x.o:=by omega
 have hc:=h.sd.ch k l;have c:∀ i∈fr k,i<t.m.n:=fun i hi=>by have:=h.sd.al _ _ _ ((h.sd.fi i k).2 ⟨l,hi⟩);have:=ax k;omega
 have b:∀ i,i∈fr k↔i<t.m.n/\W.isF (t.m.pg i) (k:Int)=true:=fun i=>by
  constructor;·intro hi;exact⟨c i hi,by rw[h.fy (c i hi) l];exact af hi⟩
  ·rintro ⟨y,v⟩;rw[h.fy y l] at v;exact bw v
 have u:(fr k).Nodup:=(List.pairwise_map.1 hc.nodup).imp fun q e=>q (by rw[e])
 rw[W.ok8_eq hS,DJ (I:=bN x t S L) (P:=fun p=>W.isF p (k:Int)) u b];have g:((fr k).map (ad x)).length=(fr k).length:=List.length_map _;have a:=wJ (dec:=W.decP (bN x t S L)) (nil:=0) (ez:=fun i=>M.word t.f (4096*i)) (bk:=fun i=>M.word t.f (4096*i+8)) (P:=fun i=>W.isF (t.m.pg i) (k:Int)) (ad x) (fr k) ?_ ?_ ?_ ?_ (fr k).length 0 (by omega)
 ·rw[ae rfl] at a;show W.refL _ 0 _ _ _ _ (((List.range (x.o+1)).map t.hd).getD k 0) 0=true
  have A:((List.range (x.o+1)).map t.hd).getD k 0=t.hd k:=by simp[show k<x.o+1 by omega]
  rw[A,hc.head];by_cases e : 0<(fr k).length;·rw[ae e] at a;rw[oY _ _ 0 e];exact a
  ·rw[ac e] at a;have:fr k=[]:=bq (by omega);rw[this] at a ⊢;exact a
 ·intro i hi;have hl:=c i hi;have z:=h.st;unfold W.decP;show(if x.bS<=ad x i/\ad x i-x.bS<x.n/\(ad x i-x.bS)%4096=0 then some ((ad x i-x.bS)/4096) else none)=some i
  unfold ad;rw[ae ⟨by omega,by omega,by omega⟩];congr 1
  omega
 ·intro i hi;exact((b i).1 hi).2
 ·intro j d;have:=hc.ez j (by rw[g];exact d);rw[oY _ _ j d] at this;unfold M.nx ad at this;rw[Nat.add_sub_cancel_left] at this;rw[this];by_cases e:j+1<(fr k).length
  ·rw[ae e];exact oY _ _ _ e
  ·rw[ac e,ai,dj (by rw[List.length_map];omega)];rfl
 ·intro j d;have:=hc.jt j (by rw[g];exact d);rw[oY _ _ j d] at this;unfold M.pv ad at this;rw[show x.bS+4096*(fr k).getD j 0+8-x.bS=4096*(fr k).getD j 0+8 by omega] at this;rw[this];by_cases e:j=0
  ·rw[ae e,ae e]
  ·rw[ac e,ac e];exact oY _ _ _ (by omega)
end
theorem vJ:∀ (l:List Nat),l.Nodup->∀ j,j<l.length->bE l (l.getD j 0)=if j+1<l.length then ((l.getD (j+1) 0:Nat):Int) else -1
 | [],_,j,c=>by simp at c
 | a :: l,hd,0,_=>by
  show(if a=a then bB l else _)=_
  rw[ae rfl]
  cases l with
  | nil=>rfl
  | cons b l=>rw[ae (by simp)];rfl
 | a :: l,hd,j+1,c=>by
  rw[dr] at hd;have c:j<l.length:=by simpa using c
  have d:l.getD j 0∈l:=by rw[ai,bo c];exact List.getElem_mem _
  show(if a=l.getD j 0 then bB l else bE l (l.getD j 0))=if j+1+1<l.length+1 then ((l.getD (j+1) 0:Nat):Int) else -1
  rw[ac (fun e=>hd.1 (by rw[e];exact d)),vJ l hd.2 j c];by_cases e:j+1<l.length;·rw[ae e,ae (by omega)]
  ·rw[ac e,ac (by omega)]
theorem vI:∀ (l:List Nat),l.Nodup->∀ j,j<l.length->bH l (l.getD j 0)=if j=0 then -1 else ((l.getD (j-1) 0:Nat):Int)
 | [],_,j,c=>by simp at c
 | a :: l,hd,0,_=>by
  rw[dr] at hd;show(if bB l=(a:Int) then (a:Int) else bH l a)=_
  rw[ac (fun e=>hd.1 (oS e)),ae rfl];exact oR hd.1
 | a :: l,hd,j+1,c=>by
  rw[dr] at hd;have c:j<l.length:=by simpa using c
  show(if bB l=((l.getD j 0:Nat):Int) then (a:Int) else bH l (l.getD j 0))=_
  rw[ac (by omega:¬j+1=0),eh]
  cases j with
  | zero=>
   cases l with
   | nil=>simp at c
   | cons b l=>exact ae rfl
  | succ j=>
   rw[ac,vI l hd.2 (j+1) c,ac (by omega),eh];·rfl
   ·intro e
    cases l with
    | nil=>simp at c
    | cons b l=>
     have e:(b:Int)=((l.getD j 0:Nat):Int):=e;have d:=(dr.1 hd.2).1;have c:j<l.length:=(by simpa using c);apply d
     rw[show b=l.getD j 0 by omega,ai,bo c];exact List.getElem_mem _
def oH(nx:Nat->Option Int):List Nat->Prop
 | []=>True
 | i :: r=>nx i=some (bB r)/\oH nx r
theorem JZ{nx:Nat->Option Int} : ∀ (fl l:List Nat),l.Nodup->fl.Nodup->(∀ i,i∈l↔i∈fl)->oH nx fl->W.prg9 nx (l.length+1) l (bB fl)=true
 | [],l,_,_,b,_=>by
  have:l=[]:=List.eq_nil_iff_forall_not_mem.2 fun i hi=>by simpa using (b i).1 hi
  subst this;exact W.prg9_end
 | i :: r,l,hd,hf,b,hl=>by
  rw[dr] at hf;have hi:i∈l:=(b i).2 aw;show W.prg9 nx (l.length+1) l (i:Int)=true
  rw[W.prg9_yes hi hl.1];refine JZ r (l.erase i) (hd.erase i) hf.2 (fun j=>?_) hl.2;rw[hd.mem_erase_iff,b j,eg];constructor
  ·rintro ⟨c,a|a⟩
   ·exact absurd a c
   ·exact a
  ·intro a;exact⟨fun e=>hf.1 (by rw[<-e];exact a),.inr a⟩
section
variable {x:Bx} {t:Bt} {fr:Nat->List Nat} {B:Nat->Nat->Nat->Prop} {S:Sb} {L:Nat}
theorem St0.o2(h:St0 x t fr B S L):W.rl (bN x t S L) 9=none:=by
 refine W.fst1_ok fun k v=>?_
 have o:=h.si.pn k v;have b:∀ i,i∈S.pl k↔i<t.m.n/\W.prS (k:Int) (t.m.pg i)=true:=fun i=>by
  rw[h.si.pm k v i];unfold W.prS;constructor
  ·rintro ⟨q,z⟩;obtain⟨-,d⟩:=h.si.pg i k q;have:=h.sd.al _ _ _ (h.ij q);have hl : 0<(S.fl i).length:=List.length_pos_iff.2 z;have J:=h.si.lv i k q;refine⟨by simp at this;omega,?_⟩;rw[d.kd,d.cl,d.lv,aa,ah (show ¬((aF k-(S.fl i).length:Nat):Int)=((W.celN9 k:Nat):Int)from fun e=>by
    have e:aF k-(S.fl i).length=aF k:=Int.ofNat.inj e;have N:=cV v;omega)]
   simp
  ·rintro ⟨hi,hp⟩;simp only[bu,ci,Bool.not_eq_true'] at hp;obtain⟨y,G,A⟩:=hp;rcases h.ew hi with ⟨c,q,z,d,D⟩|⟨q,g,p,R,hb,z,d,D,F⟩
   ·rw[d.cl] at G;have:c=k:=by omega
    subst this;refine⟨q,fun e=>?_⟩;rw[d.lv,d.cl,e,aa] at A;exact of_decide_eq_false A rfl
   ·rw[F] at y;have y:(if i=p then (g:Int) else (g:Int)+1)=4:=y;split at y <;> omega
 rw[W.ok10_eq,DJ (I:=bN x t S L) (P:=W.prS (k:Int)) o b];have u:∀ j,j<(S.pl k).length->SlP S ((S.pl k).getD j 0) k (t.m.pg ((S.pl k).getD j 0)):=fun j f=>by
  have C:(S.pl k).getD j 0∈S.pl k:=by rw[ai,bo f];exact List.getElem_mem _
  exact(h.si.pg _ k ((h.si.pm k v _).1 C).1).2
 have r:=wJ (dec:=W.dec10 (bN x t S L)) (nil:=(-1:Int)) (ez:=fun i=>(t.m.pg i).nx) (bk:=fun i=>(t.m.pg i).pv) (P:=fun i=>W.prS (k:Int) (t.m.pg i)) (fun i=>(i:Int)) (S.pl k) ?_ ?_ ?_ ?_ (S.pl k).length 0 (by omega)
 ·rw[ae rfl] at r;show W.refL _ (-1) _ _ _ _ (((List.range 8).map fun k=>bB (S.pl k)).getD k 0) (-1)=true
  have K:((List.range 8).map fun k=>bB (S.pl k)).getD k 0=bB (S.pl k):=by simp[v]
  rw[K];have E:bB (S.pl k)=if 0<(S.pl k).length then (((S.pl k).getD 0 0:Nat):Int) else -1:=by
   cases S.pl k with
   | nil=>rfl
   | cons a l=>rw[ae (by simp)];rfl
  rw[E];exact r
 ·intro i hi;unfold W.dec10;have hl:=((b i).1 hi).1;show(if 0<=(i:Int)/\(i:Int)<t.m.n then some (i:Int).toNat else none)=some i
  rw[ae ⟨by omega,by omega⟩,aa]
 ·intro i hi;exact((b i).1 hi).2
 ·intro j f;show(t.m.pg ((S.pl k).getD j 0)).nx=_
  rw[(u j f).nx];exact vJ _ o j f
 ·intro j f;show(t.m.pg ((S.pl k).getD j 0)).pv=_
  rw[(u j f).pv];exact vI _ o j f
theorem St0.nS(h:St0 x t fr B S L){g k:Nat}(c:k<8):∀ l:List Nat,(∀ i∈l,i<aF k)->mI x t.f g k l->oH (W.nx9 (bN x t S L) g k) l
 | [],_,_=>trivial
 | i :: r,hl,b=>by
  refine⟨?_,h.nS c r (fun j a=>hl j (dq _ a)) b.2⟩;have e:=b.1;have hb:=h.sd.b1;have hc:=cV c;unfold W.nx9;show(if M.word t.f (4096*g+i*aB k)=0 then some (-1) else if x.bS+g*4096<=M.word t.f (4096*g+i*aB k)/\M.word t.f (4096*g+i*aB k)-(x.bS+g*4096)<4096/\(M.word t.f (4096*g+i*aB k)-(x.bS+g*4096))%aB k=0 then some (((M.word t.f (4096*g+i*aB k)-(x.bS+g*4096))/aB k:Nat):Int) else none)=some (bB r)
  rw[e]
  cases r with
  | nil=>exact ae rfl
  | cons j o=>
   have a:=hl j (by simp);have m:(j+1)*aB k<=aF k*aB k:=ak _ a;rw[hc.1,av,aL] at m;have hs : 0<aB k:=Nat.mul_pos (by decide) (ax k);show(if aM x g k j=0 then _ else if x.bS+g*4096<=aM x g k j/\aM x g k j-(x.bS+g*4096)<4096/\(aM x g k j-(x.bS+g*4096))%aB k=0 then some (((aM x g k j-(x.bS+g*4096))/aB k:Nat):Int) else none)=some (j:Int)
   have d:aM x g k j-(x.bS+g*4096)=j*aB k:=(by unfold aM;omega);have n:x.bS+g*4096<=aM x g k j:=(by unfold aM;omega);rw[d,ac (by omega),ae ⟨n,by omega,Nat.mul_mod_left _ _⟩,dh _ hs]
theorem St0.pf(h:St0 x t fr B S L):W.rl (bN x t S L) 8=none:=by
 refine W.fst1_ok fun i hi=>?_
 have hi:i<t.m.n:=hi;unfold W.ok9;rcases h.ew hi with ⟨k,a,d,f,r⟩|⟨a,g,p,k,hb,d,f,r,v⟩
 ·show(!decide ((t.m.pg i).kd=4) || W.ok9c (bN x t S L) i (t.m.pg i).cl.toNat)=true
  rw[f.cl,aa];have:W.ok9c (bN x t S L) i k=true:=by
   unfold W.ok9c;show W.prg9 (W.nx9 (bN x t S L) i k) ((W.frL (t.m.pg i) (aF k)).length+1) (W.frL (t.m.pg i) (aF k)) (t.m.pg i).fs=true
   rw[f.fs];obtain⟨y,l,u⟩:=h.si.fl i k a;have z:=cV d;refine JZ (S.fl i) _ (List.nodup_range.filter _) y (fun j=>?_) (h.nS d _ l u);simp only[W.frL,List.mem_filter,List.mem_range,Bool.not_eq_true'];constructor;·rintro ⟨q,o⟩;rw[h.bits a j (by omega)] at o;exact ed.1 fun b=>of_decide_eq_false o ⟨q,b⟩
   ·intro c;refine⟨l j c,?_⟩;rw[h.bits a j (by have:=l j c;omega)];exact ah fun e=>e.2 c
  rw[this];simp
 ·show(!decide ((t.m.pg i).kd=4) || _)=true
  rw[v,ah];·rfl
  ·show ¬(if i=p then (g:Int) else (g:Int)+1)=4
   split <;> omega
theorem St0.sound(h:St0 x t fr B S L):W.chk (bN x t S L)=(0,0):=by
 refine W.chk_ok fun a ha=>?_
 match a,ha with
 | 0,_=>exact h.nr
 | 1,_=>exact h.nz
 | 2,_=>exact h.ou
 | 3,_=>exact h.o9
 | 4,_=>exact h.o4
 | 5,_=>exact h.pd
 | 6,_=>exact h.ox
 | 7,_=>exact h.o7
 | 8,_=>exact h.pf
 | 9,_=>exact h.o2
 | 10,_=>exact h.mz
end
end Go.Proofs.YtfmgnljlkdmndaaGreatDoor
