import Derived.Test.YtfmgnljlkdmndaaGreatDoorZd
set_option maxRecDepth 1000000
set_option maxHeartbeats 0
namespace Go.Proofs.YtfmgnljlkdmndaaGreatDoor
open Tryz RowKit
set_option linter.unusedVariables false
def jF(n:Nat)(ws:List Nat)(k a x:Nat):Prop:=
 (∀ p,p<64->(x/2 ^ p%2 == 1)=(decide (k<=64*a+p) && aE ws (64*a+p)))/\(∀ j,k<=j->j<64*a->aE ws j=false)/\k<64*(a+1)
theorem jF.start(n:Nat)(ws:List Nat)(k:Nat):jF n ws k (k/64) (ws.getD (k/64) 0/2 ^ (k%64)*2 ^ (k%64)%2 ^ 64):=by
 refine⟨?_,fun j a b=>by omega,by omega⟩;intro p hp;rw[zjc _ _ _ hp,xC _ _ _ hp];by_cases h:k%64<=p
 ·have:k<=64*(k/64)+p:=by omega
  simp[h,this]
 ·have:¬k<=64*(k/64)+p:=by omega
  simp[h,this]
theorem zkv(x:Nat)(p:Nat)(h:x=0):(x/2 ^ p%2 == 1)=false:=by subst h;simp
theorem jF.step{n:Nat}{ws:List Nat}{k a x:Nat}(h:jF n ws k a x)(hx:x=0):(∀ j,k<=j->j<64*(a+1)->aE ws j=false):=by
 intro j b f;by_cases d:j<64*a;·exact h.2.1 j b d
 ·have c:=h.1 (j-64*a) (by omega);have e : 64*a+(j-64*a)=j:=by omega
  rw[zkv x _ hx,e,af b,bf] at c;exact c.symm
theorem jF.next{n:Nat}{ws:List Nat}{k a x:Nat}(h:jF n ws k a x)(hx:x=0):jF n ws k (a+1) (ws.getD (a+1) 0):=by
 have b:=h.2.2;refine⟨?_,h.step hx,by omega⟩;intro p hp;have:k<=64*(a+1)+p:=by omega
 rw[xC _ _ _ hp,af this,bf]
theorem jF.oh{w:Wd}{b c n:Nat}{ws:List Nat}{k a x:Nat}(hs:SetAt w b c n ws)(h:jF n ws k a x)(hx:x≠0)(f:x<2 ^ 64):∃ p,p<64/\x &&& (2 ^ 64-x)=2 ^ p/\bI n ws k=((64*a+p:Nat):Int):=by
 obtain⟨p,hp,m,q,r⟩:=zlc x hx f;refine⟨p,hp,r,?_⟩;have hb:=h.1 p hp;rw[m] at hb;simp only[beq_self_eq_true] at hb;have d:=hb.symm;rw[bu,ci] at d;refine zjd n ws k _ ?_ d.1 d.2 ?_
 ·rcases du (64*a+p) n with g|g
  ·exact g
  ·rw[hs.gc _ g] at d;cases d.2
 ·intro i j s;by_cases o:i<64*a
  ·exact h.2.1 i j o
  ·have l:=h.1 (i-64*a) (by omega);have e : 64*a+(i-64*a)=i:=(by omega);rw[q _ (by omega),e,af j,bf] at l;exact l.symm
theorem YL(b c n:Nat)(ws:List Nat)(k:Nat)(w:Wd)(h:SetAt w b c n ws)(jw:k<=9223372036854775807):Calls prog 92 #[.pointer (some ⟨b,0,none⟩),.int .i64 k] w fun e L=>e=.returned (.int .i64 (bI n ws k))/\L=w:=by
 by_cases hk:k<n
 ·have hl:=h.len;have hn:=h.fk;have a0:ws.length<=1048576:=by omega
  have hd:aD n (k:Int)=true:=by simp only[aD];exact af (by omega)
  obtain⟨q,hq⟩:=xe (k/64);obtain⟨r,hr⟩:=xe (k%64);have f:=jF.start n ws k;rw[<-hq,<-hr] at f;have F:q<ws.length:=by omega
  have I:r<64:=by omega
  have K:=h.cc q F;have J:=h.gk q;have h1:=h.ja;obtain⟨x,hx⟩:=xe (ws.getD q 0);rw[<-hx] at K J f;have R:(k:Int)/64=(q:Int):=by omega
  have P:(k:Int)%64=(r:Int):=by omega
  obtain⟨y,hy⟩:=xe (x/2 ^ r*2 ^ r%2 ^ 64);rw[<-hy] at f;have D:y<2 ^ 64:=by rw[hy];exact Nat.mod_lt _ (by decide)
  have Q:IntKind.u64.wrap ((x:Int)/2 ^ r*2 ^ r)=(y:Int):=by rw[wrap_u64,hy,wC];simp
  have G:=aA h;have v:=aA f;have T:k<=1048576:=by omega
  clear f h hx hy hq hr hk hl;go_enter func92,ntmps92;go_wp2_with (go_at_call 150;refine(lV b c n ws _ _ G.o).mono ?_;rintro e L ⟨rfl,rfl⟩)
  go_loop [5,6] (fun at_ wd=>∃ a z:Nat,a<ws.length/\z<18446744073709551616/\at_=.int .i64 a/\wd=.int .u64 z/\Hd (jF n ws k a z)) (fun at_ _=>ws.length-(intOf at_).toNat)
  case atStart=>exact⟨q,y,F,D,rfl,rfl,v⟩
  case round=>
   obtain⟨a,z,ha,hz,rfl,rfl,d⟩:=hrel;have A:=aA G.o.len;clear K J v Q R P I;by_cases h0:z=0
   ·by_cases he:a+1=ws.length
    ·have s:((a:Int)+1 == (ws.length:Int))=true:=(by rw[cu];omega);have e:=aA (tU n ws k (fun j g1 g2=>d.o.step h0 j g1 (by have:=A.o;omega)));subst h0;clear he;go_wp2
     go_ret;exact⟨dX e.o.symm,rfl⟩
    ·obtain⟨l,o⟩:=xe (a+1);have i:l<ws.length:=(by omega);have a4:(a:Int)+1=(l:Int):=(by omega);have s:((l:Int) == (ws.length:Int))=false:=(by rw[ag];omega);have S:=G.o.cc l i;have B:=G.o.gk l;have g:=d.o.next h0;rw[<-o] at g;obtain⟨z1,C⟩:=xe (ws.getD l 0);rw[<-C] at S B g;have HN:=aA g;subst h0;have N:=aA o;clear he g C o;go_wp2
     go_round
     case rel=>exact⟨l,z1,i,B,rfl,rfl,HN⟩
     case measure=>(have:=N.o);(simp[intOf]);omega
   ·obtain⟨p,hp,V,Z⟩:=d.o.oh G.o h0 hz;obtain⟨m,X⟩:=xe (2 ^ 64-z);have Y:IntKind.u64.wrap (-(z:Int))=(m:Int):=(by rw[wrap_u64];omega);obtain⟨t,s⟩:=xe (2 ^ p);have u:t<2 ^ 64:=(by rw[s];exact(iG p 64).2 hp);have U:bits BinOp.and IntKind.u64 (z:Int) (m:Int)=t:=by
     rw[u64_and_nat z m hz (by omega),s,<-V,X]
    have a3:lg t=(p:Int):=by rw[oN t (by have:=ax p;omega),s,Nat.log2_two_pow]
    have a2:((z:Int) == 0)=false:=(by rw[ag];omega);have E:=aA Z;clear V Z X s h0;go_wp2_with (go_at_call 116;refine(pV t u _).mono ?_;rintro e L ⟨rfl,rfl⟩)
    go_ret;exact⟨dX (by rw[E.o];omega),rfl⟩
 ·have hd:aD n (k:Int)=false:=by simp only[aD];exact ah (by omega)
  have e:=aA (tU n ws k (fun j h1 h2=>by omega));clear hk;go_enter func92,ntmps92;go_wp2_with (go_at_call 150;refine(lV b c n ws _ _ h).mono ?_;rintro e L ⟨rfl,rfl⟩)
  go_ret;exact⟨dX e.o.symm,rfl⟩
theorem YJ(b c n:Nat)(ws:List Nat)(i:Int)(w:Wd)(h:SetAt w b c n ws)(hi:i<0):Calls prog 92 #[.pointer (some ⟨b,0,none⟩),.int .i64 i] w fun e G=>e=.returned (.int .i64 (bI n ws 0))/\G=w:=by
 by_cases hk : 0<n
 ·have hl:=h.len;have hn:=h.fk;have a0:ws.length<=1048576:=by omega
  have hd:aD n 0=true:=by simp only[aD];exact af (by omega)
  have g:=jF.start n ws 0;have F : 0<ws.length:=by omega
  have B:=h.cc 0 F;have k:=h.gk 0;have T:=h.ja;have R:ws.getD (0/64) 0/2 ^ (0%64)*2 ^ (0%64)%2 ^ 64=ws.getD 0 0:=by simp only[Nat.zero_div,Nat.zero_mod,Nat.pow_zero,Nat.div_one,Nat.mul_one];exact Nat.mod_eq_of_lt k
  rw[R] at g;obtain⟨y,hx⟩:∃ x,x=ws.getD 0 0:=⟨_,rfl⟩;rw[<-hx] at B k g;have u:=aA h;have C:=aA g;clear g h hx hk hl R;go_enter func92,ntmps92;go_wp2_with (go_at_call 150;refine(lV b c n ws _ _ u.o).mono ?_;rintro e G ⟨rfl,rfl⟩)
  go_loop [5,6] (fun at_ wd=>∃ a z:Nat,a<ws.length/\z<18446744073709551616/\at_=.int .i64 a/\wd=.int .u64 z/\Hd (jF n ws 0 a z)) (fun at_ _=>ws.length-(intOf at_).toNat)
  case atStart=>exact⟨0,y,F,k,rfl,rfl,C⟩
  case round=>
   obtain⟨a,z,ha,hz,rfl,rfl,d⟩:=hrel;have D:=aA u.o.len;clear B k C;by_cases h0:z=0
   ·by_cases he:a+1=ws.length
    ·have r:((a:Int)+1 == (ws.length:Int))=true:=(by rw[cu];omega);have e:=aA (tU n ws 0 (fun j U g2=>d.o.step h0 j U (by have:=D.o;omega)));subst h0;clear he;go_wp2
     go_ret;exact⟨dX e.o.symm,rfl⟩
    ·obtain⟨q,o⟩:=xe (a+1);have l:q<ws.length:=(by omega);have Z:(a:Int)+1=(q:Int):=(by omega);have r:((q:Int) == (ws.length:Int))=false:=(by rw[ag];omega);have I:=u.o.cc q l;have A:=u.o.gk q;have f:=d.o.next h0;rw[<-o] at f;obtain⟨S,v⟩:=xe (ws.getD q 0);rw[<-v] at I A f;have V:=aA f;subst h0;have J:=aA o;clear he f v o;go_wp2
     go_round
     case rel=>exact⟨q,S,l,A,rfl,rfl,V⟩
     case measure=>(have:=J.o);(simp[intOf]);omega
   ·obtain⟨p,hp,P,Q⟩:=d.o.oh u.o h0 hz;obtain⟨m,K⟩:=xe (2 ^ 64-z);have L:IntKind.u64.wrap (-(z:Int))=(m:Int):=(by rw[wrap_u64];omega);obtain⟨t,r⟩:=xe (2 ^ p);have s:t<2 ^ 64:=(by rw[r];exact(iG p 64).2 hp);have N:bits BinOp.and IntKind.u64 (z:Int) (m:Int)=t:=by
     rw[u64_and_nat z m hz (by omega),r,<-P,K]
    have Y:lg t=(p:Int):=by rw[oN t (by have:=ax p;omega),r,Nat.log2_two_pow]
    have X:((z:Int) == 0)=false:=(by rw[ag];omega);have E:=aA Q;clear P Q K r h0;go_wp2_with (go_at_call 116;refine(pV t s _).mono ?_;rintro e G ⟨rfl,rfl⟩)
    go_ret;exact⟨dX (by rw[E.o];omega),rfl⟩
 ·have hd:aD n 0=false:=by simp only[aD];exact ah (by omega)
  have e:=aA (tU n ws 0 (fun j T h2=>by omega));clear hk;go_enter func92,ntmps92;go_wp2_with (go_at_call 150;refine(lV b c n ws _ _ h).mono ?_;rintro e G ⟨rfl,rfl⟩)
  go_ret;exact⟨dX e.o.symm,rfl⟩
theorem wD(b c n:Nat)(ws:List Nat)(i:Int)(d:i<=9223372036854775807)(w:Wd)(h:SetAt w b c n ws):Calls prog 92 #[.pointer (some ⟨b,0,none⟩),.int .i64 i] w fun e a=>e=.returned (.int .i64 (ez n ws i))/\a=w:=by
 by_cases hi:i<0
 ·have e:ez n ws i=bI n ws 0:=by unfold ez;rw[show i.toNat=0 by omega]
  rw[e];exact YJ b c n ws i w h hi
 ·obtain⟨k,rfl⟩:=au (by omega : 0<=i);have e:ez n ws (k:Int)=bI n ws k:=by unfold ez;rw[aa]
  rw[e];exact YL b c n ws k w h (by omega)
namespace W
def KW(w:Wd):Type:={ W:Wd // Kt nO w W }
def KW.v{w:Wd}(x:KW w):Wd:=x.1
theorem KW.k{w:Wd}(x:KW w):Kt nO w x.v:=x.2
instance (w:Wd):Nonempty (KW w):=⟨⟨w,Kt.refl _ _⟩⟩
theorem cR{P:Program}{id:Nat}{Q:Exit->Act->Wd->Prop}{a:Act}{w:Wd}{l:List Oper}(d:P.follows .mixedOrders=true)(c:Region.lexB .any l.toArray=true)(h:wpQuiet P l.toArray (fun b=>∃ x:KW w,b=x.v) (fun a'=>∀ x:KW w,Q .normal a' x.v) l a):(Code.region id l.toArray true).wp P Q a w:=by
 refine wp_region_quiet (C:=fun b=>∃ x:KW w,b=x.v) d c ⟨⟨w.drew,(Kt.refl _ w).drew⟩,rfl⟩ ?_;have e:(fun a'=>∀ b,(∃ x:KW w,b=x.v)->Q .normal a' b)=(fun a'=>∀ x:KW w,Q .normal a' x.v):=by
  funext a'
  exact propext ⟨fun h x=>h _ ⟨x,rfl⟩,fun h b ⟨x,hx⟩=>hx▸h x⟩
 rw[e];simpa using h
theorem Calls.ek{P:Program}{f:FuncId}{args:Array Vl}{w:Wd}{x:KW w}{v:Vl}(h:Calls P f args x.v fun e c=>e=.returned v/\Kt nO x.v c):Calls P f args x.v fun e a=>e=.returned v/\∃ y:KW w,a=y.v:=
 h.mono fun _ b ⟨he,hk⟩=>⟨he,⟨b,nT x.k hk⟩,rfl⟩
abbrev cE(p:Int):Ending:=.panicked [{ v:=.iface 189 (.int .i64 p),recovered:=false }]
def bG:Option Nat->Ending
 | none=>.returned (.tuple #[])
 | some p=>cE (p:Int)
theorem dC(p:Int)(w:Wd):Calls prog 185 #[.bool true,.int .i64 p] w fun e a=>e=.returned (.tuple #[])/\a=w:=by
 go_enter func185,ntmps185;go_wp2
 first|go_end0|go_ret
 exact⟨rfl,rfl⟩
theorem dW(p:Int)(w:Wd):Calls prog 185 #[.bool false,.int .i64 p] w fun e a=>e=cE p/\a=w:=by
 go_enter func185,ntmps185;go_wp2
 exact⟨rfl,rfl,rfl⟩
theorem zie(a:Array Vl)(w:Wd):Sem.run prog (callFunc 185 a) w=.ok (.enter 185 a) w:=by simp[callFunc,go_sem,func185];rfl
def wiB(x a b:Int):Bool:=decide (a<=x/\x<=b)
theorem iJ(x a b:Int)(w:Wd):Calls prog 187 #[.int .i64 x,.int .i64 a,.int .i64 b] w fun e c=>e=.returned (.bool (wiB x a b))/\c=w:=by
 by_cases h:a<=x
 ·go_enter func187,ntmps187;go_wp2
  go_ret;exact⟨cN (by simp[wiB,h]),rfl⟩
 ·go_enter func187,ntmps187;go_wp2
  go_ret;exact⟨cN (ah (by omega)).symm,rfl⟩
structure Img where
 bS:Nat
 dl:Int
 ord:Int
 ep:Int
 nm:Nat
 mem:Nat->Nat
 np:Nat
 pg:Nat->Pg
 no:Nat
 pr:Nat->List Nat
 hd:List Nat
 pt:List Int
structure ImV where
 m:Vl
 p:Vl
 r:Vl
 h:Vl
 t:Vl
abbrev N64(x:Int):Prop := -9223372036854775808<=x/\x<=9223372036854775807
def PgC(w:Wd)(bl o i:Nat)(p:Pg):Prop:=∀ j,j<11->w.cell? ⟨bl,o+i*11+j,none⟩=some (p.es j)
structure PgIn(p:Pg):Prop where
 kd:N64 p.kd
 od:N64 p.od
 cl:N64 p.cl
 lv:N64 p.lv
 nx:N64 p.nx
 pv:N64 p.pv
 fs:N64 p.fs
 b0:p.b0<18446744073709551616
 b1:p.b1<18446744073709551616
 b2:p.b2<18446744073709551616
 b3:p.b3<18446744073709551616
def SlIn(w:Wd)(v:Vl)(n:Nat)(C:Nat->Nat->Nat->Prop):Prop:=
 n<=9223372036854775807/\∃ oa oc,v=.slice oa n oc/\(n=0\/∃ bl o,oa=some ⟨bl,o,none⟩/\bl<w.heap.size/\∀ i,i<n->C bl o i)
def ByC(w:Wd)(f:Nat->Nat)(bl o i:Nat):Prop:=f i<256/\w.cell? ⟨bl,o+i,none⟩=some (.int .u8 (f i:Int))
def InC(w:Wd)(l:List Int)(bl o i:Nat):Prop:=N64 (l.getD i 0)/\w.cell? ⟨bl,o+i,none⟩=some (.int .i64 (l.getD i 0))
def WdC(w:Wd)(l:List Nat)(bl o i:Nat):Prop:=l.getD i 0<18446744073709551616/\w.cell? ⟨bl,o+i,none⟩=some (.int .u64 ((l.getD i 0:Nat):Int))
structure ImD(w:Wd)(I:Img)(V:ImV):Prop where
 lj:I.bS<18446744073709551616
 dl:N64 I.dl
 ord:N64 I.ord
 ep:N64 I.ep
 mem:SlIn w V.m I.nm (ByC w I.mem)
 ny:∀ a n c,V.m=.slice a n c->n<=c
 je:SlIn w V.p I.np fun bl o i=>PgIn (I.pg i)/\PgC w bl o i (I.pg i)
 jg:∃ ws:Nat->Vl,SlIn w V.r I.no fun bl o i=>w.cell? ⟨bl,o+i,none⟩=some (ws i)/\Src w (ws i) (I.pr i)
 jr:SlIn w V.h I.hd.length (WdC w I.hd)
 kh:SlIn w V.t I.pt.length (InC w I.pt)
abbrev imO(I:Img)(V:ImV):Obj:=.cells #[.int .u64 I.bS,.int .i64 I.dl,.int .i64 I.ord,.int .i64 I.ep,V.m,V.p,V.r,V.h,V.t] 42 (0,0)
abbrev imA(I:Img)(V:ImV):Vl:=.agg #[.int .u64 I.bS,.int .i64 I.dl,.int .i64 I.ord,.int .i64 I.ep,V.m,V.p,V.r,V.h,V.t]
structure ImAt(w:Wd)(b:Nat)(I:Img)(V:ImV):Prop where
 bx:w.heap[b]?=some (imO I V)
 d:ImD w I V
theorem SlIn.dk{w W:Wd}{v:Vl}{n:Nat}{C D:Nat->Nat->Nat->Prop}(h:SlIn w v n C)(k:Kt nO w W)(c:∀ a o i,C a o i->D a o i):SlIn W v n D:=by
 obtain⟨d,j,g,f,b⟩:=h;refine⟨d,j,g,f,?_⟩;rcases b with b|⟨a,o,e,hl,hc⟩
 ·exact .inl b
 ·exact .inr ⟨a,o,e,bg hl k.size,fun i hi=>c _ _ _ (hc i hi)⟩
theorem PgC.dk{w W:Wd}{a o i:Nat}{p:Pg}(h:PgC w a o i p)(c:Kt nO w W):PgC W a o i p:=fun j b=>c.cell (fun x=>x) (h j b)
theorem ImD.dk{w W:Wd}{I:Img}{V:ImV}(h:ImD w I V)(a:Kt nO w W):ImD W I V:=by refine⟨h.lj,h.dl,h.ord,h.ep,h.mem.dk a fun b o i hc=>⟨hc.1,a.cell (fun x=>x) hc.2⟩,h.ny,h.je.dk a fun b o i hc=>⟨hc.1,hc.2.dk a⟩,?_,h.jr.dk a fun b o i hc=>⟨hc.1,a.cell (fun x=>x) hc.2⟩,h.kh.dk a fun b o i hc=>⟨hc.1,a.cell (fun x=>x) hc.2⟩⟩;obtain⟨ws,hp⟩:=h.jg;exact⟨ws,hp.dk a fun b o i hc=>⟨a.cell (fun x=>x) hc.1,hc.2.kept a (fun _ _ x=>x)⟩⟩
theorem ImAt.dk{w W:Wd}{b:Nat}{I:Img}{V:ImV}(h:ImAt w b I V)(a:Kt nO w W):ImAt W b I V:=
 ⟨(a.block _ (lH h.bx) (fun x=>x)).trans h.bx,h.d.dk a⟩
theorem ImAt.cells{w:Wd}{b:Nat}{I:Img}{V:ImV}(h:ImAt w b I V):w.cell? ⟨b,0,none⟩=some (.int .u64 I.bS)/\w.cell? ⟨b,1,none⟩=some (.int .i64 I.dl)/\w.cell? ⟨b,2,none⟩=some (.int .i64 I.ord)/\w.cell? ⟨b,3,none⟩=some (.int .i64 I.ep)/\w.cell? ⟨b,4,none⟩=some V.m/\w.cell? ⟨b,5,none⟩=some V.p/\w.cell? ⟨b,6,none⟩=some V.r/\w.cell? ⟨b,7,none⟩=some V.h/\w.cell? ⟨b,8,none⟩=some V.t:=by refine⟨?_,?_,?_,?_,?_,?_,?_,?_,?_⟩ <;> simp[World.cell?,h.bx]
theorem ImAt.all{w:Wd}{b:Nat}{I:Img}{V:ImV}(h:ImAt w b I V):(∀ x:KW w,x.v.cell? ⟨b,0,none⟩=some (.int .u64 I.bS))/\(∀ x:KW w,x.v.cell? ⟨b,1,none⟩=some (.int .i64 I.dl))/\(∀ x:KW w,x.v.cell? ⟨b,2,none⟩=some (.int .i64 I.ord))/\(∀ x:KW w,x.v.cell? ⟨b,3,none⟩=some (.int .i64 I.ep))/\(∀ x:KW w,x.v.cell? ⟨b,4,none⟩=some V.m)/\(∀ x:KW w,x.v.cell? ⟨b,5,none⟩=some V.p)/\(∀ x:KW w,x.v.cell? ⟨b,6,none⟩=some V.r)/\(∀ x:KW w,x.v.cell? ⟨b,7,none⟩=some V.h)/\(∀ x:KW w,x.v.cell? ⟨b,8,none⟩=some V.t):=
 ⟨fun x=>(h.dk x.k).cells.1,fun x=>(h.dk x.k).cells.2.1,fun x=>(h.dk x.k).cells.2.2.1,fun x=>(h.dk x.k).cells.2.2.2.1,fun x=>(h.dk x.k).cells.2.2.2.2.1,fun x=>(h.dk x.k).cells.2.2.2.2.2.1,fun x=>(h.dk x.k).cells.2.2.2.2.2.2.1,fun x=>(h.dk x.k).cells.2.2.2.2.2.2.2.1,fun x=>(h.dk x.k).cells.2.2.2.2.2.2.2.2⟩
theorem gN{Q:Exit->Act->Wd->Prop}{o:Oper}{a:Act}{w:Wd}{x y:Operand}{b:Array TypeId}{p:Int}(c:o.op=.call { callee:=.value (.func 185),args:=#[x,y],argTypes:=b })(hx:a.eval x=.bool false) (hy:a.eval y=.int .i64 p) (h:∀ a',a'.defers=a.defers->Q (.panic [{ v:=.iface 189 (.int .i64 p),recovered:=false }]) a' w):gR prog Q o a w:=by
 refine KC zie c ?_;have e:(#[x,y] : Array Operand).map a.eval=#[.bool false,.int .i64 p]:=by simp[hx,hy]
 rw[e];refine(dW p w).mono ?_;rintro e d ⟨rfl,rfl⟩;exact⟨_,rfl,h⟩
def rngB(k np:Int)(p:Pg):Bool:=wiB p.kd 0 4 && (wiB p.od 0 k && (wiB p.cl 0 7 && (wiB p.lv 0 256 && (wiB p.nx (-1) (np-1) && (wiB p.pv (-1) (np-1) && wiB p.fs (-1) 255)))))
abbrev aV(p:Pg):Obj:=.cells #[.int .i64 p.kd,.int .i64 p.od,.int .i64 p.cl,.int .i64 p.lv,.int .i64 p.nx,.int .i64 p.pv,.int .i64 p.fs,.int .u64 p.b0,.int .u64 p.b1,.int .u64 p.b2,.int .u64 p.b3] 97 (0,0)
theorem IK{w:Wd}{g:Nat}{p:Pg}(h:w.heap[g]?=some (aV p)):w.cell? ⟨g,0,none⟩=some (.int .i64 p.kd)/\w.cell? ⟨g,1,none⟩=some (.int .i64 p.od)/\w.cell? ⟨g,2,none⟩=some (.int .i64 p.cl)/\w.cell? ⟨g,3,none⟩=some (.int .i64 p.lv)/\w.cell? ⟨g,4,none⟩=some (.int .i64 p.nx)/\w.cell? ⟨g,5,none⟩=some (.int .i64 p.pv)/\w.cell? ⟨g,6,none⟩=some (.int .i64 p.fs):=by refine⟨?_,?_,?_,?_,?_,?_,?_⟩ <;> simp[World.cell?,h]
theorem ImAt.ew{w:Wd}{b:Nat}{I:Img}{V:ImV}(h:ImAt w b I V)(i:Nat)(hi:i<I.np):∃ a o c,V.p=.slice (some ⟨a,o,none⟩) I.np c/\PgIn (I.pg i)/\PgC w a o i (I.pg i):=by
 obtain⟨j,k,c,g,f⟩:=h.d.je;rcases f with f|⟨a,o,e,hl,hc⟩
 ·omega
 ·subst e;exact⟨a,o,c,g,hc i hi⟩
theorem PgC.c{w:Wd}{a o i:Nat}{p:Pg}(h:PgC w a o i p):w.cell? ⟨a,o+i*11,none⟩=some (.int .i64 p.kd)/\w.cell? ⟨a,o+i*11+1,none⟩=some (.int .i64 p.od)/\w.cell? ⟨a,o+i*11+2,none⟩=some (.int .i64 p.cl)/\w.cell? ⟨a,o+i*11+3,none⟩=some (.int .i64 p.lv)/\w.cell? ⟨a,o+i*11+4,none⟩=some (.int .i64 p.nx)/\w.cell? ⟨a,o+i*11+5,none⟩=some (.int .i64 p.pv)/\w.cell? ⟨a,o+i*11+6,none⟩=some (.int .i64 p.fs)/\w.cell? ⟨a,o+i*11+7,none⟩=some (.int .u64 p.b0)/\w.cell? ⟨a,o+i*11+8,none⟩=some (.int .u64 p.b1)/\w.cell? ⟨a,o+i*11+9,none⟩=some (.int .u64 p.b2)/\w.cell? ⟨a,o+i*11+10,none⟩=some (.int .u64 p.b3):=
 ⟨h 0 (by decide),h 1 (by decide),h 2 (by decide),h 3 (by decide),h 4 (by decide),h 5 (by decide),h 6 (by decide),h 7 (by decide),h 8 (by decide),h 9 (by decide),h 10 (by decide)⟩
theorem zfr(b:Nat)(I:Img)(V:ImV)(w:Wd)(t:ImAt w b I V)(B:I.np<=1024):Calls prog 139 #[.pointer (some ⟨b,0,none⟩)] w fun e Z=>e=bG (fst1 I.np fun i=>rngB I.ord I.np (I.pg i))/\Kt nO w Z:=by
 have F:=aA t;obtain⟨u,oa,oc,v,z⟩:=t.d.je;obtain⟨c0,c1,c2,c3,c4,c5,c6,c7,c8⟩:=t.cells;rw[v] at c5;obtain⟨n,y⟩:=xe (I.np);rw[<-y] at c5 v u B;have A:=aA y;have L:=aA (show ∀ i,i<n->(∀ a,a<i->rngB I.ord I.np (I.pg a)=true)->rngB I.ord I.np (I.pg i)=false->cE (i:Int)=bG (fst1 I.np fun i=>rngB I.ord I.np (I.pg i))from fun i u G z=>by rw[fY (by omega) G z];rfl);have FG:=aA (show(∀ a,a<n->rngB I.ord I.np (I.pg a)=true)->Ending.returned (.tuple #[])=bG (fst1 I.np fun i=>rngB I.ord I.np (I.pg i))from fun u=>by rw[fst1_ok (fun a ha=>u a (by rw[y];exact ha))];rfl);generalize bG (fst1 I.np fun i=>rngB I.ord I.np (I.pg i))=EE at *;have P:=aA v;clear y v t z;go_enter func139,ntmps139;go_wp2_with fail;go_loopw [16] (fun i W=>∃ a:Nat,a<=n/\i=.int .i64 a/\Hd (Kt nO w W/\∀ x,x<a->rngB I.ord I.np (I.pg x)=true)) (fun i _=>n-(intOf i).toNat)
 case atStart=>exact⟨0,az _,rfl,aA ⟨Kt.refl _ _,fun x hx=>by omega⟩⟩
 case round=>
  obtain⟨a,ha,rfl,hR⟩:=hrel;by_cases s:a<n
  ·have E:(a:Int)<n:=(by omega);obtain⟨bl,o,U,r,D,m⟩:=(F.o.dk hR.o.1).ew a (by rw[<-A.o];exact s);rw[P.o] at r;injection r with e1 e2 e3
   subst e1;obtain⟨d0,N,Q,J,X,d5,R,d7,Y,d9,C⟩:=m.c;have l:=aA (show rngB I.ord (n:Int) (I.pg a)=false->cE (a:Int)=EE from fun h=>L.o a s hR.o.2 (by rw[<-A.o];exact h));have S:=aA (show rngB I.ord (n:Int) (I.pg a)=true->∀ x,x<a+1->rngB I.ord I.np (I.pg x)=true from fun h x hx=>by
    by_cases e:x=a;·rw[e,<-A.o];exact h
    ·exact hR.o.2 x (by omega))
   have HW:=aA (show(wr.alloc (aV (I.pg a))).heap[wr.heap.size]?=some (aV (I.pg a))from nH _ _);have k:=aA (show Kt nO wr (wr.alloc (aV (I.pg a)))from(Kt.refl _ _).alloc _);have K:=aA (((F.o.dk hR.o.1).dk k.o).cells.2.2.1);generalize I.pg a=p at *;clear D m e2 e3;go_wp2_with fail;generalize wr.alloc (aV p)=W1 at *;generalize wr.heap.size=g at *;clear d0 N Q J X d5 R d7 Y d9 C c0 c1 c2 c3 c4 c5 c6 c7 c8;obtain⟨p0,p1,p2,p3,p4,p5,p6⟩:=IK HW.o;have c2:=K.o;refine(iJ _ _ _ _).mono ?_;rintro e f ⟨rfl,rfl⟩;go_wp2_with fail
   cases hb0:wiB p.kd 0 4 with
   | false=>refine(dW _ _).mono ?_;rintro e f ⟨rfl,rfl⟩;exact⟨rfl,l.o (by simp[rngB,hb0]),nT hR.o.1 k.o⟩
   | true=>
    refine(dC _ _).mono ?_;rintro e f ⟨rfl,rfl⟩;go_wp2_with fail
    cases hb1:wiB p.od 0 I.ord with
    | false=>
     have j:=aA (fun W=>iJ p.od 0 I.ord W);rw[hb1] at j;refine zcD (by kernel_rfl) (by kernel_rfl) (by exact db _ _) ?_;dsimp only[List.dropLast,List.getLast];repeat (go_big_quiet_step (first|(go_at_call 187;exact Calls.quiet_of_same (j.o _))))
     refine wpQuiet_nil ?_;refine⟨rfl,?_⟩;rintro _ ⟨nq,rfl⟩;exact gN (p:=(a:Int)) rfl rfl rfl fun _ hd=>⟨hd,l.o (by simp[rngB,hb0,hb1]),(nT hR.o.1 k.o).drewN nq⟩
    | true=>
     have j:=aA (fun W=>iJ p.od 0 I.ord W);rw[hb1] at j;have q:=aA (fun W=>dC (a:Int) W);go_quiet (first|(go_at_call 187;exact Calls.quiet_of_same (j.o _))|(go_at_call 185;exact Calls.quiet_of_same (q.o _)))
     clear j q;go_wp2_with fail;refine(iJ _ _ _ _).mono ?_;rintro e f ⟨rfl,rfl⟩;go_wp2_with fail
     cases hb2:wiB p.cl 0 7 with
     | false=>refine(dW _ _).mono ?_;rintro e f ⟨rfl,rfl⟩;exact⟨rfl,l.o (by simp[rngB,hb0,hb1,hb2]),(nT hR.o.1 k.o).drewN nq⟩
     | true=>
      refine(dC _ _).mono ?_;rintro e f ⟨rfl,rfl⟩;go_wp2_with fail;refine(iJ _ _ _ _).mono ?_;rintro e f ⟨rfl,rfl⟩;go_wp2_with fail
      cases hb3:wiB p.lv 0 256 with
      | false=>refine(dW _ _).mono ?_;rintro e f ⟨rfl,rfl⟩;exact⟨rfl,l.o (by simp[rngB,hb0,hb1,hb2,hb3]),(nT hR.o.1 k.o).drewN nq⟩
      | true=>
       refine(dC _ _).mono ?_;rintro e f ⟨rfl,rfl⟩;go_wp2_with fail;refine(iJ _ _ _ _).mono ?_;rintro e f ⟨rfl,rfl⟩;go_wp2_with fail
       cases hb4:wiB p.nx (-1) ((n:Int)-1)with
       | false=>refine(dW _ _).mono ?_;rintro e f ⟨rfl,rfl⟩;exact⟨rfl,l.o (by simp[rngB,hb0,hb1,hb2,hb3,hb4]),(nT hR.o.1 k.o).drewN nq⟩
       | true=>
        refine(dC _ _).mono ?_;rintro e f ⟨rfl,rfl⟩;go_wp2_with fail;refine(iJ _ _ _ _).mono ?_;rintro e f ⟨rfl,rfl⟩;go_wp2_with fail
        cases hb5:wiB p.pv (-1) ((n:Int)-1)with
        | false=>refine(dW _ _).mono ?_;rintro e f ⟨rfl,rfl⟩;exact⟨rfl,l.o (by simp[rngB,hb0,hb1,hb2,hb3,hb4,hb5]),(nT hR.o.1 k.o).drewN nq⟩
        | true=>
         refine(dC _ _).mono ?_;rintro e f ⟨rfl,rfl⟩;go_wp2_with fail;refine(iJ _ _ _ _).mono ?_;rintro e f ⟨rfl,rfl⟩;go_wp2_with fail
         cases hb6:wiB p.fs (-1) 255 with
         | false=>refine(dW _ _).mono ?_;rintro e f ⟨rfl,rfl⟩;exact⟨rfl,l.o (by simp[rngB,hb0,hb1,hb2,hb3,hb4,hb5,hb6]),(nT hR.o.1 k.o).drewN nq⟩
         | true=>
          refine(dC _ _).mono ?_;rintro e f ⟨rfl,rfl⟩;go_wp2_with fail;have R2:=aA (show Kt nO w _/\_ from⟨(nT hR.o.1 k.o).drewN nq,S.o (by simp[rngB,hb0,hb1,hb2,hb3,hb4,hb5,hb6])⟩);go_round
          case rel=>exact⟨a+1,by omega,by go_num,R2⟩
          case measure=>simp[intOf];omega
  ·have T:a=n:=(by omega);have E:¬(a:Int)<n:=(by omega);go_wp2_with fail;first|go_end0|go_ret
   exact⟨FG.o (fun x hx=>hR.o.2 x (by omega)),hR.o.1⟩
end W
end Go.Proofs.YtfmgnljlkdmndaaGreatDoor
