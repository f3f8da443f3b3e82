import Derived.Test.YtfmgnljlkdmndaaGreatDoorZb
import Derived.Laws.StructEq
set_option maxRecDepth 1000000
set_option maxHeartbeats 80000000
namespace Go.Proofs.YtfmgnljlkdmndaaGreatDoor
open Tryz
open Go.RowKit
set_option linter.unusedVariables false
def jG(n:Nat)(ws:List Nat)(k a x:Nat):Prop:=
 (∀ p,p<64->(x/2 ^ p%2 == 1)=(decide (k<=64*a+p) && aE ws (64*a+p)))/\(∀ j,k<=j->j<64*a->aE ws j=false)/\k<64*(a+1)
theorem jG.start(n:Nat)(ws:List Nat)(k:Nat):jG n ws k (k/64) (ws.getD (k/64) 0/2 ^ (k%64)*2 ^ (k%64)%2 ^ 64):=by
 refine⟨?_,fun j a b=>by omega,by omega⟩;intro p hp;rw[zi3 _ _ _ hp,wD _ _ _ hp];by_cases h:k%64<=p
 ·have:k<=64*(k/64)+p:=by omega
  simp[h,this]
 ·have:¬k<=64*(k/64)+p:=by omega
  simp[h,this]
theorem zkf(x:Nat)(p:Nat)(h:x=0):(x/2 ^ p%2 == 1)=false:=by subst h;simp
theorem jG.step{n:Nat}{ws:List Nat}{k a x:Nat}(h:jG n ws k a x)(hx:x=0):(∀ j,k<=j->j<64*(a+1)->aE ws j=false):=by
 intro j b f;by_cases d:j<64*a
 ·exact h.2.1 j b d
 ·have c:=h.1 (j-64*a) (by omega);have e : 64*a+(j-64*a)=j:=by omega
  rw[zkf x _ hx,e,af b,bf] at c;exact c.symm
theorem jG.next{n:Nat}{ws:List Nat}{k a x:Nat}(h:jG n ws k a x)(hx:x=0):jG n ws k (a+1) (ws.getD (a+1) 0):=by
 have b:=h.2.2;refine⟨?_,h.step hx,by omega⟩;intro p hp;have:k<=64*(a+1)+p:=by omega
 rw[wD _ _ _ hp,af this,bf]
theorem jG.hit{w:World}{b c n:Nat}{ws:List Nat}{k a x:Nat}(hs:SetAt w b c n ws)(h:jG n ws k a x)(hx:x≠0)(f:x<2 ^ 64):∃ p,p<64/\x &&& (2 ^ 64-x)=2 ^ p/\bI n ws k=((64*a+p:Nat):Int):=by
 obtain⟨p,hp,o,q,m⟩:=zkX x hx f;refine⟨p,hp,m,?_⟩;have hb:=h.1 p hp;rw[o] at hb;simp only[beq_self_eq_true] at hb;have d:=hb.symm;rw[bu,bW] at d;refine zi4 n ws k _ ?_ d.1 d.2 ?_
 ·rcases Nat.lt_or_ge (64*a+p) n with g|g
  ·exact g
  ·rw[hs.bit_past _ g] at d;cases d.2
 ·intro i l s;by_cases r:i<64*a
  ·exact h.2.1 i l r
  ·have j:=h.1 (i-64*a) (by omega);have e : 64*a+(i-64*a)=i:=(by omega);rw[q _ (by omega),e,af l,bf] at j;exact j.symm
theorem ZV(b c n:Nat)(ws:List Nat)(k:Nat)(w:World)(h:SetAt w b c n ws)(hkb:k<=9223372036854775807):
  Calls prog 92 #[.pointer (some ⟨b,0,none⟩),.int .i64 k] w fun e N=>e=.returned (.int .i64 (bI n ws k))/\N=w:=by
 by_cases hk:k<n
 ·have hl:=h.len;have hn:=h.nle;have a5:ws.length<=1048576:=by omega
  have hd:aD n (k:Int)=true:=by simp only[aD];exact af (by omega)
  obtain⟨q,hq⟩:=xe (k/64);obtain⟨r,X⟩:=xe (k%64);have f:=jG.start n ws k;rw[<-hq,<-X] at f;have D:q<ws.length:=by omega
  have F:r<64:=by omega
  have v:=h.cc q D;have K:=h.lt64 q;have h1:=h.cb1;obtain⟨x,hx⟩:=xe (ws.getD q 0);rw[<-hx] at v K f;have V:(k:Int)/64=(q:Int):=by omega
  have S:(k:Int)%64=(r:Int):=by omega
  obtain⟨y,hy⟩:=xe (x/2 ^ r*2 ^ r%2 ^ 64);rw[<-hy] at f;have L:y<2 ^ 64:=by rw[hy];exact Nat.mod_lt _ (by decide)
  have R:IntKind.u64.wrap ((x:Int)/2 ^ r*2 ^ r)=(y:Int):=by rw[wrap_u64,hy,vY];simp
  have J:=aA h;have u:=aA f;have a0:k<=1048576:=by omega
  clear f h hx hy hq X hk hl;go_enter func92,ntmps92;go_wp2_with (go_at_call 150;refine(lW b c n ws _ _ J.o).mono ?_;rintro e N ⟨rfl,rfl⟩)
  go_loop [5,6] (fun at_ wd=>∃ a z:Nat,a<ws.length/\z<18446744073709551616/\at_=.int .i64 a/\wd=.int .u64 z/\Hd (jG n ws k a z)) (fun at_ _=>ws.length-(intOf at_).toNat)
  case atStart=>exact⟨q,y,D,L,rfl,rfl,u⟩
  case round=>
   obtain⟨a,z,ha,hz,rfl,rfl,d⟩:=hrel;have A:=aA J.o.len;clear v K u R V S F;by_cases h0:z=0
   ·by_cases he:a+1=ws.length
    ·have s:((a:Int)+1 == (ws.length:Int))=true:=(by rw[co];omega);have e:=aA (tR n ws k (fun j g1 g2=>d.o.step h0 j g1 (by have:=A.o;omega)));subst h0;clear he;go_wp2
     go_ret;exact⟨dZ e.o.symm,rfl⟩
    ·obtain⟨o,l⟩:=xe (a+1);have i:o<ws.length:=(by omega);have a4:(a:Int)+1=(o:Int):=(by omega);have s:((o:Int) == (ws.length:Int))=false:=(by rw[ag];omega);have T:=J.o.cc o i;have B:=J.o.lt64 o;have g:=d.o.next h0;rw[<-l] at g;obtain⟨z1,G⟩:=xe (ws.getD o 0);rw[<-G] at T B g;have HN:=aA g;subst h0;have U:=aA l;clear he g G l;go_wp2
     go_round
     case rel=>exact⟨o,z1,i,B,rfl,rfl,HN⟩
     case measure=>(have:=U.o);(simp[intOf]);omega
   ·obtain⟨p,hp,h3,Y⟩:=d.o.hit J.o h0 hz;obtain⟨m,hm⟩:=xe (2 ^ 64-z);have a2:IntKind.u64.wrap (-(z:Int))=(m:Int):=(by rw[wrap_u64];omega);obtain⟨t,s⟩:=xe (2 ^ p);have I:t<2 ^ 64:=(by rw[s];exact(iI p 64).2 hp);have Z:bits BinOp.and IntKind.u64 (z:Int) (m:Int)=t:=by
     rw[u64_and_nat z m hz (by omega),s,<-h3,hm]
    have a6:lg t=(p:Int):=by rw[oN t (by have:=ax p;omega),s,Nat.log2_two_pow]
    have a3:((z:Int) == 0)=false:=(by rw[ag];omega);have E:=aA Y;clear h3 Y hm s h0;go_wp2_with (go_at_call 116;refine(pS t I _).mono ?_;rintro e N ⟨rfl,rfl⟩)
    go_ret;exact⟨dZ (by rw[E.o];omega),rfl⟩
 ·have hd:aD n (k:Int)=false:=by simp only[aD];exact ah (by omega)
  have e:=aA (tR n ws k (fun j h1 h2=>by omega));clear hk;go_enter func92,ntmps92;go_wp2_with (go_at_call 150;refine(lW b c n ws _ _ h).mono ?_;rintro e N ⟨rfl,rfl⟩)
  go_ret;exact⟨dZ e.o.symm,rfl⟩
theorem ZU(b c n:Nat)(ws:List Nat)(i:Int)(w:World)(h:SetAt w b c n ws)(hi:i<0):
  Calls prog 92 #[.pointer (some ⟨b,0,none⟩),.int .i64 i] w fun e I=>e=.returned (.int .i64 (bI n ws 0))/\I=w:=by
 by_cases hk : 0<n
 ·have hl:=h.len;have hn:=h.nle;have Z:ws.length<=1048576:=by omega
  have hd:aD n 0=true:=by simp only[aD];exact af (by omega)
  have f:=jG.start n ws 0;have D : 0<ws.length:=by omega
  have u:=h.cc 0 D;have k:=h.lt64 0;have Y:=h.cb1;have L:ws.getD (0/64) 0/2 ^ (0%64)*2 ^ (0%64)%2 ^ 64=ws.getD 0 0:=by simp only[Nat.zero_div,Nat.zero_mod,Nat.pow_zero,Nat.div_one,Nat.mul_one];exact Nat.mod_eq_of_lt k
  rw[L] at f;obtain⟨y,hx⟩:∃ x,x=ws.getD 0 0:=⟨_,rfl⟩;rw[<-hx] at u k f;have F:=aA h;have s:=aA f;clear f h hx hk hl L;go_enter func92,ntmps92;go_wp2_with (go_at_call 150;refine(lW b c n ws _ _ F.o).mono ?_;rintro e I ⟨rfl,rfl⟩)
  go_loop [5,6] (fun at_ wd=>∃ a z:Nat,a<ws.length/\z<18446744073709551616/\at_=.int .i64 a/\wd=.int .u64 z/\Hd (jG n ws 0 a z)) (fun at_ _=>ws.length-(intOf at_).toNat)
  case atStart=>exact⟨0,y,D,k,rfl,rfl,s⟩
  case round=>
   obtain⟨a,z,ha,hz,rfl,rfl,d⟩:=hrel;have A:=aA F.o.len;clear u k s;by_cases h0:z=0
   ·by_cases he:a+1=ws.length
    ·have r:((a:Int)+1 == (ws.length:Int))=true:=(by rw[co];omega);have e:=aA (tR n ws 0 (fun j g1 g2=>d.o.step h0 j g1 (by have:=A.o;omega)));subst h0;clear he;go_wp2
     go_ret;exact⟨dZ e.o.symm,rfl⟩
    ·obtain⟨q,o⟩:=xe (a+1);have l:q<ws.length:=(by omega);have a2:(a:Int)+1=(q:Int):=(by omega);have r:((q:Int) == (ws.length:Int))=false:=(by rw[ag];omega);have J:=F.o.cc q l;have B:=F.o.lt64 q;have g:=d.o.next h0;rw[<-o] at g;obtain⟨X,G⟩:=xe (ws.getD q 0);rw[<-G] at J B g;have HN:=aA g;subst h0;have K:=aA o;clear he g G o;go_wp2
     go_round
     case rel=>exact⟨q,X,l,B,rfl,rfl,HN⟩
     case measure=>(have:=K.o);(simp[intOf]);omega
   ·obtain⟨p,hp,N,S⟩:=d.o.hit F.o h0 hz;obtain⟨m,R⟩:=xe (2 ^ 64-z);have U:IntKind.u64.wrap (-(z:Int))=(m:Int):=(by rw[wrap_u64];omega);obtain⟨t,r⟩:=xe (2 ^ p);have v:t<2 ^ 64:=(by rw[r];exact(iI p 64).2 hp);have T:bits BinOp.and IntKind.u64 (z:Int) (m:Int)=t:=by
     rw[u64_and_nat z m hz (by omega),r,<-N,R]
    have a0:lg t=(p:Int):=by rw[oN t (by have:=ax p;omega),r,Nat.log2_two_pow]
    have V:((z:Int) == 0)=false:=(by rw[ag];omega);have E:=aA S;clear N S R r h0;go_wp2_with (go_at_call 116;refine(pS t v _).mono ?_;rintro e I ⟨rfl,rfl⟩)
    go_ret;exact⟨dZ (by rw[E.o];omega),rfl⟩
 ·have hd:aD n 0=false:=by simp only[aD];exact ah (by omega)
  have e:=aA (tR n ws 0 (fun j Y h2=>by omega));clear hk;go_enter func92,ntmps92;go_wp2_with (go_at_call 150;refine(lW b c n ws _ _ h).mono ?_;rintro e I ⟨rfl,rfl⟩)
  go_ret;exact⟨dZ e.o.symm,rfl⟩
theorem vZ(b c n:Nat)(ws:List Nat)(i:Int)(d:i<=9223372036854775807)(w:World)(h:SetAt w b c n ws):
  Calls prog 92 #[.pointer (some ⟨b,0,none⟩),.int .i64 i] w fun e a=>e=.returned (.int .i64 (nxt n ws i))/\a=w:=by
 by_cases hi:i<0
 ·have e:nxt n ws i=bI n ws 0:=by unfold nxt;rw[show i.toNat=0 by omega]
  rw[e];exact ZU b c n ws i w h hi
 ·obtain⟨k,rfl⟩:=au (by omega : 0<=i);have e:nxt n ws (k:Int)=bI n ws k:=by unfold nxt;rw[aa]
  rw[e];exact ZV b c n ws k w h (by omega)
end Go.Proofs.YtfmgnljlkdmndaaGreatDoor
namespace Go.Proofs.YtfmgnljlkdmndaaGreatDoor.W
open Tryz
open Go.RowKit
set_option linter.unusedVariables false
def KW(w:World):Type:={ W:World // Kt nO w W }
def KW.v{w:World}(x:KW w):World:=x.1
theorem KW.k{w:World}(x:KW w):Kt nO w x.v:=x.2
instance (w:World):Nonempty (KW w):=⟨⟨w,Kt.refl _ _⟩⟩
theorem cS{P:Program}{id:Nat}{Q:Exit->Act->World->Prop}{a:Act}{w:World}{l:List Oper}(c:P.follows .mixedOrders=true)(d:Region.lexB .any l.toArray=true)
  (h:wpQuiet P l.toArray (fun b=>∃ x:KW w,b=x.v) (fun a'=>∀ x:KW w,Q .normal a' x.v) l a):(Code.region id l.toArray true).wp P Q a w:=by
 refine wp_region_quiet (C:=fun b=>∃ x:KW w,b=x.v) c d ⟨⟨w.drew,(Kt.refl _ w).drew⟩,rfl⟩ ?_;have e:(fun a'=>∀ b,(∃ x:KW w,b=x.v)->Q .normal a' b)=(fun a'=>∀ x:KW w,Q .normal a' x.v):=by
  funext a'
  exact propext ⟨fun h x=>h _ ⟨x,rfl⟩,fun h b ⟨x,hx⟩=>hx▸h x⟩
 rw[e];simpa using h
theorem Calls.kept_of{P:Program}{f:FuncId}{args:Array Value}{w:World}{x:KW w}{v:Value}
  (h:Calls P f args x.v fun e c=>e=.returned v/\Kt nO x.v c):Calls P f args x.v fun e a=>e=.returned v/\∃ y:KW w,a=y.v:=
 h.mono fun _ b ⟨he,hk⟩=>⟨he,⟨b,nT x.k hk⟩,rfl⟩
abbrev cG(p:Int):Ending:=.panicked [{ v:=.iface 189 (.int .i64 p),recovered:=false }]
def bG:Option Nat->Ending
 | none=>.returned (.tuple #[])
 | some p=>cG (p:Int)
theorem dD(p:Int)(w:World):Calls prog 185 #[.bool true,.int .i64 p] w fun e a=>e=.returned (.tuple #[])/\a=w:=by
 go_enter func185,ntmps185;go_wp2
 first|go_end0|go_ret
 exact⟨rfl,rfl⟩
theorem dY(p:Int)(w:World):Calls prog 185 #[.bool false,.int .i64 p] w fun e a=>e=cG p/\a=w:=by
 go_enter func185,ntmps185;go_wp2
 exact⟨rfl,rfl,rfl⟩
theorem zh8(a:Array Value)(w:World):Sem.run prog (callFunc 185 a) w=.ok (.enter 185 a) w:=by simp[callFunc,go_sem,func185];rfl
def wiB(x a b:Int):Bool:=decide (a<=x/\x<=b)
theorem iM(x a b:Int)(w:World):Calls prog 187 #[.int .i64 x,.int .i64 a,.int .i64 b] w fun e c=>e=.returned (.bool (wiB x a b))/\c=w:=by
 by_cases h:a<=x
 ·go_enter func187,ntmps187;go_wp2
  go_ret;exact⟨cO (by simp[wiB,h]),rfl⟩
 ·go_enter func187,ntmps187;go_wp2
  go_ret;exact⟨cO (ah (by omega)).symm,rfl⟩
structure Img where
 bS:Nat
 lim:Int
 ord:Int
 reg:Int
 nm:Nat
 mem:Nat->Nat
 np:Nat
 pg:Nat->Pg
 no:Nat
 pr:Nat->List Nat
 hd:List Nat
 pt:List Int
structure ImV where
 m:Value
 p:Value
 r:Value
 h:Value
 t:Value
abbrev N64(x:Int):Prop := -9223372036854775808<=x/\x<=9223372036854775807
def PgC(w:World)(bl o i:Nat)(p:Pg):Prop:=∀ j,j<11->w.cell? ⟨bl,o+i*11+j,none⟩=some (p.fld j)
structure PgIn(p:Pg):Prop where
 kd:N64 p.kd
 od:N64 p.od
 cl:N64 p.cl
 lv:N64 p.lv
 nx:N64 p.nx
 pv:N64 p.pv
 fs:N64 p.fs
 b0:p.b0<18446744073709551616
 b1:p.b1<18446744073709551616
 b2:p.b2<18446744073709551616
 b3:p.b3<18446744073709551616
def SlIn(w:World)(v:Value)(n:Nat)(C:Nat->Nat->Nat->Prop):Prop:=
 n<=9223372036854775807/\∃ oa oc,v=.slice oa n oc/\(n=0\/∃ bl o,oa=some ⟨bl,o,none⟩/\bl<w.heap.size/\∀ i,i<n->C bl o i)
def ByC(w:World)(f:Nat->Nat)(bl o i:Nat):Prop:=f i<256/\w.cell? ⟨bl,o+i,none⟩=some (.int .u8 (f i:Int))
def InC(w:World)(l:List Int)(bl o i:Nat):Prop:=N64 (l.getD i 0)/\w.cell? ⟨bl,o+i,none⟩=some (.int .i64 (l.getD i 0))
def WdC(w:World)(l:List Nat)(bl o i:Nat):Prop:=l.getD i 0<18446744073709551616/\w.cell? ⟨bl,o+i,none⟩=some (.int .u64 ((l.getD i 0:Nat):Int))
structure ImD(w:World)(I:Img)(V:ImV):Prop where
 b64:I.bS<18446744073709551616
 lim:N64 I.lim
 ord:N64 I.ord
 reg:N64 I.reg
 mem:SlIn w V.m I.nm (ByC w I.mem)
 mcp:∀ a n c,V.m=.slice a n c->n<=c
 pgs:SlIn w V.p I.np fun bl o i=>PgIn (I.pg i)/\PgC w bl o i (I.pg i)
 prs:∃ ws:Nat->Value,SlIn w V.r I.no fun bl o i=>w.cell? ⟨bl,o+i,none⟩=some (ws i)/\Src w (ws i) (I.pr i)
 hds:SlIn w V.h I.hd.length (WdC w I.hd)
 pts:SlIn w V.t I.pt.length (InC w I.pt)
abbrev aQ(I:Img)(V:ImV):Obj:=.cells #[.int .u64 I.bS,.int .i64 I.lim,.int .i64 I.ord,.int .i64 I.reg,V.m,V.p,V.r,V.h,V.t] 42 (0,0)
abbrev imA(I:Img)(V:ImV):Value:=.agg #[.int .u64 I.bS,.int .i64 I.lim,.int .i64 I.ord,.int .i64 I.reg,V.m,V.p,V.r,V.h,V.t]
structure ImAt(w:World)(b:Nat)(I:Img)(V:ImV):Prop where
 bx:w.heap[b]?=some (aQ I V)
 d:ImD w I V
theorem SlIn.keep{w W:World}{v:Value}{n:Nat}{C D:Nat->Nat->Nat->Prop}(h:SlIn w v n C)(d:Kt nO w W)(c:∀ a o i,C a o i->D a o i):SlIn W v n D:=by
 obtain⟨f,g,k,j,b⟩:=h;refine⟨f,g,k,j,?_⟩;rcases b with b|⟨a,o,e,hl,hc⟩
 ·exact .inl b
 ·exact .inr ⟨a,o,e,bg hl d.size,fun i hi=>c _ _ _ (hc i hi)⟩
theorem PgC.keep{w W:World}{a o i:Nat}{p:Pg}(h:PgC w a o i p)(b:Kt nO w W):PgC W a o i p:=fun j c=>b.cell (fun x=>x) (h j c)
theorem ImD.keep{w W:World}{I:Img}{V:ImV}(h:ImD w I V)(a:Kt nO w W):ImD W I V:=by refine⟨h.b64,h.lim,h.ord,h.reg,h.mem.keep a fun b o i hc=>⟨hc.1,a.cell (fun x=>x) hc.2⟩,h.mcp,h.pgs.keep a fun b o i hc=>⟨hc.1,hc.2.keep a⟩,?_,h.hds.keep a fun b o i hc=>⟨hc.1,a.cell (fun x=>x) hc.2⟩,h.pts.keep a fun b o i hc=>⟨hc.1,a.cell (fun x=>x) hc.2⟩⟩;obtain⟨ws,hp⟩:=h.prs;exact⟨ws,hp.keep a fun b o i hc=>⟨a.cell (fun x=>x) hc.1,hc.2.kept a (fun _ _ x=>x)⟩⟩
theorem ImAt.keep{w W:World}{b:Nat}{I:Img}{V:ImV}(h:ImAt w b I V)(a:Kt nO w W):ImAt W b I V:=
 ⟨(a.block _ (lH h.bx) (fun x=>x)).trans h.bx,h.d.keep a⟩
theorem ImAt.cells{w:World}{b:Nat}{I:Img}{V:ImV}(h:ImAt w b I V):w.cell? ⟨b,0,none⟩=some (.int .u64 I.bS)/\w.cell? ⟨b,1,none⟩=some (.int .i64 I.lim)/\w.cell? ⟨b,2,none⟩=some (.int .i64 I.ord)/\w.cell? ⟨b,3,none⟩=some (.int .i64 I.reg)/\w.cell? ⟨b,4,none⟩=some V.m/\w.cell? ⟨b,5,none⟩=some V.p/\w.cell? ⟨b,6,none⟩=some V.r/\w.cell? ⟨b,7,none⟩=some V.h/\w.cell? ⟨b,8,none⟩=some V.t:=by refine⟨?_,?_,?_,?_,?_,?_,?_,?_,?_⟩ <;> simp[World.cell?,h.bx]
theorem ImAt.all{w:World}{b:Nat}{I:Img}{V:ImV}(h:ImAt w b I V):(∀ x:KW w,x.v.cell? ⟨b,0,none⟩=some (.int .u64 I.bS))/\(∀ x:KW w,x.v.cell? ⟨b,1,none⟩=some (.int .i64 I.lim))/\(∀ x:KW w,x.v.cell? ⟨b,2,none⟩=some (.int .i64 I.ord))/\(∀ x:KW w,x.v.cell? ⟨b,3,none⟩=some (.int .i64 I.reg))/\(∀ x:KW w,x.v.cell? ⟨b,4,none⟩=some V.m)/\(∀ x:KW w,x.v.cell? ⟨b,5,none⟩=some V.p)/\(∀ x:KW w,x.v.cell? ⟨b,6,none⟩=some V.r)/\(∀ x:KW w,x.v.cell? ⟨b,7,none⟩=some V.h)/\(∀ x:KW w,x.v.cell? ⟨b,8,none⟩=some V.t):=
 ⟨fun x=>(h.keep x.k).cells.1,fun x=>(h.keep x.k).cells.2.1,fun x=>(h.keep x.k).cells.2.2.1,fun x=>(h.keep x.k).cells.2.2.2.1,fun x=>(h.keep x.k).cells.2.2.2.2.1,fun x=>(h.keep x.k).cells.2.2.2.2.2.1,fun x=>(h.keep x.k).cells.2.2.2.2.2.2.1,fun x=>(h.keep x.k).cells.2.2.2.2.2.2.2.1,fun x=>(h.keep x.k).cells.2.2.2.2.2.2.2.2⟩
section
variable {P:Program} {ops:Array Oper} {md:Region.Mode} {C:World->Prop} {Q:Exit->Act->World->Prop}
def gT(P:Program)(Q:Exit->Act->World->Prop)(o:Oper)(a:Act)(w:World):Prop:=o.wp P a w (fun _ _=>False) (fun e _ w'=>∀ a',a'.defers=a.defers->Q e a' w')
theorem gT.other{o:Oper}{a b:Act}{w:World}(h:gT P Q o a w)(he:execOp b.eval o=execOp a.eval o)(hd:b.defers=a.defers):gT P Q o b w:=by
 unfold gT Oper.wp at *;rw[he,hd];generalize (execOp a.eval o).run P w=r at *
 cases r with
 | ok n c=>cases n <;> exact h
 | halt x c=>cases x <;> exact h
theorem gT.wp{o:Oper}{a:Act}{w:World}{K:Act->World->Prop}(h:gT P Q o a w):o.wp P a w K Q:=by
 unfold gT Oper.wp at *;generalize (execOp a.eval o).run P w=r at *
 cases r with
 | ok n g=>
  cases n <;> simp only[Oper.upon] at*<;> try exact h.elim
  case enter f args=>
   refine h.mono ?_;intro e i d
   cases e with
   | returned v=>exact d.elim
   | panicked c=>exact d a rfl
   | outgrown=>
    have j:LetsOut (fun (e:Exit) (_:Act) (g:World)=>∀ a',a'.defers=a.defers->Q e a' g):=d;obtain⟨b,l,k⟩:=j;exact⟨a,l,k a rfl⟩
  case row r args=>exact h.mono fun v i d=>d.elim
 | halt x g=>
  cases x <;> simp only[Oper.upon] at*<;> first|exact h.elim|exact h a rfl
def rM(P:Program)(ops:Array Oper)(C:World->Prop)(Q:Exit->Act->World->Prop)(i:Nat)(K:Act->Prop)(a:Act):Prop:=
 qOp P ops C i K a\/∃ o,ops[i]?=some o/\Region.wanted o (yielded ops a.tmps)=true/\∀ w,C w->gT P Q o a w
def lC(P:Program)(md:Region.Mode)(ops:Array Oper)(C:World->Prop)(Q:Exit->Act->World->Prop):Nat->Array Bool->Act->Prop
 | 0,ls,a=>Region.ready md ops ls=[]/\∀ w,C w->Q .normal a w
 | n+1,ls,a=>(Region.ready md ops ls=[]->∀ w,C w->Q .normal a w)/\∀ i∈Region.ready md ops ls,rM P ops C Q i (lC P md ops C Q n (ls.setIfInBounds i true)) a
theorem zkE{i:Nat}{a:Act}{K b:Act->Prop}(h:∀ a,K a->b a)(c:rM P ops C Q i K a):rM P ops C Q i b a:=c.imp (qOp_mono h) id
theorem II:∀ (n:Nat) (ls:Array Bool) (a:Act) (w:World),C w->lC P md ops C Q n ls a->wpAny P md ops Q n ls a w
 | 0,_,_,_,hw,h=>⟨h.1,h.2 _ hw⟩
 | n+1,_,_,_,hw,h=>⟨fun h0=>h.1 h0 _ hw,fun i hi=>by
   rcases h.2 i hi with d|⟨o,f,c,hd⟩
   ·exact wpOp_of_qOp hw (fun a' e b=>II n _ a' e b) d
   ·unfold wpOp;simp only[f,c,if_true];exact .inl (hd _ hw).wp⟩
theorem XN{j:Nat}{c d:Oper}{v:Value}(l:ops[j]?=some d)(e:c.apart ops d=true)(g:∀ cs b,c.op≠.select cs b)(f:∀ cs b,d.op≠.select cs b){K:Act->Prop}{a:Act}
  (hy:YieldsIn P ops C c v a) (h:rM P ops C Q j K (a.put c.dst v)):rM P ops C Q j (fun a'=>YieldsIn P ops C c v a'/\K (a'.put c.dst v)) a:=by
 rcases h with h|⟨o,m,i,hd⟩
 ·exact .inl (qOp_put l e g f hy h)
 ·obtain rfl:d=o:=Option.some.inj (l.symm.trans m);obtain⟨k,p,n⟩:=Oper.apart_spec e;refine .inr ⟨d,m,by rw[<-wanted_put d a c.dst v k];exact i,fun w hw=>(hd w hw).other (execOp_put d f a c.dst v k).symm (by cases c.dst <;> rfl)⟩
theorem zhP{i:Nat}{l:Oper}{v:Value}(hi:ops[i]?=some l)(c:∀ (j:Nat) (o:Oper) cs b,ops[j]?=some o->o.op≠.select cs b):∀ (n:Nat) (ls:Array Bool) (a:Act),
  (∀ j h,ops[j]?=some h->j≠i->ls.getD j true=false->(∀ e∈h.after,Region.binds md e=true->e.on≠i)->l.apart ops h=true)->i∈Region.ready md ops ls->YieldsIn P ops C l v a->
  lC P md ops C Q n (ls.setIfInBounds i true) (a.put l.dst v)->lC P md ops C Q (n+1) ls a:=by
 intro n;induction n with
 | zero=>
  intro ls a _ f hy H;refine⟨fun h0=>(by rw[h0] at f;cases f),fun j r=>?_⟩;by_cases e:j=i
  ·rw[e];exact .inl (hy.qOp hi H)
  ·have:=ready_mono r e;rw[H.1] at this
   cases this
 | succ n B=>
  intro ls a hf f hy H;refine⟨fun h0=>(by rw[h0] at f;cases f),fun j r=>?_⟩;by_cases e:j=i
  ·rw[e];exact .inl (hy.qOp hi H)
  ·obtain⟨m,h,g,p⟩:=mem_ready.1 r;have t:∀ e∈h.after,Region.binds md e=true->e.on≠i:=fun d hd hb hq=>by
    have q:=p d hd hb;have x:=(mem_ready.1 f).1;rw[hq] at q;rcases Nat.lt_or_ge i ls.size with hl|hl
    ·simp[hl] at x q;rw[x] at q;cases q
    ·simp[Array.getElem?_eq_none hl] at q
   have A:=XN g (hf j h g e m t) (fun cs b=>c i l cs b hi) (fun cs b=>c j h cs b g) hy (H.2 j (ready_mono r e));refine zkE (fun a' u=>B (ls.setIfInBounds j true) a' (fun k ok z s D y=>?_) (ready_mono f (Ne.symm e)) u.1 ?_) A
   ·refine hf k ok z s ?_ y;by_cases w:j=k
    ·rw[<-w];exact m
    ·rwa [Go.getD_set_ne true w] at D
   ·rw[Array.setIfInBounds_comm _ _ e];exact u.2
theorem IH{o:Oper}(hs:Region.noSelect ops=true):∀ (l:List Oper) (k:Nat) (ls:Array Bool) (a:Act),(∀ j,(l ++ [o])[j]?=ops[k + j]?)->Region.lexFrom md ops (l ++ [o]).length k ls=true->
  wpQuiet P ops C (fun a'=>Region.wanted o (yielded ops a'.tmps)=true/\∀ w,C w->gT P Q o a' w) l a->lC P md ops C Q (l ++ [o]).length ls a
 | [],k,ls,a,hl,d,h=>by
  have h0:ops[k]?=some o:=by simpa using (hl 0).symm
  simp only[List.nil_append,List.length_cons,List.length_nil,Region.lexFrom,bu] at d;obtain⟨⟨g,hf⟩,b⟩:=d;have c:k∈Region.ready md ops ls:=by simpa using g
  refine⟨fun h0=>(by rw[h0] at c;cases c),fun j i=>?_⟩;by_cases e:j=k
  ·rw[e];exact .inr ⟨o,h0,h.1,h.2⟩
  ·have:=ready_mono i e;rw[List.isEmpty_iff.1 b] at this
   cases this
 | x :: l,k,ls,a,hl,d,h=>by
  have h0:ops[k]?=some x:=by simpa using (hl 0).symm
  simp only[List.cons_append,List.length_cons,Region.lexFrom,bu] at d;obtain⟨⟨g,hf⟩,b⟩:=d;have f:qOp P ops C k (wpQuiet P ops C (fun a'=>Region.wanted o (yielded ops a'.tmps)=true/\∀ w,C w->gT P Q o a' w) l) a:=by unfold qOp;simp only[h0];exact h
  obtain⟨v,hy,hK⟩:=yieldsIn_of_qOp h0 f;exact zhP h0 (Region.noSelect_spec hs) _ ls a (Region.free_spec h0 hf) (by simpa using g) hy
   (IH hs l (k+1) _ _ (fun j=>by have:=hl (j+1);simpa [Nat.add_assoc,Nat.add_comm 1 j] using this) b hK)
end
theorem LQ{P:Program}{id:Nat}{Q:Exit->Act->World->Prop}{a:Act}{w:World}{l:List Oper}{C:World->Prop}(d:P.follows .mixedOrders=true)(b:Region.lexB .any l.toArray=true)
  (hl:l≠[]) (f:C w.drew) (h:wpQuiet P l.toArray C (fun a'=>Region.wanted (l.getLast hl) (yielded l.toArray a'.tmps)=true/\∀ w,C w->gT P Q (l.getLast hl) a' w) l.dropLast a):(Code.region id l.toArray true).wp P Q a w:=by
 have e:=List.dropLast_concat_getLast hl;generalize l.dropLast=c at *;generalize l.getLast hl=o at *;subst e;simp only[Region.lexB,bu] at b;refine wp_region_any d (II _ _ _ _ f ?_);have:=IH (P:=P) (Q:=Q) (C:=C) (md:=.any) b.1 c 0 (Array.replicate (c ++ [o]).toArray.size false) a (by simp) (by simpa using b.2) h;simpa using this
theorem JQ{P:Program}{Q:Exit->Act->World->Prop}{o:Oper}{a:Act}{w:World}{f:FuncId}{args:Array Operand}{i:Array TypeId}(hc:∀ b w,Sem.run P (callFunc f b) w=.ok (.enter f b) w)(j:o.op=.call { callee:=.value (.func f),args:=args,argTypes:=i })
  (h:Calls P f (args.map a.eval) w fun e c=>∃ ch,e=.panicked ch/\∀ a',a'.defers=a.defers->Q (.panic ch) a' c):gT P Q o a w:=by
 have d:(execOp a.eval o).run P w=.ok (.enter f (args.map a.eval)) w:=by unfold execOp;rw[j];simp[go_sem,hc]
 unfold gT Oper.wp;rw[d];refine h.mono ?_;rintro e c ⟨ch,rfl,g⟩;exact g
theorem zcC{P:Program}{id:Nat}{Q:Exit->Act->World->Prop}{a:Act}{w:World}{l:List Oper}(c:P.follows .mixedOrders=true)(d:Region.lexB .any l.toArray=true)
  (hl:l≠[]) (h:wpQuiet P l.toArray (fun b=>∃ n,b=w.drewN n) (fun a'=>Region.wanted (l.getLast hl) (yielded l.toArray a'.tmps)=true/\∀ b,(∃ n,b=w.drewN n)->gT P Q (l.getLast hl) a' b) l.dropLast a):(Code.region id l.toArray true).wp P Q a w:=
 LQ (C:=fun b=>∃ n,b=w.drewN n) c d hl ⟨1,rfl⟩ h
theorem gP{Q:Exit->Act->World->Prop}{o:Oper}{a:Act}{w:World}{x y:Operand}{b:Array TypeId}{p:Int}(c:o.op=.call { callee:=.value (.func 185),args:=#[x,y],argTypes:=b })
  (hx:a.eval x=.bool false) (hy:a.eval y=.int .i64 p) (h:∀ a',a'.defers=a.defers->Q (.panic [{ v:=.iface 189 (.int .i64 p),recovered:=false }]) a' w):gT prog Q o a w:=by
 refine JQ zh8 c ?_;have e:(#[x,y] : Array Operand).map a.eval=#[.bool false,.int .i64 p]:=by simp[hx,hy]
 rw[e];refine(dY p w).mono ?_;rintro e d ⟨rfl,rfl⟩;exact⟨_,rfl,h⟩
def rngB(k np:Int)(p:Pg):Bool:=wiB p.kd 0 4 && (wiB p.od 0 k && (wiB p.cl 0 7 && (wiB p.lv 0 256 && (wiB p.nx (-1) (np-1) && (wiB p.pv (-1) (np-1) && wiB p.fs (-1) 255)))))
abbrev aW(p:Pg):Obj:=.cells #[.int .i64 p.kd,.int .i64 p.od,.int .i64 p.cl,.int .i64 p.lv,.int .i64 p.nx,.int .i64 p.pv,.int .i64 p.fs,.int .u64 p.b0,.int .u64 p.b1,.int .u64 p.b2,.int .u64 p.b3] 97 (0,0)
theorem GL{w:World}{g:Nat}{p:Pg}(h:w.heap[g]?=some (aW p)):w.cell? ⟨g,0,none⟩=some (.int .i64 p.kd)/\w.cell? ⟨g,1,none⟩=some (.int .i64 p.od)/\w.cell? ⟨g,2,none⟩=some (.int .i64 p.cl)/\w.cell? ⟨g,3,none⟩=some (.int .i64 p.lv)/\w.cell? ⟨g,4,none⟩=some (.int .i64 p.nx)/\w.cell? ⟨g,5,none⟩=some (.int .i64 p.pv)/\w.cell? ⟨g,6,none⟩=some (.int .i64 p.fs):=by refine⟨?_,?_,?_,?_,?_,?_,?_⟩ <;> simp[World.cell?,h]
theorem ImAt.page{w:World}{b:Nat}{I:Img}{V:ImV}(h:ImAt w b I V)(i:Nat)(hi:i<I.np):∃ a o c,V.p=.slice (some ⟨a,o,none⟩) I.np c/\PgIn (I.pg i)/\PgC w a o i (I.pg i):=by
 obtain⟨j,k,c,g,f⟩:=h.d.pgs;rcases f with f|⟨a,o,e,hl,hc⟩
 ·omega
 ·subst e;exact⟨a,o,c,g,hc i hi⟩
theorem PgC.c{w:World}{a o i:Nat}{p:Pg}(h:PgC w a o i p):w.cell? ⟨a,o+i*11,none⟩=some (.int .i64 p.kd)/\w.cell? ⟨a,o+i*11+1,none⟩=some (.int .i64 p.od)/\w.cell? ⟨a,o+i*11+2,none⟩=some (.int .i64 p.cl)/\w.cell? ⟨a,o+i*11+3,none⟩=some (.int .i64 p.lv)/\w.cell? ⟨a,o+i*11+4,none⟩=some (.int .i64 p.nx)/\w.cell? ⟨a,o+i*11+5,none⟩=some (.int .i64 p.pv)/\w.cell? ⟨a,o+i*11+6,none⟩=some (.int .i64 p.fs)/\w.cell? ⟨a,o+i*11+7,none⟩=some (.int .u64 p.b0)/\w.cell? ⟨a,o+i*11+8,none⟩=some (.int .u64 p.b1)/\w.cell? ⟨a,o+i*11+9,none⟩=some (.int .u64 p.b2)/\w.cell? ⟨a,o+i*11+10,none⟩=some (.int .u64 p.b3):=
 ⟨h 0 (by decide),h 1 (by decide),h 2 (by decide),h 3 (by decide),h 4 (by decide),h 5 (by decide),h 6 (by decide),h 7 (by decide),h 8 (by decide),h 9 (by decide),h 10 (by decide)⟩
theorem zfm(b:Nat)(I:Img)(V:ImV)(w:World)(v:ImAt w b I V)(D:I.np<=1024):
  Calls prog 139 #[.pointer (some ⟨b,0,none⟩)] w fun e w'=>e=bG (fst1 I.np fun i=>rngB I.ord I.np (I.pg i))/\Kt nO w w':=by
 have G:=aA v;obtain⟨u,oa,oc,y,F⟩:=v.d.pgs;obtain⟨c0,c1,c2,c3,c4,c5,c6,c7,L⟩:=v.cells;rw[y] at c5;obtain⟨n,t⟩:=xe (I.np);rw[<-t] at c5 y u D;have B:=aA t;have N:=aA (show ∀ i,i<n->(∀ a,a<i->rngB I.ord I.np (I.pg a)=true)->rngB I.ord I.np (I.pg i)=false->cG (i:Int)=bG (fst1 I.np fun i=>rngB I.ord I.np (I.pg i))from fun i u K F=>by rw[gA (by omega) K F];rfl);have FG:=aA (show(∀ a,a<n->rngB I.ord I.np (I.pg a)=true)->Ending.returned (.tuple #[])=bG (fst1 I.np fun i=>rngB I.ord I.np (I.pg i))from fun u=>by rw[fst1_ok (fun a ha=>u a (by rw[t];exact ha))];rfl);generalize bG (fst1 I.np fun i=>rngB I.ord I.np (I.pg i))=T at *;have HV:=aA y;clear t y v F;go_enter func139,ntmps139;go_wp2_with fail;go_loopw [16] (fun i W=>∃ a:Nat,a<=n/\i=.int .i64 a/\Hd (Kt nO w W/\∀ x,x<a->rngB I.ord I.np (I.pg x)=true)) (fun i _=>n-(intOf i).toNat)
 case atStart=>exact⟨0,az _,rfl,aA ⟨Kt.refl _ _,fun x hx=>by omega⟩⟩
 case round=>
  obtain⟨a,ha,rfl,hR⟩:=hrel;by_cases s:a<n
  ·have A:(a:Int)<n:=(by omega);obtain⟨bl,o,a0,r,E,q⟩:=(G.o.keep hR.o.1).page a (by rw[<-B.o];exact s);rw[HV.o] at r;injection r with e1 e2 e3
   subst e1;obtain⟨d0,U,d2,Z,d4,R,d6,X,Y,d9,z⟩:=q.c;have l:=aA (show rngB I.ord (n:Int) (I.pg a)=false->cG (a:Int)=T from fun h=>N.o a s hR.o.2 (by rw[<-B.o];exact h));have GA:=aA (show rngB I.ord (n:Int) (I.pg a)=true->∀ x,x<a+1->rngB I.ord I.np (I.pg x)=true from fun h x hx=>by
    by_cases e:x=a
    ·rw[e,<-B.o];exact h
    ·exact hR.o.2 x (by omega))
   have HW:=aA (show(wr.alloc (aW (I.pg a))).heap[wr.heap.size]?=some (aW (I.pg a))from nH _ _);have k:=aA (show Kt nO wr (wr.alloc (aW (I.pg a)))from(Kt.refl _ _).alloc _);have S:=aA (((G.o.keep hR.o.1).keep k.o).cells.2.2.1);generalize I.pg a=p at *;clear E q e2 e3;go_wp2_with fail;generalize wr.alloc (aW p)=W1 at *;generalize wr.heap.size=g at *;clear d0 U d2 Z d4 R d6 X Y d9 z c0 c1 c2 c3 c4 c5 c6 c7 L;obtain⟨p0,p1,p2,p3,p4,p5,p6⟩:=GL HW.o;have c2:=S.o;refine(iM _ _ _ _).mono ?_;rintro e f ⟨rfl,rfl⟩;go_wp2_with fail
   cases hb0:wiB p.kd 0 4 with
   | false=>
    refine(dY _ _).mono ?_;rintro e f ⟨rfl,rfl⟩;exact⟨rfl,l.o (by simp[rngB,hb0]),nT hR.o.1 k.o⟩
   | true=>
    refine(dD _ _).mono ?_;rintro e f ⟨rfl,rfl⟩;go_wp2_with fail
    cases hb1:wiB p.od 0 I.ord with
    | false=>
     have j:=aA (fun W=>iM p.od 0 I.ord W);rw[hb1] at j;refine zcC (by kernel_rfl) (by kernel_rfl) (by exact da _ _) ?_;dsimp only[List.dropLast,List.getLast];repeat (go_big_quiet_step (first|(go_at_call 187;exact Calls.quiet_of_same (j.o _))))
     refine wpQuiet_nil ?_;refine⟨rfl,?_⟩;rintro _ ⟨nq,rfl⟩;exact gP (p:=(a:Int)) rfl rfl rfl fun _ hd=>⟨hd,l.o (by simp[rngB,hb0,hb1]),(nT hR.o.1 k.o).drewN nq⟩
    | true=>
     have j:=aA (fun W=>iM p.od 0 I.ord W);rw[hb1] at j;have m:=aA (fun W=>dD (a:Int) W);go_quiet (first|(go_at_call 187;exact Calls.quiet_of_same (j.o _))|(go_at_call 185;exact Calls.quiet_of_same (m.o _)))
     clear j m;go_wp2_with fail;refine(iM _ _ _ _).mono ?_;rintro e f ⟨rfl,rfl⟩;go_wp2_with fail
     cases hb2:wiB p.cl 0 7 with
     | false=>
      refine(dY _ _).mono ?_;rintro e f ⟨rfl,rfl⟩;exact⟨rfl,l.o (by simp[rngB,hb0,hb1,hb2]),(nT hR.o.1 k.o).drewN nq⟩
     | true=>
      refine(dD _ _).mono ?_;rintro e f ⟨rfl,rfl⟩;go_wp2_with fail;refine(iM _ _ _ _).mono ?_;rintro e f ⟨rfl,rfl⟩;go_wp2_with fail
      cases hb3:wiB p.lv 0 256 with
      | false=>
       refine(dY _ _).mono ?_;rintro e f ⟨rfl,rfl⟩;exact⟨rfl,l.o (by simp[rngB,hb0,hb1,hb2,hb3]),(nT hR.o.1 k.o).drewN nq⟩
      | true=>
       refine(dD _ _).mono ?_;rintro e f ⟨rfl,rfl⟩;go_wp2_with fail;refine(iM _ _ _ _).mono ?_;rintro e f ⟨rfl,rfl⟩;go_wp2_with fail
       cases hb4:wiB p.nx (-1) ((n:Int)-1)with
       | false=>
        refine(dY _ _).mono ?_;rintro e f ⟨rfl,rfl⟩;exact⟨rfl,l.o (by simp[rngB,hb0,hb1,hb2,hb3,hb4]),(nT hR.o.1 k.o).drewN nq⟩
       | true=>
        refine(dD _ _).mono ?_;rintro e f ⟨rfl,rfl⟩;go_wp2_with fail;refine(iM _ _ _ _).mono ?_;rintro e f ⟨rfl,rfl⟩;go_wp2_with fail
        cases hb5:wiB p.pv (-1) ((n:Int)-1)with
        | false=>
         refine(dY _ _).mono ?_;rintro e f ⟨rfl,rfl⟩;exact⟨rfl,l.o (by simp[rngB,hb0,hb1,hb2,hb3,hb4,hb5]),(nT hR.o.1 k.o).drewN nq⟩
        | true=>
         refine(dD _ _).mono ?_;rintro e f ⟨rfl,rfl⟩;go_wp2_with fail;refine(iM _ _ _ _).mono ?_;rintro e f ⟨rfl,rfl⟩;go_wp2_with fail
         cases hb6:wiB p.fs (-1) 255 with
         | false=>
          refine(dY _ _).mono ?_;rintro e f ⟨rfl,rfl⟩;exact⟨rfl,l.o (by simp[rngB,hb0,hb1,hb2,hb3,hb4,hb5,hb6]),(nT hR.o.1 k.o).drewN nq⟩
         | true=>
          refine(dD _ _).mono ?_;rintro e f ⟨rfl,rfl⟩;go_wp2_with fail;have J:=aA (show Kt nO w _/\_ from⟨(nT hR.o.1 k.o).drewN nq,GA.o (by simp[rngB,hb0,hb1,hb2,hb3,hb4,hb5,hb6])⟩);go_round
          case rel=>exact⟨a+1,by omega,by go_num,J⟩
          case measure=>simp[intOf];omega
  ·have a1:a=n:=(by omega);have A:¬(a:Int)<n:=(by omega);go_wp2_with fail;first|go_end0|go_ret
   exact⟨FG.o (fun x hx=>hR.o.2 x (by omega)),hR.o.1⟩
end Go.Proofs.YtfmgnljlkdmndaaGreatDoor.W
