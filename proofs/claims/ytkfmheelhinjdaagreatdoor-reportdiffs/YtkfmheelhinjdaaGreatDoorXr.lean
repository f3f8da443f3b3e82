import Derived.Test.YtkfmheelhinjdaaGreatDoorZc
import Derived.Laws.StructEq
import Derived.Test.YtkfmheelhinjdaaGreatDoorXc
set_option maxRecDepth 1000000
set_option maxHeartbeats 80000000
namespace Go.Proofs.YtkfmheelhinjdaaGreatDoor
open _root_.Go.Proofs.Tryz
open Go.RowKit
set_option linter.unusedVariables false
def iJ(n:Nat)(ws:List Nat)(k a x:Nat):Prop:=
 (∀ p,p<64->(x/2 ^ p%2 == 1)=(decide (k<=64*a+p) && aF ws (64*a+p)))/\(∀ j,k<=j->j<64*a->aF ws j=false)/\k<64*(a+1)
theorem iJ.start(n:Nat)(ws:List Nat)(k:Nat):iJ n ws k (k/64) (ws.getD (k/64) 0/2 ^ (k%64)*2 ^ (k%64)%2 ^ 64):=by
 refine⟨?_,fun j h1 h2=>by omega,by omega⟩;intro p hp;rw[VP _ _ _ hp,tQ _ _ _ hp];by_cases h:k%64<=p
 ·have:k<=64*(k/64)+p:=by omega
  simp[h,this]
 ·have:¬k<=64*(k/64)+p:=by omega
  simp[h,this]
theorem UZ(x:Nat)(p:Nat)(h:x=0):(x/2 ^ p%2 == 1)=false:=by subst h;simp
theorem iJ.step{n:Nat}{ws:List Nat}{k a x:Nat}(h:iJ n ws k a x)(hx:x=0):(∀ j,k<=j->j<64*(a+1)->aF ws j=false):=by
 intro j h1 h2;by_cases h3:j<64*a
 ·exact h.2.1 j h1 h3
 ·have h4:=h.1 (j-64*a) (by omega);have e : 64*a+(j-64*a)=j:=by omega
  rw[UZ x _ hx,e,decide_eq_true h1,Bool.true_and] at h4;exact h4.symm
theorem iJ.next{n:Nat}{ws:List Nat}{k a x:Nat}(h:iJ n ws k a x)(hx:x=0):iJ n ws k (a+1) (ws.getD (a+1) 0):=by
 have h3:=h.2.2;refine⟨?_,h.step hx,by omega⟩;intro p hp;have:k<=64*(a+1)+p:=by omega
 rw[tQ _ _ _ hp,decide_eq_true this,Bool.true_and]
theorem iJ.hit{w:World}{b c n:Nat}{ws:List Nat}{k a x:Nat}(hs:SetAt w b c n ws)(h:iJ n ws k a x)(hx:x≠0)(hlt:x<2 ^ 64):∃ p,p<64/\x &&& (2 ^ 64-x)=2 ^ p/\bQ n ws k=((64*a+p:Nat):Int):=by
 obtain⟨p,hp,h1,h2,h3⟩:=OI x hx hlt;refine⟨p,hp,h3,?_⟩;have hb:=h.1 p hp;rw[h1] at hb;simp only[beq_self_eq_true] at hb;have hb2:=hb.symm;rw[Bool.and_eq_true,decide_eq_true_eq] at hb2;refine VO n ws k _ ?_ hb2.1 hb2.2 ?_
 ·rcases Nat.lt_or_ge (64*a+p) n with g|g
  ·exact g
  ·rw[hs.bit_past _ g] at hb2;cases hb2.2
 ·intro i g1 g2;by_cases g3:i<64*a
  ·exact h.2.1 i g1 g3
  ·have g4:=h.1 (i-64*a) (by omega);have e : 64*a+(i-64*a)=i:=(by omega);rw[h2 _ (by omega),e,decide_eq_true g1,Bool.true_and] at g4;exact g4.symm
theorem SQ(b c n:Nat)(ws:List Nat)(k:Nat)(w:World)(h:SetAt w b c n ws)(hkb:k<=9223372036854775807):
  Calls prog 219 #[.pointer (some ⟨b,0,none⟩),.int .i64 k] w fun e w'=>e=.returned (.int .i64 (bQ n ws k))/\w'=w:=by
 by_cases hk:k<n
 ·have hl:=h.len;have hn:=h.nle;have hlm:ws.length<=1048576:=by omega
  have hd:aC n (k:Int)=true:=by simp only[aC];exact decide_eq_true (by omega)
  obtain⟨q,hq⟩:=xe (k/64);obtain⟨r,hr⟩:=xe (k%64);have hst:=iJ.start n ws k;rw[<-hq,<-hr] at hst;have hql:q<ws.length:=by omega
  have hr64:r<64:=by omega
  have hcc:=h.cc q hql;have hlt:=h.lt64 q;have h1:=h.cb1;obtain⟨x,hx⟩:=xe (ws.getD q 0);rw[<-hx] at hcc hlt hst;have hq1:(k:Int)/64=(q:Int):=by omega
  have hr1:(k:Int)%64=(r:Int):=by omega
  obtain⟨y,hy⟩:=xe (x/2 ^ r*2 ^ r%2 ^ 64);rw[<-hy] at hst;have hy64:y<2 ^ 64:=by rw[hy];exact Nat.mod_lt _ (by decide)
  have hyw:IntKind.u64.wrap ((x:Int)/2 ^ r*2 ^ r)=(y:Int):=by
   rw[wrap_u64,hy,tR];simp
  have HA:=aA h;have HST:=aA hst;have hkb2:k<=1048576:=by omega
  clear hst h hx hy hq hr hk hl;go_enter func219,ntmps219;go_wp2_with (go_at_call 268;refine(kV b c n ws _ _ HA.out).mono ?_;rintro e w' ⟨rfl,rfl⟩)
  go_loop [5,6] (fun at_ wd=>∃ a z:Nat,a<ws.length/\z<18446744073709551616/\at_=.int .i64 a/\wd=.int .u64 z/\Hid (iJ n ws k a z)) (fun at_ _=>ws.length-(intOf at_).toNat)
  case atStart=>exact⟨q,y,hql,hy64,rfl,rfl,HST⟩
  case round=>
   obtain⟨a,z,ha,hz,rfl,rfl,hinv⟩:=hrel;have hlen:=aA HA.out.len;clear hcc hlt HST hyw hq1 hr1 hr64;by_cases h0:z=0
   ·by_cases he:a+1=ws.length
    ·have ht:((a:Int)+1 == (ws.length:Int))=true:=(by rw[beq_iff_eq];omega);have e:=aA (qZ n ws k (fun j g1 g2=>hinv.out.step h0 j g1 (by have:=hlen.out;omega)));subst h0;clear he;go_wp2
     go_ret;exact⟨eJ e.out.symm,rfl⟩
    ·obtain⟨a1,ha1⟩:=xe (a+1);have ha1l:a1<ws.length:=(by omega);have hai:(a:Int)+1=(a1:Int):=(by omega);have ht:((a1:Int) == (ws.length:Int))=false:=(by rw[beq_eq_false_iff_ne];omega);have hc1:=HA.out.cc a1 ha1l;have hl1:=HA.out.lt64 a1;have hnx:=hinv.out.next h0;rw[<-ha1] at hnx;obtain⟨z1,hz1⟩:=xe (ws.getD a1 0);rw[<-hz1] at hc1 hl1 hnx;have HN:=aA hnx;subst h0;have HA1:=aA ha1;clear he hnx hz1 ha1;go_wp2
     go_round
     case rel=>exact⟨a1,z1,ha1l,hl1,rfl,rfl,HN⟩
     case measure=>(have:=HA1.out);(simp[intOf]);omega
   ·obtain⟨p,hp,h3,h4⟩:=hinv.out.hit HA.out h0 hz;obtain⟨m,hm⟩:=xe (2 ^ 64-z);have hneg:IntKind.u64.wrap (-(z:Int))=(m:Int):=(by rw[wrap_u64];omega);obtain⟨t,ht⟩:=xe (2 ^ p);have htlt:t<2 ^ 64:=(by rw[ht];exact(iY p 64).2 hp);have hand:bits BinOp.and IntKind.u64 (z:Int) (m:Int)=t:=by
     rw[u64_and_nat z m hz (by omega),ht,<-h3,hm]
    have hlg:lg t=(p:Int):=by
     rw[nG t (by have:=Nat.two_pow_pos p;omega),ht,Nat.log2_two_pow]
    have hzf:((z:Int) == 0)=false:=(by rw[beq_eq_false_iff_ne];omega);have E:=aA h4;clear h3 h4 hm ht h0;go_wp2_with (go_at_call 160;refine(oJ t htlt _).mono ?_;rintro e w' ⟨rfl,rfl⟩)
    go_ret;exact⟨eJ (by rw[E.out];omega),rfl⟩
 ·have hd:aC n (k:Int)=false:=by simp only[aC];exact decide_eq_false (by omega)
  have e:=aA (qZ n ws k (fun j h1 h2=>by omega));clear hk;go_enter func219,ntmps219;go_wp2_with (go_at_call 268;refine(kV b c n ws _ _ h).mono ?_;rintro e w' ⟨rfl,rfl⟩)
  go_ret;exact⟨eJ e.out.symm,rfl⟩
theorem SM(b c n:Nat)(ws:List Nat)(i:Int)(w:World)(h:SetAt w b c n ws)(hi:i<0):
  Calls prog 219 #[.pointer (some ⟨b,0,none⟩),.int .i64 i] w fun e w'=>e=.returned (.int .i64 (bQ n ws 0))/\w'=w:=by
 by_cases hk : 0<n
 ·have hl:=h.len;have hn:=h.nle;have hlm:ws.length<=1048576:=by omega
  have hd:aC n 0=true:=by simp only[aC];exact decide_eq_true (by omega)
  have hst:=iJ.start n ws 0;have hql : 0<ws.length:=by omega
  have hcc:=h.cc 0 hql;have hlt:=h.lt64 0;have h1:=h.cb1;have e0:ws.getD (0/64) 0/2 ^ (0%64)*2 ^ (0%64)%2 ^ 64=ws.getD 0 0:=by
   simp only[Nat.zero_div,Nat.zero_mod,Nat.pow_zero,Nat.div_one,Nat.mul_one];exact Nat.mod_eq_of_lt hlt
  rw[e0] at hst;obtain⟨y,hx⟩:∃ x,x=ws.getD 0 0:=⟨_,rfl⟩;rw[<-hx] at hcc hlt hst;have HA:=aA h;have HST:=aA hst;clear hst h hx hk hl e0;go_enter func219,ntmps219;go_wp2_with (go_at_call 268;refine(kV b c n ws _ _ HA.out).mono ?_;rintro e w' ⟨rfl,rfl⟩)
  go_loop [5,6] (fun at_ wd=>∃ a z:Nat,a<ws.length/\z<18446744073709551616/\at_=.int .i64 a/\wd=.int .u64 z/\Hid (iJ n ws 0 a z)) (fun at_ _=>ws.length-(intOf at_).toNat)
  case atStart=>exact⟨0,y,hql,hlt,rfl,rfl,HST⟩
  case round=>
   obtain⟨a,z,ha,hz,rfl,rfl,hinv⟩:=hrel;have hlen:=aA HA.out.len;clear hcc hlt HST;by_cases h0:z=0
   ·by_cases he:a+1=ws.length
    ·have ht:((a:Int)+1 == (ws.length:Int))=true:=(by rw[beq_iff_eq];omega);have e:=aA (qZ n ws 0 (fun j g1 g2=>hinv.out.step h0 j g1 (by have:=hlen.out;omega)));subst h0;clear he;go_wp2
     go_ret;exact⟨eJ e.out.symm,rfl⟩
    ·obtain⟨a1,ha1⟩:=xe (a+1);have ha1l:a1<ws.length:=(by omega);have hai:(a:Int)+1=(a1:Int):=(by omega);have ht:((a1:Int) == (ws.length:Int))=false:=(by rw[beq_eq_false_iff_ne];omega);have hc1:=HA.out.cc a1 ha1l;have hl1:=HA.out.lt64 a1;have hnx:=hinv.out.next h0;rw[<-ha1] at hnx;obtain⟨z1,hz1⟩:=xe (ws.getD a1 0);rw[<-hz1] at hc1 hl1 hnx;have HN:=aA hnx;subst h0;have HA1:=aA ha1;clear he hnx hz1 ha1;go_wp2
     go_round
     case rel=>exact⟨a1,z1,ha1l,hl1,rfl,rfl,HN⟩
     case measure=>(have:=HA1.out);(simp[intOf]);omega
   ·obtain⟨p,hp,h3,h4⟩:=hinv.out.hit HA.out h0 hz;obtain⟨m,hm⟩:=xe (2 ^ 64-z);have hneg:IntKind.u64.wrap (-(z:Int))=(m:Int):=(by rw[wrap_u64];omega);obtain⟨t,ht⟩:=xe (2 ^ p);have htlt:t<2 ^ 64:=(by rw[ht];exact(iY p 64).2 hp);have hand:bits BinOp.and IntKind.u64 (z:Int) (m:Int)=t:=by
     rw[u64_and_nat z m hz (by omega),ht,<-h3,hm]
    have hlg:lg t=(p:Int):=by
     rw[nG t (by have:=Nat.two_pow_pos p;omega),ht,Nat.log2_two_pow]
    have hzf:((z:Int) == 0)=false:=(by rw[beq_eq_false_iff_ne];omega);have E:=aA h4;clear h3 h4 hm ht h0;go_wp2_with (go_at_call 160;refine(oJ t htlt _).mono ?_;rintro e w' ⟨rfl,rfl⟩)
    go_ret;exact⟨eJ (by rw[E.out];omega),rfl⟩
 ·have hd:aC n 0=false:=by simp only[aC];exact decide_eq_false (by omega)
  have e:=aA (qZ n ws 0 (fun j h1 h2=>by omega));clear hk;go_enter func219,ntmps219;go_wp2_with (go_at_call 268;refine(kV b c n ws _ _ h).mono ?_;rintro e w' ⟨rfl,rfl⟩)
  go_ret;exact⟨eJ e.out.symm,rfl⟩
theorem yG(b c n:Nat)(ws:List Nat)(i:Int)(hhi:i<=9223372036854775807)(w:World)(h:SetAt w b c n ws):
  Calls prog 219 #[.pointer (some ⟨b,0,none⟩),.int .i64 i] w fun e w'=>e=.returned (.int .i64 (nxt n ws i))/\w'=w:=by
 by_cases hi:i<0
 ·have e:nxt n ws i=bQ n ws 0:=by unfold nxt;rw[show i.toNat=0 by omega]
  rw[e];exact SM b c n ws i w h hi
 ·obtain⟨k,rfl⟩:=Int.eq_ofNat_of_zero_le (by omega : 0<=i);have e:nxt n ws (k:Int)=bQ n ws k:=by unfold nxt;rw[Int.toNat_natCast]
  rw[e];exact SQ b c n ws k w h (by omega)
end Go.Proofs.YtkfmheelhinjdaaGreatDoor
namespace Go.Proofs.YtkfmheelhinjdaaGreatDoor.W
open _root_.Go.Proofs.Tryz
open Go.RowKit
set_option linter.unusedVariables false
def KW(w:World):Type:={ W:World // Kt nO w W }
def KW.v{w:World}(x:KW w):World:=x.1
theorem KW.k{w:World}(x:KW w):Kt nO w x.v:=x.2
instance (w:World):Nonempty (KW w):=⟨⟨w,Kt.refl _ _⟩⟩
theorem cI{P:Program}{id:Nat}{Q:Exit->Act->World->Prop}{a:Act}{w:World}{l:List Oper}(hm:P.follows .mixedOrders=true)(hB:Region.lexB .any l.toArray=true)
  (h:wpQuiet P l.toArray (fun w'=>∃ x:KW w,w'=x.v) (fun a'=>∀ x:KW w,Q .normal a' x.v) l a):(Code.region id l.toArray true).wp P Q a w:=by
 refine wp_region_quiet (C:=fun w'=>∃ x:KW w,w'=x.v) hm hB ⟨⟨w.drew,(Kt.refl _ w).drew⟩,rfl⟩ ?_;have e:(fun a'=>∀ w',(∃ x:KW w,w'=x.v)->Q .normal a' w')=(fun a'=>∀ x:KW w,Q .normal a' x.v):=by
  funext a'
  exact propext ⟨fun h x=>h _ ⟨x,rfl⟩,fun h w' ⟨x,hx⟩=>hx▸h x⟩
 rw[e];simpa using h
theorem Calls.kept_of{P:Program}{f:FuncId}{args:Array Value}{w:World}{x:KW w}{v:Value}
  (h:Calls P f args x.v fun e w'=>e=.returned v/\Kt nO x.v w'):Calls P f args x.v fun e w''=>e=.returned v/\∃ y:KW w,w''=y.v:=
 h.mono fun _ w1 ⟨he,hk⟩=>⟨he,⟨w1,nT x.k hk⟩,rfl⟩
abbrev bM(p:Int):Ending:=.panicked [{ v:=.iface 218 (.int .i64 p),recovered:=false }]
def bB:Option Nat->Ending
 | none=>.returned (.tuple #[])
 | some p=>bM (p:Int)
theorem cH(p:Int)(w:World):Calls prog 212 #[.bool true,.int .i64 p] w fun e w'=>e=.returned (.tuple #[])/\w'=w:=by
 go_enter func212,ntmps212;go_wp2
 first|go_end0|go_ret
 exact⟨rfl,rfl⟩
theorem dD(p:Int)(w:World):Calls prog 212 #[.bool false,.int .i64 p] w fun e w'=>e=bM p/\w'=w:=by
 go_enter func212,ntmps212;go_wp2
 exact⟨rfl,rfl,rfl⟩
theorem ZJ(xs:Array Value)(w:World):Sem.run prog (callFunc 212 xs) w=.ok (.enter 212 xs) w:=by
 simp[callFunc,go_sem,func212];rfl
def wiB(x a b:Int):Bool:=decide (a<=x/\x<=b)
theorem gP(x a b:Int)(w:World):Calls prog 214 #[.int .i64 x,.int .i64 a,.int .i64 b] w fun e w'=>e=.returned (.bool (wiB x a b))/\w'=w:=by
 by_cases h:a<=x
 ·go_enter func214,ntmps214;go_wp2
  go_ret;exact⟨cO (by simp[wiB,h]),rfl⟩
 ·go_enter func214,ntmps214;go_wp2
  go_ret;exact⟨cO (decide_eq_false (by omega)).symm,rfl⟩
structure Img where
 bS:Nat
 lim:Int
 ord:Int
 reg:Int
 nm:Nat
 mem:Nat->Nat
 np:Nat
 pg:Nat->Pg
 no:Nat
 pr:Nat->List Nat
 hd:List Nat
 pt:List Int
structure ImV where
 m:Value
 p:Value
 r:Value
 h:Value
 t:Value
abbrev N64(x:Int):Prop := -9223372036854775808<=x/\x<=9223372036854775807
def kQ(w:World)(bl o i:Nat)(p:Pg):Prop:=∀ j,j<11->w.cell? ⟨bl,o+i*11+j,none⟩=some (p.fld j)
structure PgIn(p:Pg):Prop where
 kd:N64 p.kd
 od:N64 p.od
 cl:N64 p.cl
 lv:N64 p.lv
 nx:N64 p.nx
 pv:N64 p.pv
 fs:N64 p.fs
 b0:p.b0<18446744073709551616
 b1:p.b1<18446744073709551616
 b2:p.b2<18446744073709551616
 b3:p.b3<18446744073709551616
def fB(w:World)(v:Value)(n:Nat)(C:Nat->Nat->Nat->Prop):Prop:=
 n<=9223372036854775807/\∃ oa oc,v=.slice oa n oc/\(n=0\/∃ bl o,oa=some ⟨bl,o,none⟩/\bl<w.heap.size/\∀ i,i<n->C bl o i)
def ByC(w:World)(f:Nat->Nat)(bl o i:Nat):Prop:=f i<256/\w.cell? ⟨bl,o+i,none⟩=some (.int .u8 (f i:Int))
def InC(w:World)(l:List Int)(bl o i:Nat):Prop:=N64 (l.getD i 0)/\w.cell? ⟨bl,o+i,none⟩=some (.int .i64 (l.getD i 0))
def WdC(w:World)(l:List Nat)(bl o i:Nat):Prop:=l.getD i 0<18446744073709551616/\w.cell? ⟨bl,o+i,none⟩=some (.int .u64 ((l.getD i 0:Nat):Int))
structure ImD(w:World)(I:Img)(V:ImV):Prop where
 b64:I.bS<18446744073709551616
 lim:N64 I.lim
 ord:N64 I.ord
 reg:N64 I.reg
 mem:fB w V.m I.nm (ByC w I.mem)
 mcp:∀ a n c,V.m=.slice a n c->n<=c
 pgs:fB w V.p I.np fun bl o i=>PgIn (I.pg i)/\kQ w bl o i (I.pg i)
 prs:∃ ws:Nat->Value,fB w V.r I.no fun bl o i=>w.cell? ⟨bl,o+i,none⟩=some (ws i)/\Src w (ws i) (I.pr i)
 hds:fB w V.h I.hd.length (WdC w I.hd)
 pts:fB w V.t I.pt.length (InC w I.pt)
abbrev cR(I:Img)(V:ImV):Obj:=.cells #[.int .u64 I.bS,.int .i64 I.lim,.int .i64 I.ord,.int .i64 I.reg,V.m,V.p,V.r,V.h,V.t] 38 (0,0)
abbrev imA(I:Img)(V:ImV):Value:=.agg #[.int .u64 I.bS,.int .i64 I.lim,.int .i64 I.ord,.int .i64 I.reg,V.m,V.p,V.r,V.h,V.t]
structure ImAt(w:World)(b:Nat)(I:Img)(V:ImV):Prop where
 bx:w.heap[b]?=some (cR I V)
 d:ImD w I V
theorem fB.keep{w W:World}{v:Value}{n:Nat}{C D:Nat->Nat->Nat->Prop}(h:fB w v n C)(hk:Kt nO w W)(hcd:∀ bl o i,C bl o i->D bl o i):fB W v n D:=by
 obtain⟨h1,oa,oc,h2,h3⟩:=h;refine⟨h1,oa,oc,h2,?_⟩;rcases h3 with h3|⟨bl,o,e,hl,hc⟩
 ·exact .inl h3
 ·exact .inr ⟨bl,o,e,Nat.lt_of_lt_of_le hl hk.size,fun i hi=>hcd _ _ _ (hc i hi)⟩
theorem kQ.keep{w W:World}{bl o i:Nat}{p:Pg}(h:kQ w bl o i p)(hk:Kt nO w W):kQ W bl o i p:=fun j hj=>hk.cell (fun x=>x) (h j hj)
theorem ImD.keep{w W:World}{I:Img}{V:ImV}(h:ImD w I V)(hk:Kt nO w W):ImD W I V:=by
 refine⟨h.b64,h.lim,h.ord,h.reg,h.mem.keep hk fun bl o i hc=>⟨hc.1,hk.cell (fun x=>x) hc.2⟩,h.mcp,h.pgs.keep hk fun bl o i hc=>⟨hc.1,hc.2.keep hk⟩,?_,h.hds.keep hk fun bl o i hc=>⟨hc.1,hk.cell (fun x=>x) hc.2⟩,h.pts.keep hk fun bl o i hc=>⟨hc.1,hk.cell (fun x=>x) hc.2⟩⟩;obtain⟨ws,hp⟩:=h.prs;exact⟨ws,hp.keep hk fun bl o i hc=>⟨hk.cell (fun x=>x) hc.1,hc.2.kept hk (fun _ _ x=>x)⟩⟩
theorem ImAt.keep{w W:World}{b:Nat}{I:Img}{V:ImV}(h:ImAt w b I V)(hk:Kt nO w W):ImAt W b I V:=
 ⟨(hk.block _ (lH h.bx) (fun x=>x)).trans h.bx,h.d.keep hk⟩
theorem ImAt.cells{w:World}{b:Nat}{I:Img}{V:ImV}(h:ImAt w b I V):w.cell? ⟨b,0,none⟩=some (.int .u64 I.bS)/\w.cell? ⟨b,1,none⟩=some (.int .i64 I.lim)/\w.cell? ⟨b,2,none⟩=some (.int .i64 I.ord)/\w.cell? ⟨b,3,none⟩=some (.int .i64 I.reg)/\w.cell? ⟨b,4,none⟩=some V.m/\w.cell? ⟨b,5,none⟩=some V.p/\w.cell? ⟨b,6,none⟩=some V.r/\w.cell? ⟨b,7,none⟩=some V.h/\w.cell? ⟨b,8,none⟩=some V.t:=by
 refine⟨?_,?_,?_,?_,?_,?_,?_,?_,?_⟩ <;> simp[World.cell?,h.bx]
theorem ImAt.all{w:World}{b:Nat}{I:Img}{V:ImV}(h:ImAt w b I V):(∀ x:KW w,x.v.cell? ⟨b,0,none⟩=some (.int .u64 I.bS))/\(∀ x:KW w,x.v.cell? ⟨b,1,none⟩=some (.int .i64 I.lim))/\(∀ x:KW w,x.v.cell? ⟨b,2,none⟩=some (.int .i64 I.ord))/\(∀ x:KW w,x.v.cell? ⟨b,3,none⟩=some (.int .i64 I.reg))/\(∀ x:KW w,x.v.cell? ⟨b,4,none⟩=some V.m)/\(∀ x:KW w,x.v.cell? ⟨b,5,none⟩=some V.p)/\(∀ x:KW w,x.v.cell? ⟨b,6,none⟩=some V.r)/\(∀ x:KW w,x.v.cell? ⟨b,7,none⟩=some V.h)/\(∀ x:KW w,x.v.cell? ⟨b,8,none⟩=some V.t):=
 ⟨fun x=>(h.keep x.k).cells.1,fun x=>(h.keep x.k).cells.2.1,fun x=>(h.keep x.k).cells.2.2.1,fun x=>(h.keep x.k).cells.2.2.2.1,fun x=>(h.keep x.k).cells.2.2.2.2.1,fun x=>(h.keep x.k).cells.2.2.2.2.2.1,fun x=>(h.keep x.k).cells.2.2.2.2.2.2.1,fun x=>(h.keep x.k).cells.2.2.2.2.2.2.2.1,fun x=>(h.keep x.k).cells.2.2.2.2.2.2.2.2⟩
theorem fW{Q:Exit->Act->World->Prop}{o:Oper}{a:Act}{w:World}{x y:Operand}{ts:Array TypeId}{p:Int}(ho:o.op=.call { callee:=.value (.func 212),args:=#[x,y],argTypes:=ts })
  (hx:a.eval x=.bool false) (hy:a.eval y=.int .i64 p) (h:∀ a',a'.defers=a.defers->Q (.panic [{ v:=.iface 218 (.int .i64 p),recovered:=false }]) a' w):fY prog Q o a w:=by
 refine AP ZJ ho ?_;have e:(#[x,y] : Array Operand).map a.eval=#[.bool false,.int .i64 p]:=by simp[hx,hy]
 rw[e];refine(dD p w).mono ?_;rintro e w1 ⟨rfl,rfl⟩;exact⟨_,rfl,h⟩
def rngB(k np:Int)(p:Pg):Bool:=wiB p.kd 0 4 && (wiB p.od 0 k && (wiB p.cl 0 7 && (wiB p.lv 0 256 && (wiB p.nx (-1) (np-1) && (wiB p.pv (-1) (np-1) && wiB p.fs (-1) 255)))))
abbrev aV(p:Pg):Obj:=.cells #[.int .i64 p.kd,.int .i64 p.od,.int .i64 p.cl,.int .i64 p.lv,.int .i64 p.nx,.int .i64 p.pv,.int .i64 p.fs,.int .u64 p.b0,.int .u64 p.b1,.int .u64 p.b2,.int .u64 p.b3] 99 (0,0)
theorem VX{w:World}{g:Nat}{p:Pg}(h:w.heap[g]?=some (aV p)):w.cell? ⟨g,0,none⟩=some (.int .i64 p.kd)/\w.cell? ⟨g,1,none⟩=some (.int .i64 p.od)/\w.cell? ⟨g,2,none⟩=some (.int .i64 p.cl)/\w.cell? ⟨g,3,none⟩=some (.int .i64 p.lv)/\w.cell? ⟨g,4,none⟩=some (.int .i64 p.nx)/\w.cell? ⟨g,5,none⟩=some (.int .i64 p.pv)/\w.cell? ⟨g,6,none⟩=some (.int .i64 p.fs):=by
 refine⟨?_,?_,?_,?_,?_,?_,?_⟩ <;> simp[World.cell?,h]
theorem ImAt.page{w:World}{b:Nat}{I:Img}{V:ImV}(h:ImAt w b I V)(i:Nat)(hi:i<I.np):∃ bl o oc,V.p=.slice (some ⟨bl,o,none⟩) I.np oc/\PgIn (I.pg i)/\kQ w bl o i (I.pg i):=by
 obtain⟨h1,oa,oc,h2,h3⟩:=h.d.pgs;rcases h3 with h3|⟨bl,o,e,hl,hc⟩
 ·omega
 ·subst e;exact⟨bl,o,oc,h2,hc i hi⟩
theorem kQ.c{w:World}{bl o i:Nat}{p:Pg}(h:kQ w bl o i p):w.cell? ⟨bl,o+i*11,none⟩=some (.int .i64 p.kd)/\w.cell? ⟨bl,o+i*11+1,none⟩=some (.int .i64 p.od)/\w.cell? ⟨bl,o+i*11+2,none⟩=some (.int .i64 p.cl)/\w.cell? ⟨bl,o+i*11+3,none⟩=some (.int .i64 p.lv)/\w.cell? ⟨bl,o+i*11+4,none⟩=some (.int .i64 p.nx)/\w.cell? ⟨bl,o+i*11+5,none⟩=some (.int .i64 p.pv)/\w.cell? ⟨bl,o+i*11+6,none⟩=some (.int .i64 p.fs)/\w.cell? ⟨bl,o+i*11+7,none⟩=some (.int .u64 p.b0)/\w.cell? ⟨bl,o+i*11+8,none⟩=some (.int .u64 p.b1)/\w.cell? ⟨bl,o+i*11+9,none⟩=some (.int .u64 p.b2)/\w.cell? ⟨bl,o+i*11+10,none⟩=some (.int .u64 p.b3):=
 ⟨h 0 (by decide),h 1 (by decide),h 2 (by decide),h 3 (by decide),h 4 (by decide),h 5 (by decide),h 6 (by decide),h 7 (by decide),h 8 (by decide),h 9 (by decide),h 10 (by decide)⟩
theorem zeu(b:Nat)(I:Img)(V:ImV)(w:World)(hI:ImAt w b I V)(hnp:I.np<=1024):
  Calls prog 167 #[.pointer (some ⟨b,0,none⟩)] w fun e w'=>e=bB (fst1 I.np fun i=>rngB I.ord I.np (I.pg i))/\Kt nO w w':=by
 have HI:=aA hI;obtain⟨h1,oa,oc,hv,h3⟩:=hI.d.pgs;obtain⟨c0,c1,c2,c3,c4,c5,c6,c7,c8⟩:=hI.cells;rw[hv] at c5;obtain⟨n,hn⟩:=xe (I.np);rw[<-hn] at c5 hv h1 hnp;have HN:=aA hn;have FB:=aA (show ∀ i,i<n->(∀ a,a<i->rngB I.ord I.np (I.pg a)=true)->rngB I.ord I.np (I.pg i)=false->bM (i:Int)=bB (fst1 I.np fun i=>rngB I.ord I.np (I.pg i))from fun i h1 h2 h3=>by rw[kF (by omega) h2 h3];rfl);have FG:=aA (show(∀ a,a<n->rngB I.ord I.np (I.pg a)=true)->Ending.returned (.tuple #[])=bB (fst1 I.np fun i=>rngB I.ord I.np (I.pg i))from fun h1=>by rw[fst1_ok (fun a ha=>h1 a (by rw[hn];exact ha))];rfl);generalize bB (fst1 I.np fun i=>rngB I.ord I.np (I.pg i))=EE at *;have HV:=aA hv;clear hn hv hI h3;go_enter func167,ntmps167;go_wp2_with fail;go_loopw [16] (fun i W=>∃ a:Nat,a<=n/\i=.int .i64 a/\Hid (Kt nO w W/\∀ x,x<a->rngB I.ord I.np (I.pg x)=true)) (fun i _=>n-(intOf i).toNat)
 case atStart=>exact⟨0,Nat.zero_le _,rfl,aA ⟨Kt.refl _ _,fun x hx=>by omega⟩⟩
 case round=>
  obtain⟨a,ha,rfl,hR⟩:=hrel;by_cases hlt:a<n
  ·have hai:(a:Int)<n:=(by omega);obtain⟨bl,o,oc',hv',hpi,hpc⟩:=(HI.out.keep hR.out.1).page a (by rw[<-HN.out];exact hlt);rw[HV.out] at hv';injection hv' with e1 e2 e3
   subst e1;obtain⟨d0,d1,d2,d3,d4,d5,d6,d7,d8,d9,d10⟩:=hpc.c;have FA:=aA (show rngB I.ord (n:Int) (I.pg a)=false->bM (a:Int)=EE from fun h=>FB.out a hlt hR.out.2 (by rw[<-HN.out];exact h));have GA:=aA (show rngB I.ord (n:Int) (I.pg a)=true->∀ x,x<a+1->rngB I.ord I.np (I.pg x)=true from fun h x hx=>by
    by_cases e:x=a
    ·rw[e,<-HN.out];exact h
    ·exact hR.out.2 x (by omega))
   have HW:=aA (show(wr.alloc (aV (I.pg a))).heap[wr.heap.size]?=some (aV (I.pg a))from nH _ _);have HK:=aA (show Kt nO wr (wr.alloc (aV (I.pg a)))from(Kt.refl _ _).alloc _);have HO:=aA (((HI.out.keep hR.out.1).keep HK.out).cells.2.2.1);generalize I.pg a=p at *;clear hpi hpc e2 e3;go_wp2_with fail;generalize wr.alloc (aV p)=W1 at *;generalize wr.heap.size=g at *;clear d0 d1 d2 d3 d4 d5 d6 d7 d8 d9 d10 c0 c1 c2 c3 c4 c5 c6 c7 c8;obtain⟨p0,p1,p2,p3,p4,p5,p6⟩:=VX HW.out;have c2:=HO.out;refine(gP _ _ _ _).mono ?_;rintro e w1 ⟨rfl,rfl⟩;go_wp2_with fail
   cases hb0:wiB p.kd 0 4 with
   | false=>
    refine(dD _ _).mono ?_;rintro e w1 ⟨rfl,rfl⟩;exact⟨rfl,FA.out (by simp[rngB,hb0]),nT hR.out.1 HK.out⟩
   | true=>
    refine(cH _ _).mono ?_;rintro e w1 ⟨rfl,rfl⟩;go_wp2_with fail
    cases hb1:wiB p.od 0 I.ord with
    | false=>
     have HWI:=aA (fun W=>gP p.od 0 I.ord W);rw[hb1] at HWI;refine zcc (by kernel_rfl) (by kernel_rfl) (by exact List.cons_ne_nil _ _) ?_;dsimp only[List.dropLast,List.getLast];repeat (go_big_quiet_step (first|(go_at_call 214;exact Calls.quiet_of_same (HWI.out _))))
     refine wpQuiet_nil ?_;refine⟨rfl,?_⟩;rintro _ ⟨nq,rfl⟩;exact fW (p:=(a:Int)) rfl rfl rfl fun _ hd=>⟨hd,FA.out (by simp[rngB,hb0,hb1]),(nT hR.out.1 HK.out).drewN nq⟩
    | true=>
     have HWI:=aA (fun W=>gP p.od 0 I.ord W);rw[hb1] at HWI;have HMY:=aA (fun W=>cH (a:Int) W);go_quiet (first|(go_at_call 214;exact Calls.quiet_of_same (HWI.out _))|(go_at_call 212;exact Calls.quiet_of_same (HMY.out _)))
     clear HWI HMY;go_wp2_with fail;refine(gP _ _ _ _).mono ?_;rintro e w1 ⟨rfl,rfl⟩;go_wp2_with fail
     cases hb2:wiB p.cl 0 7 with
     | false=>
      refine(dD _ _).mono ?_;rintro e w1 ⟨rfl,rfl⟩;exact⟨rfl,FA.out (by simp[rngB,hb0,hb1,hb2]),(nT hR.out.1 HK.out).drewN nq⟩
     | true=>
      refine(cH _ _).mono ?_;rintro e w1 ⟨rfl,rfl⟩;go_wp2_with fail;refine(gP _ _ _ _).mono ?_;rintro e w1 ⟨rfl,rfl⟩;go_wp2_with fail
      cases hb3:wiB p.lv 0 256 with
      | false=>
       refine(dD _ _).mono ?_;rintro e w1 ⟨rfl,rfl⟩;exact⟨rfl,FA.out (by simp[rngB,hb0,hb1,hb2,hb3]),(nT hR.out.1 HK.out).drewN nq⟩
      | true=>
       refine(cH _ _).mono ?_;rintro e w1 ⟨rfl,rfl⟩;go_wp2_with fail;refine(gP _ _ _ _).mono ?_;rintro e w1 ⟨rfl,rfl⟩;go_wp2_with fail
       cases hb4:wiB p.nx (-1) ((n:Int)-1)with
       | false=>
        refine(dD _ _).mono ?_;rintro e w1 ⟨rfl,rfl⟩;exact⟨rfl,FA.out (by simp[rngB,hb0,hb1,hb2,hb3,hb4]),(nT hR.out.1 HK.out).drewN nq⟩
       | true=>
        refine(cH _ _).mono ?_;rintro e w1 ⟨rfl,rfl⟩;go_wp2_with fail;refine(gP _ _ _ _).mono ?_;rintro e w1 ⟨rfl,rfl⟩;go_wp2_with fail
        cases hb5:wiB p.pv (-1) ((n:Int)-1)with
        | false=>
         refine(dD _ _).mono ?_;rintro e w1 ⟨rfl,rfl⟩;exact⟨rfl,FA.out (by simp[rngB,hb0,hb1,hb2,hb3,hb4,hb5]),(nT hR.out.1 HK.out).drewN nq⟩
        | true=>
         refine(cH _ _).mono ?_;rintro e w1 ⟨rfl,rfl⟩;go_wp2_with fail;refine(gP _ _ _ _).mono ?_;rintro e w1 ⟨rfl,rfl⟩;go_wp2_with fail
         cases hb6:wiB p.fs (-1) 255 with
         | false=>
          refine(dD _ _).mono ?_;rintro e w1 ⟨rfl,rfl⟩;exact⟨rfl,FA.out (by simp[rngB,hb0,hb1,hb2,hb3,hb4,hb5,hb6]),(nT hR.out.1 HK.out).drewN nq⟩
         | true=>
          refine(cH _ _).mono ?_;rintro e w1 ⟨rfl,rfl⟩;go_wp2_with fail;have R2:=aA (show Kt nO w _/\_ from⟨(nT hR.out.1 HK.out).drewN nq,GA.out (by simp[rngB,hb0,hb1,hb2,hb3,hb4,hb5,hb6])⟩);go_round
          case rel=>exact⟨a+1,by omega,by go_num,R2⟩
          case measure=>simp[intOf];omega
  ·have hae:a=n:=(by omega);have hai:¬(a:Int)<n:=(by omega);go_wp2_with fail;first|go_end0|go_ret
   exact⟨FG.out (fun x hx=>hR.out.2 x (by omega)),hR.out.1⟩
abbrev fH(p:Pg):Value:=.agg #[.int .i64 p.kd,.int .i64 p.od,.int .i64 p.cl,.int .i64 p.lv,.int .i64 p.nx,.int .i64 p.pv,.int .i64 p.fs,.int .u64 p.b0,.int .u64 p.b1,.int .u64 p.b2,.int .u64 p.b3]
abbrev vK(bS:Nat)(lim ord:Int):Value:=.agg #[.int .u64 bS,.int .i64 lim,.int .i64 ord]
theorem fX{P:Program}{id:Nat}{Q:Exit->Act->World->Prop}{a:Act}{w:World}{l:List Oper}(hm:P.follows .mixedOrders=true)(hB:Region.lexB .any l.toArray=true)
  (hl:l≠[]) (h:wpQuiet P l.toArray (fun w'=>∃ x:KW w,w'=x.v) (fun a'=>Region.wanted (l.getLast hl) (yielded l.toArray a'.tmps)=true/\∀ w',(∃ x:KW w,w'=x.v)->fY P Q (l.getLast hl) a' w') l.dropLast a):(Code.region id l.toArray true).wp P Q a w:=
 CI (C:=fun w'=>∃ x:KW w,w'=x.v) hm hB hl ⟨⟨w.drew,(Kt.refl _ w).drew⟩,rfl⟩ h
theorem ZT(bS:Nat)(lim ord:Int)(h:(wiB ord 0 8 && wiB lim 1 64)=false)(w:World):
  Calls prog 213 #[vK bS lim ord] w fun e w'=>e=.returned (.bool false)/\Kt nO w w':=by
 cases h1:wiB ord 0 8 with
 | false=>
  clear h;go_enter func213,ntmps213;go_wp2_with (go_at_call 214;refine(gP _ _ _ _).mono ?_;rintro e w' ⟨rfl,rfl⟩)
  go_ret;exact⟨rfl,(Kt.refl _ w).alloc _⟩
 | true=>
  rw[h1,Bool.true_and] at h;go_enter func213,ntmps213;go_wp2_with (go_at_call 214;refine(gP _ _ _ _).mono ?_;rintro e w' ⟨rfl,rfl⟩)
  go_ret;exact⟨rfl,(Kt.refl _ w).alloc _⟩
theorem XF(bS:Nat)(hb64:bS<18446744073709551616)(lim k:Nat)(hk:k<=8)(hl1 : 1<=lim)(hl2:lim<=64)(w:World):
  Calls prog 213 #[vK bS (lim:Int) (k:Int)] w fun e w'=>e=.returned (.bool (M.mayB bS lim k))/\Kt nO w w':=by
 obtain⟨P,hP⟩:=xe (2 ^ k);have hP8:=M.pow8 k hk;rw[<-hP] at hP8;obtain⟨lp,hlp⟩:=xe (lim*P);have hlp2:lp<=16384:=by
  rw[hlp];exact Nat.le_trans (Nat.mul_le_mul hl2 hP8.2) (by decide)
 have hw1:wrap64 ((lim:Int)*2 ^ k)=(lp:Int):=by
  have e:((2:Int) ^ k)=((2 ^ k:Nat):Int):=by simp
  have e2:(lim:Int)*((P:Nat):Int)=(lp:Int):=by rw[hlp];simp
  rw[e,<-hP,e2];unfold wrap64;omega
 have hB:M.Bounds (lim:Int) (k:Int):=by unfold M.Bounds;omega
 have hmay:M.mayB bS lim k=(decide (lp<=1024) && (decide (bS≠0) && decide (bS%M.RS k=0) && decide (bS+lim*M.RS k<=9223372036854775808))):=by
  unfold M.mayB;rw[decide_eq_true hB,Int.toNat_natCast,Int.toNat_natCast,<-hP,<-hlp,Bool.true_and]
 rw[hmay];clear hmay hB;obtain⟨R,hR⟩:=xe (M.RS k);have hR2:R=4096*P:=by rw[hR,M.RS,hP]
 obtain⟨lr,hlr⟩:=xe (lim*R);have hlr2:lr=4096*lp:=by rw[hlr,hR2,hlp,Nat.mul_left_comm]
 have hmul:(lim:Int)*(R:Int)=lr:=by rw[hlr];simp
 rw[<-hR,<-hlr];have hRv:IntKind.u64.wrap ((4096:Int)*2 ^ k)=(R:Int):=by
  have e:((2:Int) ^ k)=((2 ^ k:Nat):Int):=by simp
  rw[wrap_u64,e,<-hP];omega
 have hR0:¬(R:Int)=0:=by omega
 have hRl:R<=1048576:=by omega
 have hi1:wiB (k:Int) 0 8=true:=by unfold wiB;exact decide_eq_true (by omega)
 have hi2:wiB (lim:Int) 1 64=true:=by unfold wiB;exact decide_eq_true (by omega)
 by_cases h1:lp<=1024
 ·have h1':¬(1024:Int)<lp:=by omega
  have hd:decide (lp<=1024)=true:=decide_eq_true h1;rw[hd,Bool.true_and];clear hP hlp hR hd;by_cases h0:bS=0
  ·have hb0:((bS:Int) != 0)=false:=(by rw[h0];rfl);have H0:=aA h0;clear hR2 hlr hlr2 h0;go_enter func213,ntmps213;go_wp2_with (go_at_call 214;refine(gP _ _ _ _).mono ?_;rintro e w' ⟨rfl,rfl⟩)
   go_ret;exact⟨cO (by rw[H0.out];simp),(Kt.refl _ w).alloc _⟩
  ·have hb0:((bS:Int) != 0)=true:=(by rw[bne_iff_ne];omega);have hd0:decide (bS≠0)=true:=decide_eq_true h0;rw[hd0,Bool.true_and];by_cases h2:bS%R=0
   ·have hm:((bS:Int)%(R:Int) == 0)=true:=(by rw[beq_iff_eq];omega);have hd2:decide (bS%R=0)=true:=decide_eq_true h2;rw[hd2,Bool.true_and];clear hR2 hlr h2 hd2 hd0;go_enter func213,ntmps213;go_wp2_with (go_at_call 214;refine(gP _ _ _ _).mono ?_;rintro e w' ⟨rfl,rfl⟩)
    go_ret;exact⟨cO (by rw[decide_eq_decide];omega),(Kt.refl _ w).alloc _⟩
   ·have hm:((bS:Int)%(R:Int) == 0)=false:=(by rw[beq_eq_false_iff_ne];omega);have hd2:decide (bS%R=0)=false:=decide_eq_false h2;rw[hd2,Bool.false_and];clear hR2 hlr hlr2 h2 hd2 hd0;go_enter func213,ntmps213;go_wp2_with (go_at_call 214;refine(gP _ _ _ _).mono ?_;rintro e w' ⟨rfl,rfl⟩)
    go_ret;exact⟨rfl,(Kt.refl _ w).alloc _⟩
 ·have h1':(1024:Int)<lp:=by omega
  have hd:decide (lp<=1024)=false:=decide_eq_false h1;rw[hd,Bool.false_and];clear hP hlp hR hd hR2 hlr hlr2;go_enter func213,ntmps213;go_wp2_with (go_at_call 214;refine(gP _ _ _ _).mono ?_;rintro e w' ⟨rfl,rfl⟩)
  go_ret;exact⟨rfl,(Kt.refl _ w).alloc _⟩
theorem GP(bS:Nat)(hb64:bS<18446744073709551616)(lim ord:Int)(w:World):
  Calls prog 213 #[vK bS lim ord] w fun e w'=>e=.returned (.bool (M.mayB bS lim ord))/\Kt nO w w':=by
 by_cases h:M.Bounds lim ord
 ·have h':=h;unfold M.Bounds at h';obtain⟨l,rfl⟩:=Int.eq_ofNat_of_zero_le (by omega : 0<=lim);obtain⟨k,rfl⟩:=Int.eq_ofNat_of_zero_le h'.1;exact XF bS hb64 l k (by omega) (by omega) (by omega) w
 ·have e:M.mayB bS lim ord=false:=by unfold M.mayB;rw[decide_eq_false h,Bool.false_and,Bool.false_and]
  rw[e];refine ZT bS lim ord ?_ w;unfold M.Bounds at h;unfold wiB;by_cases h1 : 0<=ord/\ord<=8
  ·rw[decide_eq_true h1,Bool.true_and];exact decide_eq_false (by omega)
  ·rw[decide_eq_false h1];rfl
theorem zet(b:Nat)(I:Img)(V:ImV)(w:World)(hI:ImAt w b I V):
  Calls prog 165 #[.pointer (some ⟨b,0,none⟩)] w fun e w'=>e=bB (if M.mayB I.bS I.lim I.ord=true then none else some 0)/\Kt nO w w':=by
 obtain⟨c0,c1,c2,c3,c4,c5,c6,c7,c8⟩:=hI.cells;have HM:=aA (fun W=>GP I.bS hI.d.b64 I.lim I.ord W)
 cases hm:M.mayB I.bS I.lim I.ord with
 | true=>
  rw[hm] at HM;go_enter func165,ntmps165;go_wp2_with fail;refine(HM.out _).mono ?_;rintro e w1 ⟨rfl,hk⟩;have K1:=aA hk;clear hk c0 c1 c2 c3 c4 c5 c6 c7 c8;go_wp2_with fail;refine(cH _ _).mono ?_;rintro e w2 ⟨rfl,rfl⟩;go_wp2_with fail;first|go_end0|go_ret
  exact⟨by simp[bB],K1.out⟩
 | false=>
  rw[hm] at HM;go_enter func165,ntmps165;go_wp2_with fail;refine(HM.out _).mono ?_;rintro e w1 ⟨rfl,hk⟩;have K1:=aA hk;clear hk c0 c1 c2 c3 c4 c5 c6 c7 c8;go_wp2_with fail;refine(dD _ _).mono ?_;rintro e w2 ⟨rfl,rfl⟩;exact⟨rfl,by simp[bB],K1.out⟩
theorem AR(b:Nat)(I:Img)(V:ImV)(j:Nat)(w:World)(hI:ImAt w b I V)(hj:j<=8)(hnp:I.np<=9223372036854775807):
  Calls prog 215 #[.pointer (some ⟨b,0,none⟩),.int .i64 j] w fun e w'=>e=.returned (.int .i64 ((I.np/2 ^ (j+1):Nat):Int))/\w'=w:=by
 obtain⟨c0,c1,c2,c3,c4,c5,c6,c7,c8⟩:=hI.cells;obtain⟨h1,oa,oc,hv,h3⟩:=hI.d.pgs;rw[hv] at c5;have E:=aA (show((I.np:Int)/2 ^ (j+1))=((I.np/2 ^ (j+1):Nat):Int)by simp);obtain⟨n,hn⟩:=xe (I.np);rw[<-hn] at c5 E hnp ⊢;obtain⟨s,hs⟩:=xe (j+1);rw[<-hs] at E ⊢;have hs1:(j:Int)+1=(s:Int):=by omega
 have hs2:s<=9:=by omega
 generalize n/2 ^ s=r at *;have E':=E.out;clear hv hn h3 hs;go_enter func215,ntmps215;go_wp2
 go_ret;exact⟨by first|rfl|simp_all,rfl⟩
theorem rB(k o:Int)(w:World):
  Calls prog 216 #[.int .i64 k,.int .i64 o] w fun e w'=>e=.returned (fH (aN k o))/\Kt nO w w':=by
 go_enter func216,ntmps216;go_wp2
 exact⟨rfl,_,by simp[results,results216,go_sem,aN],rfl,(Kt.refl _ w).alloc _⟩
def celN9(c:Nat):Nat:=256/2 ^ c
theorem lA(c:Nat)(h:c<=7) : 1<=2 ^ c/\2 ^ c<=128:=⟨Nat.two_pow_pos c,Nat.pow_le_pow_right (n:=2) (by decide) h⟩
theorem mK(c:Nat)(h:c<=7) : 2<=celN9 c/\celN9 c<=256:=by
 unfold celN9;match c,h with
 | 0,_=>decide
 | 1,_=>decide
 | 2,_=>decide
 | 3,_=>decide
 | 4,_=>decide
 | 5,_=>decide
 | 6,_=>decide
 | 7,_=>decide
theorem tV(p:Pg)(c:Nat)(hc:p.cl=(c:Int))(h7:c<=7)(w:World):
  Calls prog 220 #[fH p] w fun e w'=>e=.returned (.int .i64 (celN9 c:Int))/\Kt nO w w':=by
 have E:(256:Int)/2 ^ c=(celN9 c:Int):=by unfold celN9;simp
 have hb:=mK c h7;obtain⟨kd,od,cl,lv,nx,pv,fs,b0,b1,b2,b3⟩:=p;dsimp only at hc;subst hc;generalize celN9 c=q at *;go_enter func220,ntmps220;go_wp2
 go_ret;exact⟨by first|rfl|simp_all,(Kt.refl _ w).alloc _⟩
theorem ZQ(p:Pg)(c:Nat)(hc:p.cl=(c:Int))(h7:c<=7)(w:World):
  Calls prog 295 #[fH p] w fun e w'=>e=.returned (.int .u64 ((16*2 ^ c:Nat):Int))/\Kt nO w w':=by
 have hp:=lA c h7;have E:IntKind.u64.wrap ((16:Int)*2 ^ c)=((16*2 ^ c:Nat):Int):=by
  have e:((2:Int) ^ c)=((2 ^ c:Nat):Int):=by simp
  rw[wrap_u64,e];generalize 2 ^ c=P at *;omega
 obtain⟨kd,od,cl,lv,nx,pv,fs,b0,b1,b2,b3⟩:=p;dsimp only at hc;subst hc;generalize 16*2 ^ c=q at *;go_enter func295,ntmps295;go_wp2
 go_ret;exact⟨by first|rfl|simp_all,(Kt.refl _ w).alloc _⟩
def isF(p:Pg)(o:Int):Bool:=decide (p.kd=0) && decide (p.od=o)
theorem pF(p:Pg)(o:Int)(w:World):
  Calls prog 221 #[fH p,.int .i64 o] w fun e w'=>e=.returned (.bool (isF p o))/\Kt nO w w':=by
 obtain⟨kd,od,cl,lv,nx,pv,fs,b0,b1,b2,b3⟩:=p;by_cases h:kd=0
 ·subst h;have E:=aA (show(od == o)=isF ⟨0,od,cl,lv,nx,pv,fs,b0,b1,b2,b3⟩ o by rw[Bool.eq_iff_iff];simp[isF]);go_enter func221,ntmps221;go_wp2
  go_ret;exact⟨cO E.out,(Kt.refl _ w).alloc _⟩
 ·have E:=aA (show false=isF ⟨kd,od,cl,lv,nx,pv,fs,b0,b1,b2,b3⟩ o by simp[isF,h]);have h':(kd == 0)=false:=by rw[beq_eq_false_iff_ne];exact h
  go_enter func221,ntmps221;go_wp2
  go_ret;exact⟨cO E.out,(Kt.refl _ w).alloc _⟩
theorem yW(p:Pg)(c:Nat)(hc:p.cl=(c:Int))(h7:c<=7)(w:World):
  Calls prog 230 #[fH p] w fun e w'=>e=.returned (.bool (decide (p.lv=(celN9 c:Int))))/\Kt nO w w':=by
 have HC:=aA (fun W=>tV p c hc h7 W);have HB:=aA (show(w.alloc (aV p)).heap[w.heap.size]?=some (aV p)from nH _ _);have HK:=aA (show Kt nO w (w.alloc (aV p))from(Kt.refl _ _).alloc _);have E:=aA (show(p.lv == (celN9 c:Int))=decide (p.lv=(celN9 c:Int))by rw[Bool.eq_iff_iff];simp);generalize decide (p.lv=(celN9 c:Int))=dd at *;generalize celN9 c=q at *;clear hc;obtain⟨kd,od,cl,lv,nx,pv,fs,b0,b1,b2,b3⟩:=p;go_enter func230,ntmps230;go_wp2_with fail;generalize w.alloc (aV ⟨kd,od,cl,lv,nx,pv,fs,b0,b1,b2,b3⟩)=W1 at *;generalize w.heap.size=g at *;have e0:∀ x:KW W1,x.v.heap[g]?=some (aV ⟨kd,od,cl,lv,nx,pv,fs,b0,b1,b2,b3⟩):=fun x=>(x.k.block _ (lH HB.out) (fun y=>y)).trans HB.out
 have p0:∀ x:KW W1,x.v.cell? ⟨g,0,none⟩=some (.int .i64 kd):=fun x=>by simp[World.cell?,e0 x]
 have p1:∀ x:KW W1,x.v.cell? ⟨g,1,none⟩=some (.int .i64 od):=fun x=>by simp[World.cell?,e0 x]
 have p2:∀ x:KW W1,x.v.cell? ⟨g,2,none⟩=some (.int .i64 cl):=fun x=>by simp[World.cell?,e0 x]
 have p3:∀ x:KW W1,x.v.cell? ⟨g,3,none⟩=some (.int .i64 lv):=fun x=>by simp[World.cell?,e0 x]
 have p4:∀ x:KW W1,x.v.cell? ⟨g,4,none⟩=some (.int .i64 nx):=fun x=>by simp[World.cell?,e0 x]
 have p5:∀ x:KW W1,x.v.cell? ⟨g,5,none⟩=some (.int .i64 pv):=fun x=>by simp[World.cell?,e0 x]
 have p6:∀ x:KW W1,x.v.cell? ⟨g,6,none⟩=some (.int .i64 fs):=fun x=>by simp[World.cell?,e0 x]
 have p7:∀ x:KW W1,x.v.cell? ⟨g,7,none⟩=some (.int .u64 b0):=fun x=>by simp[World.cell?,e0 x]
 have p8:∀ x:KW W1,x.v.cell? ⟨g,8,none⟩=some (.int .u64 b1):=fun x=>by simp[World.cell?,e0 x]
 have p9:∀ x:KW W1,x.v.cell? ⟨g,9,none⟩=some (.int .u64 b2):=fun x=>by simp[World.cell?,e0 x]
 have p10:∀ x:KW W1,x.v.cell? ⟨g,10,none⟩=some (.int .u64 b3):=fun x=>by simp[World.cell?,e0 x]
 clear e0;refine cI (by kernel_rfl) (by kernel_rfl) ?_;repeat (go_big_quiet_step (first|(go_at_call 220;exact Calls.kept_of (HC.out _))))
 refine wpQuiet_nil ?_;intro x;go_wp2_with fail;go_ret;exact⟨cO E.out,nT HK.out x.k⟩
theorem pO(b:Nat)(I:Img)(V:ImV)(n:Nat)(w:World)(hI:ImAt w b I V)(hb:I.bS+n*4096<18446744073709551616):
  Calls prog 294 #[.pointer (some ⟨b,0,none⟩),.int .i64 n] w fun e w'=>e=.returned (.int .u64 ((I.bS+n*4096:Nat):Int))/\w'=w:=by
 obtain⟨c0,c1,c2,c3,c4,c5,c6,c7,c8⟩:=hI.cells;obtain⟨B,hB⟩:=xe (I.bS);rw[<-hB] at c0 hb ⊢;clear hB;go_enter func294,ntmps294;go_wp2
 go_ret;exact⟨eJ (by first|omega|simp),rfl⟩
end Go.Proofs.YtkfmheelhinjdaaGreatDoor.W
