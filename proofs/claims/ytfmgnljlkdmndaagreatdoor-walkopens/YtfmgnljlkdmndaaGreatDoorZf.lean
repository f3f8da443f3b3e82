import Derived.Test.YtfmgnljlkdmndaaGreatDoorZe
import Derived.Test.YtfmgnljlkdmndaaGreatDoorZc
set_option maxRecDepth 1000000
set_option maxHeartbeats 0
namespace Go.Proofs.YtfmgnljlkdmndaaGreatDoor
namespace W
open Tryz RowKit
set_option linter.unusedVariables false
abbrev gV(p:Pg):Vl:=.agg #[.int .i64 p.kd,.int .i64 p.od,.int .i64 p.cl,.int .i64 p.lv,.int .i64 p.nx,.int .i64 p.pv,.int .i64 p.fs,.int .u64 p.b0,.int .u64 p.b1,.int .u64 p.b2,.int .u64 p.b3]
abbrev zF(bS:Nat)(dl ord:Int):Vl:=.agg #[.int .u64 bS,.int .i64 dl,.int .i64 ord]
theorem gO{P:Program}{id:Nat}{Q:Exit->Act->Wd->Prop}{a:Act}{w:Wd}{l:List Oper}(d:P.follows .mixedOrders=true)(c:Region.lexB .any l.toArray=true)(hl:l≠[]) (h:wpQuiet P l.toArray (fun b=>∃ x:KW w,b=x.v) (fun a'=>Region.wanted (l.getLast hl) (yielded l.toArray a'.tmps)=true/\∀ b,(∃ x:KW w,b=x.v)->gR P Q (l.getLast hl) a' b) l.dropLast a):(Code.region id l.toArray true).wp P Q a w:=
 MY (C:=fun b=>∃ x:KW w,b=x.v) d c hl ⟨⟨w.drew,(Kt.refl _ w).drew⟩,rfl⟩ h
theorem zgt(bS:Nat)(dl ord:Int)(h:(wiB ord 0 8 && wiB dl 1 64)=false)(w:Wd):Calls prog 186 #[zF bS dl ord] w fun e a=>e=.returned (.bool false)/\Kt nO w a:=by
 cases h1:wiB ord 0 8 with
 | false=>
  clear h;go_enter func186,ntmps186;go_wp2_with (go_at_call 187;refine(iJ _ _ _ _).mono ?_;rintro e a ⟨rfl,rfl⟩)
  go_ret;exact⟨rfl,(Kt.refl _ w).alloc _⟩
 | true=>
  rw[h1,bf] at h;go_enter func186,ntmps186;go_wp2_with (go_at_call 187;refine(iJ _ _ _ _).mono ?_;rintro e a ⟨rfl,rfl⟩)
  go_ret;exact⟨rfl,(Kt.refl _ w).alloc _⟩
theorem zhW(bS:Nat)(u:bS<18446744073709551616)(dl k:Nat)(F:k<=8)(I : 1<=dl)(p:dl<=64)(w:Wd):Calls prog 186 #[zF bS (dl:Int) (k:Int)] w fun e m=>e=.returned (.bool (M.mayB bS dl k))/\Kt nO w m:=by
 obtain⟨P,j⟩:=xe (2 ^ k);have l:=M.pow8 k F;rw[<-j] at l;obtain⟨g,b⟩:=xe (dl*P);have t:g<=16384:=by rw[b];exact an (Nat.mul_le_mul p l.2) (by decide)
 have y:wrap64 ((dl:Int)*2 ^ k)=(g:Int):=by
  have e:((2:Int) ^ k)=((2 ^ k:Nat):Int):=by simp
  have A:(dl:Int)*((P:Nat):Int)=(g:Int):=by rw[b];simp
  rw[e,<-j,A];unfold wrap64;omega
 have s:M.Bounds (dl:Int) (k:Int):=by unfold M.Bounds;omega
 have h:M.mayB bS dl k=(decide (g<=1024) && (decide (bS≠0) && decide (bS%M.RS k=0) && decide (bS+dl*M.RS k<=9223372036854775808))):=by unfold M.mayB;rw[af s,aa,aa,<-j,<-b,bf]
 rw[h];clear h s;obtain⟨R,hR⟩:=xe (M.RS k);have c:R=4096*P:=by rw[hR,M.RS,j]
 obtain⟨lr,a⟩:=xe (dl*R);have f:lr=4096*g:=by rw[a,c,b,Nat.mul_left_comm]
 have v:(dl:Int)*(R:Int)=lr:=by rw[a];simp
 rw[<-hR,<-a];have C:IntKind.u64.wrap ((4096:Int)*2 ^ k)=(R:Int):=by
  have e:((2:Int) ^ k)=((2 ^ k:Nat):Int):=by simp
  rw[wrap_u64,e,<-j];omega
 have E:¬(R:Int)=0:=by omega
 have x:R<=1048576:=by omega
 have G:wiB (k:Int) 0 8=true:=by unfold wiB;exact af (by omega)
 have z:wiB (dl:Int) 1 64=true:=by unfold wiB;exact af (by omega)
 by_cases r:g<=1024
 ·have o:¬(1024:Int)<g:=by omega
  have hd:decide (g<=1024)=true:=af r;rw[hd,bf];clear j b hR hd;by_cases h0:bS=0
  ·have q:((bS:Int) != 0)=false:=(by rw[h0];rfl);have D:=aA h0;clear c a f h0;go_enter func186,ntmps186;go_wp2_with (go_at_call 187;refine(iJ _ _ _ _).mono ?_;rintro e m ⟨rfl,rfl⟩)
   go_ret;exact⟨cN (by rw[D.o];simp),(Kt.refl _ w).alloc _⟩
  ·have q:((bS:Int) != 0)=true:=(by rw[cx];omega);have i:decide (bS≠0)=true:=af h0;rw[i,bf];by_cases n:bS%R=0
   ·have B:((bS:Int)%(R:Int) == 0)=true:=(by rw[cu];omega);have d:decide (bS%R=0)=true:=af n;rw[d,bf];clear c a n d i;go_enter func186,ntmps186;go_wp2_with (go_at_call 187;refine(iJ _ _ _ _).mono ?_;rintro e m ⟨rfl,rfl⟩)
    go_ret;exact⟨cN (by rw[decide_eq_decide];omega),(Kt.refl _ w).alloc _⟩
   ·have B:((bS:Int)%(R:Int) == 0)=false:=(by rw[ag];omega);have d:decide (bS%R=0)=false:=ah n;rw[d,eb];clear c a f n d i;go_enter func186,ntmps186;go_wp2_with (go_at_call 187;refine(iJ _ _ _ _).mono ?_;rintro e m ⟨rfl,rfl⟩)
    go_ret;exact⟨rfl,(Kt.refl _ w).alloc _⟩
 ·have o:(1024:Int)<g:=by omega
  have hd:decide (g<=1024)=false:=ah r;rw[hd,eb];clear j b hR hd c a f;go_enter func186,ntmps186;go_wp2_with (go_at_call 187;refine(iJ _ _ _ _).mono ?_;rintro e m ⟨rfl,rfl⟩)
  go_ret;exact⟨rfl,(Kt.refl _ w).alloc _⟩
theorem YZ(bS:Nat)(a:bS<18446744073709551616)(dl ord:Int)(w:Wd):Calls prog 186 #[zF bS dl ord] w fun e c=>e=.returned (.bool (M.mayB bS dl ord))/\Kt nO w c:=by
 by_cases h:M.Bounds dl ord;·have b:=h;unfold M.Bounds at b;obtain⟨l,rfl⟩:=au (by omega : 0<=dl);obtain⟨k,rfl⟩:=au b.1;exact zhW bS a l k (by omega) (by omega) (by omega) w
 ·have e:M.mayB bS dl ord=false:=by unfold M.mayB;rw[ah h,eb,eb]
  rw[e];refine zgt bS dl ord ?_ w;unfold M.Bounds at h;unfold wiB;by_cases h1 : 0<=ord/\ord<=8;·rw[af h1,bf];exact ah (by omega)
  ·rw[ah h1];rfl
theorem zeQ(b:Nat)(I:Img)(V:ImV)(w:Wd)(i:ImAt w b I V):Calls prog 137 #[.pointer (some ⟨b,0,none⟩)] w fun e j=>e=bG (if M.mayB I.bS I.dl I.ord=true then none else some 0)/\Kt nO w j:=by
 obtain⟨c0,c1,c2,c3,c4,c5,g,c7,h⟩:=i.cells;have c:=aA (fun W=>YZ I.bS i.d.lj I.dl I.ord W)
 cases hm:M.mayB I.bS I.dl I.ord with
 | true=>
  rw[hm] at c;go_enter func137,ntmps137;go_wp2_with fail;refine(c.o _).mono ?_;rintro e k ⟨rfl,a⟩;have f:=aA a;clear a c0 c1 c2 c3 c4 c5 g c7 h;go_wp2_with fail;refine(dC _ _).mono ?_;rintro e l ⟨rfl,rfl⟩;go_wp2_with fail;first|go_end0|go_ret
  exact⟨by simp[bG],f.o⟩
 | false=>rw[hm] at c;go_enter func137,ntmps137;go_wp2_with fail;refine(c.o _).mono ?_;rintro e k ⟨rfl,a⟩;have f:=aA a;clear a c0 c1 c2 c3 c4 c5 g c7 h;go_wp2_with fail;refine(dW _ _).mono ?_;rintro e l ⟨rfl,rfl⟩;exact⟨rfl,by simp[bG],f.o⟩
theorem MN(b:Nat)(I:Img)(V:ImV)(j:Nat)(w:Wd)(g:ImAt w b I V)(o:j<=8)(a:I.np<=9223372036854775807):Calls prog 188 #[.pointer (some ⟨b,0,none⟩),.int .i64 j] w fun e h=>e=.returned (.int .i64 ((I.np/2 ^ (j+1):Nat):Int))/\h=w:=by
 obtain⟨c0,c1,c2,c3,c4,c5,p,c7,u⟩:=g.cells;obtain⟨m,q,t,f,i⟩:=g.d.je;rw[f] at c5;have E:=aA (show((I.np:Int)/2 ^ (j+1))=((I.np/2 ^ (j+1):Nat):Int)by simp);obtain⟨n,c⟩:=xe (I.np);rw[<-c] at c5 E a ⊢;obtain⟨s,hs⟩:=xe (j+1);rw[<-hs] at E ⊢;have l:(j:Int)+1=(s:Int):=by omega
 have k:s<=9:=by omega
 generalize n/2 ^ s=r at *;have v:=E.o;clear f c i hs;go_enter func188,ntmps188;go_wp2
 go_ret;exact⟨by first|rfl|simp_all,rfl⟩
theorem tX(k o:Int)(w:Wd):Calls prog 189 #[.int .i64 k,.int .i64 o] w fun e a=>e=.returned (gV (aT k o))/\Kt nO w a:=by
 go_enter func189,ntmps189;go_wp2
 exact⟨rfl,_,by simp[results,results189,go_sem,aT],rfl,(Kt.refl _ w).alloc _⟩
def celN9(c:Nat):Nat:=256/2 ^ c
theorem yV(c:Nat)(h:c<=7) : 1<=2 ^ c/\2 ^ c<=128:=⟨ax c,bj (n:=2) (by decide) h⟩
theorem nK(c:Nat)(h:c<=7) : 2<=celN9 c/\celN9 c<=256:=by
 unfold celN9;match c,h with
 | 0,_=>decide
 | 1,_=>decide
 | 2,_=>decide
 | 3,_=>decide
 | 4,_=>decide
 | 5,_=>decide
 | 6,_=>decide
 | 7,_=>decide
theorem xJ(p:Pg)(c:Nat)(hc:p.cl=(c:Int))(b:c<=7)(w:Wd):Calls prog 149 #[gV p] w fun e a=>e=.returned (.int .i64 (celN9 c:Int))/\Kt nO w a:=by
 have E:(256:Int)/2 ^ c=(celN9 c:Int):=by unfold celN9;simp
 have hb:=nK c b;obtain⟨kd,od,cl,lv,nx,pv,fs,b0,b1,b2,b3⟩:=p;dsimp only at hc;subst hc;generalize celN9 c=q at *;go_enter func149,ntmps149;go_wp2
 go_ret;exact⟨by first|rfl|simp_all,(Kt.refl _ w).alloc _⟩
theorem MJ(p:Pg)(c:Nat)(hc:p.cl=(c:Int))(b:c<=7)(w:Wd):Calls prog 93 #[gV p] w fun e a=>e=.returned (.int .u64 ((16*2 ^ c:Nat):Int))/\Kt nO w a:=by
 have hp:=yV c b;have E:IntKind.u64.wrap ((16:Int)*2 ^ c)=((16*2 ^ c:Nat):Int):=by
  have e:((2:Int) ^ c)=((2 ^ c:Nat):Int):=by simp
  rw[wrap_u64,e];generalize 2 ^ c=P at *;omega
 obtain⟨kd,od,cl,lv,nx,pv,fs,b0,b1,b2,b3⟩:=p;dsimp only at hc;subst hc;generalize 16*2 ^ c=q at *;go_enter func93,ntmps93;go_wp2
 go_ret;exact⟨by first|rfl|simp_all,(Kt.refl _ w).alloc _⟩
def isF(p:Pg)(o:Int):Bool:=decide (p.kd=0) && decide (p.od=o)
theorem qR(p:Pg)(o:Int)(w:Wd):Calls prog 191 #[gV p,.int .i64 o] w fun e a=>e=.returned (.bool (isF p o))/\Kt nO w a:=by
 obtain⟨kd,od,cl,lv,nx,pv,fs,b0,b1,b2,b3⟩:=p;by_cases h:kd=0
 ·subst h;have E:=aA (show(od == o)=isF ⟨0,od,cl,lv,nx,pv,fs,b0,b1,b2,b3⟩ o by rw[Bool.eq_iff_iff];simp[isF]);go_enter func191,ntmps191;go_wp2
  go_ret;exact⟨cN E.o,(Kt.refl _ w).alloc _⟩
 ·have E:=aA (show false=isF ⟨kd,od,cl,lv,nx,pv,fs,b0,b1,b2,b3⟩ o by simp[isF,h]);have b:(kd == 0)=false:=by rw[ag];exact h
  go_enter func191,ntmps191;go_wp2
  go_ret;exact⟨cN E.o,(Kt.refl _ w).alloc _⟩
theorem GK(p:Pg)(c:Nat)(hc:p.cl=(c:Int))(i:c<=7)(w:Wd):Calls prog 200 #[gV p] w fun e h=>e=.returned (.bool (decide (p.lv=(celN9 c:Int))))/\Kt nO w h:=by
 have j:=aA (fun W=>xJ p c hc i W);have d:=aA (show(w.alloc (aV p)).heap[w.heap.size]?=some (aV p)from nH _ _);have f:=aA (show Kt nO w (w.alloc (aV p))from(Kt.refl _ _).alloc _);have E:=aA (show(p.lv == (celN9 c:Int))=decide (p.lv=(celN9 c:Int))by rw[Bool.eq_iff_iff];simp);generalize decide (p.lv=(celN9 c:Int))=C at *;generalize celN9 c=q at *;clear hc;obtain⟨kd,od,cl,lv,nx,pv,fs,b0,b1,b2,b3⟩:=p;go_enter func200,ntmps200;go_wp2_with fail;generalize w.alloc (aV ⟨kd,od,cl,lv,nx,pv,fs,b0,b1,b2,b3⟩)=b at *;generalize w.heap.size=g at *;have a:∀ x:KW b,x.v.heap[g]?=some (aV ⟨kd,od,cl,lv,nx,pv,fs,b0,b1,b2,b3⟩):=fun x=>(x.k.block _ (lH d.o) (fun y=>y)).trans d.o
 have z:∀ x:KW b,x.v.cell? ⟨g,0,none⟩=some (.int .i64 kd):=fun x=>by simp[World.cell?,a x]
 have B:∀ x:KW b,x.v.cell? ⟨g,1,none⟩=some (.int .i64 od):=fun x=>by simp[World.cell?,a x]
 have s:∀ x:KW b,x.v.cell? ⟨g,2,none⟩=some (.int .i64 cl):=fun x=>by simp[World.cell?,a x]
 have n:∀ x:KW b,x.v.cell? ⟨g,3,none⟩=some (.int .i64 lv):=fun x=>by simp[World.cell?,a x]
 have o:∀ x:KW b,x.v.cell? ⟨g,4,none⟩=some (.int .i64 nx):=fun x=>by simp[World.cell?,a x]
 have t:∀ x:KW b,x.v.cell? ⟨g,5,none⟩=some (.int .i64 pv):=fun x=>by simp[World.cell?,a x]
 have u:∀ x:KW b,x.v.cell? ⟨g,6,none⟩=some (.int .i64 fs):=fun x=>by simp[World.cell?,a x]
 have m:∀ x:KW b,x.v.cell? ⟨g,7,none⟩=some (.int .u64 b0):=fun x=>by simp[World.cell?,a x]
 have r:∀ x:KW b,x.v.cell? ⟨g,8,none⟩=some (.int .u64 b1):=fun x=>by simp[World.cell?,a x]
 have A:∀ x:KW b,x.v.cell? ⟨g,9,none⟩=some (.int .u64 b2):=fun x=>by simp[World.cell?,a x]
 have l:∀ x:KW b,x.v.cell? ⟨g,10,none⟩=some (.int .u64 b3):=fun x=>by simp[World.cell?,a x]
 clear a;refine cR (by kernel_rfl) (by kernel_rfl) ?_;repeat (go_big_quiet_step (first|(go_at_call 149;exact Calls.ek (j.o _))))
 refine wpQuiet_nil ?_;intro x;go_wp2_with fail;go_ret;exact⟨cN E.o,nT f.o x.k⟩
theorem lX(b:Nat)(I:Img)(V:ImV)(n:Nat)(w:Wd)(d:ImAt w b I V)(hb:I.bS+n*4096<18446744073709551616):Calls prog 42 #[.pointer (some ⟨b,0,none⟩),.int .i64 n] w fun e c=>e=.returned (.int .u64 ((I.bS+n*4096:Nat):Int))/\c=w:=by
 obtain⟨c0,c1,c2,c3,c4,c5,f,c7,g⟩:=d.cells;obtain⟨B,a⟩:=xe (I.bS);rw[<-a] at c0 hb ⊢;clear a;go_enter func42,ntmps42;go_wp2
 go_ret;exact⟨dX (by first|omega|simp),rfl⟩
def pwN(np j:Nat):Nat:=(np/2 ^ (j+1)+63)/64
def r2(I:Img)(k:Nat):Option Nat:=
 if wiB I.ep 0 I.dl=false then some 0
 else if I.nm≠I.ep.toNat*2 ^ k*4096 then some 1
 else if I.np≠I.ep.toNat*2 ^ k then some 2
 else if I.no≠k then some 3
 else if fst1 I.no (fun j=>decide ((I.pr j).length=pwN I.np j))≠none then some 3
 else if I.hd.length≠k+1 then some 4
 else if I.pt.length≠8 then some 5
 else none
structure LnI(w W:Wd)(b g:Nat)(I:Img)(V:ImV):Prop where
 im:ImAt W b I V
 cf:W.heap[g]?=some (.cells #[.int .u64 I.bS,.int .i64 I.dl,.int .i64 I.ord] 24 (0,0))
 k:Kt nO w W
theorem LnI.dk{w W W':Wd}{b g:Nat}{I:Img}{V:ImV}(h:LnI w W b g I V)(a:Kt nO W W'):LnI w W' b g I V:=
 ⟨h.im.dk a,(a.block _ (lH h.cf) (fun x=>x)).trans h.cf,nT h.k a⟩
theorem LnI.all{w W:Wd}{b g:Nat}{I:Img}{V:ImV}(h:LnI w W b g I V):(∀ x:KW W,x.v.cell? ⟨g,1,none⟩=some (.int .i64 I.dl))/\(∀ x:KW W,x.v.cell? ⟨g,2,none⟩=some (.int .i64 I.ord)):=
 ⟨fun x=>by simp[World.cell?,(h.dk x.k).cf],fun x=>by simp[World.cell?,(h.dk x.k).cf]⟩
theorem ImD.sl{w:Wd}{I:Img}{V:ImV}(h:ImD w I V):(∃ a c,V.m=.slice a I.nm c)/\(∃ a c,V.p=.slice a I.np c)/\(∃ a c,V.r=.slice a I.no c)/\(∃ a c,V.h=.slice a I.hd.length c)/\(∃ a c,V.t=.slice a I.pt.length c)/\I.nm<=9223372036854775807/\I.np<=9223372036854775807/\I.no<=9223372036854775807/\I.pt.length<=9223372036854775807:=by obtain⟨d,k,o,n,_⟩:=h.mem;obtain⟨q,l,s,j,_⟩:=h.je;obtain⟨ws,r1,u,g,r2,_⟩:=h.jg;obtain⟨_,ha,hc,f,_⟩:=h.jr;obtain⟨e,v,b,i,_⟩:=h.kh;exact⟨⟨k,o,n⟩,⟨l,s,j⟩,⟨u,g,r2⟩,⟨ha,hc,f⟩,⟨v,b,i⟩,d,q,r1,e⟩
theorem zen(b:Nat)(I:Img)(V:ImV)(k L:Nat)(hk:k<=8)(hL:L<=64)(a2:I.ord=(k:Int))(a3:I.dl=(L:Int))(c9:I.hd.length<=9223372036854775807)(w:Wd)(hI:ImAt w b I V):Calls prog 138 #[.pointer (some ⟨b,0,none⟩)] w fun e w'=>e=bG (r2 I k)/\Kt nO w w':=by
 obtain⟨⟨ma,mc,hm⟩,⟨pa,pc,hp⟩,⟨ra,rc,hr⟩,⟨ha,hc,hh⟩,⟨ta,tc,ht⟩,bm,bp,br,bt⟩:=hI.d.sl;obtain⟨c0,c1,c2,c3,c4,c5,l,c7,f⟩:=hI.cells;have b1:=hI.d.ep;have a9:=aA (fun (j:Nat) (hj:j<=8) (W:Wd) (hW:ImAt W b I V)=>MN b I V j W hW hj bp);have L0:=aA (show LnI w (w.alloc (.cells #[.int .u64 I.bS,.int .i64 I.dl,.int .i64 I.ord] 24 (0,0))) b w.heap.size I V from⟨hI.dk ((Kt.refl _ w).alloc _),nH _ _,(Kt.refl _ w).alloc _⟩);obtain⟨EE,Z⟩:=xe (bG (r2 I k));rw[<-Z];have P:=aA Z;have HI:=aA hI;have N:=aA a2;have D:=aA a3;clear Z hI a2 a3;have c:=aA (show V.m=.slice ma I.nm mc/\V.p=.slice pa I.np pc/\V.r=.slice ra I.no rc/\V.h=.slice ha I.hd.length hc/\V.t=.slice ta I.pt.length tc from⟨hm,hp,hr,hh,ht⟩);clear hm hp hr hh ht;go_enter func138,ntmps138;go_wp2_with fail;generalize w.alloc (.cells #[.int .u64 I.bS,.int .i64 I.dl,.int .i64 I.ord] 24 (0,0))=W0 at *;generalize w.heap.size=g at *;clear c0 c1 c2 c3 c4 c5 l c7 f;obtain⟨c0,c1,c2,c3,c4,c5,l,c7,f⟩:=L0.o.im.all;obtain⟨E,B⟩:=L0.o.all;rw[c.o.1] at c4;rw[c.o.2.1] at c5;rw[c.o.2.2.1] at l;rw[c.o.2.2.2.1] at c7;rw[c.o.2.2.2.2] at f;rw[N.o] at c2 B;rw[D.o] at c1 E;have z:=aA (fun W=>iJ I.ep 0 (L:Int) W);have A:wiB I.ep 0 I.dl=wiB I.ep 0 (L:Int):=by rw[D.o]
 cases hb0:wiB I.ep 0 (L:Int)with
 | false=>
  rw[hb0] at z A;refine gO (by kernel_rfl) (by kernel_rfl) (by exact db _ _) ?_;dsimp only[List.dropLast,List.getLast];repeat (go_big_quiet_step (first|(go_at_call 187;exact Calls.ek ((z.o _).mono fun _ _ ⟨K,G⟩=>⟨K,G▸Kt.refl _ _⟩))))
  refine wpQuiet_nil ?_;refine⟨rfl,?_⟩;rintro _ ⟨x,rfl⟩;exact gN (p:=0) rfl rfl rfl fun _ hd=>⟨hd,by rw[P.o,r2,A,ae rfl];rfl,nT L0.o.k x.k⟩
 | true=>
  rw[hb0] at z A;have s:=aA (fun W=>dC 0 W);refine cR (by kernel_rfl) (by kernel_rfl) ?_;repeat (go_big_quiet_step (first|(go_at_call 187;exact Calls.ek ((z.o _).mono fun _ _ ⟨K,G⟩=>⟨K,G▸Kt.refl _ _⟩))|(go_at_call 185;exact Calls.ek ((s.o _).mono fun _ _ ⟨K,G⟩=>⟨K,G▸Kt.refl _ _⟩))))
  refine wpQuiet_nil ?_;intro x;have L1:=aA (L0.o.dk x.k);have S : 0<=I.ep/\I.ep<=(L:Int):=by unfold wiB at hb0;exact bw hb0
  obtain⟨r,hr⟩:=au S.1;have HR:=aA hr;have b2:r<=64:=by omega
  have hP:=M.pow8 k hk;obtain⟨n,hn⟩:=xe (r*2 ^ k);have a7:n<=16384:=by rw[hn];exact an (Nat.mul_le_mul b2 hP.2) (by decide)
  have b5:wrap64 ((r:Int)*2 ^ k)=(n:Int):=by have e:((2:Int) ^ k)=((2 ^ k:Nat):Int):=(by simp);have Q:(r:Int)*((2 ^ k:Nat):Int)=(n:Int):=(by rw[hn];simp);rw[e,Q];unfold wrap64;omega
  have HN:=aA (show I.ep.toNat*2 ^ k=n by rw[hr,aa,hn]);have u:=aA (show r2 I k=(if I.nm≠n*4096 then some 1 else if I.np≠n then some 2 else if I.no≠k then some 3 else if fst1 I.no (fun j=>decide ((I.pr j).length=pwN I.np j))≠none then some 3 else if I.hd.length≠k+1 then some 4 else if I.pt.length≠8 then some 5 else none)by unfold r2;rw[ac (by rw[A];simp),HN.o]);clear c0 c1 c2 c3 c4 c5 l c7 f E B z s hb0 A S b1 hr hn hP;go_wp2_with fail;generalize x.v=W1 at *;obtain⟨c0,c1,c2,c3,c4,c5,l,c7,f⟩:=L1.o.im.all;obtain⟨E,B⟩:=L1.o.all;rw[c.o.1] at c4;rw[c.o.2.1] at c5;rw[c.o.2.2.1] at l;rw[c.o.2.2.2.1] at c7;rw[c.o.2.2.2.2] at f;rw[N.o] at c2 B;rw[D.o] at c1 E;rw[HR.o] at c3;refine cR (by kernel_rfl) (by kernel_rfl) ?_;repeat (go_big_quiet_step (fail))
  refine wpQuiet_nil ?_;intro y;have U:=aA (L1.o.dk y.k);clear c0 c1 c2 c3 c4 c5 l c7 f E B;generalize y.v=W2 at *;obtain⟨c0,c1,c2,c3,c4,c5,l,c7,f⟩:=U.o.im.cells;rw[c.o.1] at c4;rw[c.o.2.1] at c5;rw[c.o.2.2.1] at l;rw[c.o.2.2.2.1] at c7;rw[c.o.2.2.2.2] at f;by_cases e1:I.nm=n*4096
  case neg=>have f1:((I.nm:Int) == (n:Int)*4096)=false:=(by rw[ag];omega);have R:=aA e1;clear e1;go_wp2_with fail;refine(dW _ _).mono ?_;rintro e J ⟨rfl,rfl⟩;exact⟨rfl,by rw[P.o,u.o,ae R.o];rfl,U.o.k⟩
  have f1:((I.nm:Int) == (n:Int)*4096)=true:=by rw[cu];omega
  have R:=aA e1;clear e1;go_wp2_with fail;refine(dC _ _).mono ?_;rintro e J ⟨rfl,rfl⟩;clear f1;by_cases Q:I.np=n
  case neg=>have f2:((I.np:Int) == (n:Int))=false:=(by rw[ag];omega);have T:=aA Q;clear Q;go_wp2_with fail;refine(dW _ _).mono ?_;rintro e J ⟨rfl,rfl⟩;exact⟨rfl,by rw[P.o,u.o,ac (bi R.o),ae T.o];rfl,U.o.k⟩
  have f2:((I.np:Int) == (n:Int))=true:=by rw[cu];omega
  have T:=aA Q;clear Q;go_wp2_with fail;refine(dC _ _).mono ?_;rintro e J ⟨rfl,rfl⟩;clear f2;go_wp2_with fail;clear c0 c1 c2 c3 c4 c5 l c7 f;obtain⟨c0,c1,c2,c3,c4,c5,l,c7,f⟩:=U.o.im.all;obtain⟨E,B⟩:=U.o.all;rw[c.o.1] at c4;rw[c.o.2.1] at c5;rw[c.o.2.2.1] at l;rw[c.o.2.2.2.1] at c7;rw[c.o.2.2.2.2] at f;rw[N.o] at c2 B;rw[D.o] at c1 E;by_cases e3:I.no=k
  case neg=>
   have f3:((I.no:Int) == (k:Int))=false:=(by rw[ag];omega);have X:=aA e3;clear e3;refine gO (by kernel_rfl) (by kernel_rfl) (by exact db _ _) ?_;dsimp only[List.dropLast,List.getLast];repeat (go_big_quiet_step (fail))
   refine wpQuiet_nil ?_;refine⟨rfl,?_⟩;rintro _ ⟨x,rfl⟩;exact gN (p:=3) rfl rfl rfl fun _ hd=>⟨hd,by rw[P.o,u.o,ac (bi R.o),ac (bi T.o),ae X.o];rfl,nT U.o.k x.k⟩
  have f3:((I.no:Int) == (k:Int))=true:=by rw[cu];omega
  have X:=aA e3;clear e3;have s:=aA (fun W=>dC 3 W);refine cR (by kernel_rfl) (by kernel_rfl) ?_;repeat (go_big_quiet_step (first|(go_at_call 185;exact Calls.ek ((s.o _).mono fun _ _ ⟨K,G⟩=>⟨K,G▸Kt.refl _ _⟩))))
  refine wpQuiet_nil ?_;intro x;have L3:=aA (U.o.dk x.k);clear c0 c1 c2 c3 c4 c5 l c7 f E B s f3;generalize x.v=W3 at *;obtain⟨c0,c1,c2,c3,c4,c5,l,c7,f⟩:=L3.o.im.cells;rw[c.o.1] at c4;rw[c.o.2.1] at c5;rw[c.o.2.2.1] at l;rw[c.o.2.2.2.1] at c7;rw[c.o.2.2.2.2] at f;go_wp2_with fail;clear c0 c1 c2 c3 c4 c5 l c7 f;go_loopw [56] (fun i W=>∃ a:Nat,a<=I.no/\i=.int .i64 a/\Hd (LnI w W b g I V/\∀ x,x<a->decide ((I.pr x).length=pwN I.np x)=true)) (fun i _=>I.no-(intOf i).toNat)
  case atStart=>exact⟨0,az _,rfl,aA ⟨L3.o,fun x hx=>by omega⟩⟩
  case round=>
   clear L3;obtain⟨a,b9,rfl,hR⟩:=hrel;by_cases a4:a<I.no
   ·have b3:(a:Int)<I.no:=(by omega);obtain⟨ws,_,b7,b6,a1,a5⟩:=hR.o.1.im.d.jg;rw[c.o.2.2.1] at a1;injection a1 with e1 Q e3
    subst e1;rcases a5 with a5|⟨bl,o,rfl,_,a6⟩
    ·omega
    obtain⟨d0,hz,za,zc,a0,_⟩:=a6 a a4;rw[a0] at d0;have a8:a<=8:=(by have:=X.o;omega);have HP:=aA (a9.o a a8 wr hR.o.1.im);obtain⟨pn,C⟩:=xe (I.np/2 ^ (a+1));rw[<-C] at HP;have b4:pn<=16384:=(by rw[C,T.o];exact an (dg _ _) a7);have hq:((pn:Int)+64-1)/64=((pwN I.np a:Nat):Int):=(by unfold pwN;rw[<-C];omega);obtain⟨q,F⟩:=xe (pwN I.np a);rw[<-F] at hq;have b8:q<=300:=(by rw[F];unfold pwN;rw[<-C];omega);obtain⟨zl,Y⟩:=xe ((I.pr a).length);rw[<-Y] at d0;have HZ:=aA (show zl=(I.pr a).length/\q=pwN I.np a from⟨Y,F⟩);clear a6 hz a0 F C Y Q e3;by_cases e4:zl=q
    case neg=>have f4:((zl:Int) == (q:Int))=false:=(by rw[ag];omega);have E4:=aA (show fst1 I.no (fun j=>decide ((I.pr j).length=pwN I.np j))=some a from fY a4 hR.o.2 (by rw[<-HZ.o.1,<-HZ.o.2];exact ah e4));clear e4;go_wp2_with fail;refine HP.o.mono ?_;rintro e J ⟨rfl,rfl⟩;go_wp2_with fail;refine(dW _ _).mono ?_;rintro e J ⟨rfl,rfl⟩;exact⟨rfl,by rw[P.o,u.o,ac (bi R.o),ac (bi T.o),ac (bi X.o),ae (by rw[E4.o];exact Option.some_ne_none _)];rfl,hR.o.1.k⟩
    have f4:((zl:Int) == (q:Int))=true:=(by rw[cu];omega);have R2:=aA (show LnI w wr b g I V/\∀ x,x<a+1->decide ((I.pr x).length=pwN I.np x)=true from⟨hR.o.1,fun x hx=>by
     by_cases e:x=a;·rw[e,<-HZ.o.1,<-HZ.o.2];exact af e4
     ·exact hR.o.2 x (by omega)⟩)
    clear e4;go_wp2_with fail;refine HP.o.mono ?_;rintro e J ⟨rfl,rfl⟩;go_wp2_with fail;refine(dC _ _).mono ?_;rintro e J ⟨rfl,rfl⟩;go_wp2_with fail;go_round
    case rel=>exact⟨a+1,by omega,by go_num,R2⟩
    case measure=>simp[intOf];omega
   ·have b0:a=I.no:=(by omega);have b3:¬(a:Int)<I.no:=(by omega);have E4:=aA (show fst1 I.no (fun j=>decide ((I.pr j).length=pwN I.np j))=none from fst1_ok (fun x hx=>hR.o.2 x (by omega)));have L4:=aA hR.o.1;clear b0;go_wp2_with fail;generalize wr=W4 at *;obtain⟨c0,c1,c2,c3,c4,c5,l,c7,f⟩:=L4.o.im.all;obtain⟨E,B⟩:=L4.o.all;rw[c.o.1] at c4;rw[c.o.2.1] at c5;rw[c.o.2.2.1] at l;rw[c.o.2.2.2.1] at c7;rw[c.o.2.2.2.2] at f;rw[N.o] at c2 B;rw[D.o] at c1 E;by_cases e5:I.hd.length=k+1
    case neg=>
     have f5:((I.hd.length:Int) == (k:Int)+1)=false:=(by rw[ag];omega);have E5:=aA e5;clear e5;refine gO (by kernel_rfl) (by kernel_rfl) (by exact db _ _) ?_;dsimp only[List.dropLast,List.getLast];repeat (go_big_quiet_step (fail))
     refine wpQuiet_nil ?_;refine⟨rfl,?_⟩;rintro _ ⟨x,rfl⟩;exact gN (p:=4) rfl rfl rfl fun _ hd=>⟨hd,by rw[P.o,u.o,ac (bi R.o),ac (bi T.o),ac (bi X.o),ac (bi E4.o),ae E5.o];rfl,nT L4.o.k x.k⟩
    have f5:((I.hd.length:Int) == (k:Int)+1)=true:=(by rw[cu];omega);have E5:=aA e5;clear e5;have s:=aA (fun W=>dC 4 W);refine cR (by kernel_rfl) (by kernel_rfl) ?_;repeat (go_big_quiet_step (first|(go_at_call 185;exact Calls.ek ((s.o _).mono fun _ _ ⟨K,G⟩=>⟨K,G▸Kt.refl _ _⟩))))
    refine wpQuiet_nil ?_;intro x;have L5:=aA (L4.o.dk x.k);clear c0 c1 c2 c3 c4 c5 l c7 f E B s f5;generalize x.v=W5 at *;obtain⟨c0,c1,c2,c3,c4,c5,l,c7,f⟩:=L5.o.im.cells;rw[c.o.1] at c4;rw[c.o.2.1] at c5;rw[c.o.2.2.1] at l;rw[c.o.2.2.2.1] at c7;rw[c.o.2.2.2.2] at f;by_cases e6:I.pt.length=8
    case neg=>have f6:((I.pt.length:Int) == 8)=false:=(by rw[ag];omega);have E6:=aA e6;clear e6;go_wp2_with fail;refine(dW _ _).mono ?_;rintro e J ⟨rfl,rfl⟩;exact⟨rfl,by rw[P.o,u.o,ac (bi R.o),ac (bi T.o),ac (bi X.o),ac (bi E4.o),ac (bi E5.o),ae E6.o];rfl,L5.o.k⟩
    have f6:((I.pt.length:Int) == 8)=true:=(by rw[cu];omega);have E6:=aA e6;clear e6;go_wp2_with fail;refine(dC _ _).mono ?_;rintro e J ⟨rfl,rfl⟩;clear f6;go_wp2_with fail;first|go_end0|go_ret
    exact⟨by rw[P.o,u.o,ac (bi R.o),ac (bi T.o),ac (bi X.o),ac (bi E4.o),ac (bi E5.o),ac (bi E6.o)];rfl,L5.o.k⟩
end W
end Go.Proofs.YtfmgnljlkdmndaaGreatDoor
