import Derived.Test.YtfmgnljlkdmndaaGreatDoorXp
import Derived.Test.YtfmgnljlkdmndaaGreatDoorXs
import Derived.ScopeJumps
set_option maxRecDepth 1000000
set_option maxHeartbeats 0
namespace Go.Proofs.YtfmgnljlkdmndaaGreatDoor
open Tryz RowKit
set_option linter.unusedVariables false
theorem dI{S:Nat->Prop}{w a:Wd}(h:M.Kt S w a):Kt S w a:=⟨h.os,h.tape,h.output,h.size,h.block⟩
theorem fJ{S:Nat->Prop}{w a:Wd}(h:Kt S w a):M.Kt S w a:=⟨h.os,h.tape,h.output,h.size,h.block⟩
structure Bx where
 b:Nat
 s:Nat
 a:Option Nat
 m:Nat
 B:Bs
 l:Nat
 c:Nat
 L:Nat->Nat
 bS:Nat
 R:Nat
 dl:Nat
 n:Nat
 o:Nat
 P:Nat->Option Pg
structure Bt where
 f:Nat->Nat
 m:Mp
 hd:Nat->Nat
def lN(h:Nat->Nat)(k x:Nat):Nat->Nat:=fun j=>if j=k then x else h j
structure BdAt(w:Wd)(x:Bx)(t:Bt):Prop where
 sp:M.SpA w x.s x.a x.bS x.R x.dl x.n t.f
 mp:MpA w x.m x.B t.m
 ls:∀ k,k<=x.o->M.ListAt w (x.L k) x.s (t.hd k)
 bs:w.heap[x.b]?=some (.cells #[.int .u64 x.bS,.pointer (some ⟨x.s,0,none⟩),.pointer (some ⟨x.m,0,none⟩),.slice (some ⟨x.l,0,none⟩) (x.o+1) x.c] 134 (0,0))
 lr:∃ cs,w.heap[x.l]?=some (.cells cs 135 (0,0))/\∀ k,k<=x.o->cs[k]?=some (.pointer (some ⟨x.L k,0,none⟩))
 mo:t.m.o=x.o
 iL:∀ i j,i<=x.o->j<=x.o->x.L i=x.L j->i=j
 hR:x.R=4096*2 ^ x.o
theorem BdAt.o8{w x t}(h:BdAt w x t):x.o<=8:=by have:=h.mp.o8;rw[h.mo] at this;exact this
def aC(x:Bx):Nat->Prop:=fun y=>M.own x.s x.a y\/aP x.m x.B x.o y\/∃ k,k<=x.o/\y=x.L k
theorem nG{w:Wd}{b:Nat}{B:Bs}{m:Mp}(h:MpA w b B m){x:Nat}(hx:aP b B m.o x):∃ cs t z,w.heap[x]?=some (.cells cs t z)/\(t=140\/t=97\/t=141\/t=181\/t=22):=by
 rcases hx with rfl|hx|hx|⟨k,c,rfl|rfl⟩
 ·obtain⟨d,hb,_⟩:=h.hb;exact⟨_,_,_,hb,.inl rfl⟩
 ·have a:=h.row;rw[hx] at a;obtain⟨cs,hg,_⟩:=a;exact⟨_,_,_,hg,.inr (.inl rfl)⟩
 ·obtain⟨d,_,hp⟩:=h.hb;rw[hx] at hp;obtain⟨cs,hg,_⟩:=hp;exact⟨_,_,_,hg,.inr (.inr (.inl rfl))⟩
 ·exact⟨_,_,_,(h.set k c).hb,.inr (.inr (.inr (.inl rfl)))⟩
 ·exact⟨_,_,_,(h.set k c).hc,.inr (.inr (.inr (.inr rfl)))⟩
theorem mO{w:Wd}{s:Nat}{a:Option Nat}{bS R dl n:Nat}{f:Nat->Nat}(h:M.SpA w s a bS R dl n f){x:Nat}(hx:M.own s a x):∃ cs t z,w.heap[x]?=some (.cells cs t z)/\(t=131\/t=5):=by
 obtain⟨cap,hb,b⟩:=h.ex;rcases hx with rfl|hx
 ·exact⟨_,_,_,hb,.inl rfl⟩
 ·rw[hx] at b;obtain⟨_,c,_,hg,_⟩:=b;exact⟨_,_,_,hg,.inr rfl⟩
theorem tS{w:Wd}{b:Nat}{B:Bs}{m:Mp}{s:Nat}{a:Option Nat}{bS R dl n:Nat}{f:Nat->Nat}(h:MpA w b B m)(k:M.SpA w s a bS R dl n f){x:Nat}(hx:aP b B m.o x)(hy:M.own s a x):False:=by
 obtain⟨cs,t,z,g,i⟩:=nG h hx;obtain⟨j,p,q,d,l⟩:=mO k hy;rw[g] at d
 cases d
 rcases i with e|e|e|e|e <;> rcases l with c|c <;> rw[e] at c <;> exact absurd c (by decide)
theorem xA{w:Wd}{b:Nat}{B:Bs}{m:Mp}{c s hd:Nat}(h:MpA w b B m)(k:M.ListAt w c s hd)(hx:aP b B m.o c):False:=by
 obtain⟨cs,t,z,d,f⟩:=nG h hx;have a:=k.hc;rw[d] at a
 cases a
 rcases f with e|e|e|e|e <;> exact absurd e (by decide)
theorem LC{w:Wd}{s:Nat}{a:Option Nat}{bS R dl n:Nat}{f:Nat->Nat}{c i hd:Nat}(h:M.SpA w s a bS R dl n f)(k:M.ListAt w c i hd)(hx:M.own s a c):False:=by
 obtain⟨cs,t,z,d,g⟩:=mO h hx;have b:=k.hc;rw[d] at b
 cases b
 rcases g with e|e <;> exact absurd e (by decide)
theorem BdAt.nb{w x t}(h:BdAt w x t):¬aC x x.b:=by
 rintro (hx|hx|⟨k,f,e⟩)
 ·obtain⟨cs,d,z,a,c⟩:=mO h.sp hx;rw[h.bs] at a
  cases a
  rcases c with e|e <;> exact absurd e (by decide)
 ·rw[<-h.mo] at hx;obtain⟨cs,d,z,a,c⟩:=nG h.mp hx;rw[h.bs] at a
  cases a
  rcases c with e|e|e|e|e <;> exact absurd e (by decide)
 ·exact absurd e (bX h.bs (h.ls k f).hc (by decide))
theorem BdAt.nl{w x t}(h:BdAt w x t):¬aC x x.l:=by
 obtain⟨c,hl,_⟩:=h.lr;rintro (hx|hx|⟨k,f,e⟩)
 ·obtain⟨cs,d,z,a,b⟩:=mO h.sp hx;rw[hl] at a
  cases a
  rcases b with e|e <;> exact absurd e (by decide)
 ·rw[<-h.mo] at hx;obtain⟨cs,d,z,a,b⟩:=nG h.mp hx;rw[hl] at a
  cases a
  rcases b with e|e|e|e|e <;> exact absurd e (by decide)
 ·exact absurd e (bX hl (h.ls k f).hc (by decide))
theorem BdAt.kept{w w' x t}{S:Nat->Prop}(h:BdAt w x t)(k:Kt S w w')(hS:∀ y,aC x y\/y=x.b\/y=x.l->¬S y):BdAt w' x t:=by refine⟨h.sp.kept (fJ k) (fun y hy=>hS y (.inl (.inl hy))),h.mp.kept k (fun y hy=>hS y (.inl (.inr (.inl (h.mo▸hy))))),fun i hi=>(h.ls i hi).kept (fJ k) (hS _ (.inl (.inr (.inr ⟨i,hi,rfl⟩)))),(k.block _ (lH h.bs) (hS _ (.inr (.inl rfl)))).trans h.bs,?_,h.mo,h.iL,h.hR⟩;obtain⟨cs,hl,hc⟩:=h.lr;exact⟨cs,(k.block _ (lH hl) (hS _ (.inr (.inr rfl)))).trans hl,hc⟩
theorem BdAt.dk{w w' x t}(h:BdAt w x t)(k:Kt nO w w'):BdAt w' x t:=h.kept k (fun _ _ e=>e)
theorem BdAt.map{w w' x t}{a:Mp}(h:BdAt w x t)(k:Kt (aP x.m x.B t.m.o) w w')(b:MpA w' x.m x.B a)(c:a.o=t.m.o):BdAt w' x { t with m:=a }:=by have nb:=h.nb;have nl:=h.nl;refine⟨h.sp.kept (fJ k) (fun y hy e=>tS h.mp h.sp e hy),b,fun i hi=>(h.ls i hi).kept (fJ k) (fun e=>xA h.mp (h.ls i hi) e),(k.block _ (lH h.bs) (fun e=>nb (.inr (.inl (h.mo▸e))))).trans h.bs,?_,c.trans h.mo,h.iL,h.hR⟩;obtain⟨cs,hl,hc⟩:=h.lr;exact⟨cs,(k.block _ (lH hl) (fun e=>nl (.inr (.inl (h.mo▸e))))).trans hl,hc⟩
theorem BdAt.list{w w' x t}{f':Nat->Nat}{i b:Nat}(h:BdAt w x t)(hi:i<=x.o)(k:M.Kt (M.eE (x.L i) x.s x.a) w w')(hl:M.LS w' (x.L i) x.s x.a x.bS x.R x.dl x.n f' b):BdAt w' x { t with f:=f',hd:=lN t.hd i b }:=by
 have nb:=h.nb;have nl:=h.nl;have g:=dI k;refine⟨hl.s,h.mp.kept g (fun y hy e=>?_),fun j d=>?_,(g.block _ (lH h.bs) (fun e=>nb (e.elim (fun e=>.inr (.inr ⟨i,hi,e⟩)) (fun e=>.inl e)))).trans h.bs,?_,h.mo,h.iL,h.hR⟩
 ·rcases e with rfl|e
  ·exact xA h.mp (h.ls i hi) hy
  ·exact tS h.mp h.sp hy e
 ·show M.ListAt w' (x.L j) x.s (lN t.hd i b j)
  unfold lN;by_cases e:j=i;·subst e;rw[ae rfl];exact hl.l
  ·rw[ac e];refine(h.ls j d).kept k (fun c=>?_);rcases c with c|c
   ·exact e (h.iL j i d hi c)
   ·exact LC h.sp (h.ls j d) c
 ·obtain⟨cs,m,hc⟩:=h.lr;exact⟨cs,(g.block _ (lH m) (fun e=>nl (e.elim (fun e=>.inr (.inr ⟨i,hi,e⟩)) (fun e=>.inl e)))).trans m,hc⟩
theorem BdAt.eF{w x t}(h:BdAt w x t)(i:Nat)(hi:i<=x.o):M.LS w (x.L i) x.s x.a x.bS x.R x.dl x.n t.f (t.hd i):=⟨h.sp,h.ls i hi⟩
theorem BdAt.b0{w x t}(h:BdAt w x t):w.cell? ⟨x.b,0,none⟩=some (.int .u64 x.bS):=by simp[World.cell?,h.bs]
theorem BdAt.b1{w x t}(h:BdAt w x t):w.cell? ⟨x.b,1,none⟩=some (.pointer (some ⟨x.s,0,none⟩)):=by simp[World.cell?,h.bs]
theorem BdAt.b2{w x t}(h:BdAt w x t):w.cell? ⟨x.b,2,none⟩=some (.pointer (some ⟨x.m,0,none⟩)):=by simp[World.cell?,h.bs]
theorem BdAt.b3{w x t}(h:BdAt w x t):w.cell? ⟨x.b,3,none⟩=some (.slice (some ⟨x.l,0,none⟩) (x.o+1) x.c):=by simp[World.cell?,h.bs]
theorem BdAt.lc{w x t}(h:BdAt w x t)(k:Nat)(a:k<=x.o):w.cell? ⟨x.l,k,none⟩=some (.pointer (some ⟨x.L k,0,none⟩)):=by obtain⟨cs,hl,hc⟩:=h.lr;simp[World.cell?,hl,hc k a]
theorem GC{x:Bx}{w a:Wd}(k:Kt (aP x.m x.B x.o) w a):Kt (aC x) w a:=k.mono (fun y _ e=>.inr (.inl e))
theorem xG{x:Bx}{w b:Wd}{i:Nat}(hi:i<=x.o)(k:M.Kt (M.eE (x.L i) x.s x.a) w b):Kt (aC x) w b:=(dI k).mono (fun y _ e=>e.elim (fun e=>.inr (.inr ⟨i,hi,e⟩)) (fun e=>.inl e))
theorem jD{x:Bx}{w a:Wd}(k:Kt nO w a):Kt (aC x) w a:=k.mono (fun _ _ e=>e.elim)
theorem eQ{x:Bx}{a b c:Wd}(h:Kt (aC x) a b)(k:Kt (aC x) b c):Kt (aC x) a c:=h.trans k (fun _ _ e=>e) (fun _ _ e=>e)
theorem zji(b:Nat)(B:Bs)(m:Mp)(k i:Int)(w:Wd)(h:MpA w b B m):Calls prog 247 #[.pointer (some ⟨b,0,none⟩),.int .i64 k,.int .i64 i] w fun e c=>e=.returned (.tuple #[.bool (iT (fH m k i) k i),.int .i64 (pJ m k i)])/\MpA c b B (fH m k i)/\Kt (aP b B m.o) w c:=by
 cases hp:dT m k i with
 | false=>
  have d:fH m k i=m:=by simp[fH,hp]
  rw[show pJ m k i=1 by simp[pJ,hp],d,show iT m k i=false by simp[iT,hp]];refine(WQ b B m k i w h hp).mono ?_;rintro e c ⟨rfl,g⟩;exact⟨rfl,h.dk g,g.mono (fun _ _ e=>e.elim)⟩
 | true=>
  have f:aD m.o k=true/\aD m.n i=true:=by unfold dT at hp;exact Bool.and_eq_true_iff.1 hp
  obtain⟨a,rfl,ha⟩:=gP f.1;obtain⟨j,rfl,l⟩:=gP f.2;have d:fH m (a:Int) (j:Int)={ m with wd:=fV m.wd a (gG (m.n/2 ^ (a+1)) (m.wd a) ((j/2 ^ (a+1):Nat):Int)) }:=by simp[fH,hp,nY,nX]
  rw[show pJ m (a:Int) (j:Int)=0 by simp[pJ,hp],d,show iT { m with wd:=fV m.wd a (gG (m.n/2 ^ (a+1)) (m.wd a) ((j/2 ^ (a+1):Nat):Int)) } (a:Int) (j:Int)=cS (m.n/2 ^ (a+1)) (gG (m.n/2 ^ (a+1)) (m.wd a) ((j/2 ^ (a+1):Nat):Int)) ((j/2 ^ (a+1):Nat):Int)by
   unfold iT;rw[show dT { m with wd:=fV m.wd a (gG (m.n/2 ^ (a+1)) (m.wd a) ((j/2 ^ (a+1):Nat):Int)) } (a:Int) (j:Int)=true from hp];simp[nY,nX,fV]]
  exact WP b B m a j w h ha l
theorem BdAt.ie{w x t}(h:BdAt w x t) : 1<=x.bS/\x.bS+x.n<=9223372036854775808:=⟨h.sp.cfg.b1,h.sp.gz⟩
theorem lX(x:Bx)(t:Bt)(p:Nat)(hp:p<=4000)(w:Wd)(h:BdAt w x t):Calls prog 210 #[.pointer (some ⟨x.b,0,none⟩),.int .i64 p] w fun e a=>e=.returned (.int .u64 ((x.bS+4096*p:Nat):Int))/\a=w:=by
 have c0:=h.b0;obtain⟨q,hq⟩:=xe (x.bS+4096*p);have hb:=h.ie;have c:IntKind.u64.wrap (p:Int)=p:=by rw[wrap_u64];omega
 have f:IntKind.u64.wrap ((p:Int)*4096)=(p:Int)*4096:=by rw[wrap_u64];omega
 have d:IntKind.u64.wrap ((x.bS:Int)+(p:Int)*4096)=(q:Int):=by rw[wrap_u64];omega
 rw[<-hq];clear hq;go_enter func210,ntmps210;go_wp2_with fail;go_ret;exact⟨dX (by omega),rfl⟩
theorem lY(x:Bx)(t:Bt)(w:Wd)(h:BdAt w x t):Calls prog 208 #[.pointer (some ⟨x.b,0,none⟩)] w fun e a=>e=.returned (.int .i64 x.o)/\a=w:=by
 have c3:=h.b3;have c:=h.o8;go_enter func208,ntmps208;go_wp2_with fail;go_ret;exact⟨dX (by omega),rfl⟩
theorem qN(x:Bx)(t:Bt)(i:Int)(w:Wd)(h:BdAt w x t):Calls prog 172 #[.pointer (some ⟨x.b,0,none⟩),.int .i64 i] w fun e c=>e=.returned (.bool (aD (x.o+1) i))/\c=w:=by
 have c3:=h.b3;have d:=h.o8;by_cases h0 : 0<=i
 ·by_cases a:i<((x.o+1:Nat):Int)
  ·rw[show aD (x.o+1) i=true by simp only[aD];exact af ⟨h0,a⟩];go_enter func172,ntmps172;go_wp2_with fail;go_ret;exact⟨cN (by simp;omega),rfl⟩
  ·rw[show aD (x.o+1) i=false by simp only[aD];exact ah (fun e=>a e.2)];go_enter func172,ntmps172;go_wp2_with fail;go_ret;exact⟨cN (by simp;omega),rfl⟩
 ·rw[show aD (x.o+1) i=false by simp only[aD];exact ah (fun e=>h0 e.1)];go_enter func172,ntmps172;go_wp2_with fail;go_ret;exact⟨cN rfl,rfl⟩
theorem VP(m:Mp)(k i:Int):(fH m k i).o=m.o:=by unfold fH;split <;> rfl
theorem AX(m:Mp)(p o k:Int):(cF m p o k).o=m.o:=by unfold cF;split <;> rfl
def fS(t:Bt)(p k:Int):Bt:={ t with m:=fH t.m k p }
theorem wZ(x:Bx)(t:Bt)(p k:Int)(w:Wd)(h:BdAt w x t):Calls prog 220 #[.pointer (some ⟨x.b,0,none⟩),.int .i64 p,.int .i64 k] w fun e a=>e=.returned (.tuple #[])/\BdAt a x (fS t p k)/\Kt (aC x) w a:=by
 have c2:=h.b2;have H:=aA h;clear h;go_enter func220,ntmps220;go_wp2_with fail;refine(zji x.m x.B t.m k p _ H.o.mp).mono ?_;rintro e a ⟨rfl,d,c⟩;have D:=aA (show BdAt a x (fS t p k)/\Kt (aC x) w a from⟨H.o.map c d (VP _ _ _),GC (H.o.mo▸c)⟩);clear d c;go_wp2_with fail;exact⟨rfl,.tuple #[],by simp[results,results220,go_sem],rfl,D.o⟩
def lI(x:Bx)(t:Bt)(p k:Int):Bool:=decide (k<(x.o:Int)) && iT t.m k p
theorem JW(b:Nat)(B:Bs)(m:Mp)(i:Int)(w:Wd)(h:MpA w b B m):Calls prog 163 #[.pointer (some ⟨b,0,none⟩),.int .i64 i] w fun e d=>e=.returned (.int .i64 (kF m i))/\d=w:=by
 cases hi:aD m.n i with
 | false=>rw[show kF m i = -1 by simp[kF,hi]];exact zl0 b B m i w h hi
 | true=>obtain⟨k,rfl,a⟩:=gP hi;have ok:=h.ok k a;obtain⟨o,c⟩:=au ok.o0;rw[show kF m (k:Int)=((k/2 ^ o*2 ^ o:Nat):Int)by simp[kF,hi,c]];exact UB b B m k o w h a c
def kT(m:Mp)(kd i o:Int):Bool:=aD m.n i && ((cL m i).kd == kd) && ((cL m i).od == o) && (kF m i == i)
theorem is_any(x:Bx)(t:Bt)(kd i o:Int)(w:Wd)(h:BdAt w x t):Calls prog 173 #[.pointer (some ⟨x.b,0,none⟩),.int .i64 kd,.int .i64 i,.int .i64 o] w fun e g=>e=.returned (.bool (kT t.m kd i o))/\Kt nO w g:=by
 have c2:=h.b2;have H:=aA h;clear h;obtain⟨p,hp⟩:=xe (cL t.m i);obtain⟨A,c⟩:=xe (kF t.m i);obtain⟨r,y⟩:=xe (aD t.m.n i);have j:=aA (show ∀ W,MpA W x.m x.B t.m->Calls prog 45 #[.pointer (some ⟨x.m,0,none⟩),.int .i64 i] W fun e g=>e=.returned (.tuple #[cA p,.bool r])/\Kt nO W g from fun W v=>by rw[hp,y];exact jB x.m x.B t.m i W v);have C:=aA (show ∀ W,MpA W x.m x.B t.m->Calls prog 163 #[.pointer (some ⟨x.m,0,none⟩),.int .i64 i] W fun e g=>e=.returned (.int .i64 A)/\g=W from fun W v=>by rw[c];exact JW x.m x.B t.m i W v);rw[show kT t.m kd i o=(r && (p.kd == kd) && (p.od == o) && (A == i))by rw[kT,<-hp,<-c,<-y]];clear hp c y;have hc:r=false\/(r=true/\¬p.kd=kd)\/(r=true/\p.kd=kd/\¬p.od=o)\/(r=true/\p.kd=kd/\p.od=o):=by
  cases r with
  | false=>exact .inl rfl
  | true=>
   by_cases q:p.kd=kd
   ·by_cases z:p.od=o
    ·exact .inr (.inr (.inr ⟨rfl,q,z⟩))
    ·exact .inr (.inr (.inl ⟨rfl,q,z⟩))
   ·exact .inr (.inl ⟨rfl,q⟩)
 rcases hc with rfl|⟨rfl,d⟩|⟨rfl,d,k⟩|⟨rfl,d,k⟩
 ·go_enter func173,ntmps173;go_wp2_with fail;refine(j.o _ H.o.mp).mono ?_;rintro e u ⟨rfl,a⟩;have K:=aA (a.alloc (aO p));clear a;go_wp2_with fail;go_ret;exact⟨cN (by simp),K.o⟩
 ·have s:(p.kd == kd)=false:=ag.2 d;go_enter func173,ntmps173;go_wp2_with fail;refine(j.o _ H.o.mp).mono ?_;rintro e u ⟨rfl,a⟩;have K:=aA (a.alloc (aO p));clear a;go_wp2_with fail;go_ret;exact⟨cN (by simp[s]),K.o⟩
 ·have l:(p.od == o)=false:=ag.2 k;subst d;go_enter func173,ntmps173;go_wp2_with fail;refine(j.o _ H.o.mp).mono ?_;rintro e u ⟨rfl,a⟩;have K:=aA (a.alloc (aO p));clear a;go_wp2_with fail;go_ret;exact⟨cN (by simp[l]),K.o⟩
 ·subst d k;go_enter func173,ntmps173;go_wp2_with fail;refine(j.o _ H.o.mp).mono ?_;rintro e u ⟨rfl,a⟩;have K:=aA (a.alloc (aO p));have c2:=K.o.cell (fun x=>x) c2;have D:=aA (H.o.dk K.o);clear a;go_wp2_with fail;refine(C.o _ D.o.mp).mono ?_;rintro e E ⟨rfl,f⟩;rw[f];clear f;go_wp2_with fail;go_ret;exact⟨cN (by simp),K.o⟩
def fO(x:Bx)(p:Nat):Nat:=(p+18446744073709551616-x.bS)%18446744073709551616
def lG(x:Bx)(t:Bt)(p:Nat):Prop:=fO x p%4096=0/\fO x p/4096<t.m.n
instance (x:Bx) (t:Bt) (p:Nat):Decidable (lG x t p):=inferInstanceAs (Decidable (_/\_))
instance (a b c d:Nat):Decidable (M.In a b c d):=inferInstanceAs (Decidable (_/\_))
def fR(x:Bx)(t:Bt)(p:Nat):Nat:=if lG x t p then fO x p/4096 else 0
def lS(x:Bx)(t:Bt)(p:Nat):Bool:=decide (lG x t p/\M.In x.bS x.n p 1)
theorem FZ(x:Bx)(t:Bt)(p:Nat)(hp:p<18446744073709551616)(w:Wd)(h:BdAt w x t):Calls prog 171 #[.pointer (some ⟨x.b,0,none⟩),.int .u64 p] w fun e D=>e=.returned (.tuple #[.int .i64 (fR x t p:Int),.bool (lS x t p)])/\Kt nO w D:=by
 have c0:=h.b0;have c1:=h.b1;have c2:=h.b2;have hb:=h.ie;have N:=h.mp.n1;have H:=aA h;clear h;obtain⟨j,g⟩:=xe (fO x p);have G:IntKind.u64.wrap ((p:Int)-(x.bS:Int))=(j:Int):=by rw[wrap_u64,g];unfold fO;omega
 have J:j<18446744073709551616:=by rw[g];unfold fO;omega
 obtain⟨r,L⟩:=xe (j%4096);obtain⟨q,hq⟩:=xe (j/4096);have Q:(j:Int)%4096=(r:Int):=by omega
 have T:(j:Int)/4096=(q:Int):=by omega
 have U:IntKind.u64.wrap (t.m.n:Int)=t.m.n:=by rw[wrap_u64];omega
 have P:IntKind.i64.wrap (q:Int)=q:=by rw[cz];omega
 have E:=aA (show ∀ W,MpA W x.m x.B t.m->Calls prog 44 #[.pointer (some ⟨x.m,0,none⟩)] W fun e D=>e=.returned (.int .i64 t.m.n)/\D=W from fun W S=>tN x.m x.B t.m W S);have z:lG x t p↔(r=0/\q<t.m.n):=by unfold lG;rw[<-g,<-L,<-hq]
 have l:fR x t p=if r=0/\q<t.m.n then q else 0:=by
  unfold fR;by_cases c:lG x t p;·rw[ae c,ae (z.1 c),<-g,<-hq]
  ·rw[ac c,ac (fun d=>c (z.2 d))]
 have o:lS x t p=decide ((r=0/\q<t.m.n)/\M.In x.bS x.n p 1):=by unfold lS;exact decide_eq_decide.2 (and_congr_left fun _=>z)
 clear z;clear g L hq;by_cases h0:r=0
 ·by_cases y:q<t.m.n
  ·have C:(q:Int)<t.m.n:=(by omega);have u:(r:Int)=0:=(by omega);rw[l,o,ae ⟨h0,y⟩];clear l o;by_cases A:M.In x.bS x.n p 1
   ·rw[show decide ((r=0/\q<t.m.n)/\M.In x.bS x.n p 1)=true from af ⟨⟨h0,y⟩,A⟩];have k:=aA (M.Byte_any x.s x.a x.bS x.R x.dl x.n t.f p hp w H.o.sp);simp only[A,if_true] at k;clear h0;go_enter func171,ntmps171;go_wp2_with fail;refine(E.o _ H.o.mp).mono ?_;rintro e I ⟨rfl,i⟩;rw[i];clear i;go_wp2_with fail;refine k.o.mono ?_;rintro e F ⟨rfl,v⟩;have K:=aA (show Kt nO w F from dI v);clear v k;go_wp2_with fail;exact⟨rfl,.tuple #[.int .i64 q,.bool true],by simp[results,results171,go_sem],rfl,K.o⟩
   ·rw[show decide ((r=0/\q<t.m.n)/\M.In x.bS x.n p 1)=false from ah (fun e=>A e.2)];have k:=aA (M.Byte_any x.s x.a x.bS x.R x.dl x.n t.f p hp w H.o.sp);simp only[A,if_false] at k;clear h0;go_enter func171,ntmps171;go_wp2_with fail;refine(E.o _ H.o.mp).mono ?_;rintro e I ⟨rfl,i⟩;rw[i];clear i;go_wp2_with fail;refine k.o.mono ?_;rintro e F ⟨rfl,v⟩;have K:=aA (show Kt nO w F from dI v);clear v k;go_wp2_with fail;exact⟨rfl,.tuple #[.int .i64 q,.bool false],by simp[results,results171,go_sem],rfl,K.o⟩
  ·have C:¬(q:Int)<t.m.n:=(by omega);have u:(r:Int)=0:=(by omega);rw[l,o,ac (fun e=>y e.2),show decide ((r=0/\q<t.m.n)/\M.In x.bS x.n p 1)=false from ah (fun e=>y e.1.2)];clear l o h0;go_enter func171,ntmps171;go_wp2_with fail;refine(E.o _ H.o.mp).mono ?_;rintro e I ⟨rfl,i⟩;rw[i];clear i;go_wp2_with fail;exact⟨rfl,.tuple #[.int .i64 0,.bool false],by simp[results,results171,go_sem],rfl,kz _⟩
 ·have u:¬(r:Int)=0:=by omega
  rw[l,o,ac (fun e=>h0 e.1),show decide ((r=0/\q<t.m.n)/\M.In x.bS x.n p 1)=false from ah (fun e=>h0 e.1.1)];clear l o;go_enter func171,ntmps171;go_wp2_with fail;exact⟨rfl,.tuple #[.int .i64 0,.bool false],by simp[results,results171,go_sem],rfl,kz _⟩
def kI(x:Bx)(t:Bt)(p:Nat)(k:Int):Bool:=lS x t p && aD (x.o+1) k && kT t.m 2 (fR x t p:Int) k
theorem FY(x:Bx)(t:Bt)(p:Nat)(k:Int)(hp:p<18446744073709551616)(w:Wd)(h:BdAt w x t):Calls prog 114 #[.pointer (some ⟨x.b,0,none⟩),.int .u64 p,.int .i64 k] w fun e g=>e=.returned (.tuple #[.int .i64 (fR x t p:Int),.bool (kI x t p k)])/\Kt nO w g:=by
 have H:=aA h;have d:=aA (FZ x t p hp w h);clear h;obtain⟨q,hq⟩:=xe (fR x t p);obtain⟨v,i⟩:=xe (lS x t p);rw[show kI x t p k=(v && aD (x.o+1) k && kT t.m 2 (q:Int) k)by rw[kI,<-hq,<-i],<-hq];rw[<-hq,<-i] at d;clear hq i
 cases v with
 | false=>go_enter func114,ntmps114;go_wp2_with fail;refine d.o.mono ?_;rintro e n ⟨rfl,a⟩;have K:=aA a;clear a;go_wp2_with fail;exact⟨rfl,.tuple #[.int .i64 q,.bool false],by simp[results,results114,go_sem],by simp,K.o⟩
 | true=>
  obtain⟨r,j⟩:=xe (aD (x.o+1) k);have l:=aA (show ∀ W,BdAt W x t->Calls prog 172 #[.pointer (some ⟨x.b,0,none⟩),.int .i64 k] W fun e g=>e=.returned (.bool r)/\g=W from fun W u=>by rw[j];exact qN x t k W u);rw[<-j];clear j
  cases r with
  | false=>go_enter func114,ntmps114;go_wp2_with fail;refine d.o.mono ?_;rintro e n ⟨rfl,a⟩;have K:=aA a;have f:=aA (H.o.dk a);clear a;go_wp2_with fail;refine(l.o _ f.o).mono ?_;rintro e y ⟨rfl,c⟩;rw[c];clear c;go_wp2_with fail;exact⟨rfl,.tuple #[.int .i64 q,.bool false],by simp[results,results114,go_sem],by simp,K.o⟩
  | true=>go_enter func114,ntmps114;go_wp2_with fail;refine d.o.mono ?_;rintro e n ⟨rfl,a⟩;have K:=aA a;have f:=aA (H.o.dk a);clear a;go_wp2_with fail;refine(l.o _ f.o).mono ?_;rintro e y ⟨rfl,c⟩;rw[c];clear c;go_wp2_with fail;refine(is_any x t 2 (q:Int) k _ f.o).mono ?_;rintro e z ⟨rfl,a⟩;have s:=aA (nT K.o a);clear a;go_wp2_with fail;exact⟨rfl,.tuple #[.int .i64 q,.bool (kT t.m 2 (q:Int) k)],by simp[results,results114,go_sem],by simp,s.o⟩
structure Least(x:Bx)(t:Bt)(k j:Nat):Prop where
 lk:k<=j
 lo:j<=x.o+1
 lz:∀ a,k<=a->a<j->t.hd a=0
 lh:j<=x.o->t.hd j≠0
theorem JV(x:Bx)(t:Bt)(k:Nat)(D:k<=x.o)(w:Wd)(h:BdAt w x t):Calls prog 218 #[.pointer (some ⟨x.b,0,none⟩),.int .i64 k] w fun e y=>∃ j:Nat,e=.returned (.int .i64 j)/\Least x t k j/\y=w:=by
 have c3:=h.b3;have H:=aA h;have B:=h.o8;clear h;go_enter func218,ntmps218;go_wp2_with fail;go_loopw [1] (fun i W=>Hd (W=w)/\∃ j:Nat,k<=j/\j<=x.o+1/\i=.int .i64 j/\Hd (∀ a,k<=a->a<j->t.hd a=0)) (fun i _=>x.o+1-(intOf i).toNat)
 case atStart=>exact⟨rfl,k,by omega,by omega,rfl,fun a m p=>by omega⟩
 case round=>
  obtain⟨r,j,m,p,rfl,hz⟩:=hrel;have r:=r.o;subst r;have f:=aA (qN x t (j:Int) wr H.o);by_cases u:j<=x.o
  ·rw[show aD (x.o+1) (j:Int)=true by simp only[aD];exact af ⟨by omega,by omega⟩] at f;have A:(j:Int)<((x.o+1:Nat):Int):=(by omega);have cl:=H.o.lc j u;have n:=aA (M.Head_any (x.L j) x.s (t.hd j) wr (H.o.ls j u));obtain⟨d,hd⟩:=xe (t.hd j);rw[<-hd] at n;have g:=aA hd;clear hd;by_cases v:d=0
   ·have q:(d:Int)=0:=(by omega);go_wp2_with fail;refine f.o.mono ?_;rintro e l ⟨rfl,c⟩;rw[c];clear c;go_wp2_with fail;refine n.o.mono ?_;rintro e l ⟨rfl,c⟩;rw[c];clear c;go_wp2_with fail;exact⟨⟨trivial,j+1,by omega,by omega,by simp,fun a z C=>by
     by_cases e:a=j;·subst e;rw[<-g.o];exact v
     ·exact hz.o a z (by omega)⟩,by simp[intOf];omega⟩
   ·have q:¬(d:Int)=0:=(by omega);go_wp2_with fail;refine f.o.mono ?_;rintro e l ⟨rfl,c⟩;rw[c];clear c;go_wp2_with fail;refine n.o.mono ?_;rintro e l ⟨rfl,c⟩;rw[c];clear c;go_wp2_with fail;go_ret;exact⟨j,rfl,⟨m,p,hz.o,fun _=>by rw[<-g.o];exact v⟩,rfl⟩
  ·rw[show aD (x.o+1) (j:Int)=false by simp only[aD];exact ah (fun e=>by omega)] at f;go_wp2_with fail;refine f.o.mono ?_;rintro e l ⟨rfl,c⟩;rw[c];clear c;go_wp2_with fail;go_ret;exact⟨j,rfl,⟨m,p,hz.o,fun e=>by omega⟩,rfl⟩
def ad(x:Bx)(p:Nat):Nat:=x.bS+4096*p
def pK(x:Bx)(t:Bt)(p k:Nat):Bt:={ t with f:=(M.pushR x.bS x.n t.f (t.hd k) (ad x p)).1,hd:=lN t.hd k (M.pushR x.bS x.n t.f (t.hd k) (ad x p)).2.1 }
def oL(x:Bx)(t:Bt)(p k:Nat):Nat:=(M.pushR x.bS x.n t.f (t.hd k) (ad x p)).2.2
def cP(t:Bt)(p k:Nat)(kd:Int):Bt:={ t with m:=cF t.m p k kd }
def fB(x:Bx)(t:Bt)(p k:Nat):Bt:=if oL x t p k=0 then fS (cP (pK x t p k) p k 0) p k else pK x t p k
def iE(x:Bx)(t:Bt)(p k:Nat):Nat:=if oL x t p k=0 then 0 else 9
theorem qM(x:Bx)(t:Bt)(p k:Nat)(kd:Int)(w:Wd)(h:BdAt w x t):Calls prog 175 #[.pointer (some ⟨x.m,0,none⟩),.int .i64 p,.int .i64 k,.int .i64 kd] w fun e a=>e=.returned (.int .i64 (fM t.m p k kd))/\BdAt a x (cP t p k kd)/\Kt (aC x) w a:=by
 refine(DW x.m x.B t.m p k kd w h.mp).mono ?_;rintro e a ⟨rfl,c,b⟩;exact⟨rfl,h.map b c (AX _ _ _ _),GC (h.mo▸b)⟩
theorem zjk(x:Bx)(t:Bt)(p k:Nat)(hp:p<=4000)(c:k<=x.o)(w:Wd)(h:BdAt w x t):Calls prog 232 #[.pointer (some ⟨x.L k,0,none⟩),.int .u64 ((ad x p:Nat):Int)] w fun e b=>e=.returned (.int .i64 (oL x t p k:Int))/\BdAt b x (pK x t p k)/\Kt (aC x) w b:=by
 have hb:=h.ie;refine(M.Push_any (x.L k) x.s x.a x.bS x.R x.dl x.n t.f (t.hd k) (ad x p) (by unfold ad;omega) w (h.eF k c)).mono ?_;rintro e b ⟨rfl,g,d⟩;exact⟨rfl,h.list c d g,xG c d⟩
theorem xF(x:Bx)(t:Bt)(p k:Nat)(hp:p<=4000)(B:k<=x.o)(w:Wd)(h:BdAt w x t):Calls prog 174 #[.pointer (some ⟨x.b,0,none⟩),.int .i64 p,.int .i64 k] w fun e i=>e=.returned (.int .i64 (iE x t p k:Int))/\BdAt i x (fB x t p k)/\Kt (aC x) w i:=by
 have c3:=h.b3;have cl:=h.lc k B;have Y:=h.o8;have H:=aA h;have K:(k:Int)<((x.o+1:Nat):Int):=by omega
 have N:(0:Int)<=(k:Int):=by omega
 have I:(k:Int)<x.o+1:=by omega
 have F:k<x.o+1:=by omega
 have Q:IntKind.i64.wrap (k:Int)=k:=by rw[cz];omega
 have A:=aA (show ∀ W,BdAt W x t->Calls prog 210 #[.pointer (some ⟨x.b,0,none⟩),.int .i64 p] W fun e i=>e=.returned (.int .u64 ((ad x p:Nat):Int))/\i=W from fun W S=>lX x t p hp W S);have y:=aA (h.dk (kz w).drew);obtain⟨q,hq⟩:=xe (ad x p);have u:=aA (zjk x t p k hp B w.drew y.o);rw[<-hq] at A u;obtain⟨s,m⟩:=xe (oL x t p k);rw[<-m] at u;have G:iE x t p k=if s=0 then 0 else 9:=by rw[m];rfl
 have J:fB x t p k=if s=0 then fS (cP (pK x t p k) p k 0) p k else pK x t p k:=by rw[m];rfl
 rw[G,J];clear h hq m G J;have j:w.drew.cell? ⟨x.b,3,none⟩=some (.slice (some ⟨x.l,0,none⟩) (x.o+1) x.c):=c3;have n:w.drew.cell? ⟨x.l,k,none⟩=some (.pointer (some ⟨x.L k,0,none⟩)):=cl;by_cases h0:s=0
 ·rw[ae h0,ae h0];have v:(s:Int)=0:=by omega
  have z:((s:Int) != 0)=false:=by simp[v]
  clear h0;go_enter func174,ntmps174;go_wp2_with fail;go_region_held3 (fun i=>i.cell? ⟨x.b,3,none⟩=some (.slice (some ⟨x.l,0,none⟩) (x.o+1) x.c)/\i.cell? ⟨x.l,k,none⟩=some (.pointer (some ⟨x.L k,0,none⟩))) (first|with_reducible exact⟨j,n⟩|with_reducible exact⟨g,a⟩) (first|(go_at_call 210;refine(A.o _ y.o).mono ?_;rintro e P ⟨rfl,d⟩;rw[d];clear d)|(go_at_call 232;refine u.o.mono ?_;rintro e E ⟨rfl,f,hK⟩;have r:=aA f;have C:=aA (show Kt (aC x) w E from eQ (jD (kz w).drew) hK);have g:=r.o.b3;have a:=r.o.lc k B;clear f hK))
  all_goals
   have D:=r.o.b2;clear c3 cl j n g a A u y z;go_wp2_with fail;refine(qM x _ p k 0 _ r.o).mono ?_;rintro e Z ⟨rfl,f,hK⟩;have V:=aA f;have R:=aA (eQ C.o hK);clear f hK D;go_wp2_with fail;refine(wZ x _ (p:Int) (k:Int) _ V.o).mono ?_;rintro e X ⟨rfl,f,hK⟩;have U:=aA f;have T:=aA (eQ R.o hK);clear f hK;go_wp2_with fail;go_ret;exact⟨rfl,U.o,T.o⟩
 ·rw[ac h0,ac h0];have v:¬(s:Int)=0:=by omega
  have z:((s:Int) != 0)=true:=by simp[h0]
  clear h0;go_enter func174,ntmps174;go_wp2_with fail;go_region_held3 (fun i=>i.cell? ⟨x.b,3,none⟩=some (.slice (some ⟨x.l,0,none⟩) (x.o+1) x.c)/\i.cell? ⟨x.l,k,none⟩=some (.pointer (some ⟨x.L k,0,none⟩))) (first|with_reducible exact⟨j,n⟩|with_reducible exact⟨g,a⟩) (first|(go_at_call 210;refine(A.o _ y.o).mono ?_;rintro e P ⟨rfl,d⟩;rw[d];clear d)|(go_at_call 232;refine u.o.mono ?_;rintro e E ⟨rfl,f,hK⟩;have r:=aA f;have C:=aA (show Kt (aC x) w E from eQ (jD (kz w).drew) hK);have g:=r.o.b3;have a:=r.o.lc k B;clear f hK))
  all_goals
   clear c3 cl j n g a A u y;go_wp2_with fail;go_ret;exact⟨rfl,r.o,C.o⟩
def fE(x:Bx)(p tq:Nat):Nat->Bt->Bt×Nat×Nat
 | 0,t=>(t,tq,0)
 | d+1,t=>if iE x t (p+2 ^ (tq+d)) (tq+d)=0 then fE x p tq d (fB x t (p+2 ^ (tq+d)) (tq+d)) else (fB x t (p+2 ^ (tq+d)) (tq+d),tq+d+1,9)
def eC(x:Bx)(t:Bt)(p fr tq:Nat):Bt:=cP (fE x p tq (fr-tq) t).1 p (fE x p tq (fr-tq) t).2.1 2
def gF(x:Bx)(t:Bt)(p fr tq:Nat):Nat:=(fE x p tq (fr-tq) t).2.2
theorem zh5(x:Bx)(t:Bt)(p k:Nat):iE x t p k=0\/iE x t p k=9:=by
 unfold iE;split;·exact .inl rfl
 ·exact .inr rfl
def mJ(x:Bx)(p tq:Nat)(r:Bt×Nat×Nat)(w W:Wd)(F E:Nat):Prop:=
 ∃ t1,BdAt W x t1/\Kt (aC x) w W/\((E=0/\∃ d,F=tq+d/\fE x p tq d t1=r)\/(E=9/\r=(t1,F,9)))
theorem FX(x:Bx)(t:Bt)(p fr a:Nat)(hp:p<=1024)(X:a<=fr)(a0:fr<=x.o)(w:Wd)(h:BdAt w x t):Calls prog 115 #[.pointer (some ⟨x.b,0,none⟩),.int .i64 p,.int .i64 fr,.int .i64 a] w fun e G=>e=.returned (.int .i64 (gF x t p fr a:Int))/\BdAt G x (eC x t p fr a)/\Kt (aC x) w G:=by
 have ho:=h.o8;obtain⟨r,U⟩:=xe (fE x p a (fr-a) t);rw[show gF x t p fr a=r.2.2 by rw[U];rfl,show eC x t p fr a=cP r.1 p r.2.1 2 by rw[U];rfl];have H0:=aA (show mJ x p a r w w fr 0 from⟨t,h,Kt.refl _ _,.inl ⟨rfl,fr-a,by omega,U.symm⟩⟩);clear h U;go_enter func115,ntmps115;go_wp2_with fail;go_loopw [2,9] (fun i e W=>∃ F E:Nat,i=.int .i64 F/\e=.int .i64 E/\a<=F/\F<=fr/\(E=0\/E=9)/\Hd (mJ x p a r w W F E)) (fun i e _=>if intOf e=0 then (intOf i).toNat-a+1 else 0)
 case atStart=>exact⟨fr,0,rfl,rfl,X,aj _,.inl rfl,H0⟩
 case round=>
  obtain⟨F,E,rfl,rfl,h1,h2,l,Z⟩:=hrel;clear H0;obtain⟨g,f,hK,hc⟩:=Z.o;have v:=aA f;have K:=aA hK;have A:=aA hc;clear f hK hc Z;have c:∀ Q:Nat,((Q=0/\F=a)\/Q=9)->E=Q->g=r.1/\F=r.2.1/\Q=r.2.2:=fun Q h4 J=>by
   subst J;rcases A.o with ⟨I,d,B,y⟩|⟨I,B⟩
   ·have e4:d=0:=(by omega);subst e4;rw[<-y];exact⟨rfl,B,I⟩
   ·rw[B];exact⟨rfl,rfl,I⟩
  by_cases h4:a<F
  ·have V:(a:Int)<F:=(by omega);rcases l with l|l
   ·obtain⟨k,hk⟩:∃ k,F=k+1:=⟨F-1,by omega⟩;obtain⟨z,hz⟩:=xe (2 ^ k);have a2:(2:Int) ^ k=(z:Int):=(by rw[hz];simp);have a1:z<=256:=(by rw[hz];exact bj (n:=2) (by decide) (show k<=8 by omega));subst l;subst hk;have T:=aA (show Calls prog 174 #[.pointer (some ⟨x.b,0,none⟩),.int .i64 ((p:Int)+(z:Int)),.int .i64 k] wr fun e G=>e=.returned (.int .i64 (iE x g (p+z) k:Int))/\BdAt G x (fB x g (p+z) k)/\Kt (aC x) wr G from xF x g (p+z) k (by omega) (by omega) wr v.o);have R:=aA (show ∀ W,Kt (aC x) wr W->BdAt W x (fB x g (p+z) k)->(iE x g (p+z) k=0->mJ x p a r w W k 0)/\(iE x g (p+z) k=9->mJ x p a r w W (k+1) 9)from fun W kW bW=>by
     rcases A.o with ⟨I,d,B,y⟩|⟨I,B⟩
     ·obtain⟨S,rfl⟩:∃ S,d=S+1:=⟨d-1,by omega⟩;have Y:k=a+S:=(by omega);rw[fE,<-Y,<-hz] at y;refine⟨fun e=>?_,fun e=>?_⟩
      ·rw[ae e] at y;exact⟨_,bW,eQ K.o kW,.inl ⟨rfl,S,Y,y⟩⟩
      ·rw[ac (by omega)] at y;exact⟨_,bW,eQ K.o kW,.inr ⟨rfl,y.symm⟩⟩
     ·omega)
    have ET:=aA (zh5 x g (p+z) k);obtain⟨E2,C⟩:=xe (iE x g (p+z) k);obtain⟨T2,L⟩:=xe (fB x g (p+z) k);rw[<-C] at T R ET;rw[<-L] at T R;clear hz C L c A;have a3:IntKind.i64.wrap ((p:Int)+(z:Int))=((p+z:Nat):Int):=(by rw[cz];omega);go_wp2_with fail;refine T.o.mono ?_;rintro e w2 ⟨rfl,f,hK⟩;have S2:=aA (R.o w2 hK f);clear f hK T R;rcases ET.o with J|J
    ·subst J;go_wp2_with fail;exact⟨⟨k,0,rfl,rfl,by omega,by omega,.inl rfl,S2.o.1 trivial⟩,by simp[intOf];omega⟩
    ·subst J;go_wp2_with fail;exact⟨⟨k+1,9,by simp,rfl,by omega,by omega,.inr rfl,S2.o.2 trivial⟩,by simp[intOf]⟩
   ·subst l;obtain⟨u,q,m⟩:=c 9 (.inr rfl) rfl;have c2:=v.o.b2;have P:=aA u;have j:=aA q;have N:=aA m;clear c A u q m;go_wp2_with fail;refine(qM x g p F 2 _ v.o).mono ?_;rintro e s ⟨rfl,f,hK⟩;have D:=aA (show BdAt s x (cP r.1 p r.2.1 2)/\Kt (aC x) w s from⟨by rw[<-P.o,<-j.o];exact f,eQ K.o hK⟩);clear f hK;go_wp2_with fail;go_ret;exact⟨dX (by rw[<-N.o];rfl),D.o⟩
  ·have V:¬(a:Int)<F:=(by omega);rcases l with l|l
   ·subst l;obtain⟨u,q,m⟩:=c 0 (.inl ⟨rfl,by omega⟩) rfl;have c2:=v.o.b2;have P:=aA u;have j:=aA q;have N:=aA m;clear c A u q m;go_wp2_with fail;refine(qM x g p F 2 _ v.o).mono ?_;rintro e s ⟨rfl,f,hK⟩;have D:=aA (show BdAt s x (cP r.1 p r.2.1 2)/\Kt (aC x) w s from⟨by rw[<-P.o,<-j.o];exact f,eQ K.o hK⟩);clear f hK;go_wp2_with fail;go_ret;exact⟨dX (by rw[<-N.o];rfl),D.o⟩
   ·subst l;obtain⟨u,q,m⟩:=c 9 (.inr rfl) rfl;have c2:=v.o.b2;have P:=aA u;have j:=aA q;have N:=aA m;clear c A u q m;go_wp2_with fail;refine(qM x g p F 2 _ v.o).mono ?_;rintro e s ⟨rfl,f,hK⟩;have D:=aA (show BdAt s x (cP r.1 p r.2.1 2)/\Kt (aC x) w s from⟨by rw[<-P.o,<-j.o];exact f,eQ K.o hK⟩);clear f hK;go_wp2_with fail;go_ret;exact⟨dX (by rw[<-N.o];rfl),D.o⟩
def iM(x:Bx)(t:Bt)(k:Nat):Bt:={ t with f:=(M.popR x.bS x.n t.f (t.hd k)).1,hd:=lN t.hd k (M.popR x.bS x.n t.f (t.hd k)).2.1 }
def kQ(x:Bx)(t:Bt)(k:Nat):Nat:=(M.popR x.bS x.n t.f (t.hd k)).2.2.2
theorem ZZ(x:Bx)(t:Bt)(k:Nat)(c:k<=x.o)(w:Wd)(h:BdAt w x t):Calls prog 219 #[.pointer (some ⟨x.L k,0,none⟩)] w fun e b=>∃ v:Nat,e=.returned (.tuple #[.int .u64 v,.int .i64 (kQ x t k:Int)])/\BdAt b x (iM x t k)/\Kt (aC x) w b:=by
 refine(M.Pop_any (x.L k) x.s x.a x.bS x.R x.dl x.n t.f (t.hd k) w (h.eF k c)).mono ?_;rintro e b ⟨rfl,g,d⟩;exact⟨_,rfl,h.list c d g,xG c d⟩
theorem zjl(x:Bx)(t:Bt)(k:Int)(f:aD (x.o+1) k=false)(w:Wd)(h:BdAt w x t):Calls prog 161 #[.pointer (some ⟨x.b,0,none⟩),.int .i64 k] w fun e d=>e=.returned (.tuple #[.int .u64 0,.int .i64 1])/\d=w:=by
 have c:=aA (qN x t k w h);rw[f] at c;go_enter func161,ntmps161;go_wp2_with fail;refine c.o.mono ?_;rintro e g ⟨rfl,a⟩;rw[a];clear a;go_wp2_with fail;exact⟨rfl,.tuple #[.int .u64 0,.int .i64 1],by simp[results,results161,go_sem],rfl,rfl⟩
theorem tC(x:Bx)(t:Bt)(k:Nat)(d:k<=x.o)(w:Wd)(h:BdAt w x t):Calls prog 172 #[.pointer (some ⟨x.b,0,none⟩),.int .i64 k] w fun e c=>e=.returned (.bool true)/\c=w:=by
 have a:=qN x t (k:Int) w h;rw[show aD (x.o+1) (k:Int)=true by simp only[aD];exact af ⟨by omega,by omega⟩] at a;exact a
theorem zh6(x:Bx)(t:Bt)(k:Nat)(i:k<=x.o)(hz:∀ a,k<=a->a<=x.o->t.hd a=0)(w:Wd)(h:BdAt w x t):Calls prog 161 #[.pointer (some ⟨x.b,0,none⟩),.int .i64 k] w fun e f=>e=.returned (.tuple #[.int .u64 0,.int .i64 2])/\f=w:=by
 have l:=aA (tC x t k i w h);have LE:=aA (JV x t k i w h);have m:=aA (show ∀ j:Nat,Least x t k j->Calls prog 172 #[.pointer (some ⟨x.b,0,none⟩),.int .i64 j] w fun e f=>e=.returned (.bool false)/\f=w from fun j d=>by
  have p:¬j<=x.o:=fun e=>d.lh e (hz j d.lk e)
  have q:=qN x t (j:Int) w h;rw[show aD (x.o+1) (j:Int)=false by simp only[aD];exact ah (fun e=>by omega)] at q;exact q)
 clear hz h;go_enter func161,ntmps161;go_wp2_with fail;refine l.o.mono ?_;rintro e g ⟨rfl,c⟩;rw[c];clear c;go_wp2_with fail;refine LE.o.mono ?_;rintro e g ⟨j,rfl,d,c⟩;rw[c];have n:=aA (m.o j d);clear c d;go_wp2_with fail;refine n.o.mono ?_;rintro e g ⟨rfl,c⟩;rw[c];clear c;go_wp2_with fail;exact⟨rfl,.tuple #[.int .u64 0,.int .i64 2],by simp[results,results161,go_sem],rfl,rfl⟩
def oK(x:Bx)(t:Bt)(q j k:Nat):Bt:=eC x (fS (iM x t j) q j) q j k
theorem ZY(x:Bx)(t:Bt)(k j q:Nat)(T:k<=x.o)(hL:Least x t k j)(i:j<=x.o)(hq:t.hd j=ad x q)(Y:q<t.m.n)(l:M.In x.bS x.n (ad x q) 1)(C:q%2 ^ j=0)(g:kQ x t j=0)(hcut:gF x (fS (iM x t j) q j) q j k=0)(w:Wd)(h:BdAt w x t):Calls prog 161 #[.pointer (some ⟨x.b,0,none⟩),.int .i64 k] w fun e y=>e=.returned (.tuple #[.int .u64 ((ad x q:Nat):Int),.int .i64 0])/\BdAt y x (oK x t q j k)/\Kt (aC x) w y:=by
 have ho:=h.o8;have V:=h.mp.n1;have hb:=h.ie;have c3:=h.b3;have cl:=h.lc j i;have H:=aA h;have a4:(j:Int)<((x.o+1:Nat):Int):=by omega
 obtain⟨z,hz⟩:=xe (2 ^ j);have a3:(2:Int) ^ j=(z:Int):=by rw[hz];simp
 have a1 : 1<=z:=by rw[hz];exact ap (by decide)
 have a2:z<=256:=by rw[hz];exact bj (n:=2) (by decide) (show j<=8 by omega)
 have U:(q:Int)%(z:Int)=0:=by rw[<-hz] at C;omega
 have a0:¬(z:Int)=0:=by omega
 obtain⟨a,ha⟩:=xe (ad x q);have G:a<18446744073709551616:=by rw[ha];unfold ad;unfold M.In at l;omega
 have d:fO x a=4096*q:=by rw[ha];unfold fO ad;omega
 have u:lG x t a:=by unfold lG;rw[d];exact⟨by omega,by omega⟩
 have R:fR x t a=q:=by unfold fR;rw[ae u,d];omega
 have f:lS x t a=true:=by unfold lS;exact af ⟨u,by rw[ha];exact l⟩
 have F:=aA (FZ x t a G w h);rw[R,f] at F;have E:=aA (M.Head_any (x.L j) x.s (t.hd j) w (h.ls j i));rw[hq,<-ha] at E;rw[<-ha];have Q:=aA (tC x t k T w h);have S:=aA (tC x t j i w h);have LE:=aA (show Calls prog 218 #[.pointer (some ⟨x.b,0,none⟩),.int .i64 k] w fun e y=>e=.returned (.int .i64 j)/\y=w from(JV x t k T w h).mono (by
  rintro e y ⟨N,rfl,p,rfl⟩;have:N=j:=by
   rcases Nat.lt_trichotomy N j with e|e|e
   ·exact absurd (hL.lz N p.lk e) (p.lh (by omega))
   ·exact e
   ·exact absurd (p.lz j hL.lk e) (hL.lh i)
  subst this;exact⟨rfl,rfl⟩))
 have A:=aA g;have B:=aA hcut;have J:=hL.lk;clear h hz ha d u R f g hcut hL hq l C;go_enter func161,ntmps161;go_wp2_with fail;refine Q.o.mono ?_;rintro e D ⟨rfl,c⟩;rw[c];clear c;go_wp2_with fail;refine LE.o.mono ?_;rintro e D ⟨rfl,c⟩;rw[c];clear c;go_wp2_with fail;refine S.o.mono ?_;rintro e D ⟨rfl,c⟩;rw[c];clear c;go_wp2_with fail;refine E.o.mono ?_;rintro e D ⟨rfl,c⟩;rw[c];clear c;go_wp2_with fail;refine F.o.mono ?_;rintro e D ⟨rfl,r⟩;have K1:=aA r;have I:=aA (H.o.dk r);have P:=I.o.b3;have K:=I.o.lc j i;clear r c3 cl Q S E F LE;go_wp2_with fail;refine(ZZ x t j i _ I.o).mono ?_;rintro e w2 ⟨v,rfl,f,hK⟩;rw[A.o];have H2:=aA f;have X:=aA (eQ (jD K1.o) hK);clear f hK P K;go_wp2_with fail;refine(wZ x _ (q:Int) (j:Int) _ H2.o).mono ?_;rintro e w3 ⟨rfl,f,hK⟩;have H3:=aA f;have Z:=aA (eQ X.o hK);clear f hK;go_wp2_with fail;refine(FX x _ q j k (by omega) J i _ H3.o).mono ?_;rintro e w4 ⟨rfl,f,hK⟩;rw[B.o];have H4:=aA f;have K4:=aA (eQ Z.o hK);clear f hK;go_wp2_with fail;exact⟨rfl,.tuple #[.int .u64 a,.int .i64 0],by simp[results,results161,go_sem],rfl,H4.o,K4.o⟩
theorem zgx(a b:Nat)(ha:a<4611686018427387904)(hb:b<4611686018427387904):bits .xor .i64 (a:Int) (b:Int)=((a ^^^ b:Nat):Int):=by
 have hx:a ^^^ b<2 ^ 62:=Nat.xor_lt_two_pow (by omega) (by omega);show IntKind.i64.wrap ((BitVec.ofInt 64 (a:Int) ^^^ BitVec.ofInt 64 (b:Int)).toNat:Int)=_
 rw[BitVec.toNat_xor,ofInt_u64 a (by omega),ofInt_u64 b (by omega),cz];omega
theorem zem(a b:Nat)(ha:a<4611686018427387904)(hb:b<4611686018427387904):bits .andNot .i64 (a:Int) (b:Int)=((a &&& (18446744073709551615-b):Nat):Int):=by
 have hx:a &&& (18446744073709551615-b)<=a:=Nat.and_le_left;show IntKind.i64.wrap ((BitVec.ofInt 64 (a:Int) &&& ~~~BitVec.ofInt 64 (b:Int)).toNat:Int)=_
 rw[BitVec.toNat_and,BitVec.toNat_not,ofInt_u64 a (by omega),ofInt_u64 b (by omega),cz];have e : 2 ^ 64-1-b=18446744073709551615-b:=by omega
 rw[e];omega
theorem zjm(b:Nat)(B:Bs)(m:Mp)(k i:Int)(w:Wd)(h:MpA w b B m):Calls prog 257 #[.pointer (some ⟨b,0,none⟩),.int .i64 k,.int .i64 i] w fun e j=>e=.returned (.bool (iT m k i))/\∃ r,j=w.drewN r:=by
 cases hp:dT m k i with
 | false=>
  rw[show iT m k i=false by simp[iT,hp]];have a:=aA (fun q=>qS b B m k i (w.drewN q) (h.dk ((kz w).drewN q)));rw[show(aD m.o k && aD m.n i)=false from hp] at a;clear h hp;go_enter func257,ntmps257;go_wp2_with fail;go_quiet ((go_at_call 256;exact Calls.quiet_of_same (a.o _)))
  go_wp2_with fail;go_ret;exact⟨rfl,_,rfl⟩
 | true=>
  have c:=hp;simp only[dT,bu] at c;obtain⟨k,rfl,d⟩:=gP c.1;obtain⟨i,rfl,hi⟩:=gP c.2;rw[show iT m (k:Int) (i:Int)=cS (m.n/2 ^ (k+1)) (m.wd k) ((i/2 ^ (k+1):Nat):Int)by simp[iT,hp,nY,nX]];have a:=aA (fun q=>qS b B m k i (w.drewN q) (h.dk ((kz w).drewN q)));rw[show(aD m.o (k:Int) && aD m.n (i:Int))=true from hp] at a;obtain⟨q,hq,t⟩:=h.cp k d;obtain⟨s,c2⟩:=h.c2 hq;have l:=aA (fun z=>nJ (B.S k) (B.C k) _ (m.wd k) ((i/2 ^ (k+1):Nat):Int) (w.drewN z) ((h.set k d).kept ((kz w).drewN z) (fun x=>x) (fun x=>x)));have p:k<8:=by have:=h.o8;omega
  have f:i<1024:=by have:=h.n1;omega
  have g:(k:Int)<m.o:=by omega
  clear h hq c hp;go_enter func257,ntmps257;go_wp2_with fail;go_quiet (first|(go_at_call 256;exact Calls.quiet_of_same (a.o _))|(go_at_call 192;exact Calls.quiet_of_same (l.o _)))
  go_wp2_with fail;go_ret;exact⟨rfl,_,rfl⟩
theorem LB(x:Bx)(t:Bt)(p k:Int)(w:Wd)(h:BdAt w x t):Calls prog 249 #[.pointer (some ⟨x.b,0,none⟩),.int .i64 p,.int .i64 k] w fun e a=>e=.returned (.bool (lI x t p k))/\∃ r,a=w.drewN r:=by
 have c2:=h.b2;have H:=aA h;have c:=aA (lY x t w h);clear h;by_cases h0:k<(x.o:Int);·rw[show lI x t p k=iT t.m k p by simp[lI,h0]];go_enter func249,ntmps249;go_wp2_with fail;refine c.o.mono ?_;rintro e f ⟨rfl,rfl⟩;go_wp2_with fail;refine(zjm x.m x.B t.m k p _ H.o.mp).mono ?_;rintro e a ⟨rfl,d⟩;have K:=aA d;clear d;go_wp2_with fail;go_ret;exact⟨cN (by simp),K.o⟩
 ·rw[show lI x t p k=false by simp[lI,h0]];go_enter func249,ntmps249;go_wp2_with fail;refine c.o.mono ?_;rintro e f ⟨rfl,rfl⟩;go_wp2_with fail;go_ret;exact⟨rfl,0,rfl⟩
def cJ(x:Bx)(t:Bt)(p k:Nat):Bt:={ t with f:=(M.removeR x.bS x.n t.f (t.hd k) (ad x p)).1,hd:=lN t.hd k (M.removeR x.bS x.n t.f (t.hd k) (ad x p)).2.1 }
def iK(x:Bx)(t:Bt)(p k:Nat):Nat:=(M.removeR x.bS x.n t.f (t.hd k) (ad x p)).2.2
theorem FW(x:Bx)(t:Bt)(p k:Nat)(hp:p<=4000)(c:k<=x.o)(w:Wd)(h:BdAt w x t):Calls prog 209 #[.pointer (some ⟨x.L k,0,none⟩),.int .u64 ((ad x p:Nat):Int)] w fun e b=>e=.returned (.int .i64 (iK x t p k:Int))/\BdAt b x (cJ x t p k)/\Kt (aC x) w b:=by
 have hb:=h.ie;refine(M.Remove_any (x.L k) x.s x.a x.bS x.R x.dl x.n t.f (t.hd k) (ad x p) (by unfold ad;omega) w (h.eF k c)).mono ?_;rintro e b ⟨rfl,g,d⟩;exact⟨rfl,h.list c d g,xG c d⟩
theorem ze9{P:Program}{c:Code}{a:Act}{w:Wd}{Q:Exit->Act->Wd->Prop}(l:Nat)(J:Act->Wd->Prop)(μ : Act->Wd->Nat)(h0:J a w)(b:∀ a w,J a w->c.wp P (Exit.jump l (fun a' d=>J a' d/\μ a' d<μ a w) Q) a w):(Code.scope ((Code.label l).seq c)).wp P Q a w:=
 wp_scope_jumps l J μ (rest:=Code.skip.seq c) (by simp[findLabel]) (wp_seq (wp_label (Code.wp_mono (fun e a w h=>by
  cases e with
  | goto f=>exact⟨h.1,h.2.1⟩
  | _=>exact h) (b a w h0)))) (fun a w h=>wp_seq (wp_skip (b a w h)))
def aW(p k:Nat):Nat:=p ^^^ 2 ^ k
def dS(p k:Nat):Nat:=p &&& (18446744073709551615-2 ^ k)
def gL(x:Bx):Nat->Bt->Nat->Nat->Bt×Nat×Nat
 | 0,t,p,k=>(t,p,k)
 | d+1,t,p,k=>if lI x t (p:Int) (k:Int)=true then (if iK x t (aW p k) k=0 then gL x d (fS (cJ x t (aW p k) k) (p:Int) (k:Int)) (dS p k) (k+1) else (cJ x t (aW p k) k,p,k)) else (t,p,k)
def uS(x:Bx)(r:Bt×Nat×Nat)(w W:Wd)(p k:Nat):Prop:=∃ t1,BdAt W x t1/\Kt (aC x) w W/\gL x (x.o-k) t1 p k=r
theorem ZX(x:Bx)(t:Bt)(S k0:Nat)(a1:S<=1024)(X:k0<=x.o)(w:Wd)(h:BdAt w x t):Calls prog 230 #[.pointer (some ⟨x.b,0,none⟩),.int .i64 S,.int .i64 k0] w fun e j=>∃ tr pr kr,(tr,pr,kr)=gL x (x.o-k0) t S k0/\e=.returned (.int .i64 (iE x tr pr kr:Int))/\BdAt j x (fB x tr pr kr)/\Kt (aC x) w j:=by
 have ho:=h.o8;obtain⟨r,hr⟩:=xe (gL x (x.o-k0) t S k0);rw[<-hr];have H0:=aA (show uS x r w w S k0 from⟨t,h,Kt.refl _ _,hr.symm⟩);clear h hr;go_enter func230,ntmps230;go_wp2_with fail;refine ze9 0 (fun a' W=>∃ (p k:Nat) (u7 u8 u9 u10 u11 u12 u13 u14 u15 u16 u17 u18 u19 u20 u21 u22 u23 u24 u25 u26 u27 u28 u29 u30 u31 u32 u33 u34 u35 u36 u37 u38 u39 u40 u41:Vl),a'={ tmps:=#[.pointer (some ⟨x.b,0,none⟩),.int .i64 p,.int .i64 k,undef,undef,undef,.int .i64 0,u7,u8,u9,u10,u11,u12,u13,u14,u15,u16,u17,u18,u19,u20,u21,u22,u23,u24,u25,u26,u27,u28,u29,u30,u31,u32,u33,u34,u35,u36,u37,u38,u39,u40,u41],defers:=[] }/\k<=x.o/\p<=1024/\Hd (uS x r w W p k)) (fun a' _=>x.o-(intOf (a'.tmps.getD 2 undef)).toNat) ?_ ?_;·exact⟨S,k0,_,_,_,_,_,_,_,_,_,_,_,_,_,_,_,_,_,_,_,_,_,_,_,_,_,_,_,_,_,_,_,_,_,_,_,rfl,X,a1,H0⟩
 ·rintro a' wr ⟨p,k,u7,u8,u9,u10,u11,u12,u13,u14,u15,u16,u17,u18,u19,u20,u21,u22,u23,u24,u25,u26,u27,u28,u29,u30,u31,u32,u33,u34,u35,u36,u37,u38,u39,u40,u41,rfl,J,hp,hJ⟩;obtain⟨i,f,hK,hc⟩:=hJ.o;have R:=aA f;have K1:=aA hK;have HC:=aA hc;clear f hK hc hJ H0;have X:(0:Int)<=(k:Int):=by omega
  have a5:(k:Int)<((x.o+1:Nat):Int):=by omega
  have a3:(k:Int)<x.o+1:=by omega
  have a4:k<x.o+1:=by omega
  have a9:IntKind.i64.wrap (k:Int)=k:=by rw[cz];omega
  obtain⟨z,hz⟩:=xe (2 ^ k);have b0:(2:Int) ^ k=(z:Int):=by rw[hz];simp
  have a6:z<=256:=by rw[hz];exact bj (n:=2) (by decide) (show k<=8 by omega)
  have T:IntKind.i64.wrap (z:Int)=z:=by rw[cz];omega
  obtain⟨q,hq⟩:=xe (aW p k);obtain⟨lo,v⟩:=xe (dS p k);have I:bits .xor .i64 (p:Int) (z:Int)=q:=by rw[zgx p z (by omega) (by omega),hq,aW,hz]
  have a2:bits .andNot .i64 (p:Int) (z:Int)=lo:=by rw[zem p z (by omega) (by omega),v,dS,hz]
  have V:q<=4000:=by
   have:q<2 ^ 11:=by rw[hq,aW,<-hz];exact Nat.xor_lt_two_pow (by omega) (by omega)
   omega
  have a7:lo<=p:=by rw[v];exact Nat.and_le_left
  have c3:=R.o.b3;have cl:=R.o.lc k J;have AQ:=aA (fun n=>LB x i (p:Int) (k:Int) (wr.drewN n) (R.o.dk ((kz wr).drewN n)));obtain⟨al,g⟩:=xe (lI x i (p:Int) (k:Int));rw[<-g] at AQ
  cases al with
  | false=>
   have N:=aA (show r=(i,p,k)by
    rw[<-HC.o]
    cases hdd:x.o-k with
    | zero=>rfl
    | succ d=>rw[gL,<-g,ac (by decide)])
   clear g hq v HC;go_wp2_with fail;go_quiet ((go_at_call 249;exact Calls.quiet_of (AQ.o _)))
   have A:=aA (R.o.dk ((kz wr).drewN nq));have Y:=aA (eQ K1.o (jD ((kz wr).drewN nq)));generalize wr.drewN nq=W2 at *;go_wp2_with fail;refine(xF x i p k (by omega) J _ A.o).mono ?_;rintro e w3 ⟨rfl,f,hK⟩;have D:=aA (And.intro f (eQ Y.o hK));clear f hK;go_wp2_with fail;simp only[Exit.jump];go_ret;exact⟨i,p,k,N.o.symm,rfl,D.o⟩
  | true=>
   have a8:k<x.o:=by have e:=g.symm;unfold lI at e;simp only[bu,ci] at e;omega
   obtain⟨d,hd⟩:∃ d,x.o-k=d+1:=⟨x.o-k-1,by omega⟩;have N:=aA (show r=if iK x i q k=0 then gL x d (fS (cJ x i q k) (p:Int) (k:Int)) lo (k+1) else (cJ x i q k,p,k)by
    rw[<-HC.o,hd,gL,<-g,ae rfl,<-hq,<-v])
   have a0:=aA (show d=x.o-(k+1)by omega);have AL:=aA (show Calls prog 249 #[.pointer (some ⟨x.b,0,none⟩),.int .i64 p,.int .i64 k] wr.drew fun e j=>e=.returned (.bool true)/\Hd (BdAt j x i/\Kt nO wr j)from(LB x i (p:Int) (k:Int) wr.drew (R.o.dk (kz wr).drew)).mono (by rintro e j ⟨rfl,r',rfl⟩;rw[<-g];exact⟨rfl,R.o.dk (((kz wr).drew).drewN r'),((kz wr).drew).drewN r'⟩))
   have u:=aA (show ∀ W,BdAt W x i->Calls prog 210 #[.pointer (some ⟨x.b,0,none⟩),.int .i64 q] W fun e j=>e=.returned (.int .u64 ((ad x q:Nat):Int))/\j=W from fun W hW=>lX x i q V W hW);have m:=aA (fun W (hW:BdAt W x i)=>FW x i q k V J W hW);obtain⟨a,ha⟩:=xe (ad x q);rw[<-ha] at u m;obtain⟨U,Z⟩:=xe (iK x i q k);rw[<-Z] at N m;clear g hq v HC hd AQ ha Z hz;have F:wr.drew.cell? ⟨x.b,3,none⟩=some (.slice (some ⟨x.l,0,none⟩) (x.o+1) x.c):=c3;have G:wr.drew.cell? ⟨x.l,k,none⟩=some (.pointer (some ⟨x.L k,0,none⟩)):=cl;by_cases h0:U=0
   ·have K:(U:Int)=0:=(by omega);have P:((U:Int) == 0)=true:=(by simp[K]);rw[ae h0] at N;clear h0;go_wp2_with fail;go_region_held3 (fun j=>j.cell? ⟨x.b,3,none⟩=some (.slice (some ⟨x.l,0,none⟩) (x.o+1) x.c)/\j.cell? ⟨x.l,k,none⟩=some (.pointer (some ⟨x.L k,0,none⟩))) (first|with_reducible exact⟨F,G⟩|with_reducible exact⟨C,B⟩|with_reducible exact⟨E,y⟩) (first|(go_at_call 249;refine AL.o.mono ?_;rintro e w1 ⟨rfl,hD⟩;have A:=aA hD.o.1;have Y:=aA (eQ K1.o (jD hD.o.2));have C:=A.o.b3;have B:=A.o.lc k J;clear hD)|(go_at_call 210;(try rw[T]);(try rw[I]);refine(u.o _ A.o).mono ?_;rintro e w2 ⟨rfl,s⟩;rw[s];clear s)|(go_at_call 209;refine(m.o _ A.o).mono ?_;rintro e w3 ⟨rfl,f,hK⟩;have Q:=aA f;have K3:=aA (eQ Y.o hK);have E:=Q.o.b3;have y:=Q.o.lc k J;clear f hK))
    all_goals
     clear c3 cl F G C B E y AL u m P;go_wp2_with fail;refine(wZ x _ (p:Int) (k:Int) _ Q.o).mono ?_;rintro e w4 ⟨rfl,f,hK⟩;have N4:=aA (show uS x r w w4 lo (k+1)from⟨_,f,eQ K3.o hK,by rw[<-a0.o];exact N.o.symm⟩);clear f hK;go_wp2_with fail;go_step3
     exact⟨rfl,⟨lo,k+1,_,_,_,_,_,_,_,_,_,_,_,_,_,_,_,_,_,_,_,_,_,_,_,_,_,_,_,_,_,_,_,_,_,_,_,rfl,by omega,by omega,N4⟩,by simp[intOf];omega⟩
   ·have K:¬(U:Int)=0:=(by omega);have P:((U:Int) == 0)=false:=ag.2 K;rw[ac h0] at N;clear h0;go_wp2_with fail;go_region_held3 (fun j=>j.cell? ⟨x.b,3,none⟩=some (.slice (some ⟨x.l,0,none⟩) (x.o+1) x.c)/\j.cell? ⟨x.l,k,none⟩=some (.pointer (some ⟨x.L k,0,none⟩))) (first|with_reducible exact⟨F,G⟩|with_reducible exact⟨C,B⟩|with_reducible exact⟨E,y⟩) (first|(go_at_call 249;refine AL.o.mono ?_;rintro e w1 ⟨rfl,hD⟩;have A:=aA hD.o.1;have Y:=aA (eQ K1.o (jD hD.o.2));have C:=A.o.b3;have B:=A.o.lc k J;clear hD)|(go_at_call 210;(try rw[T]);(try rw[I]);refine(u.o _ A.o).mono ?_;rintro e w2 ⟨rfl,s⟩;rw[s];clear s)|(go_at_call 209;refine(m.o _ A.o).mono ?_;rintro e w3 ⟨rfl,f,hK⟩;have Q:=aA f;have K3:=aA (eQ Y.o hK);have E:=Q.o.b3;have y:=Q.o.lc k J;clear f hK))
    all_goals
     clear c3 cl F G C B E y AL u m P;go_wp2_with fail;refine(xF x _ p k (by omega) J _ Q.o).mono ?_;rintro e w5 ⟨rfl,f,hK⟩;have D:=aA (And.intro f (eQ K3.o hK));clear f hK;go_wp2_with fail;simp only[Exit.jump];go_ret;exact⟨_,p,k,N.o.symm,rfl,D.o⟩
end Go.Proofs.YtfmgnljlkdmndaaGreatDoor
