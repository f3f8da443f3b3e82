import Derived.Test.YtfmgnljlkdmndaaGreatDoorZf
import Derived.Test.YtfmgnljlkdmndaaGreatDoorXf
import Derived.ScopeJumps
set_option maxRecDepth 1000000
set_option maxHeartbeats 80000000
namespace Go.Proofs.YtfmgnljlkdmndaaGreatDoor
open Tryz
open Go.RowKit
set_option linter.unusedVariables false
theorem dF{S:Nat->Prop}{w a:World}(h:M.Kt S w a):Kt S w a:=⟨h.os,h.tape,h.output,h.size,h.block⟩
theorem fL{S:Nat->Prop}{w a:World}(h:Kt S w a):M.Kt S w a:=⟨h.os,h.tape,h.output,h.size,h.block⟩
structure Bx where
 b:Nat
 s:Nat
 a:Option Nat
 m:Nat
 B:Bs
 l:Nat
 c:Nat
 L:Nat->Nat
 bS:Nat
 R:Nat
 lim:Nat
 n:Nat
 o:Nat
 P:Nat->Option Pg
structure Bt where
 f:Nat->Nat
 m:Mp
 hd:Nat->Nat
def lO(h:Nat->Nat)(k x:Nat):Nat->Nat:=fun j=>if j=k then x else h j
structure BdAt(w:World)(x:Bx)(t:Bt):Prop where
 sp:M.SpA w x.s x.a x.bS x.R x.lim x.n t.f
 mp:MpA w x.m x.B t.m
 ls:∀ k,k<=x.o->M.ListAt w (x.L k) x.s (t.hd k)
 bs:w.heap[x.b]?=some (.cells #[.int .u64 x.bS,.pointer (some ⟨x.s,0,none⟩),.pointer (some ⟨x.m,0,none⟩),.slice (some ⟨x.l,0,none⟩) (x.o+1) x.c] 134 (0,0))
 lr:∃ cs,w.heap[x.l]?=some (.cells cs 135 (0,0))/\∀ k,k<=x.o->cs[k]?=some (.pointer (some ⟨x.L k,0,none⟩))
 mo:t.m.o=x.o
 iL:∀ i j,i<=x.o->j<=x.o->x.L i=x.L j->i=j
 hR:x.R=4096*2 ^ x.o
theorem BdAt.o8{w x t}(h:BdAt w x t):x.o<=8:=by have:=h.mp.o8;rw[h.mo] at this;exact this
def aC(x:Bx):Nat->Prop:=fun y=>M.own x.s x.a y\/aO x.m x.B x.o y\/∃ k,k<=x.o/\y=x.L k
theorem nJ{w:World}{b:Nat}{B:Bs}{m:Mp}(h:MpA w b B m){x:Nat}(hx:aO b B m.o x):∃ cs t z,w.heap[x]?=some (.cells cs t z)/\(t=140\/t=97\/t=141\/t=181\/t=22):=by
 rcases hx with rfl|hx|hx|⟨k,a,rfl|rfl⟩
 ·obtain⟨d,hb,_⟩:=h.hb;exact⟨_,_,_,hb,.inl rfl⟩
 ·have c:=h.row;rw[hx] at c;obtain⟨cs,hg,_⟩:=c;exact⟨_,_,_,hg,.inr (.inl rfl)⟩
 ·obtain⟨d,_,hp⟩:=h.hb;rw[hx] at hp;obtain⟨cs,hg,_⟩:=hp;exact⟨_,_,_,hg,.inr (.inr (.inl rfl))⟩
 ·exact⟨_,_,_,(h.set k a).hb,.inr (.inr (.inr (.inl rfl)))⟩
 ·exact⟨_,_,_,(h.set k a).hc,.inr (.inr (.inr (.inr rfl)))⟩
theorem mO{w:World}{s:Nat}{a:Option Nat}{bS R lim n:Nat}{f:Nat->Nat}(h:M.SpA w s a bS R lim n f){x:Nat}(hx:M.own s a x):∃ cs t z,w.heap[x]?=some (.cells cs t z)/\(t=131\/t=5):=by
 obtain⟨cap,hb,b⟩:=h.ex;rcases hx with rfl|hx
 ·exact⟨_,_,_,hb,.inl rfl⟩
 ·rw[hx] at b;obtain⟨_,c,_,hg,_⟩:=b;exact⟨_,_,_,hg,.inr rfl⟩
theorem tP{w:World}{b:Nat}{B:Bs}{m:Mp}{s:Nat}{a:Option Nat}{bS R lim n:Nat}{f:Nat->Nat}(h:MpA w b B m)(k:M.SpA w s a bS R lim n f){x:Nat}(hx:aO b B m.o x)(hy:M.own s a x):False:=by
 obtain⟨cs,t,z,g,i⟩:=nJ h hx;obtain⟨j,p,q,d,l⟩:=mO k hy;rw[g] at d
 cases d
 rcases i with e|e|e|e|e <;> rcases l with c|c <;> rw[e] at c <;> exact absurd c (by decide)
theorem wW{w:World}{b:Nat}{B:Bs}{m:Mp}{c s hd:Nat}(h:MpA w b B m)(k:M.ListAt w c s hd)(hx:aO b B m.o c):False:=by
 obtain⟨cs,t,z,d,f⟩:=nJ h hx;have a:=k.hc;rw[d] at a
 cases a
 rcases f with e|e|e|e|e <;> exact absurd e (by decide)
theorem KM{w:World}{s:Nat}{a:Option Nat}{bS R lim n:Nat}{f:Nat->Nat}{c i hd:Nat}(h:M.SpA w s a bS R lim n f)(k:M.ListAt w c i hd)(hx:M.own s a c):False:=by
 obtain⟨cs,t,z,d,g⟩:=mO h hx;have b:=k.hc;rw[d] at b
 cases b
 rcases g with e|e <;> exact absurd e (by decide)
theorem BdAt.nb{w x t}(h:BdAt w x t):¬aC x x.b:=by
 rintro (hx|hx|⟨k,f,e⟩)
 ·obtain⟨cs,d,z,a,c⟩:=mO h.sp hx;rw[h.bs] at a
  cases a
  rcases c with e|e <;> exact absurd e (by decide)
 ·rw[<-h.mo] at hx;obtain⟨cs,d,z,a,c⟩:=nJ h.mp hx;rw[h.bs] at a
  cases a
  rcases c with e|e|e|e|e <;> exact absurd e (by decide)
 ·exact absurd e (bY h.bs (h.ls k f).hc (by decide))
theorem BdAt.nl{w x t}(h:BdAt w x t):¬aC x x.l:=by
 obtain⟨c,hl,_⟩:=h.lr;rintro (hx|hx|⟨k,f,e⟩)
 ·obtain⟨cs,d,z,a,b⟩:=mO h.sp hx;rw[hl] at a
  cases a
  rcases b with e|e <;> exact absurd e (by decide)
 ·rw[<-h.mo] at hx;obtain⟨cs,d,z,a,b⟩:=nJ h.mp hx;rw[hl] at a
  cases a
  rcases b with e|e|e|e|e <;> exact absurd e (by decide)
 ·exact absurd e (bY hl (h.ls k f).hc (by decide))
theorem BdAt.kept{w w' x t}{S:Nat->Prop}(h:BdAt w x t)(k:Kt S w w')(hS:∀ y,aC x y\/y=x.b\/y=x.l->¬S y):BdAt w' x t:=by refine⟨h.sp.kept (fL k) (fun y hy=>hS y (.inl (.inl hy))),h.mp.kept k (fun y hy=>hS y (.inl (.inr (.inl (h.mo▸hy))))),fun i hi=>(h.ls i hi).kept (fL k) (hS _ (.inl (.inr (.inr ⟨i,hi,rfl⟩)))),(k.block _ (lH h.bs) (hS _ (.inr (.inl rfl)))).trans h.bs,?_,h.mo,h.iL,h.hR⟩;obtain⟨cs,hl,hc⟩:=h.lr;exact⟨cs,(k.block _ (lH hl) (hS _ (.inr (.inr rfl)))).trans hl,hc⟩
theorem BdAt.keep{w w' x t}(h:BdAt w x t)(k:Kt nO w w'):BdAt w' x t:=h.kept k (fun _ _ e=>e)
theorem BdAt.map{w w' x t}{a:Mp}(h:BdAt w x t)(k:Kt (aO x.m x.B t.m.o) w w')(b:MpA w' x.m x.B a)(c:a.o=t.m.o):BdAt w' x { t with m:=a }:=by have nb:=h.nb;have nl:=h.nl;refine⟨h.sp.kept (fL k) (fun y hy e=>tP h.mp h.sp e hy),b,fun i hi=>(h.ls i hi).kept (fL k) (fun e=>wW h.mp (h.ls i hi) e),(k.block _ (lH h.bs) (fun e=>nb (.inr (.inl (h.mo▸e))))).trans h.bs,?_,c.trans h.mo,h.iL,h.hR⟩;obtain⟨cs,hl,hc⟩:=h.lr;exact⟨cs,(k.block _ (lH hl) (fun e=>nl (.inr (.inl (h.mo▸e))))).trans hl,hc⟩
theorem BdAt.list{w w' x t}{f':Nat->Nat}{i b:Nat}(h:BdAt w x t)(hi:i<=x.o)(k:M.Kt (M.lown (x.L i) x.s x.a) w w')(hl:M.LS w' (x.L i) x.s x.a x.bS x.R x.lim x.n f' b):BdAt w' x { t with f:=f',hd:=lO t.hd i b }:=by
 have nb:=h.nb;have nl:=h.nl;have g:=dF k;refine⟨hl.s,h.mp.kept g (fun y hy e=>?_),fun j d=>?_,(g.block _ (lH h.bs) (fun e=>nb (e.elim (fun e=>.inr (.inr ⟨i,hi,e⟩)) (fun e=>.inl e)))).trans h.bs,?_,h.mo,h.iL,h.hR⟩
 ·rcases e with rfl|e
  ·exact wW h.mp (h.ls i hi) hy
  ·exact tP h.mp h.sp hy e
 ·show M.ListAt w' (x.L j) x.s (lO t.hd i b j)
  unfold lO;by_cases e:j=i
  ·subst e;rw[ae rfl];exact hl.l
  ·rw[ac e];refine(h.ls j d).kept k (fun c=>?_);rcases c with c|c
   ·exact e (h.iL j i d hi c)
   ·exact KM h.sp (h.ls j d) c
 ·obtain⟨cs,m,hc⟩:=h.lr;exact⟨cs,(g.block _ (lH m) (fun e=>nl (e.elim (fun e=>.inr (.inr ⟨i,hi,e⟩)) (fun e=>.inl e)))).trans m,hc⟩
theorem BdAt.ls'{w x t}(h:BdAt w x t)(i:Nat)(hi:i<=x.o):M.LS w (x.L i) x.s x.a x.bS x.R x.lim x.n t.f (t.hd i):=⟨h.sp,h.ls i hi⟩
theorem BdAt.b0{w x t}(h:BdAt w x t):w.cell? ⟨x.b,0,none⟩=some (.int .u64 x.bS):=by simp[World.cell?,h.bs]
theorem BdAt.b1{w x t}(h:BdAt w x t):w.cell? ⟨x.b,1,none⟩=some (.pointer (some ⟨x.s,0,none⟩)):=by simp[World.cell?,h.bs]
theorem BdAt.b2{w x t}(h:BdAt w x t):w.cell? ⟨x.b,2,none⟩=some (.pointer (some ⟨x.m,0,none⟩)):=by simp[World.cell?,h.bs]
theorem BdAt.b3{w x t}(h:BdAt w x t):w.cell? ⟨x.b,3,none⟩=some (.slice (some ⟨x.l,0,none⟩) (x.o+1) x.c):=by simp[World.cell?,h.bs]
theorem BdAt.lc{w x t}(h:BdAt w x t)(k:Nat)(a:k<=x.o):w.cell? ⟨x.l,k,none⟩=some (.pointer (some ⟨x.L k,0,none⟩)):=by obtain⟨cs,hl,hc⟩:=h.lr;simp[World.cell?,hl,hc k a]
theorem FU{x:Bx}{w a:World}(k:Kt (aO x.m x.B x.o) w a):Kt (aC x) w a:=k.mono (fun y _ e=>.inr (.inl e))
theorem xF{x:Bx}{w b:World}{i:Nat}(hi:i<=x.o)(k:M.Kt (M.lown (x.L i) x.s x.a) w b):Kt (aC x) w b:=(dF k).mono (fun y _ e=>e.elim (fun e=>.inr (.inr ⟨i,hi,e⟩)) (fun e=>.inl e))
theorem jE{x:Bx}{w a:World}(k:Kt nO w a):Kt (aC x) w a:=k.mono (fun _ _ e=>e.elim)
theorem eV{x:Bx}{a b c:World}(h:Kt (aC x) a b)(k:Kt (aC x) b c):Kt (aC x) a c:=h.trans k (fun _ _ e=>e) (fun _ _ e=>e)
theorem zi9(b:Nat)(B:Bs)(m:Mp)(k i:Int)(w:World)(h:MpA w b B m):
  Calls prog 247 #[.pointer (some ⟨b,0,none⟩),.int .i64 k,.int .i64 i] w fun e c=>e=.returned (.tuple #[.bool (iV (fJ m k i) k i),.int .i64 (pJ m k i)])/\MpA c b B (fJ m k i)/\Kt (aO b B m.o) w c:=by
 cases hp:dW m k i with
 | false=>
  have d:fJ m k i=m:=by simp[fJ,hp]
  rw[show pJ m k i=1 by simp[pJ,hp],d,show iV m k i=false by simp[iV,hp]];refine(VZ b B m k i w h hp).mono ?_;rintro e c ⟨rfl,g⟩;exact⟨rfl,h.keep g,g.mono (fun _ _ e=>e.elim)⟩
 | true=>
  have f:aD m.o k=true/\aD m.n i=true:=by unfold dW at hp;exact Bool.and_eq_true_iff.1 hp
  obtain⟨a,rfl,ha⟩:=gR f.1;obtain⟨j,rfl,l⟩:=gR f.2;have d:fJ m (a:Int) (j:Int)={ m with wd:=fX m.wd a (gI (m.n/2 ^ (a+1)) (m.wd a) ((j/2 ^ (a+1):Nat):Int)) }:=by simp[fJ,hp,nY,nX]
  rw[show pJ m (a:Int) (j:Int)=0 by simp[pJ,hp],d,show iV { m with wd:=fX m.wd a (gI (m.n/2 ^ (a+1)) (m.wd a) ((j/2 ^ (a+1):Nat):Int)) } (a:Int) (j:Int)=cT (m.n/2 ^ (a+1)) (gI (m.n/2 ^ (a+1)) (m.wd a) ((j/2 ^ (a+1):Nat):Int)) ((j/2 ^ (a+1):Nat):Int)by
   unfold iV;rw[show dW { m with wd:=fX m.wd a (gI (m.n/2 ^ (a+1)) (m.wd a) ((j/2 ^ (a+1):Nat):Int)) } (a:Int) (j:Int)=true from hp];simp[nY,nX,fX]]
  exact VY b B m a j w h ha l
theorem BdAt.end63{w x t}(h:BdAt w x t) : 1<=x.bS/\x.bS+x.n<=9223372036854775808:=⟨h.sp.cfg.b1,h.sp.end_le⟩
theorem lY(x:Bx)(t:Bt)(p:Nat)(hp:p<=4000)(w:World)(h:BdAt w x t):
  Calls prog 210 #[.pointer (some ⟨x.b,0,none⟩),.int .i64 p] w fun e d=>e=.returned (.int .u64 ((x.bS+4096*p:Nat):Int))/\d=w:=by
 have c0:=h.b0;obtain⟨q,hq⟩:=xe (x.bS+4096*p);have hb:=h.end63;have a:IntKind.u64.wrap (p:Int)=p:=by rw[wrap_u64];omega
 have f:IntKind.u64.wrap ((p:Int)*4096)=(p:Int)*4096:=by rw[wrap_u64];omega
 have c:IntKind.u64.wrap ((x.bS:Int)+(p:Int)*4096)=(q:Int):=by rw[wrap_u64];omega
 rw[<-hq];clear hq;go_enter func210,ntmps210;go_wp2_with fail;go_ret;exact⟨dZ (by omega),rfl⟩
theorem lZ(x:Bx)(t:Bt)(w:World)(h:BdAt w x t):
  Calls prog 208 #[.pointer (some ⟨x.b,0,none⟩)] w fun e a=>e=.returned (.int .i64 x.o)/\a=w:=by
 have c3:=h.b3;have c:=h.o8;go_enter func208,ntmps208;go_wp2_with fail;go_ret;exact⟨dZ (by omega),rfl⟩
theorem qL(x:Bx)(t:Bt)(i:Int)(w:World)(h:BdAt w x t):
  Calls prog 172 #[.pointer (some ⟨x.b,0,none⟩),.int .i64 i] w fun e c=>e=.returned (.bool (aD (x.o+1) i))/\c=w:=by
 have c3:=h.b3;have d:=h.o8;by_cases h0 : 0<=i
 ·by_cases a:i<((x.o+1:Nat):Int)
  ·rw[show aD (x.o+1) i=true by simp only[aD];exact af ⟨h0,a⟩];go_enter func172,ntmps172;go_wp2_with fail;go_ret;exact⟨cO (by simp;omega),rfl⟩
  ·rw[show aD (x.o+1) i=false by simp only[aD];exact ah (fun e=>a e.2)];go_enter func172,ntmps172;go_wp2_with fail;go_ret;exact⟨cO (by simp;omega),rfl⟩
 ·rw[show aD (x.o+1) i=false by simp only[aD];exact ah (fun e=>h0 e.1)];go_enter func172,ntmps172;go_wp2_with fail;go_ret;exact⟨cO rfl,rfl⟩
theorem VA(m:Mp)(k i:Int):(fJ m k i).o=m.o:=by unfold fJ;split <;> rfl
theorem BA(m:Mp)(p o k:Int):(cH m p o k).o=m.o:=by unfold cH;split <;> rfl
def fU(t:Bt)(p k:Int):Bt:={ t with m:=fJ t.m k p }
theorem wV(x:Bx)(t:Bt)(p k:Int)(w:World)(h:BdAt w x t):
  Calls prog 220 #[.pointer (some ⟨x.b,0,none⟩),.int .i64 p,.int .i64 k] w fun e a=>e=.returned (.tuple #[])/\BdAt a x (fU t p k)/\Kt (aC x) w a:=by
 have c2:=h.b2;have H:=aA h;clear h;go_enter func220,ntmps220;go_wp2_with fail;refine(zi9 x.m x.B t.m k p _ H.o.mp).mono ?_;rintro e a ⟨rfl,d,c⟩;have D:=aA (show BdAt a x (fU t p k)/\Kt (aC x) w a from⟨H.o.map c d (VA _ _ _),FU (H.o.mo▸c)⟩);clear d c;go_wp2_with fail;exact⟨rfl,.tuple #[],by simp[results,results220,go_sem],rfl,D.o⟩
def lJ(x:Bx)(t:Bt)(p k:Int):Bool:=decide (k<(x.o:Int)) && iV t.m k p
theorem JK(b:Nat)(B:Bs)(m:Mp)(i:Int)(w:World)(h:MpA w b B m):
  Calls prog 163 #[.pointer (some ⟨b,0,none⟩),.int .i64 i] w fun e d=>e=.returned (.int .i64 (kJ m i))/\d=w:=by
 cases hi:aD m.n i with
 | false=>
  rw[show kJ m i = -1 by simp[kJ,hi]];exact zlF b B m i w h hi
 | true=>
  obtain⟨k,rfl,c⟩:=gR hi;have ok:=h.ok k c;obtain⟨o,a⟩:=au ok.o0;rw[show kJ m (k:Int)=((k/2 ^ o*2 ^ o:Nat):Int)by simp[kJ,hi,a]];exact VK b B m k o w h c a
def kV(m:Mp)(kd i o:Int):Bool:=aD m.n i && ((cM m i).kd == kd) && ((cM m i).od == o) && (kJ m i == i)
theorem is_any(x:Bx)(t:Bt)(kd i o:Int)(w:World)(h:BdAt w x t):
  Calls prog 173 #[.pointer (some ⟨x.b,0,none⟩),.int .i64 kd,.int .i64 i,.int .i64 o] w fun e g=>e=.returned (.bool (kV t.m kd i o))/\Kt nO w g:=by
 have c2:=h.b2;have H:=aA h;clear h;obtain⟨p,hp⟩:=xe (cM t.m i);obtain⟨A,c⟩:=xe (kJ t.m i);obtain⟨r,s⟩:=xe (aD t.m.n i);have j:=aA (show ∀ W,MpA W x.m x.B t.m->Calls prog 45 #[.pointer (some ⟨x.m,0,none⟩),.int .i64 i] W fun e g=>e=.returned (.tuple #[cD p,.bool r])/\Kt nO W g from fun W k=>by rw[hp,s];exact jC x.m x.B t.m i W k);have D:=aA (show ∀ W,MpA W x.m x.B t.m->Calls prog 163 #[.pointer (some ⟨x.m,0,none⟩),.int .i64 i] W fun e g=>e=.returned (.int .i64 A)/\g=W from fun W k=>by rw[c];exact JK x.m x.B t.m i W k);rw[show kV t.m kd i o=(r && (p.kd == kd) && (p.od == o) && (A == i))by rw[kV,<-hp,<-c,<-s]];clear hp c s;have hc:r=false\/(r=true/\¬p.kd=kd)\/(r=true/\p.kd=kd/\¬p.od=o)\/(r=true/\p.kd=kd/\p.od=o):=by
  cases r with
  | false=>exact .inl rfl
  | true=>
   by_cases y:p.kd=kd
   ·by_cases z:p.od=o
    ·exact .inr (.inr (.inr ⟨rfl,y,z⟩))
    ·exact .inr (.inr (.inl ⟨rfl,y,z⟩))
   ·exact .inr (.inl ⟨rfl,y⟩)
 rcases hc with rfl|⟨rfl,d⟩|⟨rfl,d,l⟩|⟨rfl,d,l⟩
 ·go_enter func173,ntmps173;go_wp2_with fail;refine(j.o _ H.o.mp).mono ?_;rintro e q ⟨rfl,a⟩;have K:=aA (a.alloc (aN p));clear a;go_wp2_with fail;go_ret;exact⟨cO (by simp),K.o⟩
 ·have u:(p.kd == kd)=false:=ag.2 d;go_enter func173,ntmps173;go_wp2_with fail;refine(j.o _ H.o.mp).mono ?_;rintro e q ⟨rfl,a⟩;have K:=aA (a.alloc (aN p));clear a;go_wp2_with fail;go_ret;exact⟨cO (by simp[u]),K.o⟩
 ·have v:(p.od == o)=false:=ag.2 l;subst d;go_enter func173,ntmps173;go_wp2_with fail;refine(j.o _ H.o.mp).mono ?_;rintro e q ⟨rfl,a⟩;have K:=aA (a.alloc (aN p));clear a;go_wp2_with fail;go_ret;exact⟨cO (by simp[v]),K.o⟩
 ·subst d l;go_enter func173,ntmps173;go_wp2_with fail;refine(j.o _ H.o.mp).mono ?_;rintro e q ⟨rfl,a⟩;have K:=aA (a.alloc (aN p));have c2:=K.o.cell (fun x=>x) c2;have C:=aA (H.o.keep K.o);clear a;go_wp2_with fail;refine(D.o _ C.o.mp).mono ?_;rintro e E ⟨rfl,f⟩;rw[f];clear f;go_wp2_with fail;go_ret;exact⟨cO (by simp),K.o⟩
def fQ(x:Bx)(p:Nat):Nat:=(p+18446744073709551616-x.bS)%18446744073709551616
def lI(x:Bx)(t:Bt)(p:Nat):Prop:=fQ x p%4096=0/\fQ x p/4096<t.m.n
instance (x:Bx) (t:Bt) (p:Nat):Decidable (lI x t p):=inferInstanceAs (Decidable (_/\_))
instance (a b c d:Nat):Decidable (M.In a b c d):=inferInstanceAs (Decidable (_/\_))
def fT(x:Bx)(t:Bt)(p:Nat):Nat:=if lI x t p then fQ x p/4096 else 0
def lT(x:Bx)(t:Bt)(p:Nat):Bool:=decide (lI x t p/\M.In x.bS x.n p 1)
theorem FQ(x:Bx)(t:Bt)(p:Nat)(hp:p<18446744073709551616)(w:World)(h:BdAt w x t):
  Calls prog 171 #[.pointer (some ⟨x.b,0,none⟩),.int .u64 p] w fun e F=>e=.returned (.tuple #[.int .i64 (fT x t p:Int),.bool (lT x t p)])/\Kt nO w F:=by
 have c0:=h.b0;have c1:=h.b1;have c2:=h.b2;have hb:=h.end63;have P:=h.mp.n1;have H:=aA h;clear h;obtain⟨j,g⟩:=xe (fQ x p);have G:IntKind.u64.wrap ((p:Int)-(x.bS:Int))=(j:Int):=by rw[wrap_u64,g];unfold fQ;omega
 have J:j<18446744073709551616:=by rw[g];unfold fQ;omega
 obtain⟨r,L⟩:=xe (j%4096);obtain⟨q,hq⟩:=xe (j/4096);have U:(j:Int)%4096=(r:Int):=by omega
 have S:(j:Int)/4096=(q:Int):=by omega
 have Q:IntKind.u64.wrap (t.m.n:Int)=t.m.n:=by rw[wrap_u64];omega
 have T:IntKind.i64.wrap (q:Int)=q:=by rw[IntKind.wrap_i64];omega
 have D:=aA (show ∀ W,MpA W x.m x.B t.m->Calls prog 44 #[.pointer (some ⟨x.m,0,none⟩)] W fun e F=>e=.returned (.int .i64 t.m.n)/\F=W from fun W N=>tN x.m x.B t.m W N);have A:lI x t p↔(r=0/\q<t.m.n):=by unfold lI;rw[<-g,<-L,<-hq]
 have o:fT x t p=if r=0/\q<t.m.n then q else 0:=by
  unfold fT;by_cases c:lI x t p
  ·rw[ae c,ae (A.1 c),<-g,<-hq]
  ·rw[ac c,ac (fun d=>c (A.2 d))]
 have l:lT x t p=decide ((r=0/\q<t.m.n)/\M.In x.bS x.n p 1):=by unfold lT;exact decide_eq_decide.2 (and_congr_left fun _=>A)
 clear A;clear g L hq;by_cases h0:r=0
 ·by_cases y:q<t.m.n
  ·have E:(q:Int)<t.m.n:=(by omega);have u:(r:Int)=0:=(by omega);rw[o,l,ae ⟨h0,y⟩];clear o l;by_cases z:M.In x.bS x.n p 1
   ·rw[show decide ((r=0/\q<t.m.n)/\M.In x.bS x.n p 1)=true from af ⟨⟨h0,y⟩,z⟩];have k:=aA (M.Byte_any x.s x.a x.bS x.R x.lim x.n t.f p hp w H.o.sp);simp only[z,if_true] at k;clear h0;go_enter func171,ntmps171;go_wp2_with fail;refine(D.o _ H.o.mp).mono ?_;rintro e I ⟨rfl,i⟩;rw[i];clear i;go_wp2_with fail;refine k.o.mono ?_;rintro e C ⟨rfl,v⟩;have K:=aA (show Kt nO w C from dF v);clear v k;go_wp2_with fail;exact⟨rfl,.tuple #[.int .i64 q,.bool true],by simp[results,results171,go_sem],rfl,K.o⟩
   ·rw[show decide ((r=0/\q<t.m.n)/\M.In x.bS x.n p 1)=false from ah (fun e=>z e.2)];have k:=aA (M.Byte_any x.s x.a x.bS x.R x.lim x.n t.f p hp w H.o.sp);simp only[z,if_false] at k;clear h0;go_enter func171,ntmps171;go_wp2_with fail;refine(D.o _ H.o.mp).mono ?_;rintro e I ⟨rfl,i⟩;rw[i];clear i;go_wp2_with fail;refine k.o.mono ?_;rintro e C ⟨rfl,v⟩;have K:=aA (show Kt nO w C from dF v);clear v k;go_wp2_with fail;exact⟨rfl,.tuple #[.int .i64 q,.bool false],by simp[results,results171,go_sem],rfl,K.o⟩
  ·have E:¬(q:Int)<t.m.n:=(by omega);have u:(r:Int)=0:=(by omega);rw[o,l,ac (fun e=>y e.2),show decide ((r=0/\q<t.m.n)/\M.In x.bS x.n p 1)=false from ah (fun e=>y e.1.2)];clear o l h0;go_enter func171,ntmps171;go_wp2_with fail;refine(D.o _ H.o.mp).mono ?_;rintro e I ⟨rfl,i⟩;rw[i];clear i;go_wp2_with fail;exact⟨rfl,.tuple #[.int .i64 0,.bool false],by simp[results,results171,go_sem],rfl,Kt.refl nO _⟩
 ·have u:¬(r:Int)=0:=by omega
  rw[o,l,ac (fun e=>h0 e.1),show decide ((r=0/\q<t.m.n)/\M.In x.bS x.n p 1)=false from ah (fun e=>h0 e.1.1)];clear o l;go_enter func171,ntmps171;go_wp2_with fail;exact⟨rfl,.tuple #[.int .i64 0,.bool false],by simp[results,results171,go_sem],rfl,Kt.refl nO _⟩
def kI(x:Bx)(t:Bt)(p:Nat)(k:Int):Bool:=lT x t p && aD (x.o+1) k && kV t.m 2 (fT x t p:Int) k
theorem FP(x:Bx)(t:Bt)(p:Nat)(k:Int)(hp:p<18446744073709551616)(w:World)(h:BdAt w x t):
  Calls prog 114 #[.pointer (some ⟨x.b,0,none⟩),.int .u64 p,.int .i64 k] w fun e j=>e=.returned (.tuple #[.int .i64 (fT x t p:Int),.bool (kI x t p k)])/\Kt nO w j:=by
 have H:=aA h;have f:=aA (FQ x t p hp w h);clear h;obtain⟨q,hq⟩:=xe (fT x t p);obtain⟨v,i⟩:=xe (lT x t p);rw[show kI x t p k=(v && aD (x.o+1) k && kV t.m 2 (q:Int) k)by rw[kI,<-hq,<-i],<-hq];rw[<-hq,<-i] at f;clear hq i
 cases v with
 | false=>
  go_enter func114,ntmps114;go_wp2_with fail;refine f.o.mono ?_;rintro e n ⟨rfl,a⟩;have K:=aA a;clear a;go_wp2_with fail;exact⟨rfl,.tuple #[.int .i64 q,.bool false],by simp[results,results114,go_sem],by simp,K.o⟩
 | true=>
  obtain⟨r,g⟩:=xe (aD (x.o+1) k);have l:=aA (show ∀ W,BdAt W x t->Calls prog 172 #[.pointer (some ⟨x.b,0,none⟩),.int .i64 k] W fun e j=>e=.returned (.bool r)/\j=W from fun W s=>by rw[g];exact qL x t k W s);rw[<-g];clear g
  cases r with
  | false=>
   go_enter func114,ntmps114;go_wp2_with fail;refine f.o.mono ?_;rintro e n ⟨rfl,a⟩;have K:=aA a;have d:=aA (H.o.keep a);clear a;go_wp2_with fail;refine(l.o _ d.o).mono ?_;rintro e u ⟨rfl,c⟩;rw[c];clear c;go_wp2_with fail;exact⟨rfl,.tuple #[.int .i64 q,.bool false],by simp[results,results114,go_sem],by simp,K.o⟩
  | true=>
   go_enter func114,ntmps114;go_wp2_with fail;refine f.o.mono ?_;rintro e n ⟨rfl,a⟩;have K:=aA a;have d:=aA (H.o.keep a);clear a;go_wp2_with fail;refine(l.o _ d.o).mono ?_;rintro e u ⟨rfl,c⟩;rw[c];clear c;go_wp2_with fail;refine(is_any x t 2 (q:Int) k _ d.o).mono ?_;rintro e z ⟨rfl,a⟩;have y:=aA (nT K.o a);clear a;go_wp2_with fail;exact⟨rfl,.tuple #[.int .i64 q,.bool (kV t.m 2 (q:Int) k)],by simp[results,results114,go_sem],by simp,y.o⟩
structure Least(x:Bx)(t:Bt)(k j:Nat):Prop where
 lk:k<=j
 lo:j<=x.o+1
 lz:∀ a,k<=a->a<j->t.hd a=0
 lh:j<=x.o->t.hd j≠0
theorem JJ(x:Bx)(t:Bt)(k:Nat)(D:k<=x.o)(w:World)(h:BdAt w x t):
  Calls prog 218 #[.pointer (some ⟨x.b,0,none⟩),.int .i64 k] w fun e A=>∃ j:Nat,e=.returned (.int .i64 j)/\Least x t k j/\A=w:=by
 have c3:=h.b3;have H:=aA h;have B:=h.o8;clear h;go_enter func218,ntmps218;go_wp2_with fail;go_loopw [1] (fun i W=>Hd (W=w)/\∃ j:Nat,k<=j/\j<=x.o+1/\i=.int .i64 j/\Hd (∀ a,k<=a->a<j->t.hd a=0)) (fun i _=>x.o+1-(intOf i).toNat)
 case atStart=>exact⟨rfl,k,by omega,by omega,rfl,fun a n p=>by omega⟩
 case round=>
  obtain⟨m,j,n,p,rfl,hz⟩:=hrel;have m:=m.o;subst m;have g:=aA (qL x t (j:Int) wr H.o);by_cases u:j<=x.o
  ·rw[show aD (x.o+1) (j:Int)=true by simp only[aD];exact af ⟨by omega,by omega⟩] at g;have z:(j:Int)<((x.o+1:Nat):Int):=(by omega);have cl:=H.o.lc j u;have r:=aA (M.Head_any (x.L j) x.s (t.hd j) wr (H.o.ls j u));obtain⟨d,hd⟩:=xe (t.hd j);rw[<-hd] at r;have f:=aA hd;clear hd;by_cases v:d=0
   ·have q:(d:Int)=0:=(by omega);go_wp2_with fail;refine g.o.mono ?_;rintro e l ⟨rfl,c⟩;rw[c];clear c;go_wp2_with fail;refine r.o.mono ?_;rintro e l ⟨rfl,c⟩;rw[c];clear c;go_wp2_with fail;exact⟨⟨trivial,j+1,by omega,by omega,by simp,fun a y C=>by
     by_cases e:a=j
     ·subst e;rw[<-f.o];exact v
     ·exact hz.o a y (by omega)⟩,by simp[intOf];omega⟩
   ·have q:¬(d:Int)=0:=(by omega);go_wp2_with fail;refine g.o.mono ?_;rintro e l ⟨rfl,c⟩;rw[c];clear c;go_wp2_with fail;refine r.o.mono ?_;rintro e l ⟨rfl,c⟩;rw[c];clear c;go_wp2_with fail;go_ret;exact⟨j,rfl,⟨n,p,hz.o,fun _=>by rw[<-f.o];exact v⟩,rfl⟩
  ·rw[show aD (x.o+1) (j:Int)=false by simp only[aD];exact ah (fun e=>by omega)] at g;go_wp2_with fail;refine g.o.mono ?_;rintro e l ⟨rfl,c⟩;rw[c];clear c;go_wp2_with fail;go_ret;exact⟨j,rfl,⟨n,p,hz.o,fun e=>by omega⟩,rfl⟩
def ad(x:Bx)(p:Nat):Nat:=x.bS+4096*p
def pK(x:Bx)(t:Bt)(p k:Nat):Bt:={ t with f:=(M.pushR x.bS x.n t.f (t.hd k) (ad x p)).1,hd:=lO t.hd k (M.pushR x.bS x.n t.f (t.hd k) (ad x p)).2.1 }
def oJ(x:Bx)(t:Bt)(p k:Nat):Nat:=(M.pushR x.bS x.n t.f (t.hd k) (ad x p)).2.2
def cQ(t:Bt)(p k:Nat)(kd:Int):Bt:={ t with m:=cH t.m p k kd }
def fF(x:Bx)(t:Bt)(p k:Nat):Bt:=if oJ x t p k=0 then fU (cQ (pK x t p k) p k 0) p k else pK x t p k
def iG(x:Bx)(t:Bt)(p k:Nat):Nat:=if oJ x t p k=0 then 0 else 9
theorem qK(x:Bx)(t:Bt)(p k:Nat)(kd:Int)(w:World)(h:BdAt w x t):
  Calls prog 175 #[.pointer (some ⟨x.m,0,none⟩),.int .i64 p,.int .i64 k,.int .i64 kd] w fun e a=>e=.returned (.int .i64 (fO t.m p k kd))/\BdAt a x (cQ t p k kd)/\Kt (aC x) w a:=by
 refine(DE x.m x.B t.m p k kd w h.mp).mono ?_;rintro e a ⟨rfl,c,b⟩;exact⟨rfl,h.map b c (BA _ _ _ _),FU (h.mo▸b)⟩
theorem zjb(x:Bx)(t:Bt)(p k:Nat)(hp:p<=4000)(b:k<=x.o)(w:World)(h:BdAt w x t):
  Calls prog 232 #[.pointer (some ⟨x.L k,0,none⟩),.int .u64 ((ad x p:Nat):Int)] w fun e c=>e=.returned (.int .i64 (oJ x t p k:Int))/\BdAt c x (pK x t p k)/\Kt (aC x) w c:=by
 have hb:=h.end63;refine(M.Push_any (x.L k) x.s x.a x.bS x.R x.lim x.n t.f (t.hd k) (ad x p) (by unfold ad;omega) w (h.ls' k b)).mono ?_;rintro e c ⟨rfl,g,d⟩;exact⟨rfl,h.list b d g,xF b d⟩
theorem xE(x:Bx)(t:Bt)(p k:Nat)(hp:p<=4000)(B:k<=x.o)(w:World)(h:BdAt w x t):
  Calls prog 174 #[.pointer (some ⟨x.b,0,none⟩),.int .i64 p,.int .i64 k] w fun e i=>e=.returned (.int .i64 (iG x t p k:Int))/\BdAt i x (fF x t p k)/\Kt (aC x) w i:=by
 have c3:=h.b3;have cl:=h.lc k B;have X:=h.o8;have H:=aA h;have S:(k:Int)<((x.o+1:Nat):Int):=by omega
 have P:(0:Int)<=(k:Int):=by omega
 have G:(k:Int)<x.o+1:=by omega
 have I:k<x.o+1:=by omega
 have K:IntKind.i64.wrap (k:Int)=k:=by rw[IntKind.wrap_i64];omega
 have v:=aA (show ∀ W,BdAt W x t->Calls prog 210 #[.pointer (some ⟨x.b,0,none⟩),.int .i64 p] W fun e i=>e=.returned (.int .u64 ((ad x p:Nat):Int))/\i=W from fun W N=>lY x t p hp W N);have A:=aA (h.keep (Kt.refl nO w).drew);obtain⟨q,hq⟩:=xe (ad x p);have u:=aA (zjb x t p k hp B w.drew A.o);rw[<-hq] at v u;obtain⟨s,n⟩:=xe (oJ x t p k);rw[<-n] at u;have J:iG x t p k=if s=0 then 0 else 9:=by rw[n];rfl
 have F:fF x t p k=if s=0 then fU (cQ (pK x t p k) p k 0) p k else pK x t p k:=by rw[n];rfl
 rw[J,F];clear h hq n J F;have m:w.drew.cell? ⟨x.b,3,none⟩=some (.slice (some ⟨x.l,0,none⟩) (x.o+1) x.c):=c3;have j:w.drew.cell? ⟨x.l,k,none⟩=some (.pointer (some ⟨x.L k,0,none⟩)):=cl;by_cases h0:s=0
 ·rw[ae h0,ae h0];have z:(s:Int)=0:=by omega
  have y:((s:Int) != 0)=false:=by simp[z]
  clear h0;go_enter func174,ntmps174;go_wp2_with fail;go_region_held3 (fun i=>i.cell? ⟨x.b,3,none⟩=some (.slice (some ⟨x.l,0,none⟩) (x.o+1) x.c)/\i.cell? ⟨x.l,k,none⟩=some (.pointer (some ⟨x.L k,0,none⟩))) (first|with_reducible exact⟨m,j⟩|with_reducible exact⟨d,f⟩) (first|(go_at_call 210;refine(v.o _ A.o).mono ?_;rintro e R ⟨rfl,g⟩;rw[g];clear g)|(go_at_call 232;refine u.o.mono ?_;rintro e C ⟨rfl,a,hK⟩;have r:=aA a;have D:=aA (show Kt (aC x) w C from eV (jE (Kt.refl nO w).drew) hK);have d:=r.o.b3;have f:=r.o.lc k B;clear a hK))
  all_goals
   have E:=r.o.b2;clear c3 cl m j d f v u A y;go_wp2_with fail;refine(qK x _ p k 0 _ r.o).mono ?_;rintro e Z ⟨rfl,a,hK⟩;have V:=aA a;have U:=aA (eV D.o hK);clear a hK E;go_wp2_with fail;refine(wV x _ (p:Int) (k:Int) _ V.o).mono ?_;rintro e Y ⟨rfl,a,hK⟩;have T:=aA a;have Q:=aA (eV U.o hK);clear a hK;go_wp2_with fail;go_ret;exact⟨rfl,T.o,Q.o⟩
 ·rw[ac h0,ac h0];have z:¬(s:Int)=0:=by omega
  have y:((s:Int) != 0)=true:=by simp[h0]
  clear h0;go_enter func174,ntmps174;go_wp2_with fail;go_region_held3 (fun i=>i.cell? ⟨x.b,3,none⟩=some (.slice (some ⟨x.l,0,none⟩) (x.o+1) x.c)/\i.cell? ⟨x.l,k,none⟩=some (.pointer (some ⟨x.L k,0,none⟩))) (first|with_reducible exact⟨m,j⟩|with_reducible exact⟨d,f⟩) (first|(go_at_call 210;refine(v.o _ A.o).mono ?_;rintro e R ⟨rfl,g⟩;rw[g];clear g)|(go_at_call 232;refine u.o.mono ?_;rintro e C ⟨rfl,a,hK⟩;have r:=aA a;have D:=aA (show Kt (aC x) w C from eV (jE (Kt.refl nO w).drew) hK);have d:=r.o.b3;have f:=r.o.lc k B;clear a hK))
  all_goals
   clear c3 cl m j d f v u A;go_wp2_with fail;go_ret;exact⟨rfl,r.o,D.o⟩
def fI(x:Bx)(p tq:Nat):Nat->Bt->Bt×Nat×Nat
 | 0,t=>(t,tq,0)
 | d+1,t=>if iG x t (p+2 ^ (tq+d)) (tq+d)=0 then fI x p tq d (fF x t (p+2 ^ (tq+d)) (tq+d)) else (fF x t (p+2 ^ (tq+d)) (tq+d),tq+d+1,9)
def eG(x:Bx)(t:Bt)(p fr tq:Nat):Bt:=cQ (fI x p tq (fr-tq) t).1 p (fI x p tq (fr-tq) t).2.1 2
def gH(x:Bx)(t:Bt)(p fr tq:Nat):Nat:=(fI x p tq (fr-tq) t).2.2
theorem zhZ(x:Bx)(t:Bt)(p k:Nat):iG x t p k=0\/iG x t p k=9:=by
 unfold iG;split
 ·exact .inl rfl
 ·exact .inr rfl
def mJ(x:Bx)(p tq:Nat)(r:Bt×Nat×Nat)(w W:World)(F E:Nat):Prop:=
 ∃ t1,BdAt W x t1/\Kt (aC x) w W/\((E=0/\∃ d,F=tq+d/\fI x p tq d t1=r)\/(E=9/\r=(t1,F,9)))
theorem FN(x:Bx)(t:Bt)(p fr a:Nat)(hp:p<=1024)(V:a<=fr)(a0:fr<=x.o)(w:World)(h:BdAt w x t):
  Calls prog 115 #[.pointer (some ⟨x.b,0,none⟩),.int .i64 p,.int .i64 fr,.int .i64 a] w fun e P=>e=.returned (.int .i64 (gH x t p fr a:Int))/\BdAt P x (eG x t p fr a)/\Kt (aC x) w P:=by
 have ho:=h.o8;obtain⟨r,U⟩:=xe (fI x p a (fr-a) t);rw[show gH x t p fr a=r.2.2 by rw[U];rfl,show eG x t p fr a=cQ r.1 p r.2.1 2 by rw[U];rfl];have Z:=aA (show mJ x p a r w w fr 0 from⟨t,h,Kt.refl _ _,.inl ⟨rfl,fr-a,by omega,U.symm⟩⟩);clear h U;go_enter func115,ntmps115;go_wp2_with fail;go_loopw [2,9] (fun i e W=>∃ F E:Nat,i=.int .i64 F/\e=.int .i64 E/\a<=F/\F<=fr/\(E=0\/E=9)/\Hd (mJ x p a r w W F E)) (fun i e _=>if intOf e=0 then (intOf i).toNat-a+1 else 0)
 case atStart=>exact⟨fr,0,rfl,rfl,V,aj _,.inl rfl,Z⟩
 case round=>
  obtain⟨F,E,rfl,rfl,h1,h2,l,hC⟩:=hrel;clear Z;obtain⟨g,f,hK,hc⟩:=hC.o;have v:=aA f;have Q:=aA hK;have A:=aA hc;clear f hK hc hC;have c:∀ G:Nat,((G=0/\F=a)\/G=9)->E=G->g=r.1/\F=r.2.1/\G=r.2.2:=fun G h4 I=>by
   subst I;rcases A.o with ⟨N,d,K,y⟩|⟨N,K⟩
   ·have e4:d=0:=(by omega);subst e4;rw[<-y];exact⟨rfl,K,N⟩
   ·rw[K];exact⟨rfl,rfl,N⟩
  by_cases h4:a<F
  ·have X:(a:Int)<F:=(by omega);rcases l with l|l
   ·obtain⟨k,hk⟩:∃ k,F=k+1:=⟨F-1,by omega⟩;obtain⟨z,hz⟩:=xe (2 ^ k);have a2:(2:Int) ^ k=(z:Int):=(by rw[hz];simp);have a3:z<=256:=(by rw[hz];exact bj (n:=2) (by decide) (show k<=8 by omega));subst l;subst hk;have T:=aA (show Calls prog 174 #[.pointer (some ⟨x.b,0,none⟩),.int .i64 ((p:Int)+(z:Int)),.int .i64 k] wr fun e P=>e=.returned (.int .i64 (iG x g (p+z) k:Int))/\BdAt P x (fF x g (p+z) k)/\Kt (aC x) wr P from xE x g (p+z) k (by omega) (by omega) wr v.o);have S:=aA (show ∀ W,Kt (aC x) wr W->BdAt W x (fF x g (p+z) k)->(iG x g (p+z) k=0->mJ x p a r w W k 0)/\(iG x g (p+z) k=9->mJ x p a r w W (k+1) 9)from fun W Y bW=>by
     rcases A.o with ⟨N,d,K,y⟩|⟨N,K⟩
     ·obtain⟨R,rfl⟩:∃ R,d=R+1:=⟨d-1,by omega⟩;have ek:k=a+R:=(by omega);rw[fI,<-ek,<-hz] at y;refine⟨fun e=>?_,fun e=>?_⟩
      ·rw[ae e] at y;exact⟨_,bW,eV Q.o Y,.inl ⟨rfl,R,ek,y⟩⟩
      ·rw[ac (by omega)] at y;exact⟨_,bW,eV Q.o Y,.inr ⟨rfl,y.symm⟩⟩
     ·omega)
    have ET:=aA (zhZ x g (p+z) k);obtain⟨E2,L⟩:=xe (iG x g (p+z) k);obtain⟨T2,B⟩:=xe (fF x g (p+z) k);rw[<-L] at T S ET;rw[<-B] at T S;clear hz L B c A;have a1:IntKind.i64.wrap ((p:Int)+(z:Int))=((p+z:Nat):Int):=(by rw[IntKind.wrap_i64];omega);go_wp2_with fail;refine T.o.mono ?_;rintro e w2 ⟨rfl,f,hK⟩;have S2:=aA (S.o w2 hK f);clear f hK T S;rcases ET.o with I|I
    ·subst I;go_wp2_with fail;exact⟨⟨k,0,rfl,rfl,by omega,by omega,.inl rfl,S2.o.1 trivial⟩,by simp[intOf];omega⟩
    ·subst I;go_wp2_with fail;exact⟨⟨k+1,9,by simp,rfl,by omega,by omega,.inr rfl,S2.o.2 trivial⟩,by simp[intOf]⟩
   ·subst l;obtain⟨m,q,s⟩:=c 9 (.inr rfl) rfl;have c2:=v.o.b2;have J:=aA m;have j:=aA q;have C:=aA s;clear c A m q s;go_wp2_with fail;refine(qK x g p F 2 _ v.o).mono ?_;rintro e u ⟨rfl,f,hK⟩;have D:=aA (show BdAt u x (cQ r.1 p r.2.1 2)/\Kt (aC x) w u from⟨by rw[<-J.o,<-j.o];exact f,eV Q.o hK⟩);clear f hK;go_wp2_with fail;go_ret;exact⟨dZ (by rw[<-C.o];rfl),D.o⟩
  ·have X:¬(a:Int)<F:=(by omega);rcases l with l|l
   ·subst l;obtain⟨m,q,s⟩:=c 0 (.inl ⟨rfl,by omega⟩) rfl;have c2:=v.o.b2;have J:=aA m;have j:=aA q;have C:=aA s;clear c A m q s;go_wp2_with fail;refine(qK x g p F 2 _ v.o).mono ?_;rintro e u ⟨rfl,f,hK⟩;have D:=aA (show BdAt u x (cQ r.1 p r.2.1 2)/\Kt (aC x) w u from⟨by rw[<-J.o,<-j.o];exact f,eV Q.o hK⟩);clear f hK;go_wp2_with fail;go_ret;exact⟨dZ (by rw[<-C.o];rfl),D.o⟩
   ·subst l;obtain⟨m,q,s⟩:=c 9 (.inr rfl) rfl;have c2:=v.o.b2;have J:=aA m;have j:=aA q;have C:=aA s;clear c A m q s;go_wp2_with fail;refine(qK x g p F 2 _ v.o).mono ?_;rintro e u ⟨rfl,f,hK⟩;have D:=aA (show BdAt u x (cQ r.1 p r.2.1 2)/\Kt (aC x) w u from⟨by rw[<-J.o,<-j.o];exact f,eV Q.o hK⟩);clear f hK;go_wp2_with fail;go_ret;exact⟨dZ (by rw[<-C.o];rfl),D.o⟩
def iO(x:Bx)(t:Bt)(k:Nat):Bt:={ t with f:=(M.popR x.bS x.n t.f (t.hd k)).1,hd:=lO t.hd k (M.popR x.bS x.n t.f (t.hd k)).2.1 }
def kR(x:Bx)(t:Bt)(k:Nat):Nat:=(M.popR x.bS x.n t.f (t.hd k)).2.2.2
theorem zk6(x:Bx)(t:Bt)(k:Nat)(b:k<=x.o)(w:World)(h:BdAt w x t):
  Calls prog 219 #[.pointer (some ⟨x.L k,0,none⟩)] w fun e c=>∃ v:Nat,e=.returned (.tuple #[.int .u64 v,.int .i64 (kR x t k:Int)])/\BdAt c x (iO x t k)/\Kt (aC x) w c:=by
 refine(M.Pop_any (x.L k) x.s x.a x.bS x.R x.lim x.n t.f (t.hd k) w (h.ls' k b)).mono ?_;rintro e c ⟨rfl,g,d⟩;exact⟨_,rfl,h.list b d g,xF b d⟩
theorem zjc(x:Bx)(t:Bt)(k:Int)(d:aD (x.o+1) k=false)(w:World)(h:BdAt w x t):
  Calls prog 161 #[.pointer (some ⟨x.b,0,none⟩),.int .i64 k] w fun e f=>e=.returned (.tuple #[.int .u64 0,.int .i64 1])/\f=w:=by
 have c:=aA (qL x t k w h);rw[d] at c;go_enter func161,ntmps161;go_wp2_with fail;refine c.o.mono ?_;rintro e g ⟨rfl,a⟩;rw[a];clear a;go_wp2_with fail;exact⟨rfl,.tuple #[.int .u64 0,.int .i64 1],by simp[results,results161,go_sem],rfl,rfl⟩
theorem tE(x:Bx)(t:Bt)(k:Nat)(d:k<=x.o)(w:World)(h:BdAt w x t):
  Calls prog 172 #[.pointer (some ⟨x.b,0,none⟩),.int .i64 k] w fun e c=>e=.returned (.bool true)/\c=w:=by
 have a:=qL x t (k:Int) w h;rw[show aD (x.o+1) (k:Int)=true by simp only[aD];exact af ⟨by omega,by omega⟩] at a;exact a
theorem zh0(x:Bx)(t:Bt)(k:Nat)(i:k<=x.o)(hz:∀ a,k<=a->a<=x.o->t.hd a=0)(w:World)(h:BdAt w x t):
  Calls prog 161 #[.pointer (some ⟨x.b,0,none⟩),.int .i64 k] w fun e f=>e=.returned (.tuple #[.int .u64 0,.int .i64 2])/\f=w:=by
 have m:=aA (tE x t k i w h);have l:=aA (JJ x t k i w h);have n:=aA (show ∀ j:Nat,Least x t k j->Calls prog 172 #[.pointer (some ⟨x.b,0,none⟩),.int .i64 j] w fun e f=>e=.returned (.bool false)/\f=w from fun j d=>by
  have p:¬j<=x.o:=fun e=>d.lh e (hz j d.lk e)
  have q:=qL x t (j:Int) w h;rw[show aD (x.o+1) (j:Int)=false by simp only[aD];exact ah (fun e=>by omega)] at q;exact q)
 clear hz h;go_enter func161,ntmps161;go_wp2_with fail;refine m.o.mono ?_;rintro e g ⟨rfl,c⟩;rw[c];clear c;go_wp2_with fail;refine l.o.mono ?_;rintro e g ⟨j,rfl,d,c⟩;rw[c];have r:=aA (n.o j d);clear c d;go_wp2_with fail;refine r.o.mono ?_;rintro e g ⟨rfl,c⟩;rw[c];clear c;go_wp2_with fail;exact⟨rfl,.tuple #[.int .u64 0,.int .i64 2],by simp[results,results161,go_sem],rfl,rfl⟩
def oL(x:Bx)(t:Bt)(q j k:Nat):Bt:=eG x (fU (iO x t j) q j) q j k
theorem zk7(x:Bx)(t:Bt)(k j q:Nat)(T:k<=x.o)(hL:Least x t k j)(i:j<=x.o)(hq:t.hd j=ad x q)(a4:q<t.m.n)(p:M.In x.bS x.n (ad x q) 1)(y:q%2 ^ j=0)(g:kR x t j=0)(hcut:gH x (fU (iO x t j) q j) q j k=0)(w:World)(h:BdAt w x t):
  Calls prog 161 #[.pointer (some ⟨x.b,0,none⟩),.int .i64 k] w fun e C=>e=.returned (.tuple #[.int .u64 ((ad x q:Nat):Int),.int .i64 0])/\BdAt C x (oL x t q j k)/\Kt (aC x) w C:=by
 have ho:=h.o8;have a0:=h.mp.n1;have hb:=h.end63;have c3:=h.b3;have cl:=h.lc j i;have H:=aA h;have a1:(j:Int)<((x.o+1:Nat):Int):=by omega
 obtain⟨z,hz⟩:=xe (2 ^ j);have Z:(2:Int) ^ j=(z:Int):=by rw[hz];simp
 have a3 : 1<=z:=by rw[hz];exact ap (by decide)
 have a5:z<=256:=by rw[hz];exact bj (n:=2) (by decide) (show j<=8 by omega)
 have a2:(q:Int)%(z:Int)=0:=by rw[<-hz] at y;omega
 have X:¬(z:Int)=0:=by omega
 obtain⟨a,ha⟩:=xe (ad x q);have F:a<18446744073709551616:=by rw[ha];unfold ad;unfold M.In at p;omega
 have f:fQ x a=4096*q:=by rw[ha];unfold fQ ad;omega
 have u:lI x t a:=by unfold lI;rw[f];exact⟨by omega,by omega⟩
 have U:fT x t a=q:=by unfold fT;rw[ae u,f];omega
 have d:lT x t a=true:=by unfold lT;exact af ⟨u,by rw[ha];exact p⟩
 have N:=aA (FQ x t a F w h);rw[U,d] at N;have P:=aA (M.Head_any (x.L j) x.s (t.hd j) w (h.ls j i));rw[hq,<-ha] at P;rw[<-ha];have R:=aA (tE x t k T w h);have S:=aA (tE x t j i w h);have Q:=aA (show Calls prog 218 #[.pointer (some ⟨x.b,0,none⟩),.int .i64 k] w fun e C=>e=.returned (.int .i64 j)/\C=w from(JJ x t k T w h).mono (by
  rintro e C ⟨I,rfl,l,rfl⟩;have:I=j:=by
   rcases Nat.lt_trichotomy I j with e|e|e
   ·exact absurd (hL.lz I l.lk e) (l.lh (by omega))
   ·exact e
   ·exact absurd (l.lz j hL.lk e) (hL.lh i)
  subst this;exact⟨rfl,rfl⟩))
 have A:=aA g;have B:=aA hcut;have K:=hL.lk;clear h hz ha f u U d g hcut hL hq p y;go_enter func161,ntmps161;go_wp2_with fail;refine R.o.mono ?_;rintro e D ⟨rfl,c⟩;rw[c];clear c;go_wp2_with fail;refine Q.o.mono ?_;rintro e D ⟨rfl,c⟩;rw[c];clear c;go_wp2_with fail;refine S.o.mono ?_;rintro e D ⟨rfl,c⟩;rw[c];clear c;go_wp2_with fail;refine P.o.mono ?_;rintro e D ⟨rfl,c⟩;rw[c];clear c;go_wp2_with fail;refine N.o.mono ?_;rintro e D ⟨rfl,r⟩;have K1:=aA r;have E:=aA (H.o.keep r);have J:=E.o.b3;have G:=E.o.lc j i;clear r c3 cl R S P N Q;go_wp2_with fail;refine(zk6 x t j i _ E.o).mono ?_;rintro e w2 ⟨v,rfl,d,hK⟩;rw[A.o];have H2:=aA d;have Y:=aA (eV (jE K1.o) hK);clear d hK J G;go_wp2_with fail;refine(wV x _ (q:Int) (j:Int) _ H2.o).mono ?_;rintro e w3 ⟨rfl,d,hK⟩;have H3:=aA d;have K3:=aA (eV Y.o hK);clear d hK;go_wp2_with fail;refine(FN x _ q j k (by omega) K i _ H3.o).mono ?_;rintro e w4 ⟨rfl,d,hK⟩;rw[B.o];have H4:=aA d;have V:=aA (eV K3.o hK);clear d hK;go_wp2_with fail;exact⟨rfl,.tuple #[.int .u64 a,.int .i64 0],by simp[results,results161,go_sem],rfl,H4.o,V.o⟩
theorem zgt(a b:Nat)(ha:a<4611686018427387904)(hb:b<4611686018427387904):bits .xor .i64 (a:Int) (b:Int)=((a ^^^ b:Nat):Int):=by
 have hx:a ^^^ b<2 ^ 62:=Nat.xor_lt_two_pow (by omega) (by omega);show IntKind.i64.wrap ((BitVec.ofInt 64 (a:Int) ^^^ BitVec.ofInt 64 (b:Int)).toNat:Int)=_
 rw[BitVec.toNat_xor,ofInt_u64 a (by omega),ofInt_u64 b (by omega),IntKind.wrap_i64];omega
theorem zei(a b:Nat)(ha:a<4611686018427387904)(hb:b<4611686018427387904):bits .andNot .i64 (a:Int) (b:Int)=((a &&& (18446744073709551615-b):Nat):Int):=by
 have hx:a &&& (18446744073709551615-b)<=a:=Nat.and_le_left;show IntKind.i64.wrap ((BitVec.ofInt 64 (a:Int) &&& ~~~BitVec.ofInt 64 (b:Int)).toNat:Int)=_
 rw[BitVec.toNat_and,BitVec.toNat_not,ofInt_u64 a (by omega),ofInt_u64 b (by omega),IntKind.wrap_i64];have e : 2 ^ 64-1-b=18446744073709551615-b:=by omega
 rw[e];omega
theorem zjd(b:Nat)(B:Bs)(m:Mp)(k i:Int)(w:World)(h:MpA w b B m):
  Calls prog 257 #[.pointer (some ⟨b,0,none⟩),.int .i64 k,.int .i64 i] w fun e p=>e=.returned (.bool (iV m k i))/\∃ r,p=w.drewN r:=by
 cases hp:dW m k i with
 | false=>
  rw[show iV m k i=false by simp[iV,hp]];have a:=aA (fun q=>qR b B m k i (w.drewN q) (h.keep ((Kt.refl nO w).drewN q)));rw[show(aD m.o k && aD m.n i)=false from hp] at a;clear h hp;go_enter func257,ntmps257;go_wp2_with fail;go_quiet ((go_at_call 256;exact Calls.quiet_of_same (a.o _)))
  go_wp2_with fail;go_ret;exact⟨rfl,_,rfl⟩
 | true=>
  have c:=hp;simp only[dW,bu] at c;obtain⟨k,rfl,d⟩:=gR c.1;obtain⟨i,rfl,hi⟩:=gR c.2;rw[show iV m (k:Int) (i:Int)=cT (m.n/2 ^ (k+1)) (m.wd k) ((i/2 ^ (k+1):Nat):Int)by simp[iV,hp,nY,nX]];have a:=aA (fun q=>qR b B m k i (w.drewN q) (h.keep ((Kt.refl nO w).drewN q)));rw[show(aD m.o (k:Int) && aD m.n (i:Int))=true from hp] at a;obtain⟨q,hq,s⟩:=h.cp k d;obtain⟨t,c2⟩:=h.c2 hq;have j:=aA (fun z=>nL (B.S k) (B.C k) _ (m.wd k) ((i/2 ^ (k+1):Nat):Int) (w.drewN z) ((h.set k d).kept ((Kt.refl nO w).drewN z) (fun x=>x) (fun x=>x)));have g:k<8:=by have:=h.o8;omega
  have f:i<1024:=by have:=h.n1;omega
  have l:(k:Int)<m.o:=by omega
  clear h hq c hp;go_enter func257,ntmps257;go_wp2_with fail;go_quiet (first|(go_at_call 256;exact Calls.quiet_of_same (a.o _))|(go_at_call 192;exact Calls.quiet_of_same (j.o _)))
  go_wp2_with fail;go_ret;exact⟨rfl,_,rfl⟩
theorem KH(x:Bx)(t:Bt)(p k:Int)(w:World)(h:BdAt w x t):
  Calls prog 249 #[.pointer (some ⟨x.b,0,none⟩),.int .i64 p,.int .i64 k] w fun e c=>e=.returned (.bool (lJ x t p k))/\∃ r,c=w.drewN r:=by
 have c2:=h.b2;have H:=aA h;have d:=aA (lZ x t w h);clear h;by_cases h0:k<(x.o:Int)
 ·rw[show lJ x t p k=iV t.m k p by simp[lJ,h0]];go_enter func249,ntmps249;go_wp2_with fail;refine d.o.mono ?_;rintro e f ⟨rfl,rfl⟩;go_wp2_with fail;refine(zjd x.m x.B t.m k p _ H.o.mp).mono ?_;rintro e c ⟨rfl,a⟩;have K:=aA a;clear a;go_wp2_with fail;go_ret;exact⟨cO (by simp),K.o⟩
 ·rw[show lJ x t p k=false by simp[lJ,h0]];go_enter func249,ntmps249;go_wp2_with fail;refine d.o.mono ?_;rintro e f ⟨rfl,rfl⟩;go_wp2_with fail;go_ret;exact⟨rfl,0,rfl⟩
def cL(x:Bx)(t:Bt)(p k:Nat):Bt:={ t with f:=(M.removeR x.bS x.n t.f (t.hd k) (ad x p)).1,hd:=lO t.hd k (M.removeR x.bS x.n t.f (t.hd k) (ad x p)).2.1 }
def iN(x:Bx)(t:Bt)(p k:Nat):Nat:=(M.removeR x.bS x.n t.f (t.hd k) (ad x p)).2.2
theorem FM(x:Bx)(t:Bt)(p k:Nat)(hp:p<=4000)(b:k<=x.o)(w:World)(h:BdAt w x t):
  Calls prog 209 #[.pointer (some ⟨x.L k,0,none⟩),.int .u64 ((ad x p:Nat):Int)] w fun e c=>e=.returned (.int .i64 (iN x t p k:Int))/\BdAt c x (cL x t p k)/\Kt (aC x) w c:=by
 have hb:=h.end63;refine(M.Remove_any (x.L k) x.s x.a x.bS x.R x.lim x.n t.f (t.hd k) (ad x p) (by unfold ad;omega) w (h.ls' k b)).mono ?_;rintro e c ⟨rfl,g,d⟩;exact⟨rfl,h.list b d g,xF b d⟩
theorem ze4{P:Program}{c:Code}{a:Act}{w:World}{Q:Exit->Act->World->Prop}(l:Nat)(J:Act->World->Prop)(μ : Act->World->Nat)(h0:J a w)
  (b:∀ a w,J a w->c.wp P (Exit.jump l (fun a' d=>J a' d/\μ a' d<μ a w) Q) a w):(Code.scope ((Code.label l).seq c)).wp P Q a w:=
 wp_scope_jumps l J μ (rest:=Code.skip.seq c) (by simp[findLabel]) (wp_seq (wp_label (Code.wp_mono (fun e a w h=>by
  cases e with
  | goto f=>exact⟨h.1,h.2.1⟩
  | _=>exact h) (b a w h0)))) (fun a w h=>wp_seq (wp_skip (b a w h)))
def aX(p k:Nat):Nat:=p ^^^ 2 ^ k
def dV(p k:Nat):Nat:=p &&& (18446744073709551615-2 ^ k)
def gN(x:Bx):Nat->Bt->Nat->Nat->Bt×Nat×Nat
 | 0,t,p,k=>(t,p,k)
 | d+1,t,p,k=>if lJ x t (p:Int) (k:Int)=true then (if iN x t (aX p k) k=0 then gN x d (fU (cL x t (aX p k) k) (p:Int) (k:Int)) (dV p k) (k+1) else (cL x t (aX p k) k,p,k)) else (t,p,k)
def uO(x:Bx)(r:Bt×Nat×Nat)(w W:World)(p k:Nat):Prop:=∃ t1,BdAt W x t1/\Kt (aC x) w W/\gN x (x.o-k) t1 p k=r
theorem zk8(x:Bx)(t:Bt)(S k0:Nat)(a1:S<=1024)(T:k0<=x.o)(w:World)(h:BdAt w x t):
  Calls prog 230 #[.pointer (some ⟨x.b,0,none⟩),.int .i64 S,.int .i64 k0] w fun e j=>∃ tr pr kr,(tr,pr,kr)=gN x (x.o-k0) t S k0/\e=.returned (.int .i64 (iG x tr pr kr:Int))/\BdAt j x (fF x tr pr kr)/\Kt (aC x) w j:=by
 have ho:=h.o8;obtain⟨r,hr⟩:=xe (gN x (x.o-k0) t S k0);rw[<-hr];have H0:=aA (show uO x r w w S k0 from⟨t,h,Kt.refl _ _,hr.symm⟩);clear h hr;go_enter func230,ntmps230;go_wp2_with fail;refine ze4 0 (fun a' W=>∃ (p k:Nat) (u7 u8 u9 u10 u11 u12 u13 u14 u15 u16 u17 u18 u19 u20 u21 u22 u23 u24 u25 u26 u27 u28 u29 u30 u31 u32 u33 u34 u35 u36 u37 u38 u39 u40 u41:Value),a'={ tmps:=#[.pointer (some ⟨x.b,0,none⟩),.int .i64 p,.int .i64 k,undef,undef,undef,.int .i64 0,u7,u8,u9,u10,u11,u12,u13,u14,u15,u16,u17,u18,u19,u20,u21,u22,u23,u24,u25,u26,u27,u28,u29,u30,u31,u32,u33,u34,u35,u36,u37,u38,u39,u40,u41],defers:=[] }/\k<=x.o/\p<=1024/\Hd (uO x r w W p k)) (fun a' _=>x.o-(intOf (a'.tmps.getD 2 undef)).toNat) ?_ ?_
 ·exact⟨S,k0,_,_,_,_,_,_,_,_,_,_,_,_,_,_,_,_,_,_,_,_,_,_,_,_,_,_,_,_,_,_,_,_,_,_,_,rfl,T,a1,H0⟩
 ·rintro a' wr ⟨p,k,u7,u8,u9,u10,u11,u12,u13,u14,u15,u16,u17,u18,u19,u20,u21,u22,u23,u24,u25,u26,u27,u28,u29,u30,u31,u32,u33,u34,u35,u36,u37,u38,u39,u40,u41,rfl,J,hp,hJ⟩;obtain⟨g,f,hK,hc⟩:=hJ.o;have R:=aA f;have K1:=aA hK;have HC:=aA hc;clear f hK hc hJ H0;have T:(0:Int)<=(k:Int):=by omega
  have a6:(k:Int)<((x.o+1:Nat):Int):=by omega
  have a2:(k:Int)<x.o+1:=by omega
  have a4:k<x.o+1:=by omega
  have a5:IntKind.i64.wrap (k:Int)=k:=by rw[IntKind.wrap_i64];omega
  obtain⟨z,hz⟩:=xe (2 ^ k);have a8:(2:Int) ^ k=(z:Int):=by rw[hz];simp
  have a7:z<=256:=by rw[hz];exact bj (n:=2) (by decide) (show k<=8 by omega)
  have Y:IntKind.i64.wrap (z:Int)=z:=by rw[IntKind.wrap_i64];omega
  obtain⟨q,hq⟩:=xe (aX p k);obtain⟨lo,A⟩:=xe (dV p k);have I:bits .xor .i64 (p:Int) (z:Int)=q:=by rw[zgt p z (by omega) (by omega),hq,aX,hz]
  have a3:bits .andNot .i64 (p:Int) (z:Int)=lo:=by rw[zei p z (by omega) (by omega),A,dV,hz]
  have X:q<=4000:=by
   have:q<2 ^ 11:=by rw[hq,aX,<-hz];exact Nat.xor_lt_two_pow (by omega) (by omega)
   omega
  have a9:lo<=p:=by rw[A];exact Nat.and_le_left
  have c3:=R.o.b3;have cl:=R.o.lc k J;have AQ:=aA (fun n=>KH x g (p:Int) (k:Int) (wr.drewN n) (R.o.keep ((Kt.refl nO wr).drewN n)));obtain⟨al,i⟩:=xe (lJ x g (p:Int) (k:Int));rw[<-i] at AQ
  cases al with
  | false=>
   have N:=aA (show r=(g,p,k)by
    rw[<-HC.o]
    cases hdd:x.o-k with
    | zero=>rfl
    | succ d=>rw[gN,<-i,ac (by decide)])
   clear i hq A HC;go_wp2_with fail;go_quiet ((go_at_call 249;exact Calls.quiet_of (AQ.o _)))
   have y:=aA (R.o.keep ((Kt.refl nO wr).drewN nq));have V:=aA (eV K1.o (jE ((Kt.refl nO wr).drewN nq)));generalize wr.drewN nq=W2 at *;go_wp2_with fail;refine(xE x g p k (by omega) J _ y.o).mono ?_;rintro e w3 ⟨rfl,f,hK⟩;have D:=aA (And.intro f (eV V.o hK));clear f hK;go_wp2_with fail;simp only[Exit.jump];go_ret;exact⟨g,p,k,N.o.symm,rfl,D.o⟩
  | true=>
   have b0:k<x.o:=by have e:=i.symm;unfold lJ at e;simp only[bu,bW] at e;omega
   obtain⟨d,hd⟩:∃ d,x.o-k=d+1:=⟨x.o-k-1,by omega⟩;have N:=aA (show r=if iN x g q k=0 then gN x d (fU (cL x g q k) (p:Int) (k:Int)) lo (k+1) else (cL x g q k,p,k)by
    rw[<-HC.o,hd,gN,<-i,ae rfl,<-hq,<-A])
   have a0:=aA (show d=x.o-(k+1)by omega);have AL:=aA (show Calls prog 249 #[.pointer (some ⟨x.b,0,none⟩),.int .i64 p,.int .i64 k] wr.drew fun e j=>e=.returned (.bool true)/\Hd (BdAt j x g/\Kt nO wr j)from(KH x g (p:Int) (k:Int) wr.drew (R.o.keep (Kt.refl nO wr).drew)).mono (by rintro e j ⟨rfl,r',rfl⟩;rw[<-i];exact⟨rfl,R.o.keep (((Kt.refl nO wr).drew).drewN r'),((Kt.refl nO wr).drew).drewN r'⟩))
   have u:=aA (show ∀ W,BdAt W x g->Calls prog 210 #[.pointer (some ⟨x.b,0,none⟩),.int .i64 q] W fun e j=>e=.returned (.int .u64 ((ad x q:Nat):Int))/\j=W from fun W hW=>lY x g q X W hW);have m:=aA (fun W (hW:BdAt W x g)=>FM x g q k X J W hW);obtain⟨a,ha⟩:=xe (ad x q);rw[<-ha] at u m;obtain⟨U,Z⟩:=xe (iN x g q k);rw[<-Z] at N m;clear i hq A HC hd AQ ha Z hz;have F:wr.drew.cell? ⟨x.b,3,none⟩=some (.slice (some ⟨x.l,0,none⟩) (x.o+1) x.c):=c3;have G:wr.drew.cell? ⟨x.l,k,none⟩=some (.pointer (some ⟨x.L k,0,none⟩)):=cl;by_cases h0:U=0
   ·have Q:(U:Int)=0:=(by omega);have K:((U:Int) == 0)=true:=(by simp[Q]);rw[ae h0] at N;clear h0;go_wp2_with fail;go_region_held3 (fun j=>j.cell? ⟨x.b,3,none⟩=some (.slice (some ⟨x.l,0,none⟩) (x.o+1) x.c)/\j.cell? ⟨x.l,k,none⟩=some (.pointer (some ⟨x.L k,0,none⟩))) (first|with_reducible exact⟨F,G⟩|with_reducible exact⟨E,s⟩|with_reducible exact⟨B,C⟩) (first|(go_at_call 249;refine AL.o.mono ?_;rintro e w1 ⟨rfl,hD⟩;have y:=aA hD.o.1;have V:=aA (eV K1.o (jE hD.o.2));have E:=y.o.b3;have s:=y.o.lc k J;clear hD)|(go_at_call 210;(try rw[Y]);(try rw[I]);refine(u.o _ y.o).mono ?_;rintro e w2 ⟨rfl,v⟩;rw[v];clear v)|(go_at_call 209;refine(m.o _ y.o).mono ?_;rintro e w3 ⟨rfl,f,hK⟩;have P:=aA f;have K3:=aA (eV V.o hK);have B:=P.o.b3;have C:=P.o.lc k J;clear f hK))
    all_goals
     clear c3 cl F G E s B C AL u m K;go_wp2_with fail;refine(wV x _ (p:Int) (k:Int) _ P.o).mono ?_;rintro e w4 ⟨rfl,f,hK⟩;have N4:=aA (show uO x r w w4 lo (k+1)from⟨_,f,eV K3.o hK,by rw[<-a0.o];exact N.o.symm⟩);clear f hK;go_wp2_with fail;go_step3
     exact⟨rfl,⟨lo,k+1,_,_,_,_,_,_,_,_,_,_,_,_,_,_,_,_,_,_,_,_,_,_,_,_,_,_,_,_,_,_,_,_,_,_,_,rfl,by omega,by omega,N4⟩,by simp[intOf];omega⟩
   ·have Q:¬(U:Int)=0:=(by omega);have K:((U:Int) == 0)=false:=ag.2 Q;rw[ac h0] at N;clear h0;go_wp2_with fail;go_region_held3 (fun j=>j.cell? ⟨x.b,3,none⟩=some (.slice (some ⟨x.l,0,none⟩) (x.o+1) x.c)/\j.cell? ⟨x.l,k,none⟩=some (.pointer (some ⟨x.L k,0,none⟩))) (first|with_reducible exact⟨F,G⟩|with_reducible exact⟨E,s⟩|with_reducible exact⟨B,C⟩) (first|(go_at_call 249;refine AL.o.mono ?_;rintro e w1 ⟨rfl,hD⟩;have y:=aA hD.o.1;have V:=aA (eV K1.o (jE hD.o.2));have E:=y.o.b3;have s:=y.o.lc k J;clear hD)|(go_at_call 210;(try rw[Y]);(try rw[I]);refine(u.o _ y.o).mono ?_;rintro e w2 ⟨rfl,v⟩;rw[v];clear v)|(go_at_call 209;refine(m.o _ y.o).mono ?_;rintro e w3 ⟨rfl,f,hK⟩;have P:=aA f;have K3:=aA (eV V.o hK);have B:=P.o.b3;have C:=P.o.lc k J;clear f hK))
    all_goals
     clear c3 cl F G E s B C AL u m K;go_wp2_with fail;refine(xE x _ p k (by omega) J _ P.o).mono ?_;rintro e w5 ⟨rfl,f,hK⟩;have D:=aA (And.intro f (eV K3.o hK));clear f hK;go_wp2_with fail;simp only[Exit.jump];go_ret;exact⟨_,p,k,N.o.symm,rfl,D.o⟩
end Go.Proofs.YtfmgnljlkdmndaaGreatDoor
