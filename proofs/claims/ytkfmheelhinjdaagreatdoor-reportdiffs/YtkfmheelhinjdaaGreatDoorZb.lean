import Derived.Test.YtkfmheelhinjdaaGreatDoorZe
import Derived.Test.YtkfmheelhinjdaaGreatDoorXe
import Derived.ScopeJumps
set_option maxRecDepth 1000000
set_option maxHeartbeats 80000000
namespace Go.Proofs.YtkfmheelhinjdaaGreatDoor
open _root_.Go.Proofs.Tryz
open Go.RowKit
set_option linter.unusedVariables false
theorem fQ{S:Nat->Prop}{w w':World}(h:M.Kt S w w'):Kt S w w':=⟨h.os,h.tape,h.output,h.size,h.block⟩
theorem iP{S:Nat->Prop}{w w':World}(h:Kt S w w'):M.Kt S w w':=⟨h.os,h.tape,h.output,h.size,h.block⟩
structure Bx where
 b:Nat
 s:Nat
 a:Option Nat
 m:Nat
 B:Bs
 l:Nat
 c:Nat
 L:Nat->Nat
 bS:Nat
 R:Nat
 lim:Nat
 n:Nat
 o:Nat
 P:Nat->Option Pg
structure Bt where
 f:Nat->Nat
 m:Mp
 hd:Nat->Nat
def kL(h:Nat->Nat)(k x:Nat):Nat->Nat:=fun j=>if j=k then x else h j
structure BdAt(w:World)(x:Bx)(t:Bt):Prop where
 sp:M.SpA w x.s x.a x.bS x.R x.lim x.n t.f
 mp:MpA w x.m x.B t.m
 ls:∀ k,k<=x.o->M.ListAt w (x.L k) x.s (t.hd k)
 bs:w.heap[x.b]?=some (.cells #[.int .u64 x.bS,.pointer (some ⟨x.s,0,none⟩),.pointer (some ⟨x.m,0,none⟩),.slice (some ⟨x.l,0,none⟩) (x.o+1) x.c] 143 (0,0))
 lr:∃ cs,w.heap[x.l]?=some (.cells cs 144 (0,0))/\∀ k,k<=x.o->cs[k]?=some (.pointer (some ⟨x.L k,0,none⟩))
 mo:t.m.o=x.o
 iL:∀ i j,i<=x.o->j<=x.o->x.L i=x.L j->i=j
 hR:x.R=4096*2 ^ x.o
theorem BdAt.o8{w x t}(h:BdAt w x t):x.o<=8:=by have:=h.mp.o8;rw[h.mo] at this;exact this
def aD(x:Bx):Nat->Prop:=fun y=>M.own x.s x.a y\/aM x.m x.B x.o y\/∃ k,k<=x.o/\y=x.L k
theorem mE{w:World}{b:Nat}{B:Bs}{m:Mp}(h:MpA w b B m){x:Nat}(hx:aM b B m.o x):∃ cs t z,w.heap[x]?=some (.cells cs t z)/\(t=149\/t=99\/t=150\/t=181\/t=27):=by
 rcases hx with rfl|hx|hx|⟨k,hk,rfl|rfl⟩
 ·obtain⟨cq,hb,_⟩:=h.hb;exact⟨_,_,_,hb,.inl rfl⟩
 ·have hr:=h.row;rw[hx] at hr;obtain⟨cs,hg,_⟩:=hr;exact⟨_,_,_,hg,.inr (.inl rfl)⟩
 ·obtain⟨cq,_,hp⟩:=h.hb;rw[hx] at hp;obtain⟨cs,hg,_⟩:=hp;exact⟨_,_,_,hg,.inr (.inr (.inl rfl))⟩
 ·exact⟨_,_,_,(h.set k hk).hb,.inr (.inr (.inr (.inl rfl)))⟩
 ·exact⟨_,_,_,(h.set k hk).hc,.inr (.inr (.inr (.inr rfl)))⟩
theorem mI{w:World}{s:Nat}{a:Option Nat}{bS R lim n:Nat}{f:Nat->Nat}(h:M.SpA w s a bS R lim n f){x:Nat}(hx:M.own s a x):∃ cs t z,w.heap[x]?=some (.cells cs t z)/\(t=140\/t=5):=by
 obtain⟨cap,hb,hr⟩:=h.ex;rcases hx with rfl|hx
 ·exact⟨_,_,_,hb,.inl rfl⟩
 ·rw[hx] at hr;obtain⟨_,rs,_,hg,_⟩:=hr;exact⟨_,_,_,hg,.inr rfl⟩
theorem rD{w:World}{b:Nat}{B:Bs}{m:Mp}{s:Nat}{a:Option Nat}{bS R lim n:Nat}{f:Nat->Nat}(h:MpA w b B m)(k:M.SpA w s a bS R lim n f){x:Nat}(hx:aM b B m.o x)(hy:M.own s a x):False:=by
 obtain⟨cs,t,z,h1,h2⟩:=mE h hx;obtain⟨cs',t',z',k1,k2⟩:=mI k hy;rw[h1] at k1
 cases k1
 rcases h2 with e|e|e|e|e <;> rcases k2 with e'|e' <;> rw[e] at e' <;> exact absurd e' (by decide)
theorem tH{w:World}{b:Nat}{B:Bs}{m:Mp}{c s hd:Nat}(h:MpA w b B m)(k:M.ListAt w c s hd)(hx:aM b B m.o c):False:=by
 obtain⟨cs,t,z,h1,h2⟩:=mE h hx;have k1:=k.hc;rw[h1] at k1
 cases k1
 rcases h2 with e|e|e|e|e <;> exact absurd e (by decide)
theorem BE{w:World}{s:Nat}{a:Option Nat}{bS R lim n:Nat}{f:Nat->Nat}{c s' hd:Nat}(h:M.SpA w s a bS R lim n f)(k:M.ListAt w c s' hd)(hx:M.own s a c):False:=by
 obtain⟨cs,t,z,h1,h2⟩:=mI h hx;have k1:=k.hc;rw[h1] at k1
 cases k1
 rcases h2 with e|e <;> exact absurd e (by decide)
theorem BdAt.nb{w x t}(h:BdAt w x t):¬aD x x.b:=by
 rintro (hx|hx|⟨k,hk,e⟩)
 ·obtain⟨cs,t',z,h1,h2⟩:=mI h.sp hx;rw[h.bs] at h1
  cases h1
  rcases h2 with e|e <;> exact absurd e (by decide)
 ·rw[<-h.mo] at hx;obtain⟨cs,t',z,h1,h2⟩:=mE h.mp hx;rw[h.bs] at h1
  cases h1
  rcases h2 with e|e|e|e|e <;> exact absurd e (by decide)
 ·exact absurd e (bT h.bs (h.ls k hk).hc (by decide))
theorem BdAt.nl{w x t}(h:BdAt w x t):¬aD x x.l:=by
 obtain⟨cs0,hl,_⟩:=h.lr;rintro (hx|hx|⟨k,hk,e⟩)
 ·obtain⟨cs,t',z,h1,h2⟩:=mI h.sp hx;rw[hl] at h1
  cases h1
  rcases h2 with e|e <;> exact absurd e (by decide)
 ·rw[<-h.mo] at hx;obtain⟨cs,t',z,h1,h2⟩:=mE h.mp hx;rw[hl] at h1
  cases h1
  rcases h2 with e|e|e|e|e <;> exact absurd e (by decide)
 ·exact absurd e (bT hl (h.ls k hk).hc (by decide))
theorem BdAt.kept{w w' x t}{S:Nat->Prop}(h:BdAt w x t)(k:Kt S w w')(hS:∀ y,aD x y\/y=x.b\/y=x.l->¬S y):BdAt w' x t:=by
 refine⟨h.sp.kept (iP k) (fun y hy=>hS y (.inl (.inl hy))),h.mp.kept k (fun y hy=>hS y (.inl (.inr (.inl (h.mo▸hy))))),fun i hi=>(h.ls i hi).kept (iP k) (hS _ (.inl (.inr (.inr ⟨i,hi,rfl⟩)))),(k.block _ (lH h.bs) (hS _ (.inr (.inl rfl)))).trans h.bs,?_,h.mo,h.iL,h.hR⟩;obtain⟨cs,hl,hc⟩:=h.lr;exact⟨cs,(k.block _ (lH hl) (hS _ (.inr (.inr rfl)))).trans hl,hc⟩
theorem BdAt.keep{w w' x t}(h:BdAt w x t)(k:Kt nO w w'):BdAt w' x t:=h.kept k (fun _ _ e=>e)
theorem BdAt.map{w w' x t}{m':Mp}(h:BdAt w x t)(k:Kt (aM x.m x.B t.m.o) w w')(hm:MpA w' x.m x.B m')(ho:m'.o=t.m.o):BdAt w' x { t with m:=m' }:=by
 have nb:=h.nb;have nl:=h.nl;refine⟨h.sp.kept (iP k) (fun y hy e=>rD h.mp h.sp e hy),hm,fun i hi=>(h.ls i hi).kept (iP k) (fun e=>tH h.mp (h.ls i hi) e),(k.block _ (lH h.bs) (fun e=>nb (.inr (.inl (h.mo▸e))))).trans h.bs,?_,ho.trans h.mo,h.iL,h.hR⟩;obtain⟨cs,hl,hc⟩:=h.lr;exact⟨cs,(k.block _ (lH hl) (fun e=>nl (.inr (.inl (h.mo▸e))))).trans hl,hc⟩
theorem BdAt.list{w w' x t}{f':Nat->Nat}{i hd':Nat}(h:BdAt w x t)(hi:i<=x.o)(k:M.Kt (M.lown (x.L i) x.s x.a) w w')(hl:M.LS w' (x.L i) x.s x.a x.bS x.R x.lim x.n f' hd'):BdAt w' x { t with f:=f',hd:=kL t.hd i hd' }:=by
 have nb:=h.nb;have nl:=h.nl;have kk:=fQ k;refine⟨hl.s,h.mp.kept kk (fun y hy e=>?_),fun j hj=>?_,(kk.block _ (lH h.bs) (fun e=>nb (e.elim (fun e=>.inr (.inr ⟨i,hi,e⟩)) (fun e=>.inl e)))).trans h.bs,?_,h.mo,h.iL,h.hR⟩
 ·rcases e with rfl|e
  ·exact tH h.mp (h.ls i hi) hy
  ·exact rD h.mp h.sp hy e
 ·show M.ListAt w' (x.L j) x.s (kL t.hd i hd' j)
  unfold kL;by_cases e:j=i
  ·subst e;rw[if_pos rfl];exact hl.l
  ·rw[if_neg e];refine(h.ls j hj).kept k (fun e2=>?_);rcases e2 with e2|e2
   ·exact e (h.iL j i hj hi e2)
   ·exact BE h.sp (h.ls j hj) e2
 ·obtain⟨cs,hr,hc⟩:=h.lr;exact⟨cs,(kk.block _ (lH hr) (fun e=>nl (e.elim (fun e=>.inr (.inr ⟨i,hi,e⟩)) (fun e=>.inl e)))).trans hr,hc⟩
theorem BdAt.ls'{w x t}(h:BdAt w x t)(i:Nat)(hi:i<=x.o):M.LS w (x.L i) x.s x.a x.bS x.R x.lim x.n t.f (t.hd i):=⟨h.sp,h.ls i hi⟩
theorem BdAt.b0{w x t}(h:BdAt w x t):w.cell? ⟨x.b,0,none⟩=some (.int .u64 x.bS):=by simp[World.cell?,h.bs]
theorem BdAt.b1{w x t}(h:BdAt w x t):w.cell? ⟨x.b,1,none⟩=some (.pointer (some ⟨x.s,0,none⟩)):=by simp[World.cell?,h.bs]
theorem BdAt.b2{w x t}(h:BdAt w x t):w.cell? ⟨x.b,2,none⟩=some (.pointer (some ⟨x.m,0,none⟩)):=by simp[World.cell?,h.bs]
theorem BdAt.b3{w x t}(h:BdAt w x t):w.cell? ⟨x.b,3,none⟩=some (.slice (some ⟨x.l,0,none⟩) (x.o+1) x.c):=by simp[World.cell?,h.bs]
theorem BdAt.lc{w x t}(h:BdAt w x t)(k:Nat)(hk:k<=x.o):w.cell? ⟨x.l,k,none⟩=some (.pointer (some ⟨x.L k,0,none⟩)):=by
 obtain⟨cs,hl,hc⟩:=h.lr;simp[World.cell?,hl,hc k hk]
theorem yF{x:Bx}{w w':World}(k:Kt (aM x.m x.B x.o) w w'):Kt (aD x) w w':=k.mono (fun y _ e=>.inr (.inl e))
theorem tY{x:Bx}{w w':World}{i:Nat}(hi:i<=x.o)(k:M.Kt (M.lown (x.L i) x.s x.a) w w'):Kt (aD x) w w':=(fQ k).mono (fun y _ e=>e.elim (fun e=>.inr (.inr ⟨i,hi,e⟩)) (fun e=>.inl e))
theorem kJ{x:Bx}{w w':World}(k:Kt nO w w'):Kt (aD x) w w':=k.mono (fun _ _ e=>e.elim)
theorem eN{x:Bx}{a b c:World}(h:Kt (aD x) a b)(k:Kt (aD x) b c):Kt (aD x) a c:=h.trans k (fun _ _ e=>e) (fun _ _ e=>e)
theorem UV(b:Nat)(B:Bs)(m:Mp)(k i:Int)(w:World)(h:MpA w b B m):
  Calls prog 258 #[.pointer (some ⟨b,0,none⟩),.int .i64 k,.int .i64 i] w fun e w'=>e=.returned (.tuple #[.bool (hZ (eK m k i) k i),.int .i64 (oC m k i)])/\MpA w' b B (eK m k i)/\Kt (aM b B m.o) w w':=by
 cases hp:dA m k i with
 | false=>
  have e1:eK m k i=m:=by simp[eK,hp]
  rw[show oC m k i=1 by simp[oC,hp],e1,show hZ m k i=false by simp[hZ,hp]];refine(KR b B m k i w h hp).mono ?_;rintro e w' ⟨rfl,hk⟩;exact⟨rfl,h.keep hk,hk.mono (fun _ _ e=>e.elim)⟩
 | true=>
  have h1:aC m.o k=true/\aC m.n i=true:=by unfold dA at hp;exact Bool.and_eq_true_iff.1 hp
  obtain⟨a,rfl,ha⟩:=gM h1.1;obtain⟨j,rfl,hj⟩:=gM h1.2;have e1:eK m (a:Int) (j:Int)={ m with wd:=gR m.wd a (fO (m.n/2 ^ (a+1)) (m.wd a) ((j/2 ^ (a+1):Nat):Int)) }:=by simp[eK,hp,mO,mN]
  rw[show oC m (a:Int) (j:Int)=0 by simp[oC,hp],e1,show hZ { m with wd:=gR m.wd a (fO (m.n/2 ^ (a+1)) (m.wd a) ((j/2 ^ (a+1):Nat):Int)) } (a:Int) (j:Int)=cA (m.n/2 ^ (a+1)) (fO (m.n/2 ^ (a+1)) (m.wd a) ((j/2 ^ (a+1):Nat):Int)) ((j/2 ^ (a+1):Nat):Int)by
   unfold hZ;rw[show dA { m with wd:=gR m.wd a (fO (m.n/2 ^ (a+1)) (m.wd a) ((j/2 ^ (a+1):Nat):Int)) } (a:Int) (j:Int)=true from hp];simp[mO,mN,gR]]
  exact KQ b B m a j w h ha hj
theorem BdAt.end63{w x t}(h:BdAt w x t) : 1<=x.bS/\x.bS+x.n<=9223372036854775808:=⟨h.sp.cfg.b1,h.sp.end_le⟩
theorem pO(x:Bx)(t:Bt)(p:Nat)(hp:p<=4000)(w:World)(h:BdAt w x t):
  Calls prog 264 #[.pointer (some ⟨x.b,0,none⟩),.int .i64 p] w fun e w'=>e=.returned (.int .u64 ((x.bS+4096*p:Nat):Int))/\w'=w:=by
 have c0:=h.b0;obtain⟨q,hq⟩:=xe (x.bS+4096*p);have hb:=h.end63;have hpw:IntKind.u64.wrap (p:Int)=p:=by rw[wrap_u64];omega
 have hmw:IntKind.u64.wrap ((p:Int)*4096)=(p:Int)*4096:=by rw[wrap_u64];omega
 have haw:IntKind.u64.wrap ((x.bS:Int)+(p:Int)*4096)=(q:Int):=by rw[wrap_u64];omega
 rw[<-hq];clear hq;go_enter func264,ntmps264;go_wp2_with fail;go_ret;exact⟨eJ (by omega),rfl⟩
theorem rM(x:Bx)(t:Bt)(w:World)(h:BdAt w x t):
  Calls prog 265 #[.pointer (some ⟨x.b,0,none⟩)] w fun e w'=>e=.returned (.int .i64 x.o)/\w'=w:=by
 have c3:=h.b3;have ho:=h.o8;go_enter func265,ntmps265;go_wp2_with fail;go_ret;exact⟨eJ (by omega),rfl⟩
theorem oU(x:Bx)(t:Bt)(i:Int)(w:World)(h:BdAt w x t):
  Calls prog 203 #[.pointer (some ⟨x.b,0,none⟩),.int .i64 i] w fun e w'=>e=.returned (.bool (aC (x.o+1) i))/\w'=w:=by
 have c3:=h.b3;have ho:=h.o8;by_cases h0 : 0<=i
 ·by_cases h1:i<((x.o+1:Nat):Int)
  ·rw[show aC (x.o+1) i=true by simp only[aC];exact decide_eq_true ⟨h0,h1⟩];go_enter func203,ntmps203;go_wp2_with fail;go_ret;exact⟨cO (by simp;omega),rfl⟩
  ·rw[show aC (x.o+1) i=false by simp only[aC];exact decide_eq_false (fun e=>h1 e.2)];go_enter func203,ntmps203;go_wp2_with fail;go_ret;exact⟨cO (by simp;omega),rfl⟩
 ·rw[show aC (x.o+1) i=false by simp only[aC];exact decide_eq_false (fun e=>h0 e.1)];go_enter func203,ntmps203;go_wp2_with fail;go_ret;exact⟨cO rfl,rfl⟩
theorem IG(m:Mp)(k i:Int):(eK m k i).o=m.o:=by unfold eK;split <;> rfl
theorem wG(m:Mp)(p o k:Int):(cM m p o k).o=m.o:=by unfold cM;split <;> rfl
def fN(t:Bt)(p k:Int):Bt:={ t with m:=eK t.m k p }
theorem tG(x:Bx)(t:Bt)(p k:Int)(w:World)(h:BdAt w x t):
  Calls prog 207 #[.pointer (some ⟨x.b,0,none⟩),.int .i64 p,.int .i64 k] w fun e w'=>e=.returned (.tuple #[])/\BdAt w' x (fN t p k)/\Kt (aD x) w w':=by
 have c2:=h.b2;have H:=aA h;clear h;go_enter func207,ntmps207;go_wp2_with fail;refine(UV x.m x.B t.m k p _ H.out.mp).mono ?_;rintro e w' ⟨rfl,h2,h3⟩;have D:=aA (show BdAt w' x (fN t p k)/\Kt (aD x) w w' from⟨H.out.map h3 h2 (IG _ _ _),yF (H.out.mo▸h3)⟩);clear h2 h3;go_wp2_with fail;exact⟨rfl,.tuple #[],by simp[results,results207,go_sem],rfl,D.out⟩
def kC(x:Bx)(t:Bt)(p k:Int):Bool:=decide (k<(x.o:Int)) && hZ t.m k p
theorem UT(b:Nat)(B:Bs)(m:Mp)(i:Int)(w:World)(h:MpA w b B m):
  Calls prog 299 #[.pointer (some ⟨b,0,none⟩),.int .i64 i] w fun e w'=>e=.returned (.int .i64 (kR m i))/\w'=w:=by
 cases hi:aC m.n i with
 | false=>
  rw[show kR m i = -1 by simp[kR,hi]];exact PN b B m i w h hi
 | true=>
  obtain⟨k,rfl,hk⟩:=gM hi;have ok:=h.ok k hk;obtain⟨o,ho⟩:=Int.eq_ofNat_of_zero_le ok.o0;rw[show kR m (k:Int)=((k/2 ^ o*2 ^ o:Nat):Int)by simp[kR,hi,ho]];exact JT b B m k o w h hk ho
def lD(m:Mp)(kd i o:Int):Bool:=aC m.n i && ((cF m i).kd == kd) && ((cF m i).od == o) && (kR m i == i)
theorem DY(x:Bx)(t:Bt)(kd i o:Int)(w:World)(h:BdAt w x t):
  Calls prog 297 #[.pointer (some ⟨x.b,0,none⟩),.int .i64 kd,.int .i64 i,.int .i64 o] w fun e w'=>e=.returned (.bool (lD t.m kd i o))/\Kt nO w w':=by
 have c2:=h.b2;have H:=aA h;clear h;obtain⟨p,hp⟩:=xe (cF t.m i);obtain⟨hv,hhv⟩:=xe (kR t.m i);obtain⟨r,hr⟩:=xe (aC t.m.n i);have HA:=aA (show ∀ W,MpA W x.m x.B t.m->Calls prog 72 #[.pointer (some ⟨x.m,0,none⟩),.int .i64 i] W fun e w'=>e=.returned (.tuple #[cC p,.bool r])/\Kt nO W w' from fun W hW=>by rw[hp,hr];exact jA x.m x.B t.m i W hW);have HH:=aA (show ∀ W,MpA W x.m x.B t.m->Calls prog 299 #[.pointer (some ⟨x.m,0,none⟩),.int .i64 i] W fun e w'=>e=.returned (.int .i64 hv)/\w'=W from fun W hW=>by rw[hhv];exact UT x.m x.B t.m i W hW);rw[show lD t.m kd i o=(r && (p.kd == kd) && (p.od == o) && (hv == i))by rw[lD,<-hp,<-hhv,<-hr]];clear hp hhv hr;have hc:r=false\/(r=true/\¬p.kd=kd)\/(r=true/\p.kd=kd/\¬p.od=o)\/(r=true/\p.kd=kd/\p.od=o):=by
  cases r with
  | false=>exact .inl rfl
  | true=>
   by_cases e1:p.kd=kd
   ·by_cases e2:p.od=o
    ·exact .inr (.inr (.inr ⟨rfl,e1,e2⟩))
    ·exact .inr (.inr (.inl ⟨rfl,e1,e2⟩))
   ·exact .inr (.inl ⟨rfl,e1⟩)
 rcases hc with rfl|⟨rfl,h1⟩|⟨rfl,h1,h2⟩|⟨rfl,h1,h2⟩
 ·go_enter func297,ntmps297;go_wp2_with fail;refine(HA.out _ H.out.mp).mono ?_;rintro e w1 ⟨rfl,hk⟩;have K:=aA (hk.alloc (aI p));clear hk;go_wp2_with fail;go_ret;exact⟨cO (by simp),K.out⟩
 ·have hb1:(p.kd == kd)=false:=beq_eq_false_iff_ne.2 h1;go_enter func297,ntmps297;go_wp2_with fail;refine(HA.out _ H.out.mp).mono ?_;rintro e w1 ⟨rfl,hk⟩;have K:=aA (hk.alloc (aI p));clear hk;go_wp2_with fail;go_ret;exact⟨cO (by simp[hb1]),K.out⟩
 ·have hb2:(p.od == o)=false:=beq_eq_false_iff_ne.2 h2;subst h1;go_enter func297,ntmps297;go_wp2_with fail;refine(HA.out _ H.out.mp).mono ?_;rintro e w1 ⟨rfl,hk⟩;have K:=aA (hk.alloc (aI p));clear hk;go_wp2_with fail;go_ret;exact⟨cO (by simp[hb2]),K.out⟩
 ·subst h1 h2;go_enter func297,ntmps297;go_wp2_with fail;refine(HA.out _ H.out.mp).mono ?_;rintro e w1 ⟨rfl,hk⟩;have K:=aA (hk.alloc (aI p));have c2:=K.out.cell (fun x=>x) c2;have H1:=aA (H.out.keep K.out);clear hk;go_wp2_with fail;refine(HH.out _ H1.out.mp).mono ?_;rintro e w2 ⟨rfl,hw2⟩;rw[hw2];clear hw2;go_wp2_with fail;go_ret;exact⟨cO (by simp),K.out⟩
def eX(x:Bx)(p:Nat):Nat:=(p+18446744073709551616-x.bS)%18446744073709551616
def kB(x:Bx)(t:Bt)(p:Nat):Prop:=eX x p%4096=0/\eX x p/4096<t.m.n
instance (x:Bx) (t:Bt) (p:Nat):Decidable (kB x t p):=inferInstanceAs (Decidable (_/\_))
instance (a b c d:Nat):Decidable (M.In a b c d):=inferInstanceAs (Decidable (_/\_))
def fU(x:Bx)(t:Bt)(p:Nat):Nat:=if kB x t p then eX x p/4096 else 0
def kU(x:Bx)(t:Bt)(p:Nat):Bool:=decide (kB x t p/\M.In x.bS x.n p 1)
theorem yE(x:Bx)(t:Bt)(p:Nat)(hp:p<18446744073709551616)(w:World)(h:BdAt w x t):
  Calls prog 205 #[.pointer (some ⟨x.b,0,none⟩),.int .u64 p] w fun e w'=>e=.returned (.tuple #[.int .i64 (fU x t p:Int),.bool (kU x t p)])/\Kt nO w w':=by
 have c0:=h.b0;have c1:=h.b1;have c2:=h.b2;have hb:=h.end63;have hn1:=h.mp.n1;have H:=aA h;clear h;obtain⟨off,hoff⟩:=xe (eX x p);have hofw:IntKind.u64.wrap ((p:Int)-(x.bS:Int))=(off:Int):=by rw[wrap_u64,hoff];unfold eX;omega
 have hofl:off<18446744073709551616:=by rw[hoff];unfold eX;omega
 obtain⟨r,hr⟩:=xe (off%4096);obtain⟨q,hq⟩:=xe (off/4096);have hri:(off:Int)%4096=(r:Int):=by omega
 have hqi:(off:Int)/4096=(q:Int):=by omega
 have hmw:IntKind.u64.wrap (t.m.n:Int)=t.m.n:=by rw[wrap_u64];omega
 have hqw:IntKind.i64.wrap (q:Int)=q:=by rw[IntKind.wrap_i64];omega
 have PG:=aA (show ∀ W,MpA W x.m x.B t.m->Calls prog 71 #[.pointer (some ⟨x.m,0,none⟩)] W fun e w'=>e=.returned (.int .i64 t.m.n)/\w'=W from fun W hW=>tW x.m x.B t.m W hW);have hE:kB x t p↔(r=0/\q<t.m.n):=by unfold kB;rw[<-hoff,<-hr,<-hq]
 have hI:fU x t p=if r=0/\q<t.m.n then q else 0:=by
  unfold fU;by_cases c:kB x t p
  ·rw[if_pos c,if_pos (hE.1 c),<-hoff,<-hq]
  ·rw[if_neg c,if_neg (fun d=>c (hE.2 d))]
 have hB:kU x t p=decide ((r=0/\q<t.m.n)/\M.In x.bS x.n p 1):=by
  unfold kU;exact decide_eq_decide.2 (and_congr_left fun _=>hE)
 clear hE;clear hoff hr hq;by_cases h0:r=0
 ·by_cases h1:q<t.m.n
  ·have hqn:(q:Int)<t.m.n:=(by omega);have h0i:(r:Int)=0:=(by omega);rw[hI,hB,if_pos ⟨h0,h1⟩];clear hI hB;by_cases h2:M.In x.bS x.n p 1
   ·rw[show decide ((r=0/\q<t.m.n)/\M.In x.bS x.n p 1)=true from decide_eq_true ⟨⟨h0,h1⟩,h2⟩];have BY:=aA (M.Byte_any x.s x.a x.bS x.R x.lim x.n t.f p hp w H.out.sp);simp only[h2,if_true] at BY;clear h0;go_enter func205,ntmps205;go_wp2_with fail;refine(PG.out _ H.out.mp).mono ?_;rintro e w1 ⟨rfl,hw1⟩;rw[hw1];clear hw1;go_wp2_with fail;refine BY.out.mono ?_;rintro e w2 ⟨rfl,hk⟩;have K:=aA (show Kt nO w w2 from fQ hk);clear hk BY;go_wp2_with fail;exact⟨rfl,.tuple #[.int .i64 q,.bool true],by simp[results,results205,go_sem],rfl,K.out⟩
   ·rw[show decide ((r=0/\q<t.m.n)/\M.In x.bS x.n p 1)=false from decide_eq_false (fun e=>h2 e.2)];have BY:=aA (M.Byte_any x.s x.a x.bS x.R x.lim x.n t.f p hp w H.out.sp);simp only[h2,if_false] at BY;clear h0;go_enter func205,ntmps205;go_wp2_with fail;refine(PG.out _ H.out.mp).mono ?_;rintro e w1 ⟨rfl,hw1⟩;rw[hw1];clear hw1;go_wp2_with fail;refine BY.out.mono ?_;rintro e w2 ⟨rfl,hk⟩;have K:=aA (show Kt nO w w2 from fQ hk);clear hk BY;go_wp2_with fail;exact⟨rfl,.tuple #[.int .i64 q,.bool false],by simp[results,results205,go_sem],rfl,K.out⟩
  ·have hqn:¬(q:Int)<t.m.n:=(by omega);have h0i:(r:Int)=0:=(by omega);rw[hI,hB,if_neg (fun e=>h1 e.2),show decide ((r=0/\q<t.m.n)/\M.In x.bS x.n p 1)=false from decide_eq_false (fun e=>h1 e.1.2)];clear hI hB h0;go_enter func205,ntmps205;go_wp2_with fail;refine(PG.out _ H.out.mp).mono ?_;rintro e w1 ⟨rfl,hw1⟩;rw[hw1];clear hw1;go_wp2_with fail;exact⟨rfl,.tuple #[.int .i64 0,.bool false],by simp[results,results205,go_sem],rfl,Kt.refl nO _⟩
 ·have h0i:¬(r:Int)=0:=by omega
  rw[hI,hB,if_neg (fun e=>h0 e.1),show decide ((r=0/\q<t.m.n)/\M.In x.bS x.n p 1)=false from decide_eq_false (fun e=>h0 e.1.1)];clear hI hB;go_enter func205,ntmps205;go_wp2_with fail;exact⟨rfl,.tuple #[.int .i64 0,.bool false],by simp[results,results205,go_sem],rfl,Kt.refl nO _⟩
def kT(x:Bx)(t:Bt)(p:Nat)(k:Int):Bool:=kU x t p && aC (x.o+1) k && lD t.m 2 (fU x t p:Int) k
theorem UH(x:Bx)(t:Bt)(p:Nat)(k:Int)(hp:p<18446744073709551616)(w:World)(h:BdAt w x t):
  Calls prog 290 #[.pointer (some ⟨x.b,0,none⟩),.int .u64 p,.int .i64 k] w fun e w'=>e=.returned (.tuple #[.int .i64 (fU x t p:Int),.bool (kT x t p k)])/\Kt nO w w':=by
 have H:=aA h;have PG:=aA (yE x t p hp w h);clear h;obtain⟨q,hq⟩:=xe (fU x t p);obtain⟨v,hv⟩:=xe (kU x t p);rw[show kT x t p k=(v && aC (x.o+1) k && lD t.m 2 (q:Int) k)by rw[kT,<-hq,<-hv],<-hq];rw[<-hq,<-hv] at PG;clear hq hv
 cases v with
 | false=>
  go_enter func290,ntmps290;go_wp2_with fail;refine PG.out.mono ?_;rintro e w1 ⟨rfl,hk⟩;have K:=aA hk;clear hk;go_wp2_with fail;exact⟨rfl,.tuple #[.int .i64 q,.bool false],by simp[results,results290,go_sem],by simp,K.out⟩
 | true=>
  obtain⟨r,hr⟩:=xe (aC (x.o+1) k);have HS:=aA (show ∀ W,BdAt W x t->Calls prog 203 #[.pointer (some ⟨x.b,0,none⟩),.int .i64 k] W fun e w'=>e=.returned (.bool r)/\w'=W from fun W hW=>by rw[hr];exact oU x t k W hW);rw[<-hr];clear hr
  cases r with
  | false=>
   go_enter func290,ntmps290;go_wp2_with fail;refine PG.out.mono ?_;rintro e w1 ⟨rfl,hk⟩;have K:=aA hk;have H1:=aA (H.out.keep hk);clear hk;go_wp2_with fail;refine(HS.out _ H1.out).mono ?_;rintro e w2 ⟨rfl,hw2⟩;rw[hw2];clear hw2;go_wp2_with fail;exact⟨rfl,.tuple #[.int .i64 q,.bool false],by simp[results,results290,go_sem],by simp,K.out⟩
  | true=>
   go_enter func290,ntmps290;go_wp2_with fail;refine PG.out.mono ?_;rintro e w1 ⟨rfl,hk⟩;have K:=aA hk;have H1:=aA (H.out.keep hk);clear hk;go_wp2_with fail;refine(HS.out _ H1.out).mono ?_;rintro e w2 ⟨rfl,hw2⟩;rw[hw2];clear hw2;go_wp2_with fail;refine(DY x t 2 (q:Int) k _ H1.out).mono ?_;rintro e w3 ⟨rfl,hk⟩;have K3:=aA (nT K.out hk);clear hk;go_wp2_with fail;exact⟨rfl,.tuple #[.int .i64 q,.bool (lD t.m 2 (q:Int) k)],by simp[results,results290,go_sem],by simp,K3.out⟩
structure Least(x:Bx)(t:Bt)(k j:Nat):Prop where
 lk:k<=j
 lo:j<=x.o+1
 lz:∀ a,k<=a->a<j->t.hd a=0
 lh:j<=x.o->t.hd j≠0
theorem zI(x:Bx)(t:Bt)(k:Nat)(hk:k<=x.o)(w:World)(h:BdAt w x t):
  Calls prog 204 #[.pointer (some ⟨x.b,0,none⟩),.int .i64 k] w fun e w'=>∃ j:Nat,e=.returned (.int .i64 j)/\Least x t k j/\w'=w:=by
 have c3:=h.b3;have H:=aA h;have ho:=h.o8;clear h;go_enter func204,ntmps204;go_wp2_with fail;go_loopw [1] (fun i W=>Hid (W=w)/\∃ j:Nat,k<=j/\j<=x.o+1/\i=.int .i64 j/\Hid (∀ a,k<=a->a<j->t.hd a=0)) (fun i _=>x.o+1-(intOf i).toNat)
 case atStart=>exact⟨rfl,k,by omega,by omega,rfl,fun a h1 h2=>by omega⟩
 case round=>
  obtain⟨hW,j,h1,h2,rfl,hz⟩:=hrel;have hW:=hW.out;subst hW;have HS:=aA (oU x t (j:Int) wr H.out);by_cases h3:j<=x.o
  ·rw[show aC (x.o+1) (j:Int)=true by simp only[aC];exact decide_eq_true ⟨by omega,by omega⟩] at HS;have hji:(j:Int)<((x.o+1:Nat):Int):=(by omega);have cl:=H.out.lc j h3;have HD:=aA (M.Head_any (x.L j) x.s (t.hd j) wr (H.out.ls j h3));obtain⟨d,hd⟩:=xe (t.hd j);rw[<-hd] at HD;have HDE:=aA hd;clear hd;by_cases h4:d=0
   ·have h4i:(d:Int)=0:=(by omega);go_wp2_with fail;refine HS.out.mono ?_;rintro e w1 ⟨rfl,hw1⟩;rw[hw1];clear hw1;go_wp2_with fail;refine HD.out.mono ?_;rintro e w1 ⟨rfl,hw1⟩;rw[hw1];clear hw1;go_wp2_with fail;exact⟨⟨trivial,j+1,by omega,by omega,by simp,fun a h5 h6=>by
     by_cases e:a=j
     ·subst e;rw[<-HDE.out];exact h4
     ·exact hz.out a h5 (by omega)⟩,by simp[intOf];omega⟩
   ·have h4i:¬(d:Int)=0:=(by omega);go_wp2_with fail;refine HS.out.mono ?_;rintro e w1 ⟨rfl,hw1⟩;rw[hw1];clear hw1;go_wp2_with fail;refine HD.out.mono ?_;rintro e w1 ⟨rfl,hw1⟩;rw[hw1];clear hw1;go_wp2_with fail;go_ret;exact⟨j,rfl,⟨h1,h2,hz.out,fun _=>by rw[<-HDE.out];exact h4⟩,rfl⟩
  ·rw[show aC (x.o+1) (j:Int)=false by simp only[aC];exact decide_eq_false (fun e=>by omega)] at HS;go_wp2_with fail;refine HS.out.mono ?_;rintro e w1 ⟨rfl,hw1⟩;rw[hw1];clear hw1;go_wp2_with fail;go_ret;exact⟨j,rfl,⟨h1,h2,hz.out,fun e=>by omega⟩,rfl⟩
def ad(x:Bx)(p:Nat):Nat:=x.bS+4096*p
def oB(x:Bx)(t:Bt)(p k:Nat):Bt:={ t with f:=(M.pushR x.bS x.n t.f (t.hd k) (ad x p)).1,hd:=kL t.hd k (M.pushR x.bS x.n t.f (t.hd k) (ad x p)).2.1 }
def nD(x:Bx)(t:Bt)(p k:Nat):Nat:=(M.pushR x.bS x.n t.f (t.hd k) (ad x p)).2.2
def cP(t:Bt)(p k:Nat)(kd:Int):Bt:={ t with m:=cM t.m p k kd }
def eH(x:Bx)(t:Bt)(p k:Nat):Bt:=if nD x t p k=0 then fN (cP (oB x t p k) p k 0) p k else oB x t p k
def gL(x:Bx)(t:Bt)(p k:Nat):Nat:=if nD x t p k=0 then 0 else 9
theorem rI(x:Bx)(t:Bt)(p k:Nat)(kd:Int)(w:World)(h:BdAt w x t):
  Calls prog 260 #[.pointer (some ⟨x.m,0,none⟩),.int .i64 p,.int .i64 k,.int .i64 kd] w fun e w'=>e=.returned (.int .i64 (gS t.m p k kd))/\BdAt w' x (cP t p k kd)/\Kt (aD x) w w':=by
 refine(QD x.m x.B t.m p k kd w h.mp).mono ?_;rintro e w' ⟨rfl,h2,h3⟩;exact⟨rfl,h.map h3 h2 (wG _ _ _ _),yF (h.mo▸h3)⟩
theorem UO(x:Bx)(t:Bt)(p k:Nat)(hp:p<=4000)(hk:k<=x.o)(w:World)(h:BdAt w x t):
  Calls prog 287 #[.pointer (some ⟨x.L k,0,none⟩),.int .u64 ((ad x p:Nat):Int)] w fun e w'=>e=.returned (.int .i64 (nD x t p k:Int))/\BdAt w' x (oB x t p k)/\Kt (aD x) w w':=by
 have hb:=h.end63;refine(M.Push_any (x.L k) x.s x.a x.bS x.R x.lim x.n t.f (t.hd k) (ad x p) (by unfold ad;omega) w (h.ls' k hk)).mono ?_;rintro e w' ⟨rfl,h2,h3⟩;exact⟨rfl,h.list hk h3 h2,tY hk h3⟩
theorem tX(x:Bx)(t:Bt)(p k:Nat)(hp:p<=4000)(hk:k<=x.o)(w:World)(h:BdAt w x t):
  Calls prog 259 #[.pointer (some ⟨x.b,0,none⟩),.int .i64 p,.int .i64 k] w fun e w'=>e=.returned (.int .i64 (gL x t p k:Int))/\BdAt w' x (eH x t p k)/\Kt (aD x) w w':=by
 have c3:=h.b3;have cl:=h.lc k hk;have ho:=h.o8;have H:=aA h;have hki:(k:Int)<((x.o+1:Nat):Int):=by omega
 have hk0:(0:Int)<=(k:Int):=by omega
 have hki2:(k:Int)<x.o+1:=by omega
 have hki3:k<x.o+1:=by omega
 have hkw:IntKind.i64.wrap (k:Int)=k:=by rw[IntKind.wrap_i64];omega
 have AD:=aA (show ∀ W,BdAt W x t->Calls prog 264 #[.pointer (some ⟨x.b,0,none⟩),.int .i64 p] W fun e w'=>e=.returned (.int .u64 ((ad x p:Nat):Int))/\w'=W from fun W hW=>pO x t p hp W hW);have H0:=aA (h.keep (Kt.refl nO w).drew);obtain⟨q,hq⟩:=xe (ad x p);have PU:=aA (UO x t p k hp hk w.drew H0.out);rw[<-hq] at AD PU;obtain⟨e0,he0⟩:=xe (nD x t p k);rw[<-he0] at PU;have hE:gL x t p k=if e0=0 then 0 else 9:=by rw[he0];rfl
 have hT:eH x t p k=if e0=0 then fN (cP (oB x t p k) p k 0) p k else oB x t p k:=by rw[he0];rfl
 rw[hE,hT];clear h hq he0 hE hT;have c3d:w.drew.cell? ⟨x.b,3,none⟩=some (.slice (some ⟨x.l,0,none⟩) (x.o+1) x.c):=c3;have cld:w.drew.cell? ⟨x.l,k,none⟩=some (.pointer (some ⟨x.L k,0,none⟩)):=cl;by_cases h0:e0=0
 ·rw[if_pos h0,if_pos h0];have h0i:(e0:Int)=0:=by omega
  have h0b:((e0:Int) != 0)=false:=by simp[h0i]
  clear h0;go_enter func259,ntmps259;go_wp2_with fail;go_region_held3 (fun w'=>w'.cell? ⟨x.b,3,none⟩=some (.slice (some ⟨x.l,0,none⟩) (x.o+1) x.c)/\w'.cell? ⟨x.l,k,none⟩=some (.pointer (some ⟨x.L k,0,none⟩))) (first|with_reducible exact⟨c3d,cld⟩|with_reducible exact⟨c32,cl2⟩) (first|(go_at_call 264;refine(AD.out _ H0.out).mono ?_;rintro e w1 ⟨rfl,hw1⟩;rw[hw1];clear hw1)|(go_at_call 287;refine PU.out.mono ?_;rintro e w2 ⟨rfl,hB,hK⟩;have H2:=aA hB;have K2:=aA (show Kt (aD x) w w2 from eN (kJ (Kt.refl nO w).drew) hK);have c32:=H2.out.b3;have cl2:=H2.out.lc k hk;clear hB hK))
  all_goals
   have c22:=H2.out.b2;clear c3 cl c3d cld c32 cl2 AD PU H0 h0b;go_wp2_with fail;refine(rI x _ p k 0 _ H2.out).mono ?_;rintro e w3 ⟨rfl,hB,hK⟩;have H3:=aA hB;have K3:=aA (eN K2.out hK);clear hB hK c22;go_wp2_with fail;refine(tG x _ (p:Int) (k:Int) _ H3.out).mono ?_;rintro e w4 ⟨rfl,hB,hK⟩;have H4:=aA hB;have K4:=aA (eN K3.out hK);clear hB hK;go_wp2_with fail;go_ret;exact⟨rfl,H4.out,K4.out⟩
 ·rw[if_neg h0,if_neg h0];have h0i:¬(e0:Int)=0:=by omega
  have h0b:((e0:Int) != 0)=true:=by simp[h0]
  clear h0;go_enter func259,ntmps259;go_wp2_with fail;go_region_held3 (fun w'=>w'.cell? ⟨x.b,3,none⟩=some (.slice (some ⟨x.l,0,none⟩) (x.o+1) x.c)/\w'.cell? ⟨x.l,k,none⟩=some (.pointer (some ⟨x.L k,0,none⟩))) (first|with_reducible exact⟨c3d,cld⟩|with_reducible exact⟨c32,cl2⟩) (first|(go_at_call 264;refine(AD.out _ H0.out).mono ?_;rintro e w1 ⟨rfl,hw1⟩;rw[hw1];clear hw1)|(go_at_call 287;refine PU.out.mono ?_;rintro e w2 ⟨rfl,hB,hK⟩;have H2:=aA hB;have K2:=aA (show Kt (aD x) w w2 from eN (kJ (Kt.refl nO w).drew) hK);have c32:=H2.out.b3;have cl2:=H2.out.lc k hk;clear hB hK))
  all_goals
   clear c3 cl c3d cld c32 cl2 AD PU H0;go_wp2_with fail;go_ret;exact⟨rfl,H2.out,K2.out⟩
def eC(x:Bx)(p tq:Nat):Nat->Bt->Bt×Nat×Nat
 | 0,t=>(t,tq,0)
 | d+1,t=>if gL x t (p+2 ^ (tq+d)) (tq+d)=0 then eC x p tq d (eH x t (p+2 ^ (tq+d)) (tq+d)) else (eH x t (p+2 ^ (tq+d)) (tq+d),tq+d+1,9)
def jU(x:Bx)(t:Bt)(p fr tq:Nat):Bt:=cP (eC x p tq (fr-tq) t).1 p (eC x p tq (fr-tq) t).2.1 2
def iR(x:Bx)(t:Bt)(p fr tq:Nat):Nat:=(eC x p tq (fr-tq) t).2.2
theorem ZG(x:Bx)(t:Bt)(p k:Nat):gL x t p k=0\/gL x t p k=9:=by
 unfold gL;split
 ·exact .inl rfl
 ·exact .inr rfl
def lJ(x:Bx)(p tq:Nat)(r:Bt×Nat×Nat)(w W:World)(F E:Nat):Prop:=
 ∃ t1,BdAt W x t1/\Kt (aD x) w W/\((E=0/\∃ d,F=tq+d/\eC x p tq d t1=r)\/(E=9/\r=(t1,F,9)))
theorem UG(x:Bx)(t:Bt)(p fr tq:Nat)(hp:p<=1024)(hft:tq<=fr)(hfr:fr<=x.o)(w:World)(h:BdAt w x t):
  Calls prog 208 #[.pointer (some ⟨x.b,0,none⟩),.int .i64 p,.int .i64 fr,.int .i64 tq] w fun e w'=>e=.returned (.int .i64 (iR x t p fr tq:Int))/\BdAt w' x (jU x t p fr tq)/\Kt (aD x) w w':=by
 have ho:=h.o8;obtain⟨r,hr⟩:=xe (eC x p tq (fr-tq) t);rw[show iR x t p fr tq=r.2.2 by rw[hr];rfl,show jU x t p fr tq=cP r.1 p r.2.1 2 by rw[hr];rfl];have H0:=aA (show lJ x p tq r w w fr 0 from⟨t,h,Kt.refl _ _,.inl ⟨rfl,fr-tq,by omega,hr.symm⟩⟩);clear h hr;go_enter func208,ntmps208;go_wp2_with fail;go_loopw [2,9] (fun i e W=>∃ F E:Nat,i=.int .i64 F/\e=.int .i64 E/\tq<=F/\F<=fr/\(E=0\/E=9)/\Hid (lJ x p tq r w W F E)) (fun i e _=>if intOf e=0 then (intOf i).toNat-tq+1 else 0)
 case atStart=>exact⟨fr,0,rfl,rfl,hft,Nat.le_refl _,.inl rfl,H0⟩
 case round=>
  obtain⟨F,E,rfl,rfl,h1,h2,h3,hC⟩:=hrel;clear H0;obtain⟨t1,hB,hK,hc⟩:=hC.out;have H1:=aA hB;have K1:=aA hK;have HC:=aA hc;clear hB hK hc hC;have fin:∀ E':Nat,((E'=0/\F=tq)\/E'=9)->E=E'->t1=r.1/\F=r.2.1/\E'=r.2.2:=fun E' h4 h5=>by
   subst h5;rcases HC.out with ⟨e1,d,e2,e3⟩|⟨e1,e2⟩
   ·have e4:d=0:=(by omega);subst e4;rw[<-e3];exact⟨rfl,e2,e1⟩
   ·rw[e2];exact⟨rfl,rfl,e1⟩
  by_cases h4:tq<F
  ·have h4i:(tq:Int)<F:=(by omega);rcases h3 with h3|h3
   ·obtain⟨k,hk⟩:∃ k,F=k+1:=⟨F-1,by omega⟩;obtain⟨z,hz⟩:=xe (2 ^ k);have hzi:(2:Int) ^ k=(z:Int):=(by rw[hz];simp);have hz1:z<=256:=(by rw[hz];exact Nat.pow_le_pow_right (n:=2) (by decide) (show k<=8 by omega));subst h3;subst hk;have EN:=aA (show Calls prog 259 #[.pointer (some ⟨x.b,0,none⟩),.int .i64 ((p:Int)+(z:Int)),.int .i64 k] wr fun e w'=>e=.returned (.int .i64 (gL x t1 (p+z) k:Int))/\BdAt w' x (eH x t1 (p+z) k)/\Kt (aD x) wr w' from tX x t1 (p+z) k (by omega) (by omega) wr H1.out);have HS:=aA (show ∀ W,Kt (aD x) wr W->BdAt W x (eH x t1 (p+z) k)->(gL x t1 (p+z) k=0->lJ x p tq r w W k 0)/\(gL x t1 (p+z) k=9->lJ x p tq r w W (k+1) 9)from fun W kW bW=>by
     rcases HC.out with ⟨e1,d,e2,e3⟩|⟨e1,e2⟩
     ·obtain⟨d',rfl⟩:∃ d',d=d'+1:=⟨d-1,by omega⟩;have ek:k=tq+d':=(by omega);rw[eC,<-ek,<-hz] at e3;refine⟨fun e=>?_,fun e=>?_⟩
      ·rw[if_pos e] at e3;exact⟨_,bW,eN K1.out kW,.inl ⟨rfl,d',ek,e3⟩⟩
      ·rw[if_neg (by omega)] at e3;exact⟨_,bW,eN K1.out kW,.inr ⟨rfl,e3.symm⟩⟩
     ·omega)
    have ET:=aA (ZG x t1 (p+z) k);obtain⟨E2,hE2⟩:=xe (gL x t1 (p+z) k);obtain⟨T2,hT2⟩:=xe (eH x t1 (p+z) k);rw[<-hE2] at EN HS ET;rw[<-hT2] at EN HS;clear hz hE2 hT2 fin HC;have hpz:IntKind.i64.wrap ((p:Int)+(z:Int))=((p+z:Nat):Int):=(by rw[IntKind.wrap_i64];omega);go_wp2_with fail;refine EN.out.mono ?_;rintro e w2 ⟨rfl,hB,hK⟩;have S2:=aA (HS.out w2 hK hB);clear hB hK EN HS;rcases ET.out with h5|h5
    ·subst h5;go_wp2_with fail;exact⟨⟨k,0,rfl,rfl,by omega,by omega,.inl rfl,S2.out.1 trivial⟩,by simp[intOf];omega⟩
    ·subst h5;go_wp2_with fail;exact⟨⟨k+1,9,by simp,rfl,by omega,by omega,.inr rfl,S2.out.2 trivial⟩,by simp[intOf]⟩
   ·subst h3;obtain⟨f1,f2,f3⟩:=fin 9 (.inr rfl) rfl;have c2:=H1.out.b2;have FT:=aA f1;have FF2:=aA f2;have FE:=aA f3;clear fin HC f1 f2 f3;go_wp2_with fail;refine(rI x t1 p F 2 _ H1.out).mono ?_;rintro e w3 ⟨rfl,hB,hK⟩;have D:=aA (show BdAt w3 x (cP r.1 p r.2.1 2)/\Kt (aD x) w w3 from⟨by rw[<-FT.out,<-FF2.out];exact hB,eN K1.out hK⟩);clear hB hK;go_wp2_with fail;go_ret;exact⟨eJ (by rw[<-FE.out];rfl),D.out⟩
  ·have h4i:¬(tq:Int)<F:=(by omega);rcases h3 with h3|h3
   ·subst h3;obtain⟨f1,f2,f3⟩:=fin 0 (.inl ⟨rfl,by omega⟩) rfl;have c2:=H1.out.b2;have FT:=aA f1;have FF2:=aA f2;have FE:=aA f3;clear fin HC f1 f2 f3;go_wp2_with fail;refine(rI x t1 p F 2 _ H1.out).mono ?_;rintro e w3 ⟨rfl,hB,hK⟩;have D:=aA (show BdAt w3 x (cP r.1 p r.2.1 2)/\Kt (aD x) w w3 from⟨by rw[<-FT.out,<-FF2.out];exact hB,eN K1.out hK⟩);clear hB hK;go_wp2_with fail;go_ret;exact⟨eJ (by rw[<-FE.out];rfl),D.out⟩
   ·subst h3;obtain⟨f1,f2,f3⟩:=fin 9 (.inr rfl) rfl;have c2:=H1.out.b2;have FT:=aA f1;have FF2:=aA f2;have FE:=aA f3;clear fin HC f1 f2 f3;go_wp2_with fail;refine(rI x t1 p F 2 _ H1.out).mono ?_;rintro e w3 ⟨rfl,hB,hK⟩;have D:=aA (show BdAt w3 x (cP r.1 p r.2.1 2)/\Kt (aD x) w w3 from⟨by rw[<-FT.out,<-FF2.out];exact hB,eN K1.out hK⟩);clear hB hK;go_wp2_with fail;go_ret;exact⟨eJ (by rw[<-FE.out];rfl),D.out⟩
def gU(x:Bx)(t:Bt)(k:Nat):Bt:={ t with f:=(M.popR x.bS x.n t.f (t.hd k)).1,hd:=kL t.hd k (M.popR x.bS x.n t.f (t.hd k)).2.1 }
def jO(x:Bx)(t:Bt)(k:Nat):Nat:=(M.popR x.bS x.n t.f (t.hd k)).2.2.2
theorem UF(x:Bx)(t:Bt)(k:Nat)(hk:k<=x.o)(w:World)(h:BdAt w x t):
  Calls prog 206 #[.pointer (some ⟨x.L k,0,none⟩)] w fun e w'=>∃ v:Nat,e=.returned (.tuple #[.int .u64 v,.int .i64 (jO x t k:Int)])/\BdAt w' x (gU x t k)/\Kt (aD x) w w':=by
 refine(M.Pop_any (x.L k) x.s x.a x.bS x.R x.lim x.n t.f (t.hd k) w (h.ls' k hk)).mono ?_;rintro e w' ⟨rfl,h2,h3⟩;exact⟨_,rfl,h.list hk h3 h2,tY hk h3⟩
theorem UN(x:Bx)(t:Bt)(k:Int)(hk:aC (x.o+1) k=false)(w:World)(h:BdAt w x t):
  Calls prog 163 #[.pointer (some ⟨x.b,0,none⟩),.int .i64 k] w fun e w'=>e=.returned (.tuple #[.int .u64 0,.int .i64 1])/\w'=w:=by
 have HS:=aA (oU x t k w h);rw[hk] at HS;go_enter func163,ntmps163;go_wp2_with fail;refine HS.out.mono ?_;rintro e w1 ⟨rfl,hw1⟩;rw[hw1];clear hw1;go_wp2_with fail;exact⟨rfl,.tuple #[.int .u64 0,.int .i64 1],by simp[results,results163,go_sem],rfl,rfl⟩
theorem sU(x:Bx)(t:Bt)(k:Nat)(hk:k<=x.o)(w:World)(h:BdAt w x t):
  Calls prog 203 #[.pointer (some ⟨x.b,0,none⟩),.int .i64 k] w fun e w'=>e=.returned (.bool true)/\w'=w:=by
 have HS:=oU x t (k:Int) w h;rw[show aC (x.o+1) (k:Int)=true by simp only[aC];exact decide_eq_true ⟨by omega,by omega⟩] at HS;exact HS
theorem ZF(x:Bx)(t:Bt)(k:Nat)(hk:k<=x.o)(hz:∀ a,k<=a->a<=x.o->t.hd a=0)(w:World)(h:BdAt w x t):
  Calls prog 163 #[.pointer (some ⟨x.b,0,none⟩),.int .i64 k] w fun e w'=>e=.returned (.tuple #[.int .u64 0,.int .i64 2])/\w'=w:=by
 have HS:=aA (sU x t k hk w h);have LE:=aA (zI x t k hk w h);have HN:=aA (show ∀ j:Nat,Least x t k j->Calls prog 203 #[.pointer (some ⟨x.b,0,none⟩),.int .i64 j] w fun e w'=>e=.returned (.bool false)/\w'=w from fun j hj=>by
  have hjo:¬j<=x.o:=fun e=>hj.lh e (hz j hj.lk e)
  have q:=oU x t (j:Int) w h;rw[show aC (x.o+1) (j:Int)=false by simp only[aC];exact decide_eq_false (fun e=>by omega)] at q;exact q)
 clear hz h;go_enter func163,ntmps163;go_wp2_with fail;refine HS.out.mono ?_;rintro e w1 ⟨rfl,hw1⟩;rw[hw1];clear hw1;go_wp2_with fail;refine LE.out.mono ?_;rintro e w1 ⟨j,rfl,hj,hw1⟩;rw[hw1];have HJ:=aA (HN.out j hj);clear hw1 hj;go_wp2_with fail;refine HJ.out.mono ?_;rintro e w1 ⟨rfl,hw1⟩;rw[hw1];clear hw1;go_wp2_with fail;exact⟨rfl,.tuple #[.int .u64 0,.int .i64 2],by simp[results,results163,go_sem],rfl,rfl⟩
def nC(x:Bx)(t:Bt)(q j k:Nat):Bt:=jU x (fN (gU x t j) q j) q j k
theorem UE(x:Bx)(t:Bt)(k j q:Nat)(hk:k<=x.o)(hL:Least x t k j)(hj:j<=x.o)(hq:t.hd j=ad x q)(hqn:q<t.m.n)(hin:M.In x.bS x.n (ad x q) 1)(hqj:q%2 ^ j=0)(hpop:jO x t j=0)(hcut:iR x (fN (gU x t j) q j) q j k=0)(w:World)(h:BdAt w x t):
  Calls prog 163 #[.pointer (some ⟨x.b,0,none⟩),.int .i64 k] w fun e w'=>e=.returned (.tuple #[.int .u64 ((ad x q:Nat):Int),.int .i64 0])/\BdAt w' x (nC x t q j k)/\Kt (aD x) w w':=by
 have ho:=h.o8;have hn1:=h.mp.n1;have hb:=h.end63;have c3:=h.b3;have cl:=h.lc j hj;have H:=aA h;have hji:(j:Int)<((x.o+1:Nat):Int):=by omega
 obtain⟨z,hz⟩:=xe (2 ^ j);have hzi:(2:Int) ^ j=(z:Int):=by rw[hz];simp
 have hz1 : 1<=z:=by rw[hz];exact Nat.pow_pos (by decide)
 have hz2:z<=256:=by rw[hz];exact Nat.pow_le_pow_right (n:=2) (by decide) (show j<=8 by omega)
 have hqz:(q:Int)%(z:Int)=0:=by rw[<-hz] at hqj;omega
 have hz0:¬(z:Int)=0:=by omega
 obtain⟨a,ha⟩:=xe (ad x q);have hal:a<18446744073709551616:=by rw[ha];unfold ad;unfold M.In at hin;omega
 have hoff:eX x a=4096*q:=by rw[ha];unfold eX ad;omega
 have hok:kB x t a:=by unfold kB;rw[hoff];exact⟨by omega,by omega⟩
 have hI:fU x t a=q:=by unfold fU;rw[if_pos hok,hoff];omega
 have hB:kU x t a=true:=by unfold kU;exact decide_eq_true ⟨hok,by rw[ha];exact hin⟩
 have PG:=aA (yE x t a hal w h);rw[hI,hB] at PG;have HD:=aA (M.Head_any (x.L j) x.s (t.hd j) w (h.ls j hj));rw[hq,<-ha] at HD;rw[<-ha];have HS:=aA (sU x t k hk w h);have HJ:=aA (sU x t j hj w h);have LE:=aA (show Calls prog 204 #[.pointer (some ⟨x.b,0,none⟩),.int .i64 k] w fun e w'=>e=.returned (.int .i64 j)/\w'=w from(zI x t k hk w h).mono (by
  rintro e w' ⟨j',rfl,hj',rfl⟩;have:j'=j:=by
   rcases Nat.lt_trichotomy j' j with e|e|e
   ·exact absurd (hL.lz j' hj'.lk e) (hj'.lh (by omega))
   ·exact e
   ·exact absurd (hj'.lz j hL.lk e) (hL.lh hj)
  subst this;exact⟨rfl,rfl⟩))
 have HPOP:=aA hpop;have HCUT:=aA hcut;have hjk:=hL.lk;clear h hz ha hoff hok hI hB hpop hcut hL hq hin hqj;go_enter func163,ntmps163;go_wp2_with fail;refine HS.out.mono ?_;rintro e w1 ⟨rfl,hw1⟩;rw[hw1];clear hw1;go_wp2_with fail;refine LE.out.mono ?_;rintro e w1 ⟨rfl,hw1⟩;rw[hw1];clear hw1;go_wp2_with fail;refine HJ.out.mono ?_;rintro e w1 ⟨rfl,hw1⟩;rw[hw1];clear hw1;go_wp2_with fail;refine HD.out.mono ?_;rintro e w1 ⟨rfl,hw1⟩;rw[hw1];clear hw1;go_wp2_with fail;refine PG.out.mono ?_;rintro e w1 ⟨rfl,hk1⟩;have K1:=aA hk1;have H1:=aA (H.out.keep hk1);have c31:=H1.out.b3;have cl1:=H1.out.lc j hj;clear hk1 c3 cl HS HJ HD PG LE;go_wp2_with fail;refine(UF x t j hj _ H1.out).mono ?_;rintro e w2 ⟨v,rfl,hB,hK⟩;rw[HPOP.out];have H2:=aA hB;have K2:=aA (eN (kJ K1.out) hK);clear hB hK c31 cl1;go_wp2_with fail;refine(tG x _ (q:Int) (j:Int) _ H2.out).mono ?_;rintro e w3 ⟨rfl,hB,hK⟩;have H3:=aA hB;have K3:=aA (eN K2.out hK);clear hB hK;go_wp2_with fail;refine(UG x _ q j k (by omega) hjk hj _ H3.out).mono ?_;rintro e w4 ⟨rfl,hB,hK⟩;rw[HCUT.out];have H4:=aA hB;have K4:=aA (eN K3.out hK);clear hB hK;go_wp2_with fail;exact⟨rfl,.tuple #[.int .u64 a,.int .i64 0],by simp[results,results163,go_sem],rfl,H4.out,K4.out⟩
theorem ZU(a b:Nat)(ha:a<4611686018427387904)(hb:b<4611686018427387904):bits .xor .i64 (a:Int) (b:Int)=((a ^^^ b:Nat):Int):=by
 have hx:a ^^^ b<2 ^ 62:=Nat.xor_lt_two_pow (by omega) (by omega);show IntKind.i64.wrap ((BitVec.ofInt 64 (a:Int) ^^^ BitVec.ofInt 64 (b:Int)).toNat:Int)=_
 rw[BitVec.toNat_xor,ofInt_u64 a (by omega),ofInt_u64 b (by omega),IntKind.wrap_i64];omega
theorem zdB(a b:Nat)(ha:a<4611686018427387904)(hb:b<4611686018427387904):bits .andNot .i64 (a:Int) (b:Int)=((a &&& (18446744073709551615-b):Nat):Int):=by
 have hx:a &&& (18446744073709551615-b)<=a:=Nat.and_le_left;show IntKind.i64.wrap ((BitVec.ofInt 64 (a:Int) &&& ~~~BitVec.ofInt 64 (b:Int)).toNat:Int)=_
 rw[BitVec.toNat_and,BitVec.toNat_not,ofInt_u64 a (by omega),ofInt_u64 b (by omega),IntKind.wrap_i64];have e : 2 ^ 64-1-b=18446744073709551615-b:=by omega
 rw[e];omega
theorem UM(b:Nat)(B:Bs)(m:Mp)(k i:Int)(w:World)(h:MpA w b B m):
  Calls prog 286 #[.pointer (some ⟨b,0,none⟩),.int .i64 k,.int .i64 i] w fun e w'=>e=.returned (.bool (hZ m k i))/\∃ r,w'=w.drewN r:=by
 cases hp:dA m k i with
 | false=>
  rw[show hZ m k i=false by simp[hZ,hp]];have HQ:=aA (fun q=>pP b B m k i (w.drewN q) (h.keep ((Kt.refl nO w).drewN q)));rw[show(aC m.o k && aC m.n i)=false from hp] at HQ;clear h hp;go_enter func286,ntmps286;go_wp2_with fail;go_quiet ((go_at_call 284;exact Calls.quiet_of_same (HQ.out _)))
  go_wp2_with fail;go_ret;exact⟨rfl,_,rfl⟩
 | true=>
  have hh:=hp;simp only[dA,Bool.and_eq_true] at hh;obtain⟨k,rfl,hk⟩:=gM hh.1;obtain⟨i,rfl,hi⟩:=gM hh.2;rw[show hZ m (k:Int) (i:Int)=cA (m.n/2 ^ (k+1)) (m.wd k) ((i/2 ^ (k+1):Nat):Int)by simp[hZ,hp,mO,mN]];have HQ:=aA (fun q=>pP b B m k i (w.drewN q) (h.keep ((Kt.refl nO w).drewN q)));rw[show(aC m.o (k:Int) && aC m.n (i:Int))=true from hp] at HQ;obtain⟨q,hq,cp⟩:=h.cp k hk;obtain⟨cq,c2⟩:=h.c2 hq;have HG:=aA (fun z=>mL (B.S k) (B.C k) _ (m.wd k) ((i/2 ^ (k+1):Nat):Int) (w.drewN z) ((h.set k hk).kept ((Kt.refl nO w).drewN z) (fun x=>x) (fun x=>x)));have hk8:k<8:=by have:=h.o8;omega
  have hi10:i<1024:=by have:=h.n1;omega
  have hki:(k:Int)<m.o:=by omega
  clear h hq hh hp;go_enter func286,ntmps286;go_wp2_with fail;go_quiet (first|(go_at_call 284;exact Calls.quiet_of_same (HQ.out _))|(go_at_call 222;exact Calls.quiet_of_same (HG.out _)))
  go_wp2_with fail;go_ret;exact⟨rfl,_,rfl⟩
theorem BC(x:Bx)(t:Bt)(p k:Int)(w:World)(h:BdAt w x t):
  Calls prog 298 #[.pointer (some ⟨x.b,0,none⟩),.int .i64 p,.int .i64 k] w fun e w'=>e=.returned (.bool (kC x t p k))/\∃ r,w'=w.drewN r:=by
 have c2:=h.b2;have H:=aA h;have GR:=aA (rM x t w h);clear h;by_cases h0:k<(x.o:Int)
 ·rw[show kC x t p k=hZ t.m k p by simp[kC,h0]];go_enter func298,ntmps298;go_wp2_with fail;refine GR.out.mono ?_;rintro e w1 ⟨rfl,rfl⟩;go_wp2_with fail;refine(UM x.m x.B t.m k p _ H.out.mp).mono ?_;rintro e w' ⟨rfl,hk⟩;have K:=aA hk;clear hk;go_wp2_with fail;go_ret;exact⟨cO (by simp),K.out⟩
 ·rw[show kC x t p k=false by simp[kC,h0]];go_enter func298,ntmps298;go_wp2_with fail;refine GR.out.mono ?_;rintro e w1 ⟨rfl,rfl⟩;go_wp2_with fail;go_ret;exact⟨rfl,0,rfl⟩
def cN(x:Bx)(t:Bt)(p k:Nat):Bt:={ t with f:=(M.removeR x.bS x.n t.f (t.hd k) (ad x p)).1,hd:=kL t.hd k (M.removeR x.bS x.n t.f (t.hd k) (ad x p)).2.1 }
def iO(x:Bx)(t:Bt)(p k:Nat):Nat:=(M.removeR x.bS x.n t.f (t.hd k) (ad x p)).2.2
theorem UD(x:Bx)(t:Bt)(p k:Nat)(hp:p<=4000)(hk:k<=x.o)(w:World)(h:BdAt w x t):
  Calls prog 257 #[.pointer (some ⟨x.L k,0,none⟩),.int .u64 ((ad x p:Nat):Int)] w fun e w'=>e=.returned (.int .i64 (iO x t p k:Int))/\BdAt w' x (cN x t p k)/\Kt (aD x) w w':=by
 have hb:=h.end63;refine(M.Remove_any (x.L k) x.s x.a x.bS x.R x.lim x.n t.f (t.hd k) (ad x p) (by unfold ad;omega) w (h.ls' k hk)).mono ?_;rintro e w' ⟨rfl,h2,h3⟩;exact⟨rfl,h.list hk h3 h2,tY hk h3⟩
theorem zeo{P:Program}{c:Code}{a:Act}{w:World}{Q:Exit->Act->World->Prop}(l:Nat)(J:Act->World->Prop)(μ : Act->World->Nat)(h0:J a w)
  (pass:∀ a w,J a w->c.wp P (Exit.jump l (fun a' w'=>J a' w'/\μ a' w'<μ a w) Q) a w):(Code.scope ((Code.label l).seq c)).wp P Q a w:=
 wp_scope_jumps l J μ (rest:=Code.skip.seq c) (by simp[findLabel]) (wp_seq (wp_label (Code.wp_mono (fun e a w h=>by
  cases e with
  | goto l'=>exact⟨h.1,h.2.1⟩
  | _=>exact h) (pass a w h0)))) (fun a w h=>wp_seq (wp_skip (pass a w h)))
def aS(p k:Nat):Nat:=p ^^^ 2 ^ k
def cZ(p k:Nat):Nat:=p &&& (18446744073709551615-2 ^ k)
def gO(x:Bx):Nat->Bt->Nat->Nat->Bt×Nat×Nat
 | 0,t,p,k=>(t,p,k)
 | d+1,t,p,k=>if kC x t (p:Int) (k:Int)=true then (if iO x t (aS p k) k=0 then gO x d (fN (cN x t (aS p k) k) (p:Int) (k:Int)) (cZ p k) (k+1) else (cN x t (aS p k) k,p,k)) else (t,p,k)
def sD(x:Bx)(r:Bt×Nat×Nat)(w W:World)(p k:Nat):Prop:=∃ t1,BdAt W x t1/\Kt (aD x) w W/\gO x (x.o-k) t1 p k=r
theorem UC(x:Bx)(t:Bt)(p0 k0:Nat)(hp0:p0<=1024)(hk0:k0<=x.o)(w:World)(h:BdAt w x t):
  Calls prog 291 #[.pointer (some ⟨x.b,0,none⟩),.int .i64 p0,.int .i64 k0] w fun e w'=>∃ tr pr kr,(tr,pr,kr)=gO x (x.o-k0) t p0 k0/\e=.returned (.int .i64 (gL x tr pr kr:Int))/\BdAt w' x (eH x tr pr kr)/\Kt (aD x) w w':=by
 have ho:=h.o8;obtain⟨r,hr⟩:=xe (gO x (x.o-k0) t p0 k0);rw[<-hr];have H0:=aA (show sD x r w w p0 k0 from⟨t,h,Kt.refl _ _,hr.symm⟩);clear h hr;go_enter func291,ntmps291;go_wp2_with fail;refine zeo 0 (fun a' W=>∃ (p k:Nat) (u7 u8 u9 u10 u11 u12 u13 u14 u15 u16 u17 u18 u19 u20 u21 u22 u23 u24 u25 u26 u27 u28 u29 u30 u31 u32 u33 u34 u35 u36 u37 u38 u39 u40 u41:Value),a'={ tmps:=#[.pointer (some ⟨x.b,0,none⟩),.int .i64 p,.int .i64 k,undef,undef,undef,.int .i64 0,u7,u8,u9,u10,u11,u12,u13,u14,u15,u16,u17,u18,u19,u20,u21,u22,u23,u24,u25,u26,u27,u28,u29,u30,u31,u32,u33,u34,u35,u36,u37,u38,u39,u40,u41],defers:=[] }/\k<=x.o/\p<=1024/\Hid (sD x r w W p k)) (fun a' _=>x.o-(intOf (a'.tmps.getD 2 undef)).toNat) ?_ ?_
 ·exact⟨p0,k0,_,_,_,_,_,_,_,_,_,_,_,_,_,_,_,_,_,_,_,_,_,_,_,_,_,_,_,_,_,_,_,_,_,_,_,rfl,hk0,hp0,H0⟩
 ·rintro a' wr ⟨p,k,u7,u8,u9,u10,u11,u12,u13,u14,u15,u16,u17,u18,u19,u20,u21,u22,u23,u24,u25,u26,u27,u28,u29,u30,u31,u32,u33,u34,u35,u36,u37,u38,u39,u40,u41,rfl,hk,hp,hJ⟩;obtain⟨t1,hB,hK,hc⟩:=hJ.out;have H1:=aA hB;have K1:=aA hK;have HC:=aA hc;clear hB hK hc hJ H0;have hk0:(0:Int)<=(k:Int):=by omega
  have hki:(k:Int)<((x.o+1:Nat):Int):=by omega
  have hki2:(k:Int)<x.o+1:=by omega
  have hki3:k<x.o+1:=by omega
  have hkw:IntKind.i64.wrap (k:Int)=k:=by rw[IntKind.wrap_i64];omega
  obtain⟨z,hz⟩:=xe (2 ^ k);have hzi:(2:Int) ^ k=(z:Int):=by rw[hz];simp
  have hz2:z<=256:=by rw[hz];exact Nat.pow_le_pow_right (n:=2) (by decide) (show k<=8 by omega)
  have hzw:IntKind.i64.wrap (z:Int)=z:=by rw[IntKind.wrap_i64];omega
  obtain⟨q,hq⟩:=xe (aS p k);obtain⟨lo,hlo⟩:=xe (cZ p k);have hxor:bits .xor .i64 (p:Int) (z:Int)=q:=by rw[ZU p z (by omega) (by omega),hq,aS,hz]
  have hand:bits .andNot .i64 (p:Int) (z:Int)=lo:=by rw[zdB p z (by omega) (by omega),hlo,cZ,hz]
  have hq4:q<=4000:=by
   have:q<2 ^ 11:=by rw[hq,aS,<-hz];exact Nat.xor_lt_two_pow (by omega) (by omega)
   omega
  have hlp:lo<=p:=by rw[hlo];exact Nat.and_le_left
  have c3:=H1.out.b3;have cl:=H1.out.lc k hk;have AQ:=aA (fun n=>BC x t1 (p:Int) (k:Int) (wr.drewN n) (H1.out.keep ((Kt.refl nO wr).drewN n)));obtain⟨al,hal⟩:=xe (kC x t1 (p:Int) (k:Int));rw[<-hal] at AQ
  cases al with
  | false=>
   have HE:=aA (show r=(t1,p,k)by
    rw[<-HC.out]
    cases hdd:x.o-k with
    | zero=>rfl
    | succ d=>rw[gO,<-hal,if_neg (by decide)])
   clear hal hq hlo HC;go_wp2_with fail;go_quiet ((go_at_call 298;exact Calls.quiet_of (AQ.out _)))
   have H2:=aA (H1.out.keep ((Kt.refl nO wr).drewN nq));have K2:=aA (eN K1.out (kJ ((Kt.refl nO wr).drewN nq)));generalize wr.drewN nq=W2 at *;go_wp2_with fail;refine(tX x t1 p k (by omega) hk _ H2.out).mono ?_;rintro e w3 ⟨rfl,hB,hK⟩;have D:=aA (And.intro hB (eN K2.out hK));clear hB hK;go_wp2_with fail;simp only[Exit.jump];go_ret;exact⟨t1,p,k,HE.out.symm,rfl,D.out⟩
  | true=>
   have hko:k<x.o:=by
    have e:=hal.symm;unfold kC at e;simp only[Bool.and_eq_true,decide_eq_true_eq] at e;omega
   obtain⟨d,hd⟩:∃ d,x.o-k=d+1:=⟨x.o-k-1,by omega⟩;have HE:=aA (show r=if iO x t1 q k=0 then gO x d (fN (cN x t1 q k) (p:Int) (k:Int)) lo (k+1) else (cN x t1 q k,p,k)by
    rw[<-HC.out,hd,gO,<-hal,if_pos rfl,<-hq,<-hlo])
   have HDD:=aA (show d=x.o-(k+1)by omega);have AL:=aA (show Calls prog 298 #[.pointer (some ⟨x.b,0,none⟩),.int .i64 p,.int .i64 k] wr.drew fun e w'=>e=.returned (.bool true)/\Hid (BdAt w' x t1/\Kt nO wr w')from(BC x t1 (p:Int) (k:Int) wr.drew (H1.out.keep (Kt.refl nO wr).drew)).mono (by
    rintro e w' ⟨rfl,r',rfl⟩;rw[<-hal];exact⟨rfl,H1.out.keep (((Kt.refl nO wr).drew).drewN r'),((Kt.refl nO wr).drew).drewN r'⟩))
   have ADR:=aA (show ∀ W,BdAt W x t1->Calls prog 264 #[.pointer (some ⟨x.b,0,none⟩),.int .i64 q] W fun e w'=>e=.returned (.int .u64 ((ad x q:Nat):Int))/\w'=W from fun W hW=>pO x t1 q hq4 W hW);have REM:=aA (fun W (hW:BdAt W x t1)=>UD x t1 q k hq4 hk W hW);obtain⟨a,ha⟩:=xe (ad x q);rw[<-ha] at ADR REM;obtain⟨e0,he0⟩:=xe (iO x t1 q k);rw[<-he0] at HE REM;clear hal hq hlo HC hd AQ ha he0 hz;have c3d:wr.drew.cell? ⟨x.b,3,none⟩=some (.slice (some ⟨x.l,0,none⟩) (x.o+1) x.c):=c3;have cld:wr.drew.cell? ⟨x.l,k,none⟩=some (.pointer (some ⟨x.L k,0,none⟩)):=cl;by_cases h0:e0=0
   ·have h0i:(e0:Int)=0:=(by omega);have h0b:((e0:Int) == 0)=true:=(by simp[h0i]);rw[if_pos h0] at HE;clear h0;go_wp2_with fail;go_region_held3 (fun w'=>w'.cell? ⟨x.b,3,none⟩=some (.slice (some ⟨x.l,0,none⟩) (x.o+1) x.c)/\w'.cell? ⟨x.l,k,none⟩=some (.pointer (some ⟨x.L k,0,none⟩))) (first|with_reducible exact⟨c3d,cld⟩|with_reducible exact⟨c31,cl1⟩|with_reducible exact⟨c32,cl2⟩) (first|(go_at_call 298;refine AL.out.mono ?_;rintro e w1 ⟨rfl,hD⟩;have H2:=aA hD.out.1;have K2:=aA (eN K1.out (kJ hD.out.2));have c31:=H2.out.b3;have cl1:=H2.out.lc k hk;clear hD)|(go_at_call 264;(try rw[hzw]);(try rw[hxor]);refine(ADR.out _ H2.out).mono ?_;rintro e w2 ⟨rfl,hw2⟩;rw[hw2];clear hw2)|(go_at_call 257;refine(REM.out _ H2.out).mono ?_;rintro e w3 ⟨rfl,hB,hK⟩;have H3:=aA hB;have K3:=aA (eN K2.out hK);have c32:=H3.out.b3;have cl2:=H3.out.lc k hk;clear hB hK))
    all_goals
     clear c3 cl c3d cld c31 cl1 c32 cl2 AL ADR REM h0b;go_wp2_with fail;refine(tG x _ (p:Int) (k:Int) _ H3.out).mono ?_;rintro e w4 ⟨rfl,hB,hK⟩;have N4:=aA (show sD x r w w4 lo (k+1)from⟨_,hB,eN K3.out hK,by rw[<-HDD.out];exact HE.out.symm⟩);clear hB hK;go_wp2_with fail;go_step3
     exact⟨rfl,⟨lo,k+1,_,_,_,_,_,_,_,_,_,_,_,_,_,_,_,_,_,_,_,_,_,_,_,_,_,_,_,_,_,_,_,_,_,_,_,rfl,by omega,by omega,N4⟩,by simp[intOf];omega⟩
   ·have h0i:¬(e0:Int)=0:=(by omega);have h0b:((e0:Int) == 0)=false:=beq_eq_false_iff_ne.2 h0i;rw[if_neg h0] at HE;clear h0;go_wp2_with fail;go_region_held3 (fun w'=>w'.cell? ⟨x.b,3,none⟩=some (.slice (some ⟨x.l,0,none⟩) (x.o+1) x.c)/\w'.cell? ⟨x.l,k,none⟩=some (.pointer (some ⟨x.L k,0,none⟩))) (first|with_reducible exact⟨c3d,cld⟩|with_reducible exact⟨c31,cl1⟩|with_reducible exact⟨c32,cl2⟩) (first|(go_at_call 298;refine AL.out.mono ?_;rintro e w1 ⟨rfl,hD⟩;have H2:=aA hD.out.1;have K2:=aA (eN K1.out (kJ hD.out.2));have c31:=H2.out.b3;have cl1:=H2.out.lc k hk;clear hD)|(go_at_call 264;(try rw[hzw]);(try rw[hxor]);refine(ADR.out _ H2.out).mono ?_;rintro e w2 ⟨rfl,hw2⟩;rw[hw2];clear hw2)|(go_at_call 257;refine(REM.out _ H2.out).mono ?_;rintro e w3 ⟨rfl,hB,hK⟩;have H3:=aA hB;have K3:=aA (eN K2.out hK);have c32:=H3.out.b3;have cl2:=H3.out.lc k hk;clear hB hK))
    all_goals
     clear c3 cl c3d cld c31 cl1 c32 cl2 AL ADR REM h0b;go_wp2_with fail;refine(tX x _ p k (by omega) hk _ H3.out).mono ?_;rintro e w5 ⟨rfl,hB,hK⟩;have D:=aA (And.intro hB (eN K3.out hK));clear hB hK;go_wp2_with fail;simp only[Exit.jump];go_ret;exact⟨_,p,k,HE.out.symm,rfl,D.out⟩
end Go.Proofs.YtkfmheelhinjdaaGreatDoor
