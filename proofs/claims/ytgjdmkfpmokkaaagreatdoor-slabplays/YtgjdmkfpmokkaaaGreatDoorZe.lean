import Derived.Test.YtgjdmkfpmokkaaaGreatDoorZd
import Derived.Test.YtgjdmkfpmokkaaaGreatDoorZb
import Derived.ScopeJumps
set_option maxRecDepth 1000000
set_option maxHeartbeats 80000000
namespace Go.Proofs.YtgjdmkfpmokkaaaGreatDoor
open Go.RowKit
set_option linter.unusedVariables false
theorem toK{S:Nat→Prop}{w w':World}(h:M.Kt S w w'):Kt S w w':=⟨h.os,h.tape,h.output,h.size,h.block⟩
theorem ofK{S:Nat→Prop}{w w':World}(h:Kt S w w'):M.Kt S w w':=⟨h.os,h.tape,h.output,h.size,h.block⟩
structure Bx where
 b:Nat
 s:Nat
 a:Option Nat
 m:Nat
 B:Bs
 l:Nat
 c:Nat
 L:Nat→Nat
 base:Nat
 R:Nat
 lim:Nat
 n:Nat
 o:Nat
 P:Nat→Option Pg
structure Bt where
 f:Nat→Nat
 m:Mp
 hd:Nat→Nat
def uph(h:Nat→Nat)(k x:Nat):Nat→Nat:=fun j=>if j=k then x else h j
structure BdAt(w:World)(x:Bx)(t:Bt):Prop where
 sp:M.SpA w x.s x.a x.base x.R x.lim x.n t.f
 mp:MpA w x.m x.B t.m
 ls:∀ k,k≤x.o→M.ListAt w (x.L k) x.s (t.hd k)
 bs:w.heap[x.b]?=some (.cells #[.int .u64 (x.base:Int),.pointer (some ⟨x.s,0,none⟩),.pointer (some ⟨x.m,0,none⟩),.slice (some ⟨x.l,0,none⟩) (x.o+1) x.c] 180 (0,0))
 lr:∃ cs,w.heap[x.l]?=some (.cells cs 177 (0,0))∧∀ k,k≤x.o→cs[k]?=some (.pointer (some ⟨x.L k,0,none⟩))
 mo:t.m.o=x.o
 iL:∀ i j,i≤x.o→j≤x.o→x.L i=x.L j→i=j
 hR:x.R=4096*2 ^ x.o
theorem BdAt.o8{w x t}(h:BdAt w x t):x.o≤8:=by have:=h.mp.o8;rw[h.mo] at this;exact this
def bown(x:Bx):Nat→Prop:=fun y=>M.own x.s x.a y∨mown x.m x.B x.o y∨∃ k,k≤x.o∧y=x.L k
theorem zdd{w:World}{b:Nat}{B:Bs}{m:Mp}(h:MpA w b B m){x:Nat}(hx:mown b B m.o x):∃ cs t z,w.heap[x]?=some (.cells cs t z)∧(t=119∨t=49∨t=190∨t=217∨t=24):=by
 rcases hx with rfl|hx|hx|⟨k,hk,rfl|rfl⟩
 ·obtain⟨cq,hb,_⟩:=h.hb;exact⟨_,_,_,hb,.inl rfl⟩
 ·have hr:=h.row;rw[hx] at hr;obtain⟨cs,hg,_⟩:=hr;exact⟨_,_,_,hg,.inr (.inl rfl)⟩
 ·obtain⟨cq,_,hp⟩:=h.hb;rw[hx] at hp;obtain⟨cs,hg,_⟩:=hp;exact⟨_,_,_,hg,.inr (.inr (.inl rfl))⟩
 ·exact⟨_,_,_,(h.set k hk).hb,.inr (.inr (.inr (.inl rfl)))⟩
 ·exact⟨_,_,_,(h.set k hk).hc,.inr (.inr (.inr (.inr rfl)))⟩
theorem zby{w:World}{s:Nat}{a:Option Nat}{base R lim n:Nat}{f:Nat→Nat}(h:M.SpA w s a base R lim n f){x:Nat}(hx:M.own s a x):∃ cs t z,w.heap[x]?=some (.cells cs t z)∧(t=152∨t=5):=by
 obtain⟨cap,hb,hr⟩:=h.ex;rcases hx with rfl|hx
 ·exact⟨_,_,_,hb,.inl rfl⟩
 ·rw[hx] at hr;obtain⟨_,rs,_,hg,_⟩:=hr;exact⟨_,_,_,hg,.inr rfl⟩
theorem zcb{w:World}{b:Nat}{B:Bs}{m:Mp}{s:Nat}{a:Option Nat}{base R lim n:Nat}{f:Nat→Nat}(h:MpA w b B m)(k:M.SpA w s a base R lim n f){x:Nat}(hx:mown b B m.o x)(hy:M.own s a x):False:=by
 obtain⟨cs,t,z,h1,h2⟩:=zdd h hx;obtain⟨cs',t',z',k1,k2⟩:=zby k hy;rw[h1] at k1
 cases k1
 rcases h2 with e|e|e|e|e <;> rcases k2 with e'|e' <;> rw[e] at e' <;> exact absurd e' (by decide)
theorem zd7{w:World}{b:Nat}{B:Bs}{m:Mp}{c s hd:Nat}(h:MpA w b B m)(k:M.ListAt w c s hd)(hx:mown b B m.o c):False:=by
 obtain⟨cs,t,z,h1,h2⟩:=zdd h hx;have k1:=k.hc;rw[h1] at k1
 cases k1
 rcases h2 with e|e|e|e|e <;> exact absurd e (by decide)
theorem zdH{w:World}{s:Nat}{a:Option Nat}{base R lim n:Nat}{f:Nat→Nat}{c s' hd:Nat}(h:M.SpA w s a base R lim n f)(k:M.ListAt w c s' hd)(hx:M.own s a c):False:=by
 obtain⟨cs,t,z,h1,h2⟩:=zby h hx;have k1:=k.hc;rw[h1] at k1
 cases k1
 rcases h2 with e|e <;> exact absurd e (by decide)
theorem BdAt.nb{w x t}(h:BdAt w x t):¬bown x x.b:=by
 rintro (hx|hx|⟨k,hk,e⟩)
 ·obtain⟨cs,t',z,h1,h2⟩:=zby h.sp hx;rw[h.bs] at h1
  cases h1
  rcases h2 with e|e <;> exact absurd e (by decide)
 ·rw[←h.mo] at hx;obtain⟨cs,t',z,h1,h2⟩:=zdd h.mp hx;rw[h.bs] at h1
  cases h1
  rcases h2 with e|e|e|e|e <;> exact absurd e (by decide)
 ·exact absurd e (zag h.bs (h.ls k hk).hc (by decide))
theorem BdAt.nl{w x t}(h:BdAt w x t):¬bown x x.l:=by
 obtain⟨cs0,hl,_⟩:=h.lr;rintro (hx|hx|⟨k,hk,e⟩)
 ·obtain⟨cs,t',z,h1,h2⟩:=zby h.sp hx;rw[hl] at h1
  cases h1
  rcases h2 with e|e <;> exact absurd e (by decide)
 ·rw[←h.mo] at hx;obtain⟨cs,t',z,h1,h2⟩:=zdd h.mp hx;rw[hl] at h1
  cases h1
  rcases h2 with e|e|e|e|e <;> exact absurd e (by decide)
 ·exact absurd e (zag hl (h.ls k hk).hc (by decide))
theorem BdAt.kept{w w' x t}{S:Nat→Prop}(h:BdAt w x t)(k:Kt S w w')(hS:∀ y,bown x y∨y=x.b∨y=x.l→¬S y):BdAt w' x t:=by
 refine⟨h.sp.kept (ofK k) (fun y hy=>hS y (.inl (.inl hy))),h.mp.kept k (fun y hy=>hS y (.inl (.inr (.inl (h.mo▸hy))))),fun i hi=>(h.ls i hi).kept (ofK k) (hS _ (.inl (.inr (.inr ⟨i,hi,rfl⟩)))),(k.block _ (lH h.bs) (hS _ (.inr (.inl rfl)))).trans h.bs,?_,h.mo,h.iL,h.hR⟩;obtain⟨cs,hl,hc⟩:=h.lr;exact⟨cs,(k.block _ (lH hl) (hS _ (.inr (.inr rfl)))).trans hl,hc⟩
theorem BdAt.keep{w w' x t}(h:BdAt w x t)(k:Kt nO w w'):BdAt w' x t:=h.kept k (fun _ _ e=>e)
theorem BdAt.map{w w' x t}{m':Mp}(h:BdAt w x t)(k:Kt (mown x.m x.B t.m.o) w w')(hm:MpA w' x.m x.B m')(ho:m'.o=t.m.o):BdAt w' x { t with m:=m' }:=by
 have nb:=h.nb;have nl:=h.nl;refine⟨h.sp.kept (ofK k) (fun y hy e=>zcb h.mp h.sp e hy),hm,fun i hi=>(h.ls i hi).kept (ofK k) (fun e=>zd7 h.mp (h.ls i hi) e),(k.block _ (lH h.bs) (fun e=>nb (.inr (.inl (h.mo▸e))))).trans h.bs,?_,ho.trans h.mo,h.iL,h.hR⟩;obtain⟨cs,hl,hc⟩:=h.lr;exact⟨cs,(k.block _ (lH hl) (fun e=>nl (.inr (.inl (h.mo▸e))))).trans hl,hc⟩
theorem BdAt.list{w w' x t}{f':Nat→Nat}{i hd':Nat}(h:BdAt w x t)(hi:i≤x.o)(k:M.Kt (M.lown (x.L i) x.s x.a) w w')(hl:M.LS w' (x.L i) x.s x.a x.base x.R x.lim x.n f' hd'):BdAt w' x { t with f:=f',hd:=uph t.hd i hd' }:=by
 have nb:=h.nb;have nl:=h.nl;have kk:=toK k;refine⟨hl.s,h.mp.kept kk (fun y hy e=>?_),fun j hj=>?_,(kk.block _ (lH h.bs) (fun e=>nb (e.elim (fun e=>.inr (.inr ⟨i,hi,e⟩)) (fun e=>.inl e)))).trans h.bs,?_,h.mo,h.iL,h.hR⟩
 ·rcases e with rfl|e
  ·exact zd7 h.mp (h.ls i hi) hy
  ·exact zcb h.mp h.sp hy e
 ·show M.ListAt w' (x.L j) x.s (uph t.hd i hd' j)
  unfold uph;by_cases e:j=i
  ·subst e;rw[if_pos rfl];exact hl.l
  ·rw[if_neg e];refine(h.ls j hj).kept k (fun e2=>?_);rcases e2 with e2|e2
   ·exact e (h.iL j i hj hi e2)
   ·exact zdH h.sp (h.ls j hj) e2
 ·obtain⟨cs,hr,hc⟩:=h.lr;exact⟨cs,(kk.block _ (lH hr) (fun e=>nl (e.elim (fun e=>.inr (.inr ⟨i,hi,e⟩)) (fun e=>.inl e)))).trans hr,hc⟩
theorem BdAt.ls'{w x t}(h:BdAt w x t)(i:Nat)(hi:i≤x.o):M.LS w (x.L i) x.s x.a x.base x.R x.lim x.n t.f (t.hd i):=⟨h.sp,h.ls i hi⟩
theorem BdAt.b0{w x t}(h:BdAt w x t):w.cell? ⟨x.b,0,none⟩=some (.int .u64 (x.base:Int)):=by simp[World.cell?,h.bs]
theorem BdAt.b1{w x t}(h:BdAt w x t):w.cell? ⟨x.b,1,none⟩=some (.pointer (some ⟨x.s,0,none⟩)):=by simp[World.cell?,h.bs]
theorem BdAt.b2{w x t}(h:BdAt w x t):w.cell? ⟨x.b,2,none⟩=some (.pointer (some ⟨x.m,0,none⟩)):=by simp[World.cell?,h.bs]
theorem BdAt.b3{w x t}(h:BdAt w x t):w.cell? ⟨x.b,3,none⟩=some (.slice (some ⟨x.l,0,none⟩) (x.o+1) x.c):=by simp[World.cell?,h.bs]
theorem BdAt.lc{w x t}(h:BdAt w x t)(k:Nat)(hk:k≤x.o):w.cell? ⟨x.l,k,none⟩=some (.pointer (some ⟨x.L k,0,none⟩)):=by
 obtain⟨cs,hl,hc⟩:=h.lr;simp[World.cell?,hl,hc k hk]
theorem zf7{x:Bx}{w w':World}(k:Kt (mown x.m x.B x.o) w w'):Kt (bown x) w w':=k.mono (fun y _ e=>.inr (.inl e))
theorem zde{x:Bx}{w w':World}{i:Nat}(hi:i≤x.o)(k:M.Kt (M.lown (x.L i) x.s x.a) w w'):Kt (bown x) w w':=(toK k).mono (fun y _ e=>e.elim (fun e=>.inr (.inr ⟨i,hi,e⟩)) (fun e=>.inl e))
theorem zar{x:Bx}{w w':World}(k:Kt nO w w'):Kt (bown x) w w':=k.mono (fun _ _ e=>e.elim)
theorem bwT{x:Bx}{a b c:World}(h:Kt (bown x) a b)(k:Kt (bown x) b c):Kt (bown x) a c:=h.trans k (fun _ _ e=>e) (fun _ _ e=>e)
theorem zhZ(b:Nat)(B:Bs)(m:Mp)(k i:Int)(w:World)(h:MpA w b B m):
  Calls Tryz.prog 149 #[.pointer (some ⟨b,0,none⟩),.int .i64 k,.int .i64 i] w fun e w'=>e=.returned (.tuple #[.bool (zcl (zbg m k i) k i),.int .i64 (zi1 m k i)])∧MpA w' b B (zbg m k i)∧Kt (mown b B m.o) w w':=by
 cases hp:hasP m k i with
 | false=>
  have e1:zbg m k i=m:=by simp[zbg,hp]
  rw[show zi1 m k i=1 by simp[zi1,hp],e1,show zcl m k i=false by simp[zcl,hp]];refine(zlW b B m k i w h hp).mono ?_;rintro e w' ⟨rfl,hk⟩;exact⟨rfl,h.keep hk,hk.mono (fun _ _ e=>e.elim)⟩
 | true=>
  have h1:inR m.o k=true∧inR m.n i=true:=by unfold hasP at hp;exact Bool.and_eq_true_iff.1 hp
  obtain⟨a,rfl,ha⟩:=zav h1.1;obtain⟨j,rfl,hj⟩:=zav h1.2;have e1:zbg m (a:Int) (j:Int)={ m with wd:=upw m.wd a (zcK (m.n/2 ^ (a+1)) (m.wd a) ((j/2 ^ (a+1):Nat):Int)) }:=by simp[zbg,hp,prL,prN]
  rw[show zi1 m (a:Int) (j:Int)=0 by simp[zi1,hp],e1,show zcl { m with wd:=upw m.wd a (zcK (m.n/2 ^ (a+1)) (m.wd a) ((j/2 ^ (a+1):Nat):Int)) } (a:Int) (j:Int)=inS (m.n/2 ^ (a+1)) (zcK (m.n/2 ^ (a+1)) (m.wd a) ((j/2 ^ (a+1):Nat):Int)) ((j/2 ^ (a+1):Nat):Int)by
   unfold zcl;rw[show hasP { m with wd:=upw m.wd a (zcK (m.n/2 ^ (a+1)) (m.wd a) ((j/2 ^ (a+1):Nat):Int)) } (a:Int) (j:Int)=true from hp];simp[prL,prN,upw]]
  exact zlX b B m a j w h ha hj
theorem BdAt.end63{w x t}(h:BdAt w x t) : 1≤x.base∧x.base+x.n≤9223372036854775808:=⟨h.sp.cfg.b1,h.sp.end_le⟩
theorem za9(x:Bx)(t:Bt)(p:Nat)(hp:p≤4000)(w:World)(h:BdAt w x t):
  Calls Tryz.prog 153 #[.pointer (some ⟨x.b,0,none⟩),.int .i64 (p:Int)] w fun e w'=>e=.returned (.int .u64 ((x.base+4096*p:Nat):Int))∧w'=w:=by
 have c0:=h.b0;obtain⟨q,hq⟩:=xe (x.base+4096*p);have hb:=h.end63;have hpw:IntKind.u64.wrap (p:Int)=(p:Int):=by rw[wrap_u64];omega
 have hmw:IntKind.u64.wrap ((p:Int)*4096)=(p:Int)*4096:=by rw[wrap_u64];omega
 have haw:IntKind.u64.wrap ((x.base:Int)+(p:Int)*4096)=(q:Int):=by rw[wrap_u64];omega
 rw[←hq];clear hq;go_enter Tryz.func153,Tryz.ntmps153;go_wp2_with fail;go_ret;exact⟨zaM (by omega),rfl⟩
theorem zai(x:Bx)(t:Bt)(w:World)(h:BdAt w x t):
  Calls Tryz.prog 154 #[.pointer (some ⟨x.b,0,none⟩)] w fun e w'=>e=.returned (.int .i64 (x.o:Int))∧w'=w:=by
 have c3:=h.b3;have ho:=h.o8;go_enter Tryz.func154,Tryz.ntmps154;go_wp2_with fail;go_ret;exact⟨zaM (by omega),rfl⟩
theorem zcc(x:Bx)(t:Bt)(i:Int)(w:World)(h:BdAt w x t):
  Calls Tryz.prog 108 #[.pointer (some ⟨x.b,0,none⟩),.int .i64 i] w fun e w'=>e=.returned (.bool (inR (x.o+1) i))∧w'=w:=by
 have c3:=h.b3;have ho:=h.o8;by_cases h0 : 0≤i
 ·by_cases h1:i<((x.o+1:Nat):Int)
  ·rw[show inR (x.o+1) i=true by simp only[inR];exact decide_eq_true ⟨h0,h1⟩];go_enter Tryz.func108,Tryz.ntmps108;go_wp2_with fail;go_ret;exact⟨zac (by simp;omega),rfl⟩
  ·rw[show inR (x.o+1) i=false by simp only[inR];exact decide_eq_false (fun e=>h1 e.2)];go_enter Tryz.func108,Tryz.ntmps108;go_wp2_with fail;go_ret;exact⟨zac (by simp;omega),rfl⟩
 ·rw[show inR (x.o+1) i=false by simp only[inR];exact decide_eq_false (fun e=>h0 e.1)];go_enter Tryz.func108,Tryz.ntmps108;go_wp2_with fail;go_ret;exact⟨zac rfl,rfl⟩
theorem zlm(m:Mp)(k i:Int):(zbg m k i).o=m.o:=by unfold zbg;split <;> rfl
theorem zkT(m:Mp)(p o k:Int):(runM m p o k).o=m.o:=by unfold runM;split <;> rfl
def zbp(t:Bt)(p k:Int):Bt:={ t with m:=zbg t.m k p }
theorem zd8(x:Bx)(t:Bt)(p k:Int)(w:World)(h:BdAt w x t):
  Calls Tryz.prog 113 #[.pointer (some ⟨x.b,0,none⟩),.int .i64 p,.int .i64 k] w fun e w'=>e=.returned (.tuple #[])∧BdAt w' x (zbp t p k)∧Kt (bown x) w w':=by
 have c2:=h.b2;have H:=hid h;clear h;go_enter Tryz.func113,Tryz.ntmps113;go_wp2_with fail;refine(zhZ x.m x.B t.m k p _ H.out.mp).mono ?_;rintro e w' ⟨rfl,h2,h3⟩;have D:=hid (show BdAt w' x (zbp t p k)∧Kt (bown x) w w' from⟨H.out.map h3 h2 (zlm _ _ _),zf7 (H.out.mo▸h3)⟩);clear h2 h3;go_wp2_with fail;exact⟨rfl,.tuple #[],by simp[results,Tryz.results113,go_sem],rfl,D.out⟩
def zbY(x:Bx)(t:Bt)(p k:Int):Bool:=decide (k<(x.o:Int)) && zcl t.m k p
theorem zh0(b:Nat)(B:Bs)(m:Mp)(i:Int)(w:World)(h:MpA w b B m):
  Calls Tryz.prog 183 #[.pointer (some ⟨b,0,none⟩),.int .i64 i] w fun e w'=>e=.returned (.int .i64 (zeg m i))∧w'=w:=by
 cases hi:inR m.n i with
 | false=>
  rw[show zeg m i = -1 by simp[zeg,hi]];exact zj2 b B m i w h hi
 | true=>
  obtain⟨k,rfl,hk⟩:=zav hi;have ok:=h.ok k hk;obtain⟨o,ho⟩:=Int.eq_ofNat_of_zero_le ok.o0;rw[show zeg m (k:Int)=((k/2 ^ o*2 ^ o:Nat):Int)by simp[zeg,hi,ho]];exact zlz b B m k o w h hk ho
def isB(m:Mp)(kd i o:Int):Bool:=inR m.n i && ((atP m i).kd == kd) && ((atP m i).od == o) && (zeg m i == i)
theorem zkU(x:Bx)(t:Bt)(kd i o:Int)(w:World)(h:BdAt w x t):
  Calls Tryz.prog 176 #[.pointer (some ⟨x.b,0,none⟩),.int .i64 kd,.int .i64 i,.int .i64 o] w fun e w'=>e=.returned (.bool (isB t.m kd i o))∧Kt nO w w':=by
 have c2:=h.b2;have H:=hid h;clear h;obtain⟨p,hp⟩:=xe (atP t.m i);obtain⟨hv,hhv⟩:=xe (zeg t.m i);obtain⟨r,hr⟩:=xe (inR t.m.n i);have HA:=hid (show ∀ W,MpA W x.m x.B t.m→Calls Tryz.prog 16 #[.pointer (some ⟨x.m,0,none⟩),.int .i64 i] W fun e w'=>e=.returned (.tuple #[pval p,.bool r])∧Kt nO W w' from fun W hW=>by rw[hp,hr];exact zbD x.m x.B t.m i W hW);have HH:=hid (show ∀ W,MpA W x.m x.B t.m→Calls Tryz.prog 183 #[.pointer (some ⟨x.m,0,none⟩),.int .i64 i] W fun e w'=>e=.returned (.int .i64 hv)∧w'=W from fun W hW=>by rw[hhv];exact zh0 x.m x.B t.m i W hW);rw[show isB t.m kd i o=(r && (p.kd == kd) && (p.od == o) && (hv == i))by rw[isB,←hp,←hhv,←hr]];clear hp hhv hr;have hc:r=false∨(r=true∧¬p.kd=kd)∨(r=true∧p.kd=kd∧¬p.od=o)∨(r=true∧p.kd=kd∧p.od=o):=by
  cases r with
  | false=>exact .inl rfl
  | true=>
   by_cases e1:p.kd=kd
   ·by_cases e2:p.od=o
    ·exact .inr (.inr (.inr ⟨rfl,e1,e2⟩))
    ·exact .inr (.inr (.inl ⟨rfl,e1,e2⟩))
   ·exact .inr (.inl ⟨rfl,e1⟩)
 rcases hc with rfl|⟨rfl,h1⟩|⟨rfl,h1,h2⟩|⟨rfl,h1,h2⟩
 ·go_enter Tryz.func176,Tryz.ntmps176;go_wp2_with fail;refine(HA.out _ H.out.mp).mono ?_;rintro e w1 ⟨rfl,hk⟩;have K:=hid (hk.alloc (pobj p));clear hk;go_wp2_with fail;go_ret;exact⟨zac (by simp),K.out⟩
 ·have hb1:(p.kd == kd)=false:=beq_eq_false_iff_ne.2 h1;go_enter Tryz.func176,Tryz.ntmps176;go_wp2_with fail;refine(HA.out _ H.out.mp).mono ?_;rintro e w1 ⟨rfl,hk⟩;have K:=hid (hk.alloc (pobj p));clear hk;go_wp2_with fail;go_ret;exact⟨zac (by simp[hb1]),K.out⟩
 ·have hb2:(p.od == o)=false:=beq_eq_false_iff_ne.2 h2;subst h1;go_enter Tryz.func176,Tryz.ntmps176;go_wp2_with fail;refine(HA.out _ H.out.mp).mono ?_;rintro e w1 ⟨rfl,hk⟩;have K:=hid (hk.alloc (pobj p));clear hk;go_wp2_with fail;go_ret;exact⟨zac (by simp[hb2]),K.out⟩
 ·subst h1 h2;go_enter Tryz.func176,Tryz.ntmps176;go_wp2_with fail;refine(HA.out _ H.out.mp).mono ?_;rintro e w1 ⟨rfl,hk⟩;have K:=hid (hk.alloc (pobj p));have c2:=K.out.cell (fun x=>x) c2;have H1:=hid (H.out.keep K.out);clear hk;go_wp2_with fail;refine(HH.out _ H1.out.mp).mono ?_;rintro e w2 ⟨rfl,hw2⟩;rw[hw2];clear hw2;go_wp2_with fail;go_ret;exact⟨zac (by simp),K.out⟩
def offP(x:Bx)(p:Nat):Nat:=(p+18446744073709551616-x.base)%18446744073709551616
def zbZ(x:Bx)(t:Bt)(p:Nat):Prop:=offP x p%4096=0∧offP x p/4096<t.m.n
instance (x:Bx) (t:Bt) (p:Nat):Decidable (zbZ x t p):=inferInstanceAs (Decidable (_∧_))
instance (a b c d:Nat):Decidable (M.In a b c d):=inferInstanceAs (Decidable (_∧_))
def zbF(x:Bx)(t:Bt)(p:Nat):Nat:=if zbZ x t p then offP x p/4096 else 0
def zdz(x:Bx)(t:Bt)(p:Nat):Bool:=decide (zbZ x t p∧M.In x.base x.n p 1)
theorem zf8(x:Bx)(t:Bt)(p:Nat)(hp:p<18446744073709551616)(w:World)(h:BdAt w x t):
  Calls Tryz.prog 111 #[.pointer (some ⟨x.b,0,none⟩),.int .u64 (p:Int)] w fun e w'=>e=.returned (.tuple #[.int .i64 (zbF x t p:Int),.bool (zdz x t p)])∧Kt nO w w':=by
 have c0:=h.b0;have c1:=h.b1;have c2:=h.b2;have hb:=h.end63;have hn1:=h.mp.n1;have H:=hid h;clear h;obtain⟨off,hoff⟩:=xe (offP x p);have hofw:IntKind.u64.wrap ((p:Int)-(x.base:Int))=(off:Int):=by rw[wrap_u64,hoff];unfold offP;omega
 have hofl:off<18446744073709551616:=by rw[hoff];unfold offP;omega
 obtain⟨r,hr⟩:=xe (off%4096);obtain⟨q,hq⟩:=xe (off/4096);have hri:(off:Int)%4096=(r:Int):=by omega
 have hqi:(off:Int)/4096=(q:Int):=by omega
 have hmw:IntKind.u64.wrap (t.m.n:Int)=(t.m.n:Int):=by rw[wrap_u64];omega
 have hqw:IntKind.i64.wrap (q:Int)=(q:Int):=by rw[IntKind.wrap_i64];omega
 have PG:=hid (show ∀ W,MpA W x.m x.B t.m→Calls Tryz.prog 139 #[.pointer (some ⟨x.m,0,none⟩)] W fun e w'=>e=.returned (.int .i64 (t.m.n:Int))∧w'=W from fun W hW=>zce x.m x.B t.m W hW);have hE:zbZ x t p↔(r=0∧q<t.m.n):=by unfold zbZ;rw[←hoff,←hr,←hq]
 have hI:zbF x t p=if r=0∧q<t.m.n then q else 0:=by
  unfold zbF;by_cases c:zbZ x t p
  ·rw[if_pos c,if_pos (hE.1 c),←hoff,←hq]
  ·rw[if_neg c,if_neg (fun d=>c (hE.2 d))]
 have hB:zdz x t p=decide ((r=0∧q<t.m.n)∧M.In x.base x.n p 1):=by
  unfold zdz;exact decide_eq_decide.2 (and_congr_left fun _=>hE)
 clear hE;clear hoff hr hq;by_cases h0:r=0
 ·by_cases h1:q<t.m.n
  ·have hqn:(q:Int)<(t.m.n:Int):=(by omega);have h0i:(r:Int)=0:=(by omega);rw[hI,hB,if_pos ⟨h0,h1⟩];clear hI hB;by_cases h2:M.In x.base x.n p 1
   ·rw[show decide ((r=0∧q<t.m.n)∧M.In x.base x.n p 1)=true from decide_eq_true ⟨⟨h0,h1⟩,h2⟩];have BY:=hid (M.Byte_any x.s x.a x.base x.R x.lim x.n t.f p hp w H.out.sp);simp only[h2,if_true] at BY;clear h0;go_enter Tryz.func111,Tryz.ntmps111;go_wp2_with fail;refine(PG.out _ H.out.mp).mono ?_;rintro e w1 ⟨rfl,hw1⟩;rw[hw1];clear hw1;go_wp2_with fail;refine BY.out.mono ?_;rintro e w2 ⟨rfl,hk⟩;have K:=hid (show Kt nO w w2 from toK hk);clear hk BY;go_wp2_with fail;exact⟨rfl,.tuple #[.int .i64 (q:Int),.bool true],by simp[results,Tryz.results111,go_sem],rfl,K.out⟩
   ·rw[show decide ((r=0∧q<t.m.n)∧M.In x.base x.n p 1)=false from decide_eq_false (fun e=>h2 e.2)];have BY:=hid (M.Byte_any x.s x.a x.base x.R x.lim x.n t.f p hp w H.out.sp);simp only[h2,if_false] at BY;clear h0;go_enter Tryz.func111,Tryz.ntmps111;go_wp2_with fail;refine(PG.out _ H.out.mp).mono ?_;rintro e w1 ⟨rfl,hw1⟩;rw[hw1];clear hw1;go_wp2_with fail;refine BY.out.mono ?_;rintro e w2 ⟨rfl,hk⟩;have K:=hid (show Kt nO w w2 from toK hk);clear hk BY;go_wp2_with fail;exact⟨rfl,.tuple #[.int .i64 (q:Int),.bool false],by simp[results,Tryz.results111,go_sem],rfl,K.out⟩
  ·have hqn:¬(q:Int)<(t.m.n:Int):=(by omega);have h0i:(r:Int)=0:=(by omega);rw[hI,hB,if_neg (fun e=>h1 e.2),show decide ((r=0∧q<t.m.n)∧M.In x.base x.n p 1)=false from decide_eq_false (fun e=>h1 e.1.2)];clear hI hB h0;go_enter Tryz.func111,Tryz.ntmps111;go_wp2_with fail;refine(PG.out _ H.out.mp).mono ?_;rintro e w1 ⟨rfl,hw1⟩;rw[hw1];clear hw1;go_wp2_with fail;exact⟨rfl,.tuple #[.int .i64 0,.bool false],by simp[results,Tryz.results111,go_sem],rfl,Kt.refl nO _⟩
 ·have h0i:¬(r:Int)=0:=by omega
  rw[hI,hB,if_neg (fun e=>h0 e.1),show decide ((r=0∧q<t.m.n)∧M.In x.base x.n p 1)=false from decide_eq_false (fun e=>h0 e.1.1)];clear hI hB;go_enter Tryz.func111,Tryz.ntmps111;go_wp2_with fail;exact⟨rfl,.tuple #[.int .i64 0,.bool false],by simp[results,Tryz.results111,go_sem],rfl,Kt.refl nO _⟩
def zb4(x:Bx)(t:Bt)(p:Nat)(k:Int):Bool:=zdz x t p && inR (x.o+1) k && isB t.m 2 (zbF x t p:Int) k
theorem zf9(x:Bx)(t:Bt)(p:Nat)(k:Int)(hp:p<18446744073709551616)(w:World)(h:BdAt w x t):
  Calls Tryz.prog 155 #[.pointer (some ⟨x.b,0,none⟩),.int .u64 (p:Int),.int .i64 k] w fun e w'=>e=.returned (.tuple #[.int .i64 (zbF x t p:Int),.bool (zb4 x t p k)])∧Kt nO w w':=by
 have H:=hid h;have PG:=hid (zf8 x t p hp w h);clear h;obtain⟨q,hq⟩:=xe (zbF x t p);obtain⟨v,hv⟩:=xe (zdz x t p);rw[show zb4 x t p k=(v && inR (x.o+1) k && isB t.m 2 (q:Int) k)by rw[zb4,←hq,←hv],←hq];rw[←hq,←hv] at PG;clear hq hv
 cases v with
 | false=>
  go_enter Tryz.func155,Tryz.ntmps155;go_wp2_with fail;refine PG.out.mono ?_;rintro e w1 ⟨rfl,hk⟩;have K:=hid hk;clear hk;go_wp2_with fail;exact⟨rfl,.tuple #[.int .i64 (q:Int),.bool false],by simp[results,Tryz.results155,go_sem],by simp,K.out⟩
 | true=>
  obtain⟨r,hr⟩:=xe (inR (x.o+1) k);have HS:=hid (show ∀ W,BdAt W x t→Calls Tryz.prog 108 #[.pointer (some ⟨x.b,0,none⟩),.int .i64 k] W fun e w'=>e=.returned (.bool r)∧w'=W from fun W hW=>by rw[hr];exact zcc x t k W hW);rw[←hr];clear hr
  cases r with
  | false=>
   go_enter Tryz.func155,Tryz.ntmps155;go_wp2_with fail;refine PG.out.mono ?_;rintro e w1 ⟨rfl,hk⟩;have K:=hid hk;have H1:=hid (H.out.keep hk);clear hk;go_wp2_with fail;refine(HS.out _ H1.out).mono ?_;rintro e w2 ⟨rfl,hw2⟩;rw[hw2];clear hw2;go_wp2_with fail;exact⟨rfl,.tuple #[.int .i64 (q:Int),.bool false],by simp[results,Tryz.results155,go_sem],by simp,K.out⟩
  | true=>
   go_enter Tryz.func155,Tryz.ntmps155;go_wp2_with fail;refine PG.out.mono ?_;rintro e w1 ⟨rfl,hk⟩;have K:=hid hk;have H1:=hid (H.out.keep hk);clear hk;go_wp2_with fail;refine(HS.out _ H1.out).mono ?_;rintro e w2 ⟨rfl,hw2⟩;rw[hw2];clear hw2;go_wp2_with fail;refine(zkU x t 2 (q:Int) k _ H1.out).mono ?_;rintro e w3 ⟨rfl,hk⟩;have K3:=hid (nT K.out hk);clear hk;go_wp2_with fail;exact⟨rfl,.tuple #[.int .i64 (q:Int),.bool (isB t.m 2 (q:Int) k)],by simp[results,Tryz.results155,go_sem],by simp,K3.out⟩
structure Least(x:Bx)(t:Bt)(k j:Nat):Prop where
 lk:k≤j
 lo:j≤x.o+1
 lz:∀ a,k≤a→a<j→t.hd a=0
 lh:j≤x.o→t.hd j≠0
theorem zeI(x:Bx)(t:Bt)(k:Nat)(hk:k≤x.o)(w:World)(h:BdAt w x t):
  Calls Tryz.prog 109 #[.pointer (some ⟨x.b,0,none⟩),.int .i64 (k:Int)] w fun e w'=>∃ j:Nat,e=.returned (.int .i64 (j:Int))∧Least x t k j∧w'=w:=by
 have c3:=h.b3;have H:=hid h;have ho:=h.o8;clear h;go_enter Tryz.func109,Tryz.ntmps109;go_wp2_with fail;go_loopw [1] (fun i W=>Hid (W=w)∧∃ j:Nat,k≤j∧j≤x.o+1∧i=.int .i64 j∧Hid (∀ a,k≤a→a<j→t.hd a=0)) (fun i _=>x.o+1-(intOf i).toNat)
 case atStart=>exact⟨rfl,k,by omega,by omega,rfl,fun a h1 h2=>by omega⟩
 case round=>
  obtain⟨hW,j,h1,h2,rfl,hz⟩:=hrel;have hW:=hW.out;subst hW;have HS:=hid (zcc x t (j:Int) wr H.out);by_cases h3:j≤x.o
  ·rw[show inR (x.o+1) (j:Int)=true by simp only[inR];exact decide_eq_true ⟨by omega,by omega⟩] at HS;have hji:(j:Int)<((x.o+1:Nat):Int):=(by omega);have cl:=H.out.lc j h3;have HD:=hid (M.Head_any (x.L j) x.s (t.hd j) wr (H.out.ls j h3));obtain⟨d,hd⟩:=xe (t.hd j);rw[←hd] at HD;have HDE:=hid hd;clear hd;by_cases h4:d=0
   ·have h4i:(d:Int)=0:=(by omega);go_wp2_with fail;refine HS.out.mono ?_;rintro e w1 ⟨rfl,hw1⟩;rw[hw1];clear hw1;go_wp2_with fail;refine HD.out.mono ?_;rintro e w1 ⟨rfl,hw1⟩;rw[hw1];clear hw1;go_wp2_with fail;exact⟨⟨trivial,j+1,by omega,by omega,by simp,fun a h5 h6=>by
     by_cases e:a=j
     ·subst e;rw[←HDE.out];exact h4
     ·exact hz.out a h5 (by omega)⟩,by simp[intOf];omega⟩
   ·have h4i:¬(d:Int)=0:=(by omega);go_wp2_with fail;refine HS.out.mono ?_;rintro e w1 ⟨rfl,hw1⟩;rw[hw1];clear hw1;go_wp2_with fail;refine HD.out.mono ?_;rintro e w1 ⟨rfl,hw1⟩;rw[hw1];clear hw1;go_wp2_with fail;go_ret;exact⟨j,rfl,⟨h1,h2,hz.out,fun _=>by rw[←HDE.out];exact h4⟩,rfl⟩
  ·rw[show inR (x.o+1) (j:Int)=false by simp only[inR];exact decide_eq_false (fun e=>by omega)] at HS;go_wp2_with fail;refine HS.out.mono ?_;rintro e w1 ⟨rfl,hw1⟩;rw[hw1];clear hw1;go_wp2_with fail;go_ret;exact⟨j,rfl,⟨h1,h2,hz.out,fun e=>by omega⟩,rfl⟩
def ad(x:Bx)(p:Nat):Nat:=x.base+4096*p
def zh1(x:Bx)(t:Bt)(p k:Nat):Bt:={ t with f:=(M.pushR x.base x.n t.f (t.hd k) (ad x p)).1,hd:=uph t.hd k (M.pushR x.base x.n t.f (t.hd k) (ad x p)).2.1 }
def zgW(x:Bx)(t:Bt)(p k:Nat):Nat:=(M.pushR x.base x.n t.f (t.hd k) (ad x p)).2.2
def runT(t:Bt)(p k:Nat)(kd:Int):Bt:={ t with m:=runM t.m p k kd }
def zaw(x:Bx)(t:Bt)(p k:Nat):Bt:=if zgW x t p k=0 then zbp (runT (zh1 x t p k) p k 0) p k else zh1 x t p k
def za1(x:Bx)(t:Bt)(p k:Nat):Nat:=if zgW x t p k=0 then 0 else 9
theorem zcd(x:Bx)(t:Bt)(p k:Nat)(kd:Int)(w:World)(h:BdAt w x t):
  Calls Tryz.prog 97 #[.pointer (some ⟨x.m,0,none⟩),.int .i64 (p:Int),.int .i64 (k:Int),.int .i64 kd] w fun e w'=>e=.returned (.int .i64 (runE t.m p k kd))∧BdAt w' x (runT t p k kd)∧Kt (bown x) w w':=by
 refine(ziW x.m x.B t.m p k kd w h.mp).mono ?_;rintro e w' ⟨rfl,h2,h3⟩;exact⟨rfl,h.map h3 h2 (zkT _ _ _ _),zf7 (h.mo▸h3)⟩
theorem zh2(x:Bx)(t:Bt)(p k:Nat)(hp:p≤4000)(hk:k≤x.o)(w:World)(h:BdAt w x t):
  Calls Tryz.prog 173 #[.pointer (some ⟨x.L k,0,none⟩),.int .u64 ((ad x p:Nat):Int)] w fun e w'=>e=.returned (.int .i64 (zgW x t p k:Int))∧BdAt w' x (zh1 x t p k)∧Kt (bown x) w w':=by
 have hb:=h.end63;refine(M.Push_any (x.L k) x.s x.a x.base x.R x.lim x.n t.f (t.hd k) (ad x p) (by unfold ad;omega) w (h.ls' k hk)).mono ?_;rintro e w' ⟨rfl,h2,h3⟩;exact⟨rfl,h.list hk h3 h2,zde hk h3⟩
theorem zdf(x:Bx)(t:Bt)(p k:Nat)(hp:p≤4000)(hk:k≤x.o)(w:World)(h:BdAt w x t):
  Calls Tryz.prog 150 #[.pointer (some ⟨x.b,0,none⟩),.int .i64 (p:Int),.int .i64 (k:Int)] w fun e w'=>e=.returned (.int .i64 (za1 x t p k:Int))∧BdAt w' x (zaw x t p k)∧Kt (bown x) w w':=by
 have c3:=h.b3;have cl:=h.lc k hk;have ho:=h.o8;have H:=hid h;have hki:(k:Int)<((x.o+1:Nat):Int):=by omega
 have hk0:(0:Int)≤(k:Int):=by omega
 have hki2:(k:Int)<(x.o:Int)+1:=by omega
 have hki3:k<x.o+1:=by omega
 have hkw:IntKind.i64.wrap (k:Int)=(k:Int):=by rw[IntKind.wrap_i64];omega
 have AD:=hid (show ∀ W,BdAt W x t→Calls Tryz.prog 153 #[.pointer (some ⟨x.b,0,none⟩),.int .i64 (p:Int)] W fun e w'=>e=.returned (.int .u64 ((ad x p:Nat):Int))∧w'=W from fun W hW=>za9 x t p hp W hW);have H0:=hid (h.keep (Kt.refl nO w).drew);obtain⟨q,hq⟩:=xe (ad x p);have PU:=hid (zh2 x t p k hp hk w.drew H0.out);rw[←hq] at AD PU;obtain⟨e0,he0⟩:=xe (zgW x t p k);rw[←he0] at PU;have hE:za1 x t p k=if e0=0 then 0 else 9:=by rw[he0];rfl
 have hT:zaw x t p k=if e0=0 then zbp (runT (zh1 x t p k) p k 0) p k else zh1 x t p k:=by rw[he0];rfl
 rw[hE,hT];clear h hq he0 hE hT;have c3d:w.drew.cell? ⟨x.b,3,none⟩=some (.slice (some ⟨x.l,0,none⟩) (x.o+1) x.c):=c3;have cld:w.drew.cell? ⟨x.l,k,none⟩=some (.pointer (some ⟨x.L k,0,none⟩)):=cl;by_cases h0:e0=0
 ·rw[if_pos h0,if_pos h0];have h0i:(e0:Int)=0:=by omega
  have h0b:((e0:Int) != 0)=false:=by simp[h0i]
  clear h0;go_enter Tryz.func150,Tryz.ntmps150;go_wp2_with fail;go_region_held3 (fun w'=>w'.cell? ⟨x.b,3,none⟩=some (.slice (some ⟨x.l,0,none⟩) (x.o+1) x.c)∧w'.cell? ⟨x.l,k,none⟩=some (.pointer (some ⟨x.L k,0,none⟩))) (first|with_reducible exact⟨c3d,cld⟩|with_reducible exact⟨c32,cl2⟩) (first|(go_at_call 153;refine(AD.out _ H0.out).mono ?_;rintro e w1 ⟨rfl,hw1⟩;rw[hw1];clear hw1)|(go_at_call 173;refine PU.out.mono ?_;rintro e w2 ⟨rfl,hB,hK⟩;have H2:=hid hB;have K2:=hid (show Kt (bown x) w w2 from bwT (zar (Kt.refl nO w).drew) hK);have c32:=H2.out.b3;have cl2:=H2.out.lc k hk;clear hB hK))
  all_goals
   have c22:=H2.out.b2;clear c3 cl c3d cld c32 cl2 AD PU H0 h0b;go_wp2_with fail;refine(zcd x _ p k 0 _ H2.out).mono ?_;rintro e w3 ⟨rfl,hB,hK⟩;have H3:=hid hB;have K3:=hid (bwT K2.out hK);clear hB hK c22;go_wp2_with fail;refine(zd8 x _ (p:Int) (k:Int) _ H3.out).mono ?_;rintro e w4 ⟨rfl,hB,hK⟩;have H4:=hid hB;have K4:=hid (bwT K3.out hK);clear hB hK;go_wp2_with fail;go_ret;exact⟨rfl,H4.out,K4.out⟩
 ·rw[if_neg h0,if_neg h0];have h0i:¬(e0:Int)=0:=by omega
  have h0b:((e0:Int) != 0)=true:=by simp[h0]
  clear h0;go_enter Tryz.func150,Tryz.ntmps150;go_wp2_with fail;go_region_held3 (fun w'=>w'.cell? ⟨x.b,3,none⟩=some (.slice (some ⟨x.l,0,none⟩) (x.o+1) x.c)∧w'.cell? ⟨x.l,k,none⟩=some (.pointer (some ⟨x.L k,0,none⟩))) (first|with_reducible exact⟨c3d,cld⟩|with_reducible exact⟨c32,cl2⟩) (first|(go_at_call 153;refine(AD.out _ H0.out).mono ?_;rintro e w1 ⟨rfl,hw1⟩;rw[hw1];clear hw1)|(go_at_call 173;refine PU.out.mono ?_;rintro e w2 ⟨rfl,hB,hK⟩;have H2:=hid hB;have K2:=hid (show Kt (bown x) w w2 from bwT (zar (Kt.refl nO w).drew) hK);have c32:=H2.out.b3;have cl2:=H2.out.lc k hk;clear hB hK))
  all_goals
   clear c3 cl c3d cld c32 cl2 AD PU H0;go_wp2_with fail;go_ret;exact⟨rfl,H2.out,K2.out⟩
def cutL(x:Bx)(p to:Nat):Nat→Bt→Bt×Nat×Nat
 | 0,t=>(t,to,0)
 | d+1,t=>if za1 x t (p+2 ^ (to+d)) (to+d)=0 then cutL x p to d (zaw x t (p+2 ^ (to+d)) (to+d)) else (zaw x t (p+2 ^ (to+d)) (to+d),to+d+1,9)
def cutT(x:Bx)(t:Bt)(p fr to:Nat):Bt:=runT (cutL x p to (fr-to) t).1 p (cutL x p to (fr-to) t).2.1 2
def cutE(x:Bx)(t:Bt)(p fr to:Nat):Nat:=(cutL x p to (fr-to) t).2.2
theorem zgX(x:Bx)(t:Bt)(p k:Nat):za1 x t p k=0∨za1 x t p k=9:=by
 unfold za1;split
 ·exact .inl rfl
 ·exact .inr rfl
def CutR(x:Bx)(p to:Nat)(r:Bt×Nat×Nat)(w W:World)(F E:Nat):Prop:=
 ∃ t1,BdAt W x t1∧Kt (bown x) w W∧((E=0∧∃ d,F=to+d∧cutL x p to d t1=r)∨(E=9∧r=(t1,F,9)))
theorem zjL(x:Bx)(t:Bt)(p fr to:Nat)(hp:p≤1024)(hft:to≤fr)(hfr:fr≤x.o)(w:World)(h:BdAt w x t):
  Calls Tryz.prog 114 #[.pointer (some ⟨x.b,0,none⟩),.int .i64 (p:Int),.int .i64 (fr:Int),.int .i64 (to:Int)] w fun e w'=>e=.returned (.int .i64 (cutE x t p fr to:Int))∧BdAt w' x (cutT x t p fr to)∧Kt (bown x) w w':=by
 have ho:=h.o8;obtain⟨r,hr⟩:=xe (cutL x p to (fr-to) t);rw[show cutE x t p fr to=r.2.2 by rw[hr];rfl,show cutT x t p fr to=runT r.1 p r.2.1 2 by rw[hr];rfl];have H0:=hid (show CutR x p to r w w fr 0 from⟨t,h,Kt.refl _ _,.inl ⟨rfl,fr-to,by omega,hr.symm⟩⟩);clear h hr;go_enter Tryz.func114,Tryz.ntmps114;go_wp2_with fail;go_loopw [2,9] (fun i e W=>∃ F E:Nat,i=.int .i64 F∧e=.int .i64 E∧to≤F∧F≤fr∧(E=0∨E=9)∧Hid (CutR x p to r w W F E)) (fun i e _=>if intOf e=0 then (intOf i).toNat-to+1 else 0)
 case atStart=>exact⟨fr,0,rfl,rfl,hft,Nat.le_refl _,.inl rfl,H0⟩
 case round=>
  obtain⟨F,E,rfl,rfl,h1,h2,h3,hC⟩:=hrel;clear H0;obtain⟨t1,hB,hK,hc⟩:=hC.out;have H1:=hid hB;have K1:=hid hK;have HC:=hid hc;clear hB hK hc hC;have fin:∀ E':Nat,((E'=0∧F=to)∨E'=9)→E=E'→t1=r.1∧F=r.2.1∧E'=r.2.2:=fun E' h4 h5=>by
   subst h5;rcases HC.out with ⟨e1,d,e2,e3⟩|⟨e1,e2⟩
   ·have e4:d=0:=(by omega);subst e4;rw[←e3];exact⟨rfl,e2,e1⟩
   ·rw[e2];exact⟨rfl,rfl,e1⟩
  by_cases h4:to<F
  ·have h4i:(to:Int)<(F:Int):=(by omega);rcases h3 with h3|h3
   ·obtain⟨k,hk⟩:∃ k,F=k+1:=⟨F-1,by omega⟩;obtain⟨z,hz⟩:=xe (2 ^ k);have hzi:(2:Int) ^ k=(z:Int):=(by rw[hz];simp);have hz1:z≤256:=(by rw[hz];exact Nat.pow_le_pow_right (n:=2) (by decide) (show k≤8 by omega));subst h3;subst hk;have EN:=hid (show Calls Tryz.prog 150 #[.pointer (some ⟨x.b,0,none⟩),.int .i64 ((p:Int)+(z:Int)),.int .i64 (k:Int)] wr fun e w'=>e=.returned (.int .i64 (za1 x t1 (p+z) k:Int))∧BdAt w' x (zaw x t1 (p+z) k)∧Kt (bown x) wr w' from zdf x t1 (p+z) k (by omega) (by omega) wr H1.out);have HS:=hid (show ∀ W,Kt (bown x) wr W→BdAt W x (zaw x t1 (p+z) k)→(za1 x t1 (p+z) k=0→CutR x p to r w W k 0)∧(za1 x t1 (p+z) k=9→CutR x p to r w W (k+1) 9)from fun W kW bW=>by
     rcases HC.out with ⟨e1,d,e2,e3⟩|⟨e1,e2⟩
     ·obtain⟨d',rfl⟩:∃ d',d=d'+1:=⟨d-1,by omega⟩;have ek:k=to+d':=(by omega);rw[cutL,←ek,←hz] at e3;refine⟨fun e=>?_,fun e=>?_⟩
      ·rw[if_pos e] at e3;exact⟨_,bW,bwT K1.out kW,.inl ⟨rfl,d',ek,e3⟩⟩
      ·rw[if_neg (by omega)] at e3;exact⟨_,bW,bwT K1.out kW,.inr ⟨rfl,e3.symm⟩⟩
     ·omega)
    have ET:=hid (zgX x t1 (p+z) k);obtain⟨E2,hE2⟩:=xe (za1 x t1 (p+z) k);obtain⟨T2,hT2⟩:=xe (zaw x t1 (p+z) k);rw[←hE2] at EN HS ET;rw[←hT2] at EN HS;clear hz hE2 hT2 fin HC;have hpz:IntKind.i64.wrap ((p:Int)+(z:Int))=((p+z:Nat):Int):=(by rw[IntKind.wrap_i64];omega);go_wp2_with fail;refine EN.out.mono ?_;rintro e w2 ⟨rfl,hB,hK⟩;have S2:=hid (HS.out w2 hK hB);clear hB hK EN HS;rcases ET.out with h5|h5
    ·subst h5;go_wp2_with fail;exact⟨⟨k,0,rfl,rfl,by omega,by omega,.inl rfl,S2.out.1 trivial⟩,by simp[intOf];omega⟩
    ·subst h5;go_wp2_with fail;exact⟨⟨k+1,9,by simp,rfl,by omega,by omega,.inr rfl,S2.out.2 trivial⟩,by simp[intOf]⟩
   ·subst h3;obtain⟨f1,f2,f3⟩:=fin 9 (.inr rfl) rfl;have c2:=H1.out.b2;have FT:=hid f1;have FF2:=hid f2;have FE:=hid f3;clear fin HC f1 f2 f3;go_wp2_with fail;refine(zcd x t1 p F 2 _ H1.out).mono ?_;rintro e w3 ⟨rfl,hB,hK⟩;have D:=hid (show BdAt w3 x (runT r.1 p r.2.1 2)∧Kt (bown x) w w3 from⟨by rw[←FT.out,←FF2.out];exact hB,bwT K1.out hK⟩);clear hB hK;go_wp2_with fail;go_ret;exact⟨zaM (by rw[←FE.out];rfl),D.out⟩
  ·have h4i:¬(to:Int)<(F:Int):=(by omega);rcases h3 with h3|h3
   ·subst h3;obtain⟨f1,f2,f3⟩:=fin 0 (.inl ⟨rfl,by omega⟩) rfl;have c2:=H1.out.b2;have FT:=hid f1;have FF2:=hid f2;have FE:=hid f3;clear fin HC f1 f2 f3;go_wp2_with fail;refine(zcd x t1 p F 2 _ H1.out).mono ?_;rintro e w3 ⟨rfl,hB,hK⟩;have D:=hid (show BdAt w3 x (runT r.1 p r.2.1 2)∧Kt (bown x) w w3 from⟨by rw[←FT.out,←FF2.out];exact hB,bwT K1.out hK⟩);clear hB hK;go_wp2_with fail;go_ret;exact⟨zaM (by rw[←FE.out];rfl),D.out⟩
   ·subst h3;obtain⟨f1,f2,f3⟩:=fin 9 (.inr rfl) rfl;have c2:=H1.out.b2;have FT:=hid f1;have FF2:=hid f2;have FE:=hid f3;clear fin HC f1 f2 f3;go_wp2_with fail;refine(zcd x t1 p F 2 _ H1.out).mono ?_;rintro e w3 ⟨rfl,hB,hK⟩;have D:=hid (show BdAt w3 x (runT r.1 p r.2.1 2)∧Kt (bown x) w w3 from⟨by rw[←FT.out,←FF2.out];exact hB,bwT K1.out hK⟩);clear hB hK;go_wp2_with fail;go_ret;exact⟨zaM (by rw[←FE.out];rfl),D.out⟩
def popT(x:Bx)(t:Bt)(k:Nat):Bt:={ t with f:=(M.popR x.base x.n t.f (t.hd k)).1,hd:=uph t.hd k (M.popR x.base x.n t.f (t.hd k)).2.1 }
def popE(x:Bx)(t:Bt)(k:Nat):Nat:=(M.popR x.base x.n t.f (t.hd k)).2.2.2
theorem zjM(x:Bx)(t:Bt)(k:Nat)(hk:k≤x.o)(w:World)(h:BdAt w x t):
  Calls Tryz.prog 112 #[.pointer (some ⟨x.L k,0,none⟩)] w fun e w'=>∃ v:Nat,e=.returned (.tuple #[.int .u64 (v:Int),.int .i64 (popE x t k:Int)])∧BdAt w' x (popT x t k)∧Kt (bown x) w w':=by
 refine(M.Pop_any (x.L k) x.s x.a x.base x.R x.lim x.n t.f (t.hd k) w (h.ls' k hk)).mono ?_;rintro e w' ⟨rfl,h2,h3⟩;exact⟨_,rfl,h.list hk h3 h2,zde hk h3⟩
theorem zeJ(x:Bx)(t:Bt)(k:Int)(hk:inR (x.o+1) k=false)(w:World)(h:BdAt w x t):
  Calls Tryz.prog 55 #[.pointer (some ⟨x.b,0,none⟩),.int .i64 k] w fun e w'=>e=.returned (.tuple #[.int .u64 0,.int .i64 1])∧w'=w:=by
 have HS:=hid (zcc x t k w h);rw[hk] at HS;go_enter Tryz.func55,Tryz.ntmps55;go_wp2_with fail;refine HS.out.mono ?_;rintro e w1 ⟨rfl,hw1⟩;rw[hw1];clear hw1;go_wp2_with fail;exact⟨rfl,.tuple #[.int .u64 0,.int .i64 1],by simp[results,Tryz.results55,go_sem],rfl,rfl⟩
theorem zd9(x:Bx)(t:Bt)(k:Nat)(hk:k≤x.o)(w:World)(h:BdAt w x t):
  Calls Tryz.prog 108 #[.pointer (some ⟨x.b,0,none⟩),.int .i64 (k:Int)] w fun e w'=>e=.returned (.bool true)∧w'=w:=by
 have HS:=zcc x t (k:Int) w h;rw[show inR (x.o+1) (k:Int)=true by simp only[inR];exact decide_eq_true ⟨by omega,by omega⟩] at HS;exact HS
theorem zdI(x:Bx)(t:Bt)(k:Nat)(hk:k≤x.o)(hz:∀ a,k≤a→a≤x.o→t.hd a=0)(w:World)(h:BdAt w x t):
  Calls Tryz.prog 55 #[.pointer (some ⟨x.b,0,none⟩),.int .i64 (k:Int)] w fun e w'=>e=.returned (.tuple #[.int .u64 0,.int .i64 2])∧w'=w:=by
 have HS:=hid (zd9 x t k hk w h);have LE:=hid (zeI x t k hk w h);have HN:=hid (show ∀ j:Nat,Least x t k j→Calls Tryz.prog 108 #[.pointer (some ⟨x.b,0,none⟩),.int .i64 (j:Int)] w fun e w'=>e=.returned (.bool false)∧w'=w from fun j hj=>by
  have hjo:¬j≤x.o:=fun e=>hj.lh e (hz j hj.lk e)
  have q:=zcc x t (j:Int) w h;rw[show inR (x.o+1) (j:Int)=false by simp only[inR];exact decide_eq_false (fun e=>by omega)] at q;exact q)
 clear hz h;go_enter Tryz.func55,Tryz.ntmps55;go_wp2_with fail;refine HS.out.mono ?_;rintro e w1 ⟨rfl,hw1⟩;rw[hw1];clear hw1;go_wp2_with fail;refine LE.out.mono ?_;rintro e w1 ⟨j,rfl,hj,hw1⟩;rw[hw1];have HJ:=hid (HN.out j hj);clear hw1 hj;go_wp2_with fail;refine HJ.out.mono ?_;rintro e w1 ⟨rfl,hw1⟩;rw[hw1];clear hw1;go_wp2_with fail;exact⟨rfl,.tuple #[.int .u64 0,.int .i64 2],by simp[results,Tryz.results55,go_sem],rfl,rfl⟩
def zgY(x:Bx)(t:Bt)(q j k:Nat):Bt:=cutT x (zbp (popT x t j) q j) q j k
theorem zga(x:Bx)(t:Bt)(k j q:Nat)(hk:k≤x.o)(hL:Least x t k j)(hj:j≤x.o)(hq:t.hd j=ad x q)(hqn:q<t.m.n)(hin:M.In x.base x.n (ad x q) 1)(hqj:q%2 ^ j=0)(hpop:popE x t j=0)(hcut:cutE x (zbp (popT x t j) q j) q j k=0)(w:World)(h:BdAt w x t):
  Calls Tryz.prog 55 #[.pointer (some ⟨x.b,0,none⟩),.int .i64 (k:Int)] w fun e w'=>e=.returned (.tuple #[.int .u64 ((ad x q:Nat):Int),.int .i64 0])∧BdAt w' x (zgY x t q j k)∧Kt (bown x) w w':=by
 have ho:=h.o8;have hn1:=h.mp.n1;have hb:=h.end63;have c3:=h.b3;have cl:=h.lc j hj;have H:=hid h;have hji:(j:Int)<((x.o+1:Nat):Int):=by omega
 obtain⟨z,hz⟩:=xe (2 ^ j);have hzi:(2:Int) ^ j=(z:Int):=by rw[hz];simp
 have hz1 : 1≤z:=by rw[hz];exact Nat.pow_pos (by decide)
 have hz2:z≤256:=by rw[hz];exact Nat.pow_le_pow_right (n:=2) (by decide) (show j≤8 by omega)
 have hqz:(q:Int)%(z:Int)=0:=by rw[←hz] at hqj;omega
 have hz0:¬(z:Int)=0:=by omega
 obtain⟨a,ha⟩:=xe (ad x q);have hal:a<18446744073709551616:=by rw[ha];unfold ad;unfold M.In at hin;omega
 have hoff:offP x a=4096*q:=by rw[ha];unfold offP ad;omega
 have hok:zbZ x t a:=by unfold zbZ;rw[hoff];exact⟨by omega,by omega⟩
 have hI:zbF x t a=q:=by unfold zbF;rw[if_pos hok,hoff];omega
 have hB:zdz x t a=true:=by unfold zdz;exact decide_eq_true ⟨hok,by rw[ha];exact hin⟩
 have PG:=hid (zf8 x t a hal w h);rw[hI,hB] at PG;have HD:=hid (M.Head_any (x.L j) x.s (t.hd j) w (h.ls j hj));rw[hq,←ha] at HD;rw[←ha];have HS:=hid (zd9 x t k hk w h);have HJ:=hid (zd9 x t j hj w h);have LE:=hid (show Calls Tryz.prog 109 #[.pointer (some ⟨x.b,0,none⟩),.int .i64 (k:Int)] w fun e w'=>e=.returned (.int .i64 (j:Int))∧w'=w from(zeI x t k hk w h).mono (by
  rintro e w' ⟨j',rfl,hj',rfl⟩;have:j'=j:=by
   rcases Nat.lt_trichotomy j' j with e|e|e
   ·exact absurd (hL.lz j' hj'.lk e) (hj'.lh (by omega))
   ·exact e
   ·exact absurd (hj'.lz j hL.lk e) (hL.lh hj)
  subst this;exact⟨rfl,rfl⟩))
 have HPOP:=hid hpop;have HCUT:=hid hcut;have hjk:=hL.lk;clear h hz ha hoff hok hI hB hpop hcut hL hq hin hqj;go_enter Tryz.func55,Tryz.ntmps55;go_wp2_with fail;refine HS.out.mono ?_;rintro e w1 ⟨rfl,hw1⟩;rw[hw1];clear hw1;go_wp2_with fail;refine LE.out.mono ?_;rintro e w1 ⟨rfl,hw1⟩;rw[hw1];clear hw1;go_wp2_with fail;refine HJ.out.mono ?_;rintro e w1 ⟨rfl,hw1⟩;rw[hw1];clear hw1;go_wp2_with fail;refine HD.out.mono ?_;rintro e w1 ⟨rfl,hw1⟩;rw[hw1];clear hw1;go_wp2_with fail;refine PG.out.mono ?_;rintro e w1 ⟨rfl,hk1⟩;have K1:=hid hk1;have H1:=hid (H.out.keep hk1);have c31:=H1.out.b3;have cl1:=H1.out.lc j hj;clear hk1 c3 cl HS HJ HD PG LE;go_wp2_with fail;refine(zjM x t j hj _ H1.out).mono ?_;rintro e w2 ⟨v,rfl,hB,hK⟩;rw[HPOP.out];have H2:=hid hB;have K2:=hid (bwT (zar K1.out) hK);clear hB hK c31 cl1;go_wp2_with fail;refine(zd8 x _ (q:Int) (j:Int) _ H2.out).mono ?_;rintro e w3 ⟨rfl,hB,hK⟩;have H3:=hid hB;have K3:=hid (bwT K2.out hK);clear hB hK;go_wp2_with fail;refine(zjL x _ q j k (by omega) hjk hj _ H3.out).mono ?_;rintro e w4 ⟨rfl,hB,hK⟩;rw[HCUT.out];have H4:=hid hB;have K4:=hid (bwT K3.out hK);clear hB hK;go_wp2_with fail;exact⟨rfl,.tuple #[.int .u64 (a:Int),.int .i64 0],by simp[results,Tryz.results55,go_sem],rfl,H4.out,K4.out⟩
theorem zdg(a b:Nat)(ha:a<4611686018427387904)(hb:b<4611686018427387904):bits .xor .i64 (a:Int) (b:Int)=((a ^^^ b:Nat):Int):=by
 have hx:a ^^^ b<2 ^ 62:=Nat.xor_lt_two_pow (by omega) (by omega);show IntKind.i64.wrap ((BitVec.ofInt 64 (a:Int) ^^^ BitVec.ofInt 64 (b:Int)).toNat:Int)=_
 rw[BitVec.toNat_xor,ofInt_u64 a (by omega),ofInt_u64 b (by omega),IntKind.wrap_i64];omega
theorem zb0(a b:Nat)(ha:a<4611686018427387904)(hb:b<4611686018427387904):bits .andNot .i64 (a:Int) (b:Int)=((a &&& (18446744073709551615-b):Nat):Int):=by
 have hx:a &&& (18446744073709551615-b)≤a:=Nat.and_le_left;show IntKind.i64.wrap ((BitVec.ofInt 64 (a:Int) &&& ~~~BitVec.ofInt 64 (b:Int)).toNat:Int)=_
 rw[BitVec.toNat_and,BitVec.toNat_not,ofInt_u64 a (by omega),ofInt_u64 b (by omega),IntKind.wrap_i64];have e : 2 ^ 64-1-b=18446744073709551615-b:=by omega
 rw[e];omega
theorem zh3(b:Nat)(B:Bs)(m:Mp)(k i:Int)(w:World)(h:MpA w b B m):
  Calls Tryz.prog 172 #[.pointer (some ⟨b,0,none⟩),.int .i64 k,.int .i64 i] w fun e w'=>e=.returned (.bool (zcl m k i))∧∃ r,w'=w.drewN r:=by
 cases hp:hasP m k i with
 | false=>
  rw[show zcl m k i=false by simp[zcl,hp]];have HQ:=hid (fun q=>zbb b B m k i (w.drewN q) (h.keep ((Kt.refl nO w).drewN q)));rw[show(inR m.o k && inR m.n i)=false from hp] at HQ;clear h hp;go_enter Tryz.func172,Tryz.ntmps172;go_wp2_with fail;go_quiet ((go_at_call 170;exact Calls.quiet_of_same (HQ.out _)))
  go_wp2_with fail;go_ret;exact⟨rfl,_,rfl⟩
 | true=>
  have hh:=hp;simp only[hasP,Bool.and_eq_true] at hh;obtain⟨k,rfl,hk⟩:=zav hh.1;obtain⟨i,rfl,hi⟩:=zav hh.2;rw[show zcl m (k:Int) (i:Int)=inS (m.n/2 ^ (k+1)) (m.wd k) ((i/2 ^ (k+1):Nat):Int)by simp[zcl,hp,prL,prN]];have HQ:=hid (fun q=>zbb b B m k i (w.drewN q) (h.keep ((Kt.refl nO w).drewN q)));rw[show(inR m.o (k:Int) && inR m.n (i:Int))=true from hp] at HQ;obtain⟨q,hq,cp⟩:=h.cp k hk;obtain⟨cq,c2⟩:=h.c2 hq;have HG:=hid (fun z=>zig (B.S k) (B.C k) _ (m.wd k) ((i/2 ^ (k+1):Nat):Int) (w.drewN z) ((h.set k hk).kept ((Kt.refl nO w).drewN z) (fun x=>x) (fun x=>x)));have hk8:k<8:=by have:=h.o8;omega
  have hi10:i<1024:=by have:=h.n1;omega
  have hki:(k:Int)<(m.o:Int):=by omega
  clear h hq hh hp;go_enter Tryz.func172,Tryz.ntmps172;go_wp2_with fail;go_quiet (first|(go_at_call 170;exact Calls.quiet_of_same (HQ.out _))|(go_at_call 181;exact Calls.quiet_of_same (HG.out _)))
  go_wp2_with fail;go_ret;exact⟨rfl,_,rfl⟩
theorem zdJ(x:Bx)(t:Bt)(p k:Int)(w:World)(h:BdAt w x t):
  Calls Tryz.prog 177 #[.pointer (some ⟨x.b,0,none⟩),.int .i64 p,.int .i64 k] w fun e w'=>e=.returned (.bool (zbY x t p k))∧∃ r,w'=w.drewN r:=by
 have c2:=h.b2;have H:=hid h;have GR:=hid (zai x t w h);clear h;by_cases h0:k<(x.o:Int)
 ·rw[show zbY x t p k=zcl t.m k p by simp[zbY,h0]];go_enter Tryz.func177,Tryz.ntmps177;go_wp2_with fail;refine GR.out.mono ?_;rintro e w1 ⟨rfl,rfl⟩;go_wp2_with fail;refine(zh3 x.m x.B t.m k p _ H.out.mp).mono ?_;rintro e w' ⟨rfl,hk⟩;have K:=hid hk;clear hk;go_wp2_with fail;go_ret;exact⟨zac (by simp),K.out⟩
 ·rw[show zbY x t p k=false by simp[zbY,h0]];go_enter Tryz.func177,Tryz.ntmps177;go_wp2_with fail;refine GR.out.mono ?_;rintro e w1 ⟨rfl,rfl⟩;go_wp2_with fail;go_ret;exact⟨rfl,0,rfl⟩
def remT(x:Bx)(t:Bt)(p k:Nat):Bt:={ t with f:=(M.removeR x.base x.n t.f (t.hd k) (ad x p)).1,hd:=uph t.hd k (M.removeR x.base x.n t.f (t.hd k) (ad x p)).2.1 }
def remE(x:Bx)(t:Bt)(p k:Nat):Nat:=(M.removeR x.base x.n t.f (t.hd k) (ad x p)).2.2
theorem zgb(x:Bx)(t:Bt)(p k:Nat)(hp:p≤4000)(hk:k≤x.o)(w:World)(h:BdAt w x t):
  Calls Tryz.prog 148 #[.pointer (some ⟨x.L k,0,none⟩),.int .u64 ((ad x p:Nat):Int)] w fun e w'=>e=.returned (.int .i64 (remE x t p k:Int))∧BdAt w' x (remT x t p k)∧Kt (bown x) w w':=by
 have hb:=h.end63;refine(M.Remove_any (x.L k) x.s x.a x.base x.R x.lim x.n t.f (t.hd k) (ad x p) (by unfold ad;omega) w (h.ls' k hk)).mono ?_;rintro e w' ⟨rfl,h2,h3⟩;exact⟨rfl,h.list hk h3 h2,zde hk h3⟩
theorem zea{P:Program}{c:Code}{a:Act}{w:World}{Q:Exit→Act→World→Prop}(l:Nat)(J:Act→World→Prop)(μ : Act→World→Nat)(h0:J a w)
  (pass:∀ a w,J a w→c.wp P (Exit.jump l (fun a' w'=>J a' w'∧μ a' w'<μ a w) Q) a w):(Code.scope ((Code.label l).seq c)).wp P Q a w:=
 wp_scope_jumps l J μ (rest:=Code.skip.seq c) (by simp[findLabel]) (wp_seq (wp_label (Code.wp_mono (fun e a w h=>by
  cases e with
  | goto l'=>exact⟨h.1,h.2.1⟩
  | _=>exact h) (pass a w h0)))) (fun a w h=>wp_seq (wp_skip (pass a w h)))
def othN(p k:Nat):Nat:=p ^^^ 2 ^ k
def lowN(p k:Nat):Nat:=p &&& (18446744073709551615-2 ^ k)
def zbB(x:Bx):Nat→Bt→Nat→Nat→Bt×Nat×Nat
 | 0,t,p,k=>(t,p,k)
 | d+1,t,p,k=>if zbY x t (p:Int) (k:Int)=true then (if remE x t (othN p k) k=0 then zbB x d (zbp (remT x t (othN p k) k) (p:Int) (k:Int)) (lowN p k) (k+1) else (remT x t (othN p k) k,p,k)) else (t,p,k)
def zln(x:Bx)(r:Bt×Nat×Nat)(w W:World)(p k:Nat):Prop:=∃ t1,BdAt W x t1∧Kt (bown x) w W∧zbB x (x.o-k) t1 p k=r
theorem zjN(x:Bx)(t:Bt)(p0 k0:Nat)(hp0:p0≤1024)(hk0:k0≤x.o)(w:World)(h:BdAt w x t):
  Calls Tryz.prog 156 #[.pointer (some ⟨x.b,0,none⟩),.int .i64 (p0:Int),.int .i64 (k0:Int)] w fun e w'=>∃ tr pr kr,(tr,pr,kr)=zbB x (x.o-k0) t p0 k0∧e=.returned (.int .i64 (za1 x tr pr kr:Int))∧BdAt w' x (zaw x tr pr kr)∧Kt (bown x) w w':=by
 have ho:=h.o8;obtain⟨r,hr⟩:=xe (zbB x (x.o-k0) t p0 k0);rw[←hr];have H0:=hid (show zln x r w w p0 k0 from⟨t,h,Kt.refl _ _,hr.symm⟩);clear h hr;go_enter Tryz.func156,Tryz.ntmps156;go_wp2_with fail;refine zea 0 (fun a' W=>∃ (p k:Nat) (u7 u8 u9 u10 u11 u12 u13 u14 u15 u16 u17 u18 u19 u20 u21 u22 u23 u24 u25 u26 u27 u28 u29 u30 u31 u32 u33 u34 u35 u36 u37 u38 u39 u40 u41:Value),a'={ tmps:=#[.pointer (some ⟨x.b,0,none⟩),.int .i64 (p:Int),.int .i64 (k:Int),undef,undef,undef,.int .i64 0,u7,u8,u9,u10,u11,u12,u13,u14,u15,u16,u17,u18,u19,u20,u21,u22,u23,u24,u25,u26,u27,u28,u29,u30,u31,u32,u33,u34,u35,u36,u37,u38,u39,u40,u41],defers:=[] }∧k≤x.o∧p≤1024∧Hid (zln x r w W p k)) (fun a' _=>x.o-(intOf (a'.tmps.getD 2 undef)).toNat) ?_ ?_
 ·exact⟨p0,k0,_,_,_,_,_,_,_,_,_,_,_,_,_,_,_,_,_,_,_,_,_,_,_,_,_,_,_,_,_,_,_,_,_,_,_,rfl,hk0,hp0,H0⟩
 ·rintro a' wr ⟨p,k,u7,u8,u9,u10,u11,u12,u13,u14,u15,u16,u17,u18,u19,u20,u21,u22,u23,u24,u25,u26,u27,u28,u29,u30,u31,u32,u33,u34,u35,u36,u37,u38,u39,u40,u41,rfl,hk,hp,hJ⟩;obtain⟨t1,hB,hK,hc⟩:=hJ.out;have H1:=hid hB;have K1:=hid hK;have HC:=hid hc;clear hB hK hc hJ H0;have hk0:(0:Int)≤(k:Int):=by omega
  have hki:(k:Int)<((x.o+1:Nat):Int):=by omega
  have hki2:(k:Int)<(x.o:Int)+1:=by omega
  have hki3:k<x.o+1:=by omega
  have hkw:IntKind.i64.wrap (k:Int)=(k:Int):=by rw[IntKind.wrap_i64];omega
  obtain⟨z,hz⟩:=xe (2 ^ k);have hzi:(2:Int) ^ k=(z:Int):=by rw[hz];simp
  have hz2:z≤256:=by rw[hz];exact Nat.pow_le_pow_right (n:=2) (by decide) (show k≤8 by omega)
  have hzw:IntKind.i64.wrap (z:Int)=(z:Int):=by rw[IntKind.wrap_i64];omega
  obtain⟨q,hq⟩:=xe (othN p k);obtain⟨lo,hlo⟩:=xe (lowN p k);have hxor:bits .xor .i64 (p:Int) (z:Int)=(q:Int):=by rw[zdg p z (by omega) (by omega),hq,othN,hz]
  have hand:bits .andNot .i64 (p:Int) (z:Int)=(lo:Int):=by rw[zb0 p z (by omega) (by omega),hlo,lowN,hz]
  have hq4:q≤4000:=by
   have:q<2 ^ 11:=by rw[hq,othN,←hz];exact Nat.xor_lt_two_pow (by omega) (by omega)
   omega
  have hlp:lo≤p:=by rw[hlo];exact Nat.and_le_left
  have c3:=H1.out.b3;have cl:=H1.out.lc k hk;have AQ:=hid (fun n=>zdJ x t1 (p:Int) (k:Int) (wr.drewN n) (H1.out.keep ((Kt.refl nO wr).drewN n)));obtain⟨al,hal⟩:=xe (zbY x t1 (p:Int) (k:Int));rw[←hal] at AQ
  cases al with
  | false=>
   have HE:=hid (show r=(t1,p,k)by
    rw[←HC.out]
    cases hdd:x.o-k with
    | zero=>rfl
    | succ d=>rw[zbB,←hal,if_neg (by decide)])
   clear hal hq hlo HC;go_wp2_with fail;go_quiet ((go_at_call 177;exact Calls.quiet_of (AQ.out _)))
   have H2:=hid (H1.out.keep ((Kt.refl nO wr).drewN nq));have K2:=hid (bwT K1.out (zar ((Kt.refl nO wr).drewN nq)));generalize wr.drewN nq=W2 at *;go_wp2_with fail;refine(zdf x t1 p k (by omega) hk _ H2.out).mono ?_;rintro e w3 ⟨rfl,hB,hK⟩;have D:=hid (And.intro hB (bwT K2.out hK));clear hB hK;go_wp2_with fail;simp only[Exit.jump];go_ret;exact⟨t1,p,k,HE.out.symm,rfl,D.out⟩
  | true=>
   have hko:k<x.o:=by
    have e:=hal.symm;unfold zbY at e;simp only[Bool.and_eq_true,decide_eq_true_eq] at e;omega
   obtain⟨d,hd⟩:∃ d,x.o-k=d+1:=⟨x.o-k-1,by omega⟩;have HE:=hid (show r=if remE x t1 q k=0 then zbB x d (zbp (remT x t1 q k) (p:Int) (k:Int)) lo (k+1) else (remT x t1 q k,p,k)by
    rw[←HC.out,hd,zbB,←hal,if_pos rfl,←hq,←hlo])
   have HDD:=hid (show d=x.o-(k+1)by omega);have AL:=hid (show Calls Tryz.prog 177 #[.pointer (some ⟨x.b,0,none⟩),.int .i64 (p:Int),.int .i64 (k:Int)] wr.drew fun e w'=>e=.returned (.bool true)∧Hid (BdAt w' x t1∧Kt nO wr w')from(zdJ x t1 (p:Int) (k:Int) wr.drew (H1.out.keep (Kt.refl nO wr).drew)).mono (by
    rintro e w' ⟨rfl,r',rfl⟩;rw[←hal];exact⟨rfl,H1.out.keep (((Kt.refl nO wr).drew).drewN r'),((Kt.refl nO wr).drew).drewN r'⟩))
   have ADR:=hid (show ∀ W,BdAt W x t1→Calls Tryz.prog 153 #[.pointer (some ⟨x.b,0,none⟩),.int .i64 (q:Int)] W fun e w'=>e=.returned (.int .u64 ((ad x q:Nat):Int))∧w'=W from fun W hW=>za9 x t1 q hq4 W hW);have REM:=hid (fun W (hW:BdAt W x t1)=>zgb x t1 q k hq4 hk W hW);obtain⟨a,ha⟩:=xe (ad x q);rw[←ha] at ADR REM;obtain⟨e0,he0⟩:=xe (remE x t1 q k);rw[←he0] at HE REM;clear hal hq hlo HC hd AQ ha he0 hz;have c3d:wr.drew.cell? ⟨x.b,3,none⟩=some (.slice (some ⟨x.l,0,none⟩) (x.o+1) x.c):=c3;have cld:wr.drew.cell? ⟨x.l,k,none⟩=some (.pointer (some ⟨x.L k,0,none⟩)):=cl;by_cases h0:e0=0
   ·have h0i:(e0:Int)=0:=(by omega);have h0b:((e0:Int) == 0)=true:=(by simp[h0i]);rw[if_pos h0] at HE;clear h0;go_wp2_with fail;go_region_held3 (fun w'=>w'.cell? ⟨x.b,3,none⟩=some (.slice (some ⟨x.l,0,none⟩) (x.o+1) x.c)∧w'.cell? ⟨x.l,k,none⟩=some (.pointer (some ⟨x.L k,0,none⟩))) (first|with_reducible exact⟨c3d,cld⟩|with_reducible exact⟨c31,cl1⟩|with_reducible exact⟨c32,cl2⟩) (first|(go_at_call 177;refine AL.out.mono ?_;rintro e w1 ⟨rfl,hD⟩;have H2:=hid hD.out.1;have K2:=hid (bwT K1.out (zar hD.out.2));have c31:=H2.out.b3;have cl1:=H2.out.lc k hk;clear hD)|(go_at_call 153;(try rw[hzw]);(try rw[hxor]);refine(ADR.out _ H2.out).mono ?_;rintro e w2 ⟨rfl,hw2⟩;rw[hw2];clear hw2)|(go_at_call 148;refine(REM.out _ H2.out).mono ?_;rintro e w3 ⟨rfl,hB,hK⟩;have H3:=hid hB;have K3:=hid (bwT K2.out hK);have c32:=H3.out.b3;have cl2:=H3.out.lc k hk;clear hB hK))
    all_goals
     clear c3 cl c3d cld c31 cl1 c32 cl2 AL ADR REM h0b;go_wp2_with fail;refine(zd8 x _ (p:Int) (k:Int) _ H3.out).mono ?_;rintro e w4 ⟨rfl,hB,hK⟩;have N4:=hid (show zln x r w w4 lo (k+1)from⟨_,hB,bwT K3.out hK,by rw[←HDD.out];exact HE.out.symm⟩);clear hB hK;go_wp2_with fail;go_step3
     exact⟨rfl,⟨lo,k+1,_,_,_,_,_,_,_,_,_,_,_,_,_,_,_,_,_,_,_,_,_,_,_,_,_,_,_,_,_,_,_,_,_,_,_,rfl,by omega,by omega,N4⟩,by simp[intOf];omega⟩
   ·have h0i:¬(e0:Int)=0:=(by omega);have h0b:((e0:Int) == 0)=false:=beq_eq_false_iff_ne.2 h0i;rw[if_neg h0] at HE;clear h0;go_wp2_with fail;go_region_held3 (fun w'=>w'.cell? ⟨x.b,3,none⟩=some (.slice (some ⟨x.l,0,none⟩) (x.o+1) x.c)∧w'.cell? ⟨x.l,k,none⟩=some (.pointer (some ⟨x.L k,0,none⟩))) (first|with_reducible exact⟨c3d,cld⟩|with_reducible exact⟨c31,cl1⟩|with_reducible exact⟨c32,cl2⟩) (first|(go_at_call 177;refine AL.out.mono ?_;rintro e w1 ⟨rfl,hD⟩;have H2:=hid hD.out.1;have K2:=hid (bwT K1.out (zar hD.out.2));have c31:=H2.out.b3;have cl1:=H2.out.lc k hk;clear hD)|(go_at_call 153;(try rw[hzw]);(try rw[hxor]);refine(ADR.out _ H2.out).mono ?_;rintro e w2 ⟨rfl,hw2⟩;rw[hw2];clear hw2)|(go_at_call 148;refine(REM.out _ H2.out).mono ?_;rintro e w3 ⟨rfl,hB,hK⟩;have H3:=hid hB;have K3:=hid (bwT K2.out hK);have c32:=H3.out.b3;have cl2:=H3.out.lc k hk;clear hB hK))
    all_goals
     clear c3 cl c3d cld c31 cl1 c32 cl2 AL ADR REM h0b;go_wp2_with fail;refine(zdf x _ p k (by omega) hk _ H3.out).mono ?_;rintro e w5 ⟨rfl,hB,hK⟩;have D:=hid (And.intro hB (bwT K3.out hK));clear hB hK;go_wp2_with fail;simp only[Exit.jump];go_ret;exact⟨_,p,k,HE.out.symm,rfl,D.out⟩
end Go.Proofs.YtgjdmkfpmokkaaaGreatDoor
