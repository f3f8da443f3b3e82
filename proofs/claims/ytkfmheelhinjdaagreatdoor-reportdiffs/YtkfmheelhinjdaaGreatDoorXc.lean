import Derived.Test.YtkfmheelhinjdaaGreatDoorProg
import Derived.WalkKit
import Derived.WalkSpells
import Derived.WalkLawsBesides
import Derived.Outline
import Derived.Laws.CopyOwn
import Derived.RegionTactic
import Derived.ChangeAlike
import Derived.Deep.QuietTactic
import Derived.BigQuiet
import Derived.Defers
import Derived.Recover
import Derived.Lib.AppendZerosOnto
import Derived.Deep.RegionLaw
import Derived.Laws.Bits64b
set_option maxRecDepth 1000000
set_option maxHeartbeats 80000000
namespace Go.Proofs.YtkfmheelhinjdaaGreatDoor.M
open _root_.Go.Proofs.Tryz
theorem xe{α:Sort _}(a:α):∃ x,x=a:=⟨a,rfl⟩
open Go.RowKit
set_option linter.unusedVariables false
theorem aA{p:Prop}(h:p):Hid p:=h
theorem eJ{k:IntKind}{a b:Int}(h:a=b):Ending.returned (.int k a)=.returned (.int k b):=by rw[h]
theorem cO{a b:Bool}(h:a=b):Ending.returned (.bool a)=.returned (.bool b):=by rw[h]
theorem wrap_u64(n:Int):IntKind.u64.wrap n=n%2 ^ 64:=IntKind.wrap_u64 n
structure Kt(S:Nat->Prop)(w w':World):Prop where
 os:w'.os=w.os
 tape:w'.tape=w.tape
 output:w'.output=w.output
 size:w.heap.size<=w'.heap.size
 block:∀ k,k<w.heap.size->¬S k->w'.heap[k]?=w.heap[k]?
theorem Kt.refl(S:Nat->Prop)(w:World):Kt S w w:=⟨rfl,rfl,rfl,Nat.le_refl _,fun _ _ _=>rfl⟩
theorem Kt.trans{S T U:Nat->Prop}{a b c:World}(h:Kt S a b)(k:Kt T b c)(hS:∀ x,x<a.heap.size->S x->U x)(hT:∀ x,x<a.heap.size->T x->U x):Kt U a c:=
 ⟨k.os.trans h.os,k.tape.trans h.tape,k.output.trans h.output,Nat.le_trans h.size k.size,fun i hi hU=>(k.block i (Nat.lt_of_lt_of_le hi h.size) (fun x=>hU (hT i hi x))).trans (h.block i hi (fun x=>hU (hS i hi x)))⟩
theorem Kt.mono{S T:Nat->Prop}{a b:World}(h:Kt S a b)(hS:∀ x,x<a.heap.size->S x->T x):Kt T a b:=
 ⟨h.os,h.tape,h.output,h.size,fun i hi hU=>h.block i hi (fun x=>hU (hS i hi x))⟩
theorem Kt.drew{S:Nat->Prop}{a b:World}(h:Kt S a b):Kt S a b.drew:=⟨h.os,h.tape,h.output,h.size,h.block⟩
theorem Kt.drewN{S:Nat->Prop}{a b:World}(h:Kt S a b)(n:Nat):Kt S a (b.drewN n):=⟨h.os,h.tape,h.output,h.size,h.block⟩
theorem Kt.alloc{S:Nat->Prop}{a b:World}(h:Kt S a b)(o:Obj):Kt S a (b.alloc o):=
 ⟨h.os,h.tape,h.output,by simp;have:=h.size;omega,fun i hi hU=>by rw[Below.heap_alloc _ _ _ (by have:=h.size;omega)];exact h.block i hi hU⟩
theorem Kt.setCell{S:Nat->Prop}{a b:World}(h:Kt S a b){p:Addr}(hp:p.block<a.heap.size->S p.block)(u:Value):Kt S a (b.setCell p u):=
 ⟨h.os,h.tape,h.output,by simp;exact h.size,fun i hi hU=>by rw[Below.heap_setCell b p u i (fun e=>hU (by rw[e];exact hp (e▸hi)))];exact h.block i hi hU⟩
theorem Kt.setRow{S:Nat->Prop}{a b:World}(h:Kt S a b){g:Nat}(hg:g<a.heap.size->S g)(cs:Array Value):Kt S a (b.setRow g cs):=
 ⟨h.os,h.tape,h.output,by simp[World.setRow];exact h.size,fun i hi hU=>by rw[setRow_other b g i _ (fun e=>hU (by rw[e];exact hg (e▸hi)))];exact h.block i hi hU⟩
theorem uK{w:World}{p:Addr}{v:Value}(h:w.cell? p=some v):p.block<w.heap.size:=by
 rcases Nat.lt_or_ge p.block w.heap.size with h1|h1
 ·exact h1
 ·exfalso
  simp[World.cell?,Array.getElem?_eq_none h1] at h
theorem Kt.cell{S:Nat->Prop}{a b:World}(h:Kt S a b){p:Addr}{v:Value}(hp:¬S p.block)(hc:a.cell? p=some v):b.cell? p=some v:=by
 rw[<-hc];exact World.cell?_of_block (h.block _ (uK hc) hp)
theorem nH(w:World)(o:Obj):(w.alloc o).heap[w.heap.size]?=some o:=by
 show(w.heap.push o)[w.heap.size]?=_
 simp
def bK(rs:List Nat):Array Value:=(rs.map fun (x:Nat)=>Value.int .u8 x).toArray
theorem CD(rs:List Nat):(bK rs).size=rs.length:=by simp[bK]
def own(b:Nat)(ao:Option Nat):Nat->Prop:=fun x=>x=b\/ao=some x
def nO:Nat->Prop:=fun _=>False
structure Cfg(bS R lim:Nat):Prop where
 b1 : 1<=bS
 l1 : 1<=lim
 l2:lim<=64
 r1 : 4096<=R
 r2:R<=1048576
 lr:lim*R<=4194304
 be:bS+lim*R<=9223372036854775808
def sF(w:World)(b:Nat)(ao:Option Nat)(n cap:Nat)(f:Nat->Nat):Prop:=
 match ao with
 | none=>n=0/\cap=0
 | some g=>g≠b/\∃ rs:List Nat,rs.length=cap/\w.heap[g]?=some (.cells (bK rs) 5 (0,0))/\n<=cap/\(∀ i,i<n->rs.getD i 0=f i)/\∀ i,rs.getD i 0<256
def dC(ao:Option Nat):Option Addr:=ao.map fun g=>⟨g,0,none⟩
structure SpA(w:World)(b:Nat)(ao:Option Nat)(bS R lim n:Nat)(f:Nat->Nat):Prop where
 cfg:Cfg bS R lim
 kn:∃ k,n=k*R/\k<=lim
 ex:∃ cap,w.heap[b]?=some (.cells #[.int .u64 bS,.int .u64 R,.int .i64 lim,.slice (dC ao) n cap] 140 (0,0))/\sF w b ao n cap f
theorem SpA.blt{w b ao bS R lim n f}(h:SpA w b ao bS R lim n f):b<w.heap.size:=by
 obtain⟨cap,hb,_⟩:=h.ex;exact(Array.getElem?_eq_some_iff.1 hb).1
theorem SpA.glt{w b g bS R lim n f}(h:SpA w b (some g) bS R lim n f):g<w.heap.size:=by
 obtain⟨cap,_,_,rs,_,hg,_⟩:=h.ex;exact(Array.getElem?_eq_some_iff.1 hg).1
theorem SpA.own_lt{w b ao bS R lim n f}(h:SpA w b ao bS R lim n f)(x:Nat)(hx:own b ao x):x<w.heap.size:=by
 rcases hx with rfl|rfl
 ·exact h.blt
 ·exact h.glt
theorem SpA.nle{w b ao bS R lim n f}(h:SpA w b ao bS R lim n f):n<=lim*R:=by
 obtain⟨k,rfl,hk⟩:=h.kn;exact Nat.mul_le_mul_right _ hk
theorem SpA.kept{w w' b ao bS R lim n f}{S:Nat->Prop}(h:SpA w b ao bS R lim n f)(k:Kt S w w')(hS:∀ x,own b ao x->¬S x):SpA w' b ao bS R lim n f:=by
 have hl:=h.own_lt;obtain⟨cap,hb,hr⟩:=h.ex;refine⟨h.cfg,h.kn,cap,(k.block b (hl b (Or.inl rfl)) (hS b (Or.inl rfl))).trans hb,?_⟩
 cases ao with
 | none=>exact hr
 | some g=>
  obtain⟨hne,rs,h1,h2,h3⟩:=hr;exact⟨hne,rs,h1,(k.block g (hl g (Or.inr rfl)) (hS g (Or.inr rfl))).trans h2,h3⟩
theorem SpA.keep{w w' b ao bS R lim n f}(h:SpA w b ao bS R lim n f)(k:Kt nO w w'):SpA w' b ao bS R lim n f:=
 h.kept k (fun _ _ x=>x)
theorem SpA.c0{w b ao bS R lim n f}(h:SpA w b ao bS R lim n f):w.cell? ⟨b,0,none⟩=some (.int .u64 bS):=by
 obtain⟨cap,hb,_⟩:=h.ex;simp[World.cell?,hb]
theorem SpA.c1{w b ao bS R lim n f}(h:SpA w b ao bS R lim n f):w.cell? ⟨b,1,none⟩=some (.int .u64 R):=by
 obtain⟨cap,hb,_⟩:=h.ex;simp[World.cell?,hb]
theorem SpA.c2{w b ao bS R lim n f}(h:SpA w b ao bS R lim n f):w.cell? ⟨b,2,none⟩=some (.int .i64 lim):=by
 obtain⟨cap,hb,_⟩:=h.ex;simp[World.cell?,hb]
theorem SpA.c3{w b ao bS R lim n f}(h:SpA w b ao bS R lim n f):∃ cap,w.cell? ⟨b,3,none⟩=some (.slice (dC ao) n cap):=by
 obtain⟨cap,hb,_⟩:=h.ex;exact⟨cap,by simp[World.cell?,hb]⟩
theorem regions_any(b ao bS R lim n f)(w:World)(h:SpA w b ao bS R lim n f):
  Calls prog 39 #[.pointer (some ⟨b,0,none⟩)] w fun e w'=>e=.returned (.int .i64 ((n/R:Nat):Int))/\∃ m,w'=w.drewN m:=by
 obtain⟨cap,h3⟩:=h.c3;have h1:=h.c1;have hn:=h.nle;have hc:=h.cfg;have r1:=hc.r1;have r2:=hc.r2;have hn2:n<=4194304:=Nat.le_trans hn hc.lr;have r0:¬(R:Int)=0:=by omega
 have E:=aA (show wrap64 ((n:Int)/(R:Int))=((n/R:Nat):Int)by
  have hq:n/R<=n:=Nat.div_le_self _ _;rw[<-Int.natCast_ediv];generalize n/R=q at hq;unfold wrap64;omega)
 clear h hc hn;go_enter func39,ntmps39;go_wp2
 go_quiet (fail)
 go_wp2
 go_ret;exact⟨eJ E.out,_,rfl⟩
theorem end_any(b ao bS R lim n f)(w:World)(h:SpA w b ao bS R lim n f):
  Calls prog 88 #[.pointer (some ⟨b,0,none⟩)] w fun e w'=>e=.returned (.int .u64 ((bS+n:Nat):Int))/\∃ m,w'=w.drewN m:=by
 obtain⟨cap,h3⟩:=h.c3;have h0:=h.c0;have hn:=h.nle;have hc:=h.cfg;have be:=hc.be;have lr:=hc.lr;have hn2:n<=4194304:=Nat.le_trans hn hc.lr;have hbn:bS+n<=9223372036854775808:=by omega
 have E:=aA (show(bS:Int)+(n:Int)=((bS+n:Nat):Int)by simp);clear h hc hn lr be;go_enter func88,ntmps88;go_wp2
 go_quiet (fail)
 go_wp2
 go_ret;exact⟨eJ E.out,_,rfl⟩
theorem MF(b:Nat)(p:Int)(w:World):
  Calls prog 87 #[.pointer (some ⟨b,0,none⟩),.int .u64 p,.int .u64 0] w fun e w'=>e=.returned (.slice none 0 0)/\w'=w:=by
 go_enter func87,ntmps87;go_wp2
 go_ret;exact⟨rfl,rfl⟩
def In(bS n p k:Nat):Prop:=bS<=p/\p+k<=bS+n
theorem mD(b g bS R lim n f)(p k:Nat)(w:World)(h:SpA w b (some g) bS R lim n f)(hk : 0<k)(hin:In bS n p k):
  Calls prog 87 #[.pointer (some ⟨b,0,none⟩),.int .u64 p,.int .u64 k] w fun e w'=>(∃ c,e=.returned (.slice (some ⟨g,p-bS,none⟩) k c))/\∃ m,w'=w.drewN m:=by
 have hH:=h;have h0:=h.c0;have hn:=h.nle;have hc:=h.cfg;have be:=hc.be;have lr:=hc.lr;obtain⟨cap,hb,_,rs,hrl,hg,hnc,_,_⟩:=h.ex;have h3:w.cell? ⟨b,3,none⟩=some (.slice (some ⟨g,0,none⟩) n cap):=by simp[World.cell?,hb,dC]
 obtain⟨hp1,hp2⟩:=hin;have HH:=aA hH;obtain⟨o,rfl⟩:∃ o,p=bS+o:=⟨p-bS,by omega⟩;have e1:bS+o-bS=o:=by omega
 rw[e1];have ho:o+k<=n:=by omega
 have hoc:o+k<=cap:=by omega
 have hn2:n<=4194304:=by omega
 have hbn:bS+n<=9223372036854775808:=by omega
 clear h hc hH lr be hn hg hrl hb hp1 hp2 e1;go_enter func87,ntmps87;go_wp2_with (go_at_call 88;refine(end_any b (some g) bS R lim n f _ HH.out).mono ?_;rintro e w' ⟨rfl,m,rfl⟩)
 go_ret;refine⟨⟨cap-o,?_⟩,_,rfl⟩;show Ending.returned (.slice (some ⟨g,bS+o-bS,none⟩) (bS+o-bS+k-(bS+o-bS)) (cap-(bS+o-bS)))=_
 have e1:bS+o-bS=o:=by omega
 have e2:o+k-o=k:=by omega
 rw[e1,e2]
def XG:List PanicEntry:=[{ v:=.iface 24 (.int .i64 4),recovered:=false }]
theorem qI(b ao bS R lim n f)(p k:Nat)(w:World)(h:SpA w b ao bS R lim n f)(hp64:p<18446744073709551616)(hk64:k<18446744073709551616)(hk : 0<k)(hin:¬In bS n p k):
  Calls prog 87 #[.pointer (some ⟨b,0,none⟩),.int .u64 p,.int .u64 k] w fun e w'=>e=.panicked XG/\∃ m,w'=w.drewN m:=by
 have h0:=h.c0;have hn:=h.nle;have hc:=h.cfg;have be:=hc.be;have lr:=hc.lr;have HH:=aA h;have hn2:n<=4194304:=by omega
 have hbn:bS+n<=9223372036854775808:=by omega
 by_cases h1:p<bS
 ·clear h hc lr be hn hin;go_enter func87,ntmps87;go_wp2_with (go_at_call 88;refine(end_any b ao bS R lim n f _ HH.out).mono ?_;rintro e w' ⟨rfl,m,rfl⟩)
  exact⟨rfl,rfl,_,rfl⟩
 ·by_cases h2:bS+n<p
  ·clear h hc lr be hn hin;go_enter func87,ntmps87;go_wp2_with (go_at_call 88;refine(end_any b ao bS R lim n f _ HH.out).mono ?_;rintro e w' ⟨rfl,m,rfl⟩)
   exact⟨rfl,rfl,_,rfl⟩
  ·have h3:bS+n-p<k:=(by unfold In at hin;omega);have h4:(bS:Int)+n-p<k:=(by omega);clear h hc lr be hn hin h3;go_enter func87,ntmps87;go_wp2_with (go_at_call 88;refine(end_any b ao bS R lim n f _ HH.out).mono ?_;rintro e w' ⟨rfl,m,rfl⟩)
   exact⟨rfl,rfl,_,rfl⟩
theorem rR(w:World):Calls prog 86 #[.nilIface] w fun e w'=>e=.returned (.int .i64 0)/\w'=w:=by
 go_enter func86,ntmps86;go_wp2
 go_ret;exact⟨rfl,rfl⟩
theorem AS(t:TypeId)(v:Value)(w:World):Calls prog 86 #[.iface t v] w fun e w'=>e=.returned (.int .i64 4)/\w'=w:=by
 go_enter func86,ntmps86;go_wp2
 go_ret;exact⟨rfl,rfl⟩
theorem JY(p:Addr)(x:Int)(u:TypeId)(pv:Value)(older:List PanicEntry)(w:World)(hc:w.cell? p=some (.int .i64 x))(hz:w.frozen? p=false):
  CallsD prog 278 #[.pointer (some p)] (.panicking ({ v:=.iface u pv,recovered:=false } :: older)) w fun e u' w'=>
   e=.returned (.tuple #[])/\u'=.panicking ({ v:=.iface u pv,recovered:=true } :: older)/\w'=w.setCell p (.int .i64 4):=by
 refine callsD_of_wpS func278 rfl fun c₀ cs hu=>?_
 apply wpS_region
 simp[wpOpsS,go_sem,recoverD,hu,ntmps278];refine(AS _ _ _).mono ?_;rintro e w' ⟨rfl,rfl⟩;simp[go_sem,hc,hz,bodyPostS,results,results278]
theorem JX(p:Addr)(x:Int)(w:World)(hc:w.cell? p=some (.int .i64 x))(hz:w.frozen? p=false):
  CallsD prog 278 #[.pointer (some p)] .returning w fun e u' w'=>e=.returned (.tuple #[])/\u'=.returning/\w'=w.setCell p (.int .i64 0):=by
 refine callsD_of_wpS func278 rfl fun c₀ cs hu=>?_
 apply wpS_region
 simp[wpOpsS,go_sem,recoverD,hu,ntmps278];refine(rR _).mono ?_;rintro e w' ⟨rfl,rfl⟩
 cases c₀
 simp_all [go_sem,bodyPostS,results,results278]
theorem JW(p:Addr)(x:Int)(u:TypeId)(pv:Value)(older:List PanicEntry)(w:World)(hc:w.cell? p=some (.int .i64 x))(hz:w.frozen? p=false):
  CallsD prog 277 #[.pointer (some p)] (.panicking ({ v:=.iface u pv,recovered:=false } :: older)) w fun e u' w'=>
   e=.returned (.tuple #[])/\u'=.panicking ({ v:=.iface u pv,recovered:=true } :: older)/\w'=w.setCell p (.int .i64 4):=by
 refine callsD_of_wpS func277 rfl fun c₀ cs hu=>?_
 apply wpS_region
 simp[wpOpsS,go_sem,recoverD,hu,ntmps277];refine(AS _ _ _).mono ?_;rintro e w' ⟨rfl,rfl⟩;simp[go_sem,hc,hz,bodyPostS,results,results277]
theorem JV(p:Addr)(x:Int)(w:World)(hc:w.cell? p=some (.int .i64 x))(hz:w.frozen? p=false):
  CallsD prog 277 #[.pointer (some p)] .returning w fun e u' w'=>e=.returned (.tuple #[])/\u'=.returning/\w'=w.setCell p (.int .i64 0):=by
 refine callsD_of_wpS func277 rfl fun c₀ cs hu=>?_
 apply wpS_region
 simp[wpOpsS,go_sem,recoverD,hu,ntmps277];refine(rR _).mono ?_;rintro e w' ⟨rfl,rfl⟩
 cases c₀
 simp_all [go_sem,bodyPostS,results,results277]
theorem YJ(p:Addr)(x:Int)(w:World)(hc:w.cell? p=some (.int .i64 x))(hz:w.frozen? p=false):
  CallsD prog 276 #[.pointer (some p)] .returning w fun e u' w'=>e=.returned (.tuple #[])/\u'=.returning/\w'=w.setCell p (.int .i64 0):=by
 refine callsD_of_wpS func276 rfl fun c₀ cs hu=>?_
 apply wpS_region
 simp[wpOpsS,go_sem,recoverD,hu,ntmps276];refine(rR _).mono ?_;rintro e w' ⟨rfl,rfl⟩
 cases c₀
 simp_all [go_sem,bodyPostS,results,results276]
theorem wQ(p:Addr)(x:Int)(w:World)(hc:w.cell? p=some (.int .i64 x))(hz:w.frozen? p=false):
  CallsD prog 85 #[.pointer (some p)] .returning w fun e u' w'=>e=.returned (.tuple #[])/\u'=.returning/\w'=w.setCell p (.int .i64 0):=by
 refine callsD_of_wpS func85 rfl fun c₀ cs hu=>?_
 apply wpS_region
 simp[wpOpsS,go_sem,recoverD,hu,ntmps85];refine(rR _).mono ?_;rintro e w' ⟨rfl,rfl⟩
 cases c₀
 simp_all [go_sem,bodyPostS,results,results85]
structure Err(S:Nat->Prop)(w w1:World):Prop where
 k:Kt S w w1
 he:w1.heap[w.heap.size]?=some (.cells #[.int .i64 0] 24 (0,0))
 sz:w1.heap.size=w.heap.size+1
theorem Err.mk'(S:Nat->Prop)(w:World):Err S w (w.alloc (.cells #[.int .i64 0] 24)):=⟨(Kt.refl _ w).alloc _,nH _ _,by simp⟩
theorem Err.drewN{S:Nat->Prop}{w w1:World}(h:Err S w w1)(m:Nat):Err S w (w1.drewN m):=⟨h.k.drewN m,h.he,h.sz⟩
theorem Err.c{S:Nat->Prop}{w w1:World}(h:Err S w w1):w1.cell? ⟨w.heap.size,0,none⟩=some (.int .i64 0):=by simp[World.cell?,h.he]
theorem Err.f{S:Nat->Prop}{w w1:World}(h:Err S w w1):w1.frozen? ⟨w.heap.size,0,none⟩=false:=by simp[World.frozen?,h.he]
theorem Err.mono{S T:Nat->Prop}{w w1:World}(h:Err S w w1)(hST:∀ x,S x->T x):Err T w w1:=⟨h.k.mono (fun x _=>hST x),h.he,h.sz⟩
theorem Err.setCell{S:Nat->Prop}{w w1:World}(h:Err S w w1){g:Nat}(hg:g<w.heap.size)(hS:S g)(i:Nat)(u:Value):Err S w (w1.setCell ⟨g,i,none⟩ u):=
 ⟨h.k.setCell (fun _=>hS) u,by rw[Below.heap_setCell _ _ _ _ (by simp;omega)];exact h.he,by simp;exact h.sz⟩
theorem Err.done{S:Nat->Prop}{w w1:World}(h:Err S w w1)(u:Value):Kt S w (w1.setCell ⟨w.heap.size,0,none⟩ u):=h.k.setCell (fun h=>absurd h (Nat.lt_irrefl _)) _
theorem Err.done2{S:Nat->Prop}{w w1:World}(h:Err S w w1)(u v:Value):Kt S w ((w1.setCell ⟨w.heap.size,0,none⟩ u).setCell ⟨w.heap.size,0,none⟩ v):=(h.done u).setCell (fun h=>absurd h (Nat.lt_irrefl _)) _
theorem SpA.cg{w b g bS R lim n f}(h:SpA w b (some g) bS R lim n f)(i:Nat)(hi:i<n):w.cell? ⟨g,i,none⟩=some (.int .u8 ((f i:Nat):Int)):=by
 obtain⟨cap,hb,_,rs,hrl,hg,hnc,hf,_⟩:=h.ex;rw[<-hf i hi];simp[World.cell?,hg,bK,show i<rs.length by omega]
theorem SpA.fg{w b g bS R lim n f}(h:SpA w b (some g) bS R lim n f)(i:Nat):w.frozen? ⟨g,i,none⟩=false:=by
 obtain⟨cap,hb,_,rs,hrl,hg,hnc,hf,_⟩:=h.ex;simp[World.frozen?,hg]
theorem mkf:∀ (fn:Fn) (first cap:Array Value) (w:World),(Instr.makeFunc fn first cap).run prog w=.ok (.func fn first cap) w:=fun _ _ _ _=>rfl
theorem QM(b ao bS R lim n f)(p k:Nat)(v:Int)(va:Option Addr)(vc:Nat)(w:World)(h:SpA w b ao bS R lim n f)(hp:p<18446744073709551616)(hk:k<18446744073709551616)(hk0 : 0<k)(hin:¬In bS n p 1):
  Calls prog 256 #[.pointer (some ⟨b,0,none⟩),.int .u64 p] w fun e w'=>e=.returned (.tuple #[.int .u8 0,.int .i64 4])/\Kt nO w w':=by
 have hmf:=mkf;have HH:=aA h;have HI:=aA hin;clear h hin;go_enter_defers func256,ntmps256;go_wp2_with fail;refine(qI b ao bS R lim n f p 1 _ (HH.out.keep (Err.mk' nO w).k) hp (by omega) (by omega) HI.out).mono ?_;rintro e w1 ⟨rfl,m,hw⟩;have hE:Err nO w w1:=by rw[hw];exact(Err.mk' nO w).drewN m
 have hec:=hE.c;have hef:=hE.f;have HE:=aA hE;clear hE hw;refine leaves_cons (f:=278) (args:=#[.pointer (some ⟨w.heap.size,0,none⟩)]) (by simp) (by simp[go_sem]) ?_;refine(JY ⟨w.heap.size,0,none⟩ 0 _ _ [] w1 hec hef).mono ?_;rintro e u' w'' ⟨rfl,rfl,rfl⟩;refine⟨(.tuple #[.int .u8 0,.int .i64 4]),?_,rfl,HE.out.done _⟩;simp[results,results256,go_sem,hec]
theorem QL(b ao bS R lim n f)(p k:Nat)(v:Int)(va:Option Addr)(vc:Nat)(w:World)(h:SpA w b ao bS R lim n f)(hp:p<18446744073709551616)(hk:k<18446744073709551616)(hk0 : 0<k)(hin:¬In bS n p 8):
  Calls prog 252 #[.pointer (some ⟨b,0,none⟩),.int .u64 p] w fun e w'=>e=.returned (.tuple #[.int .u64 0,.int .i64 4])/\Kt nO w w':=by
 have hmf:=mkf;have HH:=aA h;have HI:=aA hin;clear h hin;go_enter_defers func252,ntmps252;go_wp2_with fail;refine(qI b ao bS R lim n f p 8 _ (HH.out.keep (Err.mk' nO w).k) hp (by omega) (by omega) HI.out).mono ?_;rintro e w1 ⟨rfl,m,hw⟩;have hE:Err nO w w1:=by rw[hw];exact(Err.mk' nO w).drewN m
 have hec:=hE.c;have hef:=hE.f;have HE:=aA hE;clear hE hw;refine leaves_cons (f:=277) (args:=#[.pointer (some ⟨w.heap.size,0,none⟩)]) (by simp) (by simp[go_sem]) ?_;refine(JW ⟨w.heap.size,0,none⟩ 0 _ _ [] w1 hec hef).mono ?_;rintro e u' w'' ⟨rfl,rfl,rfl⟩;refine⟨(.tuple #[.int .u64 0,.int .i64 4]),?_,rfl,HE.out.done _⟩;simp[results,results252,go_sem,hec]
def upd(f:Nat->Nat)(o k:Nat)(g:Nat->Nat):Nat->Nat:=fun i=>if o<=i/\i<o+k then g (i-o) else f i
theorem TF(f:Nat->Nat)(o:Nat)(g:Nat->Nat):upd f o 0 g=f:=by
 funext i
 simp only[upd];rw[if_neg (by omega)]
theorem TE(f:Nat->Nat)(o k:Nat)(g:Nat->Nat):upd (upd f o k g) (o+k) 1 (fun _=>g k)=upd f o (k+1) g:=by
 funext i
 simp only[upd];by_cases h1:i=o+k
 ·subst h1;rw[if_pos (by omega),if_pos (by omega),Nat.add_sub_cancel_left]
 ·rw[if_neg (by omega)];by_cases h2:o<=i/\i<o+k
  ·rw[if_pos h2,if_pos (by omega)]
  ·rw[if_neg h2,if_neg (by omega)]
def lay(rs:List Nat)(o k:Nat)(g:Nat->Nat):List Nat:=rs.take o ++ ((List.range k).map g ++ rs.drop (o + k))
theorem NR(rs:List Nat)(o k:Nat)(g:Nat->Nat)(h:o+k<=rs.length):(lay rs o k g).length=rs.length:=by simp[lay];omega
theorem xE(rs:List Nat)(o k:Nat)(g:Nat->Nat)(h:o+k<=rs.length)(i:Nat):(lay rs o k g).getD i 0=if o<=i/\i<o+k then g (i-o) else rs.getD i 0:=by
 simp only[lay,List.getD,List.getElem?_append,List.length_take,List.length_map,List.length_range,List.getElem?_take,List.getElem?_drop,List.getElem?_map];have e:min o rs.length=o:=by omega
 rw[e];by_cases h1:i<o
 ·have h3:¬(o<=i/\i<o+k):=by omega
  simp only[h1,h3,if_true,if_false]
 ·rw[if_neg h1];by_cases h2:i-o<k
  ·rw[if_pos h2,if_pos (by omega),List.getElem?_range h2];rfl
  ·rw[if_neg h2,if_neg (by omega)];congr 2
   omega
theorem zK(rs:List Nat)(o k:Nat)(g:Nat->Nat)(cs:List Value)(hcs:cs=(List.range k).map fun i=>Value.int .u8 ((g i:Nat):Int)):
  ((bK rs).toList.take o ++ cs ++ (bK rs).toList.drop (o + cs.length)).toArray=bK (lay rs o k g):=by
 subst hcs;simp only[bK,lay,List.length_map,List.length_range,List.map_append,List.map_map,List.append_assoc,<-List.map_take,<-List.map_drop];rfl
theorem SpA.write{w b g bS R lim n f}(h:SpA w b (some g) bS R lim n f)(o y:Nat)(ho:o<n)(hy:y<256):SpA (w.setCell ⟨g,o,none⟩ (.int .u8 y)) b (some g) bS R lim n (upd f o 1 fun _=>y):=by
 obtain⟨cap,hb,hne,rs,hrl,hg,hnc,hf,hr⟩:=h.ex;refine⟨h.cfg,h.kn,cap,?_,hne,rs.set o y,?_,?_,hnc,?_,?_⟩
 ·rw[Below.heap_setCell _ _ _ _ (fun e=>hne e.symm)];exact hb
 ·simpa using hrl
 ·simp only[World.setCell];rw[Array.getElem?_modify,if_pos rfl,hg];simp[bK,List.map_set]
 ·intro i hi;simp only[upd];by_cases e:i=o
  ·subst e;rw[if_pos (by omega)];simp[List.getD,show i<rs.length by omega]
  ·rw[if_neg (by omega),<-hf i hi];simp[List.getD,Ne.symm e]
 ·intro i;by_cases e:i=o
  ·subst e;simp[List.getD,show i<rs.length by omega,hy]
  ·have:=hr i;simpa [List.getD,Ne.symm e] using this
theorem SpA.f256{w b g bS R lim n f}(h:SpA w b (some g) bS R lim n f)(i:Nat)(hi:i<n):f i<256:=by
 obtain⟨cap,hb,hne,rs,hrl,hg,hnc,hf,hr⟩:=h.ex;rw[<-hf i hi];exact hr i
theorem Err.space{S:Nat->Prop}{w w1:World}{b ao bS R lim n f f'}(hE:Err S w w1)(h:SpA w b ao bS R lim n f)(hS:SpA w1 b ao bS R lim n f')(u v:Value):SpA ((w1.setCell ⟨w.heap.size,0,none⟩ u).setCell ⟨w.heap.size,0,none⟩ v) b ao bS R lim n f':=
 hS.kept (((Kt.refl (fun x=>x=w.heap.size) w1).setCell (fun _=>rfl) u).setCell (fun _=>rfl) v) (fun x hx e=>by have:=h.own_lt x hx;omega)
theorem IW(b g bS R lim n f)(p:Nat)(w:World)(h:SpA w b (some g) bS R lim n f)(hin:In bS n p 1):
  Calls prog 256 #[.pointer (some ⟨b,0,none⟩),.int .u64 p] w fun e w'=>e=.returned (.tuple #[.int .u8 ((f (p-bS):Nat):Int),.int .i64 0])/\Kt nO w w':=by
 have hmf:=mkf;obtain⟨o,ho⟩:=xe (p-bS);have hol:o<n:=by obtain⟨h1,h2⟩:=hin;omega
 rw[<-ho];have HO:=aA ho;have HH:=aA h;have HI:=aA hin;clear h ho hin;go_enter_defers func256,ntmps256;go_wp2_with fail;refine(mD b g bS R lim n f p 1 _ (HH.out.keep (Err.mk' nO w).k) (by decide) HI.out).mono ?_;rintro e w1 ⟨⟨c,rfl⟩,m,hw⟩;have hE:Err nO w w1:=by rw[hw];exact(Err.mk' nO w).drewN m
 have hS:=HH.out.keep hE.k;rw[<-HO.out];have hc:=hS.cg o hol;have hec:=hE.c;have hef:=hE.f;have HE:=aA hE;clear hS hE hw;go_wp2
 refine leaves_cons (f:=278) (args:=#[.pointer (some ⟨w.heap.size,0,none⟩)]) (by simp) (by simp[go_sem]) ?_;refine(JX ⟨w.heap.size,0,none⟩ 0 _ ?_ ?_).mono ?_
 ·simp[go_sem,hec]
 ·simp[go_sem,hef]
 rintro e u' w'' ⟨rfl,rfl,rfl⟩;refine⟨.tuple #[.int .u8 ((f o:Nat):Int),.int .i64 0],?_,rfl,HE.out.done2 _ _⟩;simp[results,results256,go_sem,hec]
def wordTo(f:Nat->Nat):Nat->Nat
 | 0=>0
 | k+1=>wordTo f k+f k*256 ^ k
theorem wordTo_lt(f:Nat->Nat)(k:Nat)(h:∀ i,i<k->f i<256):wordTo f k<256 ^ k:=by
 induction k with
 | zero=>simp[wordTo]
 | succ k ih=>
  have h1:=ih (fun i hi=>h i (by omega));have h2:=h k (by omega);have h3:f k*256 ^ k<=255*256 ^ k:=Nat.mul_le_mul_right _ (by omega);simp only[wordTo,Nat.pow_succ];omega
def word(f:Nat->Nat)(o:Nat):Nat:=wordTo (fun i=>f (o+i)) 8
theorem wI(k:Nat) : 256 ^ k=2 ^ (8*k):=by rw[Nat.pow_mul]
theorem word_step(a k x:Nat)(hk:k<8)(hx:x<256)(ha:a<256 ^ k):bits BinOp.or IntKind.u64 (a:Int) (IntKind.u64.wrap (IntKind.u64.wrap (x:Int)*2 ^ (8*k)))=((a+x*256 ^ k:Nat):Int):=by
 have hp : 2 ^ (8*k)<=2 ^ 56:=Nat.pow_le_pow_right (by decide) (by omega);have h1:x*2 ^ (8*k)<=255*2 ^ (8*k):=Nat.mul_le_mul_right _ (by omega);have e1:IntKind.u64.wrap (x:Int)=x:=by rw[wrap_u64];omega
 have e2:(x:Int)*2 ^ (8*k)=((x*2 ^ (8*k):Nat):Int):=by simp
 have e3:IntKind.u64.wrap ((x*2 ^ (8*k):Nat):Int)=((x*2 ^ (8*k):Nat):Int):=by
  rw[wrap_u64];generalize x*2 ^ (8*k)=y at h1;omega
 rw[e1,e2,e3];rw[wI] at ha ⊢;rw[bits_or_u64_nat _ _ (by omega) (by omega)];congr 1
 have:=Nat.shiftLeft_add_eq_or_of_lt ha x;rw[Nat.shiftLeft_eq] at this;rw[Nat.or_comm,<-this,Nat.add_comm]
theorem Word_in(b g bS R lim n f)(p:Nat)(w:World)(h:SpA w b (some g) bS R lim n f)(hin:In bS n p 8):
  Calls prog 252 #[.pointer (some ⟨b,0,none⟩),.int .u64 p] w fun e w'=>e=.returned (.tuple #[.int .u64 ((word f (p-bS):Nat):Int),.int .i64 0])/\Kt nO w w':=by
 have hmf:=mkf;obtain⟨o,ho⟩:=xe (p-bS);have hol:o+8<=n:=by obtain⟨h1,h2⟩:=hin;omega
 rw[<-ho];have HO:=aA ho;have HH:=aA h;have HI:=aA hin;clear h ho hin;go_enter_defers func252,ntmps252;go_wp2_with fail;refine(mD b g bS R lim n f p 8 _ (HH.out.keep (Err.mk' nO w).k) (by decide) HI.out).mono ?_;rintro e w1 ⟨⟨c,rfl⟩,m,hw⟩;have hE:Err nO w w1:=by rw[hw];exact(Err.mk' nO w).drewN m
 have hS:=HH.out.keep hE.k;rw[<-HO.out];have HC:=aA (fun i (hi:i<8)=>hS.cg (o+i) (by omega));have HL:=aA (fun i (hi:i<8)=>hS.f256 (o+i) (by omega));have hec:=hE.c;have hef:=hE.f;have HE:=aA hE;clear hS hE hw;go_wp2
 go_loop [4,13] (fun v i=>∃ k:Nat,k<=8/\i=.int .i64 k/\v=.int .u64 ((wordTo (fun i=>f (o+i)) k:Nat):Int)) (fun _ i=>8-(intOf i).toNat)
 case atStart=>exact⟨0,by omega,rfl,rfl⟩
 case round=>
  obtain⟨k,hk,rfl,rfl⟩:=hrel;by_cases hlt:k<8
  ·have hc:=HC.out k hlt;have E:=aA (word_step (wordTo (fun i=>f (o+i)) k) k (f (o+k)) hlt (HL.out k hlt) (wordTo_lt _ _ (fun i hi=>HL.out i (by omega))));go_wp2
   refine⟨⟨k+1,by omega,by simp,?_⟩,by simp[intOf];omega⟩;rw[E.out];rfl
  ·obtain rfl:k=8:=(by omega);go_wp2
   refine leaves_cons (f:=277) (args:=#[.pointer (some ⟨w.heap.size,0,none⟩)]) (by simp) (by simp[go_sem]) ?_;refine(JV ⟨w.heap.size,0,none⟩ 0 _ ?_ ?_).mono ?_
   ·simp[go_sem,hec]
   ·simp[go_sem,hef]
   rintro e u' w'' ⟨rfl,rfl,rfl⟩;refine⟨.tuple #[.int .u64 ((word f o:Nat):Int),.int .i64 0],?_,rfl,HE.out.done2 _ _⟩;simp[results,results252,go_sem,hec,word]
def byteOf(v i:Nat):Nat:=v/256 ^ i%256
theorem ZI(v k:Nat):(v:Int)/2 ^ (8*k)%256=((byteOf v k:Nat):Int):=by
 unfold byteOf;rw[wI];simp
theorem SetWord_in(b g bS R lim n f)(p v:Nat)(hv:v<18446744073709551616)(w:World)(h:SpA w b (some g) bS R lim n f)(hin:In bS n p 8):
  Calls prog 247 #[.pointer (some ⟨b,0,none⟩),.int .u64 p,.int .u64 v] w fun e w'=>e=.returned (.int .i64 0)/\SpA w' b (some g) bS R lim n (upd f (p-bS) 8 (byteOf v))/\Kt (own b (some g)) w w':=by
 have hmf:=mkf;obtain⟨o,ho⟩:=xe (p-bS);have hol:o+8<=n:=by obtain⟨h1,h2⟩:=hin;omega
 rw[<-ho];have HO:=aA ho;have HH:=aA h;have HI:=aA hin;clear h ho hin;go_enter_defers func247,ntmps247;go_wp2_with fail;refine(mD b g bS R lim n f p 8 _ (HH.out.keep (Err.mk' nO w).k) (by decide) HI.out).mono ?_;rintro e w1 ⟨⟨c,rfl⟩,m,hw⟩;have hE:Err nO w w1:=by rw[hw];exact(Err.mk' nO w).drewN m
 rw[<-HO.out];have HS:=aA (HH.out.keep hE.k);have HE:=aA (hE.mono (T:=own b (some g)) (fun _ x=>x.elim));clear hE hw;go_wp2
 go_loopw [15] (fun i wr=>∃ k:Nat,k<=8/\i=.int .i64 k/\Hid (Err (own b (some g)) w wr)/\Hid (SpA wr b (some g) bS R lim n (upd f o k (byteOf v)))) (fun i _=>8-(intOf i).toNat)
 case atStart=>exact⟨0,by omega,rfl,HE,by rw[TF];exact HS⟩
 case round=>
  obtain⟨k,hk,rfl,hE,hS⟩:=hrel;clear HE HS;by_cases hlt:k<8
  ·have hc:=hS.out.cg (o+k) (by omega);have hf:=hS.out.fg (o+k);have E:=aA (ZI v k);go_wp2
   refine⟨⟨k+1,by omega,by simp,?_,?_⟩,by simp[intOf];omega⟩
   ·exact hE.out.setCell HH.out.glt (Or.inr rfl) _ _
   ·rw[E.out,<-TE];exact hS.out.write (o+k) (byteOf v k) (by omega) (Nat.mod_lt _ (by decide))
  ·obtain rfl:k=8:=(by omega);have hec:=hE.out.c;have hef:=hE.out.f;go_wp2
   refine leaves_cons (f:=276) (args:=#[.pointer (some ⟨w.heap.size,0,none⟩)]) (by simp) (by simp[go_sem]) ?_;refine(YJ ⟨w.heap.size,0,none⟩ 0 _ ?_ ?_).mono ?_
   ·simp[go_sem,hec]
   ·simp[go_sem,hef]
   rintro e u' w'' ⟨rfl,rfl,rfl⟩;refine⟨.int .i64 0,?_,rfl,?_,hE.out.done2 _ _⟩
   ·simp[results,results247,go_sem,hec]
   ·exact hE.out.space HH.out hS.out _ _
theorem pA:(prog.info? 5).map (fun i=>(i.zero,i.size,i.bytes))=some (some (.int .u8 0),1,1):=by kernel_rfl
def bA(m:Nat)(g:Nat->Nat):List Nat:=(List.range m).map g
theorem zT(m:Nat)(g:Nat->Nat):(bA m g).length=m:=by simp[bA]
theorem RJ(m:Nat)(g:Nat->Nat)(i:Nat)(hi:i<m):(bA m g).getD i 0=g i:=by simp[bA,List.getD,hi]
def Blk(w:World)(h m:Nat)(g:Nat->Nat):Prop:=(∀ i,i<m->g i<256)/\w.heap[h]?=some (.cells (bK (bA m g)) 5 (0,0))
theorem Blk.lt{w h m g}(H:Blk w h m g):h<w.heap.size:=(Array.getElem?_eq_some_iff.1 H.2).1
theorem Blk.cell{w h m g}(H:Blk w h m g)(i:Nat)(hi:i<m):w.cell? ⟨h,i,none⟩=some (.int .u8 ((g i:Nat):Int)):=by
 have:=RJ m g i hi;rw[<-this];simp[World.cell?,H.2,bK,zT,hi]
theorem Blk.kept{w w' h m g}{S:Nat->Prop}(H:Blk w h m g)(k:Kt S w w')(hS:¬S h):Blk w' h m g:=⟨H.1,(k.block h H.lt hS).trans H.2⟩
theorem YR(m:Nat):madeCells (Value.int .u8 0).cells (m*1)=bK (bA m fun _=>0):=by
 simp only[madeCells,bK,bA];apply Array.ext
 ·simp
 ·intro i h1 h2;have:i%1=0:=Nat.mod_one i;simp[Value.cells,this]
theorem BO(m:Nat)(hm:m<=1073741824)(w:World):
  (Instr.makeSlice 32 (.int .i64 m) (.int .i64 m)).run prog w=.ok (.slice (some ⟨w.heap.size,0,none⟩) m m) (w.alloc (.cells (bK (bA m fun _=>0)) 5)):=by
 obtain⟨i,hi,hz0,hz1,hz2⟩:=info_parts pA;have:=run_make (P:=prog) w 32 5 i (.int .u8 0) Tryz.underlying32 hi hz0 .i64 .i64 (m:Int) (m:Int) (by omega) (by omega) (by rw[hz2];omega) (by omega);rw[hz1] at this;simp only[Int.toNat_natCast,YR] at this;exact this
def eI(k:Nat)(g:Nat->Nat):List Value:=(List.range k).map fun i=>Value.int .u8 ((g i:Nat):Int)
theorem pI(k:Nat)(g:Nat->Nat):(eI k g).length=k:=by simp[eI]
theorem YQ(k:Nat)(g:Nat->Nat)(j:Nat)(u:Value)(h:(eI k g)[j]?=some u):j<k/\u=.int .u8 ((g j:Nat):Int):=by
 have hj:j<k:=by
  rcases Nat.lt_or_ge j k with h1|h1
  ·exact h1
  ·rw[List.getElem?_eq_none (by rw[pI];exact h1)] at h;cases h
 refine⟨hj,?_⟩;simp[eI,hj] at h;exact h.symm
theorem RI(w:World)(g o k dc:Nat)(a:Addr)(sc:Nat)(cur:Array Value)(gg:Nat->Nat)(hg:w.heap[g]?=some (.cells cur 5 (0,0)))(hfit:o+k<=cur.size)
  (hsrc:∀ j,j<k->w.cell? (a.add j)=some (.int .u8 ((gg j:Nat):Int))) (ty:TypeId):
  (Builtin.copy_ #[32,32] ty #[.slice (some ⟨g,o,none⟩) k dc,.slice (some a) k sc]).run prog w=.ok (goInt k) (w.setRow g (cur.toList.take o ++ eI k gg ++ cur.toList.drop (o + (eI k gg).length)).toArray):=by
 obtain⟨i,hi,hz0,hz1,hz2⟩:=info_parts pA;have:=run_copy_row (P:=prog) w 32 32 ty 5 g o k dc a k sc cur 5 (eI k gg) Tryz.underlying32 (by rw[hi];simp[hz1]) hg (by rw[pI];exact(Nat.min_self k).symm) ?_ ?_ ?_
 ·rw[this,pI]
 ·intro j u hj;obtain⟨h1,rfl⟩:=YQ k gg j u hj;exact hsrc j h1
 ·rw[pI];exact hfit
 ·intro u hu;obtain⟨_,_,rfl⟩:=List.mem_map.1 hu;rfl
theorem RF(w:World)(k dc:Nat)(dp sp:Option Addr)(sc:Nat)(hk:k=0)(ty:TypeId):
  (Builtin.copy_ #[32,32] ty #[.slice dp k dc,.slice sp k sc]).run prog w=.ok (goInt 0) w:=by
 obtain⟨i,hi,hz0,hz1,hz2⟩:=info_parts pA;subst hk;exact run_copy_none (P:=prog) w 32 32 ty 5 dp sp 0 dc 0 sc Tryz.underlying32 (by rw[hi];simp[hz1]) rfl
theorem Blk.new(w:World)(m:Nat):Blk (w.alloc (.cells (bK (bA m fun _=>0)) 5)) w.heap.size m fun _=>0:=⟨fun _ _=>Nat.zero_lt_succ 255,nH _ _⟩
theorem Blk.lay{w h m g}(H:Blk w h m g)(gg:Nat->Nat)(h256:∀ i,i<m->gg i<256):
  Blk (w.setRow h ((bK (bA m g)).toList.take 0 ++ eI m gg ++ (bK (bA m g)).toList.drop (0 + (eI m gg).length)).toArray) h m gg:=by
 refine⟨h256,?_⟩;rw[setRow_heap w h _ _ _ _ H.2,zK (bA m g) 0 m gg (eI m gg) rfl];have:Go.Proofs.YtkfmheelhinjdaaGreatDoor.M.lay (bA m g) 0 m gg=bA m gg:=by
  simp[Go.Proofs.YtkfmheelhinjdaaGreatDoor.M.lay,bA]
 rw[this]
theorem Read_in(b g bS R lim n f)(p k:Nat)(w:World)(h:SpA w b (some g) bS R lim n f)(hk0 : 0<k)(hin:In bS n p k):
  Calls prog 43 #[.pointer (some ⟨b,0,none⟩),.int .u64 p,.int .u64 k] w fun e w'=>e=.returned (.tuple #[.slice (some ⟨w.heap.size+1,0,none⟩) k k,.int .i64 0])/\Blk w' (w.heap.size+1) k (fun i=>f (p-bS+i))/\Kt nO w w':=by
 have hmf:=mkf;obtain⟨o,ho⟩:=xe (p-bS);have hol:o+k<=n:=by obtain⟨h1,h2⟩:=hin;omega
 have hn:=h.nle;have lr:=h.cfg.lr;have hkm:k<=4194304:=by omega
 rw[<-ho];have HO:=aA ho;have HH:=aA h;have HI:=aA hin;clear h ho hin hn lr;go_enter_defers func43,ntmps43;go_wp2_with fail;refine(mD b g bS R lim n f p k _ (HH.out.keep (Err.mk' nO w).k) hk0 HI.out).mono ?_;rintro e w2 ⟨⟨c,rfl⟩,m,hw⟩;have hE:Err nO w w2:=by rw[hw];exact(Err.mk' nO w).drewN m
 rw[<-HO.out];have hsz:=hE.sz;have hmk:=BO k (by omega) w2;have hB:=Blk.new w2 k;have hk3:=(Kt.refl nO w2).alloc (.cells (bK (bA k fun _=>0)) 5);obtain⟨w3,hw3⟩:=xe (w2.alloc (.cells (bK (bA k fun _=>0)) 5));rw[<-hw3] at hmk hB hk3;rw[hsz] at hmk hB;have hS:=HH.out.keep ((hE.k.trans (U:=nO) hk3 (fun _ _ x=>x) (fun _ _ x=>x)));have hcp:=RI w3 (w.heap.size+1) 0 k k ⟨g,o,none⟩ c _ (fun i=>f (o+i)) hB.2 (by rw[CD,zT];omega) (fun j hj=>by rw[Addr.add_lit];exact hS.cg _ (by omega));have hB4:=hB.lay (fun i=>f (o+i)) (fun i hi=>hS.f256 _ (by omega));have hk4:=(Kt.refl (fun x=>x=w.heap.size + 1) w3).setRow (fun _=>rfl) ((bK (bA k fun _=>0)).toList.take 0 ++ eI k (fun i=>f (o + i)) ++ (bK (bA k fun _=>0)).toList.drop (0 + (eI k fun i=>f (o + i)).length)).toArray;obtain⟨w4,hw4⟩:=xe (w3.setRow (w.heap.size + 1) ((bK (bA k fun _=>0)).toList.take 0 ++ eI k (fun i=>f (o + i)) ++ (bK (bA k fun _=>0)).toList.drop (0 + (eI k fun i=>f (o + i)).length)).toArray);rw[<-hw4] at hcp hB4 hk4;have hE3:w3.heap[w.heap.size]?=some (.cells #[.int .i64 0] 24 (0,0)):=(hk3.block _ (by omega) (fun x=>x)).trans hE.he;have hE4:w4.heap[w.heap.size]?=some (.cells #[.int .i64 0] 24 (0,0)):=(hk4.block _ (Array.getElem?_eq_some_iff.1 hE3).1 (by omega)).trans hE3;have hec:w4.cell? ⟨w.heap.size,0,none⟩=some (.int .i64 0):=by simp[World.cell?,hE4]
 have hef:w4.frozen? ⟨w.heap.size,0,none⟩=false:=by simp[World.frozen?,hE4]
 have HK:=aA ((hE.k.trans (U:=nO) hk3 (fun _ _ x=>x) (fun _ _ x=>x)).trans (U:=nO) hk4 (fun _ _ x=>x) (fun x hx e=>by omega));have HB:=aA hB4;clear hE hS hw3 hw4 hw hB hk3 hk4 hE3 hE4 hB4 hsz;go_wp2
 refine leaves_cons (f:=85) (args:=#[.pointer (some ⟨w.heap.size,0,none⟩)]) (by simp) (by simp[go_sem]) ?_;refine(wQ ⟨w.heap.size,0,none⟩ 0 _ ?_ ?_).mono ?_
 ·simp[go_sem,hec]
 ·simp[go_sem,hef]
 rintro e u' w'' ⟨rfl,rfl,rfl⟩;refine⟨.tuple #[.slice (some ⟨w.heap.size+1,0,none⟩) k k,.int .i64 0],?_,rfl,?_,?_⟩
 ·simp[results,results43,go_sem,hec]
 ·exact HB.out.kept (((Kt.refl (fun x=>x=w.heap.size) w4).setCell (fun _=>rfl) _).setCell (fun _=>rfl) _) (by omega)
 ·exact(HK.out.setCell (fun h=>absurd h (Nat.lt_irrefl _)) _).setCell (fun h=>absurd h (Nat.lt_irrefl _)) _
theorem Read_zero(b:Nat)(p:Int)(w:World):
  Calls prog 43 #[.pointer (some ⟨b,0,none⟩),.int .u64 p,.int .u64 0] w fun e w'=>e=.returned (.tuple #[.slice (some ⟨w.heap.size+1,0,none⟩) 0 0,.int .i64 0])/\Kt nO w w'/\w.heap.size+1<w'.heap.size:=by
 have hmf:=mkf;go_enter_defers func43,ntmps43;go_wp2_with fail;refine(MF b p _).mono ?_;rintro e w2 ⟨rfl,hw⟩;have hE:Err nO w w2:=by rw[hw];exact Err.mk' nO w
 have hsz:=hE.sz;have hmk:(Instr.makeSlice 32 (.int .i64 0) (.int .i64 0)).run prog w2=.ok (.slice (some ⟨w2.heap.size,0,none⟩) 0 0) (w2.alloc (.cells (bK (bA 0 fun _=>0)) 5)):=BO 0 (by omega) w2;have hk3:=(Kt.refl nO w2).alloc (.cells (bK (bA 0 fun _=>0)) 5);have hs3:(w2.alloc (.cells (bK (bA 0 fun _=>0)) 5)).heap.size=w.heap.size+2:=by simp;omega
 obtain⟨w4,hw4⟩:=xe (w2.alloc (.cells (bK (bA 0 fun _=>0)) 5));rw[<-hw4] at hmk hk3 hs3;rw[hsz] at hmk;have hcp:=RF w4 0 0 (some ⟨w.heap.size+1,0,none⟩) none 0 rfl;have hE4:w4.heap[w.heap.size]?=some (.cells #[.int .i64 0] 24 (0,0)):=(hk3.block _ (by omega) (fun x=>x)).trans hE.he;have hec:w4.cell? ⟨w.heap.size,0,none⟩=some (.int .i64 0):=by simp[World.cell?,hE4]
 have hef:w4.frozen? ⟨w.heap.size,0,none⟩=false:=by simp[World.frozen?,hE4]
 have HK:=aA (hE.k.trans (U:=nO) hk3 (fun _ _ x=>x) (fun _ _ x=>x));have HZ:=aA hs3;clear hE hw4 hw hk3 hE4 hsz hs3;go_wp2
 refine leaves_cons (f:=85) (args:=#[.pointer (some ⟨w.heap.size,0,none⟩)]) (by simp) (by simp[go_sem]) ?_;refine(wQ ⟨w.heap.size,0,none⟩ 0 _ ?_ ?_).mono ?_
 ·simp[go_sem,hec]
 ·simp[go_sem,hef]
 rintro e u' w'' ⟨rfl,rfl,rfl⟩;refine⟨.tuple #[.slice (some ⟨w.heap.size+1,0,none⟩) 0 0,.int .i64 0],?_,rfl,?_,?_⟩
 ·simp[results,results43,go_sem,hec]
 ·exact(HK.out.setCell (fun h=>absurd h (Nat.lt_irrefl _)) _).setCell (fun h=>absurd h (Nat.lt_irrefl _)) _
 ·simp
  have:=HZ.out;omega
theorem ZV(w:World)(g n cap R:Nat)(cur:Array Value)(hg:w.heap[g]?=some (.cells cur 5 (0,0)))(hcur:cur.size=cap)(hR0 : 0<R)(hR:R<=1048576)(hfit:n+R<=cap)(ty:TypeId):
  (Builtin.append_ #[32,27] ty #[.slice (some ⟨g,0,none⟩) n cap,.int .u64 R]).run prog w=.ok (.slice (some ⟨g,0,none⟩) (n + R) cap) (w.setRow g (cur.toList.take n ++ eI R (fun _=>0) ++ cur.toList.drop (n + (eI R fun _=>0).length)).toArray):=by
 obtain⟨i,hi,hz0,hz1,hz2⟩:=info_parts pA;have hw:IntKind.i64.wrap (R:Int)=R:=by rw[IntKind.wrap_i64];omega
 have hneg:¬((R:Int)<0):=by omega
 have h48i:¬(281474976710656<(R:Int)*(i.bytes:Int)):=by rw[hz2];omega
 have hzc:(Builtin.zeroCells (Value.int .u8 0).cells R).toList=eI R fun _=>0:=by
  simp only[Builtin.zeroCells,eI];apply List.ext_getElem
  ·simp[Value.cells]
  ·intro j h1 h2;have:j%1=0:=Nat.mod_one j;simp[Value.cells,this]
 have hst:=run_storeCells_at prog g n 5 (eI R fun _=>0) 0 cur w hg (by rw[pI];omega) (by
  intro v hv;obtain⟨_,_,rfl⟩:=List.mem_map.1 hv;rfl)
 simp only[Nat.add_zero] at hst;simp[Builtin.append_,run_underlying Tryz.underlying32,run_underlying Tryz.underlying27,sizeOf,typeInfo,zeroValue,hi,hz0,hz1,asInt,asIntOf,hw,hneg,h48i,hfit,Addr.add_lit,hzc,hst];intro h;omega
def more(f:Nat->Nat)(n:Nat):Nat->Nat:=fun i=>if i<n then f i else 0
structure After(w w':World)(b:Nat)(ao:Option Nat)(g' cap' bS R lim n:Nat)(f:Nat->Nat):Prop where
 sp:SpA (w'.setCell ⟨b,3,none⟩ (.slice (some ⟨g',0,none⟩) (n+R) cap')) b (some g') bS R lim (n+R) (more f n)
 k:Kt (own b ao) w w'
 g:ao=some g'\/w.heap.size<=g'
theorem yH{w w':World}{b ao g' cap' bS R lim n f cap}(hc:Cfg bS R lim)(hkn:∃ k,n=k*R/\k+1<=lim)
  (hb:w'.heap[b]?=some (.cells #[.int .u64 bS,.int .u64 R,.int .i64 lim,.slice (dC ao) n cap] 140 (0,0)))
  (hne:g'≠b) (rs:List Nat) (hrl:rs.length=cap') (hg:w'.heap[g']?=some (.cells (bK rs) 5 (0,0))) (hn:n+R<=cap') (hf:∀ i,i<n+R->rs.getD i 0=more f n i) (h256:∀ i,rs.getD i 0<256)
  (k:Kt (own b ao) w w') (hG:ao=some g'\/w.heap.size<=g'):After w w' b ao g' cap' bS R lim n f:=by
 refine⟨⟨hc,?_,cap',?_,hne,rs,hrl,?_,hn,hf,h256⟩,k,hG⟩
 ·obtain⟨k,rfl,hk⟩:=hkn;exact⟨k+1,by rw[Nat.add_mul,Nat.one_mul],hk⟩
 ·simp only[World.setCell];rw[Array.getElem?_modify,if_pos rfl,hb];simp[dC]
 ·rw[Below.heap_setCell _ _ _ _ hne];exact hg
theorem BF(m:Nat):(Builtin.zeroCells (Value.int .u8 0).cells m)=bK (List.replicate m 0):=by
 simp only[Builtin.zeroCells,bK];apply Array.ext
 ·simp[Value.cells]
 ·intro j h1 h2;have:j%1=0:=Nat.mod_one j;simp[Value.cells,this]
theorem IQ(m i:Nat):(List.replicate m 0).getD i 0=0:=by
 simp[List.getD,List.getElem?_replicate];split <;> rfl
theorem ZR(w:World)(b ao bS R lim n f cap)(hc:Cfg bS R lim)(hkn:∃ k,n=k*R/\k+1<=lim)
  (hb:w.heap[b]?=some (.cells #[.int .u64 bS,.int .u64 R,.int .i64 lim,.slice (dC ao) n cap] 140 (0,0))) (hr:sF w b ao n cap f):
  ∃ g' cap' w',(∀ ty,(Builtin.append_ #[32,27] ty #[.slice (dC ao) n cap,.int .u64 R]).run prog w=.ok (.slice (some ⟨g',0,none⟩) (n+R) cap') w')/\After w w' b ao g' cap' bS R lim n f/\
   w'.heap[b]?=some (.cells #[.int .u64 bS,.int .u64 R,.int .i64 lim,.slice (dC ao) n cap] 140 (0,0)):=by
 obtain⟨i,hi,hz0,hz1,hz2⟩:=info_parts pA;have r1:=hc.r1;have r2:=hc.r2;have hnl:n+R<=4194304:=by
  obtain⟨k,rfl,hk⟩:=hkn;have h1:=hc.lr;have h2:(k+1)*R<=lim*R:=Nat.mul_le_mul_right _ hk;rw[Nat.add_mul,Nat.one_mul] at h2;omega
 have hblt:b<w.heap.size:=(Array.getElem?_eq_some_iff.1 hb).1
 have grow:∀ (olds:List Nat),(Builtin.firstCells i.size n (.slice (dC ao) n cap)).run prog w.drew=.ok (bK olds) w.drew->olds.length=n->(∀ j,j<n->olds.getD j 0=f j)->(∀ j,olds.getD j 0<256)->cap<n+R->
   ∃ g' cap' w',(∀ ty,(Builtin.append_ #[32,27] ty #[.slice (dC ao) n cap,.int .u64 R]).run prog w=.ok (.slice (some ⟨g',0,none⟩) (n+R) cap') w')/\After w w' b ao g' cap' bS R lim n f/\
   w'.heap[b]?=some (.cells #[.int .u64 bS,.int .u64 R,.int .i64 lim,.slice (dC ao) n cap] 140 (0,0)):=by
  intro olds hold hlen hof ho256 hcap;have hge:=grownCap_ge w (n+R) cap 5;have hrow:(bK olds) ++ Builtin.zeroCells (Value.int .u8 0).cells R ++ Builtin.zeroCells (Value.int .u8 0).cells (grownCap w (n + R) cap 5-(n + R))=bK (olds ++ (List.replicate R 0 ++ List.replicate (grownCap w (n + R) cap 5-(n + R)) 0)):=by
   rw[BF,BF];simp[bK]
  have hget:∀ j,(olds ++ (List.replicate R 0 ++ List.replicate (grownCap w (n + R) cap 5-(n + R)) 0)).getD j 0=if j<n then olds.getD j 0 else 0:=by
   intro j;rw[List.replicate_append_replicate];simp only[List.getD,List.getElem?_append,hlen];split
   ·rfl
   ·exact IQ _ _
  refine⟨w.heap.size,grownCap w (n + R) cap 5,w.drew.alloc (.cells (bK (olds ++ (List.replicate R 0 ++ List.replicate (grownCap w (n + R) cap 5-(n + R)) 0))) 5),fun ty=>?_,?_,?_⟩
  ·have:=Lib.run_append_grow_zeros (P:=prog) w 32 27 ty 5 i (.int .u8 0) .u64 .u64 Tryz.underlying32 Tryz.underlying27 hi hz0 (dC ao) n cap (bK olds).toList (by rw[hold]) R (by omega) (by omega) hcap (by omega) (by rw[hz2];omega) (growslice_fits hcap (by rw[hz2];omega));rw[this,<-hrow]
  ·refine yH (cap:=cap) hc hkn ?_ (by omega) _ ?_ (nH w.drew _) hge ?_ ?_ (((Kt.refl _ w).drew).alloc _) (Or.inr (Nat.le_refl _))
   ·rw[Below.heap_alloc w.drew _ b hblt];exact hb
   ·simp[hlen];omega
   ·intro j hj;rw[hget j];unfold more;split
    ·rename_i h;exact hof j h
    ·rfl
   ·intro j;rw[hget j];split
    ·exact ho256 j
    ·decide
  ·rw[Below.heap_alloc w.drew _ b hblt];exact hb
 cases ao with
 | none=>
  obtain⟨rfl,rfl⟩:=hr;exact grow [] (by simp[dC,run_firstCells_none,bK]) rfl (fun j hj=>by omega) (fun j=>by simp) (by omega)
 | some g=>
  obtain⟨hne,rs,hrl,hg,hnc,hf,h256⟩:=hr;by_cases hroom:n+R<=cap
  ·have hap:=ZV w g n cap R (bK rs) hg (by rw[CD];exact hrl) (by omega) (by omega) hroom;have hw:(bK rs).toList.take n ++ eI R (fun _=>0) ++ (bK rs).toList.drop (n + (eI R fun _=>0).length)=(bK (Go.Proofs.YtkfmheelhinjdaaGreatDoor.M.lay rs n R fun _=>0)).toList:=by
    rw[<-zK rs n R (fun _=>0) (eI R fun _=>0) rfl]
   refine⟨g,cap,_,hap,?_,?_⟩
   ·refine yH (cap:=cap) hc hkn ?_ hne (Go.Proofs.YtkfmheelhinjdaaGreatDoor.M.lay rs n R fun _=>0) ?_ ?_ hroom ?_ ?_ ((Kt.refl _ w).setRow (fun _=>Or.inr rfl) _) (Or.inl rfl)
    ·rw[setRow_other _ _ _ _ (fun e=>hne e.symm)];exact hb
    ·rw[NR _ _ _ _ (by omega)];exact hrl
    ·rw[setRow_heap w g _ _ _ _ hg,hw]
    ·intro j hj;rw[xE _ _ _ _ (by omega)];unfold more;by_cases h1:j<n
     ·rw[if_neg (by omega),if_pos h1];exact hf j h1
     ·rw[if_pos (by omega),if_neg h1]
    ·intro j;rw[xE _ _ _ _ (by omega)];split
     ·decide
     ·exact h256 j
   ·rw[setRow_other _ _ _ _ (fun e=>hne e.symm)];exact hb
  ·have hlt:(rs.take n).length=n:=(by simp;omega);have hgt:∀ j,(rs.take n).getD j 0=if j<n then rs.getD j 0 else 0:=by
    intro j;simp only[List.getD,List.getElem?_take];split <;> rfl
   refine grow (rs.take n) ?_ hlt ?_ ?_ (by omega)
   ·have:=run_firstCells_some (P:=prog) w.drew i.size n ⟨g,0,none⟩ n cap (bK (rs.take n)).toList (by rw[hz1];simp[bK];omega) ?_
    ·simpa [dC] using this
    ·intro j v hj;rw[Addr.add_lit];simp[bK,List.getElem?_take] at hj;obtain⟨hjn,x,hx,rfl⟩:=hj;have:w.cell? ⟨g,0+j,none⟩=some (.int .u8 x):=by simp[World.cell?,hg,bK,hx]
     exact this
   ·intro j hj;rw[hgt j,if_pos hj];exact hf j hj
   ·intro j;rw[hgt j];split
    ·exact h256 j
    ·decide
theorem zct{ops:Array Oper}{o:Oper}{a:Act}{w:World}{K:Act->World->Prop}{Q:Exit->Act->World->Prop}{E:Prop}(hgd:o.guard=none)(s x:Operand)
  (hop:o.op=Op.call { callee:=Callee.builtin Builtin.append,args:=#[s,x],argTypes:=#[32,27] }) (b ao bS R lim n f cap) (hc:Cfg bS R lim) (hkn:∃ k,n=k*R/\k+1<=lim)
  (hb:w.heap[b]?=some (.cells #[.int .u64 bS,.int .u64 R,.int .i64 lim,.slice (dC ao) n cap] 140 (0,0))) (hr:sF w b ao n cap f)
  (hs:a.eval s=.slice (dC ao) n cap) (hx:a.eval x=.int .u64 R)
  (hK:∀ g' cap' w',Hid (After w w' b ao g' cap' bS R lim n f)->w'.cell? ⟨b,3,none⟩=some (.slice (dC ao) n cap)->w'.frozen? ⟨b,3,none⟩=false->K (a.put o.dst (.slice (some ⟨g',0,none⟩) (n+R) cap')) w'):
  if Region.wanted o (yielded ops a.tmps)=true then Oper.wp prog o a w K Q else E:=by
 have hw:Region.wanted o (yielded ops a.tmps)=true:=by simp[Region.wanted,hgd]
 rw[if_pos hw];obtain⟨g',cap',w',hrun,hA,hb'⟩:=ZR w b ao bS R lim n f cap hc hkn hb hr;have hrun:=hrun o.type;unfold Oper.wp;simp[execOp,hop,resolve,invoke,builtin,hs,hx,hrun,Result.andThen];exact hK g' cap' w' hA (by simp[World.cell?,hb']) (by simp[World.frozen?,hb'])
theorem vS(k R:Nat)(hR : 4096<=R):k*R/R=k:=Nat.mul_div_cancel _ (by omega)
theorem ZE{a b:Int}{c d:Int}(h:a=b)(h2:c=d):Ending.returned (.tuple #[.int .u64 a,.int .i64 c])=.returned (.tuple #[.int .u64 b,.int .i64 d]):=by rw[h,h2]
theorem Commit_deny(b ao bS R lim n f)(w:World)(h:SpA w b ao bS R lim n f):
  Calls prog 209 #[.pointer (some ⟨b,0,none⟩),.bool true] w fun e w'=>e=.returned (.tuple #[.int .u64 0,.int .i64 2])/\Kt nO w w':=by
 have h2:=h.c2;clear h;go_enter func209,ntmps209;go_wp2
 go_quiet (fail)
 go_wp2
 go_ret2;exact⟨rfl,(Kt.refl _ w).drewN _⟩
theorem Commit_full(b ao bS R lim n f)(w:World)(h:SpA w b ao bS R lim n f)(hn:n=lim*R):
  Calls prog 209 #[.pointer (some ⟨b,0,none⟩),.bool false] w fun e w'=>e=.returned (.tuple #[.int .u64 0,.int .i64 2])/\Kt nO w w':=by
 have h2:=h.c2;have hreg:=fun m=>regions_any b ao bS R lim n f (w.drewN m) ⟨h.cfg,h.kn,h.ex⟩
 have e1:n/R=lim:=by rw[hn];exact vS lim R h.cfg.r1
 rw[e1] at hreg;have HR:=aA hreg;clear h hreg e1 hn;go_enter func209,ntmps209;go_wp2
 go_quiet ((go_at_call 39;exact Calls.quiet_of (HR.out _)))
 go_wp2
 go_ret2;exact⟨rfl,(Kt.refl _ w).drewN _⟩
theorem Commit_ok(b ao bS R lim n f)(w:World)(h:SpA w b ao bS R lim n f)(hkn:∃ k,n=k*R/\k+1<=lim):
  Calls prog 209 #[.pointer (some ⟨b,0,none⟩),.bool false] w fun e w'=>e=.returned (.tuple #[.int .u64 ((bS+n:Nat):Int),.int .i64 0])/\∃ g',SpA w' b (some g') bS R lim (n+R) (more f n)/\Kt (own b ao) w w'/\(ao=some g'\/w.heap.size<=g'):=by
 have h2:=h.c2;have hreg:=fun m=>regions_any b ao bS R lim n f (w.drewN m) ⟨h.cfg,h.kn,h.ex⟩
 have hend:=fun m=>end_any b ao bS R lim n f (w.drewN m) ⟨h.cfg,h.kn,h.ex⟩
 obtain⟨q,hq⟩:=xe (n/R);have hql:q<lim/\q<=64:=by
  obtain⟨k,rfl,hk⟩:=hkn;rw[hq,vS k R h.cfg.r1];have:=h.cfg.l2;omega
 have hqne:((q:Int) == (lim:Int))=false:=by rw[beq_eq_false_iff_ne];omega
 rw[<-hq] at hreg;have HR:=aA hreg;have HE:=aA hend;have hc:=h.cfg;obtain⟨cap,hb,hr⟩:=h.ex;have h3:w.cell? ⟨b,3,none⟩=some (.slice (dC ao) n cap):=by simp[World.cell?,hb]
 have h1:=h.c1;have HC:=aA hc;have HN:=aA hkn;have HB:=aA hb;have HRW:=aA hr;clear h hreg hend hq hql hc hb hr hkn;go_enter func209,ntmps209;go_wp2
 go_quiet ((go_at_call 39;exact Calls.quiet_of (HR.out _)))
 go_wp2_with fail;refine(HE.out _).mono ?_;rintro e w' ⟨rfl,m,rfl⟩;go_wp2
 go_region_law ((refine zct rfl (.tmp 23) (.tmp 27) rfl b ao bS R lim n f cap HC.out HN.out HB.out HRW.out rfl rfl ?_;intro g' cap' w' hA hc3 hf3))
 all_goals (go_wp2;go_ret2)
 all_goals exact⟨ZE (by simp) rfl,g',hA.out.sp,(show Kt (own b ao) w w' from⟨hA.out.k.os,hA.out.k.tape,hA.out.k.output,hA.out.k.size,hA.out.k.block⟩).setCell (fun _=>Or.inl rfl) _,hA.out.g⟩
def RS(k:Nat):Nat:=4096*2 ^ k
theorem pow8(k:Nat)(hk:k<=8) : 1<=2 ^ k/\2 ^ k<=256:=⟨Nat.two_pow_pos k,Nat.pow_le_pow_right (n:=2) (by decide) hk⟩
theorem CJ(bS lim:Int)(k:Nat)(hk:k<=8)(w:World):
  Calls prog 115 #[.agg #[.int .u64 bS,.int .i64 lim,.int .i64 k]] w fun e w'=>e=.returned (.int .u64 ((RS k:Nat):Int))/\Kt nO w w':=by
 have E:=aA (show IntKind.u64.wrap (4096*2 ^ k)=((RS k:Nat):Int)by
  have:=pow8 k hk;have e:((2:Int) ^ k)=((2 ^ k:Nat):Int):=by simp
  rw[wrap_u64,e];unfold RS;generalize 2 ^ k=p at this;omega)
 go_enter func115,ntmps115;go_wp2
 go_ret;exact⟨eJ E.out,(Kt.refl _ w).alloc _⟩
def Bounds(lim ord:Int):Prop:=0<=ord/\ord<=8/\1<=lim/\lim<=64
instance (lim ord:Int):Decidable (Bounds lim ord):=by unfold Bounds;infer_instance
def mayB(bS:Nat)(lim ord:Int):Bool:=
 decide (Bounds lim ord) && decide (lim.toNat*2 ^ ord.toNat<=1024) && (decide (bS≠0) && decide (bS%RS ord.toNat=0) && decide (bS+lim.toNat*RS ord.toNat<=9223372036854775808))
theorem XM(bS:Nat)(lim ord:Int)(hl1 : -9223372036854775808<=lim)(hl2:lim<=9223372036854775807)(ho1 : -9223372036854775808<=ord)(ho2:ord<=9223372036854775807)(h:¬Bounds lim ord)(w:World):
  Calls prog 114 #[.agg #[.int .u64 bS,.int .i64 lim,.int .i64 ord]] w fun e w'=>e=.returned (.bool false)/\Kt nO w w':=by
 by_cases h1:ord<0
 ·clear h;go_enter func114,ntmps114;go_wp2_with fail;go_ret;exact⟨rfl,(Kt.refl _ w).alloc _⟩
 ·by_cases h2 : 8<ord
  ·clear h;go_enter func114,ntmps114;go_wp2_with fail;go_ret;exact⟨rfl,(Kt.refl _ w).alloc _⟩
  ·by_cases h3:lim<1
   ·clear h;go_enter func114,ntmps114;go_wp2_with fail;go_ret;exact⟨rfl,(Kt.refl _ w).alloc _⟩
   ·have h4 : 64<lim:=(by unfold Bounds at h;omega);clear h;go_enter func114,ntmps114;go_wp2_with fail;go_ret;exact⟨rfl,(Kt.refl _ w).alloc _⟩
theorem rF(w w1:World)(bS lim ord:Int)(hK:Kt nO (w.alloc (.cells #[.int .u64 bS,.int .i64 lim,.int .i64 ord] 29)) w1):
  w1.cell? ⟨w.heap.size,0,none⟩=some (.int .u64 bS)/\w1.cell? ⟨w.heap.size,1,none⟩=some (.int .i64 lim)/\Kt nO w w1:=by
 have:=(hK.block w.heap.size (by simp) (fun x=>x)).trans (nH w _);exact⟨by simp[World.cell?,this],by simp[World.cell?,this],((Kt.refl nO w).alloc _).trans hK (fun _ _ x=>x) (fun _ _ x=>x)⟩
theorem QS(bS:Nat)(hb64:bS<18446744073709551616)(lim k:Nat)(hk:k<=8)(hl1 : 1<=lim)(hl2:lim<=64)(w:World):
  Calls prog 114 #[.agg #[.int .u64 bS,.int .i64 lim,.int .i64 k]] w fun e w'=>e=.returned (.bool (mayB bS lim k))/\Kt nO w w':=by
 obtain⟨P,hP⟩:=xe (2 ^ k);have hP8:=pow8 k hk;rw[<-hP] at hP8;obtain⟨lp,hlp⟩:=xe (lim*P);have hlp2:lp<=16384:=by
  rw[hlp];exact Nat.le_trans (Nat.mul_le_mul hl2 hP8.2) (by decide)
 have hw1:wrap64 ((lim:Int)*2 ^ k)=(lp:Int):=by
  have e:((2:Int) ^ k)=((2 ^ k:Nat):Int):=by simp
  have e2:(lim:Int)*((P:Nat):Int)=(lp:Int):=by rw[hlp];simp
  rw[e,<-hP,e2];unfold wrap64;omega
 have hB:Bounds (lim:Int) (k:Int):=by unfold Bounds;omega
 have hmay:mayB bS lim k=(decide (lp<=1024) && (decide (bS≠0) && decide (bS%RS k=0) && decide (bS+lim*RS k<=9223372036854775808))):=by
  unfold mayB;rw[decide_eq_true hB,Int.toNat_natCast,Int.toNat_natCast,<-hP,<-hlp,Bool.true_and]
 rw[hmay];clear hmay hB;obtain⟨R,hR⟩:=xe (RS k);have hR2:R=4096*P:=by rw[hR,RS,hP]
 obtain⟨lr,hlr⟩:=xe (lim*R);have hlr2:lr=4096*lp:=by rw[hlr,hR2,hlp,Nat.mul_left_comm]
 have hmul:(lim:Int)*(R:Int)=lr:=by rw[hlr];simp
 rw[<-hR,<-hlr];have HRS:=aA (show ∀ w,Calls prog 115 #[.agg #[.int .u64 bS,.int .i64 lim,.int .i64 k]] w fun e w'=>e=.returned (.int .u64 R)/\Kt nO w w' from fun w=>by
  rw[hR];exact CJ bS lim k hk w)
 have hR0:¬(R:Int)=0:=by omega
 have hRl:R<=1048576:=by omega
 by_cases h1:lp<=1024
 ·have h1':¬(1024:Int)<lp:=by omega
  have hd:decide (lp<=1024)=true:=decide_eq_true h1;rw[hd,Bool.true_and];clear hP hlp hR hd;by_cases h0:bS=0
  ·have hb0:((bS:Int) != 0)=false:=(by rw[h0];rfl);have H0:=aA h0;clear hR2 hlr hlr2 h0;go_enter func114,ntmps114;go_wp2_with fail;refine(HRS.out _).mono ?_;rintro e w1 ⟨rfl,hK⟩;obtain⟨hc0,hc1,hKK⟩:=rF w w1 bS lim k hK;have HK:=aA hKK;clear hK hKK;go_wp2
   go_ret;exact⟨cO (by rw[H0.out];simp),HK.out⟩
  ·have hb0:((bS:Int) != 0)=true:=(by rw[bne_iff_ne];omega);have hd0:decide (bS≠0)=true:=decide_eq_true h0;rw[hd0,Bool.true_and];by_cases h2:bS%R=0
   ·have hm:((bS:Int)%(R:Int) == 0)=true:=(by rw[beq_iff_eq];omega);have hd2:decide (bS%R=0)=true:=decide_eq_true h2;rw[hd2,Bool.true_and];clear hR2 hlr h2 hd2 hd0;go_enter func114,ntmps114;go_wp2_with fail;refine(HRS.out _).mono ?_;rintro e w1 ⟨rfl,hK⟩;obtain⟨hc0,hc1,hKK⟩:=rF w w1 bS lim k hK;have HK:=aA hKK;clear hK hKK;go_wp2
    go_ret;exact⟨cO (by rw[decide_eq_decide];omega),HK.out⟩
   ·have hm:((bS:Int)%(R:Int) == 0)=false:=(by rw[beq_eq_false_iff_ne];omega);have hd2:decide (bS%R=0)=false:=decide_eq_false h2;rw[hd2,Bool.false_and];clear hR2 hlr hlr2 h2 hd2 hd0;go_enter func114,ntmps114;go_wp2_with fail;refine(HRS.out _).mono ?_;rintro e w1 ⟨rfl,hK⟩;obtain⟨hc0,hc1,hKK⟩:=rF w w1 bS lim k hK;have HK:=aA hKK;clear hK hKK;go_wp2
    go_ret;exact⟨rfl,HK.out⟩
 ·have hd:decide (lp<=1024)=false:=decide_eq_false h1;rw[hd,Bool.false_and];have h1':(1024:Int)<lp:=by omega
  clear hP hlp hR hR2 hlr hlr2 h1 hd;go_enter func114,ntmps114;go_wp2_with fail;go_ret;exact⟨rfl,(Kt.refl _ w).alloc _⟩
theorem XK(bS:Nat)(hb64:bS<18446744073709551616)(lim ord:Int)(hl1 : -9223372036854775808<=lim)(hl2:lim<=9223372036854775807)(ho1 : -9223372036854775808<=ord)(ho2:ord<=9223372036854775807)(w:World):
  Calls prog 114 #[.agg #[.int .u64 bS,.int .i64 lim,.int .i64 ord]] w fun e w'=>e=.returned (.bool (mayB bS lim ord))/\Kt nO w w':=by
 by_cases h:Bounds lim ord
 ·have h':=h;unfold Bounds at h';obtain⟨l,rfl⟩:=Int.eq_ofNat_of_zero_le (by omega : 0<=lim);obtain⟨k,rfl⟩:=Int.eq_ofNat_of_zero_le h'.1;exact QS bS hb64 l k (by omega) (by omega) (by omega) w
 ·have e:mayB bS lim ord=false:=by unfold mayB;rw[decide_eq_false h,Bool.false_and,Bool.false_and]
  rw[e];exact XM bS lim ord hl1 hl2 ho1 ho2 h w
theorem QR{bS:Nat}{lim ord:Int}(h:mayB bS lim ord=true):Bounds lim ord/\Cfg bS (RS ord.toNat) lim.toNat:=by
 simp only[mayB,Bool.and_eq_true,decide_eq_true_eq] at h;obtain⟨⟨hB,h1⟩,⟨h2,h3⟩,h4⟩:=h;refine⟨hB,?_⟩;unfold Bounds at hB;have hp:=pow8 ord.toNat (by omega);have hlr:lim.toNat*RS ord.toNat=4096*(lim.toNat*2 ^ ord.toNat):=by rw[RS,Nat.mul_left_comm]
 have hR:RS ord.toNat=4096*2 ^ ord.toNat:=rfl;exact⟨by omega,by omega,by omega,by omega,by omega,by omega,h4⟩
end Go.Proofs.YtkfmheelhinjdaaGreatDoor.M
