import Derived.Test.YtbgbfpklgfpepaaGreatDoorProg
import Derived.WalkKit
import Derived.WalkSpells
import Derived.WalkLawsBesides
import Derived.Outline
import Derived.Laws.CopyOwn
import Derived.RegionTactic
import Derived.ChangeAlike
import Derived.Deep.QuietTactic
import Derived.BigQuiet
import Derived.Defers
import Derived.Recover
import Derived.Lib.AppendZerosOnto
import Derived.Deep.RegionLaw
import Derived.Laws.Bits64b
set_option maxRecDepth 1000000
set_option maxHeartbeats 80000000
namespace Go.Proofs.YtbgbfpklgfpepaaGreatDoor.M
open Tryz
theorem xe{α:Sort _}(a:α):∃ x,x=a:=⟨a,rfl⟩
open Go.RowKit
set_option linter.unusedVariables false
theorem aA{p:Prop}(h:p):Hid p:=h
theorem eJ{k:IntKind}{a b:Int}(h:a=b):Ending.returned (.int k a)=.returned (.int k b):=by rw[h]
theorem cE{a b:Bool}(h:a=b):Ending.returned (.bool a)=.returned (.bool b):=by rw[h]
theorem wrap_u64(n:Int):IntKind.u64.wrap n=n%2 ^ 64:=IntKind.wrap_u64 n
structure Kt(S:Nat->Prop)(w w':World):Prop where
 os:w'.os=w.os
 tape:w'.tape=w.tape
 output:w'.output=w.output
 size:w.heap.size<=w'.heap.size
 block:∀ k,k<w.heap.size->¬S k->w'.heap[k]?=w.heap[k]?
theorem Kt.refl(S:Nat->Prop)(w:World):Kt S w w:=⟨rfl,rfl,rfl,Nat.le_refl _,fun _ _ _=>rfl⟩
theorem Kt.trans{S T U:Nat->Prop}{a b c:World}(h:Kt S a b)(k:Kt T b c)(hS:∀ x,x<a.heap.size->S x->U x)(hT:∀ x,x<a.heap.size->T x->U x):Kt U a c:=
 ⟨k.os.trans h.os,k.tape.trans h.tape,k.output.trans h.output,Nat.le_trans h.size k.size,fun i hi hU=>(k.block i (Nat.lt_of_lt_of_le hi h.size) (fun x=>hU (hT i hi x))).trans (h.block i hi (fun x=>hU (hS i hi x)))⟩
theorem Kt.mono{S T:Nat->Prop}{a b:World}(h:Kt S a b)(hS:∀ x,x<a.heap.size->S x->T x):Kt T a b:=
 ⟨h.os,h.tape,h.output,h.size,fun i hi hU=>h.block i hi (fun x=>hU (hS i hi x))⟩
theorem Kt.drew{S:Nat->Prop}{a b:World}(h:Kt S a b):Kt S a b.drew:=⟨h.os,h.tape,h.output,h.size,h.block⟩
theorem Kt.drewN{S:Nat->Prop}{a b:World}(h:Kt S a b)(n:Nat):Kt S a (b.drewN n):=⟨h.os,h.tape,h.output,h.size,h.block⟩
theorem Kt.alloc{S:Nat->Prop}{a b:World}(h:Kt S a b)(o:Obj):Kt S a (b.alloc o):=
 ⟨h.os,h.tape,h.output,by simp;have:=h.size;omega,fun i hi hU=>by rw[Below.heap_alloc _ _ _ (by have:=h.size;omega)];exact h.block i hi hU⟩
theorem Kt.setCell{S:Nat->Prop}{a b:World}(h:Kt S a b){p:Addr}(hp:p.block<a.heap.size->S p.block)(u:Value):Kt S a (b.setCell p u):=
 ⟨h.os,h.tape,h.output,by simp;exact h.size,fun i hi hU=>by rw[Below.heap_setCell b p u i (fun e=>hU (by rw[e];exact hp (e▸hi)))];exact h.block i hi hU⟩
theorem Kt.setRow{S:Nat->Prop}{a b:World}(h:Kt S a b){g:Nat}(hg:g<a.heap.size->S g)(cs:Array Value):Kt S a (b.setRow g cs):=
 ⟨h.os,h.tape,h.output,by simp[World.setRow];exact h.size,fun i hi hU=>by rw[setRow_other b g i _ (fun e=>hU (by rw[e];exact hg (e▸hi)))];exact h.block i hi hU⟩
theorem uX{w:World}{p:Addr}{v:Value}(h:w.cell? p=some v):p.block<w.heap.size:=by
 rcases Nat.lt_or_ge p.block w.heap.size with h1|h1
 ·exact h1
 ·exfalso
  simp[World.cell?,Array.getElem?_eq_none h1] at h
theorem Kt.cell{S:Nat->Prop}{a b:World}(h:Kt S a b){p:Addr}{v:Value}(hp:¬S p.block)(hc:a.cell? p=some v):b.cell? p=some v:=by
 rw[<-hc];exact World.cell?_of_block (h.block _ (uX hc) hp)
theorem nH(w:World)(o:Obj):(w.alloc o).heap[w.heap.size]?=some o:=by
 show(w.heap.push o)[w.heap.size]?=_
 simp
def bcells(rs:List Nat):Array Value:=(rs.map fun (x:Nat)=>Value.int .u8 x).toArray
theorem yD(rs:List Nat):(bcells rs).size=rs.length:=by simp[bcells]
def own(b:Nat)(ao:Option Nat):Nat->Prop:=fun x=>x=b\/ao=some x
def nO:Nat->Prop:=fun _=>False
structure Cfg(bS R lim:Nat):Prop where
 b1 : 1<=bS
 l1 : 1<=lim
 l2:lim<=64
 r1 : 4096<=R
 r2:R<=1048576
 lr:lim*R<=4194304
 be:bS+lim*R<=9223372036854775808
def vM(w:World)(b:Nat)(ao:Option Nat)(n cap:Nat)(f:Nat->Nat):Prop:=
 match ao with
 | none=>n=0/\cap=0
 | some g=>g≠b/\∃ rs:List Nat,rs.length=cap/\w.heap[g]?=some (.cells (bcells rs) 5 (0,0))/\n<=cap/\(∀ i,i<n->rs.getD i 0=f i)/\∀ i,rs.getD i 0<256
def adr(ao:Option Nat):Option Addr:=ao.map fun g=>⟨g,0,none⟩
structure SpA(w:World)(b:Nat)(ao:Option Nat)(bS R lim n:Nat)(f:Nat->Nat):Prop where
 cfg:Cfg bS R lim
 kn:∃ k,n=k*R/\k<=lim
 ex:∃ cap,w.heap[b]?=some (.cells #[.int .u64 bS,.int .u64 R,.int .i64 lim,.slice (adr ao) n cap] 173 (0,0))/\vM w b ao n cap f
theorem SpA.blt{w b ao bS R lim n f}(h:SpA w b ao bS R lim n f):b<w.heap.size:=by
 obtain⟨cap,hb,_⟩:=h.ex;exact(Array.getElem?_eq_some_iff.1 hb).1
theorem SpA.glt{w b g bS R lim n f}(h:SpA w b (some g) bS R lim n f):g<w.heap.size:=by
 obtain⟨cap,_,_,rs,_,hg,_⟩:=h.ex;exact(Array.getElem?_eq_some_iff.1 hg).1
theorem SpA.own_lt{w b ao bS R lim n f}(h:SpA w b ao bS R lim n f)(x:Nat)(hx:own b ao x):x<w.heap.size:=by
 rcases hx with rfl|rfl
 ·exact h.blt
 ·exact h.glt
theorem SpA.nle{w b ao bS R lim n f}(h:SpA w b ao bS R lim n f):n<=lim*R:=by
 obtain⟨k,rfl,hk⟩:=h.kn;exact Nat.mul_le_mul_right _ hk
theorem SpA.kept{w w' b ao bS R lim n f}{S:Nat->Prop}(h:SpA w b ao bS R lim n f)(k:Kt S w w')(hS:∀ x,own b ao x->¬S x):SpA w' b ao bS R lim n f:=by
 have hl:=h.own_lt;obtain⟨cap,hb,hr⟩:=h.ex;refine⟨h.cfg,h.kn,cap,(k.block b (hl b (Or.inl rfl)) (hS b (Or.inl rfl))).trans hb,?_⟩
 cases ao with
 | none=>exact hr
 | some g=>
  obtain⟨hne,rs,h1,h2,h3⟩:=hr;exact⟨hne,rs,h1,(k.block g (hl g (Or.inr rfl)) (hS g (Or.inr rfl))).trans h2,h3⟩
theorem SpA.keep{w w' b ao bS R lim n f}(h:SpA w b ao bS R lim n f)(k:Kt nO w w'):SpA w' b ao bS R lim n f:=
 h.kept k (fun _ _ x=>x)
theorem SpA.c0{w b ao bS R lim n f}(h:SpA w b ao bS R lim n f):w.cell? ⟨b,0,none⟩=some (.int .u64 bS):=by
 obtain⟨cap,hb,_⟩:=h.ex;simp[World.cell?,hb]
theorem SpA.c1{w b ao bS R lim n f}(h:SpA w b ao bS R lim n f):w.cell? ⟨b,1,none⟩=some (.int .u64 R):=by
 obtain⟨cap,hb,_⟩:=h.ex;simp[World.cell?,hb]
theorem SpA.c2{w b ao bS R lim n f}(h:SpA w b ao bS R lim n f):w.cell? ⟨b,2,none⟩=some (.int .i64 lim):=by
 obtain⟨cap,hb,_⟩:=h.ex;simp[World.cell?,hb]
theorem SpA.c3{w b ao bS R lim n f}(h:SpA w b ao bS R lim n f):∃ cap,w.cell? ⟨b,3,none⟩=some (.slice (adr ao) n cap):=by
 obtain⟨cap,hb,_⟩:=h.ex;exact⟨cap,by simp[World.cell?,hb]⟩
theorem SpA.fb{w b ao bS R lim n f}(h:SpA w b ao bS R lim n f)(i:Nat):w.frozen? ⟨b,i,none⟩=false:=by
 obtain⟨cap,hb,_⟩:=h.ex;simp[World.frozen?,hb]
theorem regions_any(b ao bS R lim n f)(w:World)(h:SpA w b ao bS R lim n f):
  Calls prog 190 #[.pointer (some ⟨b,0,none⟩)] w fun e w'=>e=.returned (.int .i64 ((n/R:Nat):Int))/\∃ m,w'=w.drewN m:=by
 obtain⟨cap,h3⟩:=h.c3;have h1:=h.c1;have hn:=h.nle;have hc:=h.cfg;have r1:=hc.r1;have r2:=hc.r2;have hn2:n<=4194304:=Nat.le_trans hn hc.lr;have r0:¬(R:Int)=0:=by omega
 have E:=aA (show wrap64 ((n:Int)/(R:Int))=((n/R:Nat):Int)by
  have hq:n/R<=n:=Nat.div_le_self _ _;rw[<-Int.natCast_ediv];generalize n/R=q at hq;unfold wrap64;omega)
 clear h hc hn;go_enter func190,ntmps190;go_wp2
 go_quiet (fail)
 go_wp2
 go_ret;exact⟨eJ E.out,_,rfl⟩
theorem end_any(b ao bS R lim n f)(w:World)(h:SpA w b ao bS R lim n f):
  Calls prog 76 #[.pointer (some ⟨b,0,none⟩)] w fun e w'=>e=.returned (.int .u64 ((bS+n:Nat):Int))/\∃ m,w'=w.drewN m:=by
 obtain⟨cap,h3⟩:=h.c3;have h0:=h.c0;have hn:=h.nle;have hc:=h.cfg;have be:=hc.be;have lr:=hc.lr;have hn2:n<=4194304:=Nat.le_trans hn hc.lr;have hbn:bS+n<=9223372036854775808:=by omega
 have E:=aA (show(bS:Int)+(n:Int)=((bS+n:Nat):Int)by simp);clear h hc hn lr be;go_enter func76,ntmps76;go_wp2
 go_quiet (fail)
 go_wp2
 go_ret;exact⟨eJ E.out,_,rfl⟩
theorem BU(b:Nat)(p:Int)(w:World):
  Calls prog 88 #[.pointer (some ⟨b,0,none⟩),.int .u64 p,.int .u64 0] w fun e w'=>e=.returned (.slice none 0 0)/\w'=w:=by
 go_enter func88,ntmps88;go_wp2
 go_ret;exact⟨rfl,rfl⟩
def In(bS n p k:Nat):Prop:=bS<=p/\p+k<=bS+n
theorem kR(b g bS R lim n f)(p k:Nat)(w:World)(h:SpA w b (some g) bS R lim n f)(hk : 0<k)(hin:In bS n p k):
  Calls prog 88 #[.pointer (some ⟨b,0,none⟩),.int .u64 p,.int .u64 k] w fun e w'=>(∃ c,e=.returned (.slice (some ⟨g,p-bS,none⟩) k c))/\∃ m,w'=w.drewN m:=by
 have hH:=h;have h0:=h.c0;have hn:=h.nle;have hc:=h.cfg;have be:=hc.be;have lr:=hc.lr;obtain⟨cap,hb,_,rs,hrl,hg,hnc,_,_⟩:=h.ex;have h3:w.cell? ⟨b,3,none⟩=some (.slice (some ⟨g,0,none⟩) n cap):=by simp[World.cell?,hb,adr]
 obtain⟨hp1,hp2⟩:=hin;have HH:=aA hH;obtain⟨o,rfl⟩:∃ o,p=bS+o:=⟨p-bS,by omega⟩;have e1:bS+o-bS=o:=by omega
 rw[e1];have ho:o+k<=n:=by omega
 have hoc:o+k<=cap:=by omega
 have hn2:n<=4194304:=by omega
 have hbn:bS+n<=9223372036854775808:=by omega
 clear h hc hH lr be hn hg hrl hb hp1 hp2 e1;go_enter func88,ntmps88;go_wp2_with (go_at_call 76;refine(end_any b (some g) bS R lim n f _ HH.out).mono ?_;rintro e w' ⟨rfl,m,rfl⟩)
 go_ret;refine⟨⟨cap-o,?_⟩,_,rfl⟩;show Ending.returned (.slice (some ⟨g,bS+o-bS,none⟩) (bS+o-bS+k-(bS+o-bS)) (cap-(bS+o-bS)))=_
 have e1:bS+o-bS=o:=by omega
 have e2:o+k-o=k:=by omega
 rw[e1,e2]
def TX:List PanicEntry:=[{ v:=.iface 24 (.int .i64 4),recovered:=false }]
theorem tM(b ao bS R lim n f)(p k:Nat)(w:World)(h:SpA w b ao bS R lim n f)(hp64:p<18446744073709551616)(hk64:k<18446744073709551616)(hk : 0<k)(hin:¬In bS n p k):
  Calls prog 88 #[.pointer (some ⟨b,0,none⟩),.int .u64 p,.int .u64 k] w fun e w'=>e=.panicked TX/\∃ m,w'=w.drewN m:=by
 have h0:=h.c0;have hn:=h.nle;have hc:=h.cfg;have be:=hc.be;have lr:=hc.lr;have HH:=aA h;have hn2:n<=4194304:=by omega
 have hbn:bS+n<=9223372036854775808:=by omega
 by_cases h1:p<bS
 ·clear h hc lr be hn hin;go_enter func88,ntmps88;go_wp2_with (go_at_call 76;refine(end_any b ao bS R lim n f _ HH.out).mono ?_;rintro e w' ⟨rfl,m,rfl⟩)
  exact⟨rfl,rfl,_,rfl⟩
 ·by_cases h2:bS+n<p
  ·clear h hc lr be hn hin;go_enter func88,ntmps88;go_wp2_with (go_at_call 76;refine(end_any b ao bS R lim n f _ HH.out).mono ?_;rintro e w' ⟨rfl,m,rfl⟩)
   exact⟨rfl,rfl,_,rfl⟩
  ·have h3:bS+n-p<k:=(by unfold In at hin;omega);have h4:(bS:Int)+n-p<k:=(by omega);clear h hc lr be hn hin h3;go_enter func88,ntmps88;go_wp2_with (go_at_call 76;refine(end_any b ao bS R lim n f _ HH.out).mono ?_;rintro e w' ⟨rfl,m,rfl⟩)
   exact⟨rfl,rfl,_,rfl⟩
theorem nU(w:World):Calls prog 87 #[.nilIface] w fun e w'=>e=.returned (.int .i64 0)/\w'=w:=by
 go_enter func87,ntmps87;go_wp2
 go_ret;exact⟨rfl,rfl⟩
theorem JG(t:TypeId)(v:Value)(w:World):Calls prog 87 #[.iface t v] w fun e w'=>e=.returned (.int .i64 4)/\w'=w:=by
 go_enter func87,ntmps87;go_wp2
 go_ret;exact⟨rfl,rfl⟩
theorem OF(p:Addr)(x:Int)(u:TypeId)(pv:Value)(older:List PanicEntry)(w:World)(hc:w.cell? p=some (.int .i64 x))(hz:w.frozen? p=false):
  CallsD prog 89 #[.pointer (some p)] (.panicking ({ v:=.iface u pv,recovered:=false } :: older)) w fun e u' w'=>
   e=.returned (.tuple #[])/\u'=.panicking ({ v:=.iface u pv,recovered:=true } :: older)/\w'=w.setCell p (.int .i64 4):=by
 refine callsD_of_wpS func89 rfl fun c₀ cs hu=>?_
 apply wpS_region
 simp[wpOpsS,go_sem,recoverD,hu,ntmps89];refine(JG _ _ _).mono ?_;rintro e w' ⟨rfl,rfl⟩;simp[go_sem,hc,hz,bodyPostS,results,results89]
theorem OE(p:Addr)(x:Int)(w:World)(hc:w.cell? p=some (.int .i64 x))(hz:w.frozen? p=false):
  CallsD prog 89 #[.pointer (some p)] .returning w fun e u' w'=>e=.returned (.tuple #[])/\u'=.returning/\w'=w.setCell p (.int .i64 0):=by
 refine callsD_of_wpS func89 rfl fun c₀ cs hu=>?_
 apply wpS_region
 simp[wpOpsS,go_sem,recoverD,hu,ntmps89];refine(nU _).mono ?_;rintro e w' ⟨rfl,rfl⟩
 cases c₀
 simp_all [go_sem,bodyPostS,results,results89]
theorem zjX(p:Addr)(x:Int)(w:World)(hc:w.cell? p=some (.int .i64 x))(hz:w.frozen? p=false):
  CallsD prog 160 #[.pointer (some p)] .returning w fun e u' w'=>e=.returned (.tuple #[])/\u'=.returning/\w'=w.setCell p (.int .i64 0):=by
 refine callsD_of_wpS func160 rfl fun c₀ cs hu=>?_
 apply wpS_region
 simp[wpOpsS,go_sem,recoverD,hu,ntmps160];refine(nU _).mono ?_;rintro e w' ⟨rfl,rfl⟩
 cases c₀
 simp_all [go_sem,bodyPostS,results,results160]
theorem OD(p:Addr)(x:Int)(u:TypeId)(pv:Value)(older:List PanicEntry)(w:World)(hc:w.cell? p=some (.int .i64 x))(hz:w.frozen? p=false):
  CallsD prog 90 #[.pointer (some p)] (.panicking ({ v:=.iface u pv,recovered:=false } :: older)) w fun e u' w'=>
   e=.returned (.tuple #[])/\u'=.panicking ({ v:=.iface u pv,recovered:=true } :: older)/\w'=w.setCell p (.int .i64 4):=by
 refine callsD_of_wpS func90 rfl fun c₀ cs hu=>?_
 apply wpS_region
 simp[wpOpsS,go_sem,recoverD,hu,ntmps90];refine(JG _ _ _).mono ?_;rintro e w' ⟨rfl,rfl⟩;simp[go_sem,hc,hz,bodyPostS,results,results90]
theorem OC(p:Addr)(x:Int)(w:World)(hc:w.cell? p=some (.int .i64 x))(hz:w.frozen? p=false):
  CallsD prog 90 #[.pointer (some p)] .returning w fun e u' w'=>e=.returned (.tuple #[])/\u'=.returning/\w'=w.setCell p (.int .i64 0):=by
 refine callsD_of_wpS func90 rfl fun c₀ cs hu=>?_
 apply wpS_region
 simp[wpOpsS,go_sem,recoverD,hu,ntmps90];refine(nU _).mono ?_;rintro e w' ⟨rfl,rfl⟩
 cases c₀
 simp_all [go_sem,bodyPostS,results,results90]
theorem zjY(p:Addr)(x:Int)(w:World)(hc:w.cell? p=some (.int .i64 x))(hz:w.frozen? p=false):
  CallsD prog 86 #[.pointer (some p)] .returning w fun e u' w'=>e=.returned (.tuple #[])/\u'=.returning/\w'=w.setCell p (.int .i64 0):=by
 refine callsD_of_wpS func86 rfl fun c₀ cs hu=>?_
 apply wpS_region
 simp[wpOpsS,go_sem,recoverD,hu,ntmps86];refine(nU _).mono ?_;rintro e w' ⟨rfl,rfl⟩
 cases c₀
 simp_all [go_sem,bodyPostS,results,results86]
theorem OB(p:Addr)(x:Int)(w:World)(hc:w.cell? p=some (.int .i64 x))(hz:w.frozen? p=false):
  CallsD prog 95 #[.pointer (some p)] .returning w fun e u' w'=>e=.returned (.tuple #[])/\u'=.returning/\w'=w.setCell p (.int .i64 0):=by
 refine callsD_of_wpS func95 rfl fun c₀ cs hu=>?_
 apply wpS_region
 simp[wpOpsS,go_sem,recoverD,hu,ntmps95];refine(nU _).mono ?_;rintro e w' ⟨rfl,rfl⟩
 cases c₀
 simp_all [go_sem,bodyPostS,results,results95]
theorem OA(p:Addr)(x:Int)(w:World)(hc:w.cell? p=some (.int .i64 x))(hz:w.frozen? p=false):
  CallsD prog 139 #[.pointer (some p)] .returning w fun e u' w'=>e=.returned (.tuple #[])/\u'=.returning/\w'=w.setCell p (.int .i64 0):=by
 refine callsD_of_wpS func139 rfl fun c₀ cs hu=>?_
 apply wpS_region
 simp[wpOpsS,go_sem,recoverD,hu,ntmps139];refine(nU _).mono ?_;rintro e w' ⟨rfl,rfl⟩
 cases c₀
 simp_all [go_sem,bodyPostS,results,results139]
theorem zR(p:Addr)(x:Int)(w:World)(hc:w.cell? p=some (.int .i64 x))(hz:w.frozen? p=false):
  CallsD prog 147 #[.pointer (some p)] .returning w fun e u' w'=>e=.returned (.tuple #[])/\u'=.returning/\w'=w.setCell p (.int .i64 0):=by
 refine callsD_of_wpS func147 rfl fun c₀ cs hu=>?_
 apply wpS_region
 simp[wpOpsS,go_sem,recoverD,hu,ntmps147];refine(nU _).mono ?_;rintro e w' ⟨rfl,rfl⟩
 cases c₀
 simp_all [go_sem,bodyPostS,results,results147]
theorem BS(p:Addr)(x:Int)(w:World)(hc:w.cell? p=some (.int .i64 x))(hz:w.frozen? p=false):
  CallsD prog 161 #[.pointer (some p)] .returning w fun e u' w'=>e=.returned (.tuple #[])/\u'=.returning/\w'=w.setCell p (.int .i64 0):=by
 refine callsD_of_wpS func161 rfl fun c₀ cs hu=>?_
 apply wpS_region
 simp[wpOpsS,go_sem,recoverD,hu,ntmps161];refine(nU _).mono ?_;rintro e w' ⟨rfl,rfl⟩
 cases c₀
 simp_all [go_sem,bodyPostS,results,results161]
structure Err(S:Nat->Prop)(w w1:World):Prop where
 k:Kt S w w1
 he:w1.heap[w.heap.size]?=some (.cells #[.int .i64 0] 24 (0,0))
 sz:w1.heap.size=w.heap.size+1
theorem Err.mk'(S:Nat->Prop)(w:World):Err S w (w.alloc (.cells #[.int .i64 0] 24)):=⟨(Kt.refl _ w).alloc _,nH _ _,by simp⟩
theorem Err.drewN{S:Nat->Prop}{w w1:World}(h:Err S w w1)(m:Nat):Err S w (w1.drewN m):=⟨h.k.drewN m,h.he,h.sz⟩
theorem Err.c{S:Nat->Prop}{w w1:World}(h:Err S w w1):w1.cell? ⟨w.heap.size,0,none⟩=some (.int .i64 0):=by simp[World.cell?,h.he]
theorem Err.f{S:Nat->Prop}{w w1:World}(h:Err S w w1):w1.frozen? ⟨w.heap.size,0,none⟩=false:=by simp[World.frozen?,h.he]
theorem Err.mono{S T:Nat->Prop}{w w1:World}(h:Err S w w1)(hST:∀ x,S x->T x):Err T w w1:=⟨h.k.mono (fun x _=>hST x),h.he,h.sz⟩
theorem Err.setCell{S:Nat->Prop}{w w1:World}(h:Err S w w1){g:Nat}(hg:g<w.heap.size)(hS:S g)(i:Nat)(u:Value):Err S w (w1.setCell ⟨g,i,none⟩ u):=
 ⟨h.k.setCell (fun _=>hS) u,by rw[Below.heap_setCell _ _ _ _ (by simp;omega)];exact h.he,by simp;exact h.sz⟩
theorem Err.setRow{S:Nat->Prop}{w w1:World}(h:Err S w w1){g:Nat}(hg:g<w.heap.size)(hS:S g)(cs:Array Value):Err S w (w1.setRow g cs):=
 ⟨h.k.setRow (fun _=>hS) cs,by rw[setRow_other _ _ _ _ (by omega)];exact h.he,by simp[World.setRow];exact h.sz⟩
theorem Err.done{S:Nat->Prop}{w w1:World}(h:Err S w w1)(u:Value):Kt S w (w1.setCell ⟨w.heap.size,0,none⟩ u):=h.k.setCell (fun h=>absurd h (Nat.lt_irrefl _)) _
theorem Err.done2{S:Nat->Prop}{w w1:World}(h:Err S w w1)(u v:Value):Kt S w ((w1.setCell ⟨w.heap.size,0,none⟩ u).setCell ⟨w.heap.size,0,none⟩ v):=(h.done u).setCell (fun h=>absurd h (Nat.lt_irrefl _)) _
theorem SpA.cg{w b g bS R lim n f}(h:SpA w b (some g) bS R lim n f)(i:Nat)(hi:i<n):w.cell? ⟨g,i,none⟩=some (.int .u8 ((f i:Nat):Int)):=by
 obtain⟨cap,hb,_,rs,hrl,hg,hnc,hf,_⟩:=h.ex;rw[<-hf i hi];simp[World.cell?,hg,bcells,show i<rs.length by omega]
theorem SpA.fg{w b g bS R lim n f}(h:SpA w b (some g) bS R lim n f)(i:Nat):w.frozen? ⟨g,i,none⟩=false:=by
 obtain⟨cap,hb,_,rs,hrl,hg,hnc,hf,_⟩:=h.ex;simp[World.frozen?,hg]
theorem jM:∀ (fn:Fn) (first cap:Array Value) (w:World),(Instr.makeFunc fn first cap).run prog w=.ok (.func fn first cap) w:=fun _ _ _ _=>rfl
theorem WP(b ao bS R lim n f)(p k:Nat)(v:Int)(va:Option Addr)(vc:Nat)(w:World)(h:SpA w b ao bS R lim n f)(hp:p<18446744073709551616)(hk:k<18446744073709551616)(hk0 : 0<k)(hin:¬In bS n p 1):
  Calls prog 55 #[.pointer (some ⟨b,0,none⟩),.int .u64 p] w fun e w'=>e=.returned (.tuple #[.int .u8 0,.int .i64 4])/\Kt nO w w':=by
 have hmf:=jM;have HH:=aA h;have HI:=aA hin;clear h hin;go_enter_defers func55,ntmps55;go_wp2_with fail;refine(tM b ao bS R lim n f p 1 _ (HH.out.keep (Err.mk' nO w).k) hp (by omega) (by omega) HI.out).mono ?_;rintro e w1 ⟨rfl,m,hw⟩;have hE:Err nO w w1:=by rw[hw];exact(Err.mk' nO w).drewN m
 have bQ:=hE.c;have hef:=hE.f;have HE:=aA hE;clear hE hw;refine leaves_cons (f:=89) (args:=#[.pointer (some ⟨w.heap.size,0,none⟩)]) (by simp) (by simp[go_sem]) ?_;refine(OF ⟨w.heap.size,0,none⟩ 0 _ _ [] w1 bQ hef).mono ?_;rintro e u' w'' ⟨rfl,rfl,rfl⟩;refine⟨(.tuple #[.int .u8 0,.int .i64 4]),?_,rfl,HE.out.done _⟩;simp[results,results55,go_sem,bQ]
theorem WN(b ao bS R lim n f)(p k:Nat)(v:Int)(va:Option Addr)(vc:Nat)(w:World)(h:SpA w b ao bS R lim n f)(hp:p<18446744073709551616)(hk:k<18446744073709551616)(hk0 : 0<k)(hin:¬In bS n p 8):
  Calls prog 56 #[.pointer (some ⟨b,0,none⟩),.int .u64 p] w fun e w'=>e=.returned (.tuple #[.int .u64 0,.int .i64 4])/\Kt nO w w':=by
 have hmf:=jM;have HH:=aA h;have HI:=aA hin;clear h hin;go_enter_defers func56,ntmps56;go_wp2_with fail;refine(tM b ao bS R lim n f p 8 _ (HH.out.keep (Err.mk' nO w).k) hp (by omega) (by omega) HI.out).mono ?_;rintro e w1 ⟨rfl,m,hw⟩;have hE:Err nO w w1:=by rw[hw];exact(Err.mk' nO w).drewN m
 have bQ:=hE.c;have hef:=hE.f;have HE:=aA hE;clear hE hw;refine leaves_cons (f:=90) (args:=#[.pointer (some ⟨w.heap.size,0,none⟩)]) (by simp) (by simp[go_sem]) ?_;refine(OD ⟨w.heap.size,0,none⟩ 0 _ _ [] w1 bQ hef).mono ?_;rintro e u' w'' ⟨rfl,rfl,rfl⟩;refine⟨(.tuple #[.int .u64 0,.int .i64 4]),?_,rfl,HE.out.done _⟩;simp[results,results56,go_sem,bQ]
def upd(f:Nat->Nat)(o k:Nat)(g:Nat->Nat):Nat->Nat:=fun i=>if o<=i/\i<o+k then g (i-o) else f i
theorem GF(f:Nat->Nat)(o:Nat)(g:Nat->Nat):upd f o 0 g=f:=by
 funext i
 simp only[upd];rw[if_neg (by omega)]
theorem GE(f:Nat->Nat)(o k:Nat)(g:Nat->Nat):upd (upd f o k g) (o+k) 1 (fun _=>g k)=upd f o (k+1) g:=by
 funext i
 simp only[upd];by_cases h1:i=o+k
 ·subst h1;rw[if_pos (by omega),if_pos (by omega),Nat.add_sub_cancel_left]
 ·rw[if_neg (by omega)];by_cases h2:o<=i/\i<o+k
  ·rw[if_pos h2,if_pos (by omega)]
  ·rw[if_neg h2,if_neg (by omega)]
def lay(rs:List Nat)(o k:Nat)(g:Nat->Nat):List Nat:=rs.take o ++ ((List.range k).map g ++ rs.drop (o + k))
theorem CW(rs:List Nat)(o k:Nat)(g:Nat->Nat)(h:o+k<=rs.length):(lay rs o k g).length=rs.length:=by simp[lay];omega
theorem tY(rs:List Nat)(o k:Nat)(g:Nat->Nat)(h:o+k<=rs.length)(i:Nat):(lay rs o k g).getD i 0=if o<=i/\i<o+k then g (i-o) else rs.getD i 0:=by
 simp only[lay,List.getD,List.getElem?_append,List.length_take,List.length_map,List.length_range,List.getElem?_take,List.getElem?_drop,List.getElem?_map];have e:min o rs.length=o:=by omega
 rw[e];by_cases h1:i<o
 ·have h3:¬(o<=i/\i<o+k):=by omega
  simp only[h1,h3,if_true,if_false]
 ·rw[if_neg h1];by_cases h2:i-o<k
  ·rw[if_pos h2,if_pos (by omega),List.getElem?_range h2];rfl
  ·rw[if_neg h2,if_neg (by omega)];congr 2
   omega
theorem xW(rs:List Nat)(o k:Nat)(g:Nat->Nat)(cs:List Value)(hcs:cs=(List.range k).map fun i=>Value.int .u8 ((g i:Nat):Int)):
  ((bcells rs).toList.take o ++ cs ++ (bcells rs).toList.drop (o + cs.length)).toArray=bcells (lay rs o k g):=by
 subst hcs;simp only[bcells,lay,List.length_map,List.length_range,List.map_append,List.map_map,List.append_assoc,<-List.map_take,<-List.map_drop];rfl
theorem SpA.lay{w b g bS R lim n f}(h:SpA w b (some g) bS R lim n f)(o k:Nat)(gg:Nat->Nat)(ho:o+k<=n)(h256:∀ i,i<k->gg i<256)(cs:List Value)(hcs:cs=(List.range k).map fun i=>Value.int .u8 ((gg i:Nat):Int)):
  ∃ cur,w.heap[g]?=some (.cells cur 5 (0,0))/\o + cs.length<=cur.size/\SpA (w.setRow g (cur.toList.take o ++ cs ++ cur.toList.drop (o + cs.length)).toArray) b (some g) bS R lim n (upd f o k gg):=by
 obtain⟨cap,hb,hne,rs,hrl,hg,hnc,hf,hr⟩:=h.ex;refine⟨bcells rs,hg,by rw[yD,hcs];simp;omega,h.cfg,h.kn,cap,?_,hne,Go.Proofs.YtbgbfpklgfpepaaGreatDoor.M.lay rs o k gg,?_,?_,hnc,?_,?_⟩
 ·rw[setRow_other _ _ _ _ (fun e=>hne e.symm)];exact hb
 ·rw[CW _ _ _ _ (by omega)];exact hrl
 ·rw[setRow_heap w g _ _ _ _ hg,xW rs o k gg cs hcs]
 ·intro i hi;rw[tY _ _ _ _ (by omega)];simp only[upd];split
  ·rfl
  ·exact hf i hi
 ·intro i;rw[tY _ _ _ _ (by omega)];split
  ·exact h256 _ (by omega)
  ·exact hr i
theorem SpA.write{w b g bS R lim n f}(h:SpA w b (some g) bS R lim n f)(o y:Nat)(ho:o<n)(hy:y<256):SpA (w.setCell ⟨g,o,none⟩ (.int .u8 y)) b (some g) bS R lim n (upd f o 1 fun _=>y):=by
 obtain⟨cap,hb,hne,rs,hrl,hg,hnc,hf,hr⟩:=h.ex;refine⟨h.cfg,h.kn,cap,?_,hne,rs.set o y,?_,?_,hnc,?_,?_⟩
 ·rw[Below.heap_setCell _ _ _ _ (fun e=>hne e.symm)];exact hb
 ·simpa using hrl
 ·simp only[World.setCell];rw[Array.getElem?_modify,if_pos rfl,hg];simp[bcells,List.map_set]
 ·intro i hi;simp only[upd];by_cases e:i=o
  ·subst e;rw[if_pos (by omega)];simp[List.getD,show i<rs.length by omega]
  ·rw[if_neg (by omega),<-hf i hi];simp[List.getD,Ne.symm e]
 ·intro i;by_cases e:i=o
  ·subst e;simp[List.getD,show i<rs.length by omega,hy]
  ·have:=hr i;simpa [List.getD,Ne.symm e] using this
theorem SpA.f256{w b g bS R lim n f}(h:SpA w b (some g) bS R lim n f)(i:Nat)(hi:i<n):f i<256:=by
 obtain⟨cap,hb,hne,rs,hrl,hg,hnc,hf,hr⟩:=h.ex;rw[<-hf i hi];exact hr i
theorem Err.space{S:Nat->Prop}{w w1:World}{b ao bS R lim n f f'}(hE:Err S w w1)(h:SpA w b ao bS R lim n f)(hS:SpA w1 b ao bS R lim n f')(u v:Value):SpA ((w1.setCell ⟨w.heap.size,0,none⟩ u).setCell ⟨w.heap.size,0,none⟩ v) b ao bS R lim n f':=
 hS.kept (((Kt.refl (fun x=>x=w.heap.size) w1).setCell (fun _=>rfl) u).setCell (fun _=>rfl) v) (fun x hx e=>by have:=h.own_lt x hx;omega)
theorem Byte_in(b g bS R lim n f)(p:Nat)(w:World)(h:SpA w b (some g) bS R lim n f)(hin:In bS n p 1):
  Calls prog 55 #[.pointer (some ⟨b,0,none⟩),.int .u64 p] w fun e w'=>e=.returned (.tuple #[.int .u8 ((f (p-bS):Nat):Int),.int .i64 0])/\Kt nO w w':=by
 have hmf:=jM;obtain⟨o,ho⟩:=xe (p-bS);have hol:o<n:=by obtain⟨h1,h2⟩:=hin;omega
 rw[<-ho];have HO:=aA ho;have HH:=aA h;have HI:=aA hin;clear h ho hin;go_enter_defers func55,ntmps55;go_wp2_with fail;refine(kR b g bS R lim n f p 1 _ (HH.out.keep (Err.mk' nO w).k) (by decide) HI.out).mono ?_;rintro e w1 ⟨⟨c,rfl⟩,m,hw⟩;have hE:Err nO w w1:=by rw[hw];exact(Err.mk' nO w).drewN m
 have hS:=HH.out.keep hE.k;rw[<-HO.out];have hc:=hS.cg o hol;have bQ:=hE.c;have hef:=hE.f;have HE:=aA hE;clear hS hE hw;go_wp2
 refine leaves_cons (f:=89) (args:=#[.pointer (some ⟨w.heap.size,0,none⟩)]) (by simp) (by simp[go_sem]) ?_;refine(OE ⟨w.heap.size,0,none⟩ 0 _ ?_ ?_).mono ?_
 ·simp[go_sem,bQ]
 ·simp[go_sem,hef]
 rintro e u' w'' ⟨rfl,rfl,rfl⟩;refine⟨.tuple #[.int .u8 ((f o:Nat):Int),.int .i64 0],?_,rfl,HE.out.done2 _ _⟩;simp[results,results55,go_sem,bQ]
theorem SetByte_in(b g bS R lim n f)(p v:Nat)(hv:v<256)(w:World)(h:SpA w b (some g) bS R lim n f)(hin:In bS n p 1):
  Calls prog 109 #[.pointer (some ⟨b,0,none⟩),.int .u64 p,.int .u8 v] w fun e w'=>e=.returned (.int .i64 0)/\SpA w' b (some g) bS R lim n (upd f (p-bS) 1 fun _=>v)/\Kt (own b (some g)) w w':=by
 have hmf:=jM;obtain⟨o,ho⟩:=xe (p-bS);have hol:o<n:=by obtain⟨h1,h2⟩:=hin;omega
 rw[<-ho];have HO:=aA ho;have HH:=aA h;have HI:=aA hin;clear h ho hin;go_enter_defers func109,ntmps109;go_wp2_with fail;refine(kR b g bS R lim n f p 1 _ (HH.out.keep (Err.mk' nO w).k) (by decide) HI.out).mono ?_;rintro e w1 ⟨⟨c,rfl⟩,m,hw⟩;have hE:Err nO w w1:=by rw[hw];exact(Err.mk' nO w).drewN m
 have hS:=HH.out.keep hE.k;rw[<-HO.out];have hc:=hS.cg o hol;have hf:=hS.fg o;have hE2:=(hE.mono (T:=own b (some g)) (fun _ x=>x.elim)).setCell HH.out.glt (Or.inr rfl) o (.int .u8 v);have HS2:=aA (hS.write o v hol hv);obtain⟨w2,hw2⟩:=xe (w1.setCell ⟨g,o,none⟩ (.int .u8 v));rw[<-hw2] at hE2 HS2;have bQ:=hE2.c;have hef:=hE2.f;have HE:=aA hE2;have hw2':=hw2.symm;clear hS hE hw hE2 hw2;go_wp2
 refine leaves_cons (f:=160) (args:=#[.pointer (some ⟨w.heap.size,0,none⟩)]) (by simp) (by simp[go_sem]) ?_;refine(zjX ⟨w.heap.size,0,none⟩ 0 _ ?_ ?_).mono ?_
 ·simp[go_sem,bQ]
 ·simp[go_sem,hef]
 rintro e u' w'' ⟨rfl,rfl,rfl⟩;refine⟨.int .i64 0,?_,rfl,?_,HE.out.done2 _ _⟩
 ·simp[results,results109,go_sem,bQ]
 ·exact HE.out.space HH.out HS2.out _ _
def wordTo(f:Nat->Nat):Nat->Nat
 | 0=>0
 | k+1=>wordTo f k+f k*256 ^ k
theorem wordTo_lt(f:Nat->Nat)(k:Nat)(h:∀ i,i<k->f i<256):wordTo f k<256 ^ k:=by
 induction k with
 | zero=>simp[wordTo]
 | succ k ih=>
  have h1:=ih (fun i hi=>h i (by omega));have h2:=h k (by omega);have h3:f k*256 ^ k<=255*256 ^ k:=Nat.mul_le_mul_right _ (by omega);simp only[wordTo,Nat.pow_succ];omega
def word(f:Nat->Nat)(o:Nat):Nat:=wordTo (fun i=>f (o+i)) 8
theorem pow256(k:Nat) : 256 ^ k=2 ^ (8*k):=by rw[Nat.pow_mul]
theorem zj1(a k x:Nat)(hk:k<8)(hx:x<256)(ha:a<256 ^ k):bits BinOp.or IntKind.u64 (a:Int) (IntKind.u64.wrap (IntKind.u64.wrap (x:Int)*2 ^ (8*k)))=((a+x*256 ^ k:Nat):Int):=by
 have hp : 2 ^ (8*k)<=2 ^ 56:=Nat.pow_le_pow_right (by decide) (by omega);have h1:x*2 ^ (8*k)<=255*2 ^ (8*k):=Nat.mul_le_mul_right _ (by omega);have e1:IntKind.u64.wrap (x:Int)=x:=by rw[wrap_u64];omega
 have e2:(x:Int)*2 ^ (8*k)=((x*2 ^ (8*k):Nat):Int):=by simp
 have e3:IntKind.u64.wrap ((x*2 ^ (8*k):Nat):Int)=((x*2 ^ (8*k):Nat):Int):=by
  rw[wrap_u64];generalize x*2 ^ (8*k)=y at h1;omega
 rw[e1,e2,e3];rw[pow256] at ha ⊢;rw[bits_or_u64_nat _ _ (by omega) (by omega)];congr 1
 have:=Nat.shiftLeft_add_eq_or_of_lt ha x;rw[Nat.shiftLeft_eq] at this;rw[Nat.or_comm,<-this,Nat.add_comm]
theorem Word_in(b g bS R lim n f)(p:Nat)(w:World)(h:SpA w b (some g) bS R lim n f)(hin:In bS n p 8):
  Calls prog 56 #[.pointer (some ⟨b,0,none⟩),.int .u64 p] w fun e w'=>e=.returned (.tuple #[.int .u64 ((word f (p-bS):Nat):Int),.int .i64 0])/\Kt nO w w':=by
 have hmf:=jM;obtain⟨o,ho⟩:=xe (p-bS);have hol:o+8<=n:=by obtain⟨h1,h2⟩:=hin;omega
 rw[<-ho];have HO:=aA ho;have HH:=aA h;have HI:=aA hin;clear h ho hin;go_enter_defers func56,ntmps56;go_wp2_with fail;refine(kR b g bS R lim n f p 8 _ (HH.out.keep (Err.mk' nO w).k) (by decide) HI.out).mono ?_;rintro e w1 ⟨⟨c,rfl⟩,m,hw⟩;have hE:Err nO w w1:=by rw[hw];exact(Err.mk' nO w).drewN m
 have hS:=HH.out.keep hE.k;rw[<-HO.out];have HC:=aA (fun i (hi:i<8)=>hS.cg (o+i) (by omega));have HL:=aA (fun i (hi:i<8)=>hS.f256 (o+i) (by omega));have bQ:=hE.c;have hef:=hE.f;have HE:=aA hE;clear hS hE hw;go_wp2
 go_loop [4,13] (fun v i=>∃ k:Nat,k<=8/\i=.int .i64 k/\v=.int .u64 ((wordTo (fun i=>f (o+i)) k:Nat):Int)) (fun _ i=>8-(intOf i).toNat)
 case atStart=>exact⟨0,by omega,rfl,rfl⟩
 case round=>
  obtain⟨k,hk,rfl,rfl⟩:=hrel;by_cases hlt:k<8
  ·have hc:=HC.out k hlt;have E:=aA (zj1 (wordTo (fun i=>f (o+i)) k) k (f (o+k)) hlt (HL.out k hlt) (wordTo_lt _ _ (fun i hi=>HL.out i (by omega))));go_wp2
   refine⟨⟨k+1,by omega,by simp,?_⟩,by simp[intOf];omega⟩;rw[E.out];rfl
  ·obtain rfl:k=8:=(by omega);go_wp2
   refine leaves_cons (f:=90) (args:=#[.pointer (some ⟨w.heap.size,0,none⟩)]) (by simp) (by simp[go_sem]) ?_;refine(OC ⟨w.heap.size,0,none⟩ 0 _ ?_ ?_).mono ?_
   ·simp[go_sem,bQ]
   ·simp[go_sem,hef]
   rintro e u' w'' ⟨rfl,rfl,rfl⟩;refine⟨.tuple #[.int .u64 ((word f o:Nat):Int),.int .i64 0],?_,rfl,HE.out.done2 _ _⟩;simp[results,results56,go_sem,bQ,word]
def byteOf(v i:Nat):Nat:=v/256 ^ i%256
theorem zhR(v k:Nat):(v:Int)/2 ^ (8*k)%256=((byteOf v k:Nat):Int):=by
 unfold byteOf;rw[pow256];simp
theorem SetWord_in(b g bS R lim n f)(p v:Nat)(hv:v<18446744073709551616)(w:World)(h:SpA w b (some g) bS R lim n f)(hin:In bS n p 8):
  Calls prog 54 #[.pointer (some ⟨b,0,none⟩),.int .u64 p,.int .u64 v] w fun e w'=>e=.returned (.int .i64 0)/\SpA w' b (some g) bS R lim n (upd f (p-bS) 8 (byteOf v))/\Kt (own b (some g)) w w':=by
 have hmf:=jM;obtain⟨o,ho⟩:=xe (p-bS);have hol:o+8<=n:=by obtain⟨h1,h2⟩:=hin;omega
 rw[<-ho];have HO:=aA ho;have HH:=aA h;have HI:=aA hin;clear h ho hin;go_enter_defers func54,ntmps54;go_wp2_with fail;refine(kR b g bS R lim n f p 8 _ (HH.out.keep (Err.mk' nO w).k) (by decide) HI.out).mono ?_;rintro e w1 ⟨⟨c,rfl⟩,m,hw⟩;have hE:Err nO w w1:=by rw[hw];exact(Err.mk' nO w).drewN m
 rw[<-HO.out];have HS:=aA (HH.out.keep hE.k);have HE:=aA (hE.mono (T:=own b (some g)) (fun _ x=>x.elim));clear hE hw;go_wp2
 go_loopw [15] (fun i wr=>∃ k:Nat,k<=8/\i=.int .i64 k/\Hid (Err (own b (some g)) w wr)/\Hid (SpA wr b (some g) bS R lim n (upd f o k (byteOf v)))) (fun i _=>8-(intOf i).toNat)
 case atStart=>exact⟨0,by omega,rfl,HE,by rw[GF];exact HS⟩
 case round=>
  obtain⟨k,hk,rfl,hE,hS⟩:=hrel;clear HE HS;by_cases hlt:k<8
  ·have hc:=hS.out.cg (o+k) (by omega);have hf:=hS.out.fg (o+k);have E:=aA (zhR v k);go_wp2
   refine⟨⟨k+1,by omega,by simp,?_,?_⟩,by simp[intOf];omega⟩
   ·exact hE.out.setCell HH.out.glt (Or.inr rfl) _ _
   ·rw[E.out,<-GE];exact hS.out.write (o+k) (byteOf v k) (by omega) (Nat.mod_lt _ (by decide))
  ·obtain rfl:k=8:=(by omega);have bQ:=hE.out.c;have hef:=hE.out.f;go_wp2
   refine leaves_cons (f:=86) (args:=#[.pointer (some ⟨w.heap.size,0,none⟩)]) (by simp) (by simp[go_sem]) ?_;refine(zjY ⟨w.heap.size,0,none⟩ 0 _ ?_ ?_).mono ?_
   ·simp[go_sem,bQ]
   ·simp[go_sem,hef]
   rintro e u' w'' ⟨rfl,rfl,rfl⟩;refine⟨.int .i64 0,?_,rfl,?_,hE.out.done2 _ _⟩
   ·simp[results,results54,go_sem,bQ]
   ·exact hE.out.space HH.out hS.out _ _
theorem Fill_in(b g bS R lim n f)(p kk v:Nat)(hv:v<256)(w:World)(h:SpA w b (some g) bS R lim n f)(hk0 : 0<kk)(hin:In bS n p kk):
  Calls prog 59 #[.pointer (some ⟨b,0,none⟩),.int .u64 p,.int .u64 kk,.int .u8 v] w fun e w'=>e=.returned (.int .i64 0)/\SpA w' b (some g) bS R lim n (upd f (p-bS) kk fun _=>v)/\Kt (own b (some g)) w w':=by
 have hmf:=jM;obtain⟨o,ho⟩:=xe (p-bS);have hol:o+kk<=n:=by obtain⟨h1,h2⟩:=hin;omega
 have hn:=h.nle;have lr:=h.cfg.lr;have hkm:kk<=4194304:=by omega
 rw[<-ho];have HO:=aA ho;have HH:=aA h;have HI:=aA hin;clear h ho hin hn lr;go_enter_defers func59,ntmps59;go_wp2_with fail;refine(kR b g bS R lim n f p kk _ (HH.out.keep (Err.mk' nO w).k) hk0 HI.out).mono ?_;rintro e w1 ⟨⟨c,rfl⟩,m,hw⟩;have hE:Err nO w w1:=by rw[hw];exact(Err.mk' nO w).drewN m
 rw[<-HO.out];have HS:=aA (HH.out.keep hE.k);have HE:=aA (hE.mono (T:=own b (some g)) (fun _ x=>x.elim));clear hE hw;go_wp2
 go_loopw [18] (fun i wr=>∃ k:Nat,k<=kk/\i=.int .i64 k/\Hid (Err (own b (some g)) w wr)/\Hid (SpA wr b (some g) bS R lim n (upd f o k fun _=>v))) (fun i _=>kk-(intOf i).toNat)
 case atStart=>exact⟨0,by omega,rfl,HE,by rw[GF];exact HS⟩
 case round=>
  obtain⟨k,hk,rfl,hE,hS⟩:=hrel;clear HE HS;by_cases hlt:k<kk
  ·have hc:=hS.out.cg (o+k) (by omega);have hf:=hS.out.fg (o+k);go_wp2
   refine⟨⟨k+1,by omega,by simp,?_,?_⟩,by simp[intOf];omega⟩
   ·exact hE.out.setCell HH.out.glt (Or.inr rfl) _ _
   ·rw[<-GE];exact hS.out.write (o+k) v (by omega) hv
  ·obtain rfl:k=kk:=(by omega);have bQ:=hE.out.c;have hef:=hE.out.f;go_wp2
   refine leaves_cons (f:=95) (args:=#[.pointer (some ⟨w.heap.size,0,none⟩)]) (by simp) (by simp[go_sem]) ?_;refine(OB ⟨w.heap.size,0,none⟩ 0 _ ?_ ?_).mono ?_
   ·simp[go_sem,bQ]
   ·simp[go_sem,hef]
   rintro e u' w'' ⟨rfl,rfl,rfl⟩;refine⟨.int .i64 0,?_,rfl,?_,hE.out.done2 _ _⟩
   ·simp[results,results59,go_sem,bQ]
   ·exact hE.out.space HH.out hS.out _ _
def Bytes(w:World)(v:Value)(m:Nat)(g:Nat->Nat):Prop:=
 (∀ i,i<m->g i<256)/\∃ ao cap,v=.slice ao m cap/\(m=0\/∃ a:Addr,ao=some a/\a.block<w.heap.size/\∀ j,j<m->w.cell? (a.add j)=some (.int .u8 ((g j:Nat):Int)))
theorem addr_add_block(a:Addr)(j:Nat):(a.add j).block=a.block:=by unfold Addr.add;split <;> rfl
theorem Bytes.kept{w w':World}{S:Nat->Prop}{v:Value}{m:Nat}{g:Nat->Nat}(h:Bytes w v m g)(k:Kt S w w')(hS:∀ b,v.ownBlock=some b->¬S b):Bytes w' v m g:=by
 obtain⟨h1,ao,cap,rfl,h2⟩:=h;refine⟨h1,ao,cap,rfl,?_⟩;rcases h2 with h2|⟨a,rfl,hb,hc⟩
 ·exact Or.inl h2
 ·refine Or.inr ⟨a,rfl,Nat.lt_of_lt_of_le hb k.size,fun j hj=>?_⟩;rw[<-hc j hj];exact World.cell?_of_block (by rw[addr_add_block];exact k.block _ hb (hS a.block rfl))
theorem Bytes.keep{w w':World}{v:Value}{m:Nat}{g:Nat->Nat}(h:Bytes w v m g)(k:Kt nO w w'):Bytes w' v m g:=h.kept k (fun _ _ x=>x)
theorem info_u8:(prog.info? 5).map (fun i=>(i.zero,i.size,i.bytes))=some (some (.int .u8 0),1,1):=by kernel_rfl
def told(m:Nat)(g:Nat->Nat):List Nat:=(List.range m).map g
theorem told_len(m:Nat)(g:Nat->Nat):(told m g).length=m:=by simp[told]
theorem WM(m:Nat)(g:Nat->Nat)(i:Nat)(hi:i<m):(told m g).getD i 0=g i:=by simp[told,List.getD,hi]
def Blk(w:World)(h m:Nat)(g:Nat->Nat):Prop:=(∀ i,i<m->g i<256)/\w.heap[h]?=some (.cells (bcells (told m g)) 5 (0,0))
theorem Blk.lt{w h m g}(H:Blk w h m g):h<w.heap.size:=(Array.getElem?_eq_some_iff.1 H.2).1
theorem Blk.cell{w h m g}(H:Blk w h m g)(i:Nat)(hi:i<m):w.cell? ⟨h,i,none⟩=some (.int .u8 ((g i:Nat):Int)):=by
 have:=WM m g i hi;rw[<-this];simp[World.cell?,H.2,bcells,told_len,hi]
theorem Blk.kept{w w' h m g}{S:Nat->Prop}(H:Blk w h m g)(k:Kt S w w')(hS:¬S h):Blk w' h m g:=⟨H.1,(k.block h H.lt hS).trans H.2⟩
theorem Blk.bytes{w h m g}(H:Blk w h m g)(cap:Nat):Bytes w (.slice (some ⟨h,0,none⟩) m cap) m g:=
 ⟨H.1,some ⟨h,0,none⟩,cap,rfl,Or.inr ⟨⟨h,0,none⟩,rfl,H.lt,fun j hj=>by rw[Addr.add_lit];simpa using H.cell j hj⟩⟩
theorem made_bytes(m:Nat):madeCells (Value.int .u8 0).cells (m*1)=bcells (told m fun _=>0):=by
 simp only[madeCells,bcells,told];apply Array.ext
 ·simp
 ·intro i h1 h2;have:i%1=0:=Nat.mod_one i;simp[Value.cells,this]
theorem JI(m:Nat)(hm:m<=1073741824)(w:World):
  (Instr.makeSlice 61 (.int .i64 m) (.int .i64 m)).run prog w=.ok (.slice (some ⟨w.heap.size,0,none⟩) m m) (w.alloc (.cells (bcells (told m fun _=>0)) 5)):=by
 obtain⟨i,hi,hz0,hz1,hz2⟩:=info_parts info_u8;have:=run_make (P:=prog) w 61 5 i (.int .u8 0) Tryz.underlying61 hi hz0 .i64 .i64 (m:Int) (m:Int) (by omega) (by omega) (by rw[hz2];omega) (by omega);rw[hz1] at this;simp only[Int.toNat_natCast,made_bytes] at this;exact this
def byteVs(k:Nat)(g:Nat->Nat):List Value:=(List.range k).map fun i=>Value.int .u8 ((g i:Nat):Int)
theorem oN(k:Nat)(g:Nat->Nat):(byteVs k g).length=k:=by simp[byteVs]
theorem zhS(k:Nat)(g:Nat->Nat)(j:Nat)(u:Value)(h:(byteVs k g)[j]?=some u):j<k/\u=.int .u8 ((g j:Nat):Int):=by
 have hj:j<k:=by
  rcases Nat.lt_or_ge j k with h1|h1
  ·exact h1
  ·rw[List.getElem?_eq_none (by rw[oN];exact h1)] at h;cases h
 refine⟨hj,?_⟩;simp[byteVs,hj] at h;exact h.symm
theorem xE(w:World)(g o k dc:Nat)(a:Addr)(sc:Nat)(cur:Array Value)(gg:Nat->Nat)(hg:w.heap[g]?=some (.cells cur 5 (0,0)))(hfit:o+k<=cur.size)
  (hsrc:∀ j,j<k->w.cell? (a.add j)=some (.int .u8 ((gg j:Nat):Int))) (ty:TypeId):
  (Builtin.copy_ #[61,61] ty #[.slice (some ⟨g,o,none⟩) k dc,.slice (some a) k sc]).run prog w=.ok (goInt k) (w.setRow g (cur.toList.take o ++ byteVs k gg ++ cur.toList.drop (o + (byteVs k gg).length)).toArray):=by
 obtain⟨i,hi,hz0,hz1,hz2⟩:=info_parts info_u8;have:=run_copy_row (P:=prog) w 61 61 ty 5 g o k dc a k sc cur 5 (byteVs k gg) Tryz.underlying61 (by rw[hi];simp[hz1]) hg (by rw[oN];exact(Nat.min_self k).symm) ?_ ?_ ?_
 ·rw[this,oN]
 ·intro j u hj;obtain⟨h1,rfl⟩:=zhS k gg j u hj;exact hsrc j h1
 ·rw[oN];exact hfit
 ·intro u hu;obtain⟨_,_,rfl⟩:=List.mem_map.1 hu;rfl
theorem GD(w:World)(k dc:Nat)(dp sp:Option Addr)(sc:Nat)(hk:k=0)(ty:TypeId):
  (Builtin.copy_ #[61,61] ty #[.slice dp k dc,.slice sp k sc]).run prog w=.ok (goInt 0) w:=by
 obtain⟨i,hi,hz0,hz1,hz2⟩:=info_parts info_u8;subst hk;exact run_copy_none (P:=prog) w 61 61 ty 5 dp sp 0 dc 0 sc Tryz.underlying61 (by rw[hi];simp[hz1]) rfl
theorem Copy_in(b g bS R lim n f)(p q k:Nat)(w:World)(h:SpA w b (some g) bS R lim n f)(hk0 : 0<k)(hin:In bS n p k)(hin2:In bS n q k):
  Calls prog 85 #[.pointer (some ⟨b,0,none⟩),.int .u64 p,.int .u64 q,.int .u64 k] w fun e w'=>e=.returned (.int .i64 0)/\SpA w' b (some g) bS R lim n (upd f (p-bS) k fun i=>f (q-bS+i))/\Kt (own b (some g)) w w':=by
 have hmf:=jM;obtain⟨o,ho⟩:=xe (p-bS);obtain⟨s,hs⟩:=xe (q-bS);have hol:o+k<=n:=by obtain⟨h1,h2⟩:=hin;omega
 have hsl:s+k<=n:=by obtain⟨h1,h2⟩:=hin2;omega
 rw[<-ho,<-hs];have HO:=aA ho;have HT:=aA hs;have HH:=aA h;have HI:=aA hin;have HJ:=aA hin2;clear h ho hin hin2 hs;go_enter_defers func85,ntmps85;go_wp2_with fail;refine(kR b g bS R lim n f p k _ (HH.out.keep (Err.mk' nO w).k) hk0 HI.out).mono ?_;rintro e w1 ⟨⟨c,rfl⟩,m,hw⟩;have hE:Err nO w w1:=by rw[hw];exact(Err.mk' nO w).drewN m
 have HE:=aA hE;rw[<-HO.out];clear hE hw;go_wp2_with fail;refine(kR b g bS R lim n f q k _ (HH.out.keep HE.out.k) hk0 HJ.out).mono ?_;rintro e w2 ⟨⟨c2,rfl⟩,m2,hw⟩;have hE:Err nO w w2:=by rw[hw];exact HE.out.drewN m2
 rw[<-HT.out];have hS:=HH.out.keep hE.k;obtain⟨cur,hg,hfit,hS3⟩:=hS.lay o k (fun i=>f (s+i)) hol (fun i hi=>hS.f256 _ (by omega)) (byteVs k fun i=>f (s+i)) rfl;have hcp:=xE w2 g o k c ⟨g,s,none⟩ c2 cur (fun i=>f (s+i)) hg (by rw[oN] at hfit;exact hfit) (fun j hj=>by rw[Addr.add_lit];exact hS.cg _ (by omega));have hE3:=(hE.mono (T:=own b (some g)) (fun _ x=>x.elim)).setRow HH.out.glt (Or.inr rfl) (cur.toList.take o ++ byteVs k (fun i=>f (s + i)) ++ cur.toList.drop (o + (byteVs k fun i=>f (s + i)).length)).toArray;obtain⟨w3,hw3⟩:=xe (w2.setRow g (cur.toList.take o ++ byteVs k (fun i=>f (s + i)) ++ cur.toList.drop (o + (byteVs k fun i=>f (s + i)).length)).toArray);rw[<-hw3] at hS3 hcp hE3;have bQ:=hE3.c;have hef:=hE3.f;have HE3:=aA hE3;have HS3:=aA hS3;clear hE hS hg hfit hS3 hE3 hw hw3 HE;go_wp2
 refine leaves_cons (f:=139) (args:=#[.pointer (some ⟨w.heap.size,0,none⟩)]) (by simp) (by simp[go_sem]) ?_;refine(OA ⟨w.heap.size,0,none⟩ 0 _ ?_ ?_).mono ?_
 ·simp[go_sem,bQ]
 ·simp[go_sem,hef]
 rintro e u' w'' ⟨rfl,rfl,rfl⟩;refine⟨.int .i64 0,?_,rfl,?_,HE3.out.done2 _ _⟩
 ·simp[results,results85,go_sem,bQ]
 ·exact HE3.out.space HH.out HS3.out _ _
theorem Write_in(b g bS R lim n f)(p k:Nat)(v:Value)(gg:Nat->Nat)(w:World)(h:SpA w b (some g) bS R lim n f)(hk0 : 0<k)(hin:In bS n p k)(hv:Bytes w v k gg):
  Calls prog 110 #[.pointer (some ⟨b,0,none⟩),.int .u64 p,v] w fun e w'=>e=.returned (.int .i64 0)/\SpA w' b (some g) bS R lim n (upd f (p-bS) k gg)/\Kt (own b (some g)) w w':=by
 have hmf:=jM;obtain⟨o,ho⟩:=xe (p-bS);have hol:o+k<=n:=by obtain⟨h1,h2⟩:=hin;omega
 have hn:=h.nle;have lr:=h.cfg.lr;have hkm:k<=4194304:=by omega
 rw[<-ho];have HV:=aA hv;obtain⟨h256,ao,vc,rfl,hva⟩:=hv;obtain⟨a,rfl,-,-⟩:=hva.resolve_left (by omega);have HO:=aA ho;have HH:=aA h;have HI:=aA hin;clear h ho hin hva hn lr;have H256:=aA h256;clear h256;go_enter_defers func110,ntmps110;go_wp2_with fail;refine(kR b g bS R lim n f p k _ (HH.out.keep (Err.mk' nO w).k) hk0 HI.out).mono ?_;rintro e w2 ⟨⟨c,rfl⟩,m,hw⟩;have hE:Err nO w w2:=by rw[hw];exact(Err.mk' nO w).drewN m
 rw[<-HO.out];have hS:=HH.out.keep hE.k;obtain⟨-,ao',vc',e1,hva⟩:=HV.out.keep hE.k;injection e1 with e1 e2 e3
 subst e1;obtain⟨a',e4,-,hac⟩:=hva.resolve_left (by omega);injection e4 with e4
 subst e4;obtain⟨cur,hg,hfit,hS3⟩:=hS.lay o k gg hol H256.out (byteVs k gg) rfl;have hcp:=xE w2 g o k c a vc cur gg hg (by rw[oN] at hfit;exact hfit) hac;have hE3:=(hE.mono (T:=own b (some g)) (fun _ x=>x.elim)).setRow HH.out.glt (Or.inr rfl) (cur.toList.take o ++ byteVs k gg ++ cur.toList.drop (o + (byteVs k gg).length)).toArray;obtain⟨w3,hw3⟩:=xe (w2.setRow g (cur.toList.take o ++ byteVs k gg ++ cur.toList.drop (o + (byteVs k gg).length)).toArray);rw[<-hw3] at hS3 hcp hE3;have bQ:=hE3.c;have hef:=hE3.f;have HE3:=aA hE3;have HS3:=aA hS3;clear hE hS hg hfit hS3 hE3 hw hw3 hva hac HV e2 e3;go_wp2
 refine leaves_cons (f:=161) (args:=#[.pointer (some ⟨w.heap.size,0,none⟩)]) (by simp) (by simp[go_sem]) ?_;refine(BS ⟨w.heap.size,0,none⟩ 0 _ ?_ ?_).mono ?_
 ·simp[go_sem,bQ]
 ·simp[go_sem,hef]
 rintro e u' w'' ⟨rfl,rfl,rfl⟩;refine⟨.int .i64 0,?_,rfl,?_,HE3.out.done2 _ _⟩
 ·simp[results,results110,go_sem,bQ]
 ·exact HE3.out.space HH.out HS3.out _ _
theorem Write_zero(b:Nat)(p:Int)(va:Option Addr)(vc:Nat)(w:World):
  Calls prog 110 #[.pointer (some ⟨b,0,none⟩),.int .u64 p,.slice va 0 vc] w fun e w'=>e=.returned (.int .i64 0)/\Kt nO w w':=by
 have hmf:=jM;go_enter_defers func110,ntmps110;go_wp2_with fail;refine(BU b p _).mono ?_;rintro e w2 ⟨rfl,hw⟩;have hE:Err nO w w2:=by rw[hw];exact Err.mk' nO w
 have bQ:=hE.c;have hef:=hE.f;have HE2:=aA hE;have hcp:=GD w2 0 0 none va vc rfl;clear hE hw;go_wp2
 refine leaves_cons (f:=161) (args:=#[.pointer (some ⟨w.heap.size,0,none⟩)]) (by simp) (by simp[go_sem]) ?_;refine(BS ⟨w.heap.size,0,none⟩ 0 _ ?_ ?_).mono ?_
 ·simp[go_sem,bQ]
 ·simp[go_sem,hef]
 rintro e u' w'' ⟨rfl,rfl,rfl⟩;refine⟨.int .i64 0,?_,rfl,HE2.out.done2 _ _⟩;simp[results,results110,go_sem,bQ]
theorem Blk.new(w:World)(m:Nat):Blk (w.alloc (.cells (bcells (told m fun _=>0)) 5)) w.heap.size m fun _=>0:=⟨fun _ _=>Nat.zero_lt_succ 255,nH _ _⟩
theorem Blk.lay{w h m g}(H:Blk w h m g)(gg:Nat->Nat)(h256:∀ i,i<m->gg i<256):
  Blk (w.setRow h ((bcells (told m g)).toList.take 0 ++ byteVs m gg ++ (bcells (told m g)).toList.drop (0 + (byteVs m gg).length)).toArray) h m gg:=by
 refine⟨h256,?_⟩;rw[setRow_heap w h _ _ _ _ H.2,xW (told m g) 0 m gg (byteVs m gg) rfl];have:Go.Proofs.YtbgbfpklgfpepaaGreatDoor.M.lay (told m g) 0 m gg=told m gg:=by
  simp[Go.Proofs.YtbgbfpklgfpepaaGreatDoor.M.lay,told]
 rw[this]
theorem Read_in(b g bS R lim n f)(p k:Nat)(w:World)(h:SpA w b (some g) bS R lim n f)(hk0 : 0<k)(hin:In bS n p k):
  Calls prog 96 #[.pointer (some ⟨b,0,none⟩),.int .u64 p,.int .u64 k] w fun e w'=>e=.returned (.tuple #[.slice (some ⟨w.heap.size+1,0,none⟩) k k,.int .i64 0])/\Blk w' (w.heap.size+1) k (fun i=>f (p-bS+i))/\Kt nO w w':=by
 have hmf:=jM;obtain⟨o,ho⟩:=xe (p-bS);have hol:o+k<=n:=by obtain⟨h1,h2⟩:=hin;omega
 have hn:=h.nle;have lr:=h.cfg.lr;have hkm:k<=4194304:=by omega
 rw[<-ho];have HO:=aA ho;have HH:=aA h;have HI:=aA hin;clear h ho hin hn lr;go_enter_defers func96,ntmps96;go_wp2_with fail;refine(kR b g bS R lim n f p k _ (HH.out.keep (Err.mk' nO w).k) hk0 HI.out).mono ?_;rintro e w2 ⟨⟨c,rfl⟩,m,hw⟩;have hE:Err nO w w2:=by rw[hw];exact(Err.mk' nO w).drewN m
 rw[<-HO.out];have hsz:=hE.sz;have hmk:=JI k (by omega) w2;have hB:=Blk.new w2 k;have hk3:=(Kt.refl nO w2).alloc (.cells (bcells (told k fun _=>0)) 5);obtain⟨w3,hw3⟩:=xe (w2.alloc (.cells (bcells (told k fun _=>0)) 5));rw[<-hw3] at hmk hB hk3;rw[hsz] at hmk hB;have hS:=HH.out.keep ((hE.k.trans (U:=nO) hk3 (fun _ _ x=>x) (fun _ _ x=>x)));have hcp:=xE w3 (w.heap.size+1) 0 k k ⟨g,o,none⟩ c _ (fun i=>f (o+i)) hB.2 (by rw[yD,told_len];omega) (fun j hj=>by rw[Addr.add_lit];exact hS.cg _ (by omega));have hB4:=hB.lay (fun i=>f (o+i)) (fun i hi=>hS.f256 _ (by omega));have hk4:=(Kt.refl (fun x=>x=w.heap.size + 1) w3).setRow (fun _=>rfl) ((bcells (told k fun _=>0)).toList.take 0 ++ byteVs k (fun i=>f (o + i)) ++ (bcells (told k fun _=>0)).toList.drop (0 + (byteVs k fun i=>f (o + i)).length)).toArray;obtain⟨w4,hw4⟩:=xe (w3.setRow (w.heap.size + 1) ((bcells (told k fun _=>0)).toList.take 0 ++ byteVs k (fun i=>f (o + i)) ++ (bcells (told k fun _=>0)).toList.drop (0 + (byteVs k fun i=>f (o + i)).length)).toArray);rw[<-hw4] at hcp hB4 hk4;have hE3:w3.heap[w.heap.size]?=some (.cells #[.int .i64 0] 24 (0,0)):=(hk3.block _ (by omega) (fun x=>x)).trans hE.he;have hE4:w4.heap[w.heap.size]?=some (.cells #[.int .i64 0] 24 (0,0)):=(hk4.block _ (Array.getElem?_eq_some_iff.1 hE3).1 (by omega)).trans hE3;have bQ:w4.cell? ⟨w.heap.size,0,none⟩=some (.int .i64 0):=by simp[World.cell?,hE4]
 have hef:w4.frozen? ⟨w.heap.size,0,none⟩=false:=by simp[World.frozen?,hE4]
 have HK:=aA ((hE.k.trans (U:=nO) hk3 (fun _ _ x=>x) (fun _ _ x=>x)).trans (U:=nO) hk4 (fun _ _ x=>x) (fun x hx e=>by omega));have HB:=aA hB4;clear hE hS hw3 hw4 hw hB hk3 hk4 hE3 hE4 hB4 hsz;go_wp2
 refine leaves_cons (f:=147) (args:=#[.pointer (some ⟨w.heap.size,0,none⟩)]) (by simp) (by simp[go_sem]) ?_;refine(zR ⟨w.heap.size,0,none⟩ 0 _ ?_ ?_).mono ?_
 ·simp[go_sem,bQ]
 ·simp[go_sem,hef]
 rintro e u' w'' ⟨rfl,rfl,rfl⟩;refine⟨.tuple #[.slice (some ⟨w.heap.size+1,0,none⟩) k k,.int .i64 0],?_,rfl,?_,?_⟩
 ·simp[results,results96,go_sem,bQ]
 ·exact HB.out.kept (((Kt.refl (fun x=>x=w.heap.size) w4).setCell (fun _=>rfl) _).setCell (fun _=>rfl) _) (by omega)
 ·exact(HK.out.setCell (fun h=>absurd h (Nat.lt_irrefl _)) _).setCell (fun h=>absurd h (Nat.lt_irrefl _)) _
theorem Read_zero(b:Nat)(p:Int)(w:World):
  Calls prog 96 #[.pointer (some ⟨b,0,none⟩),.int .u64 p,.int .u64 0] w fun e w'=>e=.returned (.tuple #[.slice (some ⟨w.heap.size+1,0,none⟩) 0 0,.int .i64 0])/\Kt nO w w'/\w.heap.size+1<w'.heap.size:=by
 have hmf:=jM;go_enter_defers func96,ntmps96;go_wp2_with fail;refine(BU b p _).mono ?_;rintro e w2 ⟨rfl,hw⟩;have hE:Err nO w w2:=by rw[hw];exact Err.mk' nO w
 have hsz:=hE.sz;have hmk:(Instr.makeSlice 61 (.int .i64 0) (.int .i64 0)).run prog w2=.ok (.slice (some ⟨w2.heap.size,0,none⟩) 0 0) (w2.alloc (.cells (bcells (told 0 fun _=>0)) 5)):=JI 0 (by omega) w2;have hk3:=(Kt.refl nO w2).alloc (.cells (bcells (told 0 fun _=>0)) 5);have hs3:(w2.alloc (.cells (bcells (told 0 fun _=>0)) 5)).heap.size=w.heap.size+2:=by simp;omega
 obtain⟨w4,hw4⟩:=xe (w2.alloc (.cells (bcells (told 0 fun _=>0)) 5));rw[<-hw4] at hmk hk3 hs3;rw[hsz] at hmk;have hcp:=GD w4 0 0 (some ⟨w.heap.size+1,0,none⟩) none 0 rfl;have hE4:w4.heap[w.heap.size]?=some (.cells #[.int .i64 0] 24 (0,0)):=(hk3.block _ (by omega) (fun x=>x)).trans hE.he;have bQ:w4.cell? ⟨w.heap.size,0,none⟩=some (.int .i64 0):=by simp[World.cell?,hE4]
 have hef:w4.frozen? ⟨w.heap.size,0,none⟩=false:=by simp[World.frozen?,hE4]
 have HK:=aA (hE.k.trans (U:=nO) hk3 (fun _ _ x=>x) (fun _ _ x=>x));have HZ:=aA hs3;clear hE hw4 hw hk3 hE4 hsz hs3;go_wp2
 refine leaves_cons (f:=147) (args:=#[.pointer (some ⟨w.heap.size,0,none⟩)]) (by simp) (by simp[go_sem]) ?_;refine(zR ⟨w.heap.size,0,none⟩ 0 _ ?_ ?_).mono ?_
 ·simp[go_sem,bQ]
 ·simp[go_sem,hef]
 rintro e u' w'' ⟨rfl,rfl,rfl⟩;refine⟨.tuple #[.slice (some ⟨w.heap.size+1,0,none⟩) 0 0,.int .i64 0],?_,rfl,?_,?_⟩
 ·simp[results,results96,go_sem,bQ]
 ·exact(HK.out.setCell (fun h=>absurd h (Nat.lt_irrefl _)) _).setCell (fun h=>absurd h (Nat.lt_irrefl _)) _
 ·simp
  have:=HZ.out;omega
theorem zf7(w:World)(g n cap R:Nat)(cur:Array Value)(hg:w.heap[g]?=some (.cells cur 5 (0,0)))(hcur:cur.size=cap)(hR0 : 0<R)(hR:R<=1048576)(hfit:n+R<=cap)(ty:TypeId):
  (Builtin.append_ #[61,27] ty #[.slice (some ⟨g,0,none⟩) n cap,.int .u64 R]).run prog w=.ok (.slice (some ⟨g,0,none⟩) (n + R) cap) (w.setRow g (cur.toList.take n ++ byteVs R (fun _=>0) ++ cur.toList.drop (n + (byteVs R fun _=>0).length)).toArray):=by
 obtain⟨i,hi,hz0,hz1,hz2⟩:=info_parts info_u8;have hw:IntKind.i64.wrap (R:Int)=R:=by rw[IntKind.wrap_i64];omega
 have hneg:¬((R:Int)<0):=by omega
 have h48i:¬(281474976710656<(R:Int)*(i.bytes:Int)):=by rw[hz2];omega
 have hzc:(Builtin.zeroCells (Value.int .u8 0).cells R).toList=byteVs R fun _=>0:=by
  simp only[Builtin.zeroCells,byteVs];apply List.ext_getElem
  ·simp[Value.cells]
  ·intro j h1 h2;have:j%1=0:=Nat.mod_one j;simp[Value.cells,this]
 have hst:=run_storeCells_at prog g n 5 (byteVs R fun _=>0) 0 cur w hg (by rw[oN];omega) (by
  intro v hv;obtain⟨_,_,rfl⟩:=List.mem_map.1 hv;rfl)
 simp only[Nat.add_zero] at hst;simp[Builtin.append_,run_underlying Tryz.underlying61,run_underlying Tryz.underlying27,sizeOf,typeInfo,zeroValue,hi,hz0,hz1,asInt,asIntOf,hw,hneg,h48i,hfit,Addr.add_lit,hzc,hst];intro h;omega
def more(f:Nat->Nat)(n:Nat):Nat->Nat:=fun i=>if i<n then f i else 0
structure After(w w':World)(b:Nat)(ao:Option Nat)(g' cap' bS R lim n:Nat)(f:Nat->Nat):Prop where
 sp:SpA (w'.setCell ⟨b,3,none⟩ (.slice (some ⟨g',0,none⟩) (n+R) cap')) b (some g') bS R lim (n+R) (more f n)
 k:Kt (own b ao) w w'
 g:ao=some g'\/w.heap.size<=g'
theorem GA{w w':World}{b ao g' cap' bS R lim n f cap}(hc:Cfg bS R lim)(hkn:∃ k,n=k*R/\k+1<=lim)
  (hb:w'.heap[b]?=some (.cells #[.int .u64 bS,.int .u64 R,.int .i64 lim,.slice (adr ao) n cap] 173 (0,0)))
  (hne:g'≠b) (rs:List Nat) (hrl:rs.length=cap') (hg:w'.heap[g']?=some (.cells (bcells rs) 5 (0,0))) (hn:n+R<=cap') (hf:∀ i,i<n+R->rs.getD i 0=more f n i) (h256:∀ i,rs.getD i 0<256)
  (k:Kt (own b ao) w w') (hG:ao=some g'\/w.heap.size<=g'):After w w' b ao g' cap' bS R lim n f:=by
 refine⟨⟨hc,?_,cap',?_,hne,rs,hrl,?_,hn,hf,h256⟩,k,hG⟩
 ·obtain⟨k,rfl,hk⟩:=hkn;exact⟨k+1,by rw[Nat.add_mul,Nat.one_mul],hk⟩
 ·simp only[World.setCell];rw[Array.getElem?_modify,if_pos rfl,hb];simp[adr]
 ·rw[Below.heap_setCell _ _ _ _ hne];exact hg
theorem IB(m:Nat):(Builtin.zeroCells (Value.int .u8 0).cells m)=bcells (List.replicate m 0):=by
 simp only[Builtin.zeroCells,bcells];apply Array.ext
 ·simp[Value.cells]
 ·intro j h1 h2;have:j%1=0:=Nat.mod_one j;simp[Value.cells,this]
theorem QX(m i:Nat):(List.replicate m 0).getD i 0=0:=by
 simp[List.getD,List.getElem?_replicate];split <;> rfl
theorem zfy(w:World)(b ao bS R lim n f cap)(hc:Cfg bS R lim)(hkn:∃ k,n=k*R/\k+1<=lim)
  (hb:w.heap[b]?=some (.cells #[.int .u64 bS,.int .u64 R,.int .i64 lim,.slice (adr ao) n cap] 173 (0,0))) (hr:vM w b ao n cap f):
  ∃ g' cap' w',(∀ ty,(Builtin.append_ #[61,27] ty #[.slice (adr ao) n cap,.int .u64 R]).run prog w=.ok (.slice (some ⟨g',0,none⟩) (n+R) cap') w')/\After w w' b ao g' cap' bS R lim n f/\
   w'.heap[b]?=some (.cells #[.int .u64 bS,.int .u64 R,.int .i64 lim,.slice (adr ao) n cap] 173 (0,0)):=by
 obtain⟨i,hi,hz0,hz1,hz2⟩:=info_parts info_u8;have r1:=hc.r1;have r2:=hc.r2;have hnl:n+R<=4194304:=by
  obtain⟨k,rfl,hk⟩:=hkn;have h1:=hc.lr;have h2:(k+1)*R<=lim*R:=Nat.mul_le_mul_right _ hk;rw[Nat.add_mul,Nat.one_mul] at h2;omega
 have hblt:b<w.heap.size:=(Array.getElem?_eq_some_iff.1 hb).1
 have grow:∀ (olds:List Nat),(Builtin.firstCells i.size n (.slice (adr ao) n cap)).run prog w.drew=.ok (bcells olds) w.drew->olds.length=n->(∀ j,j<n->olds.getD j 0=f j)->(∀ j,olds.getD j 0<256)->cap<n+R->
   ∃ g' cap' w',(∀ ty,(Builtin.append_ #[61,27] ty #[.slice (adr ao) n cap,.int .u64 R]).run prog w=.ok (.slice (some ⟨g',0,none⟩) (n+R) cap') w')/\After w w' b ao g' cap' bS R lim n f/\
   w'.heap[b]?=some (.cells #[.int .u64 bS,.int .u64 R,.int .i64 lim,.slice (adr ao) n cap] 173 (0,0)):=by
  intro olds hold hlen hof ho256 hcap;have hge:=grownCap_ge w (n+R) cap 5;have hrow:(bcells olds) ++ Builtin.zeroCells (Value.int .u8 0).cells R ++ Builtin.zeroCells (Value.int .u8 0).cells (grownCap w (n + R) cap 5-(n + R))=bcells (olds ++ (List.replicate R 0 ++ List.replicate (grownCap w (n + R) cap 5-(n + R)) 0)):=by
   rw[IB,IB];simp[bcells]
  have hget:∀ j,(olds ++ (List.replicate R 0 ++ List.replicate (grownCap w (n + R) cap 5-(n + R)) 0)).getD j 0=if j<n then olds.getD j 0 else 0:=by
   intro j;rw[List.replicate_append_replicate];simp only[List.getD,List.getElem?_append,hlen];split
   ·rfl
   ·exact QX _ _
  refine⟨w.heap.size,grownCap w (n + R) cap 5,w.drew.alloc (.cells (bcells (olds ++ (List.replicate R 0 ++ List.replicate (grownCap w (n + R) cap 5-(n + R)) 0))) 5),fun ty=>?_,?_,?_⟩
  ·have:=Lib.run_append_grow_zeros (P:=prog) w 61 27 ty 5 i (.int .u8 0) .u64 .u64 Tryz.underlying61 Tryz.underlying27 hi hz0 (adr ao) n cap (bcells olds).toList (by rw[hold]) R (by omega) (by omega) hcap (by omega) (by rw[hz2];omega) (growslice_fits hcap (by rw[hz2];omega));rw[this,<-hrow]
  ·refine GA (cap:=cap) hc hkn ?_ (by omega) _ ?_ (nH w.drew _) hge ?_ ?_ (((Kt.refl _ w).drew).alloc _) (Or.inr (Nat.le_refl _))
   ·rw[Below.heap_alloc w.drew _ b hblt];exact hb
   ·simp[hlen];omega
   ·intro j hj;rw[hget j];unfold more;split
    ·rename_i h;exact hof j h
    ·rfl
   ·intro j;rw[hget j];split
    ·exact ho256 j
    ·decide
  ·rw[Below.heap_alloc w.drew _ b hblt];exact hb
 cases ao with
 | none=>
  obtain⟨rfl,rfl⟩:=hr;exact grow [] (by simp[adr,run_firstCells_none,bcells]) rfl (fun j hj=>by omega) (fun j=>by simp) (by omega)
 | some g=>
  obtain⟨hne,rs,hrl,hg,hnc,hf,h256⟩:=hr;by_cases hroom:n+R<=cap
  ·have hap:=zf7 w g n cap R (bcells rs) hg (by rw[yD];exact hrl) (by omega) (by omega) hroom;have hw:(bcells rs).toList.take n ++ byteVs R (fun _=>0) ++ (bcells rs).toList.drop (n + (byteVs R fun _=>0).length)=(bcells (Go.Proofs.YtbgbfpklgfpepaaGreatDoor.M.lay rs n R fun _=>0)).toList:=by
    rw[<-xW rs n R (fun _=>0) (byteVs R fun _=>0) rfl]
   refine⟨g,cap,_,hap,?_,?_⟩
   ·refine GA (cap:=cap) hc hkn ?_ hne (Go.Proofs.YtbgbfpklgfpepaaGreatDoor.M.lay rs n R fun _=>0) ?_ ?_ hroom ?_ ?_ ((Kt.refl _ w).setRow (fun _=>Or.inr rfl) _) (Or.inl rfl)
    ·rw[setRow_other _ _ _ _ (fun e=>hne e.symm)];exact hb
    ·rw[CW _ _ _ _ (by omega)];exact hrl
    ·rw[setRow_heap w g _ _ _ _ hg,hw]
    ·intro j hj;rw[tY _ _ _ _ (by omega)];unfold more;by_cases h1:j<n
     ·rw[if_neg (by omega),if_pos h1];exact hf j h1
     ·rw[if_pos (by omega),if_neg h1]
    ·intro j;rw[tY _ _ _ _ (by omega)];split
     ·decide
     ·exact h256 j
   ·rw[setRow_other _ _ _ _ (fun e=>hne e.symm)];exact hb
  ·have hlt:(rs.take n).length=n:=(by simp;omega);have hgt:∀ j,(rs.take n).getD j 0=if j<n then rs.getD j 0 else 0:=by
    intro j;simp only[List.getD,List.getElem?_take];split <;> rfl
   refine grow (rs.take n) ?_ hlt ?_ ?_ (by omega)
   ·have:=run_firstCells_some (P:=prog) w.drew i.size n ⟨g,0,none⟩ n cap (bcells (rs.take n)).toList (by rw[hz1];simp[bcells];omega) ?_
    ·simpa [adr] using this
    ·intro j v hj;rw[Addr.add_lit];simp[bcells,List.getElem?_take] at hj;obtain⟨hjn,x,hx,rfl⟩:=hj;have:w.cell? ⟨g,0+j,none⟩=some (.int .u8 x):=by simp[World.cell?,hg,bcells,hx]
     exact this
   ·intro j hj;rw[hgt j,if_pos hj];exact hf j hj
   ·intro j;rw[hgt j];split
    ·exact h256 j
    ·decide
theorem zcJ{ops:Array Oper}{o:Oper}{a:Act}{w:World}{K:Act->World->Prop}{Q:Exit->Act->World->Prop}{E:Prop}(hgd:o.guard=none)(s x:Operand)
  (hop:o.op=Op.call { callee:=Callee.builtin Builtin.append,args:=#[s,x],argTypes:=#[61,27] }) (b ao bS R lim n f cap) (hc:Cfg bS R lim) (hkn:∃ k,n=k*R/\k+1<=lim)
  (hb:w.heap[b]?=some (.cells #[.int .u64 bS,.int .u64 R,.int .i64 lim,.slice (adr ao) n cap] 173 (0,0))) (hr:vM w b ao n cap f)
  (hs:a.eval s=.slice (adr ao) n cap) (hx:a.eval x=.int .u64 R)
  (hK:∀ g' cap' w',Hid (After w w' b ao g' cap' bS R lim n f)->w'.cell? ⟨b,3,none⟩=some (.slice (adr ao) n cap)->w'.frozen? ⟨b,3,none⟩=false->K (a.put o.dst (.slice (some ⟨g',0,none⟩) (n+R) cap')) w'):
  if Region.wanted o (yielded ops a.tmps)=true then Oper.wp prog o a w K Q else E:=by
 have hw:Region.wanted o (yielded ops a.tmps)=true:=by simp[Region.wanted,hgd]
 rw[if_pos hw];obtain⟨g',cap',w',hrun,hA,hb'⟩:=zfy w b ao bS R lim n f cap hc hkn hb hr;have hrun:=hrun o.type;unfold Oper.wp;simp[execOp,hop,resolve,invoke,builtin,hs,hx,hrun,Result.andThen];exact hK g' cap' w' hA (by simp[World.cell?,hb']) (by simp[World.frozen?,hb'])
theorem vL(k R:Nat)(hR : 4096<=R):k*R/R=k:=Nat.mul_div_cancel _ (by omega)
theorem zhT{a b:Int}{c d:Int}(h:a=b)(h2:c=d):Ending.returned (.tuple #[.int .u64 a,.int .i64 c])=.returned (.tuple #[.int .u64 b,.int .i64 d]):=by rw[h,h2]
theorem Commit_deny(b ao bS R lim n f)(w:World)(h:SpA w b ao bS R lim n f):
  Calls prog 198 #[.pointer (some ⟨b,0,none⟩),.bool true] w fun e w'=>e=.returned (.tuple #[.int .u64 0,.int .i64 2])/\Kt nO w w':=by
 have h2:=h.c2;clear h;go_enter func198,ntmps198;go_wp2
 go_quiet (fail)
 go_wp2
 go_ret2;exact⟨rfl,(Kt.refl _ w).drewN _⟩
theorem Commit_full(b ao bS R lim n f)(w:World)(h:SpA w b ao bS R lim n f)(hn:n=lim*R):
  Calls prog 198 #[.pointer (some ⟨b,0,none⟩),.bool false] w fun e w'=>e=.returned (.tuple #[.int .u64 0,.int .i64 2])/\Kt nO w w':=by
 have h2:=h.c2;have hreg:=fun m=>regions_any b ao bS R lim n f (w.drewN m) ⟨h.cfg,h.kn,h.ex⟩
 have e1:n/R=lim:=by rw[hn];exact vL lim R h.cfg.r1
 rw[e1] at hreg;have HR:=aA hreg;clear h hreg e1 hn;go_enter func198,ntmps198;go_wp2
 go_quiet ((go_at_call 190;exact Calls.quiet_of (HR.out _)))
 go_wp2
 go_ret2;exact⟨rfl,(Kt.refl _ w).drewN _⟩
theorem Commit_ok(b ao bS R lim n f)(w:World)(h:SpA w b ao bS R lim n f)(hkn:∃ k,n=k*R/\k+1<=lim):
  Calls prog 198 #[.pointer (some ⟨b,0,none⟩),.bool false] w fun e w'=>e=.returned (.tuple #[.int .u64 ((bS+n:Nat):Int),.int .i64 0])/\∃ g',SpA w' b (some g') bS R lim (n+R) (more f n)/\Kt (own b ao) w w'/\(ao=some g'\/w.heap.size<=g'):=by
 have h2:=h.c2;have hreg:=fun m=>regions_any b ao bS R lim n f (w.drewN m) ⟨h.cfg,h.kn,h.ex⟩
 have hend:=fun m=>end_any b ao bS R lim n f (w.drewN m) ⟨h.cfg,h.kn,h.ex⟩
 obtain⟨q,hq⟩:=xe (n/R);have hql:q<lim/\q<=64:=by
  obtain⟨k,rfl,hk⟩:=hkn;rw[hq,vL k R h.cfg.r1];have:=h.cfg.l2;omega
 have hqne:((q:Int) == (lim:Int))=false:=by rw[beq_eq_false_iff_ne];omega
 rw[<-hq] at hreg;have HR:=aA hreg;have HE:=aA hend;have hc:=h.cfg;obtain⟨cap,hb,hr⟩:=h.ex;have h3:w.cell? ⟨b,3,none⟩=some (.slice (adr ao) n cap):=by simp[World.cell?,hb]
 have h1:=h.c1;have HC:=aA hc;have HN:=aA hkn;have HB:=aA hb;have HRW:=aA hr;clear h hreg hend hq hql hc hb hr hkn;go_enter func198,ntmps198;go_wp2
 go_quiet ((go_at_call 190;exact Calls.quiet_of (HR.out _)))
 go_wp2_with fail;refine(HE.out _).mono ?_;rintro e w' ⟨rfl,m,rfl⟩;go_wp2
 go_region_law ((refine zcJ rfl (.tmp 23) (.tmp 27) rfl b ao bS R lim n f cap HC.out HN.out HB.out HRW.out rfl rfl ?_;intro g' cap' w' hA hc3 hf3))
 all_goals (go_wp2;go_ret2)
 all_goals exact⟨zhT (by simp) rfl,g',hA.out.sp,(show Kt (own b ao) w w' from⟨hA.out.k.os,hA.out.k.tape,hA.out.k.output,hA.out.k.size,hA.out.k.block⟩).setCell (fun _=>Or.inl rfl) _,hA.out.g⟩
theorem SpA.less{w b ao bS R lim n f}(h:SpA w b ao bS R lim n f)(n' cap:Nat)(h3:w.cell? ⟨b,3,none⟩=some (.slice (adr ao) n cap))(hn:∃ k,n'=k*R/\k<=lim)(hle:n'<=n):
  SpA (w.setCell ⟨b,3,none⟩ (.slice (adr ao) n' cap)) b ao bS R lim n' f:=by
 obtain⟨cap',hb,hr⟩:=h.ex;have e:cap'=cap:=by
  have:w.cell? ⟨b,3,none⟩=some (.slice (adr ao) n cap'):=by simp[World.cell?,hb]
  rw[this] at h3;injection h3 with h3
  injection h3
 subst e;refine⟨h.cfg,hn,cap',?_,?_⟩
 ·simp only[World.setCell];rw[Array.getElem?_modify,if_pos rfl,hb];simp
 ·cases ao with
  | none=>exact⟨by have:=hr.1;omega,hr.2⟩
  | some g=>
   obtain⟨h1,rs,h2,h3,h4,h5,h6⟩:=hr;exact⟨h1,rs,h2,by rw[Below.heap_setCell _ _ _ _ h1];exact h3,by omega,fun i hi=>h5 i (by omega),h6⟩
theorem Decommit_ok(b ao bS R lim n f)(c:Nat)(w:World)(h:SpA w b ao bS R lim n f)(hc:c<=n/R):
  Calls prog 142 #[.pointer (some ⟨b,0,none⟩),.int .i64 c] w fun e w'=>e=.returned (.int .i64 0)/\SpA w' b ao bS R lim (n-c*R) f/\Kt (own b ao) w w':=by
 have HH:=aA h;obtain⟨k,hn,hk⟩:=h.kn;have hcfg:=h.cfg;have r1:=hcfg.r1;have r2:=hcfg.r2;have lr:=hcfg.lr;have l2:=hcfg.l2;have hq:n/R=k:=by rw[hn];exact vL k R r1
 rw[hq] at hc;obtain⟨cap,h3⟩:=h.c3;have hfz:=h.fb 3;have h1:=h.c1;obtain⟨d,hd⟩:=xe (c*R);have hdn:d<=n:=by rw[hd,hn];exact Nat.mul_le_mul_right _ hc
 have hnk:n<=lim*R:=h.nle;obtain⟨n',hn'⟩:=xe (n-d);rw[<-hd,<-hn'];have hn2:n<=4194304:=by omega
 have hmul:(c:Int)*(R:Int)=d:=by rw[hd];simp
 have hsub:(n:Int)-(d:Int)=n':=by omega
 have hncap:n<=cap:=by
  obtain⟨cap',hb,hr⟩:=h.ex;have:w.cell? ⟨b,3,none⟩=some (.slice (adr ao) n cap'):=by simp[World.cell?,hb]
  rw[this] at h3;injection h3 with h3
  injection h3 with _ _ e
  subst e
  cases ao with
  | none=>exact Nat.le_of_eq (hr.1.trans hr.2.symm)
  | some g=>
   obtain⟨_,rs,_,_,h4,_⟩:=hr;exact h4
 have hk2:n'=(k-c)*R:=by rw[hn',hd,hn,Nat.sub_mul]
 have FIN:=aA (show ∀ m,SpA ((w.setCell ⟨b,3,none⟩ (.slice (adr ao) n' cap)).drewN m) b ao bS R lim n' f/\Kt (own b ao) w ((w.setCell ⟨b,3,none⟩ (.slice (adr ao) n' cap)).drewN m)from fun m=>
  ⟨(h.less n' cap h3 ⟨k-c,hk2,by omega⟩ (by omega)).keep ((Kt.refl _ _).drewN m),((Kt.refl (own b ao) w).setCell (fun _=>Or.inl rfl) _).drewN m⟩)
 have hreg:=aA (show ∀ m,Calls prog 190 #[.pointer (some ⟨b,0,none⟩)] (w.drewN m) fun e w'=>e=.returned (.int .i64 k)/\∃ m',w'=(w.drewN m).drewN m' from fun m=>by
  have:=regions_any b ao bS R lim n f (w.drewN m) ⟨h.cfg,h.kn,h.ex⟩;rw[hq] at this;exact this)
 have hnn:n'<=cap:=by omega
 have hck:(c:Int)<=k:=by omega
 have hk64:k<=64:=by omega
 have hcapd:∀ g,ao=some g->∀ o,(adr ao)=some o->o=⟨g,0,none⟩:=by rintro g rfl o e;simp[adr] at e;exact e.symm
 have hnone:ao=none->n'=0/\cap=0:=by
  rintro rfl;obtain⟨cap',hb,hr⟩:=h.ex;have:w.cell? ⟨b,3,none⟩=some (.slice (adr none) n cap'):=by simp[World.cell?,hb]
  rw[this] at h3;injection h3 with h3
  injection h3 with _ _ e
  subst e;exact⟨by have:=hr.1;omega,hr.2⟩
 clear h hcfg hq hn hk hd hdn hnk hn' hk2 lr l2 hncap HH hcapd
 cases ao with
 | none=>
  obtain⟨rfl,rfl⟩:=hnone rfl;have hadr:adr none=none:=rfl;rw[hadr] at h3 FIN;clear hnone hadr;go_enter func142,ntmps142;go_wp2_with fail;refine(hreg.out 0).mono ?_;rintro e w' ⟨rfl,m,rfl⟩;go_wp2
  go_region
  all_goals (go_wp2;go_ret;exact⟨rfl,FIN.out _⟩)
 | some g=>
  have hadr:adr (some g)=some ⟨g,0,none⟩:=rfl;rw[hadr] at h3 FIN;clear hnone hadr;go_enter func142,ntmps142;go_wp2_with fail;refine(hreg.out 0).mono ?_;rintro e w' ⟨rfl,m,rfl⟩;go_wp2
  go_region
  all_goals (go_wp2;go_ret;exact⟨rfl,FIN.out _⟩)
def RS(k:Nat):Nat:=4096*2 ^ k
theorem bE(k:Nat)(hk:k<=8) : 1<=2 ^ k/\2 ^ k<=256:=⟨Nat.two_pow_pos k,Nat.pow_le_pow_right (n:=2) (by decide) hk⟩
theorem KJ(bS lim:Int)(k:Nat)(hk:k<=8)(w:World):
  Calls prog 113 #[.agg #[.int .u64 bS,.int .i64 lim,.int .i64 k]] w fun e w'=>e=.returned (.int .u64 ((RS k:Nat):Int))/\Kt nO w w':=by
 have E:=aA (show IntKind.u64.wrap (4096*2 ^ k)=((RS k:Nat):Int)by
  have:=bE k hk;have e:((2:Int) ^ k)=((2 ^ k:Nat):Int):=by simp
  rw[wrap_u64,e];unfold RS;generalize 2 ^ k=p at this;omega)
 go_enter func113,ntmps113;go_wp2
 go_ret;exact⟨eJ E.out,(Kt.refl _ w).alloc _⟩
def gJ(lim ord:Int):Prop:=0<=ord/\ord<=8/\1<=lim/\lim<=64
instance (lim ord:Int):Decidable (gJ lim ord):=by unfold gJ;infer_instance
def mayB(bS:Nat)(lim ord:Int):Bool:=
 decide (gJ lim ord) && decide (lim.toNat*2 ^ ord.toNat<=1024) && (decide (bS≠0) && decide (bS%RS ord.toNat=0) && decide (bS+lim.toNat*RS ord.toNat<=9223372036854775808))
theorem zj2(bS:Nat)(lim ord:Int)(hl1 : -9223372036854775808<=lim)(hl2:lim<=9223372036854775807)(ho1 : -9223372036854775808<=ord)(ho2:ord<=9223372036854775807)(h:¬gJ lim ord)(w:World):
  Calls prog 112 #[.agg #[.int .u64 bS,.int .i64 lim,.int .i64 ord]] w fun e w'=>e=.returned (.bool false)/\Kt nO w w':=by
 by_cases h1:ord<0
 ·clear h;go_enter func112,ntmps112;go_wp2_with fail;go_ret;exact⟨rfl,(Kt.refl _ w).alloc _⟩
 ·by_cases h2 : 8<ord
  ·clear h;go_enter func112,ntmps112;go_wp2_with fail;go_ret;exact⟨rfl,(Kt.refl _ w).alloc _⟩
  ·by_cases h3:lim<1
   ·clear h;go_enter func112,ntmps112;go_wp2_with fail;go_ret;exact⟨rfl,(Kt.refl _ w).alloc _⟩
   ·have h4 : 64<lim:=(by unfold gJ at h;omega);clear h;go_enter func112,ntmps112;go_wp2_with fail;go_ret;exact⟨rfl,(Kt.refl _ w).alloc _⟩
theorem rS(w w1:World)(bS lim ord:Int)(hK:Kt nO (w.alloc (.cells #[.int .u64 bS,.int .i64 lim,.int .i64 ord] 29)) w1):
  w1.cell? ⟨w.heap.size,0,none⟩=some (.int .u64 bS)/\w1.cell? ⟨w.heap.size,1,none⟩=some (.int .i64 lim)/\Kt nO w w1:=by
 have:=(hK.block w.heap.size (by simp) (fun x=>x)).trans (nH w _);exact⟨by simp[World.cell?,this],by simp[World.cell?,this],((Kt.refl nO w).alloc _).trans hK (fun _ _ x=>x) (fun _ _ x=>x)⟩
theorem WL(bS:Nat)(hb64:bS<18446744073709551616)(lim k:Nat)(hk:k<=8)(hl1 : 1<=lim)(hl2:lim<=64)(w:World):
  Calls prog 112 #[.agg #[.int .u64 bS,.int .i64 lim,.int .i64 k]] w fun e w'=>e=.returned (.bool (mayB bS lim k))/\Kt nO w w':=by
 obtain⟨P,hP⟩:=xe (2 ^ k);have hP8:=bE k hk;rw[<-hP] at hP8;obtain⟨lp,hlp⟩:=xe (lim*P);have hlp2:lp<=16384:=by
  rw[hlp];exact Nat.le_trans (Nat.mul_le_mul hl2 hP8.2) (by decide)
 have hw1:wrap64 ((lim:Int)*2 ^ k)=(lp:Int):=by
  have e:((2:Int) ^ k)=((2 ^ k:Nat):Int):=by simp
  have e2:(lim:Int)*((P:Nat):Int)=(lp:Int):=by rw[hlp];simp
  rw[e,<-hP,e2];unfold wrap64;omega
 have hB:gJ (lim:Int) (k:Int):=by unfold gJ;omega
 have hmay:mayB bS lim k=(decide (lp<=1024) && (decide (bS≠0) && decide (bS%RS k=0) && decide (bS+lim*RS k<=9223372036854775808))):=by
  unfold mayB;rw[decide_eq_true hB,Int.toNat_natCast,Int.toNat_natCast,<-hP,<-hlp,Bool.true_and]
 rw[hmay];clear hmay hB;obtain⟨R,hR⟩:=xe (RS k);have hR2:R=4096*P:=by rw[hR,RS,hP]
 obtain⟨lr,hlr⟩:=xe (lim*R);have hlr2:lr=4096*lp:=by rw[hlr,hR2,hlp,Nat.mul_left_comm]
 have hmul:(lim:Int)*(R:Int)=lr:=by rw[hlr];simp
 rw[<-hR,<-hlr];have HRS:=aA (show ∀ w,Calls prog 113 #[.agg #[.int .u64 bS,.int .i64 lim,.int .i64 k]] w fun e w'=>e=.returned (.int .u64 R)/\Kt nO w w' from fun w=>by
  rw[hR];exact KJ bS lim k hk w)
 have hR0:¬(R:Int)=0:=by omega
 have hRl:R<=1048576:=by omega
 by_cases h1:lp<=1024
 ·have h1':¬(1024:Int)<lp:=by omega
  have hd:decide (lp<=1024)=true:=decide_eq_true h1;rw[hd,Bool.true_and];clear hP hlp hR hd;by_cases h0:bS=0
  ·have hb0:((bS:Int) != 0)=false:=(by rw[h0];rfl);have H0:=aA h0;clear hR2 hlr hlr2 h0;go_enter func112,ntmps112;go_wp2_with fail;refine(HRS.out _).mono ?_;rintro e w1 ⟨rfl,hK⟩;obtain⟨hc0,hc1,hKK⟩:=rS w w1 bS lim k hK;have HK:=aA hKK;clear hK hKK;go_wp2
   go_ret;exact⟨cE (by rw[H0.out];simp),HK.out⟩
  ·have hb0:((bS:Int) != 0)=true:=(by rw[bne_iff_ne];omega);have hd0:decide (bS≠0)=true:=decide_eq_true h0;rw[hd0,Bool.true_and];by_cases h2:bS%R=0
   ·have hm:((bS:Int)%(R:Int) == 0)=true:=(by rw[beq_iff_eq];omega);have hd2:decide (bS%R=0)=true:=decide_eq_true h2;rw[hd2,Bool.true_and];clear hR2 hlr h2 hd2 hd0;go_enter func112,ntmps112;go_wp2_with fail;refine(HRS.out _).mono ?_;rintro e w1 ⟨rfl,hK⟩;obtain⟨hc0,hc1,hKK⟩:=rS w w1 bS lim k hK;have HK:=aA hKK;clear hK hKK;go_wp2
    go_ret;exact⟨cE (by rw[decide_eq_decide];omega),HK.out⟩
   ·have hm:((bS:Int)%(R:Int) == 0)=false:=(by rw[beq_eq_false_iff_ne];omega);have hd2:decide (bS%R=0)=false:=decide_eq_false h2;rw[hd2,Bool.false_and];clear hR2 hlr hlr2 h2 hd2 hd0;go_enter func112,ntmps112;go_wp2_with fail;refine(HRS.out _).mono ?_;rintro e w1 ⟨rfl,hK⟩;obtain⟨hc0,hc1,hKK⟩:=rS w w1 bS lim k hK;have HK:=aA hKK;clear hK hKK;go_wp2
    go_ret;exact⟨rfl,HK.out⟩
 ·have hd:decide (lp<=1024)=false:=decide_eq_false h1;rw[hd,Bool.false_and];have h1':(1024:Int)<lp:=by omega
  clear hP hlp hR hR2 hlr hlr2 h1 hd;go_enter func112,ntmps112;go_wp2_with fail;go_ret;exact⟨rfl,(Kt.refl _ w).alloc _⟩
theorem GH(bS:Nat)(hb64:bS<18446744073709551616)(lim ord:Int)(hl1 : -9223372036854775808<=lim)(hl2:lim<=9223372036854775807)(ho1 : -9223372036854775808<=ord)(ho2:ord<=9223372036854775807)(w:World):
  Calls prog 112 #[.agg #[.int .u64 bS,.int .i64 lim,.int .i64 ord]] w fun e w'=>e=.returned (.bool (mayB bS lim ord))/\Kt nO w w':=by
 by_cases h:gJ lim ord
 ·have h':=h;unfold gJ at h';obtain⟨l,rfl⟩:=Int.eq_ofNat_of_zero_le (by omega : 0<=lim);obtain⟨k,rfl⟩:=Int.eq_ofNat_of_zero_le h'.1;exact WL bS hb64 l k (by omega) (by omega) (by omega) w
 ·have e:mayB bS lim ord=false:=by unfold mayB;rw[decide_eq_false h,Bool.false_and,Bool.false_and]
  rw[e];exact zj2 bS lim ord hl1 hl2 ho1 ho2 h w
theorem WJ{bS:Nat}{lim ord:Int}(h:mayB bS lim ord=true):gJ lim ord/\Cfg bS (RS ord.toNat) lim.toNat:=by
 simp only[mayB,Bool.and_eq_true,decide_eq_true_eq] at h;obtain⟨⟨hB,h1⟩,⟨h2,h3⟩,h4⟩:=h;refine⟨hB,?_⟩;unfold gJ at hB;have hp:=bE ord.toNat (by omega);have hlr:lim.toNat*RS ord.toNat=4096*(lim.toNat*2 ^ ord.toNat):=by rw[RS,Nat.mul_left_comm]
 have hR:RS ord.toNat=4096*2 ^ ord.toNat:=rfl;exact⟨by omega,by omega,by omega,by omega,by omega,by omega,h4⟩
theorem New_bad(bS:Nat)(hb64:bS<18446744073709551616)(lim ord:Int)(hl1 : -9223372036854775808<=lim)(hl2:lim<=9223372036854775807)(ho1 : -9223372036854775808<=ord)(ho2:ord<=9223372036854775807)(h:mayB bS lim ord=false)(w:World):
  Calls prog 70 #[.agg #[.int .u64 bS,.int .i64 lim,.int .i64 ord]] w fun e w'=>e=.returned (.tuple #[.pointer none,.int .i64 1])/\Kt nO w w':=by
 have HM:=aA (GH bS hb64 lim ord hl1 hl2 ho1 ho2);rw[h] at HM;clear h;go_enter func70,ntmps70;go_wp2_with fail;refine(HM.out _).mono ?_;rintro e w1 ⟨rfl,hK⟩;obtain⟨hc0,hc1,hKK⟩:=rS w w1 bS lim ord hK;have HK:=aA hKK;clear hK hKK hc0 hc1;go_wp2
 go_ret2;exact⟨rfl,HK.out⟩
theorem New_ok(bS:Nat)(hb64:bS<18446744073709551616)(lim ord:Int)(hl1 : -9223372036854775808<=lim)(hl2:lim<=9223372036854775807)(ho1 : -9223372036854775808<=ord)(ho2:ord<=9223372036854775807)(h:mayB bS lim ord=true)(f:Nat->Nat)(w:World):
  Calls prog 70 #[.agg #[.int .u64 bS,.int .i64 lim,.int .i64 ord]] w fun e w'=>∃ b,e=.returned (.tuple #[.pointer (some ⟨b,0,none⟩),.int .i64 0])/\SpA w' b none bS (RS ord.toNat) lim.toNat 0 f/\Kt nO w w'/\w.heap.size<=b:=by
 have HM:=aA (GH bS hb64 lim ord hl1 hl2 ho1 ho2);rw[h] at HM;obtain⟨hB,hC⟩:=WJ h;have hB':=hB;unfold gJ at hB';obtain⟨l,rfl⟩:=Int.eq_ofNat_of_zero_le (by omega : 0<=lim);obtain⟨k,rfl⟩:=Int.eq_ofNat_of_zero_le hB'.1;simp only[Int.toNat_natCast] at hC ⊢;obtain⟨R,hR⟩:=xe (RS k);rw[<-hR] at hC ⊢;have HRS:=aA (show ∀ w,Calls prog 113 #[.agg #[.int .u64 bS,.int .i64 l,.int .i64 k]] w fun e w'=>e=.returned (.int .u64 R)/\Kt nO w w' from fun w=>by
  rw[hR];exact KJ bS l k (by omega) w)
 have HC:=aA hC;clear h hB hB' hC hR;go_enter func70,ntmps70;go_wp2_with fail;refine(HM.out _).mono ?_;rintro e w1 ⟨rfl,hK⟩;obtain⟨hc0,hc1,hKK⟩:=rS w w1 bS l k hK;have hc2:w1.cell? ⟨w.heap.size,2,none⟩=some (.int .i64 k):=by
  have:=(hK.block w.heap.size (by simp) (fun x=>x)).trans (nH w _);simp[World.cell?,this]
 have hlt:w.heap.size<w1.heap.size:=by have:=hK.size;simp at this;omega
 have HK:=aA hKK;have HL:=aA hlt;clear hK hKK hlt;go_wp2
 go_region_with ((go_at_call 113;refine(HRS.out _).mono ?_;rintro e w2 ⟨rfl,hK2⟩;have g0:=hK2.cell (fun x=>x) (show World.cell? _ ⟨w.heap.size,0,none⟩=some (.int .u64 bS)from hc0);have g1:=hK2.cell (fun x=>x) (show World.cell? _ ⟨w.heap.size,1,none⟩=some (.int .i64 l)from hc1);have HK2:=aA (show Kt nO w1 w2 from⟨hK2.os,hK2.tape,hK2.output,hK2.size,hK2.block⟩);clear hK2))
 all_goals (go_wp2;go_ret2)
 all_goals (have k3:=HK.out.trans (U:=nO) HK2.out (fun _ _ x=>x) (fun _ _ x=>x);exact⟨_,rfl,⟨HC.out,⟨0,by simp,Nat.zero_le _⟩,0,nH _ _,rfl,rfl⟩,k3.alloc _,k3.size⟩)
theorem addr_plain{w:World}{a:Addr}{v:Value}(h:w.cell? (a.add 0)=some v):∃ b o,a=⟨b,o,none⟩:=by
 obtain⟨b,o,s⟩:=a
 cases s with
 | none=>exact⟨b,o,rfl⟩
 | some s=>
  exfalso
  unfold World.cell? Addr.add at h;split at h
  ·simp at h
  ·cases h
theorem NV(f:Nat->Nat)(o k:Nat)(g:Nat->Nat)(i:Nat)(h:o<=i/\i<o+k):upd f o k g i=g (i-o):=by simp only[upd];rw[if_pos h]
theorem upd_out(f:Nat->Nat)(o k:Nat)(g:Nat->Nat)(i:Nat)(h:¬(o<=i/\i<o+k)):upd f o k g i=f i:=by simp only[upd];rw[if_neg h]
theorem wordTo_congr(f g:Nat->Nat)(k:Nat)(h:∀ i,i<k->f i=g i):wordTo f k=wordTo g k:=by
 induction k with
 | zero=>rfl
 | succ k ih=>rw[wordTo,wordTo,ih (fun i hi=>h i (by omega)),h k (by omega)]
theorem zeV(v k:Nat):wordTo (byteOf v) k=v%256 ^ k:=by
 induction k with
 | zero=>simp[wordTo,Nat.mod_one]
 | succ k ih=>rw[wordTo,ih,byteOf,Nat.pow_succ,Nat.mod_mul,Nat.mul_comm (v/256 ^ k%256)]
theorem word_upd(f:Nat->Nat)(o v:Nat)(hv:v<18446744073709551616):word (upd f o 8 (byteOf v)) o=v:=by
 unfold word;rw[wordTo_congr _ (byteOf v) 8 (fun i hi=>by rw[NV _ _ _ _ _ (by omega),Nat.add_sub_cancel_left]),zeV];exact Nat.mod_eq_of_lt hv
end Go.Proofs.YtbgbfpklgfpepaaGreatDoor.M
