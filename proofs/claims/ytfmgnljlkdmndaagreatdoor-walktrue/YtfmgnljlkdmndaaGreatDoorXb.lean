import Derived.Test.YtfmgnljlkdmndaaGreatDoorProg
import Derived.WalkKit
import Derived.WalkSpells
import Derived.WalkLawsBesides
import Derived.Outline
import Derived.Laws.CopyOwn
import Derived.RegionTactic
import Derived.ChangeAlike
import Derived.Deep.QuietTactic
import Derived.BigQuiet
import Derived.Defers
import Derived.Recover
import Derived.Lib.AppendZerosOnto
import Derived.Deep.RegionLaw
import Derived.Laws.Bits64b
import Derived.Test.YtfmgnljlkdmndaaGreatDoorHd
set_option maxRecDepth 1000000
set_option maxHeartbeats 80000000
namespace Go.Proofs.YtfmgnljlkdmndaaGreatDoor.M
open Tryz
open Go.RowKit
set_option linter.unusedVariables false
theorem aA{p:Prop}(h:p):Hd p:=h
theorem dZ{k:IntKind}{a b:Int}(h:a=b):Ending.returned (.int k a)=.returned (.int k b):=by rw[h]
theorem cO{a b:Bool}(h:a=b):Ending.returned (.bool a)=.returned (.bool b):=by rw[h]
theorem wrap_u64(n:Int):IntKind.u64.wrap n=n%2 ^ 64:=IntKind.wrap_u64 n
structure Kt(S:Nat->Prop)(w w':World):Prop where
 os:w'.os=w.os
 tape:w'.tape=w.tape
 output:w'.output=w.output
 size:w.heap.size<=w'.heap.size
 block:∀ k,k<w.heap.size->¬S k->w'.heap[k]?=w.heap[k]?
theorem Kt.refl(S:Nat->Prop)(w:World):Kt S w w:=⟨rfl,rfl,rfl,aj _,fun _ _ _=>rfl⟩
theorem Kt.trans{S T U:Nat->Prop}{a b c:World}(h:Kt S a b)(k:Kt T b c)(hS:∀ x,x<a.heap.size->S x->U x)(e:∀ x,x<a.heap.size->T x->U x):Kt U a c:=
 ⟨k.os.trans h.os,k.tape.trans h.tape,k.output.trans h.output,an h.size k.size,fun i hi d=>(k.block i (bg hi h.size) (fun x=>d (e i hi x))).trans (h.block i hi (fun x=>d (hS i hi x)))⟩
theorem Kt.mono{S T:Nat->Prop}{a b:World}(h:Kt S a b)(hS:∀ x,x<a.heap.size->S x->T x):Kt T a b:=
 ⟨h.os,h.tape,h.output,h.size,fun i hi c=>h.block i hi (fun x=>c (hS i hi x))⟩
theorem Kt.drew{S:Nat->Prop}{a b:World}(h:Kt S a b):Kt S a b.drew:=⟨h.os,h.tape,h.output,h.size,h.block⟩
theorem Kt.drewN{S:Nat->Prop}{a b:World}(h:Kt S a b)(n:Nat):Kt S a (b.drewN n):=⟨h.os,h.tape,h.output,h.size,h.block⟩
theorem Kt.alloc{S:Nat->Prop}{a b:World}(h:Kt S a b)(o:Obj):Kt S a (b.alloc o):=
 ⟨h.os,h.tape,h.output,by simp;have:=h.size;omega,fun i hi c=>by rw[Below.heap_alloc _ _ _ (by have:=h.size;omega)];exact h.block i hi c⟩
theorem Kt.setCell{S:Nat->Prop}{a b:World}(h:Kt S a b){p:Addr}(hp:p.block<a.heap.size->S p.block)(u:Value):Kt S a (b.setCell p u):=
 ⟨h.os,h.tape,h.output,by simp;exact h.size,fun i hi c=>by rw[Below.heap_setCell b p u i (fun e=>c (by rw[e];exact hp (e▸hi)))];exact h.block i hi c⟩
theorem Kt.setRow{S:Nat->Prop}{a b:World}(h:Kt S a b){g:Nat}(hg:g<a.heap.size->S g)(cs:Array Value):Kt S a (b.setRow g cs):=
 ⟨h.os,h.tape,h.output,by simp[World.setRow];exact h.size,fun i hi c=>by rw[setRow_other b g i _ (fun e=>c (by rw[e];exact hg (e▸hi)))];exact h.block i hi c⟩
theorem qQ{w:World}{p:Addr}{v:Value}(h:w.cell? p=some v):p.block<w.heap.size:=by
 rcases Nat.lt_or_ge p.block w.heap.size with a|a
 ·exact a
 ·exfalso
  simp[World.cell?,Array.getElem?_eq_none a] at h
theorem Kt.cell{S:Nat->Prop}{a b:World}(h:Kt S a b){p:Addr}{v:Value}(hp:¬S p.block)(hc:a.cell? p=some v):b.cell? p=some v:=by rw[<-hc];exact World.cell?_of_block (h.block _ (qQ hc) hp)
theorem nH(w:World)(o:Obj):(w.alloc o).heap[w.heap.size]?=some o:=by
 show(w.heap.push o)[w.heap.size]?=_
 simp
def cE(rs:List Nat):Array Value:=(rs.map fun (x:Nat)=>Value.int .u8 x).toArray
theorem xQ(a:List Nat):(cE a).size=a.length:=by simp[cE]
def own(b:Nat)(ao:Option Nat):Nat->Prop:=fun x=>x=b\/ao=some x
def nO:Nat->Prop:=fun _=>False
structure Cfg(bS R lim:Nat):Prop where
 b1 : 1<=bS
 l1 : 1<=lim
 l2:lim<=64
 r1 : 4096<=R
 r2:R<=1048576
 lr:lim*R<=4194304
 be:bS+lim*R<=9223372036854775808
def uR(w:World)(b:Nat)(ao:Option Nat)(n cap:Nat)(f:Nat->Nat):Prop:=
 match ao with
 | none=>n=0/\cap=0
 | some g=>g≠b/\∃ rs:List Nat,rs.length=cap/\w.heap[g]?=some (.cells (cE rs) 5 (0,0))/\n<=cap/\(∀ i,i<n->rs.getD i 0=f i)/\∀ i,rs.getD i 0<256
def adr(ao:Option Nat):Option Addr:=ao.map fun g=>⟨g,0,none⟩
structure SpA(w:World)(b:Nat)(ao:Option Nat)(bS R lim n:Nat)(f:Nat->Nat):Prop where
 cfg:Cfg bS R lim
 kn:∃ k,n=k*R/\k<=lim
 ex:∃ cap,w.heap[b]?=some (.cells #[.int .u64 bS,.int .u64 R,.int .i64 lim,.slice (adr ao) n cap] 131 (0,0))/\uR w b ao n cap f
theorem SpA.blt{w b ao bS R lim n f}(h:SpA w b ao bS R lim n f):b<w.heap.size:=by obtain⟨cap,hb,_⟩:=h.ex;exact(Array.getElem?_eq_some_iff.1 hb).1
theorem SpA.glt{w b g bS R lim n f}(h:SpA w b (some g) bS R lim n f):g<w.heap.size:=by obtain⟨cap,_,_,a,_,hg,_⟩:=h.ex;exact(Array.getElem?_eq_some_iff.1 hg).1
theorem SpA.own_lt{w b ao bS R lim n f}(h:SpA w b ao bS R lim n f)(x:Nat)(hx:own b ao x):x<w.heap.size:=by
 rcases hx with rfl|rfl
 ·exact h.blt
 ·exact h.glt
theorem SpA.nle{w b ao bS R lim n f}(h:SpA w b ao bS R lim n f):n<=lim*R:=by obtain⟨k,rfl,a⟩:=h.kn;exact ak _ a
theorem SpA.kept{w w' b ao bS R lim n f}{S:Nat->Prop}(h:SpA w b ao bS R lim n f)(k:Kt S w w')(hS:∀ x,own b ao x->¬S x):SpA w' b ao bS R lim n f:=by
 have hl:=h.own_lt;obtain⟨cap,hb,c⟩:=h.ex;refine⟨h.cfg,h.kn,cap,(k.block b (hl b (Or.inl rfl)) (hS b (Or.inl rfl))).trans hb,?_⟩
 cases ao with
 | none=>exact c
 | some g=>
  obtain⟨a,i,d,j,e⟩:=c;exact⟨a,i,d,(k.block g (hl g (Or.inr rfl)) (hS g (Or.inr rfl))).trans j,e⟩
theorem SpA.keep{w w' b ao bS R lim n f}(h:SpA w b ao bS R lim n f)(k:Kt nO w w'):SpA w' b ao bS R lim n f:=
 h.kept k (fun _ _ x=>x)
theorem SpA.c0{w b ao bS R lim n f}(h:SpA w b ao bS R lim n f):w.cell? ⟨b,0,none⟩=some (.int .u64 bS):=by obtain⟨cap,hb,_⟩:=h.ex;simp[World.cell?,hb]
theorem SpA.c1{w b ao bS R lim n f}(h:SpA w b ao bS R lim n f):w.cell? ⟨b,1,none⟩=some (.int .u64 R):=by obtain⟨cap,hb,_⟩:=h.ex;simp[World.cell?,hb]
theorem SpA.c2{w b ao bS R lim n f}(h:SpA w b ao bS R lim n f):w.cell? ⟨b,2,none⟩=some (.int .i64 lim):=by obtain⟨cap,hb,_⟩:=h.ex;simp[World.cell?,hb]
theorem SpA.c3{w b ao bS R lim n f}(h:SpA w b ao bS R lim n f):∃ cap,w.cell? ⟨b,3,none⟩=some (.slice (adr ao) n cap):=by obtain⟨cap,hb,_⟩:=h.ex;exact⟨cap,by simp[World.cell?,hb]⟩
theorem SpA.fb{w b ao bS R lim n f}(h:SpA w b ao bS R lim n f)(i:Nat):w.frozen? ⟨b,i,none⟩=false:=by obtain⟨cap,hb,_⟩:=h.ex;simp[World.frozen?,hb]
theorem regions_any(b ao bS R lim n f)(w:World)(h:SpA w b ao bS R lim n f):
  Calls prog 32 #[.pointer (some ⟨b,0,none⟩)] w fun e c=>e=.returned (.int .i64 ((n/R:Nat):Int))/\∃ m,c=w.drewN m:=by
 obtain⟨cap,g⟩:=h.c3;have j:=h.c1;have a:=h.nle;have hc:=h.cfg;have r1:=hc.r1;have r2:=hc.r2;have d:n<=4194304:=an a hc.lr;have i:¬(R:Int)=0:=by omega
 have E:=aA (show wrap64 ((n:Int)/(R:Int))=((n/R:Nat):Int)by
  have hq:n/R<=n:=df _ _;rw[<-Int.natCast_ediv];generalize n/R=q at hq;unfold wrap64;omega)
 clear h hc a;go_enter func32,ntmps32;go_wp2
 go_quiet (fail)
 go_wp2
 go_ret;exact⟨dZ E.o,_,rfl⟩
theorem end_any(b ao bS R lim n f)(w:World)(h:SpA w b ao bS R lim n f):
  Calls prog 76 #[.pointer (some ⟨b,0,none⟩)] w fun e d=>e=.returned (.int .u64 ((bS+n:Nat):Int))/\∃ m,d=w.drewN m:=by
 obtain⟨cap,i⟩:=h.c3;have h0:=h.c0;have a:=h.nle;have hc:=h.cfg;have be:=hc.be;have lr:=hc.lr;have c:n<=4194304:=an a hc.lr;have g:bS+n<=9223372036854775808:=by omega
 have E:=aA (show(bS:Int)+(n:Int)=((bS+n:Nat):Int)by simp);clear h hc a lr be;go_enter func76,ntmps76;go_wp2
 go_quiet (fail)
 go_wp2
 go_ret;exact⟨dZ E.o,_,rfl⟩
theorem DR(b:Nat)(p:Int)(w:World):
  Calls prog 75 #[.pointer (some ⟨b,0,none⟩),.int .u64 p,.int .u64 0] w fun e a=>e=.returned (.slice none 0 0)/\a=w:=by
 go_enter func75,ntmps75;go_wp2
 go_ret;exact⟨rfl,rfl⟩
def In(bS n p k:Nat):Prop:=bS<=p/\p+k<=bS+n
theorem kH(b g bS R lim n f)(p k:Nat)(w:World)(h:SpA w b (some g) bS R lim n f)(B : 0<k)(i:In bS n p k):
  Calls prog 75 #[.pointer (some ⟨b,0,none⟩),.int .u64 p,.int .u64 k] w fun e r=>(∃ c,e=.returned (.slice (some ⟨g,p-bS,none⟩) k c))/\∃ m,r=w.drewN m:=by
 have q:=h;have h0:=h.c0;have t:=h.nle;have hc:=h.cfg;have be:=hc.be;have lr:=hc.lr;obtain⟨cap,hb,_,C,l,hg,v,_,_⟩:=h.ex;have A:w.cell? ⟨b,3,none⟩=some (.slice (some ⟨g,0,none⟩) n cap):=by simp[World.cell?,hb,adr]
 obtain⟨d,j⟩:=i;have s:=aA q;obtain⟨o,rfl⟩:∃ o,p=bS+o:=⟨p-bS,by omega⟩;have a:bS+o-bS=o:=by omega
 rw[a];have D:o+k<=n:=by omega
 have u:o+k<=cap:=by omega
 have x:n<=4194304:=by omega
 have z:bS+n<=9223372036854775808:=by omega
 clear h hc q lr be t hg l hb d j a;go_enter func75,ntmps75;go_wp2_with (go_at_call 76;refine(end_any b (some g) bS R lim n f _ s.o).mono ?_;rintro e r ⟨rfl,m,rfl⟩)
 go_ret;refine⟨⟨cap-o,?_⟩,_,rfl⟩;show Ending.returned (.slice (some ⟨g,bS+o-bS,none⟩) (bS+o-bS+k-(bS+o-bS)) (cap-(bS+o-bS)))=_
 have a:bS+o-bS=o:=by omega
 have y:o+k-o=k:=by omega
 rw[a,y]
def zj4:List PanicEntry:=[{ v:=.iface 28 (.int .i64 4),recovered:=false }]
theorem sH(b ao bS R lim n f)(p k:Nat)(w:World)(h:SpA w b ao bS R lim n f)(i:p<18446744073709551616)(j:k<18446744073709551616)(r : 0<k)(a:¬In bS n p k):
  Calls prog 75 #[.pointer (some ⟨b,0,none⟩),.int .u64 p,.int .u64 k] w fun e c=>e=.panicked zj4/\∃ m,c=w.drewN m:=by
 have h0:=h.c0;have g:=h.nle;have hc:=h.cfg;have be:=hc.be;have lr:=hc.lr;have d:=aA h;have o:n<=4194304:=by omega
 have q:bS+n<=9223372036854775808:=by omega
 by_cases s:p<bS
 ·clear h hc lr be g a;go_enter func75,ntmps75;go_wp2_with (go_at_call 76;refine(end_any b ao bS R lim n f _ d.o).mono ?_;rintro e c ⟨rfl,m,rfl⟩)
  exact⟨rfl,rfl,_,rfl⟩
 ·by_cases t:bS+n<p
  ·clear h hc lr be g a;go_enter func75,ntmps75;go_wp2_with (go_at_call 76;refine(end_any b ao bS R lim n f _ d.o).mono ?_;rintro e c ⟨rfl,m,rfl⟩)
   exact⟨rfl,rfl,_,rfl⟩
  ·have l:bS+n-p<k:=(by unfold In at a;omega);have u:(bS:Int)+n-p<k:=(by omega);clear h hc lr be g a l;go_enter func75,ntmps75;go_wp2_with (go_at_call 76;refine(end_any b ao bS R lim n f _ d.o).mono ?_;rintro e c ⟨rfl,m,rfl⟩)
   exact⟨rfl,rfl,_,rfl⟩
theorem nU(w:World):Calls prog 74 #[.nilIface] w fun e a=>e=.returned (.int .i64 0)/\a=w:=by
 go_enter func74,ntmps74;go_wp2
 go_ret;exact⟨rfl,rfl⟩
theorem LI(t:TypeId)(v:Value)(w:World):Calls prog 74 #[.iface t v] w fun e a=>e=.returned (.int .i64 4)/\a=w:=by
 go_enter func74,ntmps74;go_wp2
 go_ret;exact⟨rfl,rfl⟩
theorem UC(p:Addr)(x:Int)(u:TypeId)(pv:Value)(a:List PanicEntry)(w:World)(hc:w.cell? p=some (.int .i64 x))(hz:w.frozen? p=false):
  CallsD prog 250 #[.pointer (some p)] (.panicking ({ v:=.iface u pv,recovered:=false } :: a)) w fun e d b=>
   e=.returned (.tuple #[])/\d=.panicking ({ v:=.iface u pv,recovered:=true } :: a)/\b=w.setCell p (.int .i64 4):=by
 refine callsD_of_wpS func250 rfl fun c₀ cs f=>?_
 apply wpS_region
 simp[wpOpsS,go_sem,recoverD,f,ntmps250];refine(LI _ _ _).mono ?_;rintro e b ⟨rfl,rfl⟩;simp[go_sem,hc,hz,bodyPostS,results,results250]
theorem UB(p:Addr)(x:Int)(w:World)(hc:w.cell? p=some (.int .i64 x))(hz:w.frozen? p=false):
  CallsD prog 250 #[.pointer (some p)] .returning w fun e b a=>e=.returned (.tuple #[])/\b=.returning/\a=w.setCell p (.int .i64 0):=by
 refine callsD_of_wpS func250 rfl fun c₀ cs d=>?_
 apply wpS_region
 simp[wpOpsS,go_sem,recoverD,d,ntmps250];refine(nU _).mono ?_;rintro e a ⟨rfl,rfl⟩
 cases c₀
 simp_all [go_sem,bodyPostS,results,results250]
theorem UA(p:Addr)(x:Int)(u:TypeId)(pv:Value)(a:List PanicEntry)(w:World)(hc:w.cell? p=some (.int .i64 x))(hz:w.frozen? p=false):
  CallsD prog 255 #[.pointer (some p)] (.panicking ({ v:=.iface u pv,recovered:=false } :: a)) w fun e d b=>
   e=.returned (.tuple #[])/\d=.panicking ({ v:=.iface u pv,recovered:=true } :: a)/\b=w.setCell p (.int .i64 4):=by
 refine callsD_of_wpS func255 rfl fun c₀ cs f=>?_
 apply wpS_region
 simp[wpOpsS,go_sem,recoverD,f,ntmps255];refine(LI _ _ _).mono ?_;rintro e b ⟨rfl,rfl⟩;simp[go_sem,hc,hz,bodyPostS,results,results255]
theorem TZ(p:Addr)(x:Int)(w:World)(hc:w.cell? p=some (.int .i64 x))(hz:w.frozen? p=false):
  CallsD prog 255 #[.pointer (some p)] .returning w fun e b a=>e=.returned (.tuple #[])/\b=.returning/\a=w.setCell p (.int .i64 0):=by
 refine callsD_of_wpS func255 rfl fun c₀ cs d=>?_
 apply wpS_region
 simp[wpOpsS,go_sem,recoverD,d,ntmps255];refine(nU _).mono ?_;rintro e a ⟨rfl,rfl⟩
 cases c₀
 simp_all [go_sem,bodyPostS,results,results255]
theorem zj5(p:Addr)(x:Int)(w:World)(hc:w.cell? p=some (.int .i64 x))(hz:w.frozen? p=false):
  CallsD prog 248 #[.pointer (some p)] .returning w fun e b a=>e=.returned (.tuple #[])/\b=.returning/\a=w.setCell p (.int .i64 0):=by
 refine callsD_of_wpS func248 rfl fun c₀ cs d=>?_
 apply wpS_region
 simp[wpOpsS,go_sem,recoverD,d,ntmps248];refine(nU _).mono ?_;rintro e a ⟨rfl,rfl⟩
 cases c₀
 simp_all [go_sem,bodyPostS,results,results248]
theorem TY(p:Addr)(x:Int)(w:World)(hc:w.cell? p=some (.int .i64 x))(hz:w.frozen? p=false):
  CallsD prog 110 #[.pointer (some p)] .returning w fun e b a=>e=.returned (.tuple #[])/\b=.returning/\a=w.setCell p (.int .i64 0):=by
 refine callsD_of_wpS func110 rfl fun c₀ cs d=>?_
 apply wpS_region
 simp[wpOpsS,go_sem,recoverD,d,ntmps110];refine(nU _).mono ?_;rintro e a ⟨rfl,rfl⟩
 cases c₀
 simp_all [go_sem,bodyPostS,results,results110]
theorem TX(p:Addr)(x:Int)(w:World)(hc:w.cell? p=some (.int .i64 x))(hz:w.frozen? p=false):
  CallsD prog 176 #[.pointer (some p)] .returning w fun e b a=>e=.returned (.tuple #[])/\b=.returning/\a=w.setCell p (.int .i64 0):=by
 refine callsD_of_wpS func176 rfl fun c₀ cs d=>?_
 apply wpS_region
 simp[wpOpsS,go_sem,recoverD,d,ntmps176];refine(nU _).mono ?_;rintro e a ⟨rfl,rfl⟩
 cases c₀
 simp_all [go_sem,bodyPostS,results,results176]
theorem AG(p:Addr)(x:Int)(w:World)(hc:w.cell? p=some (.int .i64 x))(hz:w.frozen? p=false):
  CallsD prog 73 #[.pointer (some p)] .returning w fun e b a=>e=.returned (.tuple #[])/\b=.returning/\a=w.setCell p (.int .i64 0):=by
 refine callsD_of_wpS func73 rfl fun c₀ cs d=>?_
 apply wpS_region
 simp[wpOpsS,go_sem,recoverD,d,ntmps73];refine(nU _).mono ?_;rintro e a ⟨rfl,rfl⟩
 cases c₀
 simp_all [go_sem,bodyPostS,results,results73]
theorem DQ(p:Addr)(x:Int)(w:World)(hc:w.cell? p=some (.int .i64 x))(hz:w.frozen? p=false):
  CallsD prog 118 #[.pointer (some p)] .returning w fun e b a=>e=.returned (.tuple #[])/\b=.returning/\a=w.setCell p (.int .i64 0):=by
 refine callsD_of_wpS func118 rfl fun c₀ cs d=>?_
 apply wpS_region
 simp[wpOpsS,go_sem,recoverD,d,ntmps118];refine(nU _).mono ?_;rintro e a ⟨rfl,rfl⟩
 cases c₀
 simp_all [go_sem,bodyPostS,results,results118]
structure Err(S:Nat->Prop)(w w1:World):Prop where
 k:Kt S w w1
 he:w1.heap[w.heap.size]?=some (.cells #[.int .i64 0] 28 (0,0))
 sz:w1.heap.size=w.heap.size+1
theorem Err.mk'(S:Nat->Prop)(w:World):Err S w (w.alloc (.cells #[.int .i64 0] 28)):=⟨(Kt.refl _ w).alloc _,nH _ _,by simp⟩
theorem Err.drewN{S:Nat->Prop}{w a:World}(h:Err S w a)(m:Nat):Err S w (a.drewN m):=⟨h.k.drewN m,h.he,h.sz⟩
theorem Err.c{S:Nat->Prop}{w a:World}(h:Err S w a):a.cell? ⟨w.heap.size,0,none⟩=some (.int .i64 0):=by simp[World.cell?,h.he]
theorem Err.f{S:Nat->Prop}{w a:World}(h:Err S w a):a.frozen? ⟨w.heap.size,0,none⟩=false:=by simp[World.frozen?,h.he]
theorem Err.mono{S T:Nat->Prop}{w b:World}(h:Err S w b)(a:∀ x,S x->T x):Err T w b:=⟨h.k.mono (fun x _=>a x),h.he,h.sz⟩
theorem Err.setCell{S:Nat->Prop}{w a:World}(h:Err S w a){g:Nat}(hg:g<w.heap.size)(hS:S g)(i:Nat)(u:Value):Err S w (a.setCell ⟨g,i,none⟩ u):=
 ⟨h.k.setCell (fun _=>hS) u,by rw[Below.heap_setCell _ _ _ _ (by simp;omega)];exact h.he,by simp;exact h.sz⟩
theorem Err.setRow{S:Nat->Prop}{w a:World}(h:Err S w a){g:Nat}(hg:g<w.heap.size)(hS:S g)(cs:Array Value):Err S w (a.setRow g cs):=
 ⟨h.k.setRow (fun _=>hS) cs,by rw[setRow_other _ _ _ _ (by omega)];exact h.he,by simp[World.setRow];exact h.sz⟩
theorem Err.done{S:Nat->Prop}{w a:World}(h:Err S w a)(u:Value):Kt S w (a.setCell ⟨w.heap.size,0,none⟩ u):=h.k.setCell (fun h=>absurd h (dc _)) _
theorem Err.done2{S:Nat->Prop}{w a:World}(h:Err S w a)(u v:Value):Kt S w ((a.setCell ⟨w.heap.size,0,none⟩ u).setCell ⟨w.heap.size,0,none⟩ v):=(h.done u).setCell (fun h=>absurd h (dc _)) _
theorem SpA.cg{w b g bS R lim n f}(h:SpA w b (some g) bS R lim n f)(i:Nat)(hi:i<n):w.cell? ⟨g,i,none⟩=some (.int .u8 ((f i:Nat):Int)):=by obtain⟨cap,hb,_,d,a,hg,c,hf,_⟩:=h.ex;rw[<-hf i hi];simp[World.cell?,hg,cE,show i<d.length by omega]
theorem SpA.fg{w b g bS R lim n f}(h:SpA w b (some g) bS R lim n f)(i:Nat):w.frozen? ⟨g,i,none⟩=false:=by obtain⟨cap,hb,_,d,c,hg,a,hf,_⟩:=h.ex;simp[World.frozen?,hg]
theorem mkf:∀ (a:Fn) (first cap:Array Value) (w:World),(Instr.makeFunc a first cap).run prog w=.ok (.func a first cap) w:=fun _ _ _ _=>rfl
theorem zk9(b ao bS R lim n f)(p k:Nat)(v:Int)(A:Option Addr)(z:Nat)(w:World)(h:SpA w b ao bS R lim n f)(hp:p<18446744073709551616)(x:k<18446744073709551616)(o : 0<k)(d:¬In bS n p 1):
  Calls prog 231 #[.pointer (some ⟨b,0,none⟩),.int .u64 p] w fun e r=>e=.returned (.tuple #[.int .u8 0,.int .i64 4])/\Kt nO w r:=by
 have q:=mkf;have l:=aA h;have u:=aA d;clear h d;go_enter_defers func231,ntmps231;go_wp2_with fail;refine(sH b ao bS R lim n f p 1 _ (l.o.keep (Err.mk' nO w).k) hp (by omega) (by omega) u.o).mono ?_;rintro e j ⟨rfl,m,hw⟩;have g:Err nO w j:=by rw[hw];exact(Err.mk' nO w).drewN m
 have a:=g.c;have i:=g.f;have t:=aA g;clear g hw;refine leaves_cons (f:=250) (args:=#[.pointer (some ⟨w.heap.size,0,none⟩)]) (by simp) (by simp[go_sem]) ?_;refine(UC ⟨w.heap.size,0,none⟩ 0 _ _ [] j a i).mono ?_;rintro e y s ⟨rfl,rfl,rfl⟩;refine⟨(.tuple #[.int .u8 0,.int .i64 4]),?_,rfl,t.o.done _⟩;simp[results,results231,go_sem,a]
theorem ZS(b ao bS R lim n f)(p k:Nat)(v:Int)(A:Option Addr)(z:Nat)(w:World)(h:SpA w b ao bS R lim n f)(hp:p<18446744073709551616)(x:k<18446744073709551616)(o : 0<k)(d:¬In bS n p 8):
  Calls prog 245 #[.pointer (some ⟨b,0,none⟩),.int .u64 p] w fun e r=>e=.returned (.tuple #[.int .u64 0,.int .i64 4])/\Kt nO w r:=by
 have q:=mkf;have l:=aA h;have u:=aA d;clear h d;go_enter_defers func245,ntmps245;go_wp2_with fail;refine(sH b ao bS R lim n f p 8 _ (l.o.keep (Err.mk' nO w).k) hp (by omega) (by omega) u.o).mono ?_;rintro e j ⟨rfl,m,hw⟩;have g:Err nO w j:=by rw[hw];exact(Err.mk' nO w).drewN m
 have a:=g.c;have i:=g.f;have t:=aA g;clear g hw;refine leaves_cons (f:=255) (args:=#[.pointer (some ⟨w.heap.size,0,none⟩)]) (by simp) (by simp[go_sem]) ?_;refine(UA ⟨w.heap.size,0,none⟩ 0 _ _ [] j a i).mono ?_;rintro e y s ⟨rfl,rfl,rfl⟩;refine⟨(.tuple #[.int .u64 0,.int .i64 4]),?_,rfl,t.o.done _⟩;simp[results,results245,go_sem,a]
def upd(f:Nat->Nat)(o k:Nat)(g:Nat->Nat):Nat->Nat:=fun i=>if o<=i/\i<o+k then g (i-o) else f i
theorem EM(f:Nat->Nat)(o:Nat)(g:Nat->Nat):upd f o 0 g=f:=by
 funext i
 simp only[upd];rw[ac (by omega)]
theorem EL(f:Nat->Nat)(o k:Nat)(g:Nat->Nat):upd (upd f o k g) (o+k) 1 (fun _=>g k)=upd f o (k+1) g:=by
 funext i
 simp only[upd];by_cases b:i=o+k
 ·subst b;rw[ae (by omega),ae (by omega),Nat.add_sub_cancel_left]
 ·rw[ac (by omega)];by_cases a:o<=i/\i<o+k
  ·rw[ae a,ae (by omega)]
  ·rw[ac a,ac (by omega)]
def lay(rs:List Nat)(o k:Nat)(g:Nat->Nat):List Nat:=rs.take o ++ ((List.range k).map g ++ rs.drop (o + k))
theorem DL(a:List Nat)(o k:Nat)(g:Nat->Nat)(h:o+k<=a.length):(lay a o k g).length=a.length:=by simp[lay];omega
theorem sU(a:List Nat)(o k:Nat)(g:Nat->Nat)(h:o+k<=a.length)(i:Nat):(lay a o k g).getD i 0=if o<=i/\i<o+k then g (i-o) else a.getD i 0:=by
 simp only[lay,List.getD,List.getElem?_append,List.length_take,List.length_map,List.length_range,List.getElem?_take,List.getElem?_drop,List.getElem?_map];have e:min o a.length=o:=by omega
 rw[e];by_cases c:i<o
 ·have d:¬(o<=i/\i<o+k):=by omega
  simp only[c,d,if_true,if_false]
 ·rw[ac c];by_cases b:i-o<k
  ·rw[ae b,ae (by omega),List.getElem?_range b];rfl
  ·rw[ac b,ac (by omega)];congr 2
   omega
theorem xM(b:List Nat)(o k:Nat)(g:Nat->Nat)(cs:List Value)(a:cs=(List.range k).map fun i=>Value.int .u8 ((g i:Nat):Int)):
  ((cE b).toList.take o ++ cs ++ (cE b).toList.drop (o + cs.length)).toArray=cE (lay b o k g):=by
 subst a;simp only[cE,lay,List.length_map,List.length_range,List.map_append,List.map_map,List.append_assoc,<-List.map_take,<-List.map_drop];rfl
theorem SpA.lay{w b g bS R lim n f}(h:SpA w b (some g) bS R lim n f)(o k:Nat)(d:Nat->Nat)(s:o+k<=n)(j:∀ i,i<k->d i<256)(cs:List Value)(l:cs=(List.range k).map fun i=>Value.int .u8 ((d i:Nat):Int)):
  ∃ a,w.heap[g]?=some (.cells a 5 (0,0))/\o + cs.length<=a.size/\SpA (w.setRow g (a.toList.take o ++ cs ++ a.toList.drop (o + cs.length)).toArray) b (some g) bS R lim n (upd f o k d):=by
 obtain⟨cap,hb,c,m,q,hg,p,hf,r⟩:=h.ex;refine⟨cE m,hg,by rw[xQ,l];simp;omega,h.cfg,h.kn,cap,?_,c,Go.Proofs.YtfmgnljlkdmndaaGreatDoor.M.lay m o k d,?_,?_,p,?_,?_⟩
 ·rw[setRow_other _ _ _ _ (fun e=>c e.symm)];exact hb
 ·rw[DL _ _ _ _ (by omega)];exact q
 ·rw[setRow_heap w g _ _ _ _ hg,xM m o k d cs l]
 ·intro i hi;rw[sU _ _ _ _ (by omega)];simp only[upd];split
  ·rfl
  ·exact hf i hi
 ·intro i;rw[sU _ _ _ _ (by omega)];split
  ·exact j _ (by omega)
  ·exact r i
theorem SpA.write{w b g bS R lim n f}(h:SpA w b (some g) bS R lim n f)(o y:Nat)(l:o<n)(hy:y<256):SpA (w.setCell ⟨g,o,none⟩ (.int .u8 y)) b (some g) bS R lim n (upd f o 1 fun _=>y):=by
 obtain⟨cap,hb,a,j,c,hg,d,hf,k⟩:=h.ex;refine⟨h.cfg,h.kn,cap,?_,a,j.set o y,?_,?_,d,?_,?_⟩
 ·rw[Below.heap_setCell _ _ _ _ (fun e=>a e.symm)];exact hb
 ·simpa using c
 ·simp only[World.setCell];rw[Array.getElem?_modify,ae rfl,hg];simp[cE,List.map_set]
 ·intro i hi;simp only[upd];by_cases e:i=o
  ·subst e;rw[ae (by omega)];simp[List.getD,show i<j.length by omega]
  ·rw[ac (by omega),<-hf i hi];simp[List.getD,Ne.symm e]
 ·intro i;by_cases e:i=o
  ·subst e;simp[List.getD,show i<j.length by omega,hy]
  ·have:=k i;simpa [List.getD,Ne.symm e] using this
theorem SpA.f256{w b g bS R lim n f}(h:SpA w b (some g) bS R lim n f)(i:Nat)(hi:i<n):f i<256:=by obtain⟨cap,hb,c,j,d,hg,e,hf,a⟩:=h.ex;rw[<-hf i hi];exact a i
theorem Err.space{S:Nat->Prop}{w a:World}{b ao bS R lim n f f'}(c:Err S w a)(h:SpA w b ao bS R lim n f)(hS:SpA a b ao bS R lim n f')(u v:Value):SpA ((a.setCell ⟨w.heap.size,0,none⟩ u).setCell ⟨w.heap.size,0,none⟩ v) b ao bS R lim n f':=
 hS.kept (((Kt.refl (fun x=>x=w.heap.size) a).setCell (fun _=>rfl) u).setCell (fun _=>rfl) v) (fun x hx e=>by have:=h.own_lt x hx;omega)
theorem VV(b g bS R lim n f)(p:Nat)(w:World)(h:SpA w b (some g) bS R lim n f)(a:In bS n p 1):
  Calls prog 231 #[.pointer (some ⟨b,0,none⟩),.int .u64 p] w fun e u=>e=.returned (.tuple #[.int .u8 ((f (p-bS):Nat):Int),.int .i64 0])/\Kt nO w u:=by
 have s:=mkf;obtain⟨o,q⟩:=xe (p-bS);have j:o<n:=by obtain⟨A,C⟩:=a;omega
 rw[<-q];have t:=aA q;have r:=aA h;have z:=aA a;clear h q a;go_enter_defers func231,ntmps231;go_wp2_with fail;refine(kH b g bS R lim n f p 1 _ (r.o.keep (Err.mk' nO w).k) (by decide) z.o).mono ?_;rintro e y ⟨⟨c,rfl⟩,m,hw⟩;have d:Err nO w y:=by rw[hw];exact(Err.mk' nO w).drewN m
 have hS:=r.o.keep d.k;rw[<-t.o];have hc:=hS.cg o j;have i:=d.c;have l:=d.f;have x:=aA d;clear hS d hw;go_wp2
 refine leaves_cons (f:=250) (args:=#[.pointer (some ⟨w.heap.size,0,none⟩)]) (by simp) (by simp[go_sem]) ?_;refine(UB ⟨w.heap.size,0,none⟩ 0 _ ?_ ?_).mono ?_
 ·simp[go_sem,i]
 ·simp[go_sem,l]
 rintro e B v ⟨rfl,rfl,rfl⟩;refine⟨.tuple #[.int .u8 ((f o:Nat):Int),.int .i64 0],?_,rfl,x.o.done2 _ _⟩;simp[results,results231,go_sem,i]
def wordTo(f:Nat->Nat):Nat->Nat
 | 0=>0
 | k+1=>wordTo f k+f k*256 ^ k
theorem wordTo_lt(f:Nat->Nat)(k:Nat)(h:∀ i,i<k->f i<256):wordTo f k<256 ^ k:=by
 induction k with
 | zero=>simp[wordTo]
 | succ k a=>
  have b:=a (fun i hi=>h i (by omega));have d:=h k (by omega);have c:f k*256 ^ k<=255*256 ^ k:=ak _ (by omega);simp only[wordTo,ci];omega
def word(f:Nat->Nat)(o:Nat):Nat:=wordTo (fun i=>f (o+i)) 8
theorem AO(k:Nat) : 256 ^ k=2 ^ (8*k):=by rw[Nat.pow_mul]
theorem word_step(a k x:Nat)(f:k<8)(hx:x<256)(ha:a<256 ^ k):bits BinOp.or IntKind.u64 (a:Int) (IntKind.u64.wrap (IntKind.u64.wrap (x:Int)*2 ^ (8*k)))=((a+x*256 ^ k:Nat):Int):=by
 have hp : 2 ^ (8*k)<=2 ^ 56:=bj (by decide) (by omega);have d:x*2 ^ (8*k)<=255*2 ^ (8*k):=ak _ (by omega);have b:IntKind.u64.wrap (x:Int)=x:=by rw[wrap_u64];omega
 have e:(x:Int)*2 ^ (8*k)=((x*2 ^ (8*k):Nat):Int):=by simp
 have c:IntKind.u64.wrap ((x*2 ^ (8*k):Nat):Int)=((x*2 ^ (8*k):Nat):Int):=by rw[wrap_u64];generalize x*2 ^ (8*k)=y at d;omega
 rw[b,e,c];rw[AO] at ha ⊢;rw[bits_or_u64_nat _ _ (by omega) (by omega)];congr 1
 have:=Nat.shiftLeft_add_eq_or_of_lt ha x;rw[Nat.shiftLeft_eq] at this;rw[Nat.or_comm,<-this,Nat.add_comm]
theorem Word_in(b g bS R lim n f)(p:Nat)(w:World)(h:SpA w b (some g) bS R lim n f)(a:In bS n p 8):
  Calls prog 245 #[.pointer (some ⟨b,0,none⟩),.int .u64 p] w fun e z=>e=.returned (.tuple #[.int .u64 ((word f (p-bS):Nat):Int),.int .i64 0])/\Kt nO w z:=by
 have x:=mkf;obtain⟨o,r⟩:=xe (p-bS);have u:o+8<=n:=by obtain⟨I,K⟩:=a;omega
 rw[<-r];have y:=aA r;have s:=aA h;have F:=aA a;clear h r a;go_enter_defers func245,ntmps245;go_wp2_with fail;refine(kH b g bS R lim n f p 8 _ (s.o.keep (Err.mk' nO w).k) (by decide) F.o).mono ?_;rintro e C ⟨⟨c,rfl⟩,m,hw⟩;have j:Err nO w C:=by rw[hw];exact(Err.mk' nO w).drewN m
 have hS:=s.o.keep j.k;rw[<-y.o];have D:=aA (fun i (hi:i<8)=>hS.cg (o+i) (by omega));have t:=aA (fun i (hi:i<8)=>hS.f256 (o+i) (by omega));have l:=j.c;have q:=j.f;have B:=aA j;clear hS j hw;go_wp2
 go_loop [4,13] (fun v i=>∃ k:Nat,k<=8/\i=.int .i64 k/\v=.int .u64 ((wordTo (fun i=>f (o+i)) k:Nat):Int)) (fun _ i=>8-(intOf i).toNat)
 case atStart=>exact⟨0,by omega,rfl,rfl⟩
 case round=>
  obtain⟨k,G,rfl,rfl⟩:=hrel;by_cases d:k<8
  ·have hc:=D.o k d;have E:=aA (word_step (wordTo (fun i=>f (o+i)) k) k (f (o+k)) d (t.o k d) (wordTo_lt _ _ (fun i hi=>t.o i (by omega))));go_wp2
   refine⟨⟨k+1,by omega,by simp,?_⟩,by simp[intOf];omega⟩;rw[E.o];rfl
  ·obtain rfl:k=8:=(by omega);go_wp2
   refine leaves_cons (f:=255) (args:=#[.pointer (some ⟨w.heap.size,0,none⟩)]) (by simp) (by simp[go_sem]) ?_;refine(TZ ⟨w.heap.size,0,none⟩ 0 _ ?_ ?_).mono ?_
   ·simp[go_sem,l]
   ·simp[go_sem,q]
   rintro e J A ⟨rfl,rfl,rfl⟩;refine⟨.tuple #[.int .u64 ((word f o:Nat):Int),.int .i64 0],?_,rfl,B.o.done2 _ _⟩;simp[results,results245,go_sem,l,word]
def byteOf(v i:Nat):Nat:=v/256 ^ i%256
theorem zia(v k:Nat):(v:Int)/2 ^ (8*k)%256=((byteOf v k:Nat):Int):=by unfold byteOf;rw[AO];simp
theorem SetWord_in(b g bS R lim n f)(p v:Nat)(L:v<18446744073709551616)(w:World)(h:SpA w b (some g) bS R lim n f)(d:In bS n p 8):
  Calls prog 229 #[.pointer (some ⟨b,0,none⟩),.int .u64 p,.int .u64 v] w fun e t=>e=.returned (.int .i64 0)/\SpA t b (some g) bS R lim n (upd f (p-bS) 8 (byteOf v))/\Kt (own b (some g)) w t:=by
 have z:=mkf;obtain⟨o,r⟩:=xe (p-bS);have y:o+8<=n:=by obtain⟨I,K⟩:=d;omega
 rw[<-r];have A:=aA r;have l:=aA h;have F:=aA d;clear h r d;go_enter_defers func229,ntmps229;go_wp2_with fail;refine(kH b g bS R lim n f p 8 _ (l.o.keep (Err.mk' nO w).k) (by decide) F.o).mono ?_;rintro e D ⟨⟨c,rfl⟩,m,hw⟩;have a:Err nO w D:=by rw[hw];exact(Err.mk' nO w).drewN m
 rw[<-A.o];have s:=aA (l.o.keep a.k);have u:=aA (a.mono (T:=own b (some g)) (fun _ x=>x.elim));clear a hw;go_wp2
 go_loopw [15] (fun i wr=>∃ k:Nat,k<=8/\i=.int .i64 k/\Hd (Err (own b (some g)) w wr)/\Hd (SpA wr b (some g) bS R lim n (upd f o k (byteOf v)))) (fun i _=>8-(intOf i).toNat)
 case atStart=>exact⟨0,by omega,rfl,u,by rw[EM];exact s⟩
 case round=>
  obtain⟨k,G,rfl,a,hS⟩:=hrel;clear u s;by_cases C:k<8
  ·have hc:=hS.o.cg (o+k) (by omega);have hf:=hS.o.fg (o+k);have E:=aA (zia v k);go_wp2
   refine⟨⟨k+1,by omega,by simp,?_,?_⟩,by simp[intOf];omega⟩
   ·exact a.o.setCell l.o.glt (Or.inr rfl) _ _
   ·rw[E.o,<-EL];exact hS.o.write (o+k) (byteOf v k) (by omega) (Nat.mod_lt _ (by decide))
  ·obtain rfl:k=8:=(by omega);have j:=a.o.c;have q:=a.o.f;go_wp2
   refine leaves_cons (f:=248) (args:=#[.pointer (some ⟨w.heap.size,0,none⟩)]) (by simp) (by simp[go_sem]) ?_;refine(zj5 ⟨w.heap.size,0,none⟩ 0 _ ?_ ?_).mono ?_
   ·simp[go_sem,j]
   ·simp[go_sem,q]
   rintro e J B ⟨rfl,rfl,rfl⟩;refine⟨.int .i64 0,?_,rfl,?_,a.o.done2 _ _⟩
   ·simp[results,results229,go_sem,j]
   ·exact a.o.space l.o hS.o _ _
theorem Fill_in(b g bS R lim n f)(p a v:Nat)(G:v<256)(w:World)(h:SpA w b (some g) bS R lim n f)(r : 0<a)(j:In bS n p a):
  Calls prog 62 #[.pointer (some ⟨b,0,none⟩),.int .u64 p,.int .u64 a,.int .u8 v] w fun e y=>e=.returned (.int .i64 0)/\SpA y b (some g) bS R lim n (upd f (p-bS) a fun _=>v)/\Kt (own b (some g)) w y:=by
 have C:=mkf;obtain⟨o,t⟩:=xe (p-bS);have A:o+a<=n:=by obtain⟨N,Q⟩:=j;omega
 have B:=h.nle;have lr:=h.cfg.lr;have K:a<=4194304:=by omega
 rw[<-t];have D:=aA t;have q:=aA h;have J:=aA j;clear h t j B lr;go_enter_defers func62,ntmps62;go_wp2_with fail;refine(kH b g bS R lim n f p a _ (q.o.keep (Err.mk' nO w).k) r J.o).mono ?_;rintro e I ⟨⟨c,rfl⟩,m,hw⟩;have d:Err nO w I:=by rw[hw];exact(Err.mk' nO w).drewN m
 rw[<-D.o];have u:=aA (q.o.keep d.k);have z:=aA (d.mono (T:=own b (some g)) (fun _ x=>x.elim));clear d hw;go_wp2
 go_loopw [18] (fun i wr=>∃ k:Nat,k<=a/\i=.int .i64 k/\Hd (Err (own b (some g)) w wr)/\Hd (SpA wr b (some g) bS R lim n (upd f o k fun _=>v))) (fun i _=>a-(intOf i).toNat)
 case atStart=>exact⟨0,by omega,rfl,z,by rw[EM];exact u⟩
 case round=>
  obtain⟨k,L,rfl,d,hS⟩:=hrel;clear z u;by_cases F:k<a
  ·have hc:=hS.o.cg (o+k) (by omega);have hf:=hS.o.fg (o+k);go_wp2
   refine⟨⟨k+1,by omega,by simp,?_,?_⟩,by simp[intOf];omega⟩
   ·exact d.o.setCell q.o.glt (Or.inr rfl) _ _
   ·rw[<-EL];exact hS.o.write (o+k) v (by omega) G
  ·obtain rfl:k=a:=(by omega);have l:=d.o.c;have s:=d.o.f;go_wp2
   refine leaves_cons (f:=110) (args:=#[.pointer (some ⟨w.heap.size,0,none⟩)]) (by simp) (by simp[go_sem]) ?_;refine(TY ⟨w.heap.size,0,none⟩ 0 _ ?_ ?_).mono ?_
   ·simp[go_sem,l]
   ·simp[go_sem,s]
   rintro e P E ⟨rfl,rfl,rfl⟩;refine⟨.int .i64 0,?_,rfl,?_,d.o.done2 _ _⟩
   ·simp[results,results62,go_sem,l]
   ·exact d.o.space q.o hS.o _ _
def Bytes(w:World)(v:Value)(m:Nat)(g:Nat->Nat):Prop:=
 (∀ i,i<m->g i<256)/\∃ ao cap,v=.slice ao m cap/\(m=0\/∃ a:Addr,ao=some a/\a.block<w.heap.size/\∀ j,j<m->w.cell? (a.add j)=some (.int .u8 ((g j:Nat):Int)))
theorem addr_add_block(a:Addr)(j:Nat):(a.add j).block=a.block:=by unfold Addr.add;split <;> rfl
theorem Bytes.kept{w d:World}{S:Nat->Prop}{v:Value}{m:Nat}{g:Nat->Nat}(h:Bytes w v m g)(k:Kt S w d)(hS:∀ b,v.ownBlock=some b->¬S b):Bytes d v m g:=by
 obtain⟨e,ao,cap,rfl,c⟩:=h;refine⟨e,ao,cap,rfl,?_⟩;rcases c with c|⟨a,rfl,hb,hc⟩
 ·exact Or.inl c
 ·refine Or.inr ⟨a,rfl,bg hb k.size,fun j f=>?_⟩;rw[<-hc j f];exact World.cell?_of_block (by rw[addr_add_block];exact k.block _ hb (hS a.block rfl))
theorem Bytes.keep{w a:World}{v:Value}{m:Nat}{g:Nat->Nat}(h:Bytes w v m g)(k:Kt nO w a):Bytes a v m g:=h.kept k (fun _ _ x=>x)
theorem nP:(prog.info? 5).map (fun i=>(i.zero,i.size,i.bytes))=some (some (.int .u8 0),1,1):=by kernel_rfl
def bF(m:Nat)(g:Nat->Nat):List Nat:=(List.range m).map g
theorem IB(m:Nat)(g:Nat->Nat):(bF m g).length=m:=by simp[bF]
theorem zkw(m:Nat)(g:Nat->Nat)(i:Nat)(hi:i<m):(bF m g).getD i 0=g i:=by simp[bF,List.getD,hi]
def Blk(w:World)(h m:Nat)(g:Nat->Nat):Prop:=(∀ i,i<m->g i<256)/\w.heap[h]?=some (.cells (cE (bF m g)) 5 (0,0))
theorem Blk.lt{w h m g}(H:Blk w h m g):h<w.heap.size:=(Array.getElem?_eq_some_iff.1 H.2).1
theorem Blk.cell{w h m g}(H:Blk w h m g)(i:Nat)(hi:i<m):w.cell? ⟨h,i,none⟩=some (.int .u8 ((g i:Nat):Int)):=by have:=zkw m g i hi;rw[<-this];simp[World.cell?,H.2,cE,IB,hi]
theorem Blk.kept{w w' h m g}{S:Nat->Prop}(H:Blk w h m g)(k:Kt S w w')(hS:¬S h):Blk w' h m g:=⟨H.1,(k.block h H.lt hS).trans H.2⟩
theorem zhL(m:Nat):madeCells (Value.int .u8 0).cells (m*1)=cE (bF m fun _=>0):=by
 simp only[madeCells,cE,bF];apply Array.ext
 ·simp
 ·intro i a b;have:i%1=0:=Nat.mod_one i;simp[Value.cells,this]
theorem tW(m:Nat)(d:m<=1073741824)(w:World):
  (Instr.makeSlice 34 (.int .i64 m) (.int .i64 m)).run prog w=.ok (.slice (some ⟨w.heap.size,0,none⟩) m m) (w.alloc (.cells (cE (bF m fun _=>0)) 5)):=by
 obtain⟨i,hi,c,b,a⟩:=info_parts nP;have:=run_make (P:=prog) w 34 5 i (.int .u8 0) Tryz.underlying34 hi c .i64 .i64 (m:Int) (m:Int) (by omega) (by omega) (by rw[a];omega) (by omega);rw[b] at this;simp only[aa,zhL] at this;exact this
def dO(k:Nat)(g:Nat->Nat):List Value:=(List.range k).map fun i=>Value.int .u8 ((g i:Nat):Int)
theorem nV(k:Nat)(g:Nat->Nat):(dO k g).length=k:=by simp[dO]
theorem zhM(k:Nat)(g:Nat->Nat)(j:Nat)(u:Value)(h:(dO k g)[j]?=some u):j<k/\u=.int .u8 ((g j:Nat):Int):=by
 have b:j<k:=by
  rcases Nat.lt_or_ge j k with a|a
  ·exact a
  ·rw[dh (by rw[nV];exact a)] at h;cases h
 refine⟨b,?_⟩;simp[dO,b] at h;exact h.symm
theorem wN(w:World)(g o k h:Nat)(a:Addr)(sc:Nat)(b:Array Value)(d:Nat->Nat)(hg:w.heap[g]?=some (.cells b 5 (0,0)))(e:o+k<=b.size)
  (c:∀ j,j<k->w.cell? (a.add j)=some (.int .u8 ((d j:Nat):Int))) (l:TypeId):
  (Builtin.copy_ #[34,34] l #[.slice (some ⟨g,o,none⟩) k h,.slice (some a) k sc]).run prog w=.ok (goInt k) (w.setRow g (b.toList.take o ++ dO k d ++ b.toList.drop (o + (dO k d).length)).toArray):=by
 obtain⟨i,hi,n,f,q⟩:=info_parts nP;have:=run_copy_row (P:=prog) w 34 34 l 5 g o k h a k sc b 5 (dO k d) Tryz.underlying34 (by rw[hi];simp[f]) hg (by rw[nV];exact(Nat.min_self k).symm) ?_ ?_ ?_
 ·rw[this,nV]
 ·intro j u p;obtain⟨m,rfl⟩:=zhM k d j u p;exact c j m
 ·rw[nV];exact e
 ·intro u r;obtain⟨_,_,rfl⟩:=List.mem_map.1 r;rfl
theorem GZ(w:World)(k c:Nat)(b sp:Option Addr)(sc:Nat)(g:k=0)(d:TypeId):
  (Builtin.copy_ #[34,34] d #[.slice b k c,.slice sp k sc]).run prog w=.ok (goInt 0) w:=by
 obtain⟨i,hi,f,a,e⟩:=info_parts nP;subst g;exact run_copy_none (P:=prog) w 34 34 d 5 b sp 0 c 0 sc Tryz.underlying34 (by rw[hi];simp[a]) rfl
theorem Copy_in(b g bS R lim n f)(p q k:Nat)(w:World)(h:SpA w b (some g) bS R lim n f)(z : 0<k)(u:In bS n p k)(l:In bS n q k):
  Calls prog 117 #[.pointer (some ⟨b,0,none⟩),.int .u64 p,.int .u64 q,.int .u64 k] w fun e L=>e=.returned (.int .i64 0)/\SpA L b (some g) bS R lim n (upd f (p-bS) k fun i=>f (q-bS+i))/\Kt (own b (some g)) w L:=by
 have P:=mkf;obtain⟨o,K⟩:=xe (p-bS);obtain⟨s,hs⟩:=xe (q-bS);have D:o+k<=n:=by obtain⟨S,U⟩:=u;omega
 have Y:s+k<=n:=by obtain⟨S,U⟩:=l;omega
 rw[<-K,<-hs];have Q:=aA K;have HT:=aA hs;have y:=aA h;have HI:=aA u;have V:=aA l;clear h K u l hs;go_enter_defers func117,ntmps117;go_wp2_with fail;refine(kH b g bS R lim n f p k _ (y.o.keep (Err.mk' nO w).k) z HI.o).mono ?_;rintro e Z ⟨⟨c,rfl⟩,m,hw⟩;have v:Err nO w Z:=by rw[hw];exact(Err.mk' nO w).drewN m
 have F:=aA v;rw[<-Q.o];clear v hw;go_wp2_with fail;refine(kH b g bS R lim n f q k _ (y.o.keep F.o.k) z V.o).mono ?_;rintro e J ⟨⟨c2,rfl⟩,N,hw⟩;have v:Err nO w J:=by rw[hw];exact F.o.drewN N
 rw[<-HT.o];have hS:=y.o.keep v.k;obtain⟨d,hg,a,t⟩:=hS.lay o k (fun i=>f (s+i)) D (fun i hi=>hS.f256 _ (by omega)) (dO k fun i=>f (s+i)) rfl;have G:=wN J g o k c ⟨g,s,none⟩ c2 d (fun i=>f (s+i)) hg (by rw[nV] at a;exact a) (fun j hj=>by rw[Addr.add_lit];exact hS.cg _ (by omega));have r:=(v.mono (T:=own b (some g)) (fun _ x=>x.elim)).setRow y.o.glt (Or.inr rfl) (d.toList.take o ++ dO k (fun i=>f (s + i)) ++ d.toList.drop (o + (dO k fun i=>f (s + i)).length)).toArray;obtain⟨w3,C⟩:=xe (J.setRow g (d.toList.take o ++ dO k (fun i=>f (s + i)) ++ d.toList.drop (o + (dO k fun i=>f (s + i)).length)).toArray);rw[<-C] at t G r;have B:=r.c;have I:=r.f;have A:=aA r;have E:=aA t;clear v hS hg a t r hw C F;go_wp2
 refine leaves_cons (f:=176) (args:=#[.pointer (some ⟨w.heap.size,0,none⟩)]) (by simp) (by simp[go_sem]) ?_;refine(TX ⟨w.heap.size,0,none⟩ 0 _ ?_ ?_).mono ?_
 ·simp[go_sem,B]
 ·simp[go_sem,I]
 rintro e u' X ⟨rfl,rfl,rfl⟩;refine⟨.int .i64 0,?_,rfl,?_,A.o.done2 _ _⟩
 ·simp[results,results117,go_sem,B]
 ·exact A.o.space y.o E.o _ _
theorem Write_in(b g bS R lim n f)(p k:Nat)(v:Value)(q:Nat->Nat)(w:World)(h:SpA w b (some g) bS R lim n f)(F : 0<k)(t:In bS n p k)(U:Bytes w v k q):
  Calls prog 69 #[.pointer (some ⟨b,0,none⟩),.int .u64 p,v] w fun e Q=>e=.returned (.int .i64 0)/\SpA Q b (some g) bS R lim n (upd f (p-bS) k q)/\Kt (own b (some g)) w Q:=by
 have X:=mkf;obtain⟨o,P⟩:=xe (p-bS);have E:o+k<=n:=by obtain⟨h1,h2⟩:=t;omega
 have V:=h.nle;have lr:=h.cfg.lr;have a2:k<=4194304:=by omega
 rw[<-P];have S:=aA U;obtain⟨r,ao,vc,rfl,j⟩:=U;obtain⟨a,rfl,-,-⟩:=j.resolve_left (by omega);have Y:=aA P;have C:=aA h;have HI:=aA t;clear h P t j V lr;have y:=aA r;clear r;go_enter_defers func69,ntmps69;go_wp2_with fail;refine(kH b g bS R lim n f p k _ (C.o.keep (Err.mk' nO w).k) F HI.o).mono ?_;rintro e N ⟨⟨c,rfl⟩,m,hw⟩;have D:Err nO w N:=by rw[hw];exact(Err.mk' nO w).drewN m
 rw[<-Y.o];have hS:=C.o.keep D.k;obtain⟨-,a1,a0,J,j⟩:=S.o.keep D.k;injection J with J e2 e3
 subst J;obtain⟨a',I,-,u⟩:=j.resolve_left (by omega);injection I with I
 subst I;obtain⟨l,hg,i,s⟩:=hS.lay o k q E y.o (dO k q) rfl;have K:=wN N g o k c a vc l q hg (by rw[nV] at i;exact i) u;have d:=(D.mono (T:=own b (some g)) (fun _ x=>x.elim)).setRow C.o.glt (Or.inr rfl) (l.toList.take o ++ dO k q ++ l.toList.drop (o + (dO k q).length)).toArray;obtain⟨w3,B⟩:=xe (N.setRow g (l.toList.take o ++ dO k q ++ l.toList.drop (o + (dO k q).length)).toArray);rw[<-B] at s K d;have A:=d.c;have L:=d.f;have z:=aA d;have G:=aA s;clear D hS hg i s d hw B j u S e2 e3;go_wp2
 refine leaves_cons (f:=118) (args:=#[.pointer (some ⟨w.heap.size,0,none⟩)]) (by simp) (by simp[go_sem]) ?_;refine(DQ ⟨w.heap.size,0,none⟩ 0 _ ?_ ?_).mono ?_
 ·simp[go_sem,A]
 ·simp[go_sem,L]
 rintro e u' Z ⟨rfl,rfl,rfl⟩;refine⟨.int .i64 0,?_,rfl,?_,z.o.done2 _ _⟩
 ·simp[results,results69,go_sem,A]
 ·exact z.o.space C.o G.o _ _
theorem Write_zero(b:Nat)(p:Int)(k:Option Addr)(j:Nat)(w:World):
  Calls prog 69 #[.pointer (some ⟨b,0,none⟩),.int .u64 p,.slice k 0 j] w fun e m=>e=.returned (.int .i64 0)/\Kt nO w m:=by
 have l:=mkf;go_enter_defers func69,ntmps69;go_wp2_with fail;refine(DR b p _).mono ?_;rintro e i ⟨rfl,hw⟩;have d:Err nO w i:=by rw[hw];exact Err.mk' nO w
 have a:=d.c;have h:=d.f;have g:=aA d;have o:=GZ i 0 0 none k j rfl;clear d hw;go_wp2
 refine leaves_cons (f:=118) (args:=#[.pointer (some ⟨w.heap.size,0,none⟩)]) (by simp) (by simp[go_sem]) ?_;refine(DQ ⟨w.heap.size,0,none⟩ 0 _ ?_ ?_).mono ?_
 ·simp[go_sem,a]
 ·simp[go_sem,h]
 rintro e q n ⟨rfl,rfl,rfl⟩;refine⟨.int .i64 0,?_,rfl,g.o.done2 _ _⟩;simp[results,results69,go_sem,a]
theorem Blk.new(w:World)(m:Nat):Blk (w.alloc (.cells (cE (bF m fun _=>0)) 5)) w.heap.size m fun _=>0:=⟨fun _ _=>Nat.zero_lt_succ 255,nH _ _⟩
theorem Blk.lay{w h m g}(H:Blk w h m g)(a:Nat->Nat)(b:∀ i,i<m->a i<256):
  Blk (w.setRow h ((cE (bF m g)).toList.take 0 ++ dO m a ++ (cE (bF m g)).toList.drop (0 + (dO m a).length)).toArray) h m a:=by
 refine⟨b,?_⟩;rw[setRow_heap w h _ _ _ _ H.2,xM (bF m g) 0 m a (dO m a) rfl];have:Go.Proofs.YtfmgnljlkdmndaaGreatDoor.M.lay (bF m g) 0 m a=bF m a:=by simp[Go.Proofs.YtfmgnljlkdmndaaGreatDoor.M.lay,bF]
 rw[this]
theorem Read_in(b g bS R lim n f)(p k:Nat)(w:World)(h:SpA w b (some g) bS R lim n f)(F : 0<k)(r:In bS n p k):
  Calls prog 36 #[.pointer (some ⟨b,0,none⟩),.int .u64 p,.int .u64 k] w fun e L=>e=.returned (.tuple #[.slice (some ⟨w.heap.size+1,0,none⟩) k k,.int .i64 0])/\Blk L (w.heap.size+1) k (fun i=>f (p-bS+i))/\Kt nO w L:=by
 have Q:=mkf;obtain⟨o,J⟩:=xe (p-bS);have N:o+k<=n:=by obtain⟨h1,h2⟩:=r;omega
 have P:=h.nle;have lr:=h.cfg.lr;have Z:k<=4194304:=by omega
 rw[<-J];have S:=aA J;have K:=aA h;have Y:=aA r;clear h J r P lr;go_enter_defers func36,ntmps36;go_wp2_with fail;refine(kH b g bS R lim n f p k _ (K.o.keep (Err.mk' nO w).k) F Y.o).mono ?_;rintro e B ⟨⟨c,rfl⟩,m,hw⟩;have u:Err nO w B:=by rw[hw];exact(Err.mk' nO w).drewN m
 rw[<-S.o];have y:=u.sz;have C:=tW k (by omega) B;have A:=Blk.new B k;have a:=(Kt.refl nO B).alloc (.cells (cE (bF k fun _=>0)) 5);obtain⟨E,z⟩:=xe (B.alloc (.cells (cE (bF k fun _=>0)) 5));rw[<-z] at C A a;rw[y] at C A;have hS:=K.o.keep ((u.k.trans (U:=nO) a (fun _ _ x=>x) (fun _ _ x=>x)));have G:=wN E (w.heap.size+1) 0 k k ⟨g,o,none⟩ c _ (fun i=>f (o+i)) A.2 (by rw[xQ,IB];omega) (fun j hj=>by rw[Addr.add_lit];exact hS.cg _ (by omega));have q:=A.lay (fun i=>f (o+i)) (fun i hi=>hS.f256 _ (by omega));have d:=(Kt.refl (fun x=>x=w.heap.size + 1) E).setRow (fun _=>rfl) ((cE (bF k fun _=>0)).toList.take 0 ++ dO k (fun i=>f (o + i)) ++ (cE (bF k fun _=>0)).toList.drop (0 + (dO k fun i=>f (o + i)).length)).toArray;obtain⟨D,t⟩:=xe (E.setRow (w.heap.size + 1) ((cE (bF k fun _=>0)).toList.take 0 ++ dO k (fun i=>f (o + i)) ++ (cE (bF k fun _=>0)).toList.drop (0 + (dO k fun i=>f (o + i)).length)).toArray);rw[<-t] at G q d;have l:E.heap[w.heap.size]?=some (.cells #[.int .i64 0] 28 (0,0)):=(a.block _ (by omega) (fun x=>x)).trans u.he;have s:D.heap[w.heap.size]?=some (.cells #[.int .i64 0] 28 (0,0)):=(d.block _ (Array.getElem?_eq_some_iff.1 l).1 (by omega)).trans l;have v:D.cell? ⟨w.heap.size,0,none⟩=some (.int .i64 0):=by simp[World.cell?,s]
 have I:D.frozen? ⟨w.heap.size,0,none⟩=false:=by simp[World.frozen?,s]
 have T:=aA ((u.k.trans (U:=nO) a (fun _ _ x=>x) (fun _ _ x=>x)).trans (U:=nO) d (fun _ _ x=>x) (fun x hx e=>by omega));have X:=aA q;clear u hS z t hw A a d l s q y;go_wp2
 refine leaves_cons (f:=73) (args:=#[.pointer (some ⟨w.heap.size,0,none⟩)]) (by simp) (by simp[go_sem]) ?_;refine(AG ⟨w.heap.size,0,none⟩ 0 _ ?_ ?_).mono ?_
 ·simp[go_sem,v]
 ·simp[go_sem,I]
 rintro e u' V ⟨rfl,rfl,rfl⟩;refine⟨.tuple #[.slice (some ⟨w.heap.size+1,0,none⟩) k k,.int .i64 0],?_,rfl,?_,?_⟩
 ·simp[results,results36,go_sem,v]
 ·exact X.o.kept (((Kt.refl (fun x=>x=w.heap.size) D).setCell (fun _=>rfl) _).setCell (fun _=>rfl) _) (by omega)
 ·exact(T.o.setCell (fun h=>absurd h (dc _)) _).setCell (fun h=>absurd h (dc _)) _
theorem Read_zero(b:Nat)(p:Int)(w:World):
  Calls prog 36 #[.pointer (some ⟨b,0,none⟩),.int .u64 p,.int .u64 0] w fun e r=>e=.returned (.tuple #[.slice (some ⟨w.heap.size+1,0,none⟩) 0 0,.int .i64 0])/\Kt nO w r/\w.heap.size+1<r.heap.size:=by
 have s:=mkf;go_enter_defers func36,ntmps36;go_wp2_with fail;refine(DR b p _).mono ?_;rintro e c ⟨rfl,hw⟩;have n:Err nO w c:=by rw[hw];exact Err.mk' nO w
 have l:=n.sz;have m:(Instr.makeSlice 34 (.int .i64 0) (.int .i64 0)).run prog c=.ok (.slice (some ⟨c.heap.size,0,none⟩) 0 0) (c.alloc (.cells (cE (bF 0 fun _=>0)) 5)):=tW 0 (by omega) c;have a:=(Kt.refl nO c).alloc (.cells (cE (bF 0 fun _=>0)) 5);have d:(c.alloc (.cells (cE (bF 0 fun _=>0)) 5)).heap.size=w.heap.size+2:=by simp;omega
 obtain⟨o,i⟩:=xe (c.alloc (.cells (cE (bF 0 fun _=>0)) 5));rw[<-i] at m a d;rw[l] at m;have y:=GZ o 0 0 (some ⟨w.heap.size+1,0,none⟩) none 0 rfl;have g:o.heap[w.heap.size]?=some (.cells #[.int .i64 0] 28 (0,0)):=(a.block _ (by omega) (fun x=>x)).trans n.he;have j:o.cell? ⟨w.heap.size,0,none⟩=some (.int .i64 0):=by simp[World.cell?,g]
 have q:o.frozen? ⟨w.heap.size,0,none⟩=false:=by simp[World.frozen?,g]
 have t:=aA (n.k.trans (U:=nO) a (fun _ _ x=>x) (fun _ _ x=>x));have v:=aA d;clear n i hw a g l d;go_wp2
 refine leaves_cons (f:=73) (args:=#[.pointer (some ⟨w.heap.size,0,none⟩)]) (by simp) (by simp[go_sem]) ?_;refine(AG ⟨w.heap.size,0,none⟩ 0 _ ?_ ?_).mono ?_
 ·simp[go_sem,j]
 ·simp[go_sem,q]
 rintro e z u ⟨rfl,rfl,rfl⟩;refine⟨.tuple #[.slice (some ⟨w.heap.size+1,0,none⟩) 0 0,.int .i64 0],?_,rfl,?_,?_⟩
 ·simp[results,results36,go_sem,j]
 ·exact(t.o.setCell (fun h=>absurd h (dc _)) _).setCell (fun h=>absurd h (dc _)) _
 ·simp
  have:=v.o;omega
theorem zgA(w:World)(g n cap R:Nat)(a:Array Value)(hg:w.heap[g]?=some (.cells a 5 (0,0)))(o:a.size=cap)(p : 0<R)(hR:R<=1048576)(c:n+R<=cap)(q:TypeId):
  (Builtin.append_ #[34,22] q #[.slice (some ⟨g,0,none⟩) n cap,.int .u64 R]).run prog w=.ok (.slice (some ⟨g,0,none⟩) (n + R) cap) (w.setRow g (a.toList.take n ++ dO R (fun _=>0) ++ a.toList.drop (n + (dO R fun _=>0).length)).toArray):=by
 obtain⟨i,hi,f,m,l⟩:=info_parts nP;have hw:IntKind.i64.wrap (R:Int)=R:=by rw[IntKind.wrap_i64];omega
 have e:¬((R:Int)<0):=by omega
 have d:¬(281474976710656<(R:Int)*(i.bytes:Int)):=by rw[l];omega
 have k:(Builtin.zeroCells (Value.int .u8 0).cells R).toList=dO R fun _=>0:=by
  simp only[Builtin.zeroCells,dO];apply List.ext_getElem
  ·simp[Value.cells]
  ·intro j s t;have:j%1=0:=Nat.mod_one j;simp[Value.cells,this]
 have b:=run_storeCells_at prog g n 5 (dO R fun _=>0) 0 a w hg (by rw[nV];omega) (by intro v r;obtain⟨_,_,rfl⟩:=List.mem_map.1 r;rfl)
 simp only[Nat.add_zero] at b;simp[Builtin.append_,run_underlying Tryz.underlying34,run_underlying Tryz.underlying22,sizeOf,typeInfo,zeroValue,hi,f,m,asInt,asIntOf,hw,e,d,c,Addr.add_lit,k,b];intro h;omega
def more(f:Nat->Nat)(n:Nat):Nat->Nat:=fun i=>if i<n then f i else 0
structure After(w w':World)(b:Nat)(ao:Option Nat)(g' cap' bS R lim n:Nat)(f:Nat->Nat):Prop where
 sp:SpA (w'.setCell ⟨b,3,none⟩ (.slice (some ⟨g',0,none⟩) (n+R) cap')) b (some g') bS R lim (n+R) (more f n)
 k:Kt (own b ao) w w'
 g:ao=some g'\/w.heap.size<=g'
theorem EH{w e:World}{b ao g' cap' bS R lim n f cap}(hc:Cfg bS R lim)(h:∃ k,n=k*R/\k+1<=lim)
  (hb:e.heap[b]?=some (.cells #[.int .u64 bS,.int .u64 R,.int .i64 lim,.slice (adr ao) n cap] 131 (0,0)))
  (a:g'≠b) (d:List Nat) (g:d.length=cap') (hg:e.heap[g']?=some (.cells (cE d) 5 (0,0))) (l:n+R<=cap') (hf:∀ i,i<n+R->d.getD i 0=more f n i) (c:∀ i,d.getD i 0<256)
  (k:Kt (own b ao) w e) (j:ao=some g'\/w.heap.size<=g'):After w e b ao g' cap' bS R lim n f:=by
 refine⟨⟨hc,?_,cap',?_,a,d,g,?_,l,hf,c⟩,k,j⟩
 ·obtain⟨k,rfl,m⟩:=h;exact⟨k+1,by rw[av,aL],m⟩
 ·simp only[World.setCell];rw[Array.getElem?_modify,ae rfl,hb];simp[adr]
 ·rw[Below.heap_setCell _ _ _ _ a];exact hg
theorem KC(m:Nat):(Builtin.zeroCells (Value.int .u8 0).cells m)=cE (List.replicate m 0):=by
 simp only[Builtin.zeroCells,cE];apply Array.ext
 ·simp[Value.cells]
 ·intro j a b;have:j%1=0:=Nat.mod_one j;simp[Value.cells,this]
theorem VT(m i:Nat):(List.replicate m 0).getD i 0=0:=by simp[List.getD,List.getElem?_replicate];split <;> rfl
theorem zfZ(w:World)(b ao bS R lim n f cap)(hc:Cfg bS R lim)(y:∃ k,n=k*R/\k+1<=lim)
  (hb:w.heap[b]?=some (.cells #[.int .u64 bS,.int .u64 R,.int .i64 lim,.slice (adr ao) n cap] 131 (0,0))) (U:uR w b ao n cap f):
  ∃ D c A,(∀ C,(Builtin.append_ #[34,22] C #[.slice (adr ao) n cap,.int .u64 R]).run prog w=.ok (.slice (some ⟨D,0,none⟩) (n+R) c) A)/\After w A b ao D c bS R lim n f/\
   A.heap[b]?=some (.cells #[.int .u64 bS,.int .u64 R,.int .i64 lim,.slice (adr ao) n cap] 131 (0,0)):=by
 obtain⟨i,hi,N,T,F⟩:=info_parts nP;have r1:=hc.r1;have r2:=hc.r2;have X:n+R<=4194304:=by obtain⟨k,rfl,V⟩:=y;have J:=hc.lr;have Y:(k+1)*R<=lim*R:=ak _ V;rw[av,aL] at Y;omega
 have s:b<w.heap.size:=(Array.getElem?_eq_some_iff.1 hb).1
 have m:∀ (a:List Nat),(Builtin.firstCells i.size n (.slice (adr ao) n cap)).run prog w.drew=.ok (cE a) w.drew->a.length=n->(∀ j,j<n->a.getD j 0=f j)->(∀ j,a.getD j 0<256)->cap<n+R->
   ∃ D c A,(∀ C,(Builtin.append_ #[34,22] C #[.slice (adr ao) n cap,.int .u64 R]).run prog w=.ok (.slice (some ⟨D,0,none⟩) (n+R) c) A)/\After w A b ao D c bS R lim n f/\
   A.heap[b]?=some (.cells #[.int .u64 bS,.int .u64 R,.int .i64 lim,.slice (adr ao) n cap] 131 (0,0)):=by
  intro a G p Q z t;have K:=grownCap_ge w (n+R) cap 5;have B:(cE a) ++ Builtin.zeroCells (Value.int .u8 0).cells R ++ Builtin.zeroCells (Value.int .u8 0).cells (grownCap w (n + R) cap 5-(n + R))=cE (a ++ (List.replicate R 0 ++ List.replicate (grownCap w (n + R) cap 5-(n + R)) 0)):=by rw[KC,KC];simp[cE]
  have o:∀ j,(a ++ (List.replicate R 0 ++ List.replicate (grownCap w (n + R) cap 5-(n + R)) 0)).getD j 0=if j<n then a.getD j 0 else 0:=by
   intro j;rw[List.replicate_append_replicate];simp only[List.getD,List.getElem?_append,p];split
   ·rfl
   ·exact VT _ _
  refine⟨w.heap.size,grownCap w (n + R) cap 5,w.drew.alloc (.cells (cE (a ++ (List.replicate R 0 ++ List.replicate (grownCap w (n + R) cap 5-(n + R)) 0))) 5),fun C=>?_,?_,?_⟩
  ·have:=Lib.run_append_grow_zeros (P:=prog) w 34 22 C 5 i (.int .u8 0) .u64 .u64 Tryz.underlying34 Tryz.underlying22 hi N (adr ao) n cap (cE a).toList (by rw[G]) R (by omega) (by omega) t (by omega) (by rw[F];omega) (growslice_fits t (by rw[F];omega));rw[this,<-B]
  ·refine EH (cap:=cap) hc y ?_ (by omega) _ ?_ (nH w.drew _) K ?_ ?_ (((Kt.refl _ w).drew).alloc _) (Or.inr (aj _))
   ·rw[Below.heap_alloc w.drew _ b s];exact hb
   ·simp[p];omega
   ·intro j r;rw[o j];unfold more;split
    ·rename_i h;exact Q j h
    ·rfl
   ·intro j;rw[o j];split
    ·exact z j
    ·decide
  ·rw[Below.heap_alloc w.drew _ b s];exact hb
 cases ao with
 | none=>
  obtain⟨rfl,rfl⟩:=U;exact m [] (by simp[adr,run_firstCells_none,cE]) rfl (fun j r=>by omega) (fun j=>by simp) (by omega)
 | some g=>
  obtain⟨u,l,I,hg,a0,hf,q⟩:=U;by_cases d:n+R<=cap
  ·have L:=zgA w g n cap R (cE l) hg (by rw[xQ];exact I) (by omega) (by omega) d;have hw:(cE l).toList.take n ++ dO R (fun _=>0) ++ (cE l).toList.drop (n + (dO R fun _=>0).length)=(cE (Go.Proofs.YtfmgnljlkdmndaaGreatDoor.M.lay l n R fun _=>0)).toList:=by
    rw[<-xM l n R (fun _=>0) (dO R fun _=>0) rfl]
   refine⟨g,cap,_,L,?_,?_⟩
   ·refine EH (cap:=cap) hc y ?_ u (Go.Proofs.YtfmgnljlkdmndaaGreatDoor.M.lay l n R fun _=>0) ?_ ?_ d ?_ ?_ ((Kt.refl _ w).setRow (fun _=>Or.inr rfl) _) (Or.inl rfl)
    ·rw[setRow_other _ _ _ _ (fun e=>u e.symm)];exact hb
    ·rw[DL _ _ _ _ (by omega)];exact I
    ·rw[setRow_heap w g _ _ _ _ hg,hw]
    ·intro j r;rw[sU _ _ _ _ (by omega)];unfold more;by_cases J:j<n
     ·rw[ac (by omega),ae J];exact hf j J
     ·rw[ae (by omega),ac J]
    ·intro j;rw[sU _ _ _ _ (by omega)];split
     ·decide
     ·exact q j
   ·rw[setRow_other _ _ _ _ (fun e=>u e.symm)];exact hb
  ·have S:(l.take n).length=n:=(by simp;omega);have E:∀ j,(l.take n).getD j 0=if j<n then l.getD j 0 else 0:=by
    intro j;simp only[List.getD,List.getElem?_take];split <;> rfl
   refine m (l.take n) ?_ S ?_ ?_ (by omega)
   ·have:=run_firstCells_some (P:=prog) w.drew i.size n ⟨g,0,none⟩ n cap (cE (l.take n)).toList (by rw[T];simp[cE];omega) ?_
    ·simpa [adr] using this
    ·intro j v r;rw[Addr.add_lit];simp[cE,List.getElem?_take] at r;obtain⟨Z,x,hx,rfl⟩:=r;have:w.cell? ⟨g,0+j,none⟩=some (.int .u8 x):=by simp[World.cell?,hg,cE,hx]
     exact this
   ·intro j r;rw[E j,ae r];exact hf j r
   ·intro j;rw[E j];split
    ·exact q j
    ·decide
theorem zc2{g:Array Oper}{o:Oper}{a:Act}{w:World}{K:Act->World->Prop}{Q:Exit->Act->World->Prop}{E:Prop}(m:o.guard=none)(s x:Operand)
  (l:o.op=Op.call { callee:=Callee.builtin Builtin.append,args:=#[s,x],argTypes:=#[34,22] }) (b ao bS R lim n f cap) (hc:Cfg bS R lim) (j:∃ k,n=k*R/\k+1<=lim)
  (hb:w.heap[b]?=some (.cells #[.int .u64 bS,.int .u64 R,.int .i64 lim,.slice (adr ao) n cap] 131 (0,0))) (p:uR w b ao n cap f)
  (hs:a.eval s=.slice (adr ao) n cap) (hx:a.eval x=.int .u64 R)
  (hK:∀ i c e,Hd (After w e b ao i c bS R lim n f)->e.cell? ⟨b,3,none⟩=some (.slice (adr ao) n cap)->e.frozen? ⟨b,3,none⟩=false->K (a.put o.dst (.slice (some ⟨i,0,none⟩) (n+R) c)) e):
  if Region.wanted o (yielded g a.tmps)=true then Oper.wp prog o a w K Q else E:=by
 have hw:Region.wanted o (yielded g a.tmps)=true:=by simp[Region.wanted,m]
 rw[ae hw];obtain⟨i,c,e,d,q,h⟩:=zfZ w b ao bS R lim n f cap hc j hb p;have d:=d o.type;unfold Oper.wp;simp[execOp,l,resolve,invoke,builtin,hs,hx,d,Result.andThen];exact hK i c e q (by simp[World.cell?,h]) (by simp[World.frozen?,h])
end Go.Proofs.YtfmgnljlkdmndaaGreatDoor.M
