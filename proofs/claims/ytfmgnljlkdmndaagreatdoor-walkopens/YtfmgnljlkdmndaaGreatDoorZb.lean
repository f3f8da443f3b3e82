import Derived.Test.YtfmgnljlkdmndaaGreatDoorProg
import Derived.WalkKit
import Derived.WalkSpells
import Derived.WalkLawsBesides
import Derived.Outline
import Derived.Laws.CopyOwn
import Derived.RegionTactic
import Derived.ChangeAlike
import Derived.Deep.QuietTactic
import Derived.BigQuiet
import Derived.Defers
import Derived.Recover
import Derived.Lib.AppendZerosOnto
import Derived.Deep.RegionLaw
import Derived.Laws.Bits64b
import Derived.Test.YtfmgnljlkdmndaaGreatDoorHd
set_option maxRecDepth 1000000
set_option maxHeartbeats 0
namespace Go.Proofs.YtfmgnljlkdmndaaGreatDoor
namespace M
open Tryz RowKit
set_option linter.unusedVariables false
theorem aA{p:Prop}(h:p):Hd p:=h
theorem dX{k:IntKind}{a b:Int}(h:a=b):Ending.returned (.int k a)=.returned (.int k b):=by rw[h]
theorem cN{a b:Bool}(h:a=b):Ending.returned (.bool a)=.returned (.bool b):=by rw[h]
theorem wrap_u64(n:Int):IntKind.u64.wrap n=n%2 ^ 64:=IntKind.wrap_u64 n
structure Kt(S:Nat->Prop)(w w':Wd):Prop where
 os:w'.os=w.os
 tape:w'.tape=w.tape
 output:w'.output=w.output
 size:w.heap.size<=w'.heap.size
 block:∀ k,k<w.heap.size->¬S k->w'.heap[k]?=w.heap[k]?
theorem Kt.refl(S:Nat->Prop)(w:Wd):Kt S w w:=⟨rfl,rfl,rfl,aj _,fun _ _ _=>rfl⟩
theorem Kt.trans{S T U:Nat->Prop}{a b c:Wd}(h:Kt S a b)(k:Kt T b c)(hS:∀ x,x<a.heap.size->S x->U x)(e:∀ x,x<a.heap.size->T x->U x):Kt U a c:=
 ⟨k.os.trans h.os,k.tape.trans h.tape,k.output.trans h.output,an h.size k.size,fun i hi d=>(k.block i (bg hi h.size) (fun x=>d (e i hi x))).trans (h.block i hi (fun x=>d (hS i hi x)))⟩
theorem Kt.mono{S T:Nat->Prop}{a b:Wd}(h:Kt S a b)(hS:∀ x,x<a.heap.size->S x->T x):Kt T a b:=
 ⟨h.os,h.tape,h.output,h.size,fun i hi c=>h.block i hi (fun x=>c (hS i hi x))⟩
theorem Kt.drew{S:Nat->Prop}{a b:Wd}(h:Kt S a b):Kt S a b.drew:=⟨h.os,h.tape,h.output,h.size,h.block⟩
theorem Kt.drewN{S:Nat->Prop}{a b:Wd}(h:Kt S a b)(n:Nat):Kt S a (b.drewN n):=⟨h.os,h.tape,h.output,h.size,h.block⟩
theorem Kt.alloc{S:Nat->Prop}{a b:Wd}(h:Kt S a b)(o:Obj):Kt S a (b.alloc o):=
 ⟨h.os,h.tape,h.output,by simp;have:=h.size;omega,fun i hi c=>by rw[Below.heap_alloc _ _ _ (by have:=h.size;omega)];exact h.block i hi c⟩
theorem Kt.setCell{S:Nat->Prop}{a b:Wd}(h:Kt S a b){p:Addr}(hp:p.block<a.heap.size->S p.block)(u:Vl):Kt S a (b.setCell p u):=
 ⟨h.os,h.tape,h.output,by simp;exact h.size,fun i hi c=>by rw[Below.heap_setCell b p u i (fun e=>c (by rw[e];exact hp (e▸hi)))];exact h.block i hi c⟩
theorem Kt.setRow{S:Nat->Prop}{a b:Wd}(h:Kt S a b){g:Nat}(hg:g<a.heap.size->S g)(cs:Array Vl):Kt S a (b.setRow g cs):=
 ⟨h.os,h.tape,h.output,by simp[World.setRow];exact h.size,fun i hi c=>by rw[setRow_other b g i _ (fun e=>c (by rw[e];exact hg (e▸hi)))];exact h.block i hi c⟩
theorem oV{w:Wd}{p:Addr}{v:Vl}(h:w.cell? p=some v):p.block<w.heap.size:=by
 rcases du p.block w.heap.size with a|a
 ·exact a
 ·exfalso
  simp[World.cell?,Array.getElem?_eq_none a] at h
theorem Kt.cell{S:Nat->Prop}{a b:Wd}(h:Kt S a b){p:Addr}{v:Vl}(hp:¬S p.block)(hc:a.cell? p=some v):b.cell? p=some v:=by rw[<-hc];exact World.cell?_of_block (h.block _ (oV hc) hp)
theorem nH(w:Wd)(o:Obj):(w.alloc o).heap[w.heap.size]?=some o:=by
 show(w.heap.push o)[w.heap.size]?=_
 simp
def cC(rs:List Nat):Array Vl:=(rs.map fun (x:Nat)=>Value.int .u8 x).toArray
theorem xU(a:List Nat):(cC a).size=a.length:=by simp[cC]
def own(b:Nat)(ao:Option Nat):Nat->Prop:=fun x=>x=b\/ao=some x
def nO:Nat->Prop:=fun _=>False
theorem kz(w:Wd):Kt nO w w:=Kt.refl _ _
structure Cfg(bS R dl:Nat):Prop where
 b1 : 1<=bS
 l1 : 1<=dl
 l2:dl<=64
 r1 : 4096<=R
 r2:R<=1048576
 lr:dl*R<=4194304
 be:bS+dl*R<=9223372036854775808
def uT(w:Wd)(b:Nat)(ao:Option Nat)(n cap:Nat)(f:Nat->Nat):Prop:=
 match ao with
 | none=>n=0/\cap=0
 | some g=>g≠b/\∃ rs:List Nat,rs.length=cap/\w.heap[g]?=some (.cells (cC rs) 5 (0,0))/\n<=cap/\(∀ i,i<n->rs.getD i 0=f i)/\∀ i,rs.getD i 0<256
def adr(ao:Option Nat):Option Addr:=ao.map fun g=>⟨g,0,none⟩
structure SpA(w:Wd)(b:Nat)(ao:Option Nat)(bS R dl n:Nat)(f:Nat->Nat):Prop where
 cfg:Cfg bS R dl
 kn:∃ k,n=k*R/\k<=dl
 ex:∃ cap,w.heap[b]?=some (.cells #[.int .u64 bS,.int .u64 R,.int .i64 dl,.slice (adr ao) n cap] 131 (0,0))/\uT w b ao n cap f
theorem SpA.blt{w b ao bS R dl n f}(h:SpA w b ao bS R dl n f):b<w.heap.size:=by obtain⟨cap,hb,_⟩:=h.ex;exact(am.1 hb).1
theorem SpA.lu{w b g bS R dl n f}(h:SpA w b (some g) bS R dl n f):g<w.heap.size:=by obtain⟨cap,_,_,a,_,hg,_⟩:=h.ex;exact(am.1 hg).1
theorem SpA.fa{w b ao bS R dl n f}(h:SpA w b ao bS R dl n f)(x:Nat)(hx:own b ao x):x<w.heap.size:=by
 rcases hx with rfl|rfl
 ·exact h.blt
 ·exact h.lu
theorem SpA.fk{w b ao bS R dl n f}(h:SpA w b ao bS R dl n f):n<=dl*R:=by obtain⟨k,rfl,a⟩:=h.kn;exact ak _ a
theorem SpA.kept{w w' b ao bS R dl n f}{S:Nat->Prop}(h:SpA w b ao bS R dl n f)(k:Kt S w w')(hS:∀ x,own b ao x->¬S x):SpA w' b ao bS R dl n f:=by
 have hl:=h.fa;obtain⟨cap,hb,c⟩:=h.ex;refine⟨h.cfg,h.kn,cap,(k.block b (hl b (Or.inl rfl)) (hS b (Or.inl rfl))).trans hb,?_⟩
 cases ao with
 | none=>exact c
 | some g=>obtain⟨a,i,d,j,e⟩:=c;exact⟨a,i,d,(k.block g (hl g (Or.inr rfl)) (hS g (Or.inr rfl))).trans j,e⟩
theorem SpA.dk{w w' b ao bS R dl n f}(h:SpA w b ao bS R dl n f)(k:Kt nO w w'):SpA w' b ao bS R dl n f:=
 h.kept k (fun _ _ x=>x)
theorem SpA.c0{w b ao bS R dl n f}(h:SpA w b ao bS R dl n f):w.cell? ⟨b,0,none⟩=some (.int .u64 bS):=by obtain⟨cap,hb,_⟩:=h.ex;simp[World.cell?,hb]
theorem SpA.c1{w b ao bS R dl n f}(h:SpA w b ao bS R dl n f):w.cell? ⟨b,1,none⟩=some (.int .u64 R):=by obtain⟨cap,hb,_⟩:=h.ex;simp[World.cell?,hb]
theorem SpA.c2{w b ao bS R dl n f}(h:SpA w b ao bS R dl n f):w.cell? ⟨b,2,none⟩=some (.int .i64 dl):=by obtain⟨cap,hb,_⟩:=h.ex;simp[World.cell?,hb]
theorem SpA.c3{w b ao bS R dl n f}(h:SpA w b ao bS R dl n f):∃ cap,w.cell? ⟨b,3,none⟩=some (.slice (adr ao) n cap):=by obtain⟨cap,hb,_⟩:=h.ex;exact⟨cap,by simp[World.cell?,hb]⟩
theorem SpA.fb{w b ao bS R dl n f}(h:SpA w b ao bS R dl n f)(i:Nat):w.frozen? ⟨b,i,none⟩=false:=by obtain⟨cap,hb,_⟩:=h.ex;simp[World.frozen?,hb]
theorem regions_any(b ao bS R dl n f)(w:Wd)(h:SpA w b ao bS R dl n f):Calls prog 32 #[.pointer (some ⟨b,0,none⟩)] w fun e c=>e=.returned (.int .i64 ((n/R:Nat):Int))/\∃ m,c=w.drewN m:=by
 obtain⟨cap,i⟩:=h.c3;have g:=h.c1;have a:=h.fk;have hc:=h.cfg;have r1:=hc.r1;have r2:=hc.r2;have d:n<=4194304:=an a hc.lr;have j:¬(R:Int)=0:=by omega
 have E:=aA (show wrap64 ((n:Int)/(R:Int))=((n/R:Nat):Int)by
  have hq:n/R<=n:=dg _ _;rw[<-Int.natCast_ediv];generalize n/R=q at hq;unfold wrap64;omega)
 clear h hc a;go_enter func32,ntmps32;go_wp2
 go_quiet (fail)
 go_wp2
 go_ret;exact⟨dX E.o,_,rfl⟩
theorem end_any(b ao bS R dl n f)(w:Wd)(h:SpA w b ao bS R dl n f):Calls prog 76 #[.pointer (some ⟨b,0,none⟩)] w fun e c=>e=.returned (.int .u64 ((bS+n:Nat):Int))/\∃ m,c=w.drewN m:=by
 obtain⟨cap,i⟩:=h.c3;have h0:=h.c0;have a:=h.fk;have hc:=h.cfg;have be:=hc.be;have lr:=hc.lr;have g:n<=4194304:=an a hc.lr;have d:bS+n<=9223372036854775808:=by omega
 have E:=aA (show(bS:Int)+(n:Int)=((bS+n:Nat):Int)by simp);clear h hc a lr be;go_enter func76,ntmps76;go_wp2
 go_quiet (fail)
 go_wp2
 go_ret;exact⟨dX E.o,_,rfl⟩
theorem DM(b:Nat)(p:Int)(w:Wd):Calls prog 75 #[.pointer (some ⟨b,0,none⟩),.int .u64 p,.int .u64 0] w fun e a=>e=.returned (.slice none 0 0)/\a=w:=by
 go_enter func75,ntmps75;go_wp2
 go_ret;exact⟨rfl,rfl⟩
def In(bS n p k:Nat):Prop:=bS<=p/\p+k<=bS+n
theorem kH(b g bS R dl n f)(p k:Nat)(w:Wd)(h:SpA w b (some g) bS R dl n f)(D : 0<k)(i:In bS n p k):Calls prog 75 #[.pointer (some ⟨b,0,none⟩),.int .u64 p,.int .u64 k] w fun e r=>(∃ c,e=.returned (.slice (some ⟨g,p-bS,none⟩) k c))/\∃ m,r=w.drewN m:=by
 have q:=h;have h0:=h.c0;have u:=h.fk;have hc:=h.cfg;have be:=hc.be;have lr:=hc.lr;obtain⟨cap,hb,_,A,j,hg,y,_,_⟩:=h.ex;have B:w.cell? ⟨b,3,none⟩=some (.slice (some ⟨g,0,none⟩) n cap):=by simp[World.cell?,hb,adr]
 obtain⟨d,l⟩:=i;have t:=aA q;obtain⟨o,rfl⟩:∃ o,p=bS+o:=⟨p-bS,by omega⟩;have a:bS+o-bS=o:=by omega
 rw[a];have C:o+k<=n:=by omega
 have z:o+k<=cap:=by omega
 have v:n<=4194304:=by omega
 have x:bS+n<=9223372036854775808:=by omega
 clear h hc q lr be u hg j hb d l a;go_enter func75,ntmps75;go_wp2_with (go_at_call 76;refine(end_any b (some g) bS R dl n f _ t.o).mono ?_;rintro e r ⟨rfl,m,rfl⟩)
 go_ret;refine⟨⟨cap-o,?_⟩,_,rfl⟩;show Ending.returned (.slice (some ⟨g,bS+o-bS,none⟩) (bS+o-bS+k-(bS+o-bS)) (cap-(bS+o-bS)))=_
 have a:bS+o-bS=o:=by omega
 have s:o+k-o=k:=by omega
 rw[a,s]
def zkm:List PanicEntry:=[{ v:=.iface 28 (.int .i64 4),recovered:=false }]
theorem sG(b ao bS R dl n f)(p k:Nat)(w:Wd)(h:SpA w b ao bS R dl n f)(j:p<18446744073709551616)(i:k<18446744073709551616)(u : 0<k)(a:¬In bS n p k):Calls prog 75 #[.pointer (some ⟨b,0,none⟩),.int .u64 p,.int .u64 k] w fun e c=>e=.panicked zkm/\∃ m,c=w.drewN m:=by
 have h0:=h.c0;have g:=h.fk;have hc:=h.cfg;have be:=hc.be;have lr:=hc.lr;have d:=aA h;have o:n<=4194304:=by omega
 have q:bS+n<=9223372036854775808:=by omega
 by_cases r:p<bS
 ·clear h hc lr be g a;go_enter func75,ntmps75;go_wp2_with (go_at_call 76;refine(end_any b ao bS R dl n f _ d.o).mono ?_;rintro e c ⟨rfl,m,rfl⟩)
  exact⟨rfl,rfl,_,rfl⟩
 ·by_cases s:bS+n<p
  ·clear h hc lr be g a;go_enter func75,ntmps75;go_wp2_with (go_at_call 76;refine(end_any b ao bS R dl n f _ d.o).mono ?_;rintro e c ⟨rfl,m,rfl⟩)
   exact⟨rfl,rfl,_,rfl⟩
  ·have l:bS+n-p<k:=(by unfold In at a;omega);have t:(bS:Int)+n-p<k:=(by omega);clear h hc lr be g a l;go_enter func75,ntmps75;go_wp2_with (go_at_call 76;refine(end_any b ao bS R dl n f _ d.o).mono ?_;rintro e c ⟨rfl,m,rfl⟩)
   exact⟨rfl,rfl,_,rfl⟩
theorem nU(w:Wd):Calls prog 74 #[.nilIface] w fun e a=>e=.returned (.int .i64 0)/\a=w:=by
 go_enter func74,ntmps74;go_wp2
 go_ret;exact⟨rfl,rfl⟩
theorem LP(t:TypeId)(v:Vl)(w:Wd):Calls prog 74 #[.iface t v] w fun e a=>e=.returned (.int .i64 4)/\a=w:=by
 go_enter func74,ntmps74;go_wp2
 go_ret;exact⟨rfl,rfl⟩
theorem PZ(p:Addr)(x:Int)(u:TypeId)(pv:Vl)(a:List PanicEntry)(w:Wd)(hc:w.cell? p=some (.int .i64 x))(hz:w.frozen? p=false):CallsD prog 250 #[.pointer (some p)] (.panicking ({ v:=.iface u pv,recovered:=false } :: a)) w fun e d b=>
   e=.returned (.tuple #[])/\d=.panicking ({ v:=.iface u pv,recovered:=true } :: a)/\b=w.setCell p (.int .i64 4):=by
 refine callsD_of_wpS func250 rfl fun c₀ cs f=>?_
 apply wpS_region
 simp[wpOpsS,go_sem,recoverD,f,ntmps250];refine(LP _ _ _).mono ?_;rintro e b ⟨rfl,rfl⟩;simp[go_sem,hc,hz,bodyPostS,results,results250]
theorem PY(p:Addr)(x:Int)(w:Wd)(hc:w.cell? p=some (.int .i64 x))(hz:w.frozen? p=false):CallsD prog 250 #[.pointer (some p)] .returning w fun e b a=>e=.returned (.tuple #[])/\b=.returning/\a=w.setCell p (.int .i64 0):=by
 refine callsD_of_wpS func250 rfl fun c₀ cs d=>?_
 apply wpS_region
 simp[wpOpsS,go_sem,recoverD,d,ntmps250];refine(nU _).mono ?_;rintro e a ⟨rfl,rfl⟩
 cases c₀
 simp_all [go_sem,bodyPostS,results,results250]
theorem PX(p:Addr)(x:Int)(u:TypeId)(pv:Vl)(a:List PanicEntry)(w:Wd)(hc:w.cell? p=some (.int .i64 x))(hz:w.frozen? p=false):CallsD prog 255 #[.pointer (some p)] (.panicking ({ v:=.iface u pv,recovered:=false } :: a)) w fun e d b=>
   e=.returned (.tuple #[])/\d=.panicking ({ v:=.iface u pv,recovered:=true } :: a)/\b=w.setCell p (.int .i64 4):=by
 refine callsD_of_wpS func255 rfl fun c₀ cs f=>?_
 apply wpS_region
 simp[wpOpsS,go_sem,recoverD,f,ntmps255];refine(LP _ _ _).mono ?_;rintro e b ⟨rfl,rfl⟩;simp[go_sem,hc,hz,bodyPostS,results,results255]
theorem PV(p:Addr)(x:Int)(w:Wd)(hc:w.cell? p=some (.int .i64 x))(hz:w.frozen? p=false):CallsD prog 255 #[.pointer (some p)] .returning w fun e b a=>e=.returned (.tuple #[])/\b=.returning/\a=w.setCell p (.int .i64 0):=by
 refine callsD_of_wpS func255 rfl fun c₀ cs d=>?_
 apply wpS_region
 simp[wpOpsS,go_sem,recoverD,d,ntmps255];refine(nU _).mono ?_;rintro e a ⟨rfl,rfl⟩
 cases c₀
 simp_all [go_sem,bodyPostS,results,results255]
theorem zkn(p:Addr)(x:Int)(w:Wd)(hc:w.cell? p=some (.int .i64 x))(hz:w.frozen? p=false):CallsD prog 248 #[.pointer (some p)] .returning w fun e b a=>e=.returned (.tuple #[])/\b=.returning/\a=w.setCell p (.int .i64 0):=by
 refine callsD_of_wpS func248 rfl fun c₀ cs d=>?_
 apply wpS_region
 simp[wpOpsS,go_sem,recoverD,d,ntmps248];refine(nU _).mono ?_;rintro e a ⟨rfl,rfl⟩
 cases c₀
 simp_all [go_sem,bodyPostS,results,results248]
theorem PS(p:Addr)(x:Int)(w:Wd)(hc:w.cell? p=some (.int .i64 x))(hz:w.frozen? p=false):CallsD prog 110 #[.pointer (some p)] .returning w fun e b a=>e=.returned (.tuple #[])/\b=.returning/\a=w.setCell p (.int .i64 0):=by
 refine callsD_of_wpS func110 rfl fun c₀ cs d=>?_
 apply wpS_region
 simp[wpOpsS,go_sem,recoverD,d,ntmps110];refine(nU _).mono ?_;rintro e a ⟨rfl,rfl⟩
 cases c₀
 simp_all [go_sem,bodyPostS,results,results110]
theorem PR(p:Addr)(x:Int)(w:Wd)(hc:w.cell? p=some (.int .i64 x))(hz:w.frozen? p=false):CallsD prog 176 #[.pointer (some p)] .returning w fun e b a=>e=.returned (.tuple #[])/\b=.returning/\a=w.setCell p (.int .i64 0):=by
 refine callsD_of_wpS func176 rfl fun c₀ cs d=>?_
 apply wpS_region
 simp[wpOpsS,go_sem,recoverD,d,ntmps176];refine(nU _).mono ?_;rintro e a ⟨rfl,rfl⟩
 cases c₀
 simp_all [go_sem,bodyPostS,results,results176]
theorem CV(p:Addr)(x:Int)(w:Wd)(hc:w.cell? p=some (.int .i64 x))(hz:w.frozen? p=false):CallsD prog 73 #[.pointer (some p)] .returning w fun e b a=>e=.returned (.tuple #[])/\b=.returning/\a=w.setCell p (.int .i64 0):=by
 refine callsD_of_wpS func73 rfl fun c₀ cs d=>?_
 apply wpS_region
 simp[wpOpsS,go_sem,recoverD,d,ntmps73];refine(nU _).mono ?_;rintro e a ⟨rfl,rfl⟩
 cases c₀
 simp_all [go_sem,bodyPostS,results,results73]
theorem DL(p:Addr)(x:Int)(w:Wd)(hc:w.cell? p=some (.int .i64 x))(hz:w.frozen? p=false):CallsD prog 118 #[.pointer (some p)] .returning w fun e b a=>e=.returned (.tuple #[])/\b=.returning/\a=w.setCell p (.int .i64 0):=by
 refine callsD_of_wpS func118 rfl fun c₀ cs d=>?_
 apply wpS_region
 simp[wpOpsS,go_sem,recoverD,d,ntmps118];refine(nU _).mono ?_;rintro e a ⟨rfl,rfl⟩
 cases c₀
 simp_all [go_sem,bodyPostS,results,results118]
structure Err(S:Nat->Prop)(w w1:Wd):Prop where
 k:Kt S w w1
 he:w1.heap[w.heap.size]?=some (.cells #[.int .i64 0] 28 (0,0))
 sz:w1.heap.size=w.heap.size+1
theorem Err.mk'(S:Nat->Prop)(w:Wd):Err S w (w.alloc (.cells #[.int .i64 0] 28)):=⟨(Kt.refl _ w).alloc _,nH _ _,by simp⟩
theorem Err.drewN{S:Nat->Prop}{w a:Wd}(h:Err S w a)(m:Nat):Err S w (a.drewN m):=⟨h.k.drewN m,h.he,h.sz⟩
theorem Err.c{S:Nat->Prop}{w a:Wd}(h:Err S w a):a.cell? ⟨w.heap.size,0,none⟩=some (.int .i64 0):=by simp[World.cell?,h.he]
theorem Err.f{S:Nat->Prop}{w a:Wd}(h:Err S w a):a.frozen? ⟨w.heap.size,0,none⟩=false:=by simp[World.frozen?,h.he]
theorem Err.mono{S T:Nat->Prop}{w b:Wd}(h:Err S w b)(a:∀ x,S x->T x):Err T w b:=⟨h.k.mono (fun x _=>a x),h.he,h.sz⟩
theorem Err.setCell{S:Nat->Prop}{w a:Wd}(h:Err S w a){g:Nat}(hg:g<w.heap.size)(hS:S g)(i:Nat)(u:Vl):Err S w (a.setCell ⟨g,i,none⟩ u):=
 ⟨h.k.setCell (fun _=>hS) u,by rw[Below.heap_setCell _ _ _ _ (by simp;omega)];exact h.he,by simp;exact h.sz⟩
theorem Err.setRow{S:Nat->Prop}{w a:Wd}(h:Err S w a){g:Nat}(hg:g<w.heap.size)(hS:S g)(cs:Array Vl):Err S w (a.setRow g cs):=
 ⟨h.k.setRow (fun _=>hS) cs,by rw[setRow_other _ _ _ _ (by omega)];exact h.he,by simp[World.setRow];exact h.sz⟩
theorem Err.done{S:Nat->Prop}{w a:Wd}(h:Err S w a)(u:Vl):Kt S w (a.setCell ⟨w.heap.size,0,none⟩ u):=h.k.setCell (fun h=>absurd h (de _)) _
theorem Err.ia{S:Nat->Prop}{w a:Wd}(h:Err S w a)(u v:Vl):Kt S w ((a.setCell ⟨w.heap.size,0,none⟩ u).setCell ⟨w.heap.size,0,none⟩ v):=(h.done u).setCell (fun h=>absurd h (de _)) _
theorem SpA.cg{w b g bS R dl n f}(h:SpA w b (some g) bS R dl n f)(i:Nat)(hi:i<n):w.cell? ⟨g,i,none⟩=some (.int .u8 ((f i:Nat):Int)):=by obtain⟨cap,hb,_,c,a,hg,d,hf,_⟩:=h.ex;rw[<-hf i hi];simp[World.cell?,hg,cC,show i<c.length by omega]
theorem SpA.fg{w b g bS R dl n f}(h:SpA w b (some g) bS R dl n f)(i:Nat):w.frozen? ⟨g,i,none⟩=false:=by obtain⟨cap,hb,_,d,a,hg,c,hf,_⟩:=h.ex;simp[World.frozen?,hg]
theorem mkf:∀ (fn:Fn) (first cap:Array Vl) (w:Wd),(Instr.makeFunc fn first cap).run prog w=.ok (.func fn first cap) w:=fun _ _ _ _=>rfl
theorem ZW(b ao bS R dl n f)(p k:Nat)(v:Int)(x:Option Addr)(z:Nat)(w:Wd)(h:SpA w b ao bS R dl n f)(hp:p<18446744073709551616)(A:k<18446744073709551616)(s : 0<k)(a:¬In bS n p 1):Calls prog 231 #[.pointer (some ⟨b,0,none⟩),.int .u64 p] w fun e q=>e=.returned (.tuple #[.int .u8 0,.int .i64 4])/\Kt nO w q:=by
 have l:=mkf;have o:=aA h;have r:=aA a;clear h a;go_enter_defers func231,ntmps231;go_wp2_with fail;refine(sG b ao bS R dl n f p 1 _ (o.o.dk (Err.mk' nO w).k) hp (by omega) (by omega) r.o).mono ?_;rintro e j ⟨rfl,m,hw⟩;have g:Err nO w j:=by rw[hw];exact(Err.mk' nO w).drewN m
 have d:=g.c;have i:=g.f;have t:=aA g;clear g hw;refine dm (f:=250) (args:=#[.pointer (some ⟨w.heap.size,0,none⟩)]) (by simp) (by simp[go_sem]) ?_;refine(PZ ⟨w.heap.size,0,none⟩ 0 _ _ [] j d i).mono ?_;rintro e y u ⟨rfl,rfl,rfl⟩;refine⟨(.tuple #[.int .u8 0,.int .i64 4]),?_,rfl,t.o.done _⟩;simp[results,results231,go_sem,d]
theorem ZV(b ao bS R dl n f)(p k:Nat)(v:Int)(x:Option Addr)(z:Nat)(w:Wd)(h:SpA w b ao bS R dl n f)(hp:p<18446744073709551616)(A:k<18446744073709551616)(s : 0<k)(a:¬In bS n p 8):Calls prog 245 #[.pointer (some ⟨b,0,none⟩),.int .u64 p] w fun e q=>e=.returned (.tuple #[.int .u64 0,.int .i64 4])/\Kt nO w q:=by
 have l:=mkf;have o:=aA h;have r:=aA a;clear h a;go_enter_defers func245,ntmps245;go_wp2_with fail;refine(sG b ao bS R dl n f p 8 _ (o.o.dk (Err.mk' nO w).k) hp (by omega) (by omega) r.o).mono ?_;rintro e j ⟨rfl,m,hw⟩;have g:Err nO w j:=by rw[hw];exact(Err.mk' nO w).drewN m
 have d:=g.c;have i:=g.f;have t:=aA g;clear g hw;refine dm (f:=255) (args:=#[.pointer (some ⟨w.heap.size,0,none⟩)]) (by simp) (by simp[go_sem]) ?_;refine(PX ⟨w.heap.size,0,none⟩ 0 _ _ [] j d i).mono ?_;rintro e y u ⟨rfl,rfl,rfl⟩;refine⟨(.tuple #[.int .u64 0,.int .i64 4]),?_,rfl,t.o.done _⟩;simp[results,results245,go_sem,d]
def upd(f:Nat->Nat)(o k:Nat)(g:Nat->Nat):Nat->Nat:=fun i=>if o<=i/\i<o+k then g (i-o) else f i
theorem II(f:Nat->Nat)(o:Nat)(g:Nat->Nat):upd f o 0 g=f:=by
 funext i
 simp only[upd];rw[ac (by omega)]
theorem IH(f:Nat->Nat)(o k:Nat)(g:Nat->Nat):upd (upd f o k g) (o+k) 1 (fun _=>g k)=upd f o (k+1) g:=by
 funext i
 simp only[upd];by_cases b:i=o+k;·subst b;rw[ae (by omega),ae (by omega),Nat.add_sub_cancel_left]
 ·rw[ac (by omega)];by_cases a:o<=i/\i<o+k
  ·rw[ae a,ae (by omega)]
  ·rw[ac a,ac (by omega)]
def lay(rs:List Nat)(o k:Nat)(g:Nat->Nat):List Nat:=rs.take o ++ ((List.range k).map g ++ rs.drop (o + k))
theorem DY(a:List Nat)(o k:Nat)(g:Nat->Nat)(h:o+k<=a.length):(lay a o k g).length=a.length:=by simp[lay];omega
theorem sU(a:List Nat)(o k:Nat)(g:Nat->Nat)(h:o+k<=a.length)(i:Nat):(lay a o k g).getD i 0=if o<=i/\i<o+k then g (i-o) else a.getD i 0:=by
 simp only[lay,List.getD,List.getElem?_append,List.length_take,List.length_map,List.length_range,dc,List.getElem?_drop,List.getElem?_map];have e:min o a.length=o:=by omega
 rw[e];by_cases c:i<o
 ·have d:¬(o<=i/\i<o+k):=by omega
  simp only[c,d,if_true,if_false]
 ·rw[ac c];by_cases b:i-o<k
  ·rw[ae b,ae (by omega),List.getElem?_range b];rfl
  ·rw[ac b,ac (by omega)];congr 2
   omega
theorem xO(a:List Nat)(o k:Nat)(g:Nat->Nat)(cs:List Vl)(b:cs=(List.range k).map fun i=>Value.int .u8 ((g i:Nat):Int)):((cC a).toList.take o ++ cs ++ (cC a).toList.drop (o + cs.length)).toArray=cC (lay a o k g):=by
 subst b;simp only[cC,lay,List.length_map,List.length_range,List.map_append,List.map_map,List.append_assoc,<-List.map_take,<-List.map_drop];rfl
theorem SpA.lay{w b g bS R dl n f}(h:SpA w b (some g) bS R dl n f)(o k:Nat)(c:Nat->Nat)(s:o+k<=n)(l:∀ i,i<k->c i<256)(cs:List Vl)(j:cs=(List.range k).map fun i=>Value.int .u8 ((c i:Nat):Int)):∃ a,w.heap[g]?=some (.cells a 5 (0,0))/\o + cs.length<=a.size/\SpA (w.setRow g (a.toList.take o ++ cs ++ a.toList.drop (o + cs.length)).toArray) b (some g) bS R dl n (upd f o k c):=by
 obtain⟨cap,hb,d,m,q,hg,p,hf,r⟩:=h.ex;refine⟨cC m,hg,by rw[xU,j];simp;omega,h.cfg,h.kn,cap,?_,d,Go.Proofs.YtfmgnljlkdmndaaGreatDoor.M.lay m o k c,?_,?_,p,?_,?_⟩;·rw[setRow_other _ _ _ _ (fun e=>d e.symm)];exact hb
 ·rw[DY _ _ _ _ (by omega)];exact q
 ·rw[setRow_heap w g _ _ _ _ hg,xO m o k c cs j]
 ·intro i hi;rw[sU _ _ _ _ (by omega)];simp only[upd];split
  ·rfl
  ·exact hf i hi
 ·intro i;rw[sU _ _ _ _ (by omega)];split
  ·exact l _ (by omega)
  ·exact r i
theorem SpA.write{w b g bS R dl n f}(h:SpA w b (some g) bS R dl n f)(o y:Nat)(l:o<n)(hy:y<256):SpA (w.setCell ⟨g,o,none⟩ (.int .u8 y)) b (some g) bS R dl n (upd f o 1 fun _=>y):=by
 obtain⟨cap,hb,a,d,c,hg,j,hf,k⟩:=h.ex;refine⟨h.cfg,h.kn,cap,?_,a,d.set o y,?_,?_,j,?_,?_⟩;·rw[Below.heap_setCell _ _ _ _ (fun e=>a e.symm)];exact hb
 ·simpa using c
 ·simp only[World.setCell];rw[Array.getElem?_modify,ae rfl,hg];simp[cC,List.map_set]
 ·intro i hi;simp only[upd];by_cases e:i=o
  ·subst e;rw[ae (by omega)];simp[List.getD,show i<d.length by omega]
  ·rw[ac (by omega),<-hf i hi];simp[List.getD,Ne.symm e]
 ·intro i;by_cases e:i=o
  ·subst e;simp[List.getD,show i<d.length by omega,hy]
  ·have:=k i;simpa [List.getD,Ne.symm e] using this
theorem SpA.f256{w b g bS R dl n f}(h:SpA w b (some g) bS R dl n f)(i:Nat)(hi:i<n):f i<256:=by obtain⟨cap,hb,d,j,a,hg,e,hf,c⟩:=h.ex;rw[<-hf i hi];exact c i
theorem Err.space{S:Nat->Prop}{w a:Wd}{b ao bS R dl n f f'}(c:Err S w a)(h:SpA w b ao bS R dl n f)(hS:SpA a b ao bS R dl n f')(u v:Vl):SpA ((a.setCell ⟨w.heap.size,0,none⟩ u).setCell ⟨w.heap.size,0,none⟩ v) b ao bS R dl n f':=
 hS.kept (((Kt.refl (fun x=>x=w.heap.size) a).setCell (fun _=>rfl) u).setCell (fun _=>rfl) v) (fun x hx e=>by have:=h.fa x hx;omega)
theorem YF(b g bS R dl n f)(p:Nat)(w:Wd)(h:SpA w b (some g) bS R dl n f)(a:In bS n p 1):Calls prog 231 #[.pointer (some ⟨b,0,none⟩),.int .u64 p] w fun e t=>e=.returned (.tuple #[.int .u8 ((f (p-bS):Nat):Int),.int .i64 0])/\Kt nO w t:=by
 have s:=mkf;obtain⟨o,q⟩:=xe (p-bS);have j:o<n:=by obtain⟨A,B⟩:=a;omega
 rw[<-q];have z:=aA q;have r:=aA h;have u:=aA a;clear h q a;go_enter_defers func231,ntmps231;go_wp2_with fail;refine(kH b g bS R dl n f p 1 _ (r.o.dk (Err.mk' nO w).k) (by decide) u.o).mono ?_;rintro e v ⟨⟨c,rfl⟩,m,hw⟩;have d:Err nO w v:=by rw[hw];exact(Err.mk' nO w).drewN m
 have hS:=r.o.dk d.k;rw[<-z.o];have hc:=hS.cg o j;have i:=d.c;have l:=d.f;have x:=aA d;clear hS d hw;go_wp2
 refine dm (f:=250) (args:=#[.pointer (some ⟨w.heap.size,0,none⟩)]) (by simp) (by simp[go_sem]) ?_;refine(PY ⟨w.heap.size,0,none⟩ 0 _ ?_ ?_).mono ?_;·simp[go_sem,i]
 ·simp[go_sem,l]
 rintro e C y ⟨rfl,rfl,rfl⟩;refine⟨.tuple #[.int .u8 ((f o:Nat):Int),.int .i64 0],?_,rfl,x.o.ia _ _⟩;simp[results,results231,go_sem,i]
def wordTo(f:Nat->Nat):Nat->Nat
 | 0=>0
 | k+1=>wordTo f k+f k*256 ^ k
theorem wordTo_lt(f:Nat->Nat)(k:Nat)(h:∀ i,i<k->f i<256):wordTo f k<256 ^ k:=by
 induction k with
 | zero=>simp[wordTo]
 | succ k a=>have b:=a (fun i hi=>h i (by omega));have d:=h k (by omega);have c:f k*256 ^ k<=255*256 ^ k:=ak _ (by omega);simp only[wordTo,co];omega
def word(f:Nat->Nat)(o:Nat):Nat:=wordTo (fun i=>f (o+i)) 8
theorem DB(k:Nat) : 256 ^ k=2 ^ (8*k):=by rw[Nat.pow_mul]
theorem word_step(a k x:Nat)(f:k<8)(hx:x<256)(ha:a<256 ^ k):bits BinOp.or IntKind.u64 (a:Int) (IntKind.u64.wrap (IntKind.u64.wrap (x:Int)*2 ^ (8*k)))=((a+x*256 ^ k:Nat):Int):=by
 have hp : 2 ^ (8*k)<=2 ^ 56:=bj (by decide) (by omega);have b:x*2 ^ (8*k)<=255*2 ^ (8*k):=ak _ (by omega);have d:IntKind.u64.wrap (x:Int)=x:=by rw[wrap_u64];omega
 have c:(x:Int)*2 ^ (8*k)=((x*2 ^ (8*k):Nat):Int):=by simp
 have e:IntKind.u64.wrap ((x*2 ^ (8*k):Nat):Int)=((x*2 ^ (8*k):Nat):Int):=by rw[wrap_u64];generalize x*2 ^ (8*k)=y at b;omega
 rw[d,c,e];rw[DB] at ha ⊢;rw[bits_or_u64_nat _ _ (by omega) (by omega)];congr 1
 have:=Nat.shiftLeft_add_eq_or_of_lt ha x;rw[Nat.shiftLeft_eq] at this;rw[Nat.or_comm,<-this,Nat.add_comm]
theorem Word_in(b g bS R dl n f)(p:Nat)(w:Wd)(h:SpA w b (some g) bS R dl n f)(a:In bS n p 8):Calls prog 245 #[.pointer (some ⟨b,0,none⟩),.int .u64 p] w fun e y=>e=.returned (.tuple #[.int .u64 ((word f (p-bS):Nat):Int),.int .i64 0])/\Kt nO w y:=by
 have x:=mkf;obtain⟨o,r⟩:=xe (p-bS);have u:o+8<=n:=by obtain⟨G,I⟩:=a;omega
 rw[<-r];have F:=aA r;have s:=aA h;have z:=aA a;clear h r a;go_enter_defers func245,ntmps245;go_wp2_with fail;refine(kH b g bS R dl n f p 8 _ (s.o.dk (Err.mk' nO w).k) (by decide) z.o).mono ?_;rintro e A ⟨⟨c,rfl⟩,m,hw⟩;have j:Err nO w A:=by rw[hw];exact(Err.mk' nO w).drewN m
 have hS:=s.o.dk j.k;rw[<-F.o];have D:=aA (fun i (hi:i<8)=>hS.cg (o+i) (by omega));have t:=aA (fun i (hi:i<8)=>hS.f256 (o+i) (by omega));have l:=j.c;have q:=j.f;have B:=aA j;clear hS j hw;go_wp2
 go_loop [4,13] (fun v i=>∃ k:Nat,k<=8/\i=.int .i64 k/\v=.int .u64 ((wordTo (fun i=>f (o+i)) k:Nat):Int)) (fun _ i=>8-(intOf i).toNat)
 case atStart=>exact⟨0,by omega,rfl,rfl⟩
 case round=>
  obtain⟨k,K,rfl,rfl⟩:=hrel;by_cases d:k<8
  ·have hc:=D.o k d;have E:=aA (word_step (wordTo (fun i=>f (o+i)) k) k (f (o+k)) d (t.o k d) (wordTo_lt _ _ (fun i hi=>t.o i (by omega))));go_wp2
   refine⟨⟨k+1,by omega,by simp,?_⟩,by simp[intOf];omega⟩;rw[E.o];rfl
  ·obtain rfl:k=8:=(by omega);go_wp2
   refine dm (f:=255) (args:=#[.pointer (some ⟨w.heap.size,0,none⟩)]) (by simp) (by simp[go_sem]) ?_;refine(PV ⟨w.heap.size,0,none⟩ 0 _ ?_ ?_).mono ?_;·simp[go_sem,l]
   ·simp[go_sem,q]
   rintro e J C ⟨rfl,rfl,rfl⟩;refine⟨.tuple #[.int .u64 ((word f o:Nat):Int),.int .i64 0],?_,rfl,B.o.ia _ _⟩;simp[results,results245,go_sem,l,word]
def byteOf(v i:Nat):Nat:=v/256 ^ i%256
theorem zig(v k:Nat):(v:Int)/2 ^ (8*k)%256=((byteOf v k:Nat):Int):=by unfold byteOf;rw[DB];simp
theorem SetWord_in(b g bS R dl n f)(p v:Nat)(J:v<18446744073709551616)(w:Wd)(h:SpA w b (some g) bS R dl n f)(d:In bS n p 8):Calls prog 229 #[.pointer (some ⟨b,0,none⟩),.int .u64 p,.int .u64 v] w fun e t=>e=.returned (.int .i64 0)/\SpA t b (some g) bS R dl n (upd f (p-bS) 8 (byteOf v))/\Kt (own b (some g)) w t:=by
 have z:=mkf;obtain⟨o,r⟩:=xe (p-bS);have y:o+8<=n:=by obtain⟨G,I⟩:=d;omega
 rw[<-r];have D:=aA r;have l:=aA h;have A:=aA d;clear h r d;go_enter_defers func229,ntmps229;go_wp2_with fail;refine(kH b g bS R dl n f p 8 _ (l.o.dk (Err.mk' nO w).k) (by decide) A.o).mono ?_;rintro e B ⟨⟨c,rfl⟩,m,hw⟩;have a:Err nO w B:=by rw[hw];exact(Err.mk' nO w).drewN m
 rw[<-D.o];have s:=aA (l.o.dk a.k);have u:=aA (a.mono (T:=own b (some g)) (fun _ x=>x.elim));clear a hw;go_wp2
 go_loopw [15] (fun i wr=>∃ k:Nat,k<=8/\i=.int .i64 k/\Hd (Err (own b (some g)) w wr)/\Hd (SpA wr b (some g) bS R dl n (upd f o k (byteOf v)))) (fun i _=>8-(intOf i).toNat)
 case atStart=>exact⟨0,by omega,rfl,u,by rw[II];exact s⟩
 case round=>
  obtain⟨k,L,rfl,a,hS⟩:=hrel;clear u s;by_cases F:k<8
  ·have hc:=hS.o.cg (o+k) (by omega);have hf:=hS.o.fg (o+k);have E:=aA (zig v k);go_wp2
   refine⟨⟨k+1,by omega,by simp,?_,?_⟩,by simp[intOf];omega⟩;·exact a.o.setCell l.o.lu (Or.inr rfl) _ _
   ·rw[E.o,<-IH];exact hS.o.write (o+k) (byteOf v k) (by omega) (Nat.mod_lt _ (by decide))
  ·obtain rfl:k=8:=(by omega);have j:=a.o.c;have q:=a.o.f;go_wp2
   refine dm (f:=248) (args:=#[.pointer (some ⟨w.heap.size,0,none⟩)]) (by simp) (by simp[go_sem]) ?_;refine(zkn ⟨w.heap.size,0,none⟩ 0 _ ?_ ?_).mono ?_;·simp[go_sem,j]
   ·simp[go_sem,q]
   rintro e K C ⟨rfl,rfl,rfl⟩;refine⟨.int .i64 0,?_,rfl,?_,a.o.ia _ _⟩;·simp[results,results229,go_sem,j]
   ·exact a.o.space l.o hS.o _ _
theorem Fill_in(b g bS R dl n f)(p a v:Nat)(D:v<256)(w:Wd)(h:SpA w b (some g) bS R dl n f)(t : 0<a)(j:In bS n p a):Calls prog 62 #[.pointer (some ⟨b,0,none⟩),.int .u64 p,.int .u64 a,.int .u8 v] w fun e y=>e=.returned (.int .i64 0)/\SpA y b (some g) bS R dl n (upd f (p-bS) a fun _=>v)/\Kt (own b (some g)) w y:=by
 have B:=mkf;obtain⟨o,s⟩:=xe (p-bS);have A:o+a<=n:=by obtain⟨N,P⟩:=j;omega
 have C:=h.fk;have lr:=h.cfg.lr;have J:a<=4194304:=by omega
 rw[<-s];have I:=aA s;have q:=aA h;have E:=aA j;clear h s j C lr;go_enter_defers func62,ntmps62;go_wp2_with fail;refine(kH b g bS R dl n f p a _ (q.o.dk (Err.mk' nO w).k) t E.o).mono ?_;rintro e F ⟨⟨c,rfl⟩,m,hw⟩;have d:Err nO w F:=by rw[hw];exact(Err.mk' nO w).drewN m
 rw[<-I.o];have u:=aA (q.o.dk d.k);have z:=aA (d.mono (T:=own b (some g)) (fun _ x=>x.elim));clear d hw;go_wp2
 go_loopw [18] (fun i wr=>∃ k:Nat,k<=a/\i=.int .i64 k/\Hd (Err (own b (some g)) w wr)/\Hd (SpA wr b (some g) bS R dl n (upd f o k fun _=>v))) (fun i _=>a-(intOf i).toNat)
 case atStart=>exact⟨0,by omega,rfl,z,by rw[II];exact u⟩
 case round=>
  obtain⟨k,L,rfl,d,hS⟩:=hrel;clear z u;by_cases K:k<a
  ·have hc:=hS.o.cg (o+k) (by omega);have hf:=hS.o.fg (o+k);go_wp2
   refine⟨⟨k+1,by omega,by simp,?_,?_⟩,by simp[intOf];omega⟩;·exact d.o.setCell q.o.lu (Or.inr rfl) _ _
   ·rw[<-IH];exact hS.o.write (o+k) v (by omega) D
  ·obtain rfl:k=a:=(by omega);have l:=d.o.c;have r:=d.o.f;go_wp2
   refine dm (f:=110) (args:=#[.pointer (some ⟨w.heap.size,0,none⟩)]) (by simp) (by simp[go_sem]) ?_;refine(PS ⟨w.heap.size,0,none⟩ 0 _ ?_ ?_).mono ?_;·simp[go_sem,l]
   ·simp[go_sem,r]
   rintro e Q G ⟨rfl,rfl,rfl⟩;refine⟨.int .i64 0,?_,rfl,?_,d.o.ia _ _⟩;·simp[results,results62,go_sem,l]
   ·exact d.o.space q.o hS.o _ _
def Bytes(w:Wd)(v:Vl)(m:Nat)(g:Nat->Nat):Prop:=
 (∀ i,i<m->g i<256)/\∃ ao cap,v=.slice ao m cap/\(m=0\/∃ a:Addr,ao=some a/\a.block<w.heap.size/\∀ j,j<m->w.cell? (a.add j)=some (.int .u8 ((g j:Nat):Int)))
theorem addr_add_block(a:Addr)(j:Nat):(a.add j).block=a.block:=by unfold Addr.add;split <;> rfl
theorem Bytes.kept{w d:Wd}{S:Nat->Prop}{v:Vl}{m:Nat}{g:Nat->Nat}(h:Bytes w v m g)(k:Kt S w d)(hS:∀ b,v.ownBlock=some b->¬S b):Bytes d v m g:=by
 obtain⟨e,ao,cap,rfl,c⟩:=h;refine⟨e,ao,cap,rfl,?_⟩;rcases c with c|⟨a,rfl,hb,hc⟩
 ·exact Or.inl c
 ·refine Or.inr ⟨a,rfl,bg hb k.size,fun j f=>?_⟩;rw[<-hc j f];exact World.cell?_of_block (by rw[addr_add_block];exact k.block _ hb (hS a.block rfl))
theorem Bytes.dk{w a:Wd}{v:Vl}{m:Nat}{g:Nat->Nat}(h:Bytes w v m g)(k:Kt nO w a):Bytes a v m g:=h.kept k (fun _ _ x=>x)
theorem nM:(prog.info? 5).map (fun i=>(i.zero,i.size,i.bytes))=some (some (.int .u8 0),1,1):=by kernel_rfl
def bF(m:Nat)(g:Nat->Nat):List Nat:=(List.range m).map g
theorem IW(m:Nat)(g:Nat->Nat):(bF m g).length=m:=by simp[bF]
theorem zkL(m:Nat)(g:Nat->Nat)(i:Nat)(hi:i<m):(bF m g).getD i 0=g i:=by simp[bF,List.getD,hi]
def Blk(w:Wd)(h m:Nat)(g:Nat->Nat):Prop:=(∀ i,i<m->g i<256)/\w.heap[h]?=some (.cells (cC (bF m g)) 5 (0,0))
theorem Blk.lt{w h m g}(H:Blk w h m g):h<w.heap.size:=(am.1 H.2).1
theorem Blk.cell{w h m g}(H:Blk w h m g)(i:Nat)(hi:i<m):w.cell? ⟨h,i,none⟩=some (.int .u8 ((g i:Nat):Int)):=by have:=zkL m g i hi;rw[<-this];simp[World.cell?,H.2,cC,IW,hi]
theorem Blk.kept{w w' h m g}{S:Nat->Prop}(H:Blk w h m g)(k:Kt S w w')(hS:¬S h):Blk w' h m g:=⟨H.1,(k.block h H.lt hS).trans H.2⟩
theorem zhR(m:Nat):madeCells (Value.int .u8 0).cells (m*1)=cC (bF m fun _=>0):=by
 simp only[madeCells,cC,bF];apply Array.ext;·simp
 ·intro i a b;have:i%1=0:=Nat.mod_one i;simp[Value.cells,this]
theorem tZ(m:Nat)(d:m<=1073741824)(w:Wd):(Instr.makeSlice 34 (.int .i64 m) (.int .i64 m)).run prog w=.ok (.slice (some ⟨w.heap.size,0,none⟩) m m) (w.alloc (.cells (cC (bF m fun _=>0)) 5)):=by
 obtain⟨i,hi,a,b,c⟩:=info_parts nM;have:=run_make (P:=prog) w 34 5 i (.int .u8 0) Tryz.underlying34 hi a .i64 .i64 (m:Int) (m:Int) (by omega) (by omega) (by rw[c];omega) (by omega);rw[b] at this;simp only[aa,zhR] at this;exact this
def dL(k:Nat)(g:Nat->Nat):List Vl:=(List.range k).map fun i=>Value.int .u8 ((g i:Nat):Int)
theorem nQ(k:Nat)(g:Nat->Nat):(dL k g).length=k:=by simp[dL]
theorem zhS(k:Nat)(g:Nat->Nat)(j:Nat)(u:Vl)(h:(dL k g)[j]?=some u):j<k/\u=.int .u8 ((g j:Nat):Int):=by
 have b:j<k:=by
  rcases du j k with a|a
  ·exact a
  ·rw[dj (by rw[nQ];exact a)] at h;cases h
 refine⟨b,?_⟩;simp[dL,b] at h;exact h.symm
theorem wV(w:Wd)(g o k h:Nat)(a:Addr)(sc:Nat)(b:Array Vl)(c:Nat->Nat)(hg:w.heap[g]?=some (.cells b 5 (0,0)))(e:o+k<=b.size)(d:∀ j,j<k->w.cell? (a.add j)=some (.int .u8 ((c j:Nat):Int))) (l:TypeId):(Builtin.copy_ #[34,34] l #[.slice (some ⟨g,o,none⟩) k h,.slice (some a) k sc]).run prog w=.ok (goInt k) (w.setRow g (b.toList.take o ++ dL k c ++ b.toList.drop (o + (dL k c).length)).toArray):=by
 obtain⟨i,hi,p,f,q⟩:=info_parts nM;have:=run_copy_row (P:=prog) w 34 34 l 5 g o k h a k sc b 5 (dL k c) Tryz.underlying34 (by rw[hi];simp[f]) hg (by rw[nQ];exact(Nat.min_self k).symm) ?_ ?_ ?_;·rw[this,nQ]
 ·intro j u n;obtain⟨m,rfl⟩:=zhS k c j u n;exact d j m
 ·rw[nQ];exact e
 ·intro u r;obtain⟨_,_,rfl⟩:=List.mem_map.1 r;rfl
theorem IT(w:Wd)(k b:Nat)(d sp:Option Addr)(sc:Nat)(g:k=0)(c:TypeId):(Builtin.copy_ #[34,34] c #[.slice d k b,.slice sp k sc]).run prog w=.ok (goInt 0) w:=by
 obtain⟨i,hi,e,a,f⟩:=info_parts nM;subst g;exact run_copy_none (P:=prog) w 34 34 c 5 d sp 0 b 0 sc Tryz.underlying34 (by rw[hi];simp[a]) rfl
theorem Copy_in(b g bS R dl n f)(p q k:Nat)(w:Wd)(h:SpA w b (some g) bS R dl n f)(A : 0<k)(t:In bS n p k)(r:In bS n q k):Calls prog 117 #[.pointer (some ⟨b,0,none⟩),.int .u64 p,.int .u64 q,.int .u64 k] w fun e L=>e=.returned (.int .i64 0)/\SpA L b (some g) bS R dl n (upd f (p-bS) k fun i=>f (q-bS+i))/\Kt (own b (some g)) w L:=by
 have P:=mkf;obtain⟨o,F⟩:=xe (p-bS);obtain⟨s,hs⟩:=xe (q-bS);have D:o+k<=n:=by obtain⟨N,Q⟩:=t;omega
 have Y:s+k<=n:=by obtain⟨N,Q⟩:=r;omega
 rw[<-F,<-hs];have HO:=aA F;have HT:=aA hs;have z:=aA h;have S:=aA t;have U:=aA r;clear h F t r hs;go_enter_defers func117,ntmps117;go_wp2_with fail;refine(kH b g bS R dl n f p k _ (z.o.dk (Err.mk' nO w).k) A S.o).mono ?_;rintro e V ⟨⟨c,rfl⟩,m,hw⟩;have v:Err nO w V:=by rw[hw];exact(Err.mk' nO w).drewN m
 have G:=aA v;rw[<-HO.o];clear v hw;go_wp2_with fail;refine(kH b g bS R dl n f q k _ (z.o.dk G.o.k) A U.o).mono ?_;rintro e J ⟨⟨c2,rfl⟩,Z,hw⟩;have v:Err nO w J:=by rw[hw];exact G.o.drewN Z
 rw[<-HT.o];have hS:=z.o.dk v.k;obtain⟨a,hg,d,u⟩:=hS.lay o k (fun i=>f (s+i)) D (fun i hi=>hS.f256 _ (by omega)) (dL k fun i=>f (s+i)) rfl;have I:=wV J g o k c ⟨g,s,none⟩ c2 a (fun i=>f (s+i)) hg (by rw[nQ] at d;exact d) (fun j hj=>by rw[Addr.add_lit];exact hS.cg _ (by omega));have l:=(v.mono (T:=own b (some g)) (fun _ x=>x.elim)).setRow z.o.lu (Or.inr rfl) (a.toList.take o ++ dL k (fun i=>f (s + i)) ++ a.toList.drop (o + (dL k fun i=>f (s + i)).length)).toArray;obtain⟨w3,y⟩:=xe (J.setRow g (a.toList.take o ++ dL k (fun i=>f (s + i)) ++ a.toList.drop (o + (dL k fun i=>f (s + i)).length)).toArray);rw[<-y] at u I l;have B:=l.c;have E:=l.f;have C:=aA l;have K:=aA u;clear v hS hg d u l hw y G;go_wp2
 refine dm (f:=176) (args:=#[.pointer (some ⟨w.heap.size,0,none⟩)]) (by simp) (by simp[go_sem]) ?_;refine(PR ⟨w.heap.size,0,none⟩ 0 _ ?_ ?_).mono ?_;·simp[go_sem,B]
 ·simp[go_sem,E]
 rintro e u' X ⟨rfl,rfl,rfl⟩;refine⟨.int .i64 0,?_,rfl,?_,C.o.ia _ _⟩;·simp[results,results117,go_sem,B]
 ·exact C.o.space z.o K.o _ _
theorem Write_in(b g bS R dl n f)(p k:Nat)(v:Vl)(q:Nat->Nat)(w:Wd)(h:SpA w b (some g) bS R dl n f)(K : 0<k)(s:In bS n p k)(S:Bytes w v k q):Calls prog 69 #[.pointer (some ⟨b,0,none⟩),.int .u64 p,v] w fun e U=>e=.returned (.int .i64 0)/\SpA U b (some g) bS R dl n (upd f (p-bS) k q)/\Kt (own b (some g)) w U:=by
 have V:=mkf;obtain⟨o,J⟩:=xe (p-bS);have E:o+k<=n:=by obtain⟨h1,h2⟩:=s;omega
 have X:=h.fk;have lr:=h.cfg.lr;have a2:k<=4194304:=by omega
 rw[<-J];have Q:=aA S;obtain⟨r,ao,vc,rfl,d⟩:=S;obtain⟨a,rfl,-,-⟩:=d.resolve_left (by omega);have HO:=aA J;have C:=aA h;have Z:=aA s;clear h J s d X lr;have z:=aA r;clear r;go_enter_defers func69,ntmps69;go_wp2_with fail;refine(kH b g bS R dl n f p k _ (C.o.dk (Err.mk' nO w).k) K Z.o).mono ?_;rintro e N ⟨⟨c,rfl⟩,m,hw⟩;have D:Err nO w N:=by rw[hw];exact(Err.mk' nO w).drewN m
 rw[<-HO.o];have hS:=C.o.dk D.k;obtain⟨-,Y,a0,I,d⟩:=Q.o.dk D.k;injection I with I e2 e3
 subst I;obtain⟨a',F,-,y⟩:=d.resolve_left (by omega);injection F with F
 subst F;obtain⟨i,hg,j,t⟩:=hS.lay o k q E z.o (dL k q) rfl;have L:=wV N g o k c a vc i q hg (by rw[nQ] at j;exact j) y;have l:=(D.mono (T:=own b (some g)) (fun _ x=>x.elim)).setRow C.o.lu (Or.inr rfl) (i.toList.take o ++ dL k q ++ i.toList.drop (o + (dL k q).length)).toArray;obtain⟨w3,u⟩:=xe (N.setRow g (i.toList.take o ++ dL k q ++ i.toList.drop (o + (dL k q).length)).toArray);rw[<-u] at t L l;have A:=l.c;have G:=l.f;have B:=aA l;have P:=aA t;clear D hS hg j t l hw u d y Q e2 e3;go_wp2
 refine dm (f:=118) (args:=#[.pointer (some ⟨w.heap.size,0,none⟩)]) (by simp) (by simp[go_sem]) ?_;refine(DL ⟨w.heap.size,0,none⟩ 0 _ ?_ ?_).mono ?_;·simp[go_sem,A]
 ·simp[go_sem,G]
 rintro e u' a1 ⟨rfl,rfl,rfl⟩;refine⟨.int .i64 0,?_,rfl,?_,B.o.ia _ _⟩;·simp[results,results69,go_sem,A]
 ·exact B.o.space C.o P.o _ _
theorem Write_zero(b:Nat)(p:Int)(i:Option Addr)(j:Nat)(w:Wd):Calls prog 69 #[.pointer (some ⟨b,0,none⟩),.int .u64 p,.slice i 0 j] w fun e m=>e=.returned (.int .i64 0)/\Kt nO w m:=by
 have l:=mkf;go_enter_defers func69,ntmps69;go_wp2_with fail;refine(DM b p _).mono ?_;rintro e k ⟨rfl,hw⟩;have d:Err nO w k:=by rw[hw];exact Err.mk' nO w
 have a:=d.c;have g:=d.f;have h:=aA d;have o:=IT k 0 0 none i j rfl;clear d hw;go_wp2
 refine dm (f:=118) (args:=#[.pointer (some ⟨w.heap.size,0,none⟩)]) (by simp) (by simp[go_sem]) ?_;refine(DL ⟨w.heap.size,0,none⟩ 0 _ ?_ ?_).mono ?_;·simp[go_sem,a]
 ·simp[go_sem,g]
 rintro e q n ⟨rfl,rfl,rfl⟩;refine⟨.int .i64 0,?_,rfl,h.o.ia _ _⟩;simp[results,results69,go_sem,a]
theorem Blk.new(w:Wd)(m:Nat):Blk (w.alloc (.cells (cC (bF m fun _=>0)) 5)) w.heap.size m fun _=>0:=⟨fun _ _=>Nat.zero_lt_succ 255,nH _ _⟩
theorem Blk.lay{w h m g}(H:Blk w h m g)(a:Nat->Nat)(b:∀ i,i<m->a i<256):Blk (w.setRow h ((cC (bF m g)).toList.take 0 ++ dL m a ++ (cC (bF m g)).toList.drop (0 + (dL m a).length)).toArray) h m a:=by
 refine⟨b,?_⟩;rw[setRow_heap w h _ _ _ _ H.2,xO (bF m g) 0 m a (dL m a) rfl];have:Go.Proofs.YtfmgnljlkdmndaaGreatDoor.M.lay (bF m g) 0 m a=bF m a:=by simp[Go.Proofs.YtfmgnljlkdmndaaGreatDoor.M.lay,bF]
 rw[this]
theorem Read_in(b g bS R dl n f)(p k:Nat)(w:Wd)(h:SpA w b (some g) bS R dl n f)(I : 0<k)(l:In bS n p k):Calls prog 36 #[.pointer (some ⟨b,0,none⟩),.int .u64 p,.int .u64 k] w fun e L=>e=.returned (.tuple #[.slice (some ⟨w.heap.size+1,0,none⟩) k k,.int .i64 0])/\Blk L (w.heap.size+1) k (fun i=>f (p-bS+i))/\Kt nO w L:=by
 have P:=mkf;obtain⟨o,G⟩:=xe (p-bS);have N:o+k<=n:=by obtain⟨h1,h2⟩:=l;omega
 have S:=h.fk;have lr:=h.cfg.lr;have Z:k<=4194304:=by omega
 rw[<-G];have Y:=aA G;have K:=aA h;have T:=aA l;clear h G l S lr;go_enter_defers func36,ntmps36;go_wp2_with fail;refine(kH b g bS R dl n f p k _ (K.o.dk (Err.mk' nO w).k) I T.o).mono ?_;rintro e B ⟨⟨c,rfl⟩,m,hw⟩;have v:Err nO w B:=by rw[hw];exact(Err.mk' nO w).drewN m
 rw[<-Y.o];have y:=v.sz;have u:=tZ k (by omega) B;have z:=Blk.new B k;have a:=(kz B).alloc (.cells (cC (bF k fun _=>0)) 5);obtain⟨E,t⟩:=xe (B.alloc (.cells (cC (bF k fun _=>0)) 5));rw[<-t] at u z a;rw[y] at u z;have hS:=K.o.dk ((v.k.trans (U:=nO) a (fun _ _ x=>x) (fun _ _ x=>x)));have J:=wV E (w.heap.size+1) 0 k k ⟨g,o,none⟩ c _ (fun i=>f (o+i)) z.2 (by rw[xU,IW];omega) (fun j hj=>by rw[Addr.add_lit];exact hS.cg _ (by omega));have q:=z.lay (fun i=>f (o+i)) (fun i hi=>hS.f256 _ (by omega));have d:=(Kt.refl (fun x=>x=w.heap.size + 1) E).setRow (fun _=>rfl) ((cC (bF k fun _=>0)).toList.take 0 ++ dL k (fun i=>f (o + i)) ++ (cC (bF k fun _=>0)).toList.drop (0 + (dL k fun i=>f (o + i)).length)).toArray;obtain⟨D,C⟩:=xe (E.setRow (w.heap.size + 1) ((cC (bF k fun _=>0)).toList.take 0 ++ dL k (fun i=>f (o + i)) ++ (cC (bF k fun _=>0)).toList.drop (0 + (dL k fun i=>f (o + i)).length)).toArray);rw[<-C] at J q d;have s:E.heap[w.heap.size]?=some (.cells #[.int .i64 0] 28 (0,0)):=(a.block _ (by omega) (fun x=>x)).trans v.he;have r:D.heap[w.heap.size]?=some (.cells #[.int .i64 0] 28 (0,0)):=(d.block _ (am.1 s).1 (by omega)).trans s;have A:D.cell? ⟨w.heap.size,0,none⟩=some (.int .i64 0):=by simp[World.cell?,r]
 have F:D.frozen? ⟨w.heap.size,0,none⟩=false:=by simp[World.frozen?,r]
 have Q:=aA ((v.k.trans (U:=nO) a (fun _ _ x=>x) (fun _ _ x=>x)).trans (U:=nO) d (fun _ _ x=>x) (fun x hx e=>by omega));have X:=aA q;clear v hS t C hw z a d s r q y;go_wp2
 refine dm (f:=73) (args:=#[.pointer (some ⟨w.heap.size,0,none⟩)]) (by simp) (by simp[go_sem]) ?_;refine(CV ⟨w.heap.size,0,none⟩ 0 _ ?_ ?_).mono ?_;·simp[go_sem,A]
 ·simp[go_sem,F]
 rintro e u' V ⟨rfl,rfl,rfl⟩;refine⟨.tuple #[.slice (some ⟨w.heap.size+1,0,none⟩) k k,.int .i64 0],?_,rfl,?_,?_⟩;·simp[results,results36,go_sem,A]
 ·exact X.o.kept (((Kt.refl (fun x=>x=w.heap.size) D).setCell (fun _=>rfl) _).setCell (fun _=>rfl) _) (by omega)
 ·exact(Q.o.setCell (fun h=>absurd h (de _)) _).setCell (fun h=>absurd h (de _)) _
theorem Read_zero(b:Nat)(p:Int)(w:Wd):Calls prog 36 #[.pointer (some ⟨b,0,none⟩),.int .u64 p,.int .u64 0] w fun e r=>e=.returned (.tuple #[.slice (some ⟨w.heap.size+1,0,none⟩) 0 0,.int .i64 0])/\Kt nO w r/\w.heap.size+1<r.heap.size:=by
 have s:=mkf;go_enter_defers func36,ntmps36;go_wp2_with fail;refine(DM b p _).mono ?_;rintro e c ⟨rfl,hw⟩;have o:Err nO w c:=by rw[hw];exact Err.mk' nO w
 have j:=o.sz;have i:(Instr.makeSlice 34 (.int .i64 0) (.int .i64 0)).run prog c=.ok (.slice (some ⟨c.heap.size,0,none⟩) 0 0) (c.alloc (.cells (cC (bF 0 fun _=>0)) 5)):=tZ 0 (by omega) c;have a:=(kz c).alloc (.cells (cC (bF 0 fun _=>0)) 5);have d:(c.alloc (.cells (cC (bF 0 fun _=>0)) 5)).heap.size=w.heap.size+2:=by simp;omega
 obtain⟨n,m⟩:=xe (c.alloc (.cells (cC (bF 0 fun _=>0)) 5));rw[<-m] at i a d;rw[j] at i;have v:=IT n 0 0 (some ⟨w.heap.size+1,0,none⟩) none 0 rfl;have g:n.heap[w.heap.size]?=some (.cells #[.int .i64 0] 28 (0,0)):=(a.block _ (by omega) (fun x=>x)).trans o.he;have l:n.cell? ⟨w.heap.size,0,none⟩=some (.int .i64 0):=by simp[World.cell?,g]
 have q:n.frozen? ⟨w.heap.size,0,none⟩=false:=by simp[World.frozen?,g]
 have t:=aA (o.k.trans (U:=nO) a (fun _ _ x=>x) (fun _ _ x=>x));have y:=aA d;clear o m hw a g j d;go_wp2
 refine dm (f:=73) (args:=#[.pointer (some ⟨w.heap.size,0,none⟩)]) (by simp) (by simp[go_sem]) ?_;refine(CV ⟨w.heap.size,0,none⟩ 0 _ ?_ ?_).mono ?_;·simp[go_sem,l]
 ·simp[go_sem,q]
 rintro e z u ⟨rfl,rfl,rfl⟩;refine⟨.tuple #[.slice (some ⟨w.heap.size+1,0,none⟩) 0 0,.int .i64 0],?_,rfl,?_,?_⟩;·simp[results,results36,go_sem,l]
 ·exact(t.o.setCell (fun h=>absurd h (de _)) _).setCell (fun h=>absurd h (de _)) _
 ·simp
  have:=y.o;omega
theorem zgE(w:Wd)(g n cap R:Nat)(a:Array Vl)(hg:w.heap[g]?=some (.cells a 5 (0,0)))(o:a.size=cap)(q : 0<R)(hR:R<=1048576)(d:n+R<=cap)(r:TypeId):(Builtin.append_ #[34,22] r #[.slice (some ⟨g,0,none⟩) n cap,.int .u64 R]).run prog w=.ok (.slice (some ⟨g,0,none⟩) (n + R) cap) (w.setRow g (a.toList.take n ++ dL R (fun _=>0) ++ a.toList.drop (n + (dL R fun _=>0).length)).toArray):=by
 obtain⟨i,hi,f,k,l⟩:=info_parts nM;have hw:IntKind.i64.wrap (R:Int)=R:=by rw[cz];omega
 have b:¬((R:Int)<0):=by omega
 have c:¬(281474976710656<(R:Int)*(i.bytes:Int)):=by rw[l];omega
 have m:(Builtin.zeroCells (Value.int .u8 0).cells R).toList=dL R fun _=>0:=by
  simp only[Builtin.zeroCells,dL];apply List.ext_getElem;·simp[Value.cells]
  ·intro j s t;have:j%1=0:=Nat.mod_one j;simp[Value.cells,this]
 have e:=run_storeCells_at prog g n 5 (dL R fun _=>0) 0 a w hg (by rw[nQ];omega) (by intro v p;obtain⟨_,_,rfl⟩:=List.mem_map.1 p;rfl)
 simp only[Nat.add_zero] at e;simp[Builtin.append_,run_underlying Tryz.underlying34,run_underlying Tryz.underlying22,sizeOf,typeInfo,zeroValue,hi,f,k,asInt,asIntOf,hw,b,c,d,Addr.add_lit,m,e];intro h;omega
def more(f:Nat->Nat)(n:Nat):Nat->Nat:=fun i=>if i<n then f i else 0
structure After(w w':Wd)(b:Nat)(ao:Option Nat)(g' cap' bS R dl n:Nat)(f:Nat->Nat):Prop where
 sp:SpA (w'.setCell ⟨b,3,none⟩ (.slice (some ⟨g',0,none⟩) (n+R) cap')) b (some g') bS R dl (n+R) (more f n)
 k:Kt (own b ao) w w'
 g:ao=some g'\/w.heap.size<=g'
theorem IE{w e:Wd}{b ao g' cap' bS R dl n f cap}(hc:Cfg bS R dl)(h:∃ k,n=k*R/\k+1<=dl)(hb:e.heap[b]?=some (.cells #[.int .u64 bS,.int .u64 R,.int .i64 dl,.slice (adr ao) n cap] 131 (0,0)))(a:g'≠b) (c:List Nat) (g:c.length=cap') (hg:e.heap[g']?=some (.cells (cC c) 5 (0,0))) (m:n+R<=cap') (hf:∀ i,i<n+R->c.getD i 0=more f n i) (d:∀ i,c.getD i 0<256)(k:Kt (own b ao) w e) (j:ao=some g'\/w.heap.size<=g'):After w e b ao g' cap' bS R dl n f:=by
 refine⟨⟨hc,?_,cap',?_,a,c,g,?_,m,hf,d⟩,k,j⟩;·obtain⟨k,rfl,l⟩:=h;exact⟨k+1,by rw[av,aL],l⟩
 ·simp only[World.setCell];rw[Array.getElem?_modify,ae rfl,hb];simp[adr]
 ·rw[Below.heap_setCell _ _ _ _ a];exact hg
theorem LU(m:Nat):(Builtin.zeroCells (Value.int .u8 0).cells m)=cC (List.replicate m 0):=by
 simp only[Builtin.zeroCells,cC];apply Array.ext;·simp[Value.cells]
 ·intro j a b;have:j%1=0:=Nat.mod_one j;simp[Value.cells,this]
theorem YC(m i:Nat):(List.replicate m 0).getD i 0=0:=by simp[List.getD,List.getElem?_replicate];split <;> rfl
theorem zf2(w:Wd)(b ao bS R dl n f cap)(hc:Cfg bS R dl)(y:∃ k,n=k*R/\k+1<=dl)(hb:w.heap[b]?=some (.cells #[.int .u64 bS,.int .u64 R,.int .i64 dl,.slice (adr ao) n cap] 131 (0,0))) (U:uT w b ao n cap f):∃ E c z,(∀ F,(Builtin.append_ #[34,22] F #[.slice (adr ao) n cap,.int .u64 R]).run prog w=.ok (.slice (some ⟨E,0,none⟩) (n+R) c) z)/\After w z b ao E c bS R dl n f/\
   z.heap[b]?=some (.cells #[.int .u64 bS,.int .u64 R,.int .i64 dl,.slice (adr ao) n cap] 131 (0,0)):=by
 obtain⟨i,hi,N,Q,C⟩:=info_parts nM;have r1:=hc.r1;have r2:=hc.r2;have Y:n+R<=4194304:=by obtain⟨k,rfl,hk⟩:=y;have J:=hc.lr;have V:(k+1)*R<=dl*R:=ak _ hk;rw[av,aL] at V;omega
 have r:b<w.heap.size:=(am.1 hb).1
 have p:∀ (a:List Nat),(Builtin.firstCells i.size n (.slice (adr ao) n cap)).run prog w.drew=.ok (cC a) w.drew->a.length=n->(∀ j,j<n->a.getD j 0=f j)->(∀ j,a.getD j 0<256)->cap<n+R->
   ∃ E c z,(∀ F,(Builtin.append_ #[34,22] F #[.slice (adr ao) n cap,.int .u64 R]).run prog w=.ok (.slice (some ⟨E,0,none⟩) (n+R) c) z)/\After w z b ao E c bS R dl n f/\
   z.heap[b]?=some (.cells #[.int .u64 bS,.int .u64 R,.int .i64 dl,.slice (adr ao) n cap] 131 (0,0)):=by
  intro a I s L A o;have S:=grownCap_ge w (n+R) cap 5;have B:(cC a) ++ Builtin.zeroCells (Value.int .u8 0).cells R ++ Builtin.zeroCells (Value.int .u8 0).cells (grownCap w (n + R) cap 5-(n + R))=cC (a ++ (List.replicate R 0 ++ List.replicate (grownCap w (n + R) cap 5-(n + R)) 0)):=by rw[LU,LU];simp[cC]
  have q:∀ j,(a ++ (List.replicate R 0 ++ List.replicate (grownCap w (n + R) cap 5-(n + R)) 0)).getD j 0=if j<n then a.getD j 0 else 0:=by
   intro j;rw[List.replicate_append_replicate];simp only[List.getD,List.getElem?_append,s];split;·rfl
   ·exact YC _ _
  refine⟨w.heap.size,grownCap w (n + R) cap 5,w.drew.alloc (.cells (cC (a ++ (List.replicate R 0 ++ List.replicate (grownCap w (n + R) cap 5-(n + R)) 0))) 5),fun F=>?_,?_,?_⟩;·have:=Lib.run_append_grow_zeros (P:=prog) w 34 22 F 5 i (.int .u8 0) .u64 .u64 Tryz.underlying34 Tryz.underlying22 hi N (adr ao) n cap (cC a).toList (by rw[I]) R (by omega) (by omega) o (by omega) (by rw[C];omega) (growslice_fits o (by rw[C];omega));rw[this,<-B]
  ·refine IE (cap:=cap) hc y ?_ (by omega) _ ?_ (nH w.drew _) S ?_ ?_ (((Kt.refl _ w).drew).alloc _) (Or.inr (aj _))
   ·rw[Below.heap_alloc w.drew _ b r];exact hb
   ·simp[s];omega
   ·intro j m;rw[q j];unfold more;split
    ·rename_i h;exact L j h
    ·rfl
   ·intro j;rw[q j];split
    ·exact A j
    ·decide
  ·rw[Below.heap_alloc w.drew _ b r];exact hb
 cases ao with
 | none=>obtain⟨rfl,rfl⟩:=U;exact p [] (by simp[adr,run_firstCells_none,cC]) rfl (fun j m=>by omega) (fun j=>by simp) (by omega)
 | some g=>
  obtain⟨u,l,D,hg,Z,hf,t⟩:=U;by_cases d:n+R<=cap
  ·have K:=zgE w g n cap R (cC l) hg (by rw[xU];exact D) (by omega) (by omega) d;have hw:(cC l).toList.take n ++ dL R (fun _=>0) ++ (cC l).toList.drop (n + (dL R fun _=>0).length)=(cC (Go.Proofs.YtfmgnljlkdmndaaGreatDoor.M.lay l n R fun _=>0)).toList:=by
    rw[<-xO l n R (fun _=>0) (dL R fun _=>0) rfl]
   refine⟨g,cap,_,K,?_,?_⟩
   ·refine IE (cap:=cap) hc y ?_ u (Go.Proofs.YtfmgnljlkdmndaaGreatDoor.M.lay l n R fun _=>0) ?_ ?_ d ?_ ?_ ((Kt.refl _ w).setRow (fun _=>Or.inr rfl) _) (Or.inl rfl)
    ·rw[setRow_other _ _ _ _ (fun e=>u e.symm)];exact hb
    ·rw[DY _ _ _ _ (by omega)];exact D
    ·rw[setRow_heap w g _ _ _ _ hg,hw]
    ·intro j m;rw[sU _ _ _ _ (by omega)];unfold more;by_cases J:j<n
     ·rw[ac (by omega),ae J];exact hf j J
     ·rw[ae (by omega),ac J]
    ·intro j;rw[sU _ _ _ _ (by omega)];split
     ·decide
     ·exact t j
   ·rw[setRow_other _ _ _ _ (fun e=>u e.symm)];exact hb
  ·have T:(l.take n).length=n:=(by simp;omega);have G:∀ j,(l.take n).getD j 0=if j<n then l.getD j 0 else 0:=by
    intro j;simp only[List.getD,dc];split <;> rfl
   refine p (l.take n) ?_ T ?_ ?_ (by omega)
   ·have:=run_firstCells_some (P:=prog) w.drew i.size n ⟨g,0,none⟩ n cap (cC (l.take n)).toList (by rw[Q];simp[cC];omega) ?_
    ·simpa [adr] using this
    ·intro j v m;rw[Addr.add_lit];simp[cC,dc] at m;obtain⟨X,x,hx,rfl⟩:=m;have:w.cell? ⟨g,0+j,none⟩=some (.int .u8 x):=by simp[World.cell?,hg,cC,hx]
     exact this
   ·intro j m;rw[G j,ae m];exact hf j m
   ·intro j;rw[G j];split
    ·exact t j
    ·decide
theorem zc6{g:Array Oper}{o:Oper}{a:Act}{w:Wd}{K:Act->Wd->Prop}{Q:Exit->Act->Wd->Prop}{E:Prop}(m:o.guard=none)(s x:Operand)(j:o.op=Op.call { callee:=Callee.builtin Builtin.append,args:=#[s,x],argTypes:=#[34,22] }) (b ao bS R dl n f cap) (hc:Cfg bS R dl) (l:∃ k,n=k*R/\k+1<=dl)(hb:w.heap[b]?=some (.cells #[.int .u64 bS,.int .u64 R,.int .i64 dl,.slice (adr ao) n cap] 131 (0,0))) (q:uT w b ao n cap f)(hs:a.eval s=.slice (adr ao) n cap) (hx:a.eval x=.int .u64 R)(hK:∀ i c e,Hd (After w e b ao i c bS R dl n f)->e.cell? ⟨b,3,none⟩=some (.slice (adr ao) n cap)->e.frozen? ⟨b,3,none⟩=false->K (a.put o.dst (.slice (some ⟨i,0,none⟩) (n+R) c)) e):if Region.wanted o (yielded g a.tmps)=true then Oper.wp prog o a w K Q else E:=by
 have hw:Region.wanted o (yielded g a.tmps)=true:=by simp[Region.wanted,m]
 rw[ae hw];obtain⟨i,c,e,d,p,h⟩:=zf2 w b ao bS R dl n f cap hc l hb q;have d:=d o.type;unfold Oper.wp;simp[execOp,j,resolve,invoke,builtin,hs,hx,d,Result.andThen];exact hK i c e p (by simp[World.cell?,h]) (by simp[World.frozen?,h])
end M
end Go.Proofs.YtfmgnljlkdmndaaGreatDoor
