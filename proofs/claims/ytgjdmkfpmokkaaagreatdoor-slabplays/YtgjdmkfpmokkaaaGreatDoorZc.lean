import Derived.Laws.BitsAllLaws
import Derived.Test.YtgjdmkfpmokkaaaGreatDoorChecked
import Derived.WalkKit
import Derived.WalkSpells
import Derived.WalkLawsBesides
import Derived.Outline
import Derived.Laws.CopyOwn
import Derived.RegionTactic
import Derived.ChangeAlike
import Derived.Deep.RegionHeld3
import Derived.Deep.QuietTactic
import Derived.BigQuiet
set_option maxRecDepth 1000000
set_option maxHeartbeats 80000000
namespace Go.Proofs.YtgjdmkfpmokkaaaGreatDoor
theorem xe{α:Sort _}(a:α):∃ x,x=a:=⟨a,rfl⟩
set_option linter.unusedVariables false
theorem zgi(a b:Nat) : 2 ^ a≤2 ^ b↔a≤b:=Nat.pow_le_pow_iff_right (by decide)
theorem zdj(a b:Nat) : 2 ^ a<2 ^ b↔a<b:=Nat.pow_lt_pow_iff_right (by decide)
theorem zni(x k:Nat)(_hx:x<2 ^ 64):((x:Int)/2 ^ k)=((x/2 ^ k:Nat):Int):=by simp
end Go.Proofs.YtgjdmkfpmokkaaaGreatDoor
namespace Go.Proofs.YtgjdmkfpmokkaaaGreatDoor
open Go.RowKit
set_option linter.unusedVariables false
theorem hid{p:Prop}(h:p):Hid p:=h
theorem zaM{k:IntKind}{a b:Int}(h:a=b):Ending.returned (.int k a)=.returned (.int k b):=by rw[h]
theorem zac{a b:Bool}(h:a=b):Ending.returned (.bool a)=.returned (.bool b):=by rw[h]
theorem wrap_u64(n:Int):IntKind.u64.wrap n=n%2 ^ 64:=IntKind.wrap_u64 n
def wcs(ws:List Nat):Array Value:=(ws.map fun (x:Nat)=>Value.int .u64 (x:Int)).toArray
def zaN(m:Nat):List Nat:=List.replicate m 0
theorem zaX(m:Nat):(zaN m).length=m:=by simp[zaN]
theorem zcg(m i:Nat):(zaN m).getD i 0=0:=by
 simp[zaN,List.getD,List.getElem?_replicate];split <;> rfl
structure SetAt(w:World)(b c n:Nat)(ws:List Nat):Prop where
 ne:c≠b
 hb:w.heap[b]?=some (.cells #[.int .i64 (n:Int),.slice (some ⟨c,0,none⟩) ws.length ws.length] 217 (0,0))
 hc:w.heap[c]?=some (.cells (wcs ws) 24 (0,0))
 len:ws.length=(n+63)/64
 nle:n≤1048576
 ok:∀ i,i<ws.length→ws.getD i 0<2 ^ (min 64 (n-64*i))
theorem SetAt.cb0{w b c n ws}(h:SetAt w b c n ws):w.cell? ⟨b,0,none⟩=some (.int .i64 (n:Int)):=by simp[World.cell?,h.hb]
theorem SetAt.cb1{w b c n ws}(h:SetAt w b c n ws):w.cell? ⟨b,1,none⟩=some (.slice (some ⟨c,0,none⟩) ws.length ws.length):=by simp[World.cell?,h.hb]
theorem SetAt.cc{w b c n ws}(h:SetAt w b c n ws)(i:Nat)(hi:i<ws.length):w.cell? ⟨c,i,none⟩=some (.int .u64 ((ws.getD i 0:Nat):Int)):=by
 simp[World.cell?,h.hc,wcs,hi]
theorem SetAt.fb{w b c n ws}(h:SetAt w b c n ws)(i:Nat):w.frozen? ⟨b,i,none⟩=false:=by simp[World.frozen?,h.hb]
theorem SetAt.fc{w b c n ws}(h:SetAt w b c n ws)(i:Nat):w.frozen? ⟨c,i,none⟩=false:=by simp[World.frozen?,h.hc]
theorem SetAt.lt64{w b c n ws}(h:SetAt w b c n ws)(i:Nat):ws.getD i 0<2 ^ 64:=by
 by_cases hi:i<ws.length
 ·exact Nat.lt_of_lt_of_le (h.ok i hi) ((zgi _ _).2 (Nat.min_le_left _ _))
 ·have:ws.getD i 0=0:=by simp[List.getD,Nat.not_lt.1 hi]
  rw[this];decide
theorem zcM:(Tryz.prog.info? 24).map (fun i=>(i.zero,i.size,i.bytes))=some (some (.int .u64 0),1,8):=by kernel_rfl
theorem zg5(m:Nat):madeCells (Value.int .u64 0).cells (m*1)=wcs (zaN m):=by
 simp only[madeCells,wcs,zaN];apply Array.ext
 ·simp
 ·intro i h1 h2;have:i%1=0:=Nat.mod_one i;simp[Value.cells,this]
theorem zbq(m:Nat)(hm:m≤1048576)(w:World):
  (Instr.makeSlice 61 (.int .i64 (m:Int)) (.int .i64 (m:Int))).run Tryz.prog w=.ok (.slice (some ⟨w.heap.size,0,none⟩) m m) (w.alloc (.cells (wcs (zaN m)) 24)):=by
 obtain⟨i,hi,hz0,hz1,hz2⟩:=info_parts zcM;have:=run_make (P:=Tryz.prog) w 61 24 i (.int .u64 0) Tryz.underlying61 hi hz0 .i64 .i64 (m:Int) (m:Int) (by omega) (by omega) (by rw[hz2];omega) (by omega);rw[hz1] at this;simp only[Int.toNat_natCast,zg5] at this;exact this
def fit(n:Int):Nat:=if n<0 then 0 else if 1048576<n then 1048576 else n.toNat
theorem zg6(n:Nat)(hn:n≤1048576)(w:World):
  Calls Tryz.prog 136 #[.int .i64 (n:Int)] w fun e w'=>e=.returned (.pointer (some ⟨w.heap.size+1,0,none⟩))∧w'=(w.alloc (.cells (wcs (zaN ((n+63)/64))) 24)).alloc (.cells #[.int .i64 (n:Int),.slice (some ⟨w.heap.size,0,none⟩) ((n+63)/64) ((n+63)/64)] 217):=by
 obtain⟨m,hm⟩:=xe ((n+63)/64);rw[←hm];have hmk:=zbq m (by omega);have hq:((n:Int)+64-1)/64=(m:Int):=by omega
 clear hm;go_enter Tryz.func136,Tryz.ntmps136;go_wp2
 go_ret;exact⟨rfl,rfl⟩
def inR(n:Nat)(i:Int):Bool:=decide (0≤i∧i<n)
theorem zei(b c n:Nat)(ws:List Nat)(i:Int)(w:World)(h:SetAt w b c n ws):
  Calls Tryz.prog 180 #[.pointer (some ⟨b,0,none⟩),.int .i64 i] w fun e w'=>e=.returned (.bool (inR n i))∧w'=w:=by
 have h0:=h.cb0;have hn:=h.nle;clear h;by_cases hi : 0≤i
 ·go_enter Tryz.func180,Tryz.ntmps180;go_wp2
  go_ret;exact⟨zac (by simp[inR,hi]),rfl⟩
 ·go_enter Tryz.func180,Tryz.ntmps180;go_wp2
  go_ret;exact⟨zac (by simp[inR];omega),rfl⟩
def bit(ws:List Nat)(j:Nat):Bool:=(ws.getD (j/64) 0)/2 ^ (j%64)%2 == 1
def inS(n:Nat)(ws:List Nat)(i:Int):Bool:=inR n i && bit ws i.toNat
theorem zig(b c n:Nat)(ws:List Nat)(i:Int)(w:World)(h:SetAt w b c n ws):
  Calls Tryz.prog 181 #[.pointer (some ⟨b,0,none⟩),.int .i64 i] w fun e w'=>e=.returned (.bool (inS n ws i))∧w'=w:=by
 by_cases hi : 0≤i∧i<n
 ·obtain⟨k,rfl⟩:=Int.eq_ofNat_of_zero_le hi.1;have hl:=h.len;have hn:=h.nle;have hkn:k<n:=by omega
  obtain⟨q,hq⟩:=xe (k/64);obtain⟨r,hr⟩:=xe (k%64);have hql:q<ws.length:=by omega
  have hr64:r<64:=by omega
  have hcc:=h.cc q hql;have hlt:=h.lt64 q;have h1:=h.cb1;obtain⟨x,hx⟩:=xe (ws.getD q 0);rw[←hx] at hcc hlt;have hd:inR n (k:Int)=true:=by simpa [inR] using hi
  have E:Hid (((bits BinOp.and IntKind.u64 ((x:Int)/2 ^ r) 1) == 1)=inS n ws k):=by
   show _=_
   rw[zni x r hlt];have hd2:x/2 ^ r<2 ^ 64:=Nat.lt_of_le_of_lt (Nat.div_le_self _ _) hlt;have:=u64_and_nat (x/2 ^ r) 1 (by omega) (by decide);rw[nat_mask1] at this;rw[show(1:Int)=((1:Nat):Int)from rfl,this];unfold inS bit;rw[hd,Int.toNat_natCast,←hq,←hr,←hx,Bool.true_and,Bool.eq_iff_iff];simp only[beq_iff_eq];omega
  have hq1:(k:Int)/64=(q:Int):=by omega
  have hr1:(k:Int)%64=(r:Int):=by omega
  have HA:=hid h;have hkb:k≤1048576:=by omega
  clear hx h hi hl hq hr hkn;go_enter Tryz.func181,Tryz.ntmps181;go_wp2_with (go_at_call 180;refine(zei b c n ws _ _ HA.out).mono ?_;rintro e w' ⟨rfl,rfl⟩)
  go_ret;exact⟨zac E.out,rfl⟩
 ·have hd:inR n i=false:=by simp only[inR];exact decide_eq_false hi
  clear hi;go_enter Tryz.func181,Tryz.ntmps181;go_wp2_with (go_at_call 180;refine(zei b c n ws _ _ h).mono ?_;rintro e w' ⟨rfl,rfl⟩)
  go_ret;exact⟨zac (by simp[inS,hd]),rfl⟩
structure Kt(S:Nat→Prop)(w w':World):Prop where
 os:w'.os=w.os
 tape:w'.tape=w.tape
 output:w'.output=w.output
 size:w.heap.size≤w'.heap.size
 block:∀ k,k<w.heap.size→¬S k→w'.heap[k]?=w.heap[k]?
theorem Kt.refl(S:Nat→Prop)(w:World):Kt S w w:=⟨rfl,rfl,rfl,Nat.le_refl _,fun _ _ _=>rfl⟩
theorem Kt.trans{S T U:Nat→Prop}{a b c:World}(h:Kt S a b)(k:Kt T b c)(hS:∀ x,x<a.heap.size→S x→U x)(hT:∀ x,x<a.heap.size→T x→U x):Kt U a c:=
 ⟨k.os.trans h.os,k.tape.trans h.tape,k.output.trans h.output,Nat.le_trans h.size k.size,fun i hi hU=>(k.block i (Nat.lt_of_lt_of_le hi h.size) (fun x=>hU (hT i hi x))).trans (h.block i hi (fun x=>hU (hS i hi x)))⟩
theorem Kt.mono{S T:Nat→Prop}{a b:World}(h:Kt S a b)(hS:∀ x,x<a.heap.size→S x→T x):Kt T a b:=
 ⟨h.os,h.tape,h.output,h.size,fun i hi hU=>h.block i hi (fun x=>hU (hS i hi x))⟩
theorem Kt.below{S:Nat→Prop}{B:Nat}{a b:World}(h:Kt S a b)(hB:B≤a.heap.size)(hS:∀ x,S x→B≤x):Below B a b:=
 ⟨h.os,h.tape,h.output,h.size,fun i hi=>h.block i (by omega) (fun x=>by have:=hS i x;omega)⟩
theorem Kt.drew{S:Nat→Prop}{a b:World}(h:Kt S a b):Kt S a b.drew:=⟨h.os,h.tape,h.output,h.size,h.block⟩
theorem Kt.alloc{S:Nat→Prop}{a b:World}(h:Kt S a b)(o:Obj):Kt S a (b.alloc o):=
 ⟨h.os,h.tape,h.output,by simp;have:=h.size;omega,fun i hi hU=>by rw[Below.heap_alloc _ _ _ (by have:=h.size;omega)];exact h.block i hi hU⟩
theorem Kt.setCell{S:Nat→Prop}{a b:World}(h:Kt S a b){p:Addr}(hp:S p.block)(u:Value):Kt S a (b.setCell p u):=
 ⟨h.os,h.tape,h.output,by simp;exact h.size,fun i hi hU=>by rw[Below.heap_setCell b p u i (fun e=>hU (by rw[e];exact hp))];exact h.block i hi hU⟩
structure RawAt(w:World)(b c n:Nat)(ws:List Nat):Prop where
 ne:c≠b
 hb:w.heap[b]?=some (.cells #[.int .i64 (n:Int),.slice (some ⟨c,0,none⟩) ws.length ws.length] 217 (0,0))
 hc:w.heap[c]?=some (.cells (wcs ws) 24 (0,0))
 len:ws.length=(n+63)/64
 nle:n≤1048576
 lt:∀ i,ws.getD i 0<2 ^ 64
theorem SetAt.raw{w b c n ws}(h:SetAt w b c n ws):RawAt w b c n ws:=⟨h.ne,h.hb,h.hc,h.len,h.nle,h.lt64⟩
theorem RawAt.set{w b c n ws}(h:RawAt w b c n ws)(ok:∀ i,i<ws.length→ws.getD i 0<2 ^ (min 64 (n-64*i))):SetAt w b c n ws:=⟨h.ne,h.hb,h.hc,h.len,h.nle,ok⟩
theorem RawAt.cb0{w b c n ws}(h:RawAt w b c n ws):w.cell? ⟨b,0,none⟩=some (.int .i64 (n:Int)):=by simp[World.cell?,h.hb]
theorem RawAt.cb1{w b c n ws}(h:RawAt w b c n ws):w.cell? ⟨b,1,none⟩=some (.slice (some ⟨c,0,none⟩) ws.length ws.length):=by simp[World.cell?,h.hb]
theorem RawAt.cc{w b c n ws}(h:RawAt w b c n ws)(i:Nat)(hi:i<ws.length):w.cell? ⟨c,i,none⟩=some (.int .u64 ((ws.getD i 0:Nat):Int)):=by
 simp[World.cell?,h.hc,wcs,hi]
theorem RawAt.fc{w b c n ws}(h:RawAt w b c n ws)(i:Nat):w.frozen? ⟨c,i,none⟩=false:=by simp[World.frozen?,h.hc]
theorem RawAt.bc{w b c n ws}(h:RawAt w b c n ws):b<w.heap.size∧c<w.heap.size:=
 ⟨(Array.getElem?_eq_some_iff.1 h.hb).1,(Array.getElem?_eq_some_iff.1 h.hc).1⟩
theorem RawAt.kept{w w' b c n ws}{S:Nat→Prop}(h:RawAt w b c n ws)(k:Kt S w w')(hb:¬S b)(hc:¬S c):RawAt w' b c n ws:=
 ⟨h.ne,(k.block b h.bc.1 hb).trans h.hb,(k.block c h.bc.2 hc).trans h.hc,h.len,h.nle,h.lt⟩
theorem SetAt.kept{w w' b c n ws}{S:Nat→Prop}(h:SetAt w b c n ws)(k:Kt S w w')(hb:¬S b)(hc:¬S c):SetAt w' b c n ws:=
 (h.raw.kept k hb hc).set h.ok
theorem zaB(ws:List Nat)(q y:Nat)(hq:q<ws.length):(ws.set q y).getD q 0=y:=by simp[List.getD,hq]
theorem zbd(ws:List Nat)(q y i:Nat)(h:i≠q):(ws.set q y).getD i 0=ws.getD i 0:=by
 simp[List.getD,Ne.symm h]
theorem RawAt.write{w b c n ws}(h:RawAt w b c n ws)(q y:Nat)(hq:q<ws.length)(hy:y<2 ^ 64):RawAt (w.setCell ⟨c,q,none⟩ (.int .u64 (y:Int))) b c n (ws.set q y):=by
 refine⟨h.ne,?_,?_,by simpa using h.len,h.nle,?_⟩
 ·rw[Below.heap_setCell _ _ _ _ (fun e=>h.ne e.symm),h.hb];simp
 ·have hlt:=h.bc.2;have hv:=(Array.getElem?_eq_some_iff.1 h.hc).2;simp only[World.setCell];rw[Array.getElem?_modify,if_pos rfl,h.hc];simp[wcs,List.map_set]
 ·intro i;by_cases e:i=q
  ·subst e;rw[zaB ws i y hq];exact hy
  ·rw[zbd ws q y i e];exact h.lt i
theorem RawAt.drew{w b c n ws}(h:RawAt w b c n ws):RawAt w.drew b c n ws:=⟨h.ne,h.hb,h.hc,h.len,h.nle,h.lt⟩
theorem nH(w:World)(o:Obj):(w.alloc o).heap[w.heap.size]?=some o:=by
 show(w.heap.push o)[w.heap.size]?=_
 simp
theorem zdN(n:Int)(hlo : -9223372036854775808≤n)(hhi:n≤9223372036854775807)(w:World):
  Calls Tryz.prog 136 #[.int .i64 n] w fun e w'=>e=.returned (.pointer (some ⟨w.heap.size+1,0,none⟩))∧RawAt w' (w.heap.size+1) w.heap.size (fit n) (zaN ((fit n+63)/64))∧Kt (fun _=>False) w w'∧w'.heap.size=w.heap.size+2:=by
 have key:∀ (w':World) (N:Nat),N≤1048576→fit n=N→w'=(w.alloc (.cells (wcs (zaN ((N+63)/64))) 24)).alloc (.cells #[.int .i64 (N:Int),.slice (some ⟨w.heap.size,0,none⟩) ((N+63)/64) ((N+63)/64)] 217)→
   RawAt w' (w.heap.size+1) w.heap.size (fit n) (zaN ((fit n+63)/64))∧Kt (fun _=>False) w w'∧w'.heap.size=w.heap.size+2:=by
  intro w' N hN hf hw;rw[hf];subst hw;refine⟨⟨by omega,?_,?_,by simp[zaX],hN,?_⟩,((Kt.refl _ w).alloc _).alloc _,by simp⟩
  ·have:=nH (w.alloc (.cells (wcs (zaN ((N+63)/64))) 24)) (.cells #[.int .i64 (N:Int),.slice (some ⟨w.heap.size,0,none⟩) ((N+63)/64) ((N+63)/64)] 217);rw[World.size_alloc] at this;rw[this,zaX]
  ·rw[Below.heap_alloc _ _ _ (by simp),nH]
  ·intro i;rw[zcg];decide
 by_cases h1:n<0
 ·have hf:fit n=0:=by simp[fit,h1]
  have hmk:∀ w,(Instr.makeSlice 61 (.int .i64 0) (.int .i64 0)).run Tryz.prog w=.ok (.slice (some ⟨w.heap.size,0,none⟩) 0 0) (w.alloc (.cells (wcs (zaN 0)) 24)):=zbq 0 (by omega);have KEY:=hid (key _ 0 (by omega) hf rfl);clear key hf;go_enter Tryz.func136,Tryz.ntmps136;go_wp2
  go_ret;exact⟨rfl,KEY.out⟩
 ·by_cases h2 : 1048576<n
  ·have hf:fit n=1048576:=(by simp[fit,h1,h2]);have hmk:∀ w,(Instr.makeSlice 61 (.int .i64 16384) (.int .i64 16384)).run Tryz.prog w=.ok (.slice (some ⟨w.heap.size,0,none⟩) 16384 16384) (w.alloc (.cells (wcs (zaN 16384)) 24)):=zbq 16384 (by omega);have KEY:=hid (key _ 1048576 (by omega) hf rfl);clear key hf;go_enter Tryz.func136,Tryz.ntmps136;go_wp2
   go_ret;exact⟨rfl,KEY.out⟩
  ·obtain⟨k,rfl⟩:=Int.eq_ofNat_of_zero_le (by omega : 0≤n);have hf:fit (k:Int)=k:=(by simp[fit,h1,h2]);exact(zg6 k (by omega) w).mono fun e w' ⟨he,hw⟩=>⟨he,key w' k (by omega) hf hw⟩
theorem zlD(b c n:Nat)(ws:List Nat)(k:Nat)(w:World)(h:SetAt w b c n ws)(hk:k<n):
  Calls Tryz.prog 171 #[.pointer (some ⟨b,0,none⟩),.int .i64 (k:Int)] w fun e w'=>e=.returned (.bool true)∧RawAt w' b c n (ws.set (k/64) ((ws.getD (k/64) 0) ^^^ 2 ^ (k%64)))∧Kt (fun x=>x=c) w w'∧w'.heap.size=w.heap.size:=by
 obtain⟨q,hq⟩:=xe (k/64);obtain⟨r,hr⟩:=xe (k%64);rw[←hq,←hr];have hl:=h.len;have hn:=h.nle;have hql:q<ws.length:=by omega
 have hr64:r<64:=by omega
 have hcc:=h.cc q hql;have hlt:=h.lt64 q;have h1:=h.cb1;have hf:=h.fc q;obtain⟨x,hx⟩:=xe (ws.getD q 0);rw[←hx] at hcc hlt ⊢;have hd:inR n (k:Int)=true:=by simp only[inR];exact decide_eq_true (by omega)
 have hq1:(k:Int)/64=(q:Int):=by omega
 have hr1:(k:Int)%64=(r:Int):=by omega
 have hkb:k≤1048576:=by omega
 have hp : 2 ^ r<2 ^ 64:=(zdj r 64).2 hr64;have hy:x ^^^ 2 ^ r<2 ^ 64:=Nat.xor_lt_two_pow hlt hp;have E:bits BinOp.xor IntKind.u64 (x:Int) (2 ^ r)=((x ^^^ 2 ^ r:Nat):Int):=by
  have:=bits_xor_u64_nat x (2 ^ r) hlt hp;rw[←this];simp
 obtain⟨y,hyd⟩:=xe (x ^^^ 2 ^ r);rw[←hyd] at hy E ⊢;have fin:RawAt (w.setCell ⟨c,q,none⟩ (.int .u64 (y:Int))).drew b c n (ws.set q y)∧Kt (fun x=>x=c) w (w.setCell ⟨c,q,none⟩ (.int .u64 (y:Int))).drew∧(w.setCell ⟨c,q,none⟩ (.int .u64 (y:Int))).drew.heap.size=w.heap.size:=
  ⟨(h.raw.write q y hql hy).drew,((Kt.refl (fun x=>x=c) w).setCell (p:=⟨c,q,none⟩) rfl _).drew,by simp⟩
 have FIN:=hid fin;have HA:=hid h;have hw2:IntKind.u64.wrap (2 ^ r)=2 ^ r:=by
  rw[wrap_u64];have:((2:Int) ^ r)=((2 ^ r:Nat):Int):=by simp
  rw[this];obtain⟨p,hp2⟩:=xe (2 ^ r);rw[←hp2] at hp ⊢;omega
 clear hx h hl hq hr hk fin hyd hp;go_enter Tryz.func171,Tryz.ntmps171;go_wp2_with (go_at_call 180;refine(zei b c n ws _ _ HA.out).mono ?_;rintro e w' ⟨rfl,rfl⟩)
 go_region
 all_goals (go_wp2;go_ret;exact⟨rfl,FIN.out⟩)
def zfn(ws:List Nat)(k:Nat):List Nat:=ws.set (k/64) ((ws.getD (k/64) 0) ^^^ 2 ^ (k%64))
theorem zih(ws:List Nat)(k:Nat):(zfn ws k).length=ws.length:=by simp[zfn]
theorem zj6(b c n:Nat)(ws:List Nat)(k:Nat)(w:World)(h:SetAt w b c n ws)(hk:k<n):
  Calls Tryz.prog 171 #[.pointer (some ⟨b,0,none⟩),.int .i64 (k:Int)] w fun e w'=>e=.returned (.bool true)∧SetAt w' b c n (zfn ws k)∧Kt (fun x=>x=c) w w'∧w'.heap.size=w.heap.size:=by
 refine(zlD b c n ws k w h hk).mono ?_;rintro e w' ⟨he,hr,hk',hs⟩;refine⟨he,hr.set ?_,hk',hs⟩;intro i hi;have hl:=h.len;by_cases e:i=k/64
 ·subst e;rw[zaB _ _ _ (by omega)];exact Nat.xor_lt_two_pow (h.ok _ (by omega)) ((zdj _ _).2 (by omega))
 ·rw[zbd _ _ _ _ e];exact h.ok i (by simpa using hi)
theorem zlE(b c n:Nat)(ws:List Nat)(i:Int)(w:World)(h:SetAt w b c n ws)(hd:inR n i=false):
  Calls Tryz.prog 171 #[.pointer (some ⟨b,0,none⟩),.int .i64 i] w fun e w'=>e=.returned (.bool false)∧w'=w:=by
 go_enter Tryz.func171,Tryz.ntmps171;go_wp2_with (go_at_call 180;refine(zei b c n ws _ _ h).mono ?_;rintro e w' ⟨rfl,rfl⟩)
 go_ret;exact⟨rfl,rfl⟩
theorem zj7{n:Nat}{i:Int}(h:inR n i=true):∃ k:Nat,i=k∧k<n:=by
 simp[inR] at h;obtain⟨k,rfl⟩:=Int.eq_ofNat_of_zero_le h.1;exact⟨k,rfl,by omega⟩
def zcK(n:Nat)(ws:List Nat)(i:Int):List Nat:=if inR n i=true then zfn ws i.toNat else ws
theorem zj8(b c n:Nat)(ws:List Nat)(i:Int)(w:World)(h:SetAt w b c n ws):
  Calls Tryz.prog 171 #[.pointer (some ⟨b,0,none⟩),.int .i64 i] w fun e w'=>e=.returned (.bool (inR n i))∧SetAt w' b c n (zcK n ws i)∧Kt (fun x=>x=c) w w'∧w'.heap.size=w.heap.size:=by
 cases hd:inR n i with
 | true=>
  obtain⟨k,rfl,hk⟩:=zj7 hd;refine(zj6 b c n ws k w h hk).mono ?_;rintro e w' ⟨he,h1⟩;simp only[zcK,hd,if_true,Int.toNat_natCast];exact⟨he,h1⟩
 | false=>
  refine(zlE b c n ws i w h hd).mono ?_;rintro e w' ⟨he,hw⟩;subst hw;have e1:zcK n ws i=ws:=by simp[zcK,hd]
  rw[e1];exact⟨he,h,Kt.refl _ _,rfl⟩
def zej(n:Nat)(ws:List Nat):List Nat:=if n%64=0 then ws else ws.set (ws.length-1) (ws.getD (ws.length-1) 0%2 ^ (n%64))
theorem zgj(r:Nat):((2:Int) ^ r)=((2 ^ r:Nat):Int):=by simp
theorem zmy(r:Nat)(h:r<64) : 1≤(2:Int) ^ r∧(2:Int) ^ r<18446744073709551616:=by
 have h1:=(zdj r 64).2 h;have h2:=Nat.two_pow_pos r;rw[zgj];obtain⟨p,hp⟩:=xe (2 ^ r);rw[←hp] at h1 h2 ⊢;omega
theorem zj9(r:Nat)(h:r<64):IntKind.u64.wrap (2 ^ r)=2 ^ r:=by
 have:=zmy r h;rw[wrap_u64];omega
theorem zlF(b c n:Nat)(ws:List Nat)(w:World)(h:RawAt w b c n ws):
  Calls Tryz.prog 185 #[.pointer (some ⟨b,0,none⟩)] w fun e w'=>e=.returned (.tuple #[])∧RawAt w' b c n (zej n ws)∧Kt (fun x=>x=c) w w'∧w'.heap.size=w.heap.size:=by
 have h0:=h.cb0;have hn:=h.nle;obtain⟨r,hr⟩:=xe (n%64);have hr1:(n:Int)%64=(r:Int):=by omega
 have hr64:r<64:=by omega
 by_cases hz:n%64=0
 ·have e1:zej n ws=ws:=by simp[zej,hz]
  rw[e1];have:r=0:=by omega
  subst this;clear hr e1 hz;go_enter Tryz.func185,Tryz.ntmps185;go_wp2
  go_end0
  exact⟨rfl,h,Kt.refl _ _,rfl⟩
 ·have hl:=h.len;obtain⟨q,hq⟩:=xe (ws.length-1);have hql:q<ws.length:=by omega
  have hcc:=h.cc q hql;have hlt:=h.lt q;have h1:=h.cb1;have hf:=h.fc q;obtain⟨x,hx⟩:=xe (ws.getD q 0);have e1:zej n ws=ws.set q (x%2 ^ r):=by simp only[zej,hz,if_false,hx,hq,hr]
  rw[e1];rw[←hx] at hcc hlt;have hy:x%2 ^ r<2 ^ 64:=Nat.lt_of_le_of_lt (Nat.mod_le _ _) hlt;have E:bits BinOp.and IntKind.u64 (x:Int) (2 ^ r-1)=((x%2 ^ r:Nat):Int):=by
   have hp:=Nat.two_pow_pos r;have hp2:=(zdj r 64).2 hr64;have:=u64_and_nat x (2 ^ r-1) hlt (by omega);rw[Nat.and_two_pow_sub_one_eq_mod] at this;rw[←this];congr 1
   rw[zgj];omega
  obtain⟨y,hyd⟩:=xe (x%2 ^ r);rw[←hyd] at hy E ⊢;have hq1:(ws.length:Int)-1=(q:Int):=by omega
  have hpb:=zmy r hr64;have hpb1:=hpb.1;have hpb2:=hpb.2;have hw:=zj9 r hr64;have hrn:((r:Int) != 0)=true:=by rw[bne_iff_ne];omega
  have hlm:ws.length≤1048576:=by omega
  have fin:RawAt (w.setCell ⟨c,q,none⟩ (.int .u64 (y:Int))).drew b c n (ws.set q y)∧Kt (fun x=>x=c) w (w.setCell ⟨c,q,none⟩ (.int .u64 (y:Int))).drew∧(w.setCell ⟨c,q,none⟩ (.int .u64 (y:Int))).drew.heap.size=w.heap.size:=
   ⟨(h.write q y hql hy).drew,((Kt.refl (fun x=>x=c) w).setCell (p:=⟨c,q,none⟩) rfl _).drew,by simp⟩
  have FIN:=hid fin;clear hx h hl hq hr fin hyd hpb e1 hz;go_enter Tryz.func185,Tryz.ntmps185;go_wp2
  go_region
  all_goals (go_wp2;go_end0;exact⟨rfl,FIN.out⟩)
def Src(w:World)(v:Value)(zs:List Nat):Prop:=
 (∀ i,zs.getD i 0<2 ^ 64)∧∃ ao cap,v=.slice ao zs.length cap∧(zs=[]∨∃ a:Addr,ao=some a∧a.block<w.heap.size∧∀ j,j<zs.length→w.cell? (a.add j)=some (.int .u64 ((zs.getD j 0:Nat):Int)))
theorem zdA(a:Addr)(j:Nat):(a.add j).block=a.block:=by unfold Addr.add;split <;> rfl
theorem Src.kept{w w':World}{S:Nat→Prop}{v:Value}{zs:List Nat}(h:Src w v zs)(k:Kt S w w')(hS:∀ b,v.ownBlock=some b→¬S b):Src w' v zs:=by
 obtain⟨h1,ao,cap,rfl,h2⟩:=h;refine⟨h1,ao,cap,rfl,?_⟩;rcases h2 with h2|⟨a,rfl,hb,hc⟩
 ·exact Or.inl h2
 ·refine Or.inr ⟨a,rfl,Nat.lt_of_lt_of_le hb k.size,fun j hj=>?_⟩;rw[←hc j hj];exact World.cell?_of_block (by rw[zdA];exact k.block _ hb (hS a.block rfl))
def over(zs ws:List Nat):List Nat:=zs.take ws.length ++ ws.drop zs.length
theorem zch(zs ws:List Nat):(over zs ws).length=ws.length:=by simp[over];omega
theorem zgk(zs ws:List Nat)(i:Nat)(hi:i<ws.length):(over zs ws).getD i 0=if i<zs.length then zs.getD i 0 else ws.getD i 0:=by
 simp only[over,List.getD,List.getElem?_append,List.length_take,List.getElem?_take,List.getElem?_drop];by_cases h:i<zs.length
 ·have h0:i<min ws.length zs.length:=by omega
  simp[h,hi,h0]
 ·have h2:¬i<min ws.length zs.length:=by omega
  simp only[h2,h,if_false];by_cases h3:zs.length≤ws.length
  ·congr 2;omega
  ·have:¬i<ws.length:=by omega
   exact absurd hi this
theorem zfo(zs ws:List Nat)(cs:List Value)(hcs:cs=(zs.take ws.length).map fun (x:Nat)=>Value.int .u64 (x:Int)):((wcs ws).toList.take 0 ++ cs ++ (wcs ws).toList.drop (0 + cs.length)).toArray=wcs (over zs ws):=by
 subst hcs;simp only[wcs,over,List.take_zero,List.nil_append,Nat.zero_add,List.map_append,List.length_map,List.length_take];congr 2
 rw[←List.map_drop];by_cases h:zs.length≤ws.length
 ·rw[Nat.min_eq_right h]
 ·rw[Nat.min_eq_left (by omega),List.drop_eq_nil_of_le (Nat.le_refl _),List.drop_eq_nil_of_le (by omega)]
theorem zdO(w:World)(g:Nat)(ds:List Nat)(v:Value)(zs:List Nat)(hg:w.heap[g]?=some (.cells (wcs ds) 24 (0,0)))(hs:Src w v zs):
  ∃ (k:Nat) (w2:World),(∀ ty,(Builtin.copy_ #[61,61] ty #[.slice (some ⟨g,0,none⟩) ds.length ds.length,v]).run Tryz.prog w=.ok (goInt k) w2)∧w2.heap[g]?=some (.cells (wcs (over zs ds)) 24 (0,0))∧Kt (fun x=>x=g) w w2∧w2.heap.size=w.heap.size:=by
 obtain⟨i,hi,hz0,hz1,hz2⟩:=info_parts zcM;obtain⟨h1,ao,cap,rfl,h2⟩:=hs;rcases h2 with rfl|⟨a,rfl,hb,hc⟩
 ·refine⟨0,w,fun ty=>?_,?_,Kt.refl _ _,rfl⟩
  ·exact run_copy_none (P:=Tryz.prog) w 61 61 ty 24 (some ⟨g,0,none⟩) ao ds.length ds.length 0 cap Tryz.underlying61 (by rw[hi];simp[hz1]) (Nat.zero_min _)
  ·simpa [over] using hg
 ·obtain⟨cs,hcs⟩:∃ cs:List Value,cs=(zs.take ds.length).map fun (x:Nat)=>Value.int .u64 (x:Int):=⟨_,rfl⟩
  have hlen:cs.length=min zs.length ds.length:=by rw[hcs];simp;omega
  refine⟨cs.length,w.setRow g ((wcs ds).toList.take 0 ++ cs ++ (wcs ds).toList.drop (0 + cs.length)).toArray,fun ty=>?_,?_,?_,by simp[World.setRow]⟩
  ·refine run_copy_row (P:=Tryz.prog) w 61 61 ty 24 g 0 ds.length ds.length a zs.length cap (wcs ds) 24 cs Tryz.underlying61 (by rw[hi];simp[hz1]) hg hlen ?_ ?_ ?_
   ·intro j u hj;rw[hcs] at hj;simp only[List.getElem?_map,List.getElem?_take] at hj;have hjl:j<cs.length:=by
     rcases Nat.lt_or_ge j cs.length with h|h
     ·exact h
     ·exfalso
      have:¬j<ds.length∨¬j<zs.length:=by omega
      rcases this with h3|h3
      ·simp[h3] at hj
      ·simp[Nat.not_lt.1 h3] at hj
    have h3:j<ds.length:=(by omega);have h4:j<zs.length:=(by omega);simp[h3,h4] at hj;rw[hc j h4,←hj];simp[List.getD,h4]
   ·simp[wcs];omega
   ·intro u hu;rw[hcs] at hu;obtain⟨_,_,rfl⟩:=List.mem_map.1 hu;rfl
  ·rw[setRow_heap w g (wcs ds) _ 24 (0,0) hg,zfo zs ds cs hcs]
  ·exact⟨rfl,rfl,rfl,by simp[World.setRow],fun k hk hn=>setRow_other w g k _ hn⟩
def ofW(zs:List Nat)(N:Nat):List Nat:=zej N (over zs (zaN ((N+63)/64)))
theorem zii(n:Nat)(ws:List Nat):(zej n ws).length=ws.length:=by unfold zej;split <;> simp
theorem zfp(zs:List Nat)(N:Nat):(ofW zs N).length=(N+63)/64:=by rw[ofW,zii,zch,zaX]
theorem zcy(zs:List Nat)(m i:Nat)(hi:i<m):(over zs (zaN m)).getD i 0=zs.getD i 0:=by
 rw[zgk _ _ _ (by rw[zaX];exact hi),zcg];split
 ·rfl
 ·simp[List.getD,Nat.not_lt.1 (by assumption)]
theorem zij(zs:List Nat)(N i:Nat)(hz:∀ i,zs.getD i 0<2 ^ 64)(hi:i<(N+63)/64):(ofW zs N).getD i 0=zs.getD i 0%2 ^ (min 64 (N-64*i)):=by
 have hl:(over zs (zaN ((N+63)/64))).length=(N+63)/64:=by rw[zch,zaX]
 unfold ofW zej;split
 ·rename_i h0;rw[zcy _ _ _ hi,Nat.min_eq_left (by omega),Nat.mod_eq_of_lt (hz i)]
 ·rename_i h0;rw[hl];by_cases e:i=(N+63)/64-1
  ·rw[←e,zaB _ _ _ (by omega),zcy _ _ _ hi];congr 2
   omega
  ·rw[zbd _ _ _ _ e,zcy _ _ _ hi,Nat.min_eq_left (by omega),Nat.mod_eq_of_lt (hz i)]
theorem zmz(zs:List Nat)(N:Nat)(hz:∀ i,zs.getD i 0<2 ^ 64)(i:Nat)(hi:i<(ofW zs N).length):(ofW zs N).getD i 0<2 ^ (min 64 (N-64*i)):=by
 rw[zfp] at hi;rw[zij zs N i hz hi];exact Nat.mod_lt _ (Nat.two_pow_pos _)
theorem RawAt.copied{w w2 b c n ws}(h:RawAt w b c n ws)(zs:List Nat)(hz:∀ i,zs.getD i 0<2 ^ 64)(hg:w2.heap[c]?=some (.cells (wcs (over zs ws)) 24 (0,0)))(k:Kt (fun x=>x=c) w w2):RawAt w2 b c n (over zs ws):=by
 refine⟨h.ne,?_,hg,by rw[zch];exact h.len,h.nle,?_⟩
 ·rw[k.block b h.bc.1 (fun e=>h.ne e.symm),h.hb,zch]
 ·intro i;by_cases hi:i<ws.length
  ·rw[zgk _ _ _ hi];split
   ·exact hz i
   ·exact h.lt i
  ·have:(over zs ws).getD i 0=0:=by simp[List.getD,zch,Nat.not_lt.1 hi]
   rw[this];decide
theorem zmA(v:Value)(zs:List Nat)(n:Int)(hlo : -9223372036854775808≤n)(hhi:n≤9223372036854775807)(w:World)(hs:Src w v zs):
  Calls Tryz.prog 182 #[v,.int .i64 n] w fun e w'=>e=.returned (.pointer (some ⟨w.heap.size+1,0,none⟩))∧SetAt w' (w.heap.size+1) w.heap.size (fit n) (ofW zs (fit n))∧Kt (fun _=>False) w w'∧w'.heap.size=w.heap.size+2:=by
 have HS:=hid hs;clear hs;go_enter Tryz.func182,Tryz.ntmps182;go_wp2_with (first|(go_at_call 136;refine(zdN n hlo hhi _).mono ?_;rintro e w1 ⟨rfl,hraw,hk,hsz⟩;have h1:=hraw.cb1;obtain⟨kk,w2,hcp,hg2,hk2,hs2⟩:=zdO w1 w.heap.size _ v zs hraw.hc (HS.out.kept hk (fun _ _ x=>x));have HR:=hid (hraw.copied zs HS.out.1 hg2 hk2);have HK:=hid hk;have HK2:=hid hk2;have HZ:=hid hsz;have HZ2:=hid hs2;clear hraw hk hk2 hg2 hsz hs2)|(go_at_call 185;refine(zlF _ _ _ _ _ HR.out).mono ?_;rintro e w3 ⟨rfl,hr3,hk3,hs3⟩))
 go_ret;have e1:=HZ.out;have e2:=HZ2.out;exact⟨rfl,hr3.set (zmz zs _ HS.out.1),(HK.out.trans (U:=fun _=>False) HK2.out (fun _ _ x=>x) (fun x hx e=>by omega)).trans hk3 (fun _ _ x=>x) (fun x hx e=>by omega),by omega⟩
theorem zgl(m:Nat)(hm:m≤1048576)(w:World):
  ∃ w1,(Instr.makeSlice 61 (.int .i64 (m:Int)) (.int .i64 (m:Int))).run Tryz.prog w=.ok (.slice (some ⟨w.heap.size,0,none⟩) m m) w1∧w1.heap[w.heap.size]?=some (.cells (wcs (zaN m)) 24 (0,0))∧Kt (fun _=>False) w w1∧w1.heap.size=w.heap.size+1:=
 ⟨_,zbq m hm w,nH _ _,(Kt.refl _ w).alloc _,by simp⟩
theorem zeS{w:World}{g:Nat}{zs:List Nat}(hg:w.heap[g]?=some (.cells (wcs zs) 24 (0,0)))(hz:∀ i,zs.getD i 0<2 ^ 64)(cap:Nat):Src w (.slice (some ⟨g,0,none⟩) zs.length cap) zs:=by
 refine⟨hz,some ⟨g,0,none⟩,cap,rfl,Or.inr ⟨⟨g,0,none⟩,rfl,(Array.getElem?_eq_some_iff.1 hg).1,fun j hj=>?_⟩⟩;rw[Addr.add_lit];simp[World.cell?,hg,wcs,hj]
theorem zik(zs ws:List Nat)(h:zs.length=ws.length):over zs ws=zs:=by
 simp[over,h];rw[←h,List.take_of_length_le (Nat.le_refl _)]
theorem zil(b c n:Nat)(ws:List Nat)(w:World)(h:SetAt w b c n ws):
  Calls Tryz.prog 123 #[.pointer (some ⟨b,0,none⟩)] w fun e w'=>e=.returned (.slice (some ⟨w.heap.size,0,none⟩) ws.length ws.length)∧w'.heap[w.heap.size]?=some (.cells (wcs ws) 24 (0,0))∧Kt (fun _=>False) w w'∧w'.heap.size=w.heap.size+1:=by
 have hl:=h.len;have hn:=h.nle;obtain⟨w1,hmk,hg1,hk1,hs1⟩:=zgl ws.length (by omega) w;have h1:=h.cb1;have hA1:=h.kept hk1 (fun x=>x) (fun x=>x);have h11:=hA1.cb1;obtain⟨kk,w2,hcp,hg2,hk2,hs2⟩:=zdO w1 w.heap.size (zaN ws.length) (.slice (some ⟨c,0,none⟩) ws.length ws.length) ws hg1 (zeS hA1.hc hA1.lt64 _);rw[zik ws (zaN ws.length) (zaX _).symm] at hg2;rw[zaX] at hcp;have hlm:ws.length≤1048576:=by omega
 have FIN:=hid (show w2.heap[w.heap.size]?=some (.cells (wcs ws) 24 (0,0))∧Kt (fun _=>False) w w2∧w2.heap.size=w.heap.size+1 from⟨hg2,hk1.trans hk2 (fun _ _ x=>x) (fun x hx e=>by omega),by omega⟩);clear h hA1 hk1 hk2 hg1 hg2 hs1 hs2 hl;go_enter Tryz.func123,Tryz.ntmps123;go_wp2
 go_ret;exact⟨rfl,FIN.out⟩
theorem SetAt.stored{w:World}{b c n ws b' c' n' ws'}(hB:SetAt w b c n ws)(hA:SetAt w b' c' n' ws')(hne:c'≠b):
  SetAt ((w.setCell ⟨b,0,none⟩ (.int .i64 (n':Int))).setCell ⟨b,1,none⟩ (.slice (some ⟨c',0,none⟩) ws'.length ws'.length)) b c' n' ws':=by
 refine⟨hne,?_,?_,hA.len,hA.nle,hA.ok⟩
 ·simp[World.setCell,Array.getElem?_modify,hB.hb]
 ·rw[Below.heap_setCell _ _ _ _ hne,Below.heap_setCell _ _ _ _ hne];exact hA.hc
theorem zg7(b c n:Nat)(ws:List Nat)(i:Int)(hlo : -9223372036854775808≤i)(hhi:i≤9223372036854775807)(w:World)(h:SetAt w b c n ws):
  Calls Tryz.prog 174 #[.pointer (some ⟨b,0,none⟩),.int .i64 i] w fun e w'=>e=.returned (.tuple #[])∧SetAt w' b w.heap.size (fit i) (ofW ws (fit i))∧Kt (fun x=>x=b) w w'∧w'.heap.size=w.heap.size+2:=by
 have h1:=h.cb1;have HA:=hid h;have HS:=hid (zeS h.hc h.lt64 ws.length);clear h;go_enter Tryz.func174,Tryz.ntmps174;go_wp2_with (go_at_call 182;refine(zmA _ ws i hlo hhi _ HS.out).mono ?_;rintro e w1 ⟨rfl,hA1,hk1,hs1⟩;have g0:=hA1.cb0;have g1:=hA1.cb1;have hB:=HA.out.kept hk1 (fun x=>x) (fun x=>x);have b0:=hB.cb0;have b1:=hB.cb1;have f0:=hB.fb 0;have f1:=hB.fb 1;have HA1:=hid hA1;have HB:=hid hB;have HK:=hid hk1;have HZ:=hid hs1;clear hA1 hB hk1 hs1)
 go_end0
 have hb:=HA.out.raw.bc;have hz:=HZ.out;refine⟨rfl,HB.out.stored HA1.out (by omega),?_,by simp;omega⟩;exact((HK.out.mono (T:=fun x=>x=b) (fun _ _ x=>x.elim)).setCell (p:=⟨b,0,none⟩) rfl _).setCell (p:=⟨b,1,none⟩) rfl _
def nO:Nat→Prop:=fun _=>False
theorem nT{a b c:World}(h:Kt nO a b)(k:Kt nO b c):Kt nO a c:=h.trans k (fun _ _ x=>x) (fun _ _ x=>x)
theorem Kt.setNew{S:Nat→Prop}{a b:World}(h:Kt S a b){p:Addr}(hp:p.block<a.heap.size→S p.block)(u:Value):Kt S a (b.setCell p u):=
 ⟨h.os,h.tape,h.output,by simp;exact h.size,fun i hi hU=>by rw[Below.heap_setCell b p u i (fun e=>hU (by rw[e];exact hp (e▸hi)))];exact h.block i hi hU⟩
theorem Kt.drewN{S:Nat→Prop}{a b:World}(h:Kt S a b)(n:Nat):Kt S a (b.drewN n):=⟨h.os,h.tape,h.output,h.size,h.block⟩
theorem zcx{w:World}{p:Addr}{v:Value}(h:w.cell? p=some v):p.block<w.heap.size:=by
 rcases Nat.lt_or_ge p.block w.heap.size with h1|h1
 ·exact h1
 ·exfalso
  simp[World.cell?,Array.getElem?_eq_none h1] at h
theorem Kt.cell{S:Nat→Prop}{a b:World}(h:Kt S a b){p:Addr}{v:Value}(hp:¬S p.block)(hc:a.cell? p=some v):b.cell? p=some v:=by
 rw[←hc];exact World.cell?_of_block (h.block _ (zcx hc) hp)
theorem zaa{w:World}{k:Nat}{cs:Array Value}{t:TypeId}{z:Nat×Nat}(h:w.heap[k]?=some (.cells cs t z))(i:Nat)(u:Value):(w.setCell ⟨k,i,none⟩ u).heap[k]?=some (.cells (cs.setIfInBounds i u) t z):=by
 obtain⟨hlt,hk⟩:=Array.getElem?_eq_some_iff.1 h;show(w.heap.modify k _)[k]?=_
 rw[Array.getElem?_eq_getElem (by rw[Array.size_modify];exact hlt),Array.getElem_modify_self,hk];rfl
theorem lH{w:World}{k:Nat}{o:Obj}(h:w.heap[k]?=some o):k<w.heap.size:=(Array.getElem?_eq_some_iff.1 h).1
theorem zbo(w:World)(A B:Obj):((w.alloc A).alloc B).heap[w.heap.size+1]?=some B:=by
 have:=nH (w.alloc A) B;rwa [World.size_alloc] at this
theorem zag{w:World}{x y:Nat}{c d:Array Value}{s t:TypeId}{z u:Nat×Nat}(h:w.heap[x]?=some (.cells c s z))(k:w.heap[y]?=some (.cells d t u))(hst:s≠t):x≠y:=by
 rintro rfl;rw[h] at k
 cases k
 exact hst rfl
def adr(ao:Option Nat):Option Addr:=ao.map fun g=>⟨g,0,none⟩
structure Pg where
 kd:Int
 od:Int
 cl:Int
 lv:Int
 nx:Int
 pv:Int
 fs:Int
 b0:Nat
 b1:Nat
 b2:Nat
 b3:Nat
deriving DecidableEq
def Pg.fld(p:Pg):Nat→Value
 | 0=>.int .i64 p.kd
 | 1=>.int .i64 p.od
 | 2=>.int .i64 p.cl
 | 3=>.int .i64 p.lv
 | 4=>.int .i64 p.nx
 | 5=>.int .i64 p.pv
 | 6=>.int .i64 p.fs
 | 7=>.int .u64 (p.b0:Int)
 | 8=>.int .u64 (p.b1:Int)
 | 9=>.int .u64 (p.b2:Int)
 | _=>.int .u64 (p.b3:Int)
def bkP(k o:Int):Pg:=⟨k,o,0,0,-1,-1,-1,0,0,0,0⟩
def zab:Pg:=⟨0,0,0,0,0,0,0,0,0,0,0⟩
def RowC(w:World)(g n:Nat)(c:Nat→Nat→Value):Prop:=
 ∃ cs:Array Value,w.heap[g]?=some (.cells cs 49 (0,0))∧cs.size=n*11∧∀ i,i<n→∀ j,j<11→cs[i*11+j]?=some (c i j)
def Row(w:World)(g n:Nat)(pg:Nat→Pg):Prop:=RowC w g n (fun i j=>(pg i).fld j)
def upc(c:Nat→Nat→Value)(i j:Nat)(v:Value):Nat→Nat→Value:=fun a b=>if a=i∧b=j then v else c a b
def upp(pg:Nat→Pg)(i:Nat)(p:Pg):Nat→Pg:=fun a=>if a=i then p else pg a
theorem RowC.lt{w g n c}(h:RowC w g n c):g<w.heap.size:=by
 obtain⟨cs,hg,_⟩:=h;exact lH hg
theorem RowC.set{w g n c}(h:RowC w g n c)(i j:Nat)(hi:i<n)(hj:j<11)(v:Value):RowC (w.setCell ⟨g,i*11+j,none⟩ v) g n (upc c i j v):=by
 obtain⟨cs,hg,hs,hc⟩:=h;refine⟨_,zaa hg _ _,by simpa using hs,fun a ha b hb=>?_⟩;rw[Array.getElem?_setIfInBounds];unfold upc;by_cases e:a=i∧b=j
 ·obtain⟨rfl,rfl⟩:=e;rw[if_pos rfl,if_pos (by omega),if_pos ⟨rfl,rfl⟩]
 ·rw[if_neg (by omega),if_neg e];exact hc a ha b hb
theorem RowC.kept{w w' g n c}{S:Nat→Prop}(h:RowC w g n c)(k:Kt S w w')(hS:¬S g):RowC w' g n c:=by
 obtain⟨cs,hg,hs,hc⟩:=h;exact⟨cs,(k.block g (lH hg) hS).trans hg,hs,hc⟩
theorem RowC.congr{w g n c c'}(h:RowC w g n c)(he:∀ i,i<n→∀ j,j<11→c i j=c' i j):RowC w g n c':=by
 obtain⟨cs,hg,hs,hc⟩:=h;exact⟨cs,hg,hs,fun i hi j hj=>(hc i hi j hj).trans (congrArg some (he i hi j hj))⟩
theorem Row.kept{w w' g n pg}{S:Nat→Prop}(h:Row w g n pg)(k:Kt S w w')(hS:¬S g):Row w' g n pg:=RowC.kept h k hS
theorem Row.congr{w g n pg pg'}(h:Row w g n pg)(he:∀ i,i<n→pg i=pg' i):Row w g n pg':=RowC.congr h (fun i hi j _=>by rw[he i hi])
theorem Row.cell{w g n pg}(h:Row w g n pg)(i:Nat)(hi:i<n):
  w.cell? ⟨g,i*11,none⟩=some (.int .i64 (pg i).kd)∧w.cell? ⟨g,i*11+1,none⟩=some (.int .i64 (pg i).od)∧w.cell? ⟨g,i*11+2,none⟩=some (.int .i64 (pg i).cl)∧w.cell? ⟨g,i*11+3,none⟩=some (.int .i64 (pg i).lv)∧w.cell? ⟨g,i*11+4,none⟩=some (.int .i64 (pg i).nx)∧w.cell? ⟨g,i*11+5,none⟩=some (.int .i64 (pg i).pv)∧w.cell? ⟨g,i*11+6,none⟩=some (.int .i64 (pg i).fs)∧w.cell? ⟨g,i*11+7,none⟩=some (.int .u64 ((pg i).b0:Int))∧w.cell? ⟨g,i*11+8,none⟩=some (.int .u64 ((pg i).b1:Int))∧w.cell? ⟨g,i*11+9,none⟩=some (.int .u64 ((pg i).b2:Int))∧w.cell? ⟨g,i*11+10,none⟩=some (.int .u64 ((pg i).b3:Int)):=by
 obtain⟨cs,hg,_,hc⟩:=h;have key:∀ j,j<11→w.cell? ⟨g,i*11+j,none⟩=some ((pg i).fld j):=fun j hj=>by
  have:=hc i hi j hj;simpa [World.cell?,hg] using this
 exact⟨key 0 (by decide),key 1 (by decide),key 2 (by decide),key 3 (by decide),key 4 (by decide),key 5 (by decide),key 6 (by decide),key 7 (by decide),key 8 (by decide),key 9 (by decide),key 10 (by decide)⟩
theorem RowC.froz{w g n c}(h:RowC w g n c)(i:Nat):w.frozen? ⟨g,i,none⟩=false:=by
 obtain⟨cs,hg,_,hc⟩:=h;simp[World.frozen?,hg]
abbrev setP(w:World)(g i:Nat)(p:Pg):World:=
 ((((((((((w.setCell ⟨g,i*11,none⟩ (.int .i64 p.kd)).setCell ⟨g,i*11+1,none⟩ (.int .i64 p.od)).setCell ⟨g,i*11+2,none⟩ (.int .i64 p.cl)).setCell ⟨g,i*11+3,none⟩ (.int .i64 p.lv)).setCell ⟨g,i*11+4,none⟩ (.int .i64 p.nx)).setCell ⟨g,i*11+5,none⟩ (.int .i64 p.pv)).setCell ⟨g,i*11+6,none⟩ (.int .i64 p.fs)).setCell ⟨g,i*11+7,none⟩ (.int .u64 (p.b0:Int))).setCell ⟨g,i*11+8,none⟩ (.int .u64 (p.b1:Int))).setCell ⟨g,i*11+9,none⟩ (.int .u64 (p.b2:Int))).setCell ⟨g,i*11+10,none⟩ (.int .u64 (p.b3:Int))
theorem zaU(w:World)(g i:Nat)(p:Pg):Kt (fun x=>x=g) w (setP w g i p):=
 ((((((((((((Kt.refl (fun x=>x=g) w).setCell (p:=⟨g,_,none⟩) rfl _).setCell (p:=⟨g,_,none⟩) rfl _).setCell (p:=⟨g,_,none⟩) rfl _).setCell (p:=⟨g,_,none⟩) rfl _).setCell (p:=⟨g,_,none⟩) rfl _).setCell (p:=⟨g,_,none⟩) rfl _).setCell (p:=⟨g,_,none⟩) rfl _).setCell (p:=⟨g,_,none⟩) rfl _).setCell (p:=⟨g,_,none⟩) rfl _).setCell (p:=⟨g,_,none⟩) rfl _).setCell (p:=⟨g,_,none⟩) rfl _)
theorem zgf{c:Nat→Nat→Value}{pg:Nat→Pg}{i:Nat}{p:Pg}(a b:Nat)(hb:b<11)(h:∀ j,j<11→c i j=p.fld j)(h2:a≠i→c a b=(pg a).fld b):c a b=(upp pg i p a).fld b:=by
 unfold upp;by_cases e:a=i
 ·rw[if_pos e,e];exact h b hb
 ·rw[if_neg e];exact h2 e
theorem lt11{P:Nat→Prop}(h0:P 0)(h1:P 1)(h2:P 2)(h3:P 3)(h4:P 4)(h5:P 5)(h6:P 6)(h7:P 7)(h8:P 8)(h9:P 9)(h10:P 10):∀ j,j<11→P j
 | 0,_=>h0 | 1,_=>h1 | 2,_=>h2 | 3,_=>h3 | 4,_=>h4 | 5,_=>h5 | 6,_=>h6 | 7,_=>h7 | 8,_=>h8 | 9,_=>h9 | 10,_=>h10
 | _+11,h=>absurd h (by omega)
theorem Row.put{w g n pg}(h:Row w g n pg)(i:Nat)(hi:i<n)(p:Pg):Row (setP w g i p) g n (upp pg i p):=by
 have:=((((((((((RowC.set h i 0 hi (by decide) (.int .i64 p.kd)).set i 1 hi (by decide) (.int .i64 p.od)).set i 2 hi (by decide) (.int .i64 p.cl)).set i 3 hi (by decide) (.int .i64 p.lv)).set i 4 hi (by decide) (.int .i64 p.nx)).set i 5 hi (by decide) (.int .i64 p.pv)).set i 6 hi (by decide) (.int .i64 p.fs)).set i 7 hi (by decide) (.int .u64 (p.b0:Int))).set i 8 hi (by decide) (.int .u64 (p.b1:Int))).set i 9 hi (by decide) (.int .u64 (p.b2:Int))).set i 10 hi (by decide) (.int .u64 (p.b3:Int));refine RowC.congr this (fun a ha b hb=>zgf a b hb (fun j hj=>?_) (fun e=>?_))
 ·revert j
  apply lt11 <;> simp[upc,Pg.fld]
 ·simp[upc,e]
structure Mp where
 o:Nat
 n:Nat
 pg:Nat→Pg
 wd:Nat→List Nat
structure Bs where
 g:Option Nat
 P:Option Nat
 S:Nat→Nat
 C:Nat→Nat
def Prs(w:World)(P:Option Nat)(o cq:Nat)(S:Nat→Nat):Prop:=
 match P with
 | none=>o=0∧cq=0
 | some q=>∃ cs:Array Value,w.heap[q]?=some (.cells cs 190 (0,0))∧cs.size=cq∧o≤cq∧∀ k,k<o→cs[k]?=some (.pointer (some ⟨S k,0,none⟩))
def Rows(w:World)(g:Option Nat)(n:Nat)(pg:Nat→Pg):Prop:=
 match g with
 | none=>n=0
 | some q=>Row w q n pg
structure PgOk(p:Pg):Prop where
 o0 : 0≤p.od
 o8:p.od≤8
 c0 : 0≤p.cl
 c7:p.cl≤7
 b0:p.b0<18446744073709551616
 b1:p.b1<18446744073709551616
 b2:p.b2<18446744073709551616
 b3:p.b3<18446744073709551616
theorem PgOk.blank(k o:Int)(h0 : 0≤o)(h8:o≤8):PgOk (bkP k o):=⟨h0,h8,Int.le_refl 0,by show(0:Int)≤7;decide,by show 0<_;decide,by show 0<_;decide,by show 0<_;decide,by show 0<_;decide⟩
theorem PgOk.zero:PgOk zab:=by constructor <;> decide
structure MpA(w:World)(b:Nat)(B:Bs)(m:Mp):Prop where
 o8:m.o≤8
 n1:m.n≤1024
 dv:∃ r,m.n=r*2 ^ m.o
 hb:∃ cq,w.heap[b]?=some (.cells #[.int .i64 (m.o:Int),.slice (adr B.g) m.n m.n,.slice (adr B.P) m.o cq] 119 (0,0))∧Prs w B.P m.o cq B.S
 row:Rows w B.g m.n m.pg
 set:∀ k,k<m.o→SetAt w (B.S k) (B.C k) (m.n/2 ^ (k+1)) (m.wd k)
 injS:∀ j k,j<m.o→k<m.o→B.S j=B.S k→j=k
 injC:∀ j k,j<m.o→k<m.o→B.C j=B.C k→j=k
 ok:∀ i,i<m.n→PgOk (m.pg i)
def mown(b:Nat)(B:Bs)(o:Nat):Nat→Prop:=fun x=>x=b∨B.g=some x∨B.P=some x∨∃ k,k<o∧(x=B.S k∨x=B.C k)
theorem Prs.kept{w w' P o cq S}{T:Nat→Prop}(h:Prs w P o cq S)(k:Kt T w w')(hS:∀ x,P=some x→¬T x):Prs w' P o cq S:=by
 cases P with
 | none=>exact h
 | some q=>
  obtain⟨cs,hg,h2,h3,h4⟩:=h;exact⟨cs,(k.block q (lH hg) (hS q rfl)).trans hg,h2,h3,h4⟩
theorem Rows.kept{w w' g n pg}{T:Nat→Prop}(h:Rows w g n pg)(k:Kt T w w')(hS:∀ x,g=some x→¬T x):Rows w' g n pg:=by
 cases g with
 | none=>exact h
 | some q=>exact Row.kept h k (hS q rfl)
theorem MpA.kept{w w' b B m}{T:Nat→Prop}(h:MpA w b B m)(k:Kt T w w')(hS:∀ x,mown b B m.o x→¬T x):MpA w' b B m:=by
 obtain⟨cq,hb,hp⟩:=h.hb;exact⟨h.o8,h.n1,h.dv,⟨cq,(k.block b (lH hb) (hS b (.inl rfl))).trans hb,hp.kept k (fun x e=>hS x (.inr (.inr (.inl e))))⟩,h.row.kept k (fun x e=>hS x (.inr (.inl e))),fun i hi=>(h.set i hi).kept k (hS _ (.inr (.inr (.inr ⟨i,hi,.inl rfl⟩)))) (hS _ (.inr (.inr (.inr ⟨i,hi,.inr rfl⟩)))),h.injS,h.injC,h.ok⟩
theorem MpA.keep{w w' b B m}(h:MpA w b B m)(k:Kt nO w w'):MpA w' b B m:=h.kept k (fun _ _ x=>x)
theorem MpA.own_lt{w b B m}(h:MpA w b B m)(x:Nat)(hx:mown b B m.o x):x<w.heap.size:=by
 obtain⟨cq,hb,hp⟩:=h.hb;rcases hx with rfl|hx|hx|⟨k,hk,rfl|rfl⟩
 ·exact lH hb
 ·have:=h.row;rw[hx] at this;exact RowC.lt this
 ·rw[hx] at hp;obtain⟨cs,hg,_⟩:=hp;exact lH hg
 ·exact lH (h.set k hk).hb
 ·exact lH (h.set k hk).hc
theorem MpA.cb{w b B m}(h:MpA w b B m):∃ cq,w.cell? ⟨b,0,none⟩=some (.int .i64 (m.o:Int))∧w.cell? ⟨b,1,none⟩=some (.slice (adr B.g) m.n m.n)∧w.cell? ⟨b,2,none⟩=some (.slice (adr B.P) m.o cq):=by
 obtain⟨cq,hb,_⟩:=h.hb;exact⟨cq,by simp[World.cell?,hb],by simp[World.cell?,hb],by simp[World.cell?,hb]⟩
theorem MpA.c0{w b B m}(h:MpA w b B m):w.cell? ⟨b,0,none⟩=some (.int .i64 (m.o:Int)):=by
 obtain⟨cq,hb,_⟩:=h.hb;simp[World.cell?,hb]
theorem MpA.c1{w b B m}{g:Nat}(h:MpA w b B m)(hg:B.g=some g):w.cell? ⟨b,1,none⟩=some (.slice (some ⟨g,0,none⟩) m.n m.n):=by
 obtain⟨cq,hb,_⟩:=h.hb;simp[World.cell?,hb,hg,adr]
theorem MpA.bz{w b B m}(h:MpA w b B m)(i:Nat):w.frozen? ⟨b,i,none⟩=false:=by
 obtain⟨cq,hb,_⟩:=h.hb;simp[World.frozen?,hb]
theorem MpA.cp{w b B m}(h:MpA w b B m)(k:Nat)(hk:k<m.o):∃ q,B.P=some q∧w.cell? ⟨q,k,none⟩=some (.pointer (some ⟨B.S k,0,none⟩)):=by
 obtain⟨cq,hb,hp⟩:=h.hb
 cases hP:B.P with
 | none=>
  rw[hP] at hp;obtain⟨h1,_⟩:=hp;omega
 | some q=>
  rw[hP] at hp;obtain⟨cs,hg,h2,h3,h4⟩:=hp;exact⟨q,rfl,by simp[World.cell?,hg,h4 k hk]⟩
theorem MpA.has_row{w b B m}(h:MpA w b B m)(hn : 0<m.n):∃ g,B.g=some g∧Row w g m.n m.pg:=by
 have hr:=h.row
 cases hg:B.g with
 | none=>
  rw[hg] at hr;have:m.n=0:=hr;omega
 | some q=>
  rw[hg] at hr;exact⟨q,rfl,hr⟩
theorem MpA.pages{w w' b B m g pg'}(h:MpA w b B m)(hg:B.g=some g)(k:Kt (fun x=>x=g) w w')(hr:Row w' g m.n pg')(ok:∀ i,i<m.n→PgOk (pg' i)):MpA w' b B { m with pg:=pg' }:=by
 obtain⟨cq,hb,hp⟩:=h.hb;have hrow:=h.row;rw[hg] at hrow;obtain⟨cs,hgb,_⟩:=hrow;refine⟨h.o8,h.n1,h.dv,⟨cq,(k.block b (lH hb) (zag hb hgb (by decide))).trans hb,hp.kept k (fun x e=>?_)⟩,?_,fun i hi=>(h.set i hi).kept k (zag (h.set i hi).hb hgb (by decide)) (zag (h.set i hi).hc hgb (by decide)),h.injS,h.injC,ok⟩
 ·rw[e] at hp;obtain⟨ds,hq,_⟩:=hp;exact zag hq hgb (by decide)
 ·show Rows w' B.g m.n pg'
  rw[hg];exact hr
abbrev pval(p:Pg):Value:=.agg #[.int .i64 p.kd,.int .i64 p.od,.int .i64 p.cl,.int .i64 p.lv,.int .i64 p.nx,.int .i64 p.pv,.int .i64 p.fs,.int .u64 (p.b0:Int),.int .u64 (p.b1:Int),.int .u64 (p.b2:Int),.int .u64 (p.b3:Int)]
abbrev pobj(p:Pg):Obj:=.cells #[.int .i64 p.kd,.int .i64 p.od,.int .i64 p.cl,.int .i64 p.lv,.int .i64 p.nx,.int .i64 p.pv,.int .i64 p.fs,.int .u64 (p.b0:Int),.int .u64 (p.b1:Int),.int .u64 (p.b2:Int),.int .u64 (p.b3:Int)] 49
theorem zaj(b:Nat)(B:Bs)(m:Mp)(i:Int)(w:World)(h:MpA w b B m):
  Calls Tryz.prog 46 #[.pointer (some ⟨b,0,none⟩),.int .i64 i] w fun e w'=>e=.returned (.bool (inR m.n i))∧w'=w:=by
 obtain⟨cq,c0,c1,c2⟩:=h.cb;clear h;by_cases h0 : 0≤i
 ·have hd:inR m.n i=decide (i<(m.n:Int)):=by simp[inR,h0]
  rw[hd];go_enter Tryz.func46,Tryz.ntmps46;go_wp2
  go_ret;exact⟨rfl,rfl⟩
 ·have hd:inR m.n i=false:=by simp[inR];omega
  rw[hd];go_enter Tryz.func46,Tryz.ntmps46;go_wp2
  go_ret;exact⟨rfl,rfl⟩
theorem zce(b:Nat)(B:Bs)(m:Mp)(w:World)(h:MpA w b B m):
  Calls Tryz.prog 139 #[.pointer (some ⟨b,0,none⟩)] w fun e w'=>e=.returned (.int .i64 (m.n:Int))∧w'=w:=by
 obtain⟨cq,c0,c1,c2⟩:=h.cb;clear h;go_enter Tryz.func139,Tryz.ntmps139;go_wp2
 go_ret;exact⟨rfl,rfl⟩
theorem zlv{w:World}{x:Nat}{p:Pg}(h:w.heap[x]?=some (pobj p)):w.cell? ⟨x,0,none⟩=some (.int .i64 p.kd)∧w.cell? ⟨x,1,none⟩=some (.int .i64 p.od)∧w.cell? ⟨x,2,none⟩=some (.int .i64 p.cl)∧w.cell? ⟨x,3,none⟩=some (.int .i64 p.lv)∧w.cell? ⟨x,4,none⟩=some (.int .i64 p.nx)∧w.cell? ⟨x,5,none⟩=some (.int .i64 p.pv)∧w.cell? ⟨x,6,none⟩=some (.int .i64 p.fs)∧w.cell? ⟨x,7,none⟩=some (.int .u64 (p.b0:Int))∧w.cell? ⟨x,8,none⟩=some (.int .u64 (p.b1:Int))∧w.cell? ⟨x,9,none⟩=some (.int .u64 (p.b2:Int))∧w.cell? ⟨x,10,none⟩=some (.int .u64 (p.b3:Int)):=by
 refine⟨?_,?_,?_,?_,?_,?_,?_,?_,?_,?_,?_⟩ <;> simp[World.cell?,h]
theorem boxz{w:World}{x:Nat}{p:Pg}(h:w.heap[x]?=some (pobj p))(i:Nat):w.frozen? ⟨x,i,none⟩=false:=by simp[World.frozen?,h]
abbrev setB(w:World)(x:Nat)(p:Pg):World:=(((((((((((w.setCell ⟨x,0,none⟩ (.int .i64 p.kd)).setCell ⟨x,1,none⟩ (.int .i64 p.od)).setCell ⟨x,2,none⟩ (.int .i64 p.cl)).setCell ⟨x,3,none⟩ (.int .i64 p.lv)).setCell ⟨x,4,none⟩ (.int .i64 p.nx)).setCell ⟨x,5,none⟩ (.int .i64 p.pv)).setCell ⟨x,6,none⟩ (.int .i64 p.fs)).setCell ⟨x,7,none⟩ (.int .u64 (p.b0:Int))).setCell ⟨x,8,none⟩ (.int .u64 (p.b1:Int))).setCell ⟨x,9,none⟩ (.int .u64 (p.b2:Int))).setCell ⟨x,10,none⟩ (.int .u64 (p.b3:Int)))
theorem zeP{S:Nat→Prop}{a w:World}(h:Kt S a w)(x:Nat)(hx:x<a.heap.size→S x)(p:Pg):Kt S a (setB w x p):=(((((((((((h.setNew (p:=⟨x,0,none⟩) hx _).setNew (p:=⟨x,1,none⟩) hx _).setNew (p:=⟨x,2,none⟩) hx _).setNew (p:=⟨x,3,none⟩) hx _).setNew (p:=⟨x,4,none⟩) hx _).setNew (p:=⟨x,5,none⟩) hx _).setNew (p:=⟨x,6,none⟩) hx _).setNew (p:=⟨x,7,none⟩) hx _).setNew (p:=⟨x,8,none⟩) hx _).setNew (p:=⟨x,9,none⟩) hx _).setNew (p:=⟨x,10,none⟩) hx _)
theorem zbG(k o:Int)(w:World):
  Calls Tryz.prog 140 #[.int .i64 k,.int .i64 o] w fun e w'=>e=.returned (pval (bkP k o))∧w'=w.alloc (pobj (bkP k o)):=by
 go_enter Tryz.func140,Tryz.ntmps140;go_wp2
 exact⟨rfl,_,by simp[results,Tryz.results140,go_sem,bkP],rfl,rfl⟩
def atP(m:Mp)(i:Int):Pg:=if inR m.n i=true then m.pg i.toNat else zab
theorem zav{n:Nat}{i:Int}(h:inR n i=true):∃ k:Nat,i=k∧k<n:=by
 have hi0 : 0≤i∧i<(n:Int):=by simpa [inR] using h
 obtain⟨k,rfl⟩:=Int.eq_ofNat_of_zero_le hi0.1;exact⟨k,rfl,by omega⟩
theorem zae{n k:Nat}(h:k<n):inR n (k:Int)=true:=by simp[inR];omega
theorem zgg(b:Nat)(B:Bs)(m:Mp)(i:Int)(w:World)(h:MpA w b B m)(hi:inR m.n i=false):
  Calls Tryz.prog 16 #[.pointer (some ⟨b,0,none⟩),.int .i64 i] w fun e w'=>e=.returned (.tuple #[pval zab,.bool false])∧Kt nO w w':=by
 have K0:=hid ((Kt.refl nO w).alloc (pobj zab));have HM:=hid (h.keep K0.out);have X0:=hid (nH w (pobj zab));have HI:=hid hi;clear h hi;go_enter Tryz.func16,Tryz.ntmps16;go_wp2_with fail;refine(zaj b B m i _ HM.out).mono ?_;rintro e w1 ⟨rfl,hw1⟩;rw[show(w.alloc (pobj zab))=w1 from hw1.symm] at K0 HM X0;rw[HI.out];clear hw1;obtain⟨x0,x1,x2,x3,x4,x5,x6,x7,x8,x9,x10⟩:=zlv X0.out;have z:=boxz X0.out;go_wp2_with fail;exact⟨rfl,_,by simp[results,Tryz.results16,go_sem,zab,x0,x1,x2,x3,x4,x5,x6,x7,x8,x9,x10],rfl,zeP (p:=zab) K0.out _ (fun h=>absurd h (Nat.lt_irrefl _))⟩
theorem zfm(b:Nat)(B:Bs)(m:Mp)(k:Nat)(w:World)(h:MpA w b B m)(hk:k<m.n):
  Calls Tryz.prog 16 #[.pointer (some ⟨b,0,none⟩),.int .i64 (k:Int)] w fun e w'=>e=.returned (.tuple #[pval (m.pg k),.bool true])∧Kt nO w w':=by
 have K0:=hid ((Kt.refl nO w).alloc (pobj zab));have HM:=hid (h.keep K0.out);have X0:=hid (nH w (pobj zab));have HI:=hid (zae hk);clear h;go_enter Tryz.func16,Tryz.ntmps16;go_wp2_with fail;refine(zaj b B m k _ HM.out).mono ?_;rintro e w1 ⟨rfl,hw1⟩;rw[show(w.alloc (pobj zab))=w1 from hw1.symm] at K0 HM X0;rw[HI.out];clear hw1;obtain⟨g,hg,hr⟩:=HM.out.has_row (by omega);obtain⟨d0,d1,d2,d3,d4,d5,d6,d7,d8,d9,d10⟩:=hr.cell k hk;have c1:=HM.out.c1 hg;have hki:(k:Int)<(m.n:Int):=by omega
 obtain⟨x0,x1,x2,x3,x4,x5,x6,x7,x8,x9,x10⟩:=zlv X0.out;have z:=boxz X0.out;clear hr hg;go_wp2_with fail;exact⟨rfl,_,by simp[results,Tryz.results16,go_sem,x0,x1,x2,x3,x4,x5,x6,x7,x8,x9,x10],rfl,zeP (p:=m.pg k) K0.out _ (fun h=>absurd h (Nat.lt_irrefl _))⟩
theorem zbD(b:Nat)(B:Bs)(m:Mp)(i:Int)(w:World)(h:MpA w b B m):
  Calls Tryz.prog 16 #[.pointer (some ⟨b,0,none⟩),.int .i64 i] w fun e w'=>e=.returned (.tuple #[pval (atP m i),.bool (inR m.n i)])∧Kt nO w w':=by
 cases hi:inR m.n i with
 | false=>
  rw[show atP m i=zab by simp[atP,hi]];exact zgg b B m i w h hi
 | true=>
  obtain⟨k,rfl,hk⟩:=zav hi;rw[show atP m (k:Int)=m.pg k by simp[atP,hi]];exact zfm b B m k w h hk
def zaL(c:Int):Pg:={ bkP 4 0 with cl:=c }
theorem PgOk.slab(c:Nat)(h:c<8):PgOk (zaL c):=⟨by show(0:Int)≤0;decide,by show(0:Int)≤8;decide,by show(0:Int)≤c;omega,by show(c:Int)≤7;omega,by show 0<_;decide,by show 0<_;decide,by show 0<_;decide,by show 0<_;decide⟩
def zcJ(m:Mp)(i c:Int):Mp:=if inR m.n i=true∧0≤c∧c≤7 then { m with pg:=upp m.pg i.toNat (zaL c) } else m
def zh7(m:Mp)(i c:Int):Int:=if inR m.n i=true∧0≤c∧c≤7 then 0 else 1
theorem zlw(m:Mp)(i c:Int):(zcJ m i c).n=m.n:=by unfold zcJ;split <;> rfl
theorem zlx(b:Nat)(B:Bs)(m:Mp)(k c:Nat)(w:World)(h:MpA w b B m)(hk:k<m.n)(hc:c<8):
  Calls Tryz.prog 86 #[.pointer (some ⟨b,0,none⟩),.int .i64 (k:Int),.int .i64 (c:Int)] w fun e w'=>e=.returned (.int .i64 0)∧MpA w' b B { m with pg:=upp m.pg k (zaL c) }∧Kt (mown b B m.o) w w':=by
 have HM:=hid h;have HI:=hid (zae hk);have HK:=hid hk;have hc0:¬(c:Int)<0:=by omega
 have hc1:¬ 8≤(c:Int):=by omega
 have hki:(k:Int)<(m.n:Int):=by omega
 obtain⟨g,hg,hr⟩:=h.has_row (by omega);clear h hr hk;go_enter Tryz.func86,Tryz.ntmps86;go_wp2_with fail;refine(zaj b B m k _ HM.out).mono ?_;rintro e w1 ⟨rfl,rfl⟩;rw[HI.out];go_wp2_with fail;refine(zbG 4 0 w1).mono ?_;rintro e w2 ⟨rfl,hw2⟩;have K2:=hid (show Kt nO w1 w2 by rw[hw2];exact(Kt.refl nO w1).alloc _);have Z2:=hid (show w2.heap.size=w1.heap.size+1 by rw[hw2];simp);clear hw2;go_wp2_with fail;obtain⟨W,hW⟩:=xe (w2.alloc (.cells #[.int .i64 (bkP 4 0).kd,.int .i64 (bkP 4 0).od,.int .i64 (c:Int),.int .i64 (bkP 4 0).lv,.int .i64 (bkP 4 0).nx,.int .i64 (bkP 4 0).pv,.int .i64 (bkP 4 0).fs,.int .u64 ((bkP 4 0).b0:Int),.int .u64 ((bkP 4 0).b1:Int),.int .u64 ((bkP 4 0).b2:Int),.int .u64 ((bkP 4 0).b3:Int)] 49));rw[←hW];have KW:=hid (show Kt nO w1 W by rw[hW];exact K2.out.alloc _);have XW:=hid (show W.heap[w2.heap.size]?=some (pobj (zaL c))by rw[hW];exact nH _ _);have MW:=hid (HM.out.keep KW.out);clear hW;obtain⟨x0,x1,x2,x3,x4,x5,x6,x7,x8,x9,x10⟩:=zlv XW.out;have c1:=MW.out.c1 hg;have hr:=MW.out.row;rw[hg] at hr;have RW:=hid (show Row W g m.n m.pg from hr);obtain⟨d0,d1,d2,d3,d4,d5,d6,d7,d8,d9,d10⟩:=RW.out.cell k HK.out;have z:=RowC.froz RW.out;have HG:=hid hg;clear hr hg;go_region
 all_goals
  go_wp2_with fail;go_ret;have RP:=(RW.out.put k HK.out (zaL c));have OKP:∀ i,i<m.n→PgOk (upp m.pg k (zaL c) i):=fun i hi=>by
   unfold upp;split
   ·exact PgOk.slab c (by omega)
   ·exact MW.out.ok i hi
  have KP:=zaU W g k (zaL c);exact⟨rfl,(MW.out.pages HG.out KP RP OKP).keep (Kt.refl nO _).drew,(KW.out.trans KP (fun _ _ x=>x.elim) (fun x _ e=>.inr (.inl (e▸HG.out)))).drew⟩
theorem zed(b:Nat)(B:Bs)(m:Mp)(i:Int)(w:World)(h:MpA w b B m)(hi:inR m.n i=false):
  Calls Tryz.prog 93 #[.pointer (some ⟨b,0,none⟩),.int .i64 i] w fun e w'=>e=.returned (.pointer none)∧w'=w:=by
 have HM:=hid h;have HI:=hid hi;clear h hi;go_enter Tryz.func93,Tryz.ntmps93;go_wp2_with fail;refine(zaj b B m i _ HM.out).mono ?_;rintro e w1 ⟨rfl,rfl⟩;rw[HI.out];go_wp2_with fail;go_ret;exact⟨rfl,rfl⟩
theorem zbj(b:Nat)(B:Bs)(m:Mp)(g k:Nat)(w:World)(h:MpA w b B m)(hg:B.g=some g)(hk:k<m.n):
  Calls Tryz.prog 93 #[.pointer (some ⟨b,0,none⟩),.int .i64 (k:Int)] w fun e w'=>e=.returned (.pointer (if (m.pg k).kd=4 then some ⟨g,k*11,none⟩ else none))∧w'=w:=by
 have HM:=hid h;have HI:=hid (zae hk);have hr:=h.row;rw[hg] at hr;have hr:Row w g m.n m.pg:=hr;have d0:=(hr.cell k hk).1;have c1:=h.c1 hg;have hki:(k:Int)<(m.n:Int):=by omega
 clear h hr hg;by_cases h4:(m.pg k).kd=4
 ·rw[if_pos h4];rw[h4] at d0;go_enter Tryz.func93,Tryz.ntmps93;go_wp2_with fail;refine(zaj b B m k _ HM.out).mono ?_;rintro e w1 ⟨rfl,rfl⟩;rw[HI.out];go_wp2_with fail;go_ret;exact⟨rfl,rfl⟩
 ·rw[if_neg h4];go_enter Tryz.func93,Tryz.ntmps93;go_wp2_with fail;refine(zaj b B m k _ HM.out).mono ?_;rintro e w1 ⟨rfl,rfl⟩;rw[HI.out];go_wp2_with fail;go_ret;exact⟨rfl,rfl⟩
def zaV(cl:Int):Nat:=256/2 ^ cl.toNat
theorem zba(g o:Nat)(cl:Int)(h0 : 0≤cl)(h7:cl≤7)(c:Int)(w:World)(h:w.cell? ⟨g,o+2,none⟩=some (.int .i64 cl)):
  Calls Tryz.prog 94 #[.pointer (some ⟨g,o,none⟩),.int .i64 c] w fun e w'=>e=.returned (.bool (inR (zaV cl) c))∧w'=w:=by
 obtain⟨k,rfl⟩:=Int.eq_ofNat_of_zero_le h0;have hk:k≤7:=by omega
 have hn:zaV (k:Int)=256/2 ^ k:=rfl;rw[hn];by_cases hc : 0≤c
 ·have hd:inR (256/2 ^ k) c=decide (c<((256/2 ^ k:Nat):Int)):=by simp[inR,hc]
  rw[hd];go_enter Tryz.func94,Tryz.ntmps94;go_wp2_with fail;go_ret;exact⟨by simp,rfl⟩
 ·have hd:inR (256/2 ^ k) c=false:=by simp[inR];omega
  rw[hd];go_enter Tryz.func94,Tryz.ntmps94;go_wp2_with fail;go_ret;exact⟨rfl,rfl⟩
theorem zdh(x r:Nat)(hx:x<18446744073709551616):((bits BinOp.and IntKind.u64 ((x:Int)/2 ^ r) 1) == 1)=(x/2 ^ r%2 == 1):=by
 have e:((x:Int)/2 ^ r)=((x/2 ^ r:Nat):Int):=by simp
 rw[e];have hd2:x/2 ^ r<2 ^ 64:=Nat.lt_of_le_of_lt (Nat.div_le_self _ _) hx;have:=u64_and_nat (x/2 ^ r) 1 (by omega) (by decide);rw[nat_mask1] at this;rw[show(1:Int)=((1:Nat):Int)from rfl,this,Bool.eq_iff_iff];simp only[beq_iff_eq];omega
theorem zee(x r:Nat)(hx:x<18446744073709551616)(hr:r<64):bits BinOp.xor IntKind.u64 (x:Int) (2 ^ r)=((x ^^^ 2 ^ r:Nat):Int):=by
 have hp : 2 ^ r<2 ^ 64:=(zdj r 64).2 hr;have:=bits_xor_u64_nat x (2 ^ r) hx hp;rw[←this];simp
theorem zcf(r:Nat)(hr:r<64):IntKind.u64.wrap (2 ^ r)=2 ^ r:=by
 have hp : 2 ^ r<2 ^ 64:=(zdj r 64).2 hr;rw[wrap_u64];have:((2:Int) ^ r)=((2 ^ r:Nat):Int):=by simp
 rw[this];obtain⟨p,hp2⟩:=xe (2 ^ r);rw[←hp2] at hp ⊢;omega
theorem zef(x r:Nat)(hx:x<18446744073709551616)(hr:r<64):x ^^^ 2 ^ r<18446744073709551616:=Nat.xor_lt_two_pow (n:=64) hx ((zdj r 64).2 hr)
theorem zjO(b0 b1 b2 b3:Nat)(hx:b0<18446744073709551616)(c:Nat)(hq:c/64=0)(w:World):
  Calls Tryz.prog 95 #[.agg #[.int .u64 (b0:Int),.int .u64 (b1:Int),.int .u64 (b2:Int),.int .u64 (b3:Int)],.int .i64 (c:Int)] w fun e w'=>e=.returned (.bool (b0/2 ^ (c%64)%2 == 1))∧Kt nO w w':=by
 have hqi:(c:Int)/64=0:=by omega
 have E:=hid (zdh b0 (c%64) hx);clear hx;go_enter Tryz.func95,Tryz.ntmps95;go_wp2_with fail;go_ret;exact⟨zac E.out,(Kt.refl nO w).alloc _⟩
theorem zjP(b0 b1 b2 b3:Nat)(hx:b0<18446744073709551616)(c:Nat)(hq:c/64=0)(w:World):
  Calls Tryz.prog 96 #[.agg #[.int .u64 (b0:Int),.int .u64 (b1:Int),.int .u64 (b2:Int),.int .u64 (b3:Int)],.int .i64 (c:Int)] w fun e w'=>e=.returned (.agg #[.int .u64 ((b0 ^^^ 2 ^ (c%64):Nat):Int),.int .u64 (b1:Int),.int .u64 (b2:Int),.int .u64 (b3:Int)])∧Kt nO w w':=by
 have hqi:(c:Int)/64=0:=by omega
 have E:=zee b0 (c%64) hx (by omega);have hw2:=zcf (c%64) (by omega);generalize b0 ^^^ 2 ^ (c%64)=y at *;clear hx;go_enter Tryz.func96,Tryz.ntmps96;go_wp2_with fail;go_region
 all_goals
  go_wp2_with fail;exact⟨rfl,_,by simp[results,Tryz.results96,go_sem],rfl,(((Kt.refl nO w).alloc _).alloc _).drew⟩
theorem zjQ(b0 b1 b2 b3:Nat)(hx:b1<18446744073709551616)(c:Nat)(hq:c/64=1)(w:World):
  Calls Tryz.prog 95 #[.agg #[.int .u64 (b0:Int),.int .u64 (b1:Int),.int .u64 (b2:Int),.int .u64 (b3:Int)],.int .i64 (c:Int)] w fun e w'=>e=.returned (.bool (b1/2 ^ (c%64)%2 == 1))∧Kt nO w w':=by
 have hqi:(c:Int)/64=1:=by omega
 have E:=hid (zdh b1 (c%64) hx);clear hx;go_enter Tryz.func95,Tryz.ntmps95;go_wp2_with fail;go_ret;exact⟨zac E.out,(Kt.refl nO w).alloc _⟩
theorem zjR(b0 b1 b2 b3:Nat)(hx:b1<18446744073709551616)(c:Nat)(hq:c/64=1)(w:World):
  Calls Tryz.prog 96 #[.agg #[.int .u64 (b0:Int),.int .u64 (b1:Int),.int .u64 (b2:Int),.int .u64 (b3:Int)],.int .i64 (c:Int)] w fun e w'=>e=.returned (.agg #[.int .u64 (b0:Int),.int .u64 ((b1 ^^^ 2 ^ (c%64):Nat):Int),.int .u64 (b2:Int),.int .u64 (b3:Int)])∧Kt nO w w':=by
 have hqi:(c:Int)/64=1:=by omega
 have E:=zee b1 (c%64) hx (by omega);have hw2:=zcf (c%64) (by omega);generalize b1 ^^^ 2 ^ (c%64)=y at *;clear hx;go_enter Tryz.func96,Tryz.ntmps96;go_wp2_with fail;go_region
 all_goals
  go_wp2_with fail;exact⟨rfl,_,by simp[results,Tryz.results96,go_sem],rfl,(((Kt.refl nO w).alloc _).alloc _).drew⟩
theorem zjS(b0 b1 b2 b3:Nat)(hx:b2<18446744073709551616)(c:Nat)(hq:c/64=2)(w:World):
  Calls Tryz.prog 95 #[.agg #[.int .u64 (b0:Int),.int .u64 (b1:Int),.int .u64 (b2:Int),.int .u64 (b3:Int)],.int .i64 (c:Int)] w fun e w'=>e=.returned (.bool (b2/2 ^ (c%64)%2 == 1))∧Kt nO w w':=by
 have hqi:(c:Int)/64=2:=by omega
 have E:=hid (zdh b2 (c%64) hx);clear hx;go_enter Tryz.func95,Tryz.ntmps95;go_wp2_with fail;go_ret;exact⟨zac E.out,(Kt.refl nO w).alloc _⟩
theorem zjT(b0 b1 b2 b3:Nat)(hx:b2<18446744073709551616)(c:Nat)(hq:c/64=2)(w:World):
  Calls Tryz.prog 96 #[.agg #[.int .u64 (b0:Int),.int .u64 (b1:Int),.int .u64 (b2:Int),.int .u64 (b3:Int)],.int .i64 (c:Int)] w fun e w'=>e=.returned (.agg #[.int .u64 (b0:Int),.int .u64 (b1:Int),.int .u64 ((b2 ^^^ 2 ^ (c%64):Nat):Int),.int .u64 (b3:Int)])∧Kt nO w w':=by
 have hqi:(c:Int)/64=2:=by omega
 have E:=zee b2 (c%64) hx (by omega);have hw2:=zcf (c%64) (by omega);generalize b2 ^^^ 2 ^ (c%64)=y at *;clear hx;go_enter Tryz.func96,Tryz.ntmps96;go_wp2_with fail;go_region
 all_goals
  go_wp2_with fail;exact⟨rfl,_,by simp[results,Tryz.results96,go_sem],rfl,(((Kt.refl nO w).alloc _).alloc _).drew⟩
theorem zjU(b0 b1 b2 b3:Nat)(hx:b3<18446744073709551616)(c:Nat)(hq:c/64=3)(w:World):
  Calls Tryz.prog 95 #[.agg #[.int .u64 (b0:Int),.int .u64 (b1:Int),.int .u64 (b2:Int),.int .u64 (b3:Int)],.int .i64 (c:Int)] w fun e w'=>e=.returned (.bool (b3/2 ^ (c%64)%2 == 1))∧Kt nO w w':=by
 have hqi:(c:Int)/64=3:=by omega
 have E:=hid (zdh b3 (c%64) hx);clear hx;go_enter Tryz.func95,Tryz.ntmps95;go_wp2_with fail;go_ret;exact⟨zac E.out,(Kt.refl nO w).alloc _⟩
theorem zjV(b0 b1 b2 b3:Nat)(hx:b3<18446744073709551616)(c:Nat)(hq:c/64=3)(w:World):
  Calls Tryz.prog 96 #[.agg #[.int .u64 (b0:Int),.int .u64 (b1:Int),.int .u64 (b2:Int),.int .u64 (b3:Int)],.int .i64 (c:Int)] w fun e w'=>e=.returned (.agg #[.int .u64 (b0:Int),.int .u64 (b1:Int),.int .u64 (b2:Int),.int .u64 ((b3 ^^^ 2 ^ (c%64):Nat):Int)])∧Kt nO w w':=by
 have hqi:(c:Int)/64=3:=by omega
 have E:=zee b3 (c%64) hx (by omega);have hw2:=zcf (c%64) (by omega);generalize b3 ^^^ 2 ^ (c%64)=y at *;clear hx;go_enter Tryz.func96,Tryz.ntmps96;go_wp2_with fail;go_region
 all_goals
  go_wp2_with fail;exact⟨rfl,_,by simp[results,Tryz.results96,go_sem],rfl,(((Kt.refl nO w).alloc _).alloc _).drew⟩
def wP(p:Pg):Nat→Nat
 | 0=>p.b0
 | 1=>p.b1
 | 2=>p.b2
 | _=>p.b3
def litP(p:Pg)(c:Nat):Bool:=wP p (c/64)/2 ^ (c%64)%2 == 1
def za3(p:Pg)(c:Nat):Pg:=
 match c/64 with
 | 0=>{ p with b0:=p.b0 ^^^ 2 ^ (c%64) }
 | 1=>{ p with b1:=p.b1 ^^^ 2 ^ (c%64) }
 | 2=>{ p with b2:=p.b2 ^^^ 2 ^ (c%64) }
 | _=>{ p with b3:=p.b3 ^^^ 2 ^ (c%64) }
abbrev bval(p:Pg):Value:=.agg #[.int .u64 (p.b0:Int),.int .u64 (p.b1:Int),.int .u64 (p.b2:Int),.int .u64 (p.b3:Int)]
theorem lt4{c:Nat}(hc:c<256):c/64=0∨c/64=1∨c/64=2∨c/64=3:=by omega
theorem zdK(p:Pg)(ok:PgOk p)(c:Nat)(hc:c<256)(w:World):
  Calls Tryz.prog 95 #[bval p,.int .i64 (c:Int)] w fun e w'=>e=.returned (.bool (litP p c))∧Kt nO w w':=by
 rcases lt4 hc with h|h|h|h
 ·rw[show litP p c=(p.b0/2 ^ (c%64)%2 == 1)by simp[litP,h,wP]];exact zjO _ _ _ _ ok.b0 c h w
 ·rw[show litP p c=(p.b1/2 ^ (c%64)%2 == 1)by simp[litP,h,wP]];exact zjQ _ _ _ _ ok.b1 c h w
 ·rw[show litP p c=(p.b2/2 ^ (c%64)%2 == 1)by simp[litP,h,wP]];exact zjS _ _ _ _ ok.b2 c h w
 ·rw[show litP p c=(p.b3/2 ^ (c%64)%2 == 1)by simp[litP,h,wP]];exact zjU _ _ _ _ ok.b3 c h w
theorem zgZ(p:Pg)(ok:PgOk p)(c:Nat)(hc:c<256)(w:World):
  Calls Tryz.prog 96 #[bval p,.int .i64 (c:Int)] w fun e w'=>e=.returned (bval (za3 p c))∧Kt nO w w':=by
 rcases lt4 hc with h|h|h|h
 ·rw[show za3 p c={ p with b0:=p.b0 ^^^ 2 ^ (c%64) } by simp[za3,h]];exact zjP _ _ _ _ ok.b0 c h w
 ·rw[show za3 p c={ p with b1:=p.b1 ^^^ 2 ^ (c%64) } by simp[za3,h]];exact zjR _ _ _ _ ok.b1 c h w
 ·rw[show za3 p c={ p with b2:=p.b2 ^^^ 2 ^ (c%64) } by simp[za3,h]];exact zjT _ _ _ _ ok.b2 c h w
 ·rw[show za3 p c={ p with b3:=p.b3 ^^^ 2 ^ (c%64) } by simp[za3,h]];exact zjV _ _ _ _ ok.b3 c h w
theorem PgOk.turn{p:Pg}(ok:PgOk p)(c:Nat):PgOk (za3 p c):=by
 have hr:c%64<64:=by omega
 unfold za3;split
 ·exact⟨ok.o0,ok.o8,ok.c0,ok.c7,zef _ _ ok.b0 hr,ok.b1,ok.b2,ok.b3⟩
 ·exact⟨ok.o0,ok.o8,ok.c0,ok.c7,ok.b0,zef _ _ ok.b1 hr,ok.b2,ok.b3⟩
 ·exact⟨ok.o0,ok.o8,ok.c0,ok.c7,ok.b0,ok.b1,zef _ _ ok.b2 hr,ok.b3⟩
 ·exact⟨ok.o0,ok.o8,ok.c0,ok.c7,ok.b0,ok.b1,ok.b2,zef _ _ ok.b3 hr⟩
theorem zaW(p:Pg)(c:Nat):(za3 p c).kd=p.kd∧(za3 p c).od=p.od∧(za3 p c).cl=p.cl∧(za3 p c).lv=p.lv∧(za3 p c).nx=p.nx∧(za3 p c).pv=p.pv∧(za3 p c).fs=p.fs:=by
 unfold za3;split <;> exact⟨rfl,rfl,rfl,rfl,rfl,rfl,rfl⟩
theorem MpA.rowg{w b B m}{g:Nat}(h:MpA w b B m)(hg:B.g=some g):Row w g m.n m.pg:=by
 have hr:=h.row;rwa [hg] at hr
theorem zjW{c:Int}(h : 0≤c):zaV c≤256:=Nat.div_le_self _ _
theorem zmt{cl c:Int}(h0 : 0≤cl)(h:inR (zaV cl) c=true):∃ k:Nat,c=k∧k<256:=by
 obtain⟨k,rfl,hk⟩:=zav h;exact⟨k,rfl,Nat.lt_of_lt_of_le hk (zjW h0)⟩
theorem zly(b:Nat)(B:Bs)(m:Mp)(i c:Int)(live:Bool)(w:World)(h:MpA w b B m)(hi:inR m.n i=false):
  Calls Tryz.prog 40 #[.pointer (some ⟨b,0,none⟩),.int .i64 i,.int .i64 c,.bool live] w fun e w'=>e=.returned (.int .i64 1)∧w'=w:=by
 have HM:=hid h;have HI:=hid hi;clear h hi;go_enter Tryz.func40,Tryz.ntmps40;go_wp2_with fail;refine(zed b B m i _ HM.out HI.out).mono ?_;rintro e w1 ⟨rfl,rfl⟩;go_wp2_with fail;go_ret;exact⟨rfl,rfl⟩
theorem zjX(b:Nat)(B:Bs)(m:Mp)(k:Nat)(c:Int)(live:Bool)(w:World)(h:MpA w b B m)(hk:k<m.n)(hkd:(m.pg k).kd≠4):
  Calls Tryz.prog 40 #[.pointer (some ⟨b,0,none⟩),.int .i64 (k:Int),.int .i64 c,.bool live] w fun e w'=>e=.returned (.int .i64 1)∧w'=w:=by
 have HM:=hid h;obtain⟨g,hg,hr⟩:=h.has_row (by omega);have S:=hid (zbj b B m g k w h hg hk);rw[if_neg hkd] at S;clear h hr hg;go_enter Tryz.func40,Tryz.ntmps40;go_wp2_with fail;refine S.out.mono ?_;rintro e w1 ⟨rfl,rfl⟩;go_wp2_with fail;go_ret;exact⟨rfl,rfl⟩
theorem zjY(b:Nat)(B:Bs)(m:Mp)(k:Nat)(c:Int)(live:Bool)(w:World)(h:MpA w b B m)(hk:k<m.n)(hkd:(m.pg k).kd=4)(hc:inR (zaV (m.pg k).cl) c=false):
  Calls Tryz.prog 40 #[.pointer (some ⟨b,0,none⟩),.int .i64 (k:Int),.int .i64 c,.bool live] w fun e w'=>e=.returned (.int .i64 1)∧w'=w:=by
 have HM:=hid h;obtain⟨g,hg,hr⟩:=h.has_row (by omega);have S:=hid (zbj b B m g k w h hg hk);rw[if_pos hkd] at S;obtain⟨d0,d1,d2,d3,d4,d5,d6,d7,d8,d9,d10⟩:=hr.cell k hk;have HC:=hid (zba g (k*11) (m.pg k).cl (h.ok k hk).c0 (h.ok k hk).c7 c w d2);rw[hc] at HC;clear h hr hg;go_enter Tryz.func40,Tryz.ntmps40;go_wp2_with fail;refine S.out.mono ?_;rintro e w1 ⟨rfl,rfl⟩;go_wp2_with fail;refine HC.out.mono ?_;rintro e w1 ⟨rfl,rfl⟩;go_wp2_with fail;go_ret;exact⟨rfl,rfl⟩
theorem zjZ(b:Nat)(B:Bs)(m:Mp)(k c:Nat)(w:World)(h:MpA w b B m)(hk:k<m.n)(hkd:(m.pg k).kd=4)(hc:inR (zaV (m.pg k).cl) (c:Int)=true)(hc2:c<256):
  Calls Tryz.prog 40 #[.pointer (some ⟨b,0,none⟩),.int .i64 (k:Int),.int .i64 (c:Int),.bool (litP (m.pg k) c)] w fun e w'=>e=.returned (.int .i64 1)∧Kt nO w w':=by
 have HM:=hid h;obtain⟨g,hg,hr⟩:=h.has_row (by omega);have S:=hid (zbj b B m g k w h hg hk);rw[if_pos hkd] at S;obtain⟨d0,d1,d2,d3,d4,d5,d6,d7,d8,d9,d10⟩:=hr.cell k hk;have HC:=hid (zba g (k*11) (m.pg k).cl (h.ok k hk).c0 (h.ok k hk).c7 c w d2);rw[hc] at HC;have HL:=hid (zdK (m.pg k) (h.ok k hk) c hc2 w);generalize litP (m.pg k) c=lv at *;clear h hr hg;go_enter Tryz.func40,Tryz.ntmps40;go_wp2_with fail;refine S.out.mono ?_;rintro e w1 ⟨rfl,rfl⟩;go_wp2_with fail;refine HC.out.mono ?_;rintro e w1 ⟨rfl,rfl⟩;go_wp2_with fail;refine HL.out.mono ?_;rintro e w2 ⟨rfl,k2⟩;have K2:=hid k2;clear k2
 cases lv
 all_goals
  go_wp2_with fail;go_ret;exact⟨rfl,K2.out⟩
theorem Row.bits{w g n pg}(h:Row w g n pg)(i:Nat)(hi:i<n)(t:Pg)(x:Int)(hr:t.kd=(pg i).kd∧t.od=(pg i).od∧t.cl=(pg i).cl∧t.lv=(pg i).lv∧t.nx=(pg i).nx∧t.pv=(pg i).pv∧t.fs=(pg i).fs):
  Row (((((w.setCell ⟨g,i*11+7,none⟩ (.int .u64 (t.b0:Int))).setCell ⟨g,i*11+7+1,none⟩ (.int .u64 (t.b1:Int))).setCell ⟨g,i*11+7+2,none⟩ (.int .u64 (t.b2:Int))).setCell ⟨g,i*11+7+3,none⟩ (.int .u64 (t.b3:Int))).setCell ⟨g,i*11+3,none⟩ (.int .i64 x)) g n (upp pg i { t with lv:=x }):=by
 have:=(((((RowC.set h i 7 hi (by decide) (.int .u64 (t.b0:Int))).set i 8 hi (by decide) (.int .u64 (t.b1:Int))).set i 9 hi (by decide) (.int .u64 (t.b2:Int))).set i 10 hi (by decide) (.int .u64 (t.b3:Int))).set i 3 hi (by decide) (.int .i64 x));obtain⟨e0,e1,e2,e3,e4,e5,e6⟩:=hr;refine RowC.congr this (fun a ha b hb=>zgf a b hb (fun j hj=>?_) (fun e=>?_))
 ·revert j
  apply lt11 <;> simp[upc,Pg.fld,e0,e1,e2,e4,e5,e6]
 ·simp[upc,e]
def ownP(p:Pg)(c:Nat):Pg:={ za3 p c with lv:=wrap64 (if litP p c=true then p.lv-1 else p.lv+1) }
theorem zj0(b:Nat)(B:Bs)(m:Mp)(k c:Nat)(w:World)(h:MpA w b B m)(hk:k<m.n)(hkd:(m.pg k).kd=4)(hc:inR (zaV (m.pg k).cl) (c:Int)=true)(hc2:c<256):
  Calls Tryz.prog 40 #[.pointer (some ⟨b,0,none⟩),.int .i64 (k:Int),.int .i64 (c:Int),.bool (!litP (m.pg k) c)] w fun e w'=>e=.returned (.int .i64 0)∧MpA w' b B { m with pg:=upp m.pg k (ownP (m.pg k) c) }∧Kt (mown b B m.o) w w':=by
 have HM:=hid h;obtain⟨g,hg,hr⟩:=h.has_row (by omega);have S:=hid (zbj b B m g k w h hg hk);rw[if_pos hkd] at S;obtain⟨d0,d1,d2,d3,d4,d5,d6,d7,d8,d9,d10⟩:=hr.cell k hk;have HC:=hid (zba g (k*11) (m.pg k).cl (h.ok k hk).c0 (h.ok k hk).c7 c w d2);rw[hc] at HC;have HL:=hid (zdK (m.pg k) (h.ok k hk) c hc2 w);have HT:=hid (zgZ (m.pg k) (h.ok k hk) c hc2);have OP:=hid (show ownP (m.pg k) c={ za3 (m.pg k) c with lv:=wrap64 (if litP (m.pg k) c=true then (m.pg k).lv-1 else (m.pg k).lv+1) } from rfl);have HG:=hid hg;have HK:=hid hk;have OK:=hid ((h.ok k hk).turn c);have TR:=hid (zaW (m.pg k) c);generalize za3 (m.pg k) c=tp at *;generalize litP (m.pg k) c=lv at *;clear h hr hg hk;go_enter Tryz.func40,Tryz.ntmps40;go_wp2_with fail;refine S.out.mono ?_;rintro e w1 ⟨rfl,rfl⟩;go_wp2_with fail;refine HC.out.mono ?_;rintro e w1 ⟨rfl,rfl⟩;go_wp2_with fail;refine HL.out.mono ?_;rintro e w2 ⟨rfl,k2⟩;have M2:=hid (HM.out.keep k2);have K2:=hid k2;clear k2 d0 d1 d2 d3 d4 d5 d6 d7 d8 d9 d10;obtain⟨d0,d1,d2,d3,d4,d5,d6,d7,d8,d9,d10⟩:=(M2.out.rowg HG.out).cell k HK.out
 cases lv
 all_goals
  go_wp2_with fail;refine(HT.out _).mono ?_;rintro e w3 ⟨rfl,k3⟩;have M3:=hid (M2.out.keep k3);have K3:=hid (nT K2.out k3);clear k3 d0 d1 d2 d3 d4 d5 d6 d7 d8 d9 d10;obtain⟨d0,d1,d2,d3,d4,d5,d6,d7,d8,d9,d10⟩:=(M3.out.rowg HG.out).cell k HK.out;have z:=RowC.froz (M3.out.rowg HG.out);go_wp2_with fail;go_ret;rw[OP.out];refine⟨rfl,M3.out.pages HG.out ?_ ((M3.out.rowg HG.out).bits k HK.out tp _ TR.out) (fun i hi=>?_),?_⟩
  ·exact(((((Kt.refl (fun x=>x=g) w3).setCell (p:=⟨g,_,none⟩) rfl _).setCell (p:=⟨g,_,none⟩) rfl _).setCell (p:=⟨g,_,none⟩) rfl _).setCell (p:=⟨g,_,none⟩) rfl _).setCell (p:=⟨g,_,none⟩) rfl _
  ·unfold upp;split
   ·exact⟨OK.out.o0,OK.out.o8,OK.out.c0,OK.out.c7,OK.out.b0,OK.out.b1,OK.out.b2,OK.out.b3⟩
   ·exact M3.out.ok i hi
  ·exact((((((K3.out.mono (fun _ _ x=>x.elim)).setCell (p:=⟨g,_,none⟩) (.inr (.inl HG.out)) _).setCell (p:=⟨g,_,none⟩) (.inr (.inl HG.out)) _).setCell (p:=⟨g,_,none⟩) (.inr (.inl HG.out)) _).setCell (p:=⟨g,_,none⟩) (.inr (.inl HG.out)) _).setCell (p:=⟨g,_,none⟩) (.inr (.inl HG.out)) _)
theorem zj1(k o:Nat)(ho:o≤8)(hk:k<1024):wrap64 ((k:Int)/2 ^ o*2 ^ o)=((k/2 ^ o*2 ^ o:Nat):Int):=by
 have h1:k/2 ^ o*2 ^ o≤k:=Nat.div_mul_le_self _ _;have h2:((k:Int)/2 ^ o*2 ^ o)=((k/2 ^ o*2 ^ o:Nat):Int):=by simp
 rw[h2];generalize k/2 ^ o*2 ^ o=z at *;unfold wrap64;omega
def zeg(m:Mp)(i:Int):Int:=if inR m.n i=true then ((i.toNat/2 ^ (m.pg i.toNat).od.toNat*2 ^ (m.pg i.toNat).od.toNat:Nat):Int) else -1
theorem zj2(b:Nat)(B:Bs)(m:Mp)(i:Int)(w:World)(h:MpA w b B m)(hi:inR m.n i=false):
  Calls Tryz.prog 183 #[.pointer (some ⟨b,0,none⟩),.int .i64 i] w fun e w'=>e=.returned (.int .i64 (-1))∧w'=w:=by
 have HM:=hid h;have HI:=hid hi;clear h hi;go_enter Tryz.func183,Tryz.ntmps183;go_wp2_with fail;refine(zaj b B m i _ HM.out).mono ?_;rintro e w1 ⟨rfl,rfl⟩;rw[HI.out];go_wp2_with fail;go_ret;exact⟨rfl,rfl⟩
theorem zlz(b:Nat)(B:Bs)(m:Mp)(k o:Nat)(w:World)(h:MpA w b B m)(hk:k<m.n)(ho:(m.pg k).od=o):
  Calls Tryz.prog 183 #[.pointer (some ⟨b,0,none⟩),.int .i64 (k:Int)] w fun e w'=>e=.returned (.int .i64 ((k/2 ^ o*2 ^ o:Nat):Int))∧w'=w:=by
 have HM:=hid h;have HI:=hid (zae hk);have ho8:o≤8:=by have:=(h.ok k hk).o8;omega
 have hkn:k<1024:=by have:=h.n1;omega
 obtain⟨g,hg,hr⟩:=h.has_row (by omega);have d1:=(hr.cell k hk).2.1;rw[ho] at d1;have c1:=h.c1 hg;have hki:(k:Int)<(m.n:Int):=by omega
 have HE:=hid (zj1 k o ho8 hkn);clear h hr hg;go_enter Tryz.func183,Tryz.ntmps183;go_wp2_with fail;refine(zaj b B m k _ HM.out).mono ?_;rintro e w1 ⟨rfl,rfl⟩;rw[HI.out];go_wp2_with fail;go_ret;exact⟨zaM HE.out,rfl⟩
theorem Row.f6{w g n pg}(h:Row w g n pg)(i:Nat)(hi:i<n)(x:Int):Row (w.setCell ⟨g,i*11+6,none⟩ (.int .i64 x)) g n (upp pg i { pg i with fs:=x }):=by
 have:=RowC.set h i 6 hi (by decide) (.int .i64 x);refine RowC.congr this (fun a ha b hb=>zgf a b hb (fun j hj=>?_) (fun e=>?_))
 ·revert j
  apply lt11 <;> simp[upc,Pg.fld]
 ·simp[upc,e]
theorem zh8(b:Nat)(B:Bs)(m:Mp)(i c:Int)(w:World)(h:MpA w b B m)(hi:inR m.n i=false):
  Calls Tryz.prog 88 #[.pointer (some ⟨b,0,none⟩),.int .i64 i,.int .i64 c] w fun e w'=>e=.returned (.int .i64 1)∧w'=w:=by
 have HM:=hid h;have HI:=hid hi;clear h hi;go_enter Tryz.func88,Tryz.ntmps88;go_wp2_with fail;refine(zed b B m i _ HM.out HI.out).mono ?_;rintro e w1 ⟨rfl,rfl⟩;go_wp2_with fail;go_ret;exact⟨rfl,rfl⟩
theorem zg0(b:Nat)(B:Bs)(m:Mp)(k:Nat)(c:Int)(w:World)(h:MpA w b B m)(hk:k<m.n)(hkd:(m.pg k).kd≠4):
  Calls Tryz.prog 88 #[.pointer (some ⟨b,0,none⟩),.int .i64 (k:Int),.int .i64 c] w fun e w'=>e=.returned (.int .i64 1)∧w'=w:=by
 have HM:=hid h;obtain⟨g,hg,hr⟩:=h.has_row (by omega);have S:=hid (zbj b B m g k w h hg hk);rw[if_neg hkd] at S;clear h hr hg;go_enter Tryz.func88,Tryz.ntmps88;go_wp2_with fail;refine S.out.mono ?_;rintro e w1 ⟨rfl,rfl⟩;go_wp2_with fail;go_ret;exact⟨rfl,rfl⟩
theorem zg1(b:Nat)(B:Bs)(m:Mp)(k:Nat)(c:Int)(w:World)(h:MpA w b B m)(hk:k<m.n)(hkd:(m.pg k).kd=4)(hm1:c ≠ -1)(hc:inR (zaV (m.pg k).cl) c=false):
  Calls Tryz.prog 88 #[.pointer (some ⟨b,0,none⟩),.int .i64 (k:Int),.int .i64 c] w fun e w'=>e=.returned (.int .i64 1)∧w'=w:=by
 have HM:=hid h;obtain⟨g,hg,hr⟩:=h.has_row (by omega);have S:=hid (zbj b B m g k w h hg hk);rw[if_pos hkd] at S;obtain⟨d0,d1,d2,d3,d4,d5,d6,d7,d8,d9,d10⟩:=hr.cell k hk;have HC:=hid (zba g (k*11) (m.pg k).cl (h.ok k hk).c0 (h.ok k hk).c7 c w d2);rw[hc] at HC;clear h hr hg;go_enter Tryz.func88,Tryz.ntmps88;go_wp2_with fail;refine S.out.mono ?_;rintro e w1 ⟨rfl,rfl⟩;go_wp2_with fail;refine HC.out.mono ?_;rintro e w1 ⟨rfl,rfl⟩;go_wp2_with fail;go_ret;exact⟨rfl,rfl⟩
theorem zj3(b:Nat)(B:Bs)(m:Mp)(k:Nat)(c:Int)(w:World)(h:MpA w b B m)(hk:k<m.n)(hkd:(m.pg k).kd=4)(hc:c = -1∨inR (zaV (m.pg k).cl) c=true):
  Calls Tryz.prog 88 #[.pointer (some ⟨b,0,none⟩),.int .i64 (k:Int),.int .i64 c] w fun e w'=>e=.returned (.int .i64 0)∧MpA w' b B { m with pg:=upp m.pg k { m.pg k with fs:=c } }∧Kt (mown b B m.o) w w':=by
 have HM:=hid h;obtain⟨g,hg,hr⟩:=h.has_row (by omega);have S:=hid (zbj b B m g k w h hg hk);rw[if_pos hkd] at S;obtain⟨d0,d1,d2,d3,d4,d5,d6,d7,d8,d9,d10⟩:=hr.cell k hk;have HC:=hid (zba g (k*11) (m.pg k).cl (h.ok k hk).c0 (h.ok k hk).c7 c w d2);have z:=RowC.froz hr;have FIN:=hid (show MpA (w.setCell ⟨g,k*11+6,none⟩ (.int .i64 c)) b B { m with pg:=upp m.pg k { m.pg k with fs:=c } }∧Kt (mown b B m.o) w (w.setCell ⟨g,k*11+6,none⟩ (.int .i64 c))from
  ⟨h.pages hg ((Kt.refl (fun x=>x=g) w).setCell (p:=⟨g,_,none⟩) rfl _) (hr.f6 k hk c) (fun i hi=>by
   unfold upp;split
   ·exact⟨(h.ok k hk).o0,(h.ok k hk).o8,(h.ok k hk).c0,(h.ok k hk).c7,(h.ok k hk).b0,(h.ok k hk).b1,(h.ok k hk).b2,(h.ok k hk).b3⟩
   ·exact h.ok i hi),(Kt.refl (mown b B m.o) w).setCell (p:=⟨g,_,none⟩) (.inr (.inl hg)) _⟩)
 clear h hr hg;by_cases h1:c = -1
 ·subst h1;clear hc;go_enter Tryz.func88,Tryz.ntmps88;go_wp2_with fail;refine S.out.mono ?_;rintro e w1 ⟨rfl,rfl⟩;go_wp2_with fail;go_ret;exact⟨rfl,FIN.out⟩
 ·rw[hc.resolve_left h1] at HC;clear hc;go_enter Tryz.func88,Tryz.ntmps88;go_wp2_with fail;refine S.out.mono ?_;rintro e w1 ⟨rfl,rfl⟩;go_wp2_with fail;refine HC.out.mono ?_;rintro e w1 ⟨rfl,rfl⟩;go_wp2_with fail;go_ret;exact⟨rfl,FIN.out⟩
def lnk(n:Nat)(x:Int):Bool:=x == -1 || inR n x
theorem Row.f45{w g n pg}(h:Row w g n pg)(i:Nat)(hi:i<n)(x y:Int):Row ((w.setCell ⟨g,i*11+4,none⟩ (.int .i64 x)).setCell ⟨g,i*11+5,none⟩ (.int .i64 y)) g n (upp pg i { pg i with nx:=x,pv:=y }):=by
 have:=(RowC.set h i 4 hi (by decide) (.int .i64 x)).set i 5 hi (by decide) (.int .i64 y);refine RowC.congr this (fun a ha b hb=>zgf a b hb (fun j hj=>?_) (fun e=>?_))
 ·revert j
  apply lt11 <;> simp[upc,Pg.fld]
 ·simp[upc,e]
theorem zh9(b:Nat)(B:Bs)(m:Mp)(i x y:Int)(w:World)(h:MpA w b B m)(hi:inR m.n i=false):
  Calls Tryz.prog 98 #[.pointer (some ⟨b,0,none⟩),.int .i64 i,.int .i64 x,.int .i64 y] w fun e w'=>e=.returned (.int .i64 1)∧w'=w:=by
 have HM:=hid h;have HI:=hid hi;clear h hi;go_enter Tryz.func98,Tryz.ntmps98;go_wp2_with fail;refine(zed b B m i _ HM.out HI.out).mono ?_;rintro e w1 ⟨rfl,rfl⟩;go_wp2_with fail;go_ret;exact⟨rfl,rfl⟩
theorem zg2(b:Nat)(B:Bs)(m:Mp)(k:Nat)(x y:Int)(w:World)(h:MpA w b B m)(hk:k<m.n)(hkd:(m.pg k).kd≠4):
  Calls Tryz.prog 98 #[.pointer (some ⟨b,0,none⟩),.int .i64 (k:Int),.int .i64 x,.int .i64 y] w fun e w'=>e=.returned (.int .i64 1)∧w'=w:=by
 have HM:=hid h;obtain⟨g,hg,hr⟩:=h.has_row (by omega);have S:=hid (zbj b B m g k w h hg hk);rw[if_neg hkd] at S;clear h hr hg;go_enter Tryz.func98,Tryz.ntmps98;go_wp2_with fail;refine S.out.mono ?_;rintro e w1 ⟨rfl,rfl⟩;go_wp2_with fail;go_ret;exact⟨rfl,rfl⟩
theorem zg3(b:Nat)(B:Bs)(m:Mp)(k:Nat)(x y:Int)(w:World)(h:MpA w b B m)(hk:k<m.n)(hkd:(m.pg k).kd=4)(hx:x ≠ -1)(hx2:inR m.n x=false):
  Calls Tryz.prog 98 #[.pointer (some ⟨b,0,none⟩),.int .i64 (k:Int),.int .i64 x,.int .i64 y] w fun e w'=>e=.returned (.int .i64 1)∧w'=w:=by
 have HM:=hid h;obtain⟨g,hg,hr⟩:=h.has_row (by omega);have S:=hid (zbj b B m g k w h hg hk);rw[if_pos hkd] at S;have HX:=hid hx2;clear h hr hg hx2;go_enter Tryz.func98,Tryz.ntmps98;go_wp2_with fail;refine S.out.mono ?_;rintro e w1 ⟨rfl,rfl⟩;go_wp2_with fail;refine(zaj b B m x _ HM.out).mono ?_;rintro e w1 ⟨rfl,rfl⟩;rw[HX.out];go_wp2_with fail;go_ret;exact⟨rfl,rfl⟩
theorem zdL(b:Nat)(B:Bs)(m:Mp)(k:Nat)(x y:Int)(w:World)(h:MpA w b B m)(hk:k<m.n)(hkd:(m.pg k).kd=4)(hx:lnk m.n x=true)(R:Int)(W:World)
  (hR:(lnk m.n y=false∧R=1∧W=w)∨(lnk m.n y=true∧R=0∧∃ g,B.g=some g∧W=(w.setCell ⟨g,k*11+4,none⟩ (.int .i64 x)).setCell ⟨g,k*11+5,none⟩ (.int .i64 y))):
  Calls Tryz.prog 98 #[.pointer (some ⟨b,0,none⟩),.int .i64 (k:Int),.int .i64 x,.int .i64 y] w fun e w'=>e=.returned (.int .i64 R)∧w'=W:=by
 have HM:=hid h;obtain⟨g,hg,hr⟩:=h.has_row (by omega);have S:=hid (zbj b B m g k w h hg hk);rw[if_pos hkd] at S;have HX:=hid hx;obtain⟨d0,d1,d2,d3,d4,d5,d6,d7,d8,d9,d10⟩:=hr.cell k hk;have z:=RowC.froz hr;have hR2:(lnk m.n y=false∧R=1∧W=w)∨(lnk m.n y=true∧R=0∧W=(w.setCell ⟨g,k*11+4,none⟩ (.int .i64 x)).setCell ⟨g,k*11+5,none⟩ (.int .i64 y)):=by
  rcases hR with h|⟨h1,h2,g',hg',h3⟩
  ·exact .inl h
  ·rw[hg] at hg'
   cases hg'
   exact .inr ⟨h1,h2,h3⟩
 have HR:=hid hR2;clear h hr hg hx hR hR2 d0 d1 d2 d3 d6 d7 d8 d9 d10;by_cases hx1:x = -1
 all_goals by_cases hy1:y = -1
 ·subst hx1 hy1;have hR3:=(HR.out.resolve_left (fun h=>by simp[lnk] at h)).2;obtain⟨rfl,rfl⟩:=hR3;clear HR;go_enter Tryz.func98,Tryz.ntmps98;go_wp2_with fail;refine S.out.mono ?_;rintro e w1 ⟨rfl,rfl⟩;go_wp2_with fail;go_ret;exact⟨rfl,rfl⟩
 ·subst hx1;go_enter Tryz.func98,Tryz.ntmps98;go_wp2_with fail;refine S.out.mono ?_;rintro e w1 ⟨rfl,rfl⟩;go_wp2_with fail;refine(zaj b B m y _ HM.out).mono ?_;rintro e w2 ⟨rfl,rfl⟩;rcases HR.out with ⟨h1,rfl,rfl⟩|⟨h1,rfl,rfl⟩
  ·rw[show inR m.n y=false by simpa [lnk,hy1] using h1];clear h1 HR;go_wp2_with fail;go_ret;exact⟨rfl,rfl⟩
  ·rw[show inR m.n y=true by simpa [lnk,hy1] using h1];clear h1 HR;go_wp2_with fail;go_ret;exact⟨rfl,rfl⟩
 ·subst hy1;have hR3:=(HR.out.resolve_left (fun h=>by simp[lnk] at h)).2;obtain⟨rfl,rfl⟩:=hR3;have HX2:=hid (show inR m.n x=true by simpa [lnk,hx1] using HX.out);clear HR;go_enter Tryz.func98,Tryz.ntmps98;go_wp2_with fail;refine S.out.mono ?_;rintro e w1 ⟨rfl,rfl⟩;go_wp2_with fail;refine(zaj b B m x _ HM.out).mono ?_;rintro e w2 ⟨rfl,rfl⟩;rw[HX2.out];go_wp2_with fail;go_ret;exact⟨rfl,rfl⟩
 ·have HX2:=hid (show inR m.n x=true by simpa [lnk,hx1] using HX.out);go_enter Tryz.func98,Tryz.ntmps98;go_wp2_with fail;refine S.out.mono ?_;rintro e w1 ⟨rfl,rfl⟩;go_wp2_with fail;refine(zaj b B m x _ HM.out).mono ?_;rintro e w2 ⟨rfl,rfl⟩;rw[HX2.out];go_wp2_with fail;refine(zaj b B m y _ HM.out).mono ?_;rintro e w2 ⟨rfl,rfl⟩;rcases HR.out with ⟨h1,rfl,rfl⟩|⟨h1,rfl,rfl⟩
  ·rw[show inR m.n y=false by simpa [lnk,hy1] using h1];clear h1 HR;go_wp2_with fail;go_ret;exact⟨rfl,rfl⟩
  ·rw[show inR m.n y=true by simpa [lnk,hy1] using h1];clear h1 HR;go_wp2_with fail;go_ret;exact⟨rfl,rfl⟩
theorem zeh(k c:Nat)(hk:k<8)(hc:c≤1024)(w:World):
  Calls Tryz.prog 175 #[.int .i64 (k:Int),.int .i64 (c:Int)] w fun e w'=>e=.returned (.int .i64 ((c/2 ^ (k+1):Nat):Int))∧w'=w:=by
 go_enter Tryz.func175,Tryz.ntmps175;go_wp2_with fail;go_ret;exact⟨zaM (by simp),rfl⟩
theorem zbb(b:Nat)(B:Bs)(m:Mp)(k i:Int)(w:World)(h:MpA w b B m):
  Calls Tryz.prog 170 #[.pointer (some ⟨b,0,none⟩),.int .i64 k,.int .i64 i] w fun e w'=>e=.returned (.bool (inR m.o k && inR m.n i))∧w'=w:=by
 have HM:=hid h;have c0:=h.c0;clear h
 cases hk:inR m.o k with
 | true=>
  obtain⟨j,rfl,hj⟩:=zav hk;rw[Bool.true_and];have hji:(j:Int)<(m.o:Int):=by omega
  clear hk;go_enter Tryz.func170,Tryz.ntmps170;go_wp2_with fail;refine(zaj b B m i _ HM.out).mono ?_;rintro e w1 ⟨rfl,rfl⟩;go_wp2_with fail;go_ret;exact⟨rfl,rfl⟩
 | false=>
  rw[Bool.false_and];by_cases h0 : 0≤k
  ·have h1:¬k<(m.o:Int):=(by simp[inR,h0] at hk;omega);clear hk;go_enter Tryz.func170,Tryz.ntmps170;go_wp2_with fail;go_ret;exact⟨rfl,rfl⟩
  ·clear hk;go_enter Tryz.func170,Tryz.ntmps170;go_wp2_with fail;go_ret;exact⟨rfl,rfl⟩
theorem MpA.c2{w b B m}{q:Nat}(h:MpA w b B m)(hq:B.P=some q):∃ cq,w.cell? ⟨b,2,none⟩=some (.slice (some ⟨q,0,none⟩) m.o cq):=by
 obtain⟨cq,hb,_⟩:=h.hb;exact⟨cq,by simp[World.cell?,hb,hq,adr]⟩
theorem zgh(k:Nat) : 0<2 ^ k:=Nat.pow_pos (by decide)
theorem zlA(b:Nat)(B:Bs)(m:Mp)(k i:Nat)(w:World)(h:MpA w b B m)(hk:k<m.o)(hi:i<m.n):
  Calls Tryz.prog 172 #[.pointer (some ⟨b,0,none⟩),.int .i64 (k:Int),.int .i64 (i:Int)] w fun e w'=>e=.returned (.bool (inS (m.n/2 ^ (k+1)) (m.wd k) ((i/2 ^ (k+1):Nat):Int)))∧Kt nO w w':=by
 have HQ:=hid (fun q=>zbb b B m k i (w.drewN q) (h.keep ((Kt.refl nO w).drewN q)));rw[show(inR m.o (k:Int) && inR m.n (i:Int))=true by rw[zae hk,zae hi];rfl] at HQ;obtain⟨q,hq,cp⟩:=h.cp k hk;obtain⟨cq,c2⟩:=h.c2 hq;have HG:=hid (fun z=>zig (B.S k) (B.C k) _ (m.wd k) ((i/2 ^ (k+1):Nat):Int) (w.drewN z) ((h.set k hk).kept ((Kt.refl nO w).drewN z) (fun x=>x) (fun x=>x)));have hk8:k<8:=by have:=h.o8;omega
 have hi10:i<1024:=by have:=h.n1;omega
 have hki:(k:Int)<(m.o:Int):=by omega
 clear h hq;go_enter Tryz.func172,Tryz.ntmps172;go_wp2_with fail;go_quiet (first|(go_at_call 170;exact Calls.quiet_of_same (HQ.out _))|(go_at_call 181;exact Calls.quiet_of_same (HG.out _)))
 go_wp2_with fail;go_ret;exact⟨rfl,(Kt.refl nO w).drewN _⟩
end Go.Proofs.YtgjdmkfpmokkaaaGreatDoor
