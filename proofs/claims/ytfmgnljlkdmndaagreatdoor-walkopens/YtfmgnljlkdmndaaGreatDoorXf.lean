import Derived.Test.YtfmgnljlkdmndaaGreatDoorXe
import Derived.Test.YtfmgnljlkdmndaaGreatDoorXb
set_option maxRecDepth 1000000
set_option maxHeartbeats 0
namespace Go.Proofs.YtfmgnljlkdmndaaGreatDoor
namespace W
open Tryz RowKit
set_option linter.unusedVariables false
def rl(I:Img):Nat->Option Nat
 | 0=>if M.mayB I.bS I.dl I.ord=true then none else some 0
 | 1=>r2 I I.ord.toNat
 | 2=>fst1 I.np fun i=>rngB I.ord I.np (I.pg i)
 | 3=>r4 I
 | 4=>fst1 I.np fun i=>ok5 (I.pg i)
 | 5=>fst1 I.np (ok6 I I.ord.toNat)
 | 6=>r7 I
 | 7=>fst1 (I.ord.toNat+1) (ok8 I)
 | 8=>fst1 I.np (ok9 I)
 | 9=>fst1 8 (ok10 I)
 | 10=>fst1 I.np (ok11 I)
 | _=>none
def chk(I:Img):Nat×Nat:=match (List.range 11).findSome? fun j=>(rl I j).map fun p=>(j+1,p)with
 | some x=>x
 | none=>(0,0)
theorem EL{I:Img}{j p:Nat}(b:j<11)(h:∀ a,a<j->rl I a=none)(hb:rl I j=some p):chk I=(j+1,p):=by
 have:(List.range 11).findSome? (fun j=>(rl I j).map fun p=>(j+1,p))=some (j+1,p):=by obtain⟨d,hd⟩:∃ d,11=j+1+d:=⟨11-(j+1),by omega⟩;rw[hd,List.range_add,List.findSome?_append,List.range_succ,List.findSome?_append,List.findSome?_eq_none_iff.2 (fun a ha=>by rw[h a (List.mem_range.1 ha)];rfl)];simp[hb]
 unfold chk;rw[this]
theorem chk_ok{I:Img}(h:∀ a,a<11->rl I a=none):chk I=(0,0):=by have:(List.range 11).findSome? (fun j=>(rl I j).map fun p=>(j+1,p))=none:=List.findSome?_eq_none_iff.2 (fun a ha=>by rw[h a (List.mem_range.1 ha)];rfl);unfold chk;rw[this]
theorem may_of{I:Img}(h:rl I 0=none):M.mayB I.bS I.dl I.ord=true:=by
 cases hm:M.mayB I.bS I.dl I.ord with
 | true=>rfl
 | false=>
  have:rl I 0=some 0:=by show(if _ then _ else _)=_;rw[hm];rfl
  rw[this] at h;cases h
theorem may_facts{bS:Nat}{dl ord:Int}(h:M.mayB bS dl ord=true):∃ k L:Nat,ord=(k:Int)/\dl=(L:Int)/\k<=8/\L<=64/\L*2 ^ k<=1024/\bS≠0/\bS%M.RS k=0/\bS+L*M.RS k<=9223372036854775808:=by simp only[M.mayB,bu,ci] at h;obtain⟨⟨a,b⟩,⟨e,c⟩,d⟩:=h;unfold M.Bounds at a;exact⟨ord.toNat,dl.toNat,by omega,by omega,by omega,by omega,b,e,c,d⟩
theorem sn9_of{I:Img}(h0:rl I 0=none)(m:rl I 1=none)(o:rl I 2=none):∃ r,Sn9 I I.ord.toNat r:=by
 obtain⟨k,L,g,hL,k8,l,p,b0,bm,be⟩:=may_facts (may_of h0);have f:I.ord.toNat=k:=by omega
 rw[f];have a:r2 I k=none:=by rw[<-f];exact m
 unfold r2 at a;by_cases c1:wiB I.ep 0 I.dl=false;·rw[ae c1] at a;cases a
 rw[ac c1] at a;by_cases c2:I.nm≠I.ep.toNat*2 ^ k*4096;·rw[ae c2] at a;cases a
 rw[ac c2] at a;by_cases c3:I.np≠I.ep.toNat*2 ^ k;·rw[ae c3] at a;cases a
 rw[ac c3] at a;by_cases c4:I.no≠k;·rw[ae c4] at a;cases a
 rw[ac c4] at a;by_cases c5:fst1 I.no (fun j=>decide ((I.pr j).length=pwN I.np j))≠none;·rw[ae c5] at a;cases a
 rw[ac c5] at a;by_cases d:I.hd.length≠k+1;·rw[ae d] at a;cases a
 rw[ac d] at a;by_cases c7:I.pt.length≠8;·rw[ae c7] at a;cases a
 have h : 0<=I.ep/\I.ep<=I.dl:=by
  have:wiB I.ep 0 I.dl=true:=by simpa using c1
  unfold wiB at this;exact bw this
 have e:I.ep.toNat<=L:=by omega
 have b:I.np=I.ep.toNat*2 ^ k:=ed.1 c3;have c:I.nm=I.np*4096:=by rw[b];exact ed.1 c2
 have q:I.np<=L*2 ^ k:=by rw[b];exact ak _ e
 refine⟨I.ep.toNat,k8,g,b,by omega,c,ed.1 c4,fun j n=>?_,ed.1 d,ed.1 c7,b0,bm,?_,fun i hi=>?_⟩;·have:=fst1_none (ed.1 c5) j (by rw[ed.1 c4];exact n);exact bw this
 ·rw[c];have:L*M.RS k=L*2 ^ k*4096:=by unfold M.RS;rw[aq 4096,cy]
  omega
 ·have:=fst1_none o i hi;rw[g] at this;exact this
theorem VB(w:Wd):(Instr.typeAssert .nilIface 20 189 true).run prog w=.ok (.tuple #[.int .i64 0,.bool false]) w:=by kernel_rfl
theorem ZG(p:Int)(w:Wd):(Instr.typeAssert (.iface 189 (.int .i64 p)) 20 189 true).run prog w=.ok (.tuple #[.int .i64 p,.bool true]) w:=by kernel_rfl
theorem zgr(w:Wd):Calls prog 89 #[.nilIface] w fun e a=>e=.returned (.int .i64 0)/\a=w:=by
 have b:=VB;go_enter func89,ntmps89;go_wp2
 go_ret;exact⟨rfl,rfl⟩
theorem zfA(p:Int)(w:Wd):Calls prog 89 #[.iface 189 (.int .i64 p)] w fun e a=>e=.returned (.int .i64 p)/\a=w:=by
 have b:=ZG p;go_enter func89,ntmps89;go_wp2
 go_ret;exact⟨rfl,rfl⟩
theorem zdI(a:Array Vl)(w:Wd):Sem.run prog (callFunc 137 a) w=.ok (.enter 137 a) w:=by simp[callFunc,go_sem,func137];rfl
theorem zdk(a:Array Vl)(w:Wd):Sem.run prog (callFunc 138 a) w=.ok (.enter 138 a) w:=by simp[callFunc,go_sem,func138];rfl
theorem zdJ(a:Array Vl)(w:Wd):Sem.run prog (callFunc 139 a) w=.ok (.enter 139 a) w:=by simp[callFunc,go_sem,func139];rfl
theorem zdK(a:Array Vl)(w:Wd):Sem.run prog (callFunc 140 a) w=.ok (.enter 140 a) w:=by simp[callFunc,go_sem,func140];rfl
theorem zej(a:Array Vl)(w:Wd):Sem.run prog (callFunc 141 a) w=.ok (.enter 141 a) w:=by simp[callFunc,go_sem,func141];rfl
theorem zdL(a:Array Vl)(w:Wd):Sem.run prog (callFunc 142 a) w=.ok (.enter 142 a) w:=by simp[callFunc,go_sem,func142];rfl
theorem zek(a:Array Vl)(w:Wd):Sem.run prog (callFunc 143 a) w=.ok (.enter 143 a) w:=by simp[callFunc,go_sem,func143];rfl
theorem zcA(a:Array Vl)(w:Wd):Sem.run prog (callFunc 144 a) w=.ok (.enter 144 a) w:=by simp[callFunc,go_sem,func144];rfl
theorem zcB(a:Array Vl)(w:Wd):Sem.run prog (callFunc 145 a) w=.ok (.enter 145 a) w:=by simp[callFunc,go_sem,func145];rfl
theorem zbO(a:Array Vl)(w:Wd):Sem.run prog (callFunc 146 a) w=.ok (.enter 146 a) w:=by simp[callFunc,go_sem,func146];rfl
theorem zcC(a:Array Vl)(w:Wd):Sem.run prog (callFunc 147 a) w=.ok (.enter 147 a) w:=by simp[callFunc,go_sem,func147];rfl
def gM:Nat->Nat
 | 0=>137
 | 1=>138
 | 2=>139
 | 3=>140
 | 4=>141
 | 5=>142
 | 6=>143
 | 7=>144
 | 8=>145
 | 9=>146
 | _=>147
theorem ZF(b:Nat)(I:Img)(V:ImV)(a:Nat)(ha:a<11)(h:∀ x,x<a->rl I x=none)(w:Wd)(c:ImAt w b I V):(∀ m w,Sem.run prog (callFunc (gM a) m) w=.ok (.enter (gM a) m) w)/\Calls prog (gM a) #[.pointer (some ⟨b,0,none⟩)] w fun e o=>e=bG (rl I a)/\Kt nO w o:=by
 have l:I.hd.length<=9223372036854775807:=c.d.jr.1;match a,ha with
 | 0,_=>exact⟨zdI,zeQ b I V w c⟩
 | 1,_=>
  obtain⟨k,L,j,hL,k8,i,-⟩:=may_facts (may_of (h 0 (by decide)));have e:rl I 1=r2 I k:=by show r2 I I.ord.toNat=_;rw[j,aa]
  rw[e];exact⟨zdk,zen b I V k L k8 i j hL l w c⟩
 | 2,_=>
  obtain⟨k,L,j,hL,k8,i,p,-⟩:=may_facts (may_of (h 0 (by decide)));have g:I.np<=1024:=by
   have f:r2 I k=none:=(by have:=h 1 (by decide);rw[show rl I 1=r2 I I.ord.toNat from rfl,j,aa] at this;exact this);unfold r2 at f;by_cases c1:wiB I.ep 0 I.dl=false;·rw[ae c1] at f;cases f
   rw[ac c1] at f;by_cases c2:I.nm≠I.ep.toNat*2 ^ k*4096;·rw[ae c2] at f;cases f
   rw[ac c2] at f;by_cases c3:I.np≠I.ep.toNat*2 ^ k;·rw[ae c3] at f;cases f
   have n : 0<=I.ep/\I.ep<=I.dl:=by
    have:wiB I.ep 0 I.dl=true:=by simpa using c1
    unfold wiB at this;exact bw this
   have g:I.np=I.ep.toNat*2 ^ k:=ed.1 c3;have q:I.np<=L*2 ^ k:=(by rw[g];exact ak _ (by omega));omega
  exact⟨zdJ,zfr b I V w c g⟩
 | 3,_=>obtain⟨r,hS⟩:=sn9_of (h 0 (by decide)) (h 1 (by decide)) (h 2 (by decide));exact⟨zdK,zfj b I V I.ord.toNat r hS w c⟩
 | 4,_=>obtain⟨r,hS⟩:=sn9_of (h 0 (by decide)) (h 1 (by decide)) (h 2 (by decide));exact⟨zej,zfI b I V I.ord.toNat r hS w c⟩
 | 5,_=>obtain⟨r,hS⟩:=sn9_of (h 0 (by decide)) (h 1 (by decide)) (h 2 (by decide));exact⟨zdL,zfi b I V I.ord.toNat r hS w c⟩
 | 6,_=>obtain⟨r,hS⟩:=sn9_of (h 0 (by decide)) (h 1 (by decide)) (h 2 (by decide));exact⟨zek,zfQ b I V I.ord.toNat r hS w c⟩
 | 7,_=>obtain⟨r,hS⟩:=sn9_of (h 0 (by decide)) (h 1 (by decide)) (h 2 (by decide));exact⟨zcA,zdo b I V I.ord.toNat r hS w c⟩
 | 8,_=>obtain⟨r,hS⟩:=sn9_of (h 0 (by decide)) (h 1 (by decide)) (h 2 (by decide));exact⟨zcB,zdm b I V I.ord.toNat r hS w c⟩
 | 9,_=>obtain⟨r,hS⟩:=sn9_of (h 0 (by decide)) (h 1 (by decide)) (h 2 (by decide));exact⟨zbO,zcr b I V I.ord.toNat r hS w c⟩
 | 10,_=>obtain⟨r,hS⟩:=sn9_of (h 0 (by decide)) (h 1 (by decide)) (h 2 (by decide));exact⟨zcC,zdl b I V I.ord.toNat r hS w c⟩
end W
end Go.Proofs.YtfmgnljlkdmndaaGreatDoor
