import Derived.Test.YtkfmheelhinjdaaGreatDoorXi
import Derived.Test.YtkfmheelhinjdaaGreatDoorXu
import Derived.Test.YtkfmheelhinjdaaGreatDoorXt
set_option maxRecDepth 1000000
set_option maxHeartbeats 80000000
namespace Go.Proofs.YtkfmheelhinjdaaGreatDoor.W
open _root_.Go.Proofs.Tryz
open Go.RowKit
set_option linter.unusedVariables false
def rl(I:Img):Nat->Option Nat
 | 0=>if M.mayB I.bS I.lim I.ord=true then none else some 0
 | 1=>r2 I I.ord.toNat
 | 2=>fst1 I.np fun i=>rngB I.ord I.np (I.pg i)
 | 3=>r4 I
 | 4=>fst1 I.np fun i=>ok5 (I.pg i)
 | 5=>fst1 I.np (ok6 I I.ord.toNat)
 | 6=>r7 I
 | 7=>fst1 (I.ord.toNat+1) (ok8 I)
 | 8=>fst1 I.np (ok9 I)
 | 9=>fst1 8 (dY I)
 | 10=>fst1 I.np (ok11 I)
 | _=>none
def chk(I:Img):Nat×Nat:=match (List.range 11).findSome? fun j=>(rl I j).map fun p=>(j+1,p)with
 | some x=>x
 | none=>(0,0)
theorem QB{I:Img}{j p:Nat}(hj:j<11)(h:∀ a,a<j->rl I a=none)(hb:rl I j=some p):chk I=(j+1,p):=by
 have:(List.range 11).findSome? (fun j=>(rl I j).map fun p=>(j+1,p))=some (j+1,p):=by
  obtain⟨d,hd⟩:∃ d,11=j+1+d:=⟨11-(j+1),by omega⟩;rw[hd,List.range_add,List.findSome?_append,List.range_succ,List.findSome?_append,List.findSome?_eq_none_iff.2 (fun a ha=>by rw[h a (List.mem_range.1 ha)];rfl)];simp[hb]
 unfold chk;rw[this]
theorem chk_ok{I:Img}(h:∀ a,a<11->rl I a=none):chk I=(0,0):=by
 have:(List.range 11).findSome? (fun j=>(rl I j).map fun p=>(j+1,p))=none:=List.findSome?_eq_none_iff.2 (fun a ha=>by rw[h a (List.mem_range.1 ha)];rfl);unfold chk;rw[this]
theorem sK{I:Img}(h:rl I 0=none):M.mayB I.bS I.lim I.ord=true:=by
 cases hm:M.mayB I.bS I.lim I.ord with
 | true=>rfl
 | false=>
  have:rl I 0=some 0:=by show(if _ then _ else _)=_;rw[hm];rfl
  rw[this] at h;cases h
theorem may_facts{bS:Nat}{lim ord:Int}(h:M.mayB bS lim ord=true):∃ k L:Nat,ord=(k:Int)/\lim=(L:Int)/\k<=8/\L<=64/\L*2 ^ k<=1024/\bS≠0/\bS%M.RS k=0/\bS+L*M.RS k<=9223372036854775808:=by
 simp only[M.mayB,Bool.and_eq_true,decide_eq_true_eq] at h;obtain⟨⟨hB,h1⟩,⟨h2,h3⟩,h4⟩:=h;unfold M.Bounds at hB;exact⟨ord.toNat,lim.toNat,by omega,by omega,by omega,by omega,h1,h2,h3,h4⟩
theorem sn9_of{I:Img}(h0:rl I 0=none)(h1:rl I 1=none)(h2:rl I 2=none):∃ r,Sn9 I I.ord.toNat r:=by
 obtain⟨k,L,hk,hL,k8,L64,hLk,b0,bm,be⟩:=may_facts (sK h0);have e1:I.ord.toNat=k:=by omega
 rw[e1];have hr:r2 I k=none:=by rw[<-e1];exact h1
 unfold r2 at hr;by_cases c1:wiB I.reg 0 I.lim=false
 ·rw[if_pos c1] at hr;cases hr
 rw[if_neg c1] at hr;by_cases c2:I.nm≠I.reg.toNat*2 ^ k*4096
 ·rw[if_pos c2] at hr;cases hr
 rw[if_neg c2] at hr;by_cases c3:I.np≠I.reg.toNat*2 ^ k
 ·rw[if_pos c3] at hr;cases hr
 rw[if_neg c3] at hr;by_cases c4:I.no≠k
 ·rw[if_pos c4] at hr;cases hr
 rw[if_neg c4] at hr;by_cases c5:fst1 I.no (fun j=>decide ((I.pr j).length=gT I.np j))≠none
 ·rw[if_pos c5] at hr;cases hr
 rw[if_neg c5] at hr;by_cases c6:I.hd.length≠k+1
 ·rw[if_pos c6] at hr;cases hr
 rw[if_neg c6] at hr;by_cases c7:I.pt.length≠8
 ·rw[if_pos c7] at hr;cases hr
 have c1' : 0<=I.reg/\I.reg<=I.lim:=by
  have:wiB I.reg 0 I.lim=true:=by simpa using c1
  unfold wiB at this;exact of_decide_eq_true this
 have hrl:I.reg.toNat<=L:=by omega
 have hnp:I.np=I.reg.toNat*2 ^ k:=Decidable.not_not.1 c3;have hnm:I.nm=I.np*4096:=by rw[hnp];exact Decidable.not_not.1 c2
 have hle:I.np<=L*2 ^ k:=by rw[hnp];exact Nat.mul_le_mul_right _ hrl
 refine⟨I.reg.toNat,k8,hk,hnp,by omega,hnm,Decidable.not_not.1 c4,fun j hj=>?_,Decidable.not_not.1 c6,Decidable.not_not.1 c7,b0,bm,?_,fun i hi=>?_⟩
 ·have:=tS (Decidable.not_not.1 c5) j (by rw[Decidable.not_not.1 c4];exact hj);exact of_decide_eq_true this
 ·rw[hnm];have:L*M.RS k=L*2 ^ k*4096:=by unfold M.RS;rw[Nat.mul_comm 4096,Nat.mul_assoc]
  omega
 ·have:=tS h2 i hi;rw[hk] at this;exact this
theorem JA(w:World):(Instr.typeAssert .nilIface 20 218 true).run prog w=.ok (.tuple #[.int .i64 0,.bool false]) w:=by kernel_rfl
theorem MB(p:Int)(w:World):(Instr.typeAssert (.iface 218 (.int .i64 p)) 20 218 true).run prog w=.ok (.tuple #[.int .i64 p,.bool true]) w:=by kernel_rfl
theorem ZL(w:World):Calls prog 133 #[.nilIface] w fun e w'=>e=.returned (.int .i64 0)/\w'=w:=by
 have h1:=JA;go_enter func133,ntmps133;go_wp2
 go_ret;exact⟨rfl,rfl⟩
theorem zeO(p:Int)(w:World):Calls prog 133 #[.iface 218 (.int .i64 p)] w fun e w'=>e=.returned (.int .i64 p)/\w'=w:=by
 have h1:=MB p;go_enter func133,ntmps133;go_wp2
 go_ret;exact⟨rfl,rfl⟩
theorem zcR(xs:Array Value)(w:World):Sem.run prog (callFunc 165 xs) w=.ok (.enter 165 xs) w:=by
 simp[callFunc,go_sem,func165];rfl
theorem zcF(xs:Array Value)(w:World):Sem.run prog (callFunc 166 xs) w=.ok (.enter 166 xs) w:=by
 simp[callFunc,go_sem,func166];rfl
theorem zcS(xs:Array Value)(w:World):Sem.run prog (callFunc 167 xs) w=.ok (.enter 167 xs) w:=by
 simp[callFunc,go_sem,func167];rfl
theorem zcT(xs:Array Value)(w:World):Sem.run prog (callFunc 168 xs) w=.ok (.enter 168 xs) w:=by
 simp[callFunc,go_sem,func168];rfl
theorem zdx(xs:Array Value)(w:World):Sem.run prog (callFunc 169 xs) w=.ok (.enter 169 xs) w:=by
 simp[callFunc,go_sem,func169];rfl
theorem zcU(xs:Array Value)(w:World):Sem.run prog (callFunc 170 xs) w=.ok (.enter 170 xs) w:=by
 simp[callFunc,go_sem,func170];rfl
theorem zdy(xs:Array Value)(w:World):Sem.run prog (callFunc 171 xs) w=.ok (.enter 171 xs) w:=by
 simp[callFunc,go_sem,func171];rfl
theorem zb6(xs:Array Value)(w:World):Sem.run prog (callFunc 172 xs) w=.ok (.enter 172 xs) w:=by
 simp[callFunc,go_sem,func172];rfl
theorem zb7(xs:Array Value)(w:World):Sem.run prog (callFunc 173 xs) w=.ok (.enter 173 xs) w:=by
 simp[callFunc,go_sem,func173];rfl
theorem zbw(xs:Array Value)(w:World):Sem.run prog (callFunc 174 xs) w=.ok (.enter 174 xs) w:=by
 simp[callFunc,go_sem,func174];rfl
theorem zb8(xs:Array Value)(w:World):Sem.run prog (callFunc 175 xs) w=.ok (.enter 175 xs) w:=by
 simp[callFunc,go_sem,func175];rfl
def fT:Nat->Nat
 | 0=>165
 | 1=>166
 | 2=>167
 | 3=>168
 | 4=>169
 | 5=>170
 | 6=>171
 | 7=>172
 | 8=>173
 | 9=>174
 | _=>175
theorem MA(b:Nat)(I:Img)(V:ImV)(a:Nat)(ha:a<11)(h:∀ x,x<a->rl I x=none)(w:World)(hI:ImAt w b I V):
  (∀ xs w,Sem.run prog (callFunc (fT a) xs) w=.ok (.enter (fT a) xs) w)/\Calls prog (fT a) #[.pointer (some ⟨b,0,none⟩)] w fun e w'=>e=bB (rl I a)/\Kt nO w w':=by
 have hhd:I.hd.length<=9223372036854775807:=hI.d.hds.1;match a,ha with
 | 0,_=>exact⟨zcR,zet b I V w hI⟩
 | 1,_=>
  obtain⟨k,L,hk,hL,k8,L64,-⟩:=may_facts (sK (h 0 (by decide)));have e:rl I 1=r2 I k:=by show r2 I I.ord.toNat=_;rw[hk,Int.toNat_natCast]
  rw[e];exact⟨zcF,zdE b I V k L k8 L64 hk hL hhd w hI⟩
 | 2,_=>
  obtain⟨k,L,hk,hL,k8,L64,hLk,-⟩:=may_facts (sK (h 0 (by decide)));have hnp:I.np<=1024:=by
   have hr:r2 I k=none:=(by have:=h 1 (by decide);rw[show rl I 1=r2 I I.ord.toNat from rfl,hk,Int.toNat_natCast] at this;exact this);unfold r2 at hr;by_cases c1:wiB I.reg 0 I.lim=false
   ·rw[if_pos c1] at hr;cases hr
   rw[if_neg c1] at hr;by_cases c2:I.nm≠I.reg.toNat*2 ^ k*4096
   ·rw[if_pos c2] at hr;cases hr
   rw[if_neg c2] at hr;by_cases c3:I.np≠I.reg.toNat*2 ^ k
   ·rw[if_pos c3] at hr;cases hr
   have c1' : 0<=I.reg/\I.reg<=I.lim:=by
    have:wiB I.reg 0 I.lim=true:=by simpa using c1
    unfold wiB at this;exact of_decide_eq_true this
   have hnp:I.np=I.reg.toNat*2 ^ k:=Decidable.not_not.1 c3;have hle:I.np<=L*2 ^ k:=(by rw[hnp];exact Nat.mul_le_mul_right _ (by omega));omega
  exact⟨zcS,zeu b I V w hI hnp⟩
 | 3,_=>
  obtain⟨r,hS⟩:=sn9_of (h 0 (by decide)) (h 1 (by decide)) (h 2 (by decide));exact⟨zcT,zeE b I V I.ord.toNat r hS w hI⟩
 | 4,_=>
  obtain⟨r,hS⟩:=sn9_of (h 0 (by decide)) (h 1 (by decide)) (h 2 (by decide));exact⟨zdx,zeW b I V I.ord.toNat r hS w hI⟩
 | 5,_=>
  obtain⟨r,hS⟩:=sn9_of (h 0 (by decide)) (h 1 (by decide)) (h 2 (by decide));exact⟨zcU,ZZ b I V I.ord.toNat r hS w hI⟩
 | 6,_=>
  obtain⟨r,hS⟩:=sn9_of (h 0 (by decide)) (h 1 (by decide)) (h 2 (by decide));exact⟨zdy,ze4 b I V I.ord.toNat r hS w hI⟩
 | 7,_=>
  obtain⟨r,hS⟩:=sn9_of (h 0 (by decide)) (h 1 (by decide)) (h 2 (by decide));exact⟨zb6,zcH b I V I.ord.toNat r hS w hI⟩
 | 8,_=>
  obtain⟨r,hS⟩:=sn9_of (h 0 (by decide)) (h 1 (by decide)) (h 2 (by decide));exact⟨zb7,zcK b I V I.ord.toNat r hS w hI⟩
 | 9,_=>
  obtain⟨r,hS⟩:=sn9_of (h 0 (by decide)) (h 1 (by decide)) (h 2 (by decide));exact⟨zbw,zb2 b I V I.ord.toNat r hS w hI⟩
 | 10,_=>
  obtain⟨r,hS⟩:=sn9_of (h 0 (by decide)) (h 1 (by decide)) (h 2 (by decide));exact⟨zb8,zcI b I V I.ord.toNat r hS w hI⟩
end Go.Proofs.YtkfmheelhinjdaaGreatDoor.W
