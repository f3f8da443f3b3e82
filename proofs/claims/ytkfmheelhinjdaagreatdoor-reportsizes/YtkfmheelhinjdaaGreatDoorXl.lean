import Derived.DeepKeys4
import Derived.Test.YtkfmheelhinjdaaGreatDoorWl
set_option maxRecDepth 1000000
set_option maxHeartbeats 80000000
namespace Go.Proofs.YtkfmheelhinjdaaGreatDoor.W
open Tryz
open Go.RowKit
set_option linter.unusedVariables false
set_option maxHeartbeats 8000000
set_option maxRecDepth 6000
abbrev eU(n:Nat):Value:=.int .u64 n
abbrev eZ(n:Nat):Prop:=n<18446744073709551616
theorem uK(n:Nat)(hn:n<18446744073709551616):(Lit.int .u64 n).wf=true:=by
 simp[Lit.wf,IntKind.min,IntKind.max,IntKind.signed,IntKind.bits];omega
theorem mH:KT 27 eU eZ:=
 ⟨Maps.int_keyed Tryz.underlying27,fun a h=>⟨_,Maps.keyOf_int_mk Tryz.underlying27 (uK a h)⟩,fun a b _ _ e=>by injection e with _ e;omega⟩
theorem GT:laidOutB prog=true:=by kernel_rfl
theorem EY:∃ m,prog.types.size=m+1:=⟨prog.types.size-1,by have : 0<prog.types.size:=of_decide_eq_true (by kernel_rfl);omega⟩
theorem pQ{m:Nat}(n:Int)(h:N64 n):prog.keyLits (m+1) 3 [.int .i64 n]=some [.int .i64 n]:=by
 unfold Program.keyLits;rw[Tryz.underlying3];refine if_pos ⟨rfl,?_⟩;simp[Lit.wf,IntKind.min,IntKind.max,IntKind.signed,IntKind.bits];exact h
abbrev gC:=Int×Int×Int×Int
abbrev eS(s:gC):Value:=.agg #[.int .i64 s.1,.int .i64 s.2.1,.int .i64 s.2.2.1,.int .i64 s.2.2.2]
abbrev kH(s:gC):Prop:=N64 s.1/\N64 s.2.1/\N64 s.2.2.1/\N64 s.2.2.2
theorem rP:KT 101 eS kH:=by
 refine⟨Maps.Keyed.of_law (deep_law_laid GT (m:=2) (by omega) (of_decide_eq_true (by kernel_rfl)) (by kernel_rfl) (by kernel_rfl)),fun a h=>?_,fun a b _ _ e=>?_⟩
 ·obtain⟨m,hm⟩:=EY;have f1:(eS a).formed prog 101=true:=by
   simp only[Value.formed,Tryz.underlying101];exact decide_eq_true (by kernel_rfl)
  have k1:prog.keyType 101=true:=by kernel_rfl
  unfold keyOf;rw[Tryz.underlying101];simp only[f1,k1,Bool.and_self,if_true];have c2:prog.cellsOf 101=4:=by kernel_rfl
  have c1:prog.cellsOf 3=1:=by kernel_rfl
  have key:prog.keyLits (prog.types.size+1) 101 (eS a).cells.toList=some [.int .i64 a.1,.int .i64 a.2.1,.int .i64 a.2.2.1,.int .i64 a.2.2.2]:=by
   rw[hm];unfold Program.keyLits;rw[Tryz.underlying101];simp[Value.cells,c2,c1,pQ _ h.1,pQ _ h.2.1,pQ _ h.2.2.1,pQ _ h.2.2.2]
  rw[key];exact⟨_,rfl⟩
 ·injection e with e
  simp only[Array.mk.injEq,List.cons.injEq,Value.int.injEq,true_and,and_true] at e;obtain⟨e1,e2,e3,e4⟩:=e;exact Prod.ext e1 (Prod.ext e2 (Prod.ext e3 e4))
abbrev cX(p:Pg):gC:=(p.kd,p.od,p.cl,p.lv)
theorem yF(p:Pg)(W:World):Calls prog 49 #[fD p] W fun e w'=>e=.returned (eS (cX p))/\Kt nO W w':=by
 obtain⟨kd,od,cl,lv,nx,pv,fs,b0,b1,b2,b3⟩:=p;go_enter func49,ntmps49;go_wp2
 exact⟨rfl,_,by simp[results,results49,go_sem],rfl,((Kt.refl _ W).alloc _).alloc _⟩
set_option maxHeartbeats 8000000
set_option maxRecDepth 6000
end Go.Proofs.YtkfmheelhinjdaaGreatDoor.W
