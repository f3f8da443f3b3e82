import Derived.Test.YtkfmheelhinjdaaGreatDoorWk
import Derived.Test.YtkfmheelhinjdaaGreatDoorWp
import Derived.Test.YtkfmheelhinjdaaGreatDoorWq
set_option maxRecDepth 1000000
set_option maxHeartbeats 80000000
namespace Go.Proofs.YtkfmheelhinjdaaGreatDoor.W
open _root_.Go.Proofs.Tryz
open Go.RowKit
set_option linter.unusedVariables false
set_option maxHeartbeats 8000000
set_option maxRecDepth 8000
theorem iU.keep'{w w':World}(h:iU w)(k:Kt nO w w'):iU w':=fun j hj=>k.cell id (h j hj)
set_option maxHeartbeats 8000000
set_option maxRecDepth 6000
set_option maxHeartbeats 8000000
set_option maxRecDepth 8000
def lU(I:Img):Nat:=if (chk I).1=0 then I.ord.toNat+1 else 0
def FX(I:Img)(w U:World)(la:Option Addr)(m a:Nat):Prop:=m=0\/∃ g,la=some ⟨g,0,none⟩/\XR w.heap.size U (.slice (some ⟨g,0,none⟩) m m) m 3 m (fun j=>if j<a then .int .i64 99 else .int .i64 ((lD I j:Nat):Int))
theorem wG(I:Img)(V:ImV)(w:World)(hI:ImD w I V):Calls prog 14 #[imA I V] w fun e w'=>∃ la lc,e=.returned (.slice la (lU I) lc)/\lU I<=9/\FX I w w' la (lU I) 0/\Kt nO w w':=by
 refine(VU I V w hI).mono ?_;rintro e w' (⟨h1,rfl,k⟩|⟨h1,g,m,hm,h9,rfl,x,k⟩)
 ·have e:lU I=0:=if_neg h1;rw[e];exact⟨none,0,rfl,by decide,.inl rfl,k⟩
 ·have e:lU I=m:=by rw[hm];exact if_pos h1
  rw[e];exact⟨_,_,rfl,h9,.inr ⟨g,rfl,x.congr fun j hj=>by rw[if_neg (Nat.not_lt_zero j)]⟩,k⟩
set_option maxRecDepth 6000
set_option maxRecDepth 6000
theorem IR{I:Img}(hz:(chk I).1=0) : 0<=I.reg/\I.np=I.reg.toNat*2 ^ I.ord.toNat:=by
 have hr:r2 I I.ord.toNat=none:=oU hz 1 (by decide);unfold r2 at hr;by_cases c1:wiB I.reg 0 I.lim=false
 ·rw[if_pos c1] at hr;cases hr
 rw[if_neg c1] at hr;by_cases c2:I.nm≠I.reg.toNat*2 ^ I.ord.toNat*4096
 ·rw[if_pos c2] at hr;cases hr
 rw[if_neg c2] at hr;by_cases c3:I.np≠I.reg.toNat*2 ^ I.ord.toNat
 ·rw[if_pos c3] at hr;cases hr
 refine⟨?_,Decidable.not_not.1 c3⟩;have:wiB I.reg 0 I.lim=true:=by simpa using c1
 unfold wiB at this;exact(of_decide_eq_true this).1
end Go.Proofs.YtkfmheelhinjdaaGreatDoor.W
