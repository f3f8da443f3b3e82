import Derived.Test.YtkfmheelhinjdaaGreatDoorWh
import Derived.Test.YtkfmheelhinjdaaGreatDoorWl
set_option maxRecDepth 1000000
set_option maxHeartbeats 80000000
namespace Go.Proofs.YtkfmheelhinjdaaGreatDoor.W
open _root_.Go.Proofs.Tryz
open Go.RowKit
set_option linter.unusedVariables false
set_option maxHeartbeats 8000000
set_option maxRecDepth 6000
theorem zhN(I:Img)(V:ImV)(w:World)(hI:ImD w I V):
  Calls prog 63 #[imA I V] w fun e w'=>e=.returned (.bool ((chk I).1 == 0))/\Kt nO w w':=by
 obtain⟨⟨ma,mc,hm⟩,⟨pa,pc,hp⟩,⟨ra,rc,hr⟩,⟨ha,hc,hh⟩,⟨ta,tc,ht⟩,-⟩:=hI.sl;have HCK:=aA (show Calls prog 30 #[.agg #[.int .u64 I.bS,.int .i64 I.lim,.int .i64 I.ord,.int .i64 I.reg,V.m,V.p,V.r,V.h,V.t]] (w.alloc (aE I V)) fun e w'=>e=.returned (.tuple #[.int .i64 ((chk I).1:Int),.int .i64 ((chk I).2:Int)])/\Kt nO (w.alloc (aE I V)) w' from zF I V (w.alloc (aE I V)) (hI.keep ((Kt.refl _ w).alloc _)));have K0:=aA (show Kt nO w (w.alloc (aE I V))from(Kt.refl _ w).alloc _);obtain⟨ru,hru⟩:=xe ((chk I).1);obtain⟨pl,hpl⟩:=xe ((chk I).2);rw[<-hru,<-hpl] at HCK;rw[<-hru];show Calls prog 63 #[.agg #[.int .u64 I.bS,.int .i64 I.lim,.int .i64 I.ord,.int .i64 I.reg,V.m,V.p,V.r,V.h,V.t]] w _
 rw[hm,hp,hr,hh,ht] at HCK ⊢;have EW:=aA (show(w.alloc (.cells #[.int .u64 I.bS,.int .i64 I.lim,.int .i64 I.ord,.int .i64 I.reg,.slice ma I.nm mc,.slice pa I.np pc,.slice ra I.no rc,.slice ha I.hd.length hc,.slice ta I.pt.length tc] 38 (0,0)))=w.alloc (aE I V)by rw[<-hm,<-hp,<-hr,<-hh,<-ht]);clear hm hp hr hh ht hI hru hpl;have hz:((ru:Int) == 0)=(ru == 0):=by rw[Bool.eq_iff_iff,beq_iff_eq,beq_iff_eq];omega
 go_enter func63,ntmps63;go_wp2_with fail;rw[EW.out];refine HCK.out.mono ?_;rintro e w1 ⟨rfl,hk1⟩;have K1:=aA (nT K0.out hk1);clear hk1 EW K0;generalize w.alloc (aE I V)=W0 at *;go_wp2_with fail;go_ret;exact⟨by first|rfl|rw[hz],K1.out⟩
end Go.Proofs.YtkfmheelhinjdaaGreatDoor.W
