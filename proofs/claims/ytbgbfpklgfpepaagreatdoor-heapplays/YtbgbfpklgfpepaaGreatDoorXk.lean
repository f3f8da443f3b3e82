import Derived.Test.YtbgbfpklgfpepaaGreatDoorXj
import Derived.Conc.MuLone
set_option maxRecDepth 1000000
set_option maxHeartbeats 80000000
namespace Go.Proofs.YtbgbfpklgfpepaaGreatDoor
open Tryz
open Go.RowKit
open Go.MuLone
set_option linter.unusedVariables false
def KW(w:World):Type:={ W:World // Kt nO w W }
def KW.v{w:World}(x:KW w):World:=x.1
theorem KW.k{w:World}(x:KW w):Kt nO w x.v:=x.2
instance (w:World):Nonempty (KW w):=⟨⟨w,Kt.refl _ _⟩⟩
theorem fC{P:Program}{id:Nat}{Q:Exit->Act->World->Prop}{a:Act}{w:World}{l:List Oper}(hm:P.follows .mixedOrders=true)(hB:Region.lexB .any l.toArray=true)
  (h:wpQuiet P l.toArray (fun w'=>∃ x:KW w,w'=x.v) (fun a'=>∀ x:KW w,Q .normal a' x.v) l a):(Code.region id l.toArray true).wp P Q a w:=by
 refine wp_region_quiet (C:=fun w'=>∃ x:KW w,w'=x.v) hm hB ⟨⟨w.drew,(Kt.refl _ w).drew⟩,rfl⟩ ?_;have e:(fun a'=>∀ w',(∃ x:KW w,w'=x.v)->Q .normal a' w')=(fun a'=>∀ x:KW w,Q .normal a' x.v):=by
  funext a'
  exact propext ⟨fun h x=>h _ ⟨x,rfl⟩,fun h w' ⟨x,hx⟩=>hx▸h x⟩
 rw[e];simpa using h
theorem Calls.kept_of{P:Program}{f:FuncId}{args:Array Value}{w:World}{x:KW w}{v:Value}
  (h:Calls P f args x.v fun e w'=>e=.returned v/\Kt nO x.v w'):Calls P f args x.v fun e w''=>e=.returned v/\∃ y:KW w,w''=y.v:=
 h.mono fun _ w1 ⟨he,hk⟩=>⟨he,⟨w1,nT x.k hk⟩,rfl⟩
abbrev muK:Go.Conc.Locks.MuLink:={ lock:=35,unlock:=36,ilock:=74,iunlock:=75,lockSlow:=121,unlockSlow:=124,disable:=117,enable:=119,acquire:=120,relMerge:=122,cas32:=118,add32:=123,tMutex:=89,tIMutex:=87,tPMutex:=136,tPIMutex:=178,tPI32:=180,tUP:=182,tNoCopy:=84,tU32:=85 }
theorem KT:Go.Conc.Locks.MuLib prog muK:=
 ⟨func35,func36,func74,func75,func117,func119,func120,func122,func118,func123,
 Tryz.underlying87,Tryz.runUnderlying87,Tryz.sizeOf87,Tryz.isAgg87,Tryz.zeroValue87,
 Tryz.underlying89,Tryz.runUnderlying89,Tryz.sizeOf89,Tryz.isAgg89,Tryz.zeroValue89,
 Tryz.underlying136,Tryz.runUnderlying136,Tryz.sizeOf136,Tryz.isAgg136,Tryz.zeroValue136,
 Tryz.underlying178,Tryz.runUnderlying178,Tryz.sizeOf178,Tryz.isAgg178,Tryz.zeroValue178,
 Tryz.underlying180,Tryz.runUnderlying180,Tryz.sizeOf180,Tryz.isAgg180,Tryz.zeroValue180,
 Tryz.underlying182,Tryz.runUnderlying182,Tryz.sizeOf182,Tryz.isAgg182,Tryz.zeroValue182,
 Tryz.underlying84,Tryz.runUnderlying84,Tryz.sizeOf84,Tryz.isAgg84,Tryz.zeroValue84,
 Tryz.underlying21,Tryz.runUnderlying21,Tryz.sizeOf21,Tryz.isAgg21,Tryz.zeroValue21,
 (by kernel_rfl)⟩
abbrev yY(s:Int)(lw sb bS lim o:Nat):Obj:=.cells #[.int .i32 s,.int .u32 0,.int .u64 bS,.int .i64 lim,.int .i64 o,.pointer (some ⟨lw,0,none⟩),.pointer (some ⟨sb,0,none⟩)] 91
structure HW(w W:World)(hb sb lw:Nat)(x:Bx)(t:Bt)(fr:Nat->List Nat)(ls:List (Nat×Nat))(S:Sb)(s:Int):Prop where
 so:∃ h,SO w W sb lw x t fr ls S h
 lv:fI S
 bx:W.heap[hb]?=some (yY s lw sb x.bS x.lim x.o)
 nw:w.heap.size<=hb
 br:x.bS%x.R=0
theorem SO.hty{w W sb lw x t fr ls S h}(s:SO w W sb lw x t fr ls S h){y:Nat}{cs:Array Value}{z:Nat×Nat}(hy:W.heap[y]?=some (.cells cs 91 z)):¬bG x sb y:=by
 rintro (e|e)
 ·exact absurd (s.sw.pl.pty hy (.inl e)) (by unfold Go.Proofs.YtbgbfpklgfpepaaGreatDoor.pty;decide)
 ·subst e;exact absurd (bM hy s.sw.bx) (by decide)
section
variable {w W W':World} {hb sb lw:Nat} {x:Bx} {t:Bt} {fr:Nat->List Nat} {ls:List (Nat×Nat)} {S:Sb} {s:Int}
theorem HW.nhb(H:HW w W hb sb lw x t fr ls S s):¬bG x sb hb:=by
 obtain⟨h,o⟩:=H.so;exact o.hty H.bx
theorem HW.po(H:HW w W hb sb lw x t fr ls S s):PO w W lw x t fr ls:=by
 obtain⟨h,o⟩:=H.so;exact o.po
theorem HW.keep(H:HW w W hb sb lw x t fr ls S s)(k:Kt nO W W'):HW w W' hb sb lw x t fr ls S s:=by
 obtain⟨h,o⟩:=H.so;exact⟨⟨h,o.keep k⟩,H.lv,(k.block _ (lH H.bx) id).trans H.bx,H.nw,H.br⟩
theorem HW.c(H:HW w W hb sb lw x t fr ls S s):W.cell? ⟨hb,0,none⟩=some (.int .i32 s)/\W.cell? ⟨hb,2,none⟩=some (.int .u64 x.bS)/\W.cell? ⟨hb,3,none⟩=some (.int .i64 x.lim)/\W.cell? ⟨hb,4,none⟩=some (.int .i64 x.o)/\W.cell? ⟨hb,5,none⟩=some (.pointer (some ⟨lw,0,none⟩))/\W.cell? ⟨hb,6,none⟩=some (.pointer (some ⟨sb,0,none⟩)):=by
 refine⟨?_,?_,?_,?_,?_,?_⟩ <;> simp[World.cell?,H.bx]
theorem HW.fz(H:HW w W hb sb lw x t fr ls S s)(j:Nat):W.frozen? ⟨hb,j,none⟩=false:=by simp[World.frozen?,H.bx]
theorem HW.call{x':Bx}{t':Bt}{fr':Nat->List Nat}{ls':List (Nat×Nat)}{S':Sb}{h':Nat->Int}(H:HW w W hb sb lw x t fr ls S s)(o:SO w W' sb lw x' t' fr' ls' S' h')(v:fI S')(c:Ch x t ls S x' t' ls' S')(k:Kt (bG x sb) W W'):HW w W' hb sb lw x' t' fr' ls' S' s:=
 ⟨⟨h',o⟩,v,by rw[c.bS,c.lim,c.o];exact(k.block _ (lH H.bx) H.nhb).trans H.bx,H.nw,by rw[c.bS,c.R];exact H.br⟩
theorem HW.set(H:HW w W hb sb lw x t fr ls S s)(v:Int):HW w (W.setCell ⟨hb,0,none⟩ (.int .i32 v)) hb sb lw x t fr ls S v/\Kt (fun y=>y=hb) W (W.setCell ⟨hb,0,none⟩ (.int .i32 v)):=by
 have kp:Kt (fun y=>y=hb) W (W.setCell ⟨hb,0,none⟩ (.int .i32 v)):=(Kt.refl (fun y=>y=hb) W).setCell (p:=⟨hb,0,none⟩) rfl _;refine⟨⟨?_,H.lv,?_,H.nw,H.br⟩,kp⟩
 ·obtain⟨h,o⟩:=H.so;have nl:∀ {y cs e z},W.heap[y]?=some (.cells cs e z)->e≠91->y≠hb:=fun hy he e=>he (bM (e▸hy) H.bx)
  have hpty:∀ y,(aE x y\/y=x.b\/y=x.l\/y=lw)->y≠hb:=fun y hy e=>by
   subst e;exact absurd (o.sw.pl.pty H.bx hy) (by unfold Go.Proofs.YtbgbfpklgfpepaaGreatDoor.pty;decide)
  refine⟨h,⟨⟨⟨(kp.block _ (lH o.sw.pl.box) (hpty _ (.inr (.inr (.inr rfl))))).trans o.sw.pl.box,o.sw.pl.bd.kept kp (fun y hy=>hpty y ?_),o.sw.pl.nw,o.sw.pl.kp.setNew (p:=⟨hb,0,none⟩) (fun e=>absurd H.nw (Nat.not_le.2 e)) _⟩,(kp.block _ (lH o.sw.bx) (nl o.sw.bx (by decide))).trans o.sw.bx,o.sw.nw,o.sw.tb⟩,o.sf,o.st,o.bm,o.si,o.hd⟩⟩;rcases hy with hy|hy|hy
  ·exact .inl hy
  ·exact .inr (.inl hy)
  ·exact .inr (.inr (.inl hy))
 ·rw[bB H.bx];simp
theorem HW.lock(H:HW w W hb sb lw x t fr ls S 0):
  Calls prog 35 #[.pointer (some ⟨hb,0,none⟩)] W fun e w'=>e=.returned (.tuple #[])/\w'=W.setCell ⟨hb,0,none⟩ (.int .i32 1):=lock_free KT ⟨hb,0,none⟩ W H.c.1 (H.fz 0)
theorem HW.unlock(H:HW w W hb sb lw x t fr ls S 1)(u:FrameMode):
  CallsD prog 36 #[.pointer (some ⟨hb,0,none⟩)] u W fun e u' w'=>u'=u/\(e=.returned (.tuple #[])/\w'=W.setCell ⟨hb,0,none⟩ (.int .i32 0)):=unlock_deferred KT ⟨hb,0,none⟩ u W H.c.1 (H.fz 0)
theorem HW.round{K:Nat->Prop}{w2:World}{x2:Bx}{t2:Bt}{fr2:Nat->List Nat}{ls2:List (Nat×Nat)}{S2:Sb}(H:HW w W hb sb lw x t fr ls S 0)(hK:¬K hb)(k:Kt K (W.setCell ⟨hb,0,none⟩ (.int .i32 1)) w2)(H2:HW w w2 hb sb lw x2 t2 fr2 ls2 S2 1)(e1:x2.bS=x.bS)(e2:x2.lim=x.lim)(e3:x2.o=x.o):Kt K W (w2.setCell ⟨hb,0,none⟩ (.int .i32 0)):=by
 have k1:=(H.set 1).2;refine⟨k.os.trans k1.os,k.tape.trans k1.tape,k.output.trans k1.output,?_,fun i hi hU=>?_⟩
 ·have h1:=k1.size;have h2:=k.size;simp
  omega
 ·by_cases e:i=hb
  ·subst e;rw[bB H2.bx,H.bx,e1,e2,e3];simp
  ·rw[Below.heap_setCell w2 ⟨hb,0,none⟩ _ i (fun e2=>e e2),k.block i (Nat.lt_of_lt_of_le hi k1.size) hU];exact k1.block i hi e
end
end Go.Proofs.YtbgbfpklgfpepaaGreatDoor
