import Derived.Test.YtgjdmkfpmokkaaaGreatDoorRows
import Derived.Test.YtgjdmkfpmokkaaaGreatDoorCards
import Derived.Test.YtgjdmkfpmokkaaaGreatDoorTie
import Derived.Test.YtgjdmkfpmokkaaaGreatDoorYt
import Derived.LaidMore
import Derived.ShutString
import Derived.ChangeOld
import Derived.Below
import Derived.Stop.Joined
import Derived.Lib.LaidTab
import Derived.SevenTiedAt
set_option maxRecDepth 1000000
set_option maxHeartbeats 80000000
namespace Go.Proofs.YtgjdmkfpmokkaaaGreatDoor
open Go.ChangeShapes Go.WideShapes Go.ChangeAt Go.RowKit Go.Deep
set_option linter.unusedVariables false
theorem zhw:Tryz.prog.cellsOf 24=1:=by kernel_rfl
theorem zhx:Tryz.prog.cellsOf 3=1:=by kernel_rfl
theorem zmm{H:Type}{enc:TypeId×Value→H}{W:World}{base:Nat}{v:Value}{d:DataW H}{p:List MemPlace}(hok:Value.okWide Tryz.prog W .any base 26 v)
  (h:DataW.Trod enc Tryz.prog W 0 (fun _=>true) true 26 v d p):
  ∃ (b:Nat) (lim ord:Int),v=.agg #[.int .u64 (b:Int),.int .i64 lim,.int .i64 ord]∧b<18446744073709551616 ∧ -9223372036854775808≤lim∧lim≤9223372036854775807 ∧ -9223372036854775808≤ord∧ord≤9223372036854775807:=by
 obtain⟨cs,rfl,_⟩:=okWide_struct Tryz.underlying26 hok;obtain⟨fuel,hf⟩:=h;obtain⟨y0,y1,y2,nn,_,hlen,g0,g1,g2⟩:=trod_struct3 Tryz.underlying26 hf;obtain⟨l⟩:=cs;simp only[Value.cells] at hlen g0 g1 g2;have hl3:l.length=3:=hlen.trans (by kernel_rfl);match l,hl3 with
 | [c0,c1,c2],_=>
  rw[zhw] at g0;rw[zhx] at g1 g2;obtain⟨x,e0,_,w0⟩:=DataW.trod_int Tryz.underlying24 g0;obtain⟨y,e1,_,w1⟩:=DataW.trod_int Tryz.underlying3 g1;obtain⟨z,e2,_,w2⟩:=DataW.trod_int Tryz.underlying3 g2;simp at e0 e1 e2;subst e0 e1 e2;have b0:=bounds_u64 w0;have b1:=bounds_i64 w1;have b2:=bounds_i64 w2;obtain⟨b,rfl⟩:=Int.eq_ofNat_of_zero_le b0.1;exact⟨b,y,z,rfl,by omega,b1.1,b1.2,b2.1,b2.2⟩
end Go.Proofs.YtgjdmkfpmokkaaaGreatDoor
namespace Go.Proofs.YtgjdmkfpmokkaaaGreatDoor.slabPlays
open Go.ChangeShapes Go.WideShapes Go.ChangeAt Go.RowKit Go.Deep
open Go.ChangeMaps (open_string shut_string)
set_option linter.unusedVariables false
theorem own:ownKnob Tryz.prog.godebug=Option.none:=by kernel_rfl
theorem laidOut:laidOutB Tryz.prog=true:=by kernel_rfl
theorem gSizes : Tryz.prog.globalNamed "croft/slab.sizes" = some 0 := by kernel_rfl
theorem door_met (os : Os) (args : Array Value) : laidMetH Tryz.prog [("croft/slab.sizes", Rows.laid_croft_slab_sizes)] ((World.doorLaid Tryz.prog 400 os).forCall (fun _ _ => 0) ⟨#[], args, []⟩).memory :=
 laidMetH_of_parts3 (fuel:=8) (laidMet_of_run' 8 (by kernel_rfl) (by kernel_rfl)) (by kernel_rfl) (by kernel_rfl)
theorem tab_of {W : World} (h : laidMetH Tryz.prog [("croft/slab.sizes", Rows.laid_croft_slab_sizes)] W) : Tab W := by
 rw[MakeChecks.laidMetH_plain _ _ _ (by kernel_rfl)] at h;have hT : Lib.TabIs Tryz.prog W "croft/slab.sizes" .u64 [16, 32, 64, 128, 256, 512, 1024, 2048] := Lib.tabIs_of_head gSizes (by kernel_rfl) Tryz.underlying107 Tryz.underlying24 (by kernel_rfl) (by kernel_rfl) h;intro k hk;have:=hT.cell gSizes k (by simpa using hk);rw[this];rcases (show k=0∨k=1∨k=2∨k=3∨k=4∨k=5∨k=6∨k=7 by omega)with rfl|rfl|rfl|rfl|rfl|rfl|rfl|rfl <;> rfl
theorem lifted(os:Os)(started:os.Started)(H:Type)(enc:TypeId×Value→H):
  ReturnsInHanded {} Tryz.checked os 4 .any (fun w args => (Rows.slabPlaysSpec.pre enc Tryz.prog Tryz.f4 [] false w args ∧ laidMetH Tryz.prog [("croft/slab.sizes", Rows.laid_croft_slab_sizes)] w) ∧ sizedMet enc Tryz.prog Tryz.f4 (OpenSpec.ofChange Rows.slabPlaysSpec) false w args)
   (Rows.slabPlaysSpec.post enc Tryz.prog Tryz.f4 false true false false):=by
 refine returnsInHanded_of_change_and (C := Tryz.checked) (X := fun w _ => laidMetH Tryz.prog [("croft/slab.sizes", Rows.laid_croft_slab_sizes)] w) (fun _ _ _ hh h => h.of_heap hh) own started (by kernel_rfl) Tryz.func4
  (ChangeSpec.witness_shaped (enc := enc) (C := Tryz.checked) (os := os) (X := fun w _ => laidMetH Tryz.prog [("croft/slab.sizes", Rows.laid_croft_slab_sizes)] w) false (World.doorLaid Tryz.prog 400 os) #[.agg #[.int .u64 0, .int .i64 0, .int .i64 0], .slice none 0 0] 8 rfl (World.shaped_of_RefB (by kernel_rfl) (by kernel_rfl)) (by kernel_rfl) (by kernel_rfl) (by kernel_rfl) (door_met os _)) ?_
 intro W base args ds gs before hval0 hW _ _ hL _;have hval:∀ (j:Nat) t v,Tryz.f4.params[j]?=some t→args[j]?=some v→Value.okWide Tryz.prog W .any base t v:=hval0;have hW':=hW;obtain⟨p,q,hA0,hV,rfl,hfz,hnd⟩:=hW;have hA:DataW.TrodAll enc Tryz.prog W 0 (fun _=>true) true Tryz.f4.params.toList args.toList ds p:=hA0;rw[Tryz.params4] at hA hval;obtain⟨v0,vs0,d0,ds0,p0,q0,hargs,rfl,rfl,h0,r0⟩:=trodAll_cons hA;obtain⟨v1,vs1,d1,ds1,p1,q1,rfl,rfl,rfl,h1,r1⟩:=trodAll_cons r0;obtain⟨rfl,rfl,rfl⟩:=trodAll_nil r1;obtain rfl:args=#[v0,v1]:=by cases args;simp_all
 obtain⟨rfl,rfl⟩:=trodVars_none hV;have hTab:=tab_of hL;have k0:=h0;have lt0:∀ x∈p0,x.block<W.heap.size:=by obtain⟨m,hm⟩:=k0;exact DataW.trod_lt m _ _ _ hm
 obtain⟨b0,lim0,ord0,rfl,hb0,l10,l20,o10,o20⟩:=zmm (hval 0 26 v0 rfl rfl) h0;have k1:=h1;have lt1:∀ x∈p1,x.block<W.heap.size:=by obtain⟨m,hm⟩:=k1;exact DataW.trod_lt m _ _ _ hm
 obtain⟨a1,len1,cap1,rfl⟩:=okWide_slice Tryz.underlying60 (hval 1 60 v1 rfl rfl);have w1:=zkj h1;clear hA0 hval0;refine(zm0 b0 hb0 lim0 ord0 l10 l20 o10 o20 a1 len1 cap1 W hTab w1).mono fun e W' ⟨he,kp⟩=>?_
 subst he;have bel:Below W.heap.size W W':=kp.below (Nat.le_refl _) (fun x hx=>hx.elim);exact⟨_,rfl,_,_,_,[],_,[],hW',trodAll_mk1 (shut_bool Tryz.underlying4 true),(trodAll_cons_mk (Below.trod laidOut (by kernel_rfl) (of_decide_eq_true (by kernel_rfl)) k0 bel lt0) (trodAll_cons_mk (Below.trod laidOut (by kernel_rfl) (of_decide_eq_true (by kernel_rfl)) k1 bel lt1) trodAll_mk0)),rfl,bel.frame _,fun h=>by cases h⟩
theorem over:Rows.slabPlaysRow.holds Tryz.pinned (OpenSpec.ofChange Rows.slabPlaysSpec):=
 OpenClaim.holds_of_wide 4 Tryz.f4 rfl rfl rfl rfl rfl rfl rfl ⟨rfl,rfl,rfl,rfl,rfl⟩ rfl rfl rfl rfl rfl (by kernel_rfl) Tryz.func4 (by kernel_rfl)
  (of_decide_eq_true (by kernel_rfl)) (by unfold Func.isWrapper;first|(rw[if_pos (by decide +kernel)];kernel_rfl)|(rw[if_neg (by decide +kernel)];exact⟨rfl,rfl⟩))
  (fun os started H enc _=>lifted os started H enc)
end Go.Proofs.YtgjdmkfpmokkaaaGreatDoor.slabPlays
namespace Go.Proofs.YtgjdmkfpmokkaaaGreatDoor
open Go
theorem slabPlays_holds:Rows.SlabPlaysCardSaid:=
 Claim7.holds_tied_plain_at .later [] [.data] true Rows.slabPlaysCard.stood.harness false
  slabPlays.over (fun _ h=>by cases h) (by kernel_rfl) (fun _ h=>by cases h) slabPlays_row_tie rfl ⟨rfl,rfl⟩ (by kernel_rfl) rfl
  (fun f fn hf hfn=>by
   obtain rfl : f = 4 := Option.some.inj ((show Tryz.prog.funcNamed "croft/croftlaw7.SlabPlays" = some 4 by kernel_rfl).symm.trans hf) |>.symm
   obtain rfl:fn=Tryz.f4:=(Option.some.inj (Tryz.func4.symm.trans hfn)).symm;exact⟨by kernel_rfl,fun j t ht=>by
    rw[Tryz.params4] at ht;have hm:t∈[26,60]:=(by simpa using Array.mem_of_getElem? ht);have hall:([26,60].all fun u=>!Tryz.prog.wantsStandIn u)=true:=(by kernel_rfl);exact(show Tryz.prog.wantsStandIn t=false by simpa using List.all_eq_true.1 hall t hm)⟩)
  (by kernel_rfl)
#print axioms slabPlays_holds
end Go.Proofs.YtgjdmkfpmokkaaaGreatDoor
