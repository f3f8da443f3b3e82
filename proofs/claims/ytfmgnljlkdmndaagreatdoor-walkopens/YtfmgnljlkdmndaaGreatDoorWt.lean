import Derived.Test.YtfmgnljlkdmndaaGreatDoorRows
import Derived.Test.YtfmgnljlkdmndaaGreatDoorCards
import Derived.Test.YtfmgnljlkdmndaaGreatDoorTie
import Derived.Test.YtfmgnljlkdmndaaGreatDoorWs
import Derived.LaidMore
import Derived.ShutString
import Derived.ChangeOld
import Derived.Below
import Derived.Stop.Joined
import Derived.Lib.LaidTab
import Derived.SevenTiedAt
set_option maxRecDepth 1000000
set_option maxHeartbeats 0
namespace Go.Proofs.YtfmgnljlkdmndaaGreatDoor
namespace walkOpens
open _root_.Go.Proofs.Tryz
open Go.ChangeShapes Go.WideShapes Go.ChangeAt Go.RowKit Go.Deep
open Go.ChangeMaps (open_string shut_string)
set_option linter.unusedVariables false
theorem own:ownKnob prog.godebug=Option.none:=by kernel_rfl
theorem laidOut:laidOutB prog=true:=by kernel_rfl
theorem gSizes : prog.globalNamed "croft/slab.sizes" = some 0 := by kernel_rfl
theorem door_met (os : Os) (args : Array Vl) : laidMetH prog [("croft/slab.sizes", Rows.laid_croft_slab_sizes)] ((World.doorLaid prog 400 os).forCall (fun _ _ => 0) ⟨#[], args, []⟩).memory :=
 laidMetH_of_parts3 (fuel:=8) (laidMet_of_run' 8 (by kernel_rfl) (by kernel_rfl)) (by kernel_rfl) (by kernel_rfl)
theorem tab_of {W : Wd} (h : laidMetH prog [("croft/slab.sizes", Rows.laid_croft_slab_sizes)] W) : iQ W := by
 rw[MakeChecks.laidMetH_plain _ _ _ (by kernel_rfl)] at h;have hT : Lib.TabIs prog W "croft/slab.sizes" .u64 [16, 32, 64, 128, 256, 512, 1024, 2048] := Lib.tabIs_of_head gSizes (by kernel_rfl) Tryz.underlying196 Tryz.underlying22 (by kernel_rfl) (by kernel_rfl) h;intro k hk;have:=hT.cell gSizes k (by simpa using hk);rw[this];rcases (show k=0\/k=1\/k=2\/k=3\/k=4\/k=5\/k=6\/k=7 by omega)with rfl|rfl|rfl|rfl|rfl|rfl|rfl|rfl <;> rfl
theorem lifted(os:Os)(started:os.Started)(H:Type)(enc:TypeId×Vl->H):ReturnsInHanded {} Tryz.checked os 4 .any (fun w args => (Rows.walkOpensSpec.pre enc prog Tryz.f4 [] false w args /\ laidMetH prog [("croft/slab.sizes", Rows.laid_croft_slab_sizes)] w) /\ sizedMet enc prog Tryz.f4 (OpenSpec.ofChange Rows.walkOpensSpec) false w args)
   (Rows.walkOpensSpec.post enc prog Tryz.f4 false true false false):=by
 refine returnsInHanded_of_change_and (C := Tryz.checked) (X := fun w _ => laidMetH prog [("croft/slab.sizes", Rows.laid_croft_slab_sizes)] w) (fun _ _ _ hh h => h.of_heap hh) own started (by kernel_rfl) func4
  (ChangeSpec.witness_shaped (enc := enc) (C := Tryz.checked) (os := os) (X := fun w _ => laidMetH prog [("croft/slab.sizes", Rows.laid_croft_slab_sizes)] w) false (World.doorLaid prog 400 os) #[.agg #[.int .u64 0, .int .i64 0, .int .i64 0, .int .i64 0, .slice none 0 0, .slice none 0 0, .slice none 0 0, .slice none 0 0, .slice none 0 0], .slice none 0 0] 8 rfl (World.shaped_of_RefB (by kernel_rfl) (by kernel_rfl)) (by kernel_rfl) (by kernel_rfl) (by kernel_rfl) (door_met os _)) ?_
 intro UU bS args ds gs before hval0 hW _ _ hL _;have hval:∀ (j:Nat) t v,Tryz.f4.params[j]?=some t->args[j]?=some v->Value.okWide prog UU .any bS t v:=hval0;have hW':=hW;obtain⟨p,q,hA0,hV,rfl,hfz,hnd⟩:=hW;have hA:DataW.TrodAll enc prog UU 0 (fun _=>true) true Tryz.f4.params.toList args.toList ds p:=hA0;rw[Tryz.params4] at hA hval;obtain⟨v0,vs0,d0,ds0,p0,q0,hargs,rfl,rfl,h0,r0⟩:=trodAll_cons hA;obtain⟨v1,vs1,d1,ds1,p1,q1,rfl,rfl,rfl,h1,r1⟩:=trodAll_cons r0;obtain⟨rfl,rfl,rfl⟩:=trodAll_nil r1;obtain rfl:args=#[v0,v1]:=by cases args;simp_all
 obtain⟨rfl,rfl⟩:=trodVars_none hV;have hTab:=tab_of hL;have k0:=h0;have lt0:∀ x∈p0,x.block<UU.heap.size:=by obtain⟨m,hm⟩:=k0;exact DataW.trod_lt m _ _ _ hm
 obtain⟨I0,V0,rfl,hI0⟩:=W.image_of (hval 0 42 v0 rfl rfl) h0;have k1:=h1;have lt1:∀ x∈p1,x.block<UU.heap.size:=by obtain⟨m,hm⟩:=k1;exact DataW.trod_lt m _ _ _ hm
 obtain⟨a1,len1,cap1,rfl⟩:=okWide_slice Tryz.underlying25 (hval 1 25 v1 rfl rfl);have hc1:oF UU (.slice a1 len1 cap1) len1:=by obtain⟨fuel,hf⟩:=h1;exact TW hf
 clear hA0 hval0;refine(ze2 I0 V0 (.slice a1 len1 cap1) len1 UU hTab  hI0 hc1).mono fun e UU' ⟨he,kp⟩=>?_
 subst he;have bel:Below UU.heap.size UU UU':=kp.below (aj _) (fun x hx=>hx.elim);exact⟨_,rfl,_,_,_,[],_,[],hW',trodAll_mk1 (shut_bool Tryz.underlying4 true),(trodAll_cons_mk (Below.trod laidOut (by kernel_rfl) (bw (by kernel_rfl)) k0 bel lt0) (trodAll_cons_mk (Below.trod laidOut (by kernel_rfl) (bw (by kernel_rfl)) k1 bel lt1) trodAll_mk0)),rfl,bel.frame _,fun h=>by cases h⟩
theorem over:Rows.walkOpensRow.holds Tryz.pinned (OpenSpec.ofChange Rows.walkOpensSpec):=
 OpenClaim.holds_of_wide 4 Tryz.f4 rfl rfl rfl rfl rfl rfl rfl ⟨rfl,rfl,rfl,rfl,rfl⟩ rfl rfl rfl rfl rfl (by kernel_rfl) func4 (by kernel_rfl)
  (bw (by kernel_rfl)) (by unfold Func.isWrapper;first|(rw[ae (by decide +kernel)];kernel_rfl)|(rw[ac (by decide +kernel)];exact⟨rfl,rfl⟩))
  (fun os a H enc _=>lifted os a H enc)
end walkOpens
open _root_.Go.Proofs.Tryz
open Go
theorem walkOpens_holds:Rows.WalkOpensCardSaid:=
 Claim7.holds_tied_plain_at .later [] [.data] true Rows.walkOpensCard.stood.harness true
  walkOpens.over (fun _ h=>by cases h) (by kernel_rfl) (fun _ h=>by cases h) walkOpens_row_tie rfl ⟨rfl,rfl⟩ (by kernel_rfl) rfl
  (fun f fn hf hfn=>by
   obtain rfl : f = 4 := Option.some.inj ((show prog.funcNamed "croft/croftlaw9.WalkOpens" = some 4 by kernel_rfl).symm.trans hf) |>.symm
   obtain rfl:fn=Tryz.f4:=(Option.some.inj (func4.symm.trans hfn)).symm;exact⟨by kernel_rfl,fun j t ht=>by rw[Tryz.params4] at ht;have hm:t∈[42,25]:=(by simpa using Array.mem_of_getElem? ht);have hall:([42,25].all fun u=>!prog.wantsStandIn u)=true:=(by kernel_rfl);exact(show prog.wantsStandIn t=false by simpa using List.all_eq_true.1 hall t hm)⟩)
  (by kernel_rfl)
#print axioms walkOpens_holds
end Go.Proofs.YtfmgnljlkdmndaaGreatDoor
