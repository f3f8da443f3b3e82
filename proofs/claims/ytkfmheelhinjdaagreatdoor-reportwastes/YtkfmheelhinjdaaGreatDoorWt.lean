import Derived.Test.YtkfmheelhinjdaaGreatDoorRows
import Derived.Test.YtkfmheelhinjdaaGreatDoorCards
import Derived.Test.YtkfmheelhinjdaaGreatDoorTie
import Derived.Test.YtkfmheelhinjdaaGreatDoorWs
import Derived.LaidMore
import Derived.LaidSub
import Derived.ShutString
import Derived.ChangeOld
import Derived.Below
import Derived.Stop.Joined
import Derived.Lib.LaidTab
import Derived.SevenTiedAt
set_option maxRecDepth 1000000
set_option maxHeartbeats 80000000
namespace Go.Proofs.YtkfmheelhinjdaaGreatDoor.reportWastes
open _root_.Go.Proofs.Tryz
open Go.ChangeShapes Go.WideShapes Go.ChangeAt Go.RowKit Go.Deep
open Go.ChangeMaps (open_string shut_string)
set_option linter.unusedVariables false
theorem own:ownKnob prog.godebug=Option.none:=by kernel_rfl
theorem laidOut:laidOutB prog=true:=by kernel_rfl
theorem gSizes : prog.globalNamed "croft/slab.sizes" = some 0 := by kernel_rfl
theorem door_met (os : Os) (args : Array Value) : laidMetH prog [("math/bits.deBruijn32tab", Rows.laid_math_bits_deBruijn32tab), ("math/bits.deBruijn64tab", Rows.laid_math_bits_deBruijn64tab), ("internal/strconv.uint64pow10", Rows.laid_internal_strconv_uint64pow10), ("croft/slab.sizes", Rows.laid_croft_slab_sizes)] ((World.doorLaid prog 400 os).forCall (fun _ _ => 0) ⟨#[], args, []⟩).memory :=
 laidMetH_of_parts3 (fuel:=8) (laidMet_of_run' 8 (by kernel_rfl) (by kernel_rfl)) (by kernel_rfl) (by kernel_rfl)
theorem xH : prog.globalNamed "internal/strconv.uint64pow10" = some 1 := by kernel_rfl
theorem tab_of {W : World} (h : laidMetH prog [("math/bits.deBruijn32tab", Rows.laid_math_bits_deBruijn32tab), ("math/bits.deBruijn64tab", Rows.laid_math_bits_deBruijn64tab), ("internal/strconv.uint64pow10", Rows.laid_internal_strconv_uint64pow10), ("croft/slab.sizes", Rows.laid_croft_slab_sizes)] W) : jI W := by
 rw[MakeChecks.laidMetH_plain _ _ _ (by kernel_rfl)] at h;have h1 := h.filter (fun x => x.1 == "croft/slab.sizes");have hT : Lib.TabIs prog W "croft/slab.sizes" .u64 [16, 32, 64, 128, 256, 512, 1024, 2048] := Lib.tabIs_of_head gSizes (by kernel_rfl) Tryz.underlying207 Tryz.underlying27 (by kernel_rfl) (by kernel_rfl) h1;intro k hk;have:=hT.cell gSizes k (by simpa using hk);rw[this];rcases (show k=0\/k=1\/k=2\/k=3\/k=4\/k=5\/k=6\/k=7 by omega)with rfl|rfl|rfl|rfl|rfl|rfl|rfl|rfl <;> rfl
theorem WC {W : World} (h : laidMetH prog [("math/bits.deBruijn32tab", Rows.laid_math_bits_deBruijn32tab), ("math/bits.deBruijn64tab", Rows.laid_math_bits_deBruijn64tab), ("internal/strconv.uint64pow10", Rows.laid_internal_strconv_uint64pow10), ("croft/slab.sizes", Rows.laid_croft_slab_sizes)] W) : _root_.Go.Proofs.YtkfmheelhinjdaaGreatDoor.W.Tab10 W := by
 rw[MakeChecks.laidMetH_plain _ _ _ (by kernel_rfl)] at h;have h1 := h.filter (fun x => x.1 == "internal/strconv.uint64pow10");exact Lib.tabIs_of_head xH (by kernel_rfl) Tryz.underlying230 Tryz.underlying27 (by kernel_rfl) (by kernel_rfl) h1
theorem lifted(os:Os)(started:os.Started)(H:Type)(enc:TypeId×Value->H):
  ReturnsInHanded {} Tryz.checked os 7 .any (fun w args => (Rows.reportWastesSpec.pre enc prog Tryz.f7 [] false w args /\ laidMetH prog [("math/bits.deBruijn32tab", Rows.laid_math_bits_deBruijn32tab), ("math/bits.deBruijn64tab", Rows.laid_math_bits_deBruijn64tab), ("internal/strconv.uint64pow10", Rows.laid_internal_strconv_uint64pow10), ("croft/slab.sizes", Rows.laid_croft_slab_sizes)] w) /\ sizedMet enc prog Tryz.f7 (OpenSpec.ofChange Rows.reportWastesSpec) false w args)
   (Rows.reportWastesSpec.post enc prog Tryz.f7 false true false false):=by
 refine returnsInHanded_of_change_and (C := Tryz.checked) (X := fun w _ => laidMetH prog [("math/bits.deBruijn32tab", Rows.laid_math_bits_deBruijn32tab), ("math/bits.deBruijn64tab", Rows.laid_math_bits_deBruijn64tab), ("internal/strconv.uint64pow10", Rows.laid_internal_strconv_uint64pow10), ("croft/slab.sizes", Rows.laid_croft_slab_sizes)] w) (fun _ _ _ hh h => h.of_heap hh) own started (by kernel_rfl) func7
  (ChangeSpec.witness_shaped (enc := enc) (C := Tryz.checked) (os := os) (X := fun w _ => laidMetH prog [("math/bits.deBruijn32tab", Rows.laid_math_bits_deBruijn32tab), ("math/bits.deBruijn64tab", Rows.laid_math_bits_deBruijn64tab), ("internal/strconv.uint64pow10", Rows.laid_internal_strconv_uint64pow10), ("croft/slab.sizes", Rows.laid_croft_slab_sizes)] w) false (World.doorLaid prog 400 os) #[.agg #[.int .u64 0, .int .i64 0, .int .i64 0, .int .i64 0, .slice none 0 0, .slice none 0 0, .slice none 0 0, .slice none 0 0, .slice none 0 0], .int .u64 0] 8 rfl (World.shaped_of_RefB (by kernel_rfl) (by kernel_rfl)) (by kernel_rfl) (by kernel_rfl) (by kernel_rfl) (door_met os _)) ?_
 intro UU bS args ds gs before hval0 hW _ hsz0 hL _;have hsz:(DataW.weightsEach prog (Tryz.f7.params.toList ++ Rows.reportWastesSpec.plain.varTypes prog) (ds ++ gs)).all (·<=reachBytes)=true:=hsz0;clear hsz0;have hval:∀ (j:Nat) t v,Tryz.f7.params[j]?=some t->args[j]?=some v->Value.okWide prog UU .any bS t v:=hval0;have hW':=hW;obtain⟨p,q,hA0,hV,rfl,hfz,hnd⟩:=hW;have hA:DataW.TrodAll enc prog UU 0 (fun _=>true) true Tryz.f7.params.toList args.toList ds p:=hA0;rw[Tryz.params7] at hA hval hsz;obtain⟨v0,vs0,d0,ds0,p0,q0,hargs,rfl,rfl,h0,r0⟩:=trodAll_cons hA;obtain⟨v1,vs1,d1,ds1,p1,q1,rfl,rfl,rfl,h1,r1⟩:=trodAll_cons r0;obtain⟨rfl,rfl,rfl⟩:=trodAll_nil r1;obtain rfl:args=#[v0,v1]:=by cases args;simp_all
 obtain⟨rfl,rfl⟩:=trodVars_none hV;have hTab:=tab_of hL;have hTab10:=WC hL;have k0:=h0;have lt0:∀ x∈p0,x.block<UU.heap.size:=by obtain⟨m,hm⟩:=k0;exact DataW.trod_lt m _ _ _ hm
 obtain⟨I0,V0,rfl,hI0⟩:=W.image_of (hval 0 38 v0 rfl rfl) h0;have hZ0:=W.image_sized h0 (fun k hk=>by simpa using List.all_eq_true.1 hsz _ (DataW.weights_mem_each (j:=0) rfl rfl k hk)) hI0;obtain⟨z1,rfl,rfl,rfl,w1⟩:=open_int Tryz.underlying27 (hval 1 27 v1 rfl rfl) h1;obtain⟨a1,rfl,hu1⟩:=TS w1;clear hA0 hval0;refine(W.reportWastes_any I0 V0 a1 hu1 UU  hI0 hZ0 hTab hTab10).mono fun e UU' ⟨he,kp⟩=>?_
 subst he;have bel:Below UU.heap.size UU UU':=kp.below (Nat.le_refl _) (fun x hx=>hx.elim);exact⟨_,rfl,_,_,_,[],_,[],hW',trodAll_mk1 (shut_bool Tryz.underlying4 true),(trodAll_cons_mk (Below.trod laidOut (by kernel_rfl) (of_decide_eq_true (by kernel_rfl)) k0 bel lt0) (trodAll_cons_mk (shut_int Tryz.underlying27 w1) trodAll_mk0)),rfl,bel.frame _,fun h=>by cases h⟩
set_option maxRecDepth 100000
theorem a1:prog.funcNamed Rows.reportWastesRow.func=some 7:=by kernel_rfl
theorem a2:joinedFacts prog 7 Tryz.f7 Rows.reportWastesSpec Rows.reportWastesRow=true:=by kernel_rfl
theorem a3:Tryz.f7.isWrapper prog Rows.reportWastesRow.wrapper Rows.reportWastesRow.mainSum:=by unfold Func.isWrapper;first|(rw[if_pos (by decide +kernel)];kernel_rfl)|(rw[if_neg (by decide +kernel)];exact⟨rfl,rfl⟩)
theorem a5:Tryz.f7.isInstance prog Rows.reportWastesRow.origin Rows.reportWastesRow.targs:=of_decide_eq_true (by kernel_rfl)
theorem over:Rows.reportWastesRow.holds Tryz.pinned (OpenSpec.ofChange Rows.reportWastesSpec):=
 OpenClaim.holds_of_wide 7 Tryz.f7 rfl rfl rfl rfl rfl rfl rfl ⟨rfl,rfl,rfl,rfl,rfl⟩ rfl rfl rfl rfl rfl a1 func7 a2 a5 a3
  (fun os started H enc _=>lifted os started H enc)
end Go.Proofs.YtkfmheelhinjdaaGreatDoor.reportWastes
namespace Go.Proofs.YtkfmheelhinjdaaGreatDoor
open _root_.Go.Proofs.Tryz
open Go
theorem reportWastes_holds:Rows.ReportWastesCardSaid:=
 Claim7.holds_tied_plain_at .later [] [.data,.data,.data,.data] true Rows.reportWastesCard.stood.harness true
  reportWastes.over (fun _ h=>by cases h) (by kernel_rfl) (fun _ h=>by cases h) reportWastes_row_tie rfl ⟨rfl,rfl⟩ (by kernel_rfl) rfl
  (fun f fn hf hfn=>by
   obtain rfl : f = 7 := Option.some.inj ((show prog.funcNamed "croft/croftlaw20.ReportWastes" = some 7 by kernel_rfl).symm.trans hf) |>.symm
   obtain rfl:fn=Tryz.f7:=(Option.some.inj (func7.symm.trans hfn)).symm;exact⟨by kernel_rfl,fun j t ht=>by
    rw[Tryz.params7] at ht;have hm:t∈[38,27]:=(by simpa using Array.mem_of_getElem? ht);have hall:([38,27].all fun u=>!prog.wantsStandIn u)=true:=(by kernel_rfl);exact(show prog.wantsStandIn t=false by simpa using List.all_eq_true.1 hall t hm)⟩)
  (by kernel_rfl)
#print axioms reportWastes_holds
end Go.Proofs.YtkfmheelhinjdaaGreatDoor
