import Derived.Test.YtkfmheelhinjdaaGreatDoorXu
import Derived.Test.YtkfmheelhinjdaaGreatDoorZd
set_option maxRecDepth 1000000
set_option maxHeartbeats 80000000
namespace Go.Proofs.YtkfmheelhinjdaaGreatDoor.W
open Tryz
open Go.RowKit
set_option linter.unusedVariables false
theorem fX{Q:Exit->Act->World->Prop}{o:Oper}{a:Act}{w:World}{x y:Operand}{ts:Array TypeId}{p:Int}(ho:o.op=.call { callee:=.value (.func 212),args:=#[x,y],argTypes:=ts })
  (hx:a.eval x=.bool false) (hy:a.eval y=.int .i64 p) (h:∀ a',a'.defers=a.defers->Q (.panic [{ v:=.iface 218 (.int .i64 p),recovered:=false }]) a' w):fZ prog Q o a w:=by
 refine DM zhi ho ?_;have e:(#[x,y] : Array Operand).map a.eval=#[.bool false,.int .i64 p]:=by simp[hx,hy]
 rw[e];refine(dG p w).mono ?_;rintro e w1 ⟨rfl,rfl⟩;exact⟨_,rfl,h⟩
def rngB(k np:Int)(p:Pg):Bool:=wiB p.kd 0 4 && (wiB p.od 0 k && (wiB p.cl 0 7 && (wiB p.lv 0 256 && (wiB p.nx (-1) (np-1) && (wiB p.pv (-1) (np-1) && wiB p.fs (-1) 255)))))
abbrev aQ(p:Pg):Obj:=.cells #[.int .i64 p.kd,.int .i64 p.od,.int .i64 p.cl,.int .i64 p.lv,.int .i64 p.nx,.int .i64 p.pv,.int .i64 p.fs,.int .u64 p.b0,.int .u64 p.b1,.int .u64 p.b2,.int .u64 p.b3] 99 (0,0)
theorem BI{w:World}{g:Nat}{p:Pg}(h:w.heap[g]?=some (aQ p)):w.cell? ⟨g,0,none⟩=some (.int .i64 p.kd)/\w.cell? ⟨g,1,none⟩=some (.int .i64 p.od)/\w.cell? ⟨g,2,none⟩=some (.int .i64 p.cl)/\w.cell? ⟨g,3,none⟩=some (.int .i64 p.lv)/\w.cell? ⟨g,4,none⟩=some (.int .i64 p.nx)/\w.cell? ⟨g,5,none⟩=some (.int .i64 p.pv)/\w.cell? ⟨g,6,none⟩=some (.int .i64 p.fs):=by
 refine⟨?_,?_,?_,?_,?_,?_,?_⟩ <;> simp[World.cell?,h]
theorem ImAt.page{w:World}{b:Nat}{I:Img}{V:ImV}(h:ImAt w b I V)(i:Nat)(hi:i<I.np):∃ bl o oc,V.p=.slice (some ⟨bl,o,none⟩) I.np oc/\PgIn (I.pg i)/\kA w bl o i (I.pg i):=by
 obtain⟨h1,oa,oc,h2,h3⟩:=h.d.pgs;rcases h3 with h3|⟨bl,o,e,hl,hc⟩
 ·omega
 ·subst e;exact⟨bl,o,oc,h2,hc i hi⟩
theorem kA.c{w:World}{bl o i:Nat}{p:Pg}(h:kA w bl o i p):w.cell? ⟨bl,o+i*11,none⟩=some (.int .i64 p.kd)/\w.cell? ⟨bl,o+i*11+1,none⟩=some (.int .i64 p.od)/\w.cell? ⟨bl,o+i*11+2,none⟩=some (.int .i64 p.cl)/\w.cell? ⟨bl,o+i*11+3,none⟩=some (.int .i64 p.lv)/\w.cell? ⟨bl,o+i*11+4,none⟩=some (.int .i64 p.nx)/\w.cell? ⟨bl,o+i*11+5,none⟩=some (.int .i64 p.pv)/\w.cell? ⟨bl,o+i*11+6,none⟩=some (.int .i64 p.fs)/\w.cell? ⟨bl,o+i*11+7,none⟩=some (.int .u64 p.b0)/\w.cell? ⟨bl,o+i*11+8,none⟩=some (.int .u64 p.b1)/\w.cell? ⟨bl,o+i*11+9,none⟩=some (.int .u64 p.b2)/\w.cell? ⟨bl,o+i*11+10,none⟩=some (.int .u64 p.b3):=
 ⟨h 0 (by decide),h 1 (by decide),h 2 (by decide),h 3 (by decide),h 4 (by decide),h 5 (by decide),h 6 (by decide),h 7 (by decide),h 8 (by decide),h 9 (by decide),h 10 (by decide)⟩
theorem zez(b:Nat)(I:Img)(V:ImV)(w:World)(hI:ImAt w b I V)(hnp:I.np<=1024):
  Calls prog 167 #[.pointer (some ⟨b,0,none⟩)] w fun e w'=>e=aZ (fst1 I.np fun i=>rngB I.ord I.np (I.pg i))/\Kt nO w w':=by
 have HI:=aA hI;obtain⟨h1,oa,oc,hv,h3⟩:=hI.d.pgs;obtain⟨c0,c1,c2,c3,c4,c5,c6,c7,c8⟩:=hI.cells;rw[hv] at c5;obtain⟨n,hn⟩:=xe (I.np);rw[<-hn] at c5 hv h1 hnp;have HN:=aA hn;have FB:=aA (show ∀ i,i<n->(∀ a,a<i->rngB I.ord I.np (I.pg a)=true)->rngB I.ord I.np (I.pg i)=false->bM (i:Int)=aZ (fst1 I.np fun i=>rngB I.ord I.np (I.pg i))from fun i h1 h2 h3=>by rw[fG (by omega) h2 h3];rfl);have FG:=aA (show(∀ a,a<n->rngB I.ord I.np (I.pg a)=true)->Ending.returned (.tuple #[])=aZ (fst1 I.np fun i=>rngB I.ord I.np (I.pg i))from fun h1=>by rw[fst1_ok (fun a ha=>h1 a (by rw[hn];exact ha))];rfl);generalize aZ (fst1 I.np fun i=>rngB I.ord I.np (I.pg i))=EE at *;have HV:=aA hv;clear hn hv hI h3;go_enter func167,ntmps167;go_wp2_with fail;go_loopw [16] (fun i W=>∃ a:Nat,a<=n/\i=.int .i64 a/\Hid (Kt nO w W/\∀ x,x<a->rngB I.ord I.np (I.pg x)=true)) (fun i _=>n-(intOf i).toNat)
 case atStart=>exact⟨0,Nat.zero_le _,rfl,aA ⟨Kt.refl _ _,fun x hx=>by omega⟩⟩
 case round=>
  obtain⟨a,ha,rfl,hR⟩:=hrel;by_cases hlt:a<n
  ·have hai:(a:Int)<n:=(by omega);obtain⟨bl,o,oc',hv',hpi,hpc⟩:=(HI.out.keep hR.out.1).page a (by rw[<-HN.out];exact hlt);rw[HV.out] at hv';injection hv' with e1 e2 e3
   subst e1;obtain⟨d0,d1,d2,d3,d4,d5,d6,d7,d8,d9,d10⟩:=hpc.c;have FA:=aA (show rngB I.ord (n:Int) (I.pg a)=false->bM (a:Int)=EE from fun h=>FB.out a hlt hR.out.2 (by rw[<-HN.out];exact h));have GA:=aA (show rngB I.ord (n:Int) (I.pg a)=true->∀ x,x<a+1->rngB I.ord I.np (I.pg x)=true from fun h x hx=>by
    by_cases e:x=a
    ·rw[e,<-HN.out];exact h
    ·exact hR.out.2 x (by omega))
   have HW:=aA (show(wr.alloc (aQ (I.pg a))).heap[wr.heap.size]?=some (aQ (I.pg a))from nH _ _);have HK:=aA (show Kt nO wr (wr.alloc (aQ (I.pg a)))from(Kt.refl _ _).alloc _);have HO:=aA (((HI.out.keep hR.out.1).keep HK.out).cells.2.2.1);generalize I.pg a=p at *;clear hpi hpc e2 e3;go_wp2_with fail;generalize wr.alloc (aQ p)=W1 at *;generalize wr.heap.size=g at *;clear d0 d1 d2 d3 d4 d5 d6 d7 d8 d9 d10 c0 c1 c2 c3 c4 c5 c6 c7 c8;obtain⟨p0,p1,p2,p3,p4,p5,p6⟩:=BI HW.out;have c2:=HO.out;refine(gP _ _ _ _).mono ?_;rintro e w1 ⟨rfl,rfl⟩;go_wp2_with fail
   cases hb0:wiB p.kd 0 4 with
   | false=>
    refine(dG _ _).mono ?_;rintro e w1 ⟨rfl,rfl⟩;exact⟨rfl,FA.out (by simp[rngB,hb0]),nT hR.out.1 HK.out⟩
   | true=>
    refine(cK _ _).mono ?_;rintro e w1 ⟨rfl,rfl⟩;go_wp2_with fail
    cases hb1:wiB p.od 0 I.ord with
    | false=>
     have HWI:=aA (fun W=>gP p.od 0 I.ord W);rw[hb1] at HWI;refine zch (by kernel_rfl) (by kernel_rfl) (by exact List.cons_ne_nil _ _) ?_;dsimp only[List.dropLast,List.getLast];repeat (go_big_quiet_step (first|(go_at_call 214;exact Calls.quiet_of_same (HWI.out _))))
     refine wpQuiet_nil ?_;refine⟨rfl,?_⟩;rintro _ ⟨nq,rfl⟩;exact fX (p:=(a:Int)) rfl rfl rfl fun _ hd=>⟨hd,FA.out (by simp[rngB,hb0,hb1]),(nT hR.out.1 HK.out).drewN nq⟩
    | true=>
     have HWI:=aA (fun W=>gP p.od 0 I.ord W);rw[hb1] at HWI;have HMY:=aA (fun W=>cK (a:Int) W);go_quiet (first|(go_at_call 214;exact Calls.quiet_of_same (HWI.out _))|(go_at_call 212;exact Calls.quiet_of_same (HMY.out _)))
     clear HWI HMY;go_wp2_with fail;refine(gP _ _ _ _).mono ?_;rintro e w1 ⟨rfl,rfl⟩;go_wp2_with fail
     cases hb2:wiB p.cl 0 7 with
     | false=>
      refine(dG _ _).mono ?_;rintro e w1 ⟨rfl,rfl⟩;exact⟨rfl,FA.out (by simp[rngB,hb0,hb1,hb2]),(nT hR.out.1 HK.out).drewN nq⟩
     | true=>
      refine(cK _ _).mono ?_;rintro e w1 ⟨rfl,rfl⟩;go_wp2_with fail;refine(gP _ _ _ _).mono ?_;rintro e w1 ⟨rfl,rfl⟩;go_wp2_with fail
      cases hb3:wiB p.lv 0 256 with
      | false=>
       refine(dG _ _).mono ?_;rintro e w1 ⟨rfl,rfl⟩;exact⟨rfl,FA.out (by simp[rngB,hb0,hb1,hb2,hb3]),(nT hR.out.1 HK.out).drewN nq⟩
      | true=>
       refine(cK _ _).mono ?_;rintro e w1 ⟨rfl,rfl⟩;go_wp2_with fail;refine(gP _ _ _ _).mono ?_;rintro e w1 ⟨rfl,rfl⟩;go_wp2_with fail
       cases hb4:wiB p.nx (-1) ((n:Int)-1)with
       | false=>
        refine(dG _ _).mono ?_;rintro e w1 ⟨rfl,rfl⟩;exact⟨rfl,FA.out (by simp[rngB,hb0,hb1,hb2,hb3,hb4]),(nT hR.out.1 HK.out).drewN nq⟩
       | true=>
        refine(cK _ _).mono ?_;rintro e w1 ⟨rfl,rfl⟩;go_wp2_with fail;refine(gP _ _ _ _).mono ?_;rintro e w1 ⟨rfl,rfl⟩;go_wp2_with fail
        cases hb5:wiB p.pv (-1) ((n:Int)-1)with
        | false=>
         refine(dG _ _).mono ?_;rintro e w1 ⟨rfl,rfl⟩;exact⟨rfl,FA.out (by simp[rngB,hb0,hb1,hb2,hb3,hb4,hb5]),(nT hR.out.1 HK.out).drewN nq⟩
        | true=>
         refine(cK _ _).mono ?_;rintro e w1 ⟨rfl,rfl⟩;go_wp2_with fail;refine(gP _ _ _ _).mono ?_;rintro e w1 ⟨rfl,rfl⟩;go_wp2_with fail
         cases hb6:wiB p.fs (-1) 255 with
         | false=>
          refine(dG _ _).mono ?_;rintro e w1 ⟨rfl,rfl⟩;exact⟨rfl,FA.out (by simp[rngB,hb0,hb1,hb2,hb3,hb4,hb5,hb6]),(nT hR.out.1 HK.out).drewN nq⟩
         | true=>
          refine(cK _ _).mono ?_;rintro e w1 ⟨rfl,rfl⟩;go_wp2_with fail;have R2:=aA (show Kt nO w _/\_ from⟨(nT hR.out.1 HK.out).drewN nq,GA.out (by simp[rngB,hb0,hb1,hb2,hb3,hb4,hb5,hb6])⟩);go_round
          case rel=>exact⟨a+1,by omega,by go_num,R2⟩
          case measure=>simp[intOf];omega
  ·have hae:a=n:=(by omega);have hai:¬(a:Int)<n:=(by omega);go_wp2_with fail;first|go_end0|go_ret
   exact⟨FG.out (fun x hx=>hR.out.2 x (by omega)),hR.out.1⟩
end Go.Proofs.YtkfmheelhinjdaaGreatDoor.W
