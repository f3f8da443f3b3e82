import Derived.Test.YtkfmheelhinjdaaGreatDoorXc
set_option maxRecDepth 1000000
set_option maxHeartbeats 80000000
namespace Go.Proofs.YtkfmheelhinjdaaGreatDoor.W
open Tryz
open Go.RowKit
set_option linter.unusedVariables false
def ok6(I:Img)(k a:Nat):Bool:=!(isF (I.pg a) (I.pg a).od && decide ((I.pg a).od<(k:Int)) && decide (a%(2*2 ^ (I.pg a).od.toNat)=0)) || !isF (I.pg (a+2 ^ (I.pg a).od.toNat)) (I.pg a).od
def ok11(I:Img)(a:Nat):Bool:=!(decide ((I.pg a).kd=4) && decide ((I.pg a).lv=(celN9 (I.pg a).cl.toNat:Int))) || (decide ((I.pg a).nx = -1) && decide ((I.pg a).pv = -1))
theorem ZN(b:Nat)(I:Img)(V:ImV)(k r:Nat)(hS:Sn9 I k r)(w:World)(hI:ImAt w b I V):
  Calls prog 175 #[.pointer (some ⟨b,0,none⟩)] w fun e w'=>e=aZ (fst1 I.np (ok11 I))/\Kt nO w w':=by
 obtain⟨-,⟨pa,pc,hp⟩,-,-,-,-,bp,-,-⟩:=hI.d.sl;obtain⟨c0,c1,c2,c3,c4,c5,c6,c7,c8⟩:=hI.cells;rw[hp] at c5;obtain⟨EE,hEE⟩:=xe (aZ (fst1 I.np (ok11 I)));rw[<-hEE];have HE:=aA hEE;have HI:=aA hI;have HS:=aA hS;have SP:=aA hp;have hnp:=hS.np1;obtain⟨n,hn⟩:=xe (I.np);rw[<-hn] at hnp c5;have HN:=aA hn;clear hEE hI hp hS hn bp;go_enter func175,ntmps175;go_wp2_with fail;go_loopw [9] (fun i W=>∃ a:Nat,a<=n/\i=.int .i64 a/\Hid (Kt nO w W/\∀ x,x<a->ok11 I x=true)) (fun i _=>n-(intOf i).toNat)
 case atStart=>exact⟨0,Nat.zero_le _,rfl,aA ⟨Kt.refl _ _,fun x hx=>by omega⟩⟩
 case round=>
  clear c0 c1 c2 c3 c4 c5 c6 c7 c8;obtain⟨a,ha,rfl,hR⟩:=hrel;have A0:=aA (HI.out.keep hR.out.1);by_cases hlt:a<n
  ·have hai:(a:Int)<n:=(by omega);have hlt':a<I.np:=(by rw[<-HN.out];exact hlt);obtain⟨bl,o,oc',hv',hpi,hpc⟩:=A0.out.page a hlt';rw[SP.out] at hv';injection hv' with e1 e2 e3
   subst e1;obtain⟨kd,od,cc,ll,y1,y2,y3,y4,y5,y6,y7,y8,-⟩:=HS.out.pg a hlt';have FB:=aA (show ok11 I a=false->bM (a:Int)=EE from fun h=>by rw[HE.out,jZ hlt' hR.out.2 h];rfl);have GA:=aA (show ok11 I a=true->∀ x,x<a+1->ok11 I x=true from fun h x hx=>by
    by_cases e:x=a
    ·rw[e];exact h
    ·exact hR.out.2 x (by omega))
   have OK:=aA (show ok11 I a=(!(decide ((I.pg a).kd=4) && decide ((I.pg a).lv=(celN9 (I.pg a).cl.toNat:Int))) || (decide ((I.pg a).nx = -1) && decide ((I.pg a).pv = -1)))from rfl);have PB:=aA (PbI.mk' (w:=w) A0.out hR.out.1 (I.pg a));obtain⟨d0,d1,d2,d3,d4,d5,d6,d7,d8,d9,d10⟩:=hpc.c;have HFU:=aA (fun W=>xM (I.pg a) cc y5 y6 W);rw[y5,Int.toNat_natCast] at OK;generalize ok11 I a=okv at *;generalize I.pg a=p at *;obtain⟨pkd,pod,pcl,plv,pnx,ppv,pfs,pb0,pb1,pb2,pb3⟩:=p;dsimp only at d0 d1 d2 d3 d4 d5 d6 d7 d8 d9 d10 OK y1 HFU;generalize decide (plv=(celN9 cc:Int))=fu at *;clear hpi hpc e2 e3 y1 y2 y3 y4 y5 y6 y7 y8;by_cases hk4:pkd=4
   ·subst hk4
    cases fu with
    | false=>
     have R2:=aA (GA.out (by rw[OK.out];simp));go_wp2_with fail;generalize wr.alloc (aV ⟨4,pod,pcl,plv,pnx,ppv,pfs,pb0,pb1,pb2,pb3⟩)=W1 at *;generalize wr.heap.size=g at *;refine(HFU.out _).mono ?_;rintro e w1 ⟨rfl,hk⟩;have K1:=aA (nT PB.out.k hk);clear hk d0 d1 d2 d3 d4 d5 d6 d7 d8 d9 d10;go_wp2_with fail;have R3:=aA (show Kt nO w w1/\_ from⟨K1.out,R2.out⟩);go_round
     case rel=>exact⟨a+1,by omega,by go_num,R3⟩
     case measure=>simp[intOf];omega
    | true=>
     by_cases hn1:pnx = -1
     ·subst hn1;by_cases hn2:ppv = -1
      ·subst hn2;have R2:=aA (GA.out (by rw[OK.out];simp));go_wp2_with fail;generalize wr.alloc (aV ⟨4,pod,pcl,plv,-1,-1,pfs,pb0,pb1,pb2,pb3⟩)=W1 at *;generalize wr.heap.size=g at *;refine(HFU.out _).mono ?_;rintro e w1 ⟨rfl,hk⟩;have PB2:=aA (PB.out.keep hk);obtain⟨q0,q1,q2,q3,q4,q5,q6,q7,q8,q9,q10⟩:=eI PB2.out.pb;clear hk d0 d1 d2 d3 d4 d5 d6 d7 d8 d9 d10;go_wp2_with fail;refine(cG _ _).mono ?_;rintro e w2 ⟨rfl,rfl⟩;have R3:=aA (show Kt nO w w2/\_ from⟨PB2.out.k,R2.out⟩);go_wp2_with fail;go_round
       case rel=>exact⟨a+1,by omega,by go_num,R3⟩
       case measure=>simp[intOf];omega
      ·have R2:=aA (FB.out (by rw[OK.out];simp[hn2]));have f2:(ppv == -1)=false:=(by rw[beq_eq_false_iff_ne];exact hn2);clear hn2;go_wp2_with fail;generalize wr.alloc (aV ⟨4,pod,pcl,plv,-1,ppv,pfs,pb0,pb1,pb2,pb3⟩)=W1 at *;generalize wr.heap.size=g at *;refine(HFU.out _).mono ?_;rintro e w1 ⟨rfl,hk⟩;have PB2:=aA (PB.out.keep hk);obtain⟨q0,q1,q2,q3,q4,q5,q6,q7,q8,q9,q10⟩:=eI PB2.out.pb;clear hk d0 d1 d2 d3 d4 d5 d6 d7 d8 d9 d10;go_wp2_with fail;refine(dD _ _).mono ?_;rintro e w2 ⟨rfl,rfl⟩;exact⟨rfl,R2.out,PB2.out.k⟩
     ·have R2:=aA (FB.out (by rw[OK.out];simp[hn1]));have f2:(pnx == -1)=false:=(by rw[beq_eq_false_iff_ne];exact hn1);clear hn1;go_wp2_with fail;generalize wr.alloc (aV ⟨4,pod,pcl,plv,pnx,ppv,pfs,pb0,pb1,pb2,pb3⟩)=W1 at *;generalize wr.heap.size=g at *;refine(HFU.out _).mono ?_;rintro e w1 ⟨rfl,hk⟩;have PB2:=aA (PB.out.keep hk);obtain⟨q0,q1,q2,q3,q4,q5,q6,q7,q8,q9,q10⟩:=eI PB2.out.pb;clear hk d0 d1 d2 d3 d4 d5 d6 d7 d8 d9 d10;go_wp2_with fail;refine(dD _ _).mono ?_;rintro e w2 ⟨rfl,rfl⟩;exact⟨rfl,R2.out,PB2.out.k⟩
   ·have R2:=aA (show Kt nO w (wr.alloc (aV ⟨pkd,pod,pcl,plv,pnx,ppv,pfs,pb0,pb1,pb2,pb3⟩))/\_ from⟨hR.out.1.alloc _,GA.out (by rw[OK.out];simp[hk4])⟩);have f2:(pkd == 4)=false:=(by rw[beq_eq_false_iff_ne];exact hk4);clear hk4;go_wp2_with fail;go_round
    case rel=>exact⟨a+1,by omega,by go_num,R2⟩
    case measure=>simp[intOf];omega
  ·obtain rfl:a=n:=(by omega);have hai:¬(a:Int)<a:=(by omega);have E:=aA (show Ending.returned (.tuple #[])=EE by rw[HE.out,fst1_ok (fun x hx=>hR.out.2 x (by rw[HN.out];exact hx))];rfl);go_wp2_with fail;first|go_end0|go_ret
   exact⟨E.out,hR.out.1⟩
end Go.Proofs.YtkfmheelhinjdaaGreatDoor.W
