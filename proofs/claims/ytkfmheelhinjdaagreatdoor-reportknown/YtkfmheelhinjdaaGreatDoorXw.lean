import Derived.Test.YtkfmheelhinjdaaGreatDoorXu
set_option maxRecDepth 1000000
set_option maxHeartbeats 80000000
namespace Go.Proofs.YtkfmheelhinjdaaGreatDoor.W
open _root_.Go.Proofs.Tryz
open Go.RowKit
set_option linter.unusedVariables false
def ok6(I:Img)(k a:Nat):Bool:=!(isF (I.pg a) (I.pg a).od && decide ((I.pg a).od<(k:Int)) && decide (a%(2*2 ^ (I.pg a).od.toNat)=0)) || !isF (I.pg (a+2 ^ (I.pg a).od.toNat)) (I.pg a).od
def ok11(I:Img)(a:Nat):Bool:=!(decide ((I.pg a).kd=4) && decide ((I.pg a).lv=(celN9 (I.pg a).cl.toNat:Int))) || (decide ((I.pg a).nx = -1) && decide ((I.pg a).pv = -1))
theorem zcK(b:Nat)(I:Img)(V:ImV)(k r:Nat)(hS:Sn9 I k r)(w:World)(hI:ImAt w b I V):
  Calls prog 175 #[.pointer (some ⟨b,0,none⟩)] w fun e w'=>e=bB (fst1 I.np (ok11 I))/\Kt nO w w':=by
 obtain⟨-,⟨pa,pc,hp⟩,-,-,-,-,bp,-,-⟩:=hI.d.sl;obtain⟨c0,c1,c2,c3,c4,c5,c6,c7,c8⟩:=hI.cells;rw[hp] at c5;obtain⟨EE,hEE⟩:=xe (bB (fst1 I.np (ok11 I)));rw[<-hEE];have HE:=aA hEE;have HI:=aA hI;have HS:=aA hS;have SP:=aA hp;have hnp:=hS.np1;obtain⟨n,hn⟩:=xe (I.np);rw[<-hn] at hnp c5;have HN:=aA hn;clear hEE hI hp hS hn bp;go_enter func175,ntmps175;go_wp2_with fail;go_loopw [9] (fun i W=>∃ a:Nat,a<=n/\i=.int .i64 a/\Hid (Kt nO w W/\∀ x,x<a->ok11 I x=true)) (fun i _=>n-(intOf i).toNat)
 case atStart=>exact⟨0,Nat.zero_le _,rfl,aA ⟨Kt.refl _ _,fun x hx=>by omega⟩⟩
 case round=>
  clear c0 c1 c2 c3 c4 c5 c6 c7 c8;obtain⟨a,ha,rfl,hR⟩:=hrel;have A0:=aA (HI.out.keep hR.out.1);by_cases hlt:a<n
  ·have hai:(a:Int)<n:=(by omega);have hlt':a<I.np:=(by rw[<-HN.out];exact hlt);obtain⟨bl,o,oc',hv',hpi,hpc⟩:=A0.out.page a hlt';rw[SP.out] at hv';injection hv' with e1 e2 e3
   subst e1;obtain⟨kd,od,cc,ll,y1,y2,y3,y4,y5,y6,y7,y8,-⟩:=HS.out.pg a hlt';have FB:=aA (show ok11 I a=false->bM (a:Int)=EE from fun h=>by rw[HE.out,kE hlt' hR.out.2 h];rfl);have GA:=aA (show ok11 I a=true->∀ x,x<a+1->ok11 I x=true from fun h x hx=>by
    by_cases e:x=a
    ·rw[e];exact h
    ·exact hR.out.2 x (by omega))
   have OK:=aA (show ok11 I a=(!(decide ((I.pg a).kd=4) && decide ((I.pg a).lv=(celN9 (I.pg a).cl.toNat:Int))) || (decide ((I.pg a).nx = -1) && decide ((I.pg a).pv = -1)))from rfl);have PB:=aA (PbI.mk' (w:=w) A0.out hR.out.1 (I.pg a));obtain⟨d0,d1,d2,d3,d4,d5,d6,d7,d8,d9,d10⟩:=hpc.c;have HFU:=aA (fun W=>yC (I.pg a) cc y5 y6 W);rw[y5,Int.toNat_natCast] at OK;generalize ok11 I a=okv at *;generalize I.pg a=p at *;obtain⟨pkd,pod,pcl,plv,pnx,ppv,pfs,pb0,pb1,pb2,pb3⟩:=p;dsimp only at d0 d1 d2 d3 d4 d5 d6 d7 d8 d9 d10 OK y1 HFU;generalize decide (plv=(celN9 cc:Int))=fu at *;clear hpi hpc e2 e3 y1 y2 y3 y4 y5 y6 y7 y8;by_cases hk4:pkd=4
   ·subst hk4
    cases fu with
    | false=>
     have R2:=aA (GA.out (by rw[OK.out];simp));go_wp2_with fail;generalize wr.alloc (aV ⟨4,pod,pcl,plv,pnx,ppv,pfs,pb0,pb1,pb2,pb3⟩)=W1 at *;generalize wr.heap.size=g at *;refine(HFU.out _).mono ?_;rintro e w1 ⟨rfl,hk⟩;have K1:=aA (nT PB.out.k hk);clear hk d0 d1 d2 d3 d4 d5 d6 d7 d8 d9 d10;go_wp2_with fail;have R3:=aA (show Kt nO w w1/\_ from⟨K1.out,R2.out⟩);go_round
     case rel=>exact⟨a+1,by omega,by go_num,R3⟩
     case measure=>simp[intOf];omega
    | true=>
     by_cases hn1:pnx = -1
     ·subst hn1;by_cases hn2:ppv = -1
      ·subst hn2;have R2:=aA (GA.out (by rw[OK.out];simp));go_wp2_with fail;generalize wr.alloc (aV ⟨4,pod,pcl,plv,-1,-1,pfs,pb0,pb1,pb2,pb3⟩)=W1 at *;generalize wr.heap.size=g at *;refine(HFU.out _).mono ?_;rintro e w1 ⟨rfl,hk⟩;have PB2:=aA (PB.out.keep hk);obtain⟨q0,q1,q2,q3,q4,q5,q6,q7,q8,q9,q10⟩:=eK PB2.out.pb;clear hk d0 d1 d2 d3 d4 d5 d6 d7 d8 d9 d10;go_wp2_with fail;refine(cJ _ _).mono ?_;rintro e w2 ⟨rfl,rfl⟩;have R3:=aA (show Kt nO w w2/\_ from⟨PB2.out.k,R2.out⟩);go_wp2_with fail;go_round
       case rel=>exact⟨a+1,by omega,by go_num,R3⟩
       case measure=>simp[intOf];omega
      ·have R2:=aA (FB.out (by rw[OK.out];simp[hn2]));have f2:(ppv == -1)=false:=(by rw[beq_eq_false_iff_ne];exact hn2);clear hn2;go_wp2_with fail;generalize wr.alloc (aV ⟨4,pod,pcl,plv,-1,ppv,pfs,pb0,pb1,pb2,pb3⟩)=W1 at *;generalize wr.heap.size=g at *;refine(HFU.out _).mono ?_;rintro e w1 ⟨rfl,hk⟩;have PB2:=aA (PB.out.keep hk);obtain⟨q0,q1,q2,q3,q4,q5,q6,q7,q8,q9,q10⟩:=eK PB2.out.pb;clear hk d0 d1 d2 d3 d4 d5 d6 d7 d8 d9 d10;go_wp2_with fail;refine(dC _ _).mono ?_;rintro e w2 ⟨rfl,rfl⟩;exact⟨rfl,R2.out,PB2.out.k⟩
     ·have R2:=aA (FB.out (by rw[OK.out];simp[hn1]));have f2:(pnx == -1)=false:=(by rw[beq_eq_false_iff_ne];exact hn1);clear hn1;go_wp2_with fail;generalize wr.alloc (aV ⟨4,pod,pcl,plv,pnx,ppv,pfs,pb0,pb1,pb2,pb3⟩)=W1 at *;generalize wr.heap.size=g at *;refine(HFU.out _).mono ?_;rintro e w1 ⟨rfl,hk⟩;have PB2:=aA (PB.out.keep hk);obtain⟨q0,q1,q2,q3,q4,q5,q6,q7,q8,q9,q10⟩:=eK PB2.out.pb;clear hk d0 d1 d2 d3 d4 d5 d6 d7 d8 d9 d10;go_wp2_with fail;refine(dC _ _).mono ?_;rintro e w2 ⟨rfl,rfl⟩;exact⟨rfl,R2.out,PB2.out.k⟩
   ·have R2:=aA (show Kt nO w (wr.alloc (aV ⟨pkd,pod,pcl,plv,pnx,ppv,pfs,pb0,pb1,pb2,pb3⟩))/\_ from⟨hR.out.1.alloc _,GA.out (by rw[OK.out];simp[hk4])⟩);have f2:(pkd == 4)=false:=(by rw[beq_eq_false_iff_ne];exact hk4);clear hk4;go_wp2_with fail;go_round
    case rel=>exact⟨a+1,by omega,by go_num,R2⟩
    case measure=>simp[intOf];omega
  ·obtain rfl:a=n:=(by omega);have hai:¬(a:Int)<a:=(by omega);have E:=aA (show Ending.returned (.tuple #[])=EE by rw[HE.out,fst1_ok (fun x hx=>hR.out.2 x (by rw[HN.out];exact hx))];rfl);go_wp2_with fail;first|go_end0|go_ret
   exact⟨E.out,hR.out.1⟩
theorem ZO(b:Nat)(I:Img)(V:ImV)(k r:Nat)(hS:Sn9 I k r)(w:World)(hI:ImAt w b I V):
  Calls prog 170 #[.pointer (some ⟨b,0,none⟩)] w fun e w'=>e=bB (fst1 I.np (ok6 I k))/\Kt nO w w':=by
 obtain⟨-,⟨pa,pc,hp⟩,-,-,-,-,bp,-,-⟩:=hI.d.sl;obtain⟨c0,c1,c2,c3,c4,c5,c6,c7,c8⟩:=hI.cells;rw[hp] at c5;obtain⟨EE,hEE⟩:=xe (bB (fst1 I.np (ok6 I k)));rw[<-hEE];have HE:=aA hEE;have HI:=aA hI;have HS:=aA hS;have SP:=aA hp;have hnp:=hS.np1;have hk8:=hS.k8;obtain⟨n,hn⟩:=xe (I.np);rw[<-hn] at hnp c5;have HN:=aA hn;clear hEE hI hp hS hn bp;go_enter func170,ntmps170;go_wp2_with fail;go_loopw [11] (fun i W=>∃ a:Nat,a<=n/\i=.int .i64 a/\Hid (Kt nO w W/\∀ x,x<a->ok6 I k x=true)) (fun i _=>n-(intOf i).toNat)
 case atStart=>exact⟨0,Nat.zero_le _,rfl,aA ⟨Kt.refl _ _,fun x hx=>by omega⟩⟩
 case round=>
  clear c0 c1 c2 c3 c4 c5 c6 c7 c8;obtain⟨a,ha,rfl,hR⟩:=hrel;have A0:=aA (HI.out.keep hR.out.1);by_cases hlt:a<n
  ·have hai:(a:Int)<n:=(by omega);have hlt':a<I.np:=(by rw[<-HN.out];exact hlt);obtain⟨bl,o,oc',hv',hpi,hpc⟩:=A0.out.page a hlt';rw[SP.out] at hv';injection hv' with e1 e2 e3
   subst e1;obtain⟨kd,od,cc,ll,y1,y2,y3,y4,y5,y6,y7,y8,-⟩:=HS.out.pg a hlt';have hod8:od<=8:=(by omega);have hP:=M.pow8 od hod8;have FB:=aA (show ok6 I k a=false->bM (a:Int)=EE from fun h=>by rw[HE.out,kE hlt' hR.out.2 h];rfl);have GA:=aA (show ok6 I k a=true->∀ x,x<a+1->ok6 I k x=true from fun h x hx=>by
    by_cases e:x=a
    ·rw[e];exact h
    ·exact hR.out.2 x (by omega))
   have OK:=aA (show ok6 I k a=(!(isF (I.pg a) (od:Int) && decide ((od:Int)<k) && decide (a%(2*2 ^ od)=0)) || !isF (I.pg (a+2 ^ od)) (od:Int))by unfold ok6;rw[y3,Int.toNat_natCast]);have FIT:=aA (show od<k->a%(2*2 ^ od)=0->a+2 ^ od<n from fun h1 h=>by
    have:=mul_fits (HS.out.dvd (od+1) (by omega)) (by rw[Nat.pow_succ,Nat.mul_comm];exact h) hlt';rw[HN.out];have hp:=Nat.two_pow_pos od;rw[Nat.pow_succ] at this;omega)
   have PB:=aA (PbI.mk' (w:=w) A0.out hR.out.1 (I.pg a));obtain⟨d0,d1,d2,d3,d4,d5,d6,d7,d8,d9,d10⟩:=hpc.c;have HFR:=aA (fun W=>pE (I.pg a) (od:Int) W);generalize ok6 I k a=okv at *;obtain⟨fv,hfv⟩:=xe (isF (I.pg a) (od:Int));rw[<-hfv] at OK HFR;clear hfv;generalize I.pg a=p at *;obtain⟨pkd,pod,pcl,plv,pnx,ppv,pfs,pb0,pb1,pb2,pb3⟩:=p;dsimp only at d0 d1 d2 d3 d4 d5 d6 d7 d8 d9 d10 y3;subst y3;obtain⟨P,hPP⟩:=xe (2 ^ od);rw[<-hPP] at FIT hP OK;have hP1:=hP.1;have hP2:=hP.2;have hQ0:¬((2:Int)*(P:Int))=0:=MH hP1;have SH:=aA (oE hod8 hPP);clear hPP hpi hpc e2 e3 hP y1 y2 y5 y6 y7 y8
   cases fv with
   | false=>
    have R2:=aA (GA.out (by rw[OK.out];simp));go_wp2_with fail;generalize wr.alloc (aV ⟨pkd,(od:Int),pcl,plv,pnx,ppv,pfs,pb0,pb1,pb2,pb3⟩)=W1 at *;generalize wr.heap.size=g at *;refine(HFR.out _).mono ?_;rintro e w1 ⟨rfl,hk⟩;have K1:=aA (nT PB.out.k hk);clear hk d0 d1 d2 d3 d4 d5 d6 d7 d8 d9 d10;go_wp2_with fail;have R3:=aA (show Kt nO w w1/\_ from⟨K1.out,R2.out⟩);go_round
    case rel=>exact⟨a+1,by omega,by go_num,R3⟩
    case measure=>simp[intOf];omega
   | true=>
    by_cases hok:od<k
    case neg=>
     have R2:=aA (GA.out (by rw[OK.out];simp[hok]));have f1:decide ((od:Int)<k)=false:=decide_eq_false (by omega);have f2:¬(od:Int)<k:=(by omega);clear hok;go_wp2_with fail;generalize wr.alloc (aV ⟨pkd,(od:Int),pcl,plv,pnx,ppv,pfs,pb0,pb1,pb2,pb3⟩)=W1 at *;generalize wr.heap.size=g at *;refine(HFR.out _).mono ?_;rintro e w1 ⟨rfl,hk⟩;have PB2:=aA (PB.out.keep hk);obtain⟨c0,c1,c2,c3,c4,c5,c6,c7,c8⟩:=PB2.out.im.cells;rw[HS.out.ord] at c2;clear hk d0 d1 d2 d3 d4 d5 d6 d7 d8 d9 d10;go_wp2_with fail;have R3:=aA (show Kt nO w w1/\_ from⟨PB2.out.k,R2.out⟩);go_round
     case rel=>exact⟨a+1,by omega,by go_num,R3⟩
     case measure=>simp[intOf];omega
    have f1:decide ((od:Int)<k)=true:=decide_eq_true (by omega);have f2:(od:Int)<k:=(by omega);by_cases hal:a%(2*P)=0
    case neg=>
     have R2:=aA (GA.out (by rw[OK.out];simp[hal]));have f3:((a:Int)%(2*(P:Int)) == 0)=false:=MF hal;obtain⟨hsh1,hsh2,hsh3⟩:=SH.out;clear hok hal;go_wp2_with fail;generalize wr.alloc (aV ⟨pkd,(od:Int),pcl,plv,pnx,ppv,pfs,pb0,pb1,pb2,pb3⟩)=W1 at *;generalize wr.heap.size=g at *;refine(HFR.out _).mono ?_;rintro e w1 ⟨rfl,hk⟩;have PB2:=aA (PB.out.keep hk);obtain⟨c0,c1,c2,c3,c4,c5,c6,c7,c8⟩:=PB2.out.im.cells;rw[HS.out.ord] at c2;clear hk d0 d1 d2 d3 d4 d5 d6 d7 d8 d9 d10;go_wp2_with fail;have R3:=aA (show Kt nO w w1/\_ from⟨PB2.out.k,R2.out⟩);go_round
     case rel=>exact⟨a+1,by omega,by go_num,R3⟩
     case measure=>simp[intOf];omega
    have f3:((a:Int)%(2*(P:Int)) == 0)=true:=MG hal;have hfit:=FIT.out hok hal;have OK2:=aA (show okv=!isF (I.pg (a+P)) (od:Int)by rw[OK.out];simp[hok,hal]);obtain⟨t,ht⟩:=xe (a+P);have hti:(a:Int)+(P:Int)=t:=(by omega);rw[<-ht] at OK2 hfit;have htl:(t:Int)<n:=(by omega);have htn:t<I.np:=(by rw[<-HN.out];exact hfit);clear hok hal ht;have HFT:=aA (fun W=>pE (I.pg t) (od:Int) W);obtain⟨fw,hfw⟩:=xe (isF (I.pg t) (od:Int));rw[<-hfw] at OK2 HFT;clear hfw;obtain⟨hsh1,hsh2,hsh3⟩:=SH.out;go_wp2_with fail;generalize wr.alloc (aV ⟨pkd,(od:Int),pcl,plv,pnx,ppv,pfs,pb0,pb1,pb2,pb3⟩)=W1 at *;generalize wr.heap.size=g at *;refine(HFR.out _).mono ?_;rintro e w1 ⟨rfl,hk⟩;have PB2:=aA (PB.out.keep hk);obtain⟨c0,c1,c2,c3,c4,c5,c6,c7,c8⟩:=PB2.out.im.cells;rw[HS.out.ord] at c2;rw[SP.out,<-HN.out] at c5;have hq0:=PB2.out.im.pageK SP.out t htn ⟨w1,Kt.refl _ _⟩;clear hk d0 d1 d2 d3 d4 d5 d6 d7 d8 d9 d10;generalize I.pg t=q at *;obtain⟨qkd,qod,qcl,qlv,qnx,qpv,qfs,qb0,qb1,qb2,qb3⟩:=q;obtain⟨d0,d1,d2,d3,d4,d5,d6,d7,d8,d9,d10⟩:=hq0.c;dsimp only[KW.v] at d0 d1 d2 d3 d4 d5 d6 d7 d8 d9 d10;clear hq0
    cases fw with
    | false=>
     have R2:=aA (GA.out (by rw[OK2.out];rfl));go_wp2_with fail;refine(HFT.out _).mono ?_;rintro e w2 ⟨rfl,hk⟩;have K2:=aA (nT PB2.out.k hk);clear hk d0 d1 d2 d3 d4 d5 d6 d7 d8 d9 d10;go_wp2_with fail;refine(cJ _ _).mono ?_;rintro e w3 ⟨rfl,rfl⟩;have R3:=aA (show Kt nO w w3/\_ from⟨K2.out,R2.out⟩);go_wp2_with fail;go_round
     case rel=>exact⟨a+1,by omega,by go_num,R3⟩
     case measure=>simp[intOf];omega
    | true=>
     have R2:=aA (FB.out (by rw[OK2.out];rfl));go_wp2_with fail;refine(HFT.out _).mono ?_;rintro e w2 ⟨rfl,hk⟩;have K2:=aA (nT PB2.out.k hk);clear hk d0 d1 d2 d3 d4 d5 d6 d7 d8 d9 d10;go_wp2_with fail;refine(dC _ _).mono ?_;rintro e w3 ⟨rfl,rfl⟩;exact⟨rfl,R2.out,K2.out⟩
  ·obtain rfl:a=n:=(by omega);have hai:¬(a:Int)<a:=(by omega);have E:=aA (show Ending.returned (.tuple #[])=EE by rw[HE.out,fst1_ok (fun x hx=>hR.out.2 x (by rw[HN.out];exact hx))];rfl);go_wp2_with fail;first|go_end0|go_ret
   exact⟨E.out,hR.out.1⟩
end Go.Proofs.YtkfmheelhinjdaaGreatDoor.W
