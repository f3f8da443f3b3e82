import Derived.Test.YtkfmheelhinjdaaGreatDoorXf
set_option maxRecDepth 1000000
set_option maxHeartbeats 80000000
namespace Go.Proofs.YtkfmheelhinjdaaGreatDoor.M
open _root_.Go.Proofs.Tryz
open Go.RowKit
set_option linter.unusedVariables false
end Go.Proofs.YtkfmheelhinjdaaGreatDoor.M
namespace Go.Proofs.YtkfmheelhinjdaaGreatDoor.W
open _root_.Go.Proofs.Tryz
open Go.RowKit
set_option linter.unusedVariables false
theorem zcJ(b:Nat)(I:Img)(V:ImV)(k r:Nat)(hS:Sn9 I k r)(w:World)(hI:ImAt w b I V):
  Calls prog 172 #[.pointer (some ⟨b,0,none⟩)] w fun e w'=>e=bB (fst1 (k+1) (ok8 I))/\Kt nO w w':=by
 obtain⟨-,-,-,⟨ha,hc,hh⟩,-,-,-,-,-⟩:=hI.d.sl;obtain⟨c0,c1,c2,c3,c4,c5,c6,c7,c8⟩:=hI.cells;rw[hh] at c7;have hhs:=hI.d.hds;rw[hh] at hhs;obtain⟨bl,o,rfl,hbl,hhc⟩:=hhs.at 0 (by rw[hS.hl];omega);obtain⟨EE,hEE⟩:=xe (bB (fst1 (k+1) (ok8 I)));rw[<-hEE];have HE:=aA hEE;have HI:=aA hI;have HS:=aA hS;rw[hS.hl] at c7 hhc;have HHC:=aA hhc;have hk8:=hS.k8;have hnp:=hS.np1;have hmf:∀ (fn:Fn) (first cap:Array Value) (w:World),(Instr.makeFunc fn first cap).run prog w=.ok (.func fn first cap) w:=fun _ _ _ _=>rfl
 obtain⟨K,hK⟩:=xe (k+1);rw[<-hK] at c7;have HKK:=aA hK;have hK9:K<=9:=by omega
 clear hEE hI hS hh hhs hhc hK hbl;go_enter func172,ntmps172;go_wp2_with fail;go_loopw [11] (fun i W=>∃ a:Nat,a<=K/\i=.int .i64 a/\Hid (Kt nO w W/\∀ x,x<a->ok8 I x=true)) (fun i _=>K-(intOf i).toNat)
 case atStart=>exact⟨0,Nat.zero_le _,rfl,aA ⟨Kt.refl _ _,fun x hx=>by omega⟩⟩
 case round=>
  clear c0 c1 c2 c3 c4 c5 c6 c7 c8;obtain⟨a,ha',rfl,hR⟩:=hrel;by_cases hlt:a<K
  ·have hai:(a:Int)<K:=(by omega);obtain⟨hp64,hpc⟩:=HHC.out a (by rw[<-HKK.out];exact hlt);have d0:=hR.out.1.cell (fun x=>x) hpc;obtain⟨p,hp⟩:=xe (I.hd.getD a 0);rw[<-hp] at d0 hp64;have FB:=aA (show ok8 I a=false->bM (a:Int)=EE from fun h=>by rw[HE.out,kE (by rw[<-HKK.out];exact hlt) hR.out.2 h];rfl);have GA:=aA (show ok8 I a=true->∀ x,x<a+1->ok8 I x=true from fun h x hx=>by
    by_cases e:x=a
    ·rw[e];exact h
    ·exact hR.out.2 x (by omega))
   have OK:=aA (show bO (decP I) 0 (fun i=>M.word I.mem (4096*i)) (fun i=>M.word I.mem (4096*i+8)) ((pgL I fun p=>isF p (a:Int)).length+1) (pgL I fun p=>isF p (a:Int)) p 0=ok8 I a by rw[hp];rfl);generalize ok8 I a=okv at *;have B1:=aA (show(wr.alloc (.cells #[.int .i64 a] 3 (0,0))).heap[wr.heap.size]?=some (.cells #[.int .i64 a] 3 (0,0))from nH _ _);have K1:=aA (show Kt nO w (wr.alloc (.cells #[.int .i64 a] 3 (0,0)))from hR.out.1.alloc _);have SZ:=aA (show wr.heap.size<(wr.alloc (.cells #[.int .i64 a] 3 (0,0))).heap.size by simp);clear hp hpc;go_wp2_with fail;generalize wr.alloc (.cells #[.int .i64 a] 3 (0,0))=W1 at *;generalize wr.heap.size=cb at *;refine(JC b cb I V (fun p=>isF p (a:Int)) W1 (HI.out.keep K1.out) hnp (fun i W hi hk=>EF cb a (I.pg i) W ((hk.block _ (lH B1.out) (fun x=>x)).trans B1.out))).mono ?_;rintro e w2 ⟨sb,sc,ws,rfl,hst,hge1,hge2,hbt,hk2⟩;have LL:=aA (show L8 w w2 cb sb sc I.np a ws (pgL I fun p=>isF p (a:Int))from⟨(hk2.block _ (lH B1.out) (fun x=>x)).trans B1.out,hst,Nat.le_trans K1.out.size hge2,by have:=SZ.out;omega,nT K1.out hk2,pgL_nodup _ _,fun i hi=>by
    rw[hbt i hi,Bool.eq_iff_iff,decide_eq_true_eq,pgL_mem];exact⟨fun h=>⟨hi,h⟩,fun h=>h.2⟩,fun i hi=>(pgL_mem.1 hi).1⟩)
   clear hst hge1 hge2 hbt hk2 d0 B1 K1 SZ;go_wp2_with fail;go_loopw [3,5] (fun pv bv W=>∃ p q:Nat,pv=.int .u64 p/\bv=.int .u64 q/\p<18446744073709551616/\q<18446744073709551616/\Hid (∃ ws l,L8 w W cb sb sc I.np a ws l/\bO (decP I) 0 (fun i=>M.word I.mem (4096*i)) (fun i=>M.word I.mem (4096*i+8)) (l.length+1) l p q=okv)) (fun _ _ W=>aT (cB W sc))
   case atStart=>exact⟨p,0,rfl,rfl,hp64,by decide,aA ⟨_,_,LL.out,OK.out⟩⟩
   case round=>
    clear LL OK hp64;obtain⟨p,q,rfl,rfl,hp64,hq64,hL⟩:=hrel;obtain⟨ws,l,hl,hok⟩:=hL.out;have LL:=aA hl;have OK:=aA hok;clear hL hl hok;by_cases hp0:p=0
    ·have hp0':((p:Int) != 0)=false:=(by rw[hp0];rfl);have OK2:=aA (show okv=decide (aT ws=0)by rw[<-OK.out,hp0,zM,LL.out.empty]);obtain⟨cw,hcw⟩:=xe (aT ws);have HCT:=aA (fun (x:KW wr)=>rO sb sc I.np ws x.v (LL.out.keep x.k).st);rw[<-hcw] at HCT OK2;have c0:∀ x:KW wr,x.v.cell? ⟨cb,0,none⟩=some (.int .i64 a):=fun x=>by simp[World.cell?,(LL.out.keep x.k).bx]
     clear hp0 hcw;by_cases g:cw=0
     case neg=>
      have R2:=aA (FB.out (by rw[OK2.out,decide_eq_false g]));have f4:((cw:Int) == 0)=false:=(by rw[beq_eq_false_iff_ne];omega);clear g;go_wp2_with fail;refine fV (by kernel_rfl) (by kernel_rfl) (by exact List.cons_ne_nil _ _) ?_;dsimp only[List.dropLast,List.getLast];repeat (go_big_quiet_step (first|(go_at_call 218;exact Calls.kept_of ((HCT.out _).mono fun _ _ ⟨h1,h2⟩=>⟨h1,h2▸Kt.refl _ _⟩))))
      refine wpQuiet_nil ?_;refine⟨rfl,?_⟩;rintro _ ⟨x,rfl⟩;exact fU (p:=(a:Int)) rfl rfl rfl fun _ hd=>⟨hd,R2.out,nT LL.out.k x.k⟩
     have R2:=aA (GA.out (by rw[OK2.out,decide_eq_true g]));have f4:((cw:Int) == 0)=true:=(by rw[beq_iff_eq];omega);have HMY:=aA (fun W=>cJ (a:Int) W);clear g;go_wp2_with fail;refine dM (by kernel_rfl) (by kernel_rfl) ?_;repeat (go_big_quiet_step (first|(go_at_call 218;exact Calls.kept_of ((HCT.out _).mono fun _ _ ⟨h1,h2⟩=>⟨h1,h2▸Kt.refl _ _⟩))|(go_at_call 212;exact Calls.kept_of ((HMY.out _).mono fun _ _ ⟨h1,h2⟩=>⟨h1,h2▸Kt.refl _ _⟩))))
     refine wpQuiet_nil ?_;intro x;have R3:=aA (show Kt nO w x.v/\_ from⟨nT LL.out.k x.k,R2.out⟩);clear c0;go_wp2_with fail;go_round
     case rel=>exact⟨a+1,by omega,by go_num,R3⟩
     case measure=>simp[intOf];omega
    ·have hp0':((p:Int) != 0)=true:=(by rw[bne_iff_ne];omega);have IM:=aA (HI.out.keep LL.out.k);have HPA:=aA (fun (x:KW wr)=>YS b I V p hp64 x.v (IM.out.keep x.k) HS.out.be);have INS:=aA (LL.out.ins (decP I p) (fun i h=>(qX HS.out h).1));obtain⟨di,hdi⟩:=xe (lE (decP I p));rw[<-hdi] at HPA INS;have HDI:=aA hdi;have c0:∀ x:KW wr,x.v.cell? ⟨cb,0,none⟩=some (.int .i64 a):=fun x=>by simp[World.cell?,(LL.out.keep x.k).bx]
     clear hdi
     cases hin:bZ I.np ws di with
     | false=>
      have R2:=aA (FB.out (by
       rw[<-OK.out];refine qY hp0 fun i hi=>.inl fun hm=>?_
       have:=INS.out;rw[hi,hin] at this;exact absurd hm (of_decide_eq_false this.symm)))
      have HIN:=aA hin;clear hin hp0;go_wp2_with fail;refine fV (by kernel_rfl) (by kernel_rfl) (by exact List.cons_ne_nil _ _) ?_;dsimp only[List.dropLast,List.getLast];repeat (go_big_quiet_step (first|(go_at_call 226;exact Calls.kept_of ((HPA.out _).mono fun _ _ ⟨h1,h2⟩=>⟨h1,h2▸Kt.refl _ _⟩))))
      refine wpQuiet_nil ?_;refine⟨rfl,?_⟩;rintro _ ⟨x,rfl⟩;exact WS (p:=(a:Int)) rfl rfl rfl rfl (LL.out.keep x.k).st HIN.out fun _ hd=>⟨hd,R2.out,nT LL.out.k x.k⟩
     | true=>
      have hex:∃ i,decP I p=some i/\i∈l:=by
       have:=INS.out;rw[hin] at this
       cases hd:decP I p with
       | none=>rw[hd] at this;cases this
       | some i=>rw[hd] at this;exact⟨i,rfl,of_decide_eq_true this.symm⟩
      obtain⟨i,hi,hil⟩:=hex;obtain⟨hin1,hpi,-⟩:=qX HS.out hi;have hdi:di=(i:Int):=(by rw[HDI.out,hi];rfl);subst hdi;have HIN:=aA hin;have HIL:=aA hil;have HD:=aA (show decP I p=some i/\p≠0 from⟨hi,hp0⟩);have HPI:=aA hpi;have HI1:=aA hin1;clear hin hil hi hpi hin1 hp0;go_wp2_with fail;have HPA2:=aA (show Calls prog 226 #[.pointer (some ⟨b,0,none⟩),.int .u64 p] wr.drew fun e w'=>e=.returned (.int .i64 i)/\w'=wr.drew from(HPA.out ⟨wr.drew,(Kt.refl nO wr).drew⟩));have HME:=aA (tL sb sc I.np ws (i:Int) (a:Int) wr.drew (LL.out.keep (Kt.refl nO wr).drew).st HIN.out);have y0:wr.drew.cell? ⟨cb,0,none⟩=some (.int .i64 a):=c0 ⟨wr.drew,(Kt.refl nO wr).drew⟩;clear c0;go_cut [26] (fun v W=>Hid (SetAt W sb sc I.np (bN I.np ws (i:Int) false)/\Kt (fun x=>x=sc) wr.drew W/\W.heap.size=wr.drew.heap.size))
      case first=>
       go_region_held3 (fun w'=>w'.cell? ⟨cb,0,none⟩=some (.int .i64 a)) (first|with_reducible exact y0|with_reducible exact y1) (first|(go_at_call 226;with_reducible refine HPA2.out.mono ?_;rintro e w1 ⟨rfl,rfl⟩)|(go_at_call 225;with_reducible refine HME.out.mono ?_;rintro e w1 ⟨rfl,h1,h2,h3⟩;have M1:=aA (show SetAt w1 sb sc I.np (bN I.np ws (i:Int) false)/\Kt (fun x=>x=sc) wr.drew w1/\w1.heap.size=wr.drew.heap.size from⟨h1,h2,h3⟩);have y1:w1.cell? ⟨cb,0,none⟩=some (.int .i64 a):=h2.cell LL.out.ne y0;clear h1 h2 h3)|fail)
       all_goals (go_wp2_with fail;go_meet;exact M1)
      case rest=>
      rename_i wc _;have MC:=aA hcut.out;clear hcut;have LM:=aA (show L8 w wc cb sb sc I.np a (bN I.np ws (i:Int) false) (l.erase i)from(LL.out.keep (Kt.refl nO wr).drew).met MC.out.2.1 HIL.out MC.out.1);have MSR:=aA (show aT (cB wc sc)<aT (cB wr sc)by
       rw[gZ LM.out.st,gZ LL.out.st];have hb:aF ws i=true:=(by rw[LL.out.mem i HI1.out];exact decide_eq_true HIL.out);have:=tY LL.out.st LM.out.st HI1.out hb;omega)
      have IM2:=aA (HI.out.keep LM.out.k);have hqn : 4096*i+8+8<=I.nm:=(by have:=HS.out.nm;have:=HI1.out;omega);have HW8:=aA (fun (x:KW wc)=>tM b I V (4096*i+8) x.v (IM2.out.keep x.k) hqn HS.out.be);have HW0:=aA (fun (W:World) (hW:Kt nO wc W)=>tM b I V (4096*i) W (IM2.out.keep hW) (by omega) HS.out.be);have hpb:p<9223372036854775808:=(by have:=HPI.out;have:=HS.out.be;omega);have e8:((I.bS+(4096*i+8):Nat):Int)=(p:Int)+8:=(by have:=HPI.out;omega);have e0:((I.bS+4096*i:Nat):Int)=(p:Int):=(by have:=HPI.out;omega);rw[e8] at HW8;rw[e0] at HW0;have NXT:=aA (show M.word I.mem (4096*i+8)=q->bO (decP I) 0 (fun i=>M.word I.mem (4096*i)) (fun i=>M.word I.mem (4096*i+8)) ((l.erase i).length+1) (l.erase i) (M.word I.mem (4096*i)) p=okv from fun h=>by
       rw[<-OK.out];exact(zL (nxt:=fun i=>M.word I.mem (4096*i)) (bk:=fun i=>M.word I.mem (4096*i+8)) HD.out.2 HD.out.1 HIL.out h).symm)
      have NOT:=aA (show ¬M.word I.mem (4096*i+8)=q->bM (a:Int)=EE from fun h=>FB.out (by
       rw[<-OK.out];refine qY HD.out.2 fun j hj=>.inr ?_
       rw[HD.out.1] at hj;injection hj with hj
       rw[<-hj];exact h))
      have WLT:=aA (word_lt IM2.out.d (4096*i) (by omega));generalize M.word I.mem (4096*i+8)=wb at *;generalize M.word I.mem (4096*i)=wn at *;have c0:∀ x:KW wc,x.v.cell? ⟨cb,0,none⟩=some (.int .i64 a):=fun x=>by simp[World.cell?,(LM.out.keep x.k).bx]
      clear e8 e0 y0 HPA2 HME hqn;by_cases g:wb=q
      case neg=>
       have R2:=aA (NOT.out g);have f4:((wb:Int) == (q:Int))=false:=(by rw[beq_eq_false_iff_ne];omega);clear g;go_wp2_with fail;refine fV (by kernel_rfl) (by kernel_rfl) (by exact List.cons_ne_nil _ _) ?_;dsimp only[List.dropLast,List.getLast];repeat (go_big_quiet_step (first|(go_at_call 227;exact Calls.kept_of ((HW8.out _).mono fun _ _ ⟨h1,m,h2⟩=>⟨h1,h2▸(Kt.refl _ _).drewN m⟩))))
       refine wpQuiet_nil ?_;refine⟨rfl,?_⟩;rintro _ ⟨x,rfl⟩;exact fU (p:=(a:Int)) rfl rfl rfl fun _ hd=>⟨hd,R2.out,nT LM.out.k x.k⟩
      have R2:=aA (NXT.out g);have f4:((wb:Int) == (q:Int))=true:=(by rw[beq_iff_eq];omega);have HMY:=aA (fun W=>cJ (a:Int) W);clear g;go_wp2_with fail;refine dM (by kernel_rfl) (by kernel_rfl) ?_;repeat (go_big_quiet_step (first|(go_at_call 227;exact Calls.kept_of ((HW8.out _).mono fun _ _ ⟨h1,m,h2⟩=>⟨h1,h2▸(Kt.refl _ _).drewN m⟩))|(go_at_call 212;exact Calls.kept_of ((HMY.out _).mono fun _ _ ⟨h1,h2⟩=>⟨h1,h2▸Kt.refl _ _⟩))))
      refine wpQuiet_nil ?_;intro x;clear c0;go_wp2_with fail;refine(HW0.out x.v x.k).mono ?_;rintro e w5 ⟨rfl,m5,rfl⟩;have KF:=aA (nT x.k ((Kt.refl nO x.v).drewN m5));have R3:=aA (show ∃ ws l,L8 w (x.v.drewN m5) cb sb sc I.np a ws l/\bO (decP I) 0 (fun i=>M.word I.mem (4096*i)) (fun i=>M.word I.mem (4096*i+8)) (l.length+1) l wn p=okv from⟨_,_,LM.out.keep KF.out,R2.out⟩);have MS2:=aA (show aT (cB (x.v.drewN m5) sc)<aT (cB wr sc)by
       rw[gZ (LM.out.keep KF.out).st,<-gZ LM.out.st];exact MSR.out)
      go_wp2_with fail;go_round
      case rel=>exact⟨wn,p,rfl,rfl,WLT.out,hp64,R3⟩
      case measure=>exact MS2.out
  ·obtain rfl:a=K:=(by omega);have hai:¬(a:Int)<a:=(by omega);have E:=aA (show Ending.returned (.tuple #[])=EE by rw[HE.out,fst1_ok (fun x hx=>hR.out.2 x (by rw[HKK.out];exact hx))];rfl);go_wp2_with fail;first|go_end0|go_ret
   exact⟨E.out,hR.out.1⟩
end Go.Proofs.YtkfmheelhinjdaaGreatDoor.W
