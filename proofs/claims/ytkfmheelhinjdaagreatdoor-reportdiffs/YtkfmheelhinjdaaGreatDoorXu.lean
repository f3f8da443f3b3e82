import Derived.Test.YtkfmheelhinjdaaGreatDoorXs
set_option maxRecDepth 1000000
set_option maxHeartbeats 80000000
namespace Go.Proofs.YtkfmheelhinjdaaGreatDoor.W
open _root_.Go.Proofs.Tryz
open Go.RowKit
set_option linter.unusedVariables false
theorem tM{x:Nat}(h:x<=100000):wrap64 (x:Int)=x:=by unfold wrap64;omega
theorem EP{t s lo:Nat}(h:lo=t*2 ^ s)(hl:lo<=100000):wrap64 ((t:Int)*2 ^ s)=(lo:Int):=by
 have e:((2:Int) ^ s)=((2 ^ s:Nat):Int):=by simp
 have e2:(t:Int)*((2 ^ s:Nat):Int)=(lo:Int):=by rw[h];simp
 rw[e,e2];exact tM hl
def jQ(I:Img)(j i:Nat):Bool:=isF (I.pg (i*2 ^ (j+1))) (j:Int) != isF (I.pg (i*2 ^ (j+1)+2 ^ j)) (j:Int)
def r7k(I:Img)(j:Nat):Option Nat:=
 match fst1 (I.np/2 ^ (j+1)) (fun i=>aF (I.pr j) i == jQ I j i)with
 | some i=>some (i*2 ^ (j+1))
 | none=>if bQ (64*(I.pr j).length) (I.pr j) (I.np/2 ^ (j+1)) = -1 then none else some I.np
def r7(I:Img):Option Nat:=fstO I.no (r7k I)
theorem OA(zs:List Nat)(h : 64*zs.length<=1048576):dF ((64*zs.length:Nat):Int)=64*zs.length/\eY zs (64*zs.length)=zs:=by
 constructor
 ·unfold dF;split <;> (try split) <;> omega
 ·unfold eY jI;rw[if_pos (by omega)];exact AI zs _ (by simp[dP];omega)
theorem half_lt{np j i:Nat}(h:i<np/2 ^ (j+1)):i*2 ^ (j+1)+2 ^ j<np:=by
 have h1:(i+1)*2 ^ (j+1)<=np:=by
  have:i+1<=np/2 ^ (j+1):=h;exact Nat.le_trans (Nat.mul_le_mul_right _ this) (Nat.div_mul_le_self _ _)
 rw[Nat.add_mul,Nat.one_mul,Nat.pow_succ] at h1;rw[Nat.pow_succ];have:=Nat.two_pow_pos j;omega
structure SbI(w W:World)(b sb sc:Nat)(I:Img)(V:ImV)(n:Nat)(ws:List Nat):Prop where
 im:ImAt W b I V
 st:SetAt W sb sc n ws
 k:Kt nO w W
theorem SbI.keep{w W W':World}{b sb sc:Nat}{I:Img}{V:ImV}{n:Nat}{ws:List Nat}(h:SbI w W b sb sc I V n ws)(hk:Kt nO W W'):SbI w W' b sb sc I V n ws:=
 ⟨h.im.keep hk,h.st.kept hk (fun x=>x) (fun x=>x),nT h.k hk⟩
theorem ze4(b:Nat)(I:Img)(V:ImV)(k r:Nat)(hS:Sn9 I k r)(w:World)(hI:ImAt w b I V):
  Calls prog 171 #[.pointer (some ⟨b,0,none⟩)] w fun e w'=>e=bB (r7 I)/\Kt nO w w':=by
 obtain⟨-,⟨pa,pc,hp⟩,⟨ra,rc,hr⟩,-,-,-,bp,br,-⟩:=hI.d.sl;obtain⟨c0,c1,c2,c3,c4,c5,c6,c7,c8⟩:=hI.cells;rw[hr] at c6;obtain⟨EE,hEE⟩:=xe (bB (r7 I));rw[<-hEE];have HE:=aA hEE;have HI:=aA hI;have HS:=aA hS;have SP:=aA hp;have SR:=aA hr;have hnp:=hS.np1;have hk8:=hS.k8;rw[hS.no] at c6 br;have HPO:=aA (fun (j:Nat) (hj:j<=8) (W:World) (hW:ImAt W b I V)=>AR b I V j W hW hj bp);obtain⟨n,hn⟩:=xe (I.np);rw[<-hn] at hnp;have HN:=aA hn;clear hEE hI hp hr hS hn bp;go_enter func171,ntmps171;go_wp2_with fail;go_loopw [15] (fun i W=>∃ a:Nat,a<=k/\i=.int .i64 a/\Hid (Kt nO w W/\∀ x,x<a->r7k I x=none)) (fun i _=>k-(intOf i).toNat)
 case atStart=>exact⟨0,Nat.zero_le _,rfl,aA ⟨Kt.refl _ _,fun x hx=>by omega⟩⟩
 case round=>
  clear c0 c1 c2 c3 c4 c5 c6 c7 c8;obtain⟨a,ha,rfl,hR⟩:=hrel;have A0:=aA (HI.out.keep hR.out.1);by_cases hlt:a<k
  ·have hai:(a:Int)<k:=(by omega);have hano:a<I.no:=(by rw[HS.out.no];exact hlt);have ha8:a<=8:=(by omega);obtain⟨ws,_,ra',rc',hrv,hr3⟩:=A0.out.d.prs;rw[SR.out] at hrv;injection hrv with e1 e2 e3
   subst e1;rcases hr3 with hr3|⟨bl,o,rfl,_,hcc⟩
   ·omega
   obtain⟨d0,hsrc⟩:=hcc a hano;obtain⟨hz,za,zc,hzv,_⟩:=hsrc;have hSC:=aA (hcc a hano).2;have FB:=aA (show ∀ p,r7k I a=some p->bM (p:Int)=EE from fun p h=>by rw[HE.out,r7,QA hano hR.out.2 h];rfl);have GA:=aA (show r7k I a=none->∀ x,x<a+1->r7k I x=none from fun h x hx=>by
    by_cases e:x=a
    ·rw[e];exact h
    ·exact hR.out.2 x (by omega))
   have RK:=aA (show r7k I a=(match fst1 (I.np/2 ^ (a+1)) (fun i=>aF (I.pr a) i == jQ I a i)with|some i=>some (i*2 ^ (a+1))|none=>if bQ (64*(I.pr a).length) (I.pr a) (I.np/2 ^ (a+1)) = -1 then none else some I.np)from rfl);have hpl:=HS.out.pl a hlt;rw[hzv] at d0 hSC;generalize r7k I a=rk at *;obtain⟨zs,hzs⟩:=xe (I.pr a);rw[<-hzs] at hSC RK d0 hpl;have HZS:=aA hzs;obtain⟨pn,hpn⟩:=xe (I.np/2 ^ (a+1));have hpnl:pn<=1024:=(by rw[hpn];exact Nat.le_trans (Nat.div_le_self _ _) HS.out.np1);have hzl:zs.length<=17:=(by rw[hpl];unfold gT;rw[<-hpn];omega);have hpz:pn<=64*zs.length:=(by rw[hpl];unfold gT;rw[<-hpn];omega);rw[<-hpn] at RK;have HPN:=aA hpn;obtain⟨nz,hnz⟩:=xe (64*zs.length);have OWA:=aA (OA zs (by omega));have hmul:(zs.length:Int)*64=(nz:Int):=(by omega);obtain⟨zl,hzl2⟩:=xe (zs.length);rw[<-hzl2] at hmul hzl d0 hSC;rw[<-hnz] at OWA RK hpz;have HZL:=aA hzl2;have HNZ:=aA hnz;have HSH:=aA (oE ha8 (rfl : 2 ^ a=2 ^ a));have HSH2:=aA (show a+1<=9 by omega);clear hcc hz hzv hpn hzs hnz hzl2 e2 e3 hpl;go_wp2_with fail;refine(qJ (.slice za zl zc) zs (nz:Int) (by omega) (by omega) wr (by have:=HZL.out;subst this;exact hSC.out)).mono ?_;rintro e w1 ⟨rfl,hset,hk,hsz⟩;rw[OWA.out.1,OWA.out.2] at hset;have SB:=aA (show SbI w w1 b (wr.heap.size+1) wr.heap.size I V nz zs from⟨A0.out.keep hk,hset,nT hR.out.1 hk⟩);generalize wr.heap.size+1=sb at *;generalize wr.heap.size=sc at *;have PO:=aA (HPO.out a ha8 w1 SB.out.im);rw[<-HPN.out] at PO;clear hset hk hsz d0 hSC;go_wp2_with fail;refine PO.out.mono ?_;rintro e w2 ⟨rfl,rfl⟩;clear PO;go_wp2_with fail;obtain⟨s,hs⟩:=xe (a+1);obtain⟨P,hP⟩:=xe (2 ^ a);have hP8:=M.pow8 a ha8;rw[<-hP] at hP8;have hP81:=hP8.1;have hP82:=hP8.2;have HPP:=aA (show P=2 ^ a/\s=a+1 from⟨hP,hs⟩);clear hP hs hP8;go_loopw [29] (fun i W=>∃ t:Nat,t<=pn/\i=.int .i64 t/\Hid (SbI w W b sb sc I V nz zs/\∀ x,x<t->(aF zs x == jQ I a x)=true)) (fun i _=>pn-(intOf i).toNat)
   case atStart=>exact⟨0,Nat.zero_le _,rfl,aA ⟨SB.out,fun x hx=>by omega⟩⟩
   case round=>
    clear SB;obtain⟨t,ht,rfl,hT⟩:=hrel;by_cases htl:t<pn
    ·have hti:(t:Int)<pn:=(by omega);obtain⟨lo,hlo⟩:=xe (t*2 ^ (a+1));obtain⟨up,hup⟩:=xe (lo+P);have hupn:up<I.np:=by
      have:=half_lt (j:=a) (by rw[<-HPN.out];exact htl:t<I.np/2 ^ (a+1));rw[hup,hlo,HPP.out.1];exact this
     have hlon:lo<I.np:=(by omega);have hl1:(lo:Int)<n:=(by rw[HN.out];omega);have hu1:(up:Int)<n:=(by rw[HN.out];omega);have LO:=aA hlo;have UP:=aA hup;have ONE:=aA (show jQ I a t=(isF (I.pg lo) (a:Int) != isF (I.pg up) (a:Int))by unfold jQ;rw[<-hlo,<-HPP.out.1,<-hup]);have hlob:lo<=1024:=(by have:=HS.out.np1;omega);have hau:(lo:Int)+(P:Int)=up:=(by omega);have hsi:(a:Int)+1=(s:Int):=(by have:=HPP.out.2;omega);have hs9:s<=9:=(by have:=HPP.out.2;omega);have hPs:P<=100000:=(by omega);have hups:up<=100000:=(by have:=HS.out.np1;omega);have hlos:lo<=100000:=(by omega);have SHH:=aA (show wrap64 ((t:Int)*2 ^ s)=(lo:Int)/\wrap64 ((1:Int)*2 ^ a)=(P:Int)/\((2:Int) ^ a)=(P:Int)/\wrap64 (P:Int)=P/\wrap64 ((lo:Int)+(P:Int))=(up:Int)from⟨EP (by rw[hlo,HPP.out.2]) hlos,(oE ha8 HPP.out.1).1,(oE ha8 HPP.out.1).2.1,tM hPs,by rw[hau];exact tM hups⟩);have FBt:=aA (show(aF zs t == jQ I a t)=false->bM (lo:Int)=EE from fun h=>FB.out lo (by
      rw[RK.out,kF htl hT.out.2 h];exact congrArg some hlo.symm))
     have GAt:=aA (show(aF zs t == jQ I a t)=true->∀ x,x<t+1->(aF zs x == jQ I a x)=true from fun h x hx=>by
      by_cases e:x=t
      ·rw[e];exact h
      ·exact hT.out.2 x (by omega))
     obtain⟨c0,c1,c2,c3,c4,c5,c6,c7,c8⟩:=hT.out.1.im.all;rw[SP.out,<-HN.out] at c5;have hpa:∃ bl' o',pa=some ⟨bl',o',none⟩:=by
      obtain⟨bl',o',oc',hv',_⟩:=hT.out.1.im.page lo hlon;rw[SP.out] at hv';injection hv' with e1
      exact⟨bl',o',e1⟩
     obtain⟨pb,po,rfl⟩:=hpa;obtain⟨d0,d1,d2,d3,d4,d5,d6,d7,d8,d9,d10⟩:=gV (hT.out.1.im.pageK SP.out lo hlon);obtain⟨v0,v1,v2,v3,v4,v5,v6,v7,v8,v9,v10⟩:=gV (hT.out.1.im.pageK SP.out up hupn);have HF1:=aA (fun W=>pF (I.pg lo) (a:Int) W);have HF2:=aA (fun W=>pF (I.pg up) (a:Int) W);generalize isF (I.pg lo) (a:Int)=f1 at *;generalize isF (I.pg up) (a:Int)=f2 at *;have HGT:=aA (fun (x:KW wr)=>mL sb sc nz zs (t:Int) x.v (hT.out.1.keep x.k).st);have hin:cA nz zs (t:Int)=aF zs t:=by
      unfold cA aC;rw[decide_eq_true (by omega),Int.toNat_natCast,Bool.true_and]
     rw[hin] at HGT;generalize aF zs t=bv at *;generalize jQ I a t=ov at *;clear hlo hup hin hupn hlon;clear hau;go_wp2_with fail;simp only[SHH.out.1,SHH.out.2.2.1,SHH.out.2.2.2.1,SHH.out.2.2.2.2]
     cases f1
     ·cases f2
      ·skip
       refine cI (by kernel_rfl) (by kernel_rfl) ?_;repeat (go_big_quiet_step (first|(go_at_call 221;first|(with_reducible exact Calls.kept_of (HF1.out _))|(with_reducible exact Calls.kept_of (HF2.out _)))))
       refine wpQuiet_nil ?_;intro x;clear c0 c1 c2 c3 c4 c5 c6 c7 c8 d0 d1 d2 d3 d4 d5 d6 d7 d8 d9 d10 v0 v1 v2 v3 v4 v5 v6 v7 v8 v9 v10;go_wp2_with fail;refine(HGT.out x).mono ?_;rintro e w3 ⟨rfl,rfl⟩
       cases bv with
       | false=>
         have R2:=aA (GAt.out (by rw[ONE.out];rfl));go_wp2_with fail;refine(cH _ _).mono ?_;rintro e w4 ⟨rfl,rfl⟩;have R3:=aA (show SbI w x.v b sb sc I V nz zs/\_ from⟨hT.out.1.keep x.k,R2.out⟩);go_wp2_with fail;go_round
         case rel=>exact⟨t+1,by omega,by go_num,R3⟩
         case measure=>simp[intOf];omega
       | true=>
         have R2:=aA (FBt.out (by rw[ONE.out];rfl));go_wp2_with fail;refine(dD _ _).mono ?_;rintro e w4 ⟨rfl,rfl⟩;exact⟨rfl,R2.out,nT hT.out.1.k x.k⟩
      ·skip
       refine cI (by kernel_rfl) (by kernel_rfl) ?_;repeat (go_big_quiet_step (first|(go_at_call 221;first|(with_reducible exact Calls.kept_of (HF1.out _))|(with_reducible exact Calls.kept_of (HF2.out _)))))
       refine wpQuiet_nil ?_;intro x;clear c0 c1 c2 c3 c4 c5 c6 c7 c8 d0 d1 d2 d3 d4 d5 d6 d7 d8 d9 d10 v0 v1 v2 v3 v4 v5 v6 v7 v8 v9 v10;go_wp2_with fail;refine(HGT.out x).mono ?_;rintro e w3 ⟨rfl,rfl⟩
       cases bv with
       | false=>
         have R2:=aA (FBt.out (by rw[ONE.out];rfl));go_wp2_with fail;refine(dD _ _).mono ?_;rintro e w4 ⟨rfl,rfl⟩;exact⟨rfl,R2.out,nT hT.out.1.k x.k⟩
       | true=>
         have R2:=aA (GAt.out (by rw[ONE.out];rfl));go_wp2_with fail;refine(cH _ _).mono ?_;rintro e w4 ⟨rfl,rfl⟩;have R3:=aA (show SbI w x.v b sb sc I V nz zs/\_ from⟨hT.out.1.keep x.k,R2.out⟩);go_wp2_with fail;go_round
         case rel=>exact⟨t+1,by omega,by go_num,R3⟩
         case measure=>simp[intOf];omega
     ·cases f2
      ·skip
       refine cI (by kernel_rfl) (by kernel_rfl) ?_;repeat (go_big_quiet_step (first|(go_at_call 221;first|(with_reducible exact Calls.kept_of (HF1.out _))|(with_reducible exact Calls.kept_of (HF2.out _)))))
       refine wpQuiet_nil ?_;intro x;clear c0 c1 c2 c3 c4 c5 c6 c7 c8 d0 d1 d2 d3 d4 d5 d6 d7 d8 d9 d10 v0 v1 v2 v3 v4 v5 v6 v7 v8 v9 v10;go_wp2_with fail;refine(HGT.out x).mono ?_;rintro e w3 ⟨rfl,rfl⟩
       cases bv with
       | false=>
         have R2:=aA (FBt.out (by rw[ONE.out];rfl));go_wp2_with fail;refine(dD _ _).mono ?_;rintro e w4 ⟨rfl,rfl⟩;exact⟨rfl,R2.out,nT hT.out.1.k x.k⟩
       | true=>
         have R2:=aA (GAt.out (by rw[ONE.out];rfl));go_wp2_with fail;refine(cH _ _).mono ?_;rintro e w4 ⟨rfl,rfl⟩;have R3:=aA (show SbI w x.v b sb sc I V nz zs/\_ from⟨hT.out.1.keep x.k,R2.out⟩);go_wp2_with fail;go_round
         case rel=>exact⟨t+1,by omega,by go_num,R3⟩
         case measure=>simp[intOf];omega
      ·skip
       refine cI (by kernel_rfl) (by kernel_rfl) ?_;repeat (go_big_quiet_step (first|(go_at_call 221;first|(with_reducible exact Calls.kept_of (HF1.out _))|(with_reducible exact Calls.kept_of (HF2.out _)))))
       refine wpQuiet_nil ?_;intro x;clear c0 c1 c2 c3 c4 c5 c6 c7 c8 d0 d1 d2 d3 d4 d5 d6 d7 d8 d9 d10 v0 v1 v2 v3 v4 v5 v6 v7 v8 v9 v10;go_wp2_with fail;refine(HGT.out x).mono ?_;rintro e w3 ⟨rfl,rfl⟩
       cases bv with
       | false=>
         have R2:=aA (GAt.out (by rw[ONE.out];rfl));go_wp2_with fail;refine(cH _ _).mono ?_;rintro e w4 ⟨rfl,rfl⟩;have R3:=aA (show SbI w x.v b sb sc I V nz zs/\_ from⟨hT.out.1.keep x.k,R2.out⟩);go_wp2_with fail;go_round
         case rel=>exact⟨t+1,by omega,by go_num,R3⟩
         case measure=>simp[intOf];omega
       | true=>
         have R2:=aA (FBt.out (by rw[ONE.out];rfl));go_wp2_with fail;refine(dD _ _).mono ?_;rintro e w4 ⟨rfl,rfl⟩;exact⟨rfl,R2.out,nT hT.out.1.k x.k⟩
    ·have hte:t=pn:=(by omega);have hti:¬(t:Int)<pn:=(by omega);have F0:=aA (show fst1 pn (fun i=>aF zs i == jQ I a i)=none from fst1_ok (fun x hx=>hT.out.2 x (by omega)));obtain⟨nv,hnv⟩:=xe (bQ nz zs pn);have RK2:=aA (show rk=if nv = -1 then none else some I.np by rw[RK.out,F0.out,<-hnv]);have HNX:=aA (fun (x:KW wr)=>yG sb sc nz zs (pn:Int) (by omega) x.v (hT.out.1.keep x.k).st);have e:nxt nz zs (pn:Int)=nv:=(by rw[hnv];unfold nxt;rw[Int.toNat_natCast]);rw[e] at HNX;obtain⟨c0,c1,c2,c3,c4,c5,c6,c7,c8⟩:=hT.out.1.im.all;rw[SP.out,<-HN.out] at c5;clear e hnv hte;by_cases g3:nv = -1
     case neg=>
      have R2:=aA (FB.out n (by rw[RK2.out,if_neg g3,HN.out]));have f4:(nv == -1)=false:=(by rw[beq_eq_false_iff_ne];exact g3);clear g3;go_wp2_with fail;refine fX (by kernel_rfl) (by kernel_rfl) (by exact List.cons_ne_nil _ _) ?_;dsimp only[List.dropLast,List.getLast];repeat (go_big_quiet_step (first|(go_at_call 219;exact Calls.kept_of ((HNX.out _).mono fun _ _ ⟨h1,h2⟩=>⟨h1,h2▸Kt.refl _ _⟩))))
      refine wpQuiet_nil ?_;refine⟨rfl,?_⟩;rintro _ ⟨x,rfl⟩;exact fW (p:=(n:Int)) rfl rfl rfl fun _ hd=>⟨hd,R2.out,nT hT.out.1.k x.k⟩
     have R2:=aA (GA.out (by rw[RK2.out,if_pos g3]));have f4:(nv == -1)=true:=(by rw[beq_iff_eq];exact g3);have HMY:=aA (fun W=>cH (n:Int) W);clear g3;go_wp2_with fail;refine cI (by kernel_rfl) (by kernel_rfl) ?_;repeat (go_big_quiet_step (first|(go_at_call 219;exact Calls.kept_of ((HNX.out _).mono fun _ _ ⟨h1,h2⟩=>⟨h1,h2▸Kt.refl _ _⟩))|(go_at_call 212;exact Calls.kept_of ((HMY.out _).mono fun _ _ ⟨h1,h2⟩=>⟨h1,h2▸Kt.refl _ _⟩))))
     refine wpQuiet_nil ?_;intro x;have R3:=aA (show Kt nO w x.v/\_ from⟨nT hT.out.1.k x.k,R2.out⟩);clear c0 c1 c2 c3 c4 c5 c6 c7 c8;go_wp2_with fail;go_round
     case rel=>exact⟨a+1,by omega,by go_num,R3⟩
     case measure=>simp[intOf];omega
  ·have hae:a=k:=(by omega);have hai:¬(a:Int)<k:=(by omega);have E:=aA (show Ending.returned (.tuple #[])=EE by rw[HE.out,r7,fstO_ok (fun x hx=>hR.out.2 x (by rw[HS.out.no] at hx;omega))];rfl);go_wp2_with fail;first|go_end0|go_ret
   exact⟨E.out,hR.out.1⟩
end Go.Proofs.YtkfmheelhinjdaaGreatDoor.W
