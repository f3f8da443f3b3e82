import Derived.Test.YtkfmheelhinjdaaGreatDoorWc
set_option maxRecDepth 1000000
set_option maxHeartbeats 80000000
namespace Go.Proofs.YtkfmheelhinjdaaGreatDoor.W
open _root_.Go.Proofs.Tryz
open Go.RowKit
set_option linter.unusedVariables false
set_option maxHeartbeats 8000000
set_option maxRecDepth 6000
def kA(W:World)(b n:Nat)(F:Nat->Bool):Prop:=∃ cs,W.heap[b]?=some (.cells cs 4 (0,0))/\cs.size=n/\∀ j,j<n->cs[j]?=some (.bool (F j))
theorem kA.keep{W W':World}{b n:Nat}{F:Nat->Bool}(h:kA W b n F)(k:Kt nO W W'):kA W' b n F:=by
 obtain⟨cs,h1,h2⟩:=h;exact⟨cs,(k.block _ (lH h1) (fun x=>x)).trans h1,h2⟩
theorem kA.cell{W:World}{b n:Nat}{F:Nat->Bool}(h:kA W b n F)(j:Nat)(hj:j<n):W.cell? ⟨b,j,none⟩=some (.bool (F j)):=by
 obtain⟨cs,h1,h2,h3⟩:=h;simp[World.cell?,h1,h3 j hj]
theorem kA.frz{W:World}{b n:Nat}{F:Nat->Bool}(h:kA W b n F)(j:Nat):W.frozen? ⟨b,j,none⟩=false:=by
 obtain⟨cs,h1,h2,h3⟩:=h;simp[World.frozen?,h1]
theorem kA.put{W:World}{b n:Nat}{F:Nat->Bool}(h:kA W b n F)(k:Nat)(hk:k<n):kA (W.setCell ⟨b,k,none⟩ (.bool true)) b n fun j=>if j=k then true else F j:=by
 obtain⟨cs,h1,h2,h3⟩:=h;refine⟨cs.setIfInBounds k (.bool true),heap_set h1 _ _,by simpa using h2,fun j hj=>?_⟩;by_cases e:j=k
 ·subst e;simp[h2,hj]
 ·show _=some (Value.bool (if j=k then true else F j))
  rw[if_neg e,Array.getElem?_setIfInBounds_ne (Ne.symm e)];exact h3 j hj
theorem UO:(prog.info? 4).map (fun i=>(i.zero,i.size,i.bytes))=some (some (.bool false),1,1):=by kernel_rfl
theorem UN(n:Nat)(hn:n<=256)(w:World):∃ w1,(Instr.makeSlice 202 (.int .i64 n) (.int .i64 n)).run prog w=.ok (.slice (some ⟨w.heap.size,0,none⟩) n n) w1/\kA w1 w.heap.size n (fun _=>false)/\Kt nO w w1:=by
 obtain⟨i,hi,hz0,hz1,hz2⟩:=info_parts UO;have hr:=run_make (P:=prog) w 202 4 i (.bool false) Tryz.underlying202 hi hz0 .i64 .i64 (n:Int) (n:Int) (by omega) (by omega) (by rw[hz2];omega) (by omega);rw[hz1] at hr;simp only[Int.toNat_natCast] at hr;refine⟨_,hr,⟨_,nH w _,?_,fun j hj=>?_⟩,(Kt.refl nO w).alloc _⟩
 ·simp[madeCells]
 ·unfold madeCells;simp[Value.cells,hj,Nat.mod_one]
theorem YF{nx:Nat->Option Int}{l:List Nat}{p:Int}(hl:l≠[])(h:¬(0<=p/\p.toNat∈l)):prg9 nx (l.length+1) l p=false:=by
 by_cases e:p = -1
 ·subst e;rw[prg9_end]
  cases l with
  | nil=>exact absurd rfl hl
  | cons=>rfl
 ·exact zL e h
theorem YD{nx:Nat->Option Int}{p:Int} : prg9 nx 1 [] p=decide (p = -1):=by
 by_cases e:p = -1
 ·subst e;rfl
 ·rw[prg9,if_neg e,if_neg (by simp),decide_eq_false e]
theorem UM{p:Pg}{n j:Nat} : j∈frL p n↔j<n/\aC (wsP p) j=false:=by simp[frL]
structure Q9(cn:Nat)(B F:Nat->Bool)(nx:Nat->Option Int)(ok:Bool)(d:Nat)(q:Int):Prop where
 ex:∃ l:List Nat,l.length=d/\l.Nodup/\(∀ j,j∈l↔j<cn/\B j=false/\F j=false)/\ok=prg9 nx (d+1) l q
theorem Q9.bad{cn d:Nat}{B F:Nat->Bool}{nx:Nat->Option Int}{ok:Bool}{q:Int}(h:Q9 cn B F nx ok (d+1) q)(hq:¬(0<=q/\q.toNat<cn/\B q.toNat=false/\F q.toNat=false)):ok=false:=by
 obtain⟨l,h1,h2,h3,h4⟩:=h.ex;rw[h4,<-h1];refine YF (fun e=>by rw[e] at h1;cases h1) (fun hc=>hq ⟨hc.1,(h3 _).1 hc.2⟩)
theorem Q9.none{cn d i:Nat}{B F:Nat->Bool}{nx:Nat->Option Int}{ok:Bool}(h:Q9 cn B F nx ok (d+1) (i:Int))(hi:i<cn)(hB:B i=false)(hF:F i=false)(hn:nx i=none):ok=false:=by
 obtain⟨l,h1,h2,h3,h4⟩:=h.ex;rw[h4,<-h1];exact CW ((h3 i).2 ⟨hi,hB,hF⟩) hn
theorem Q9.some{cn d i:Nat}{B F:Nat->Bool}{nx:Nat->Option Int}{ok:Bool}{q:Int}(h:Q9 cn B F nx ok (d+1) (i:Int))(hi:i<cn)(hB:B i=false)(hF:F i=false)(hn:nx i=some q):Q9 cn B (fun j=>if j=i then true else F j) nx ok d q:=by
 obtain⟨l,h1,h2,h3,h4⟩:=h.ex;have hm:=(h3 i).2 ⟨hi,hB,hF⟩;have hle:(l.erase i).length=d:=by rw[List.length_erase_of_mem hm,h1];rfl
 refine⟨l.erase i,hle,h2.erase i,fun j=>?_,?_⟩
 ·rw[h2.mem_erase_iff,h3 j];by_cases e:j=i
  ·subst e;simp
  ·simp[e]
 ·rw[h4,<-h1,prg9_yes hm hn,hle,h1]
theorem Q9.fin{cn:Nat}{B F:Nat->Bool}{nx:Nat->Option Int}{ok:Bool}{q:Int}(h:Q9 cn B F nx ok 0 q):ok=decide (q = -1):=by
 obtain⟨l,h1,h2,h3,h4⟩:=h.ex;obtain rfl:=List.eq_nil_of_length_eq_zero h1;rw[h4,YD]
def pC(G sz x:Nat)(j:Nat)(v:Int):Prop:=(v = -1/\∀ i,i<j->¬x=G+sz*i)\/∃ i:Nat,v=(i:Int)/\i<j/\x=G+sz*i
theorem pC.nx{I:Img}{a c i G x:Nat}{v:Int}(h7:c<=7)(hb:I.bS≠0)(hG:G=I.bS+4096*a)(hx:x=M.word I.mem (4096*a+(16*2 ^ c)*i))(h:pC G (16*2 ^ c) x (celN9 c) v):(x=0->v = -1/\nx9 I a c i=some (-1))/\(x≠0->v = -1->nx9 I a c i=none)/\(x≠0->0<=v->nx9 I a c i=some v)/\(v = -1\/0<=v):=by
 obtain⟨hca,hs1,hs2⟩:=mP c h7;unfold nx9;rw[show 4096*a+i*(16*2 ^ c)=4096*a+(16*2 ^ c)*i by rw[Nat.mul_comm i],<-hx,show I.bS+a*4096=G by rw[hG,Nat.mul_comm a]];generalize 16*2 ^ c=sz at *;have hG0:G≠0:=by omega
 rcases h with ⟨h1,h2⟩|⟨k,h1,h2,h3⟩
 ·refine⟨fun e=>⟨h1,by rw[if_pos e]⟩,fun e _=>?_,fun _ e=>by omega,.inl h1⟩;rw[if_neg e,if_neg];rintro ⟨g1,g2,g3⟩;refine h2 ((x-G)/sz) ?_ ?_
  ·rw[<-hca] at g2;exact(Nat.div_lt_iff_lt_mul (by omega)).2 g2
  ·have:=Nat.div_add_mod (x-G) sz;rw[g3,Nat.add_zero] at this;omega
 ·have hk:sz*k<4096:=by
   have:(k+1)*sz<=celN9 c*sz:=Nat.mul_le_mul_right _ h2;rw[hca,Nat.add_mul,Nat.one_mul] at this;rw[Nat.mul_comm];omega
  have hd:x-G=sz*k:=by omega
  refine⟨fun e=>by omega,fun _ e=>by omega,fun e _=>?_,.inr (by omega)⟩;rw[if_neg e,hd,if_pos ⟨by omega,hk,Nat.mul_mod_right _ _⟩,Nat.mul_div_cancel_left _ (by omega),h1]
theorem MO(I:Img)(V:ImV)(k r:Nat)(hS:Sn9 I k r)(h5:fst1 I.np (fun i=>ok5 (I.pg i))=none)(w:World)(hI:ImD w I V):
  Calls prog 108 #[imA I V] w fun e w'=>e=.returned (.int .i64 (eB (fst1 I.np (ok9 I))))/\Kt nO w w':=by
 obtain⟨⟨ma,mc,hm⟩,⟨pa,pc,hp⟩,⟨ra,rc,hr⟩,⟨ha,hc,hh⟩,⟨ta,tc,ht⟩,-⟩:=hI.sl;obtain⟨vm,vp,vr,vh,vt⟩:=V;dsimp only at hm hp hr hh ht;subst hm hp hr hh ht;have IM0:=aA (show ImAt (w.alloc (aE I _)) w.heap.size I _ from⟨nH _ _,hI.keep ((Kt.refl _ w).alloc _)⟩);have K0:=aA (show Kt nO w (w.alloc (aE I _))from(Kt.refl _ w).alloc (aE I ⟨.slice ma I.nm mc,.slice pa I.np pc,.slice ra I.no rc,.slice ha I.hd.length hc,.slice ta I.pt.length tc⟩));obtain⟨c0,c1,c2,c3,c4,c5,c6,c7,c8⟩:=IM0.out.cells;have HNP:=aA hS.np1;have HNM:=aA hS.nm;have HB0:=aA hS.b0;have HBE:=aA hS.be;have HS:=aA hS;obtain⟨rr,hrr⟩:=xe (eB (fst1 I.np (ok9 I)));rw[<-hrr];have BAD:=aA (show ∀ a,a<I.np->(∀ j,j<a->ok9 I j=true)->ok9 I a=false->rr=(a:Int)from fun a h1 h2 h3=>by rw[hrr,fK h1 h2 h3];rfl);have GOOD:=aA (show(∀ j,j<I.np->ok9 I j=true)->rr = -1 from fun h=>by rw[hrr,fst1_ok h];rfl);have H5:=aA h5;have WD:=aA (fun q hq W hI=>xY I ⟨.slice ma I.nm mc,.slice pa I.np pc,.slice ra I.no rc,.slice ha I.hd.length hc,.slice ta I.pt.length tc⟩ q hq (by have:=hS.nm;have:=hS.np1;omega) W hI);have WLT:=aA (fun q hq=>word_lt hI q hq);clear hI hrr hS h5;go_enter func108,ntmps108;go_wp2_with fail;clear c0 c1 c2 c3 c4 c5 c6 c7 c8;generalize w.heap.size=ib at *;generalize w.alloc (aE I ⟨.slice ma I.nm mc,.slice pa I.np pc,.slice ra I.no rc,.slice ha I.hd.length hc,.slice ta I.pt.length tc⟩)=W0 at *;go_loopw [3] (fun iv W=>∃ a:Nat,a<=I.np/\iv=.int .i64 a/\Hid (Kt nO W0 W/\∀ j,j<a->ok9 I j=true)) (fun iv _=>I.np-(intOf iv).toNat)
 case atStart=>exact⟨0,Nat.zero_le _,rfl,aA ⟨Kt.refl _ _,fun j hj=>by omega⟩⟩
 case round=>
  obtain⟨a,ha',rfl,hG⟩:=hrel;have IMa:=aA (IM0.out.keep hG.out.1);obtain⟨c0,c1,c2,c3,c4,c5,c6,c7,c8⟩:=IMa.out.cells;dsimp only at c5;by_cases hlt:a<I.np
  ·have hai:(a:Int)<I.np:=(by omega);obtain⟨bl,oo,oc,hv,hpi,hpc⟩:=IMa.out.page a hlt;injection hv with e1 e2 e3
   subst e1;clear e2 e3;obtain⟨d0,d1,d2,d3,d4,d5,d6,d7,d8,d9,d10⟩:=hpc.c;obtain⟨kd,od,cc,ll,-,-,-,-,y5,y6,-⟩:=HS.out.pg a hlt;have BADA:=aA (BAD.out a hlt hG.out.2);have NEXT:=aA (show ok9 I a=true->∀ j,j<a+1->ok9 I j=true from fun eo j hj=>by
    by_cases e:j=a
    ·rw[e];exact eo
    ·exact hG.out.2 j (by omega))
   have HLT:=aA hlt;have KG:=aA hG.out.1;have CE:=aA (fun W=>pQ (I.pg a) cc y5 y6 W);have HA9:=aA (fun c hc W=>nY (I.pg a) hpi c hc W);have OKN:=aA (show ¬(I.pg a).kd=4->ok9 I a=true from fun h=>by unfold ok9;rw[decide_eq_false h];rfl);have OKY:=aA (show(I.pg a).kd=4->ok9 I a=ok9c I a cc from fun h=>by unfold ok9;rw[decide_eq_true h,y5,Int.toNat_natCast];rfl);have LV:=aA (show(I.pg a).kd=4->∃ l:Nat,(I.pg a).lv=(l:Int)/\1<=l/\l<=celN9 cc/\l=aD (aC (wsP (I.pg a))) (celN9 cc)from fun h=>rP hpi y5 y6 h (kK H5.out a hlt));have CA:=aA (mP cc y6);have CB:=aA (uQ cc y6);have SEN:=aA (fun (i G x:Nat) (v:Int) (hG:G=I.bS+4096*a) (hx:x=M.word I.mem (4096*a+(16*2 ^ cc)*i)) (h:pC G (16*2 ^ cc) x (celN9 cc) v)=>h.nx y6 HB0.out hG hx);have OKC:=aA (show ok9c I a cc=prg9 (nx9 I a cc) ((frL (I.pg a) (celN9 cc)).length+1) (frL (I.pg a) (celN9 cc)) (I.pg a).fs from rfl);have FRM:=aA (show ∀ j:Nat,j∈frL (I.pg a) (celN9 cc)↔j<celN9 cc/\aC (wsP (I.pg a)) j=false from fun j=>UM);have FRL:=aA (PH (I.pg a) (celN9 cc));have FRN:=aA (show(frL (I.pg a) (celN9 cc)).Nodup from List.nodup_range.filter _);generalize frL (I.pg a) (celN9 cc)=fr at *;generalize nx9 I a cc=nx at *;generalize aC (wsP (I.pg a))=B at *;generalize I.pg a=p at *;generalize 16*2 ^ cc=sz at *;generalize celN9 cc=cn at *;generalize ok9c I a cc=oc9 at *;generalize ok9 I a=oka at *;clear hpc hpi hlt ha' hG y5 y6;go_upto_region 5 with fail;refine jQ (P:=fun W=>Code.wp prog _ _ _ W) _ ?_;intro W1 hW;have k1:Kt nO wr W1:=(by subst hW;exact(Kt.refl _ wr).alloc _);have X1:=aA (show W1.heap[wr.heap.size]?=some (aO p)by subst hW;exact nH _ _);have IM1:=aA (IMa.out.keep k1);have KE:=aA (nT KG.out k1);generalize wr.heap.size=pb at *;clear hW k1 c0 c1 c2 c3 c4 c5 c6 c7 c8 d0 d1 d2 d3 d4 d5 d6 d7 d8 d9 d10 IMa KG;obtain⟨e0,e1,e2,e3,e4,e5,e6,e7,e8,e9,e10⟩:=cA X1.out;have HW:=aA (show wrap64 ((a:Int)+1)=((a+1:Nat):Int)by have:=HNP.out;have:=HLT.out;rw[wrap64];omega);by_cases h1:p.kd=4
   case neg=>
    have q1:(p.kd != 4)=true:=(by rw[bne_iff_ne];exact h1);have EO:=aA (NEXT.out (OKN.out h1));clear h1;go_wp2_with fail;exact⟨⟨a+1,by have:=HLT.out;omega,by first|go_num|rw[HW.out],aA ⟨KE.out,EO.out⟩⟩,by have:=HLT.out;have:=HNP.out;first|(simp[intOf];omega)|(rw[HW.out];simp only[intOf,Int.toNat_natCast];omega)⟩
   have q1:(p.kd != 4)=false:=(by rw[bne_eq_false_iff_eq];exact h1);obtain⟨l,hl1,hl2,hl3,hl4⟩:=LV.out h1;have OKE:=aA (OKY.out h1);have hcb1:=CB.out.1;have hcb2:=CB.out.2;have hcs:=CA.out.1;obtain⟨d0,hd0⟩:∃ d,d=cn-l:=⟨_,rfl⟩;have QST:=aA (show Q9 cn B (fun _=>false) nx oka d0 p.fs from⟨fr,by have:=FRL.out;omega,FRN.out,fun j=>by rw[FRM.out j];simp,by rw[OKE.out,OKC.out,show fr.length=d0 by have:=FRL.out;omega]⟩);have s1:(cn:Int)-p.lv=(d0:Int):=(by omega);have SD0:=aA (show wrap64 (d0:Int)=d0 by rw[wrap64];omega);have s2:wrap64 ((cn:Int)-p.lv)=(d0:Int):=(by rw[s1,wrap64];omega);have hdv : 4096/cn=sz:=(by rw[<-hcs];exact Nat.mul_div_cancel_left _ (by omega));have s3:(4096:Int).tdiv (cn:Int)=sz:=(by rw[<-hdv];rfl);have s4:(4096:Int)/(cn:Int)=sz:=(by rw[<-hdv];simp);have hsz:sz<=2048:=CA.out.2.2;have hsz1 : 16<=sz:=CA.out.2.1;have s5:IntKind.u64.wrap (sz:Int)=sz:=(by rw[wrap_u64];omega);have s6:¬(cn:Int)=0:=(by omega);have s7:¬(cn:Int) = -1:=(by omega);have s8:((cn:Int) == 0)=false:=(by rw[beq_eq_false_iff_ne];omega);have HCN:=aA (show cn<=256/\1<=cn/\cn*sz=4096/\16<=sz/\sz<=2048/\d0<=256 from⟨hcb1,hcb2,hcs,hsz1,hsz,by omega⟩);clear h1 hl1 hl2 hl3 hl4 hd0 hcs hdv hcb2 hsz1;go_wp2_with fail;refine(CE.out _).mono ?_;rintro e w2 ⟨rfl,k2⟩;have IM2:=aA (IM1.out.keep k2);have X2:=aA ((k2.block _ (lH X1.out) (fun y=>y)).trans X1.out);have KE2:=aA (nT KE.out k2);clear k2 e0 e1 e2 e3 e4 e5 e6 e7 e8 e9 e10;obtain⟨w3,hmk,hmb,k3⟩:=UN cn hcb1 w2;have IM3:=aA (IM2.out.keep k3);have X3:=aA ((k3.block _ (lH X2.out) (fun y=>y)).trans X2.out);have KE3:=aA (nT KE2.out k3);have MB3:=aA hmb;have k23:=aA k3;obtain⟨e0,e1,e2,e3,e4,e5,e6,e7,e8,e9,e10⟩:=cA X3.out;have PBL:=aA (show pb<w2.heap.size from lH X2.out);clear hmb;go_wp2_with fail;generalize hmbE:w2.heap.size=mb at *;have MNE:=aA hmbE;clear hmbE hsz e0 e1 e2 e3 e4 e5 e6 e7 e8 e9 e10 hmk k3 s1 s2 s3 s4 s5 s6 s7 s8 q1 hcb1;obtain⟨G,hG⟩:=xe (I.bS+4096*a);have GB:=aA (show G+4096<=9223372036854775808/\G=I.bS+4096*a from⟨by have:=HBE.out;have:=HNM.out;have:=HLT.out;omega,hG⟩);obtain⟨a4,ha4⟩:∃ x,x=4096*a:=⟨_,rfl⟩;have A4:=aA (show a4=4096*a/\a4<=4194304 from⟨ha4,by have:=HNP.out;have:=HLT.out;omega⟩);have t1:IntKind.u64.wrap (a:Int)=a:=(by have:=HNP.out;have:=HLT.out;rw[wrap_u64];omega);have t2 : 4096*(a:Int)=a4:=(by omega);have t3:IntKind.u64.wrap (a4:Int)=a4:=(by have:=A4.out;rw[wrap_u64];omega);have t4:(I.bS:Int)+(a4:Int)=G:=(by omega);have t5:IntKind.u64.wrap (G:Int)=G:=(by have:=GB.out;rw[wrap_u64];omega);clear hG ha4;go_loopw [8,9] (fun iv dv W=>∃ (q:Int) (d:Nat),d<=256/\iv=.int .i64 q/\dv=.int .i64 d/\Hid (Kt (fun b=>b=mb) w3 W/\∃ F,kA W mb cn F/\Q9 cn B F nx oka d q)) (fun _ dv _=>(intOf dv).toNat)
   case atStart=>exact⟨p.fs,d0,HCN.out.2.2.2.2.2,rfl,by rw[SD0.out],aA ⟨Kt.refl _ _,_,MB3.out,QST.out⟩⟩
   case round=>
    obtain⟨q,d,hd,rfl,rfl,hJ⟩:=hrel;have KJ:=aA hJ.out.1;obtain⟨-,F,hmF,hQ⟩:=hJ.out;have MF:=aA hmF;have QF:=aA hQ;have KEJ:=aA (show Kt nO w2 wr from k23.out.trans KJ.out (fun _ _ x=>x) (fun b hb e=>by have:=MNE.out;omega));have IMj:=aA (IM2.out.keep KEJ.out);have Xj:=aA ((KEJ.out.block _ (lH X2.out) (fun y=>y)).trans X2.out);have KEE:=aA (nT KE2.out KEJ.out);obtain⟨c0,c1,c2,c3,c4,c5,c6,c7,c8⟩:=IMj.out.cells;obtain⟨e0,e1,e2,e3,e4,e5,e6,e7,e8,e9,e10⟩:=cA Xj.out;clear hJ hmF hQ;by_cases hlt : 0<d
    ·have hdi:(0:Int)<(d:Int):=(by omega);obtain⟨d,rfl⟩:∃ d',d=d'+1:=⟨d-1,by omega⟩;obtain⟨dd,hdd⟩:=xe (d+1);have HD:=aA (show dd=d+1/\dd<=256 from⟨hdd,by omega⟩);have HWD:=aA (show wrap64 (d:Int)=d by rw[wrap64];omega);have u1:(dd:Int)-1=(d:Int):=(by omega);have u2:wrap64 ((dd:Int)-1)=(d:Int):=(by rw[wrap64];omega);rw[<-hdd] at hdi;rw[<-hdd];clear hlt hd hdd;by_cases p1:q<0
     ·have er:=BADA.out (QF.out.bad (fun h=>by omega));clear u1 u2;subst er;go_wp2_with fail;go_ret;exact⟨rfl,nT K0.out KEE.out⟩
     by_cases p2:q<(cn:Int)
     case neg=>
      have er:=BADA.out (QF.out.bad (fun h=>by have:=h.2.1;omega));have q2:(cn:Int)<=q:=(by omega);clear u1 u2;subst er;go_wp2_with fail;go_ret;exact⟨rfl,nT K0.out KEE.out⟩
     obtain⟨i,rfl⟩:=Int.eq_ofNat_of_zero_le (show 0<=q by omega);have hi:i<cn:=(by omega);have g1:¬(i:Int)<0:=(by omega);have g2:¬(cn:Int)<=i:=(by omega);have g3:(i:Int)<cn:=p2;have HI:=aA (show i<cn/\i<256 from⟨hi,by have:=HCN.out.1;omega⟩);obtain⟨b,hb⟩:=xe (B i);have HA:=aA (fun W=>HA9.out i HI.out.2 W);rw[<-hb] at HA;have HB:=aA hb;clear p1 p2 hi hb;go_wp2_with fail;refine(HA.out _).mono ?_;rintro e w4 ⟨rfl,k4⟩;have IM4:=aA (IMj.out.keep k4);have X4:=aA ((k4.block _ (lH Xj.out) (fun y=>y)).trans Xj.out);have MB4:=aA (MF.out.keep k4);have KE4:=aA (nT KEE.out k4);have KJ4:=aA (show Kt (fun b=>b=mb) w3 w4 from KJ.out.trans k4 (fun _ _ x=>x) (fun _ _ x=>x.elim));have K24:=aA (nT KEJ.out k4);clear k4 c0 c1 c2 c3 c4 c5 c6 c7 c8 e0 e1 e2 e3 e4 e5 e6 e7 e8 e9 e10
     cases b with
     | true=>
      have er:=BADA.out (QF.out.bad (fun h=>by have:=h.2.2.1;rw[Int.toNat_natCast,<-HB.out] at this;cases this));clear u1 u2;subst er;go_wp2_with fail;go_ret;exact⟨rfl,nT K0.out KE4.out⟩
     | false=>
      have m0:=MB4.out.cell i HI.out.1;obtain⟨fi,hfi⟩:∃ b,b=F i:=⟨_,rfl⟩;rw[<-hfi] at m0;have HFI:=aA hfi;clear hfi
      cases fi with
      | true=>
       have er:=BADA.out (QF.out.bad (fun h=>by have:=h.2.2.2;rw[Int.toNat_natCast,<-HFI.out] at this;cases this));clear u1 u2;subst er;go_wp2_with fail;go_ret;exact⟨rfl,nT K0.out KE4.out⟩
      | false=>
       have MB5:=aA (MB4.out.put i HI.out.1);have fz:=MB4.out.frz i;have K35:=aA (show Kt (fun b=>b=mb) w3 (w4.setCell ⟨mb,i,none⟩ (.bool true))from KJ4.out.setCell (p:=⟨mb,i,none⟩) rfl _);have K25:=aA (show Kt nO w2 (w4.setCell ⟨mb,i,none⟩ (.bool true))from k23.out.trans K35.out (fun _ _ x=>x) (fun b hb e=>by have:=MNE.out;omega));have IM5:=aA (IM2.out.keep K25.out);have X5:=aA ((K25.out.block _ (lH X2.out) (fun y=>y)).trans X2.out);have KE5:=aA (nT KE2.out K25.out);obtain⟨si,hsi⟩:∃ x,x=sz*i:=⟨_,rfl⟩;have hsb:si+sz<=4096:=by
        have h1:sz*(i+1)<=sz*cn:=Nat.mul_le_mul_left _ HI.out.1;rw[Nat.mul_comm sz cn,HCN.out.2.2.1,Nat.mul_add,Nat.mul_one,<-hsi] at h1;exact h1
       obtain⟨of,hof⟩:∃ x,x=a4+si:=⟨_,rfl⟩;have OFB:=aA (show of+8<=I.nm by have:=HCN.out;have:=HNM.out;have:=A4.out;have:=HLT.out;omega);have v1:IntKind.u64.wrap (i:Int)=i:=(by have:=HI.out;rw[wrap_u64];omega);have v2:(sz:Int)*(i:Int)=si:=(by rw[hsi,Int.natCast_mul]);have v3:IntKind.u64.wrap (si:Int)=si:=(by rw[wrap_u64];omega);have v4:(a4:Int)+(si:Int)=of:=(by omega);have v5:IntKind.u64.wrap (of:Int)=of:=(by have:=A4.out;rw[wrap_u64];omega);have WDi:=aA (fun W hW=>WD.out of OFB.out W hW);have WLi:=aA (WLT.out of OFB.out);obtain⟨x,hx⟩:=xe (M.word I.mem of);have HX:=aA (show x=M.word I.mem (4096*a+sz*i)by rw[hx,hof,hsi,A4.out.1]);rw[<-hx] at WDi WLi;have HB2:=aA HB.out.symm;have HF2:=aA HFI.out.symm;clear hsi hsb hof hx HB HFI;go_upto_region 16 with fail;refine jQ (P:=fun W=>Code.wp prog _ _ _ W) _ ?_;intro w5 hw5;rw[<-hw5] at MB5 K35 K25 IM5 X5 KE5;clear hw5 m0 fz MB4 KE4 KJ4 K24 IM4 X4;obtain⟨c0,c1,c2,c3,c4,c5,c6,c7,c8⟩:=IM5.out.cells;go_wp2_with fail;refine(WDi.out _ IM5.out.d).mono ?_;rintro e w6 ⟨rfl,k6⟩;have K36:=aA (show Kt (fun b=>b=mb) w3 w6 from K35.out.trans k6 (fun _ _ x=>x) (fun _ _ x=>x.elim));have MB6:=aA (MB5.out.keep k6);have IM6:=aA (IM5.out.keep k6);have KE6:=aA (nT KE5.out k6);clear k6 c0 c1 c2 c3 c4 c5 c6 c7 c8 v1 v2 v3 v4 v5;go_wp2_with fail;go_loopw [11,12] (fun nv jv W=>∃ (v:Int) (j:Nat),j<=cn/\nv=.int .i64 v/\jv=.int .i64 j/\Hid (Kt nO w6 W/\pC G sz x j v)) (fun _ jv _=>cn-(intOf jv).toNat)
       case atStart=>exact⟨-1,0,Nat.zero_le _,rfl,rfl,aA ⟨Kt.refl _ _,.inl ⟨rfl,fun i hi=>by omega⟩⟩⟩
       case round=>
        obtain⟨v,j,hj,rfl,rfl,hS⟩:=hrel;have KS:=aA hS.out.1;have SE:=aA hS.out.2;have IMs:=aA (IM6.out.keep KS.out);obtain⟨c0,c1,c2,c3,c4,c5,c6,c7,c8⟩:=IMs.out.cells;clear hS;by_cases hlt:j<cn
        ·have hji:(j:Int)<cn:=(by omega);have HJ:=aA (show j<cn/\j<256 from⟨hlt,by have:=HCN.out.1;omega⟩);obtain⟨sj,hsj⟩:∃ x,x=sz*j:=⟨_,rfl⟩;have hsb:sj+sz<=4096:=by
          have h1:sz*(j+1)<=sz*cn:=Nat.mul_le_mul_left _ hlt;rw[Nat.mul_comm sz cn,HCN.out.2.2.1,Nat.mul_add,Nat.mul_one,<-hsj] at h1;exact h1
         obtain⟨y,hy⟩:=xe (G+sj);have v1:IntKind.u64.wrap (j:Int)=j:=(by have:=HJ.out;rw[wrap_u64];omega);have v2:(sz:Int)*(j:Int)=sj:=(by rw[hsj,Int.natCast_mul]);have v3:IntKind.u64.wrap (sj:Int)=sj:=(by rw[wrap_u64];omega);have v4:(G:Int)+(sj:Int)=y:=(by omega);have v5:IntKind.u64.wrap (y:Int)=y:=(by have:=GB.out;rw[wrap_u64];omega);have HW7:=aA (show wrap64 ((j:Int)+1)=((j+1:Nat):Int)by have:=HJ.out;rw[wrap64];omega);have YE:=aA (show y=G+sz*j by rw[hy,hsj]);clear hlt hj hsj hsb hy;by_cases hxy:x=y
         ·have g5:((x:Int) == (y:Int))=true:=(by rw[beq_iff_eq];omega);have S1:=aA (show pC G sz x (j+1) (j:Int)from .inr ⟨j,rfl,by omega,by rw[hxy,YE.out]⟩);clear hxy;go_wp2_with fail;exact⟨⟨(j:Int),j+1,HJ.out.1,rfl,by first|go_num|rw[HW7.out],aA ⟨KS.out,S1.out⟩⟩,by have:=HJ.out;first|(simp[intOf];omega)|(rw[HW7.out];simp only[intOf,Int.toNat_natCast];omega)⟩
         ·have g5:((x:Int) == (y:Int))=false:=(by rw[beq_eq_false_iff_ne];omega);have S1:=aA (show pC G sz x (j+1) v from by
           rcases SE.out with ⟨h1,h2⟩|⟨i,h1,h2,h3⟩
           ·refine .inl ⟨h1,fun i hi=>?_⟩;by_cases e:i=j
            ·subst e;rw[<-YE.out];exact hxy
            ·exact h2 i (by omega)
           ·exact .inr ⟨i,h1,by omega,h3⟩)
          clear hxy;go_wp2_with fail;exact⟨⟨v,j+1,HJ.out.1,rfl,by first|go_num|rw[HW7.out],aA ⟨KS.out,S1.out⟩⟩,by have:=HJ.out;first|(simp[intOf];omega)|(rw[HW7.out];simp only[intOf,Int.toNat_natCast];omega)⟩
        ·have hji:¬(j:Int)<cn:=(by omega);obtain⟨f1,f2,f3,f4⟩:=SEN.out i G x v GB.out.2 HX.out (by rw[show cn=j by omega];exact SE.out);have MB7:=aA (MB6.out.keep KS.out);have K37:=aA (show Kt (fun b=>b=mb) w3 wr from K36.out.trans KS.out (fun _ _ x=>x) (fun _ _ x=>x.elim));have KE7:=aA (nT KE6.out KS.out);clear hlt hj SE;by_cases x0:x=0
         ·have g6:((x:Int) != 0)=false:=(by rw[bne_eq_false_iff_eq];omega);obtain⟨f5,f6⟩:=f1 x0;have Q7:=aA (QF.out.some HI.out.1 HB2.out HF2.out f6);clear f1 f2 f3 f4 f6 x0;subst f5;go_wp2_with fail;go_round
          case rel=>exact⟨-1,d,by have:=HD.out;omega,rfl,by first|rfl|rw[HWD.out]|go_num,aA ⟨K37.out,_,MB7.out,Q7.out⟩⟩
          case measure=>have:=HD.out;first|(rw[HWD.out];simp only[intOf,Int.toNat_natCast];omega)|(simp only[intOf,Int.toNat_natCast];omega)|(simp[intOf];omega)
         ·have g6:((x:Int) != 0)=true:=(by rw[bne_iff_ne];omega);by_cases v0:v<0
          ·have er:=BADA.out (QF.out.none HI.out.1 HB2.out HF2.out (f2 x0 (by omega)));clear f1 f2 f3 f4 x0 u1 u2;subst er;go_wp2_with fail;go_ret;exact⟨rfl,nT K0.out KE7.out⟩
          ·have Q7:=aA (QF.out.some HI.out.1 HB2.out HF2.out (f3 x0 (by omega)));clear f1 f2 f3 f4 x0;go_wp2_with fail;go_round
           case rel=>exact⟨v,d,by have:=HD.out;omega,rfl,by first|rfl|rw[HWD.out]|go_num,aA ⟨K37.out,_,MB7.out,Q7.out⟩⟩
           case measure=>have:=HD.out;first|(rw[HWD.out];simp only[intOf,Int.toNat_natCast];omega)|(simp only[intOf,Int.toNat_natCast];omega)|(simp[intOf];omega)
    ·have hdi:¬(0:Int)<(d:Int):=(by omega);obtain rfl:d=0:=(by omega);by_cases q0:q = -1
     case neg=>
      have g1:(q != -1)=true:=(by rw[bne_iff_ne];exact q0);have er:=BADA.out (by rw[QF.out.fin,decide_eq_false q0]);clear q0;subst er;go_wp2_with fail;go_ret;exact⟨rfl,nT K0.out KEE.out⟩
     have g1:(q != -1)=false:=(by rw[bne_eq_false_iff_eq];exact q0);have EO:=aA (NEXT.out (by rw[QF.out.fin,decide_eq_true q0]));clear q0;go_wp2_with fail;go_round
     case rel=>exact⟨a+1,by have:=HLT.out;omega,by first|go_num|rw[HW.out],aA ⟨KEE.out,EO.out⟩⟩
     case measure=>have:=HLT.out;have:=HNP.out;first|(simp[intOf];omega)|(rw[HW.out];simp only[intOf,Int.toNat_natCast];omega)
  ·have hai:¬(a:Int)<I.np:=(by omega);have er:=GOOD.out (fun j hj=>hG.out.2 j (by omega));subst er;go_wp2_with fail;go_ret;exact⟨rfl,nT K0.out hG.out.1⟩
end Go.Proofs.YtkfmheelhinjdaaGreatDoor.W
