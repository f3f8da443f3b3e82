import Derived.Test.YtkfmheelhinjdaaGreatDoorZb
import Derived.Test.YtkfmheelhinjdaaGreatDoorZf
import Derived.Test.YtkfmheelhinjdaaGreatDoorWd
import Derived.Test.YtkfmheelhinjdaaGreatDoorXk
set_option maxRecDepth 1000000
set_option maxHeartbeats 80000000
namespace Go.Proofs.YtkfmheelhinjdaaGreatDoor
open Tryz
open Go.RowKit
set_option linter.unusedVariables false
theorem YH(x:Bx)(t:Bt)(p:Nat){w:World}(h:BdAt w x t):fU x t p<=1024:=by
 unfold fU;have:=h.mp.n1;split
 ·next c=>have:=c.2;omega
 ·omega
theorem YG(x:Bx)(t:Bt)(p k:Nat)(hp:p<18446744073709551616)(hl:lA x t p (k:Int)=true)(w:World)(h:BdAt w x t):
  Calls prog 263 #[.pointer (some ⟨x.b,0,none⟩),.int .u64 p,.int .i64 k] w fun e w'=>∃ tr pr kr,(tr,pr,kr)=gO x (x.o-k) t (fU x t p) k/\e=.returned (.int .i64 (gK x tr pr kr:Int))/\BdAt w' x (eN x tr pr kr)/\Kt (aC x) w w':=by
 have LV:=aA (VG x t p k hp w h);have hk:k<=x.o:=by
  unfold lA at hl;simp only[Bool.and_eq_true] at hl;have:=hl.1.2;simp only[aB,decide_eq_true_eq] at this;omega
 rw[hl] at LV;have hpi:=YH x t p h;have H:=aA h;clear h hl;obtain⟨q,hq⟩:=xe (fU x t p);rw[<-hq] at LV hpi ⊢;clear hq;go_enter func263,ntmps263;go_wp2_with fail;refine LV.out.mono ?_;rintro e w1 ⟨rfl,hk1⟩;have K:=aA hk1;have H1:=aA (H.out.keep hk1);clear hk1 LV;go_wp2_with fail;refine(VB x t q k hpi hk _ H1.out).mono ?_;rintro e w2 ⟨tr,pr,kr,he,rfl,hB,hK⟩;have D:=aA (show(tr,pr,kr)=gO x (x.o-k) t q k/\BdAt w2 x (eN x tr pr kr)/\Kt (aC x) w w2 from⟨he,hB,eR (kP K.out) hK⟩);clear he hB hK;go_wp2_with fail;go_ret;exact⟨tr,pr,kr,D.out.1,rfl,D.out.2⟩
def nU(x:Bx)(t:Bt):Prop:=x.n≠0/\t.m.n*4096=x.n
def bB(x:Bx):Nat:=x.n/4096-2 ^ x.o
theorem vU{w x t}(h:BdAt w x t):∃ k,x.n=k*(4096*2 ^ x.o)/\k<=64/\x.n/x.R=k:=by
 obtain⟨k,hk,hl⟩:=h.sp.kn;have h2:=h.sp.cfg.l2;have hp : 0<4096*2 ^ x.o:=Nat.mul_pos (by decide) (Nat.pow_pos (by decide));rw[h.hR] at hk;exact⟨k,hk,by omega,by rw[h.hR,hk,Nat.mul_div_cancel _ hp]⟩
theorem UH(x:Bx)(t:Bt)(hn:nU x t)(w:World)(h:BdAt w x t):
  Calls prog 262 #[.pointer (some ⟨x.b,0,none⟩)] w fun e w'=>e=.returned (.tuple #[.int .i64 (bB x:Int),.bool true])/\Kt nO w w':=by
 obtain⟨k,hk,hk64,hkr⟩:=vU h;have ho:=h.o8;have hn1:=h.mp.n1;have c1:=h.b1;have H:=aA h;obtain⟨z,hz⟩:=xe (2 ^ x.o);have hzi:(2:Int) ^ x.o=(z:Int):=by rw[hz];simp
 have hz1 : 1<=z:=by rw[hz];exact Nat.pow_pos (by decide)
 have hz2:z<=256:=by rw[hz];exact Nat.pow_le_pow_right (n:=2) (by decide) ho
 have hnx:x.n=k*z*4096:=by rw[hk,hz,Nat.mul_comm 4096,Nat.mul_assoc]
 have hk0:k≠0:=fun e=>hn.1 (by rw[hk,e];simp)
 obtain⟨j,rfl⟩:∃ j,k=j+1:=⟨k-1,by omega⟩;obtain⟨kz,hkz⟩:=xe ((j+1)*z);obtain⟨jz,hjz⟩:=xe (j*z);have hsum:kz=jz+z:=by rw[hkz,hjz,Nat.add_mul,Nat.one_mul]
 have hkzl:kz<=16384:=by rw[hkz];exact Nat.mul_le_mul hk64 hz2
 have hmul:((j:Int)+1)*(z:Int)=kz:=by rw[hkz];simp
 have hmulj:(j:Int)*(z:Int)=jz:=by rw[hjz];simp
 rw[<-hkz] at hnx;have hmn:(t.m.n:Int)=kz:=by have:=hn.2;omega
 have HJW:=aA (show wrap64 (jz:Int)=jz by simp only[wrap64];omega);have hb0:(((j:Int)+1) == 0)=false:=beq_eq_false_iff_ne.2 (by omega);have hb1:((t.m.n:Int) != (kz:Int))=false:=by simp[hmn]
 rw[show bB x=jz by unfold bB;rw[<-hz];omega];have RG:=aA (M.regions_any x.s x.a x.bS x.R x.lim x.n t.f w h.sp);rw[hkr] at RG;clear h hz hkz hjz hnx hn hk hk0 hsum;go_enter func262,ntmps262;go_wp2_with fail;refine RG.out.mono ?_;rintro e w1 ⟨rfl,d,hw1⟩;have K:=aA (show Kt nO w w1 by rw[hw1];exact(Kt.refl nO w).drewN d);have H1:=aA (H.out.keep K.out);have c2:=H1.out.b2;clear hw1 c1;go_wp2_with fail;refine(uR x.m x.B t.m _ H1.out.mp).mono ?_;rintro e w2 ⟨rfl,hw2⟩;rw[hw2];clear hw2;go_wp2_with fail;refine(sH x t _ H1.out).mono ?_;rintro e w2 ⟨rfl,hw2⟩;rw[hw2];clear hw2;go_wp2_with fail;refine(sH x t _ H1.out).mono ?_;rintro e w2 ⟨rfl,hw2⟩;rw[hw2];clear hw2;go_wp2_with fail;exact⟨rfl,.tuple #[.int .i64 jz,.bool true],by simp[results,results262,go_sem];exact HJW.out,rfl,K.out⟩
theorem UG{w x t}(h:BdAt w x t)(hn:nU x t):bB x<=1024/\ad x (bB x)<18446744073709551616:=by
 have h1:=h.mp.n1;have h2:=hn.2;have h3:bB x<=1024:=by unfold bB;exact Nat.le_trans (Nat.sub_le _ _) (by omega)
 have h4:=h.end63;exact⟨h3,by unfold ad;omega⟩
theorem YF(x:Bx)(t:Bt)(hn:nU x t)(hl:lA x t (ad x (bB x)) (x.o:Int)=true)(he:gK x t (fU x t (ad x (bB x))) x.o=0)(w:World)(h:BdAt w x t):
  Calls prog 211 #[.pointer (some ⟨x.b,0,none⟩)] w fun e w'=>e=.returned (.int .i64 0)/\BdAt w' x (eN x t (fU x t (ad x (bB x))) x.o)/\Kt (aC x) w w':=by
 have H:=aA h;have TP:=aA (UH x t hn w h);obtain⟨h1,h2⟩:=UG h hn;obtain⟨p,hp⟩:=xe (bB x);rw[<-hp] at TP h1 h2 hl he ⊢;have AD:=aA (show ∀ W,BdAt W x t->Calls prog 264 #[.pointer (some ⟨x.b,0,none⟩),.int .i64 p] W fun e w'=>e=.returned (.int .u64 ((ad x p:Nat):Int))/\w'=W from fun W hW=>qD x t p (by omega) W hW);have GV:=aA (show ∀ W,BdAt W x t->Calls prog 263 #[.pointer (some ⟨x.b,0,none⟩),.int .u64 ((ad x p:Nat):Int),.int .i64 x.o] W fun e w'=>e=.returned (.int .i64 0)/\BdAt w' x (eN x t (fU x t (ad x p)) x.o)/\Kt (aC x) W w' from fun W hW=>(YG x t (ad x p) x.o h2 hl W hW).mono (by
  rintro e w' ⟨tr,pr,kr,hj,rfl,hB,hK⟩;rw[Nat.sub_self,gO] at hj
  cases hj
  rw[he];exact⟨rfl,hB,hK⟩))
 obtain⟨a,ha⟩:=xe (ad x p);rw[<-ha] at AD GV ⊢;clear h hn hl hp ha h2 he;go_enter func211,ntmps211;go_wp2_with fail;refine TP.out.mono ?_;rintro e w1 ⟨rfl,hk⟩;have K:=aA hk;have H1:=aA (H.out.keep hk);clear hk;go_wp2_with fail;refine(AD.out _ H1.out).mono ?_;rintro e w2 ⟨rfl,hw2⟩;rw[hw2];clear hw2;go_wp2_with fail;refine(sH x t _ H1.out).mono ?_;rintro e w2 ⟨rfl,hw2⟩;rw[hw2];clear hw2;go_wp2_with fail;refine(GV.out _ H1.out).mono ?_;rintro e w3 ⟨rfl,hB,hK⟩;have D:=aA (And.intro hB (eR (kP K.out) hK));clear hB hK;go_wp2_with fail;go_ret;exact⟨rfl,D.out⟩
def iI(x:Bx)(t:Bt):List Nat:=(List.range (x.o+1)).map t.hd
theorem zg1(x:Bx)(t:Bt):(iI x t).length=x.o+1:=by simp[iI]
theorem zeN{w:World}{g:Nat}{zs:List Nat}(hg:w.heap[g]?=some (.cells (bI zs) 27 (0,0)))(q y:Nat):(w.setCell ⟨g,q,none⟩ (.int .u64 y)).heap[g]?=some (.cells (bI (zs.set q y)) 27 (0,0)):=by
 rw[heap_set hg q (.int .u64 y)];simp[bI,List.map_set]
def jQ(x:Bx)(t:Bt)(k:Nat):List Nat:=(List.range (x.o+1)).map fun j=>if j<k then t.hd j else 0
theorem zg2(x:Bx)(t:Bt)(k:Nat):(jQ x t k).set k (t.hd k)=jQ x t (k+1):=by
 apply List.ext_getElem
 ·simp[jQ]
 ·intro i h1 h2;rw[List.getElem_set];simp only[jQ,List.getElem_map,List.getElem_range];by_cases e:k=i
  ·subst e;rw[if_pos rfl,if_pos (by omega)]
  ·rw[if_neg e];by_cases h:i<k
   ·rw[if_pos h,if_pos (by omega)]
   ·rw[if_neg h,if_neg (by omega)]
theorem zhI(x:Bx)(t:Bt)(w:World)(h:BdAt w x t):
  Calls prog 41 #[.pointer (some ⟨x.b,0,none⟩)] w fun e w'=>e=.returned (.slice (some ⟨w.heap.size,0,none⟩) (x.o+1) (x.o+1))/\w'.heap[w.heap.size]?=some (.cells (bI (iI x t)) 27 (0,0))/\Kt nO w w':=by
 have ho:=h.o8;have c3:=h.b3;have H:=aA h;obtain⟨N,hN⟩:=xe (x.o+1);have hNi:((x.o:Int)+1)=(N:Int):=by omega
 rw[<-hN] at c3 ⊢;obtain⟨w1,hmk,hg1,hk1,hs1⟩:=uD N (by omega) w;have D1:=aA (show w1.heap[w.heap.size]?=some (.cells (bI (jQ x t 0)) 27 (0,0))/\Kt nO w w1 from⟨by rw[hg1,hN];simp[jQ,dR,List.map_const'],hk1⟩);have HN:=aA hN;have c3':=hk1.cell (fun x=>x) c3;clear h hg1 hk1 hs1 hN;go_enter func41,ntmps41;go_wp2_with fail;go_loopw [17] (fun i W=>∃ k:Nat,k<=N/\i=.int .i64 k/\Hid (W.heap[w.heap.size]?=some (.cells (bI (jQ x t k)) 27 (0,0))/\Kt nO w W)) (fun i _=>N-(intOf i).toNat)
 case atStart=>exact⟨0,by omega,rfl,D1⟩
 case round=>
  clear hmk c3' D1 c3;obtain⟨k,hk,rfl,hX⟩:=hrel;by_cases hlt:k<N
  ·have hki:(k:Int)<N:=(by omega);have hko:k<=x.o:=(by have:=HN.out;omega);have H1:=aA (H.out.keep hX.out.2);have cl:=H1.out.lc k hko;have HD:=aA (M.Head_any (x.L k) x.s (t.hd k) wr (H1.out.ls k hko));have fz:∀ j,wr.frozen? ⟨w.heap.size,j,none⟩=false:=fun j=>by simp[World.frozen?,hX.out.1]
   have cz:wr.cell? ⟨w.heap.size,k,none⟩=some (.int .u64 0):=by
    simp[World.cell?,hX.out.1,bI,jQ,show k<x.o+1 by omega]
   have D2:=aA (show(wr.setCell ⟨w.heap.size,k,none⟩ (.int .u64 (t.hd k:Int))).heap[w.heap.size]?=some (.cells (bI (jQ x t (k+1))) 27 (0,0))/\Kt nO w (wr.setCell ⟨w.heap.size,k,none⟩ (.int .u64 (t.hd k:Int)))from⟨by rw[zeN hX.out.1,zg2],hX.out.2.setNew (p:=⟨w.heap.size,k,none⟩) (fun e=>absurd e (Nat.lt_irrefl _)) _⟩);go_wp2_with fail;refine HD.out.mono ?_;rintro e w2 ⟨rfl,hw2⟩;rw[hw2];clear hw2;go_wp2_with fail;exact⟨⟨k+1,by omega,by simp,D2⟩,by simp[intOf];omega⟩
  ·have hki:¬(k:Int)<N:=(by omega);have D:=aA (show wr.heap[w.heap.size]?=some (.cells (bI (iI x t)) 27 (0,0))/\Kt nO w wr from⟨by
    rw[hX.out.1];have hkN:k=x.o+1:=(by have:=HN.out;omega);have:jQ x t k=iI x t:=by
     rw[hkN];unfold jQ iI;apply List.map_congr_left
     intro j hj;rw[if_pos (List.mem_range.1 hj)]
    rw[this],hX.out.2⟩)
   clear hX;go_wp2_with fail;go_ret;exact⟨rfl,D.out⟩
end Go.Proofs.YtkfmheelhinjdaaGreatDoor
namespace Go.Proofs.YtkfmheelhinjdaaGreatDoor.W
open Tryz
open Go.RowKit
set_option linter.unusedVariables false
theorem zcQ(b:Nat)(I:Img)(V:ImV)(k r:Nat)(hS:Sn9 I k r)(w:World)(hI:ImAt w b I V):
  Calls prog 172 #[.pointer (some ⟨b,0,none⟩)] w fun e w'=>e=aZ (fst1 (k+1) (ok8 I))/\Kt nO w w':=by
 obtain⟨-,-,-,⟨ha,hc,hh⟩,-,-,-,-,-⟩:=hI.d.sl;obtain⟨c0,c1,c2,c3,c4,c5,c6,c7,c8⟩:=hI.cells;rw[hh] at c7;have hhs:=hI.d.hds;rw[hh] at hhs;obtain⟨bl,o,rfl,hbl,hhc⟩:=hhs.at 0 (by rw[hS.hl];omega);obtain⟨EE,hEE⟩:=xe (aZ (fst1 (k+1) (ok8 I)));rw[<-hEE];have HE:=aA hEE;have HI:=aA hI;have HS:=aA hS;rw[hS.hl] at c7 hhc;have HHC:=aA hhc;have hk8:=hS.k8;have hnp:=hS.np1;have hmf:∀ (fn:Fn) (first cap:Array Value) (w:World),(Instr.makeFunc fn first cap).run prog w=.ok (.func fn first cap) w:=fun _ _ _ _=>rfl
 obtain⟨K,hK⟩:=xe (k+1);rw[<-hK] at c7;have HKK:=aA hK;have hK9:K<=9:=by omega
 clear hEE hI hS hh hhs hhc hK hbl;go_enter func172,ntmps172;go_wp2_with fail;go_loopw [11] (fun i W=>∃ a:Nat,a<=K/\i=.int .i64 a/\Hid (Kt nO w W/\∀ x,x<a->ok8 I x=true)) (fun i _=>K-(intOf i).toNat)
 case atStart=>exact⟨0,Nat.zero_le _,rfl,aA ⟨Kt.refl _ _,fun x hx=>by omega⟩⟩
 case round=>
  clear c0 c1 c2 c3 c4 c5 c6 c7 c8;obtain⟨a,ha',rfl,hR⟩:=hrel;by_cases hlt:a<K
  ·have hai:(a:Int)<K:=(by omega);obtain⟨hp64,hpc⟩:=HHC.out a (by rw[<-HKK.out];exact hlt);have d0:=hR.out.1.cell (fun x=>x) hpc;obtain⟨p,hp⟩:=xe (I.hd.getD a 0);rw[<-hp] at d0 hp64;have FB:=aA (show ok8 I a=false->bM (a:Int)=EE from fun h=>by rw[HE.out,fG (by rw[<-HKK.out];exact hlt) hR.out.2 h];rfl);have GA:=aA (show ok8 I a=true->∀ x,x<a+1->ok8 I x=true from fun h x hx=>by
    by_cases e:x=a
    ·rw[e];exact h
    ·exact hR.out.2 x (by omega))
   have OK:=aA (show bO (decP I) 0 (fun i=>M.word I.mem (4096*i)) (fun i=>M.word I.mem (4096*i+8)) ((pgL I fun p=>isF p (a:Int)).length+1) (pgL I fun p=>isF p (a:Int)) p 0=ok8 I a by rw[hp];rfl);generalize ok8 I a=okv at *;have B1:=aA (show(wr.alloc (.cells #[.int .i64 a] 3 (0,0))).heap[wr.heap.size]?=some (.cells #[.int .i64 a] 3 (0,0))from nH _ _);have K1:=aA (show Kt nO w (wr.alloc (.cells #[.int .i64 a] 3 (0,0)))from hR.out.1.alloc _);have SZ:=aA (show wr.heap.size<(wr.alloc (.cells #[.int .i64 a] 3 (0,0))).heap.size by simp);clear hp hpc;go_wp2_with fail;generalize wr.alloc (.cells #[.int .i64 a] 3 (0,0))=W1 at *;generalize wr.heap.size=cb at *;refine(LU b cb I V (fun p=>isF p (a:Int)) W1 (HI.out.keep K1.out) hnp (fun i W hi hk=>LF cb a (I.pg i) W ((hk.block _ (lH B1.out) (fun x=>x)).trans B1.out))).mono ?_;rintro e w2 ⟨sb,sc,ws,rfl,hst,hge1,hge2,hbt,hk2⟩;have LL:=aA (show L8 w w2 cb sb sc I.np a ws (pgL I fun p=>isF p (a:Int))from⟨(hk2.block _ (lH B1.out) (fun x=>x)).trans B1.out,hst,Nat.le_trans K1.out.size hge2,by have:=SZ.out;omega,nT K1.out hk2,pgL_nodup _ _,fun i hi=>by
    rw[hbt i hi,Bool.eq_iff_iff,decide_eq_true_eq,pgL_mem];exact⟨fun h=>⟨hi,h⟩,fun h=>h.2⟩,fun i hi=>(pgL_mem.1 hi).1⟩)
   clear hst hge1 hge2 hbt hk2 d0 B1 K1 SZ;go_wp2_with fail;go_loopw [3,5] (fun pv bv W=>∃ p q:Nat,pv=.int .u64 p/\bv=.int .u64 q/\p<18446744073709551616/\q<18446744073709551616/\Hid (∃ ws l,L8 w W cb sb sc I.np a ws l/\bO (decP I) 0 (fun i=>M.word I.mem (4096*i)) (fun i=>M.word I.mem (4096*i+8)) (l.length+1) l p q=okv)) (fun _ _ W=>aU (cB W sc))
   case atStart=>exact⟨p,0,rfl,rfl,hp64,by decide,aA ⟨_,_,LL.out,OK.out⟩⟩
   case round=>
    clear LL OK hp64;obtain⟨p,q,rfl,rfl,hp64,hq64,hL⟩:=hrel;obtain⟨ws,l,hl,hok⟩:=hL.out;have LL:=aA hl;have OK:=aA hok;clear hL hl hok;by_cases hp0:p=0
    ·have hp0':((p:Int) != 0)=false:=(by rw[hp0];rfl);have OK2:=aA (show okv=decide (aU ws=0)by rw[<-OK.out,hp0,zK,LL.out.empty]);obtain⟨cw,hcw⟩:=xe (aU ws);have HCT:=aA (fun (x:KW wr)=>sJ sb sc I.np ws x.v (LL.out.keep x.k).st);rw[<-hcw] at HCT OK2;have c0:∀ x:KW wr,x.v.cell? ⟨cb,0,none⟩=some (.int .i64 a):=fun x=>by simp[World.cell?,(LL.out.keep x.k).bx]
     clear hp0 hcw;by_cases g:cw=0
     case neg=>
      have R2:=aA (FB.out (by rw[OK2.out,decide_eq_false g]));have f4:((cw:Int) == 0)=false:=(by rw[beq_eq_false_iff_ne];omega);clear g;go_wp2_with fail;refine fY (by kernel_rfl) (by kernel_rfl) (by exact List.cons_ne_nil _ _) ?_;dsimp only[List.dropLast,List.getLast];repeat (go_big_quiet_step (first|(go_at_call 218;exact Calls.kept_of ((HCT.out _).mono fun _ _ ⟨h1,h2⟩=>⟨h1,h2▸Kt.refl _ _⟩))))
      refine wpQuiet_nil ?_;refine⟨rfl,?_⟩;rintro _ ⟨x,rfl⟩;exact fX (p:=(a:Int)) rfl rfl rfl fun _ hd=>⟨hd,R2.out,nT LL.out.k x.k⟩
     have R2:=aA (GA.out (by rw[OK2.out,decide_eq_true g]));have f4:((cw:Int) == 0)=true:=(by rw[beq_iff_eq];omega);have HMY:=aA (fun W=>cK (a:Int) W);clear g;go_wp2_with fail;refine bU (by kernel_rfl) (by kernel_rfl) ?_;repeat (go_big_quiet_step (first|(go_at_call 218;exact Calls.kept_of ((HCT.out _).mono fun _ _ ⟨h1,h2⟩=>⟨h1,h2▸Kt.refl _ _⟩))|(go_at_call 212;exact Calls.kept_of ((HMY.out _).mono fun _ _ ⟨h1,h2⟩=>⟨h1,h2▸Kt.refl _ _⟩))))
     refine wpQuiet_nil ?_;intro x;have R3:=aA (show Kt nO w x.v/\_ from⟨nT LL.out.k x.k,R2.out⟩);clear c0;go_wp2_with fail;go_round
     case rel=>exact⟨a+1,by omega,by go_num,R3⟩
     case measure=>simp[intOf];omega
    ·have hp0':((p:Int) != 0)=true:=(by rw[bne_iff_ne];omega);have IM:=aA (HI.out.keep LL.out.k);have HPA:=aA (fun (x:KW wr)=>zhE b I V p hp64 x.v (IM.out.keep x.k) HS.out.be);have INS:=aA (LL.out.ins (decP I p) (fun i h=>(pC HS.out h).1));obtain⟨di,hdi⟩:=xe (gE (decP I p));rw[<-hdi] at HPA INS;have HDI:=aA hdi;have c0:∀ x:KW wr,x.v.cell? ⟨cb,0,none⟩=some (.int .i64 a):=fun x=>by simp[World.cell?,(LL.out.keep x.k).bx]
     clear hdi
     cases hin:cA I.np ws di with
     | false=>
      have R2:=aA (FB.out (by
       rw[<-OK.out];refine rL hp0 fun i hi=>.inl fun hm=>?_
       have:=INS.out;rw[hi,hin] at this;exact absurd hm (of_decide_eq_false this.symm)))
      have HIN:=aA hin;clear hin hp0;go_wp2_with fail;refine fY (by kernel_rfl) (by kernel_rfl) (by exact List.cons_ne_nil _ _) ?_;dsimp only[List.dropLast,List.getLast];repeat (go_big_quiet_step (first|(go_at_call 226;exact Calls.kept_of ((HPA.out _).mono fun _ _ ⟨h1,h2⟩=>⟨h1,h2▸Kt.refl _ _⟩))))
      refine wpQuiet_nil ?_;refine⟨rfl,?_⟩;rintro _ ⟨x,rfl⟩;exact zik (p:=(a:Int)) rfl rfl rfl rfl (LL.out.keep x.k).st HIN.out fun _ hd=>⟨hd,R2.out,nT LL.out.k x.k⟩
     | true=>
      have hex:∃ i,decP I p=some i/\i∈l:=by
       have:=INS.out;rw[hin] at this
       cases hd:decP I p with
       | none=>rw[hd] at this;cases this
       | some i=>rw[hd] at this;exact⟨i,rfl,of_decide_eq_true this.symm⟩
      obtain⟨i,hi,hil⟩:=hex;obtain⟨hin1,hpi,-⟩:=pC HS.out hi;have hdi:di=(i:Int):=(by rw[HDI.out,hi];rfl);subst hdi;have HIN:=aA hin;have HIL:=aA hil;have HD:=aA (show decP I p=some i/\p≠0 from⟨hi,hp0⟩);have HPI:=aA hpi;have HI1:=aA hin1;clear hin hil hi hpi hin1 hp0;go_wp2_with fail;have HPA2:=aA (show Calls prog 226 #[.pointer (some ⟨b,0,none⟩),.int .u64 p] wr.drew fun e w'=>e=.returned (.int .i64 i)/\w'=wr.drew from(HPA.out ⟨wr.drew,(Kt.refl nO wr).drew⟩));have HME:=aA (uM sb sc I.np ws (i:Int) (a:Int) wr.drew (LL.out.keep (Kt.refl nO wr).drew).st HIN.out);have y0:wr.drew.cell? ⟨cb,0,none⟩=some (.int .i64 a):=c0 ⟨wr.drew,(Kt.refl nO wr).drew⟩;clear c0;go_cut [26] (fun v W=>Hid (SetAt W sb sc I.np (bN I.np ws (i:Int) false)/\Kt (fun x=>x=sc) wr.drew W/\W.heap.size=wr.drew.heap.size))
      case first=>
       go_region_held3 (fun w'=>w'.cell? ⟨cb,0,none⟩=some (.int .i64 a)) (first|with_reducible exact y0|with_reducible exact y1) (first|(go_at_call 226;with_reducible refine HPA2.out.mono ?_;rintro e w1 ⟨rfl,rfl⟩)|(go_at_call 225;with_reducible refine HME.out.mono ?_;rintro e w1 ⟨rfl,h1,h2,h3⟩;have M1:=aA (show SetAt w1 sb sc I.np (bN I.np ws (i:Int) false)/\Kt (fun x=>x=sc) wr.drew w1/\w1.heap.size=wr.drew.heap.size from⟨h1,h2,h3⟩);have y1:w1.cell? ⟨cb,0,none⟩=some (.int .i64 a):=h2.cell LL.out.ne y0;clear h1 h2 h3)|fail)
       all_goals (go_wp2_with fail;go_meet;exact M1)
      case rest=>
      rename_i wc _;have MC:=aA hcut.out;clear hcut;have LM:=aA (show L8 w wc cb sb sc I.np a (bN I.np ws (i:Int) false) (l.erase i)from(LL.out.keep (Kt.refl nO wr).drew).met MC.out.2.1 HIL.out MC.out.1);have MSR:=aA (show aU (cB wc sc)<aU (cB wr sc)by
       rw[iE LM.out.st,iE LL.out.st];have hb:aD ws i=true:=(by rw[LL.out.mem i HI1.out];exact decide_eq_true HIL.out);have:=uG LL.out.st LM.out.st HI1.out hb;omega)
      have IM2:=aA (HI.out.keep LM.out.k);have hqn : 4096*i+8+8<=I.nm:=(by have:=HS.out.nm;have:=HI1.out;omega);have HW8:=aA (fun (x:KW wc)=>uN b I V (4096*i+8) x.v (IM2.out.keep x.k) hqn HS.out.be);have HW0:=aA (fun (W:World) (hW:Kt nO wc W)=>uN b I V (4096*i) W (IM2.out.keep hW) (by omega) HS.out.be);have hpb:p<9223372036854775808:=(by have:=HPI.out;have:=HS.out.be;omega);have e8:((I.bS+(4096*i+8):Nat):Int)=(p:Int)+8:=(by have:=HPI.out;omega);have e0:((I.bS+4096*i:Nat):Int)=(p:Int):=(by have:=HPI.out;omega);rw[e8] at HW8;rw[e0] at HW0;have NXT:=aA (show M.word I.mem (4096*i+8)=q->bO (decP I) 0 (fun i=>M.word I.mem (4096*i)) (fun i=>M.word I.mem (4096*i+8)) ((l.erase i).length+1) (l.erase i) (M.word I.mem (4096*i)) p=okv from fun h=>by
       rw[<-OK.out];exact(zJ (nxt:=fun i=>M.word I.mem (4096*i)) (bk:=fun i=>M.word I.mem (4096*i+8)) HD.out.2 HD.out.1 HIL.out h).symm)
      have NOT:=aA (show ¬M.word I.mem (4096*i+8)=q->bM (a:Int)=EE from fun h=>FB.out (by
       rw[<-OK.out];refine rL HD.out.2 fun j hj=>.inr ?_
       rw[HD.out.1] at hj;injection hj with hj
       rw[<-hj];exact h))
      have WLT:=aA (word_lt IM2.out.d (4096*i) (by omega));generalize M.word I.mem (4096*i+8)=wb at *;generalize M.word I.mem (4096*i)=wn at *;have c0:∀ x:KW wc,x.v.cell? ⟨cb,0,none⟩=some (.int .i64 a):=fun x=>by simp[World.cell?,(LM.out.keep x.k).bx]
      clear e8 e0 y0 HPA2 HME hqn;by_cases g:wb=q
      case neg=>
       have R2:=aA (NOT.out g);have f4:((wb:Int) == (q:Int))=false:=(by rw[beq_eq_false_iff_ne];omega);clear g;go_wp2_with fail;refine fY (by kernel_rfl) (by kernel_rfl) (by exact List.cons_ne_nil _ _) ?_;dsimp only[List.dropLast,List.getLast];repeat (go_big_quiet_step (first|(go_at_call 227;exact Calls.kept_of ((HW8.out _).mono fun _ _ ⟨h1,m,h2⟩=>⟨h1,h2▸(Kt.refl _ _).drewN m⟩))))
       refine wpQuiet_nil ?_;refine⟨rfl,?_⟩;rintro _ ⟨x,rfl⟩;exact fX (p:=(a:Int)) rfl rfl rfl fun _ hd=>⟨hd,R2.out,nT LM.out.k x.k⟩
      have R2:=aA (NXT.out g);have f4:((wb:Int) == (q:Int))=true:=(by rw[beq_iff_eq];omega);have HMY:=aA (fun W=>cK (a:Int) W);clear g;go_wp2_with fail;refine bU (by kernel_rfl) (by kernel_rfl) ?_;repeat (go_big_quiet_step (first|(go_at_call 227;exact Calls.kept_of ((HW8.out _).mono fun _ _ ⟨h1,m,h2⟩=>⟨h1,h2▸(Kt.refl _ _).drewN m⟩))|(go_at_call 212;exact Calls.kept_of ((HMY.out _).mono fun _ _ ⟨h1,h2⟩=>⟨h1,h2▸Kt.refl _ _⟩))))
      refine wpQuiet_nil ?_;intro x;clear c0;go_wp2_with fail;refine(HW0.out x.v x.k).mono ?_;rintro e w5 ⟨rfl,m5,rfl⟩;have KF:=aA (nT x.k ((Kt.refl nO x.v).drewN m5));have R3:=aA (show ∃ ws l,L8 w (x.v.drewN m5) cb sb sc I.np a ws l/\bO (decP I) 0 (fun i=>M.word I.mem (4096*i)) (fun i=>M.word I.mem (4096*i+8)) (l.length+1) l wn p=okv from⟨_,_,LM.out.keep KF.out,R2.out⟩);have MS2:=aA (show aU (cB (x.v.drewN m5) sc)<aU (cB wr sc)by
       rw[iE (LM.out.keep KF.out).st,<-iE LM.out.st];exact MSR.out)
      go_wp2_with fail;go_round
      case rel=>exact⟨wn,p,rfl,rfl,WLT.out,hp64,R3⟩
      case measure=>exact MS2.out
  ·obtain rfl:a=K:=(by omega);have hai:¬(a:Int)<a:=(by omega);have E:=aA (show Ending.returned (.tuple #[])=EE by rw[HE.out,fst1_ok (fun x hx=>hR.out.2 x (by rw[HKK.out];exact hx))];rfl);go_wp2_with fail;first|go_end0|go_ret
   exact⟨E.out,hR.out.1⟩
end Go.Proofs.YtkfmheelhinjdaaGreatDoor.W
namespace Go.Proofs.YtkfmheelhinjdaaGreatDoor
open Tryz
open Go.RowKit
set_option linter.unusedVariables false
end Go.Proofs.YtkfmheelhinjdaaGreatDoor
