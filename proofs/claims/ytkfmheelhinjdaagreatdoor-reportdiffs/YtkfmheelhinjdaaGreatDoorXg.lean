import Derived.Test.YtkfmheelhinjdaaGreatDoorZb
import Derived.Test.YtkfmheelhinjdaaGreatDoorXf
set_option maxRecDepth 1000000
set_option maxHeartbeats 80000000
namespace Go.Proofs.YtkfmheelhinjdaaGreatDoor
open _root_.Go.Proofs.Tryz
open Go.RowKit
set_option linter.unusedVariables false
theorem VI(x:Bx)(t:Bt)(p:Nat){w:World}(h:BdAt w x t):fU x t p<=1024:=by
 unfold fU;have:=h.mp.n1;split
 ·next c=>have:=c.2;omega
 ·omega
theorem WK(x:Bx)(t:Bt)(p k:Nat)(hp:p<18446744073709551616)(hl:kT x t p (k:Int)=true)(w:World)(h:BdAt w x t):
  Calls prog 263 #[.pointer (some ⟨x.b,0,none⟩),.int .u64 p,.int .i64 k] w fun e w'=>∃ tr pr kr,(tr,pr,kr)=gO x (x.o-k) t (fU x t p) k/\e=.returned (.int .i64 (gL x tr pr kr:Int))/\BdAt w' x (eH x tr pr kr)/\Kt (aD x) w w':=by
 have LV:=aA (UH x t p k hp w h);have hk:k<=x.o:=by
  unfold kT at hl;simp only[Bool.and_eq_true] at hl;have:=hl.1.2;simp only[aC,decide_eq_true_eq] at this;omega
 rw[hl] at LV;have hpi:=VI x t p h;have H:=aA h;clear h hl;obtain⟨q,hq⟩:=xe (fU x t p);rw[<-hq] at LV hpi ⊢;clear hq;go_enter func263,ntmps263;go_wp2_with fail;refine LV.out.mono ?_;rintro e w1 ⟨rfl,hk1⟩;have K:=aA hk1;have H1:=aA (H.out.keep hk1);clear hk1 LV;go_wp2_with fail;refine(UC x t q k hpi hk _ H1.out).mono ?_;rintro e w2 ⟨tr,pr,kr,he,rfl,hB,hK⟩;have D:=aA (show(tr,pr,kr)=gO x (x.o-k) t q k/\BdAt w2 x (eH x tr pr kr)/\Kt (aD x) w w2 from⟨he,hB,eN (kJ K.out) hK⟩);clear he hB hK;go_wp2_with fail;go_ret;exact⟨tr,pr,kr,D.out.1,rfl,D.out.2⟩
def nB(x:Bx)(t:Bt):Prop:=x.n≠0/\t.m.n*4096=x.n
def bC(x:Bx):Nat:=x.n/4096-2 ^ x.o
theorem vE{w x t}(h:BdAt w x t):∃ k,x.n=k*(4096*2 ^ x.o)/\k<=64/\x.n/x.R=k:=by
 obtain⟨k,hk,hl⟩:=h.sp.kn;have h2:=h.sp.cfg.l2;have hp : 0<4096*2 ^ x.o:=Nat.mul_pos (by decide) (Nat.pow_pos (by decide));rw[h.hR] at hk;exact⟨k,hk,by omega,by rw[h.hR,hk,Nat.mul_div_cancel _ hp]⟩
theorem QI(x:Bx)(t:Bt)(hn:nB x t)(w:World)(h:BdAt w x t):
  Calls prog 262 #[.pointer (some ⟨x.b,0,none⟩)] w fun e w'=>e=.returned (.tuple #[.int .i64 (bC x:Int),.bool true])/\Kt nO w w':=by
 obtain⟨k,hk,hk64,hkr⟩:=vE h;have ho:=h.o8;have hn1:=h.mp.n1;have c1:=h.b1;have H:=aA h;obtain⟨z,hz⟩:=xe (2 ^ x.o);have hzi:(2:Int) ^ x.o=(z:Int):=by rw[hz];simp
 have hz1 : 1<=z:=by rw[hz];exact Nat.pow_pos (by decide)
 have hz2:z<=256:=by rw[hz];exact Nat.pow_le_pow_right (n:=2) (by decide) ho
 have hnx:x.n=k*z*4096:=by rw[hk,hz,Nat.mul_comm 4096,Nat.mul_assoc]
 have hk0:k≠0:=fun e=>hn.1 (by rw[hk,e];simp)
 obtain⟨j,rfl⟩:∃ j,k=j+1:=⟨k-1,by omega⟩;obtain⟨kz,hkz⟩:=xe ((j+1)*z);obtain⟨jz,hjz⟩:=xe (j*z);have hsum:kz=jz+z:=by rw[hkz,hjz,Nat.add_mul,Nat.one_mul]
 have hkzl:kz<=16384:=by rw[hkz];exact Nat.mul_le_mul hk64 hz2
 have hmul:((j:Int)+1)*(z:Int)=kz:=by rw[hkz];simp
 have hmulj:(j:Int)*(z:Int)=jz:=by rw[hjz];simp
 rw[<-hkz] at hnx;have hmn:(t.m.n:Int)=kz:=by have:=hn.2;omega
 have HJW:=aA (show wrap64 (jz:Int)=jz by simp only[wrap64];omega);have hb0:(((j:Int)+1) == 0)=false:=beq_eq_false_iff_ne.2 (by omega);have hb1:((t.m.n:Int) != (kz:Int))=false:=by simp[hmn]
 rw[show bC x=jz by unfold bC;rw[<-hz];omega];have RG:=aA (M.regions_any x.s x.a x.bS x.R x.lim x.n t.f w h.sp);rw[hkr] at RG;clear h hz hkz hjz hnx hn hk hk0 hsum;go_enter func262,ntmps262;go_wp2_with fail;refine RG.out.mono ?_;rintro e w1 ⟨rfl,d,hw1⟩;have K:=aA (show Kt nO w w1 by rw[hw1];exact(Kt.refl nO w).drewN d);have H1:=aA (H.out.keep K.out);have c2:=H1.out.b2;clear hw1 c1;go_wp2_with fail;refine(tW x.m x.B t.m _ H1.out.mp).mono ?_;rintro e w2 ⟨rfl,hw2⟩;rw[hw2];clear hw2;go_wp2_with fail;refine(rM x t _ H1.out).mono ?_;rintro e w2 ⟨rfl,hw2⟩;rw[hw2];clear hw2;go_wp2_with fail;refine(rM x t _ H1.out).mono ?_;rintro e w2 ⟨rfl,hw2⟩;rw[hw2];clear hw2;go_wp2_with fail;exact⟨rfl,.tuple #[.int .i64 jz,.bool true],by simp[results,results262,go_sem];exact HJW.out,rfl,K.out⟩
theorem QH{w x t}(h:BdAt w x t)(hn:nB x t):bC x<=1024/\ad x (bC x)<18446744073709551616:=by
 have h1:=h.mp.n1;have h2:=hn.2;have h3:bC x<=1024:=by unfold bC;exact Nat.le_trans (Nat.sub_le _ _) (by omega)
 have h4:=h.end63;exact⟨h3,by unfold ad;omega⟩
theorem WJ(x:Bx)(t:Bt)(hn:nB x t)(hl:kT x t (ad x (bC x)) (x.o:Int)=true)(he:gL x t (fU x t (ad x (bC x))) x.o=0)(w:World)(h:BdAt w x t):
  Calls prog 211 #[.pointer (some ⟨x.b,0,none⟩)] w fun e w'=>e=.returned (.int .i64 0)/\BdAt w' x (eH x t (fU x t (ad x (bC x))) x.o)/\Kt (aD x) w w':=by
 have H:=aA h;have TP:=aA (QI x t hn w h);obtain⟨h1,h2⟩:=QH h hn;obtain⟨p,hp⟩:=xe (bC x);rw[<-hp] at TP h1 h2 hl he ⊢;have AD:=aA (show ∀ W,BdAt W x t->Calls prog 264 #[.pointer (some ⟨x.b,0,none⟩),.int .i64 p] W fun e w'=>e=.returned (.int .u64 ((ad x p:Nat):Int))/\w'=W from fun W hW=>pO x t p (by omega) W hW);have GV:=aA (show ∀ W,BdAt W x t->Calls prog 263 #[.pointer (some ⟨x.b,0,none⟩),.int .u64 ((ad x p:Nat):Int),.int .i64 x.o] W fun e w'=>e=.returned (.int .i64 0)/\BdAt w' x (eH x t (fU x t (ad x p)) x.o)/\Kt (aD x) W w' from fun W hW=>(WK x t (ad x p) x.o h2 hl W hW).mono (by
  rintro e w' ⟨tr,pr,kr,hj,rfl,hB,hK⟩;rw[Nat.sub_self,gO] at hj
  cases hj
  rw[he];exact⟨rfl,hB,hK⟩))
 obtain⟨a,ha⟩:=xe (ad x p);rw[<-ha] at AD GV ⊢;clear h hn hl hp ha h2 he;go_enter func211,ntmps211;go_wp2_with fail;refine TP.out.mono ?_;rintro e w1 ⟨rfl,hk⟩;have K:=aA hk;have H1:=aA (H.out.keep hk);clear hk;go_wp2_with fail;refine(AD.out _ H1.out).mono ?_;rintro e w2 ⟨rfl,hw2⟩;rw[hw2];clear hw2;go_wp2_with fail;refine(rM x t _ H1.out).mono ?_;rintro e w2 ⟨rfl,hw2⟩;rw[hw2];clear hw2;go_wp2_with fail;refine(GV.out _ H1.out).mono ?_;rintro e w3 ⟨rfl,hB,hK⟩;have D:=aA (And.intro hB (eN (kJ K.out) hK));clear hB hK;go_wp2_with fail;go_ret;exact⟨rfl,D.out⟩
def iH(x:Bx)(t:Bt):List Nat:=(List.range (x.o+1)).map t.hd
theorem YZ(x:Bx)(t:Bt):(iH x t).length=x.o+1:=by simp[iH]
theorem zeI{w:World}{g:Nat}{zs:List Nat}(hg:w.heap[g]?=some (.cells (bI zs) 27 (0,0)))(q y:Nat):(w.setCell ⟨g,q,none⟩ (.int .u64 y)).heap[g]?=some (.cells (bI (zs.set q y)) 27 (0,0)):=by
 rw[heap_set hg q (.int .u64 y)];simp[bI,List.map_set]
def jL(x:Bx)(t:Bt)(k:Nat):List Nat:=(List.range (x.o+1)).map fun j=>if j<k then t.hd j else 0
theorem YY(x:Bx)(t:Bt)(k:Nat):(jL x t k).set k (t.hd k)=jL x t (k+1):=by
 apply List.ext_getElem
 ·simp[jL]
 ·intro i h1 h2;rw[List.getElem_set];simp only[jL,List.getElem_map,List.getElem_range];by_cases e:k=i
  ·subst e;rw[if_pos rfl,if_pos (by omega)]
  ·rw[if_neg e];by_cases h:i<k
   ·rw[if_pos h,if_pos (by omega)]
   ·rw[if_neg h,if_neg (by omega)]
theorem WS(x:Bx)(t:Bt)(w:World)(h:BdAt w x t):
  Calls prog 41 #[.pointer (some ⟨x.b,0,none⟩)] w fun e w'=>e=.returned (.slice (some ⟨w.heap.size,0,none⟩) (x.o+1) (x.o+1))/\w'.heap[w.heap.size]?=some (.cells (bI (iH x t)) 27 (0,0))/\Kt nO w w':=by
 have ho:=h.o8;have c3:=h.b3;have H:=aA h;obtain⟨N,hN⟩:=xe (x.o+1);have hNi:((x.o:Int)+1)=(N:Int):=by omega
 rw[<-hN] at c3 ⊢;obtain⟨w1,hmk,hg1,hk1,hs1⟩:=tK N (by omega) w;have D1:=aA (show w1.heap[w.heap.size]?=some (.cells (bI (jL x t 0)) 27 (0,0))/\Kt nO w w1 from⟨by rw[hg1,hN];simp[jL,dP,List.map_const'],hk1⟩);have HN:=aA hN;have c3':=hk1.cell (fun x=>x) c3;clear h hg1 hk1 hs1 hN;go_enter func41,ntmps41;go_wp2_with fail;go_loopw [17] (fun i W=>∃ k:Nat,k<=N/\i=.int .i64 k/\Hid (W.heap[w.heap.size]?=some (.cells (bI (jL x t k)) 27 (0,0))/\Kt nO w W)) (fun i _=>N-(intOf i).toNat)
 case atStart=>exact⟨0,by omega,rfl,D1⟩
 case round=>
  clear hmk c3' D1 c3;obtain⟨k,hk,rfl,hX⟩:=hrel;by_cases hlt:k<N
  ·have hki:(k:Int)<N:=(by omega);have hko:k<=x.o:=(by have:=HN.out;omega);have H1:=aA (H.out.keep hX.out.2);have cl:=H1.out.lc k hko;have HD:=aA (M.Head_any (x.L k) x.s (t.hd k) wr (H1.out.ls k hko));have fz:∀ j,wr.frozen? ⟨w.heap.size,j,none⟩=false:=fun j=>by simp[World.frozen?,hX.out.1]
   have cz:wr.cell? ⟨w.heap.size,k,none⟩=some (.int .u64 0):=by
    simp[World.cell?,hX.out.1,bI,jL,show k<x.o+1 by omega]
   have D2:=aA (show(wr.setCell ⟨w.heap.size,k,none⟩ (.int .u64 (t.hd k:Int))).heap[w.heap.size]?=some (.cells (bI (jL x t (k+1))) 27 (0,0))/\Kt nO w (wr.setCell ⟨w.heap.size,k,none⟩ (.int .u64 (t.hd k:Int)))from⟨by rw[zeI hX.out.1,YY],hX.out.2.setNew (p:=⟨w.heap.size,k,none⟩) (fun e=>absurd e (Nat.lt_irrefl _)) _⟩);go_wp2_with fail;refine HD.out.mono ?_;rintro e w2 ⟨rfl,hw2⟩;rw[hw2];clear hw2;go_wp2_with fail;exact⟨⟨k+1,by omega,by simp,D2⟩,by simp[intOf];omega⟩
  ·have hki:¬(k:Int)<N:=(by omega);have D:=aA (show wr.heap[w.heap.size]?=some (.cells (bI (iH x t)) 27 (0,0))/\Kt nO w wr from⟨by
    rw[hX.out.1];have hkN:k=x.o+1:=(by have:=HN.out;omega);have:jL x t k=iH x t:=by
     rw[hkN];unfold jL iH;apply List.map_congr_left
     intro j hj;rw[if_pos (List.mem_range.1 hj)]
    rw[this],hX.out.2⟩)
   clear hX;go_wp2_with fail;go_ret;exact⟨rfl,D.out⟩
end Go.Proofs.YtkfmheelhinjdaaGreatDoor
