import Derived.Test.YtbgbfpklgfpepaaGreatDoorZf
import Derived.Test.YtbgbfpklgfpepaaGreatDoorXa
set_option maxRecDepth 1000000
set_option maxHeartbeats 80000000
namespace Go.Proofs.YtbgbfpklgfpepaaGreatDoor
open Tryz
open Go.RowKit
set_option linter.unusedVariables false
theorem FP(x:Bx)(t:Bt)(p:Nat){w:World}(h:BdAt w x t):gO x t p<=1024:=by
 unfold gO;have:=h.mp.n1;split
 ·next c=>have:=c.2;omega
 ·omega
theorem FO(x:Bx)(t:Bt)(p k:Nat)(hp:p<18446744073709551616)(hl:lD x t p (k:Int)=true)(w:World)(h:BdAt w x t):
  Calls prog 133 #[.pointer (some ⟨x.b,0,none⟩),.int .u64 p,.int .i64 k] w fun e w'=>∃ tr pr kr,(tr,pr,kr)=iJ x (x.o-k) t (gO x t p) k/\e=.returned (.int .i64 (jC x tr pr kr:Int))/\BdAt w' x (fT x tr pr kr)/\Kt (aE x) w w':=by
 have LV:=aA (FJ x t p k hp w h);have hk:k<=x.o:=by
  unfold lD at hl;simp only[Bool.and_eq_true] at hl;have:=hl.1.2;simp only[aJ,decide_eq_true_eq] at this;omega
 rw[hl] at LV;have hpi:=FP x t p h;have H:=aA h;clear h hl;obtain⟨q,hq⟩:=xe (gO x t p);rw[<-hq] at LV hpi ⊢;clear hq;go_enter func133,ntmps133;go_wp2_with fail;refine LV.out.mono ?_;rintro e w1 ⟨rfl,hk1⟩;have K:=aA hk1;have H1:=aA (H.out.keep hk1);clear hk1 LV;go_wp2_with fail;refine(VZ x t q k hpi hk _ H1.out).mono ?_;rintro e w2 ⟨tr,pr,kr,he,rfl,hB,hK⟩;have D:=aA (show(tr,pr,kr)=iJ x (x.o-k) t q k/\BdAt w2 x (fT x tr pr kr)/\Kt (aE x) w w2 from⟨he,hB,fH (jY K.out) hK⟩);clear he hB hK;go_wp2_with fail;go_ret;exact⟨tr,pr,kr,D.out.1,rfl,D.out.2⟩
theorem zfX(x:Bx)(t:Bt)(p k o:Nat)(hp:p<18446744073709551616)(hl:lD x t p (k:Int)=true)(ho:o<=k)(w:World)(h:BdAt w x t):
  Calls prog 49 #[.pointer (some ⟨x.b,0,none⟩),.int .u64 p,.int .i64 k,.int .i64 o] w fun e w'=>e=.returned (.int .i64 (iE x t (gO x t p) k o:Int))/\BdAt w' x (eZ x t (gO x t p) k o)/\Kt (aE x) w w':=by
 have LV:=aA (FJ x t p k hp w h);have hk:k<=x.o:=by
  unfold lD at hl;simp only[Bool.and_eq_true] at hl;have:=hl.1.2;simp only[aJ,decide_eq_true_eq] at this;omega
 rw[hl] at LV;have hpi:=FP x t p h;have H:=aA h;clear h hl;obtain⟨q,hq⟩:=xe (gO x t p);rw[<-hq] at LV hpi ⊢;have h1:¬(k:Int)<o:=by omega
 clear hq;go_enter func49,ntmps49;go_wp2_with fail;refine LV.out.mono ?_;rintro e w1 ⟨rfl,hk1⟩;have K:=aA hk1;have H1:=aA (H.out.keep hk1);clear hk1 LV;go_wp2_with fail;refine(FI x t q k o hpi ho hk _ H1.out).mono ?_;rintro e w2 ⟨rfl,hB,hK⟩;have D:=aA (And.intro hB (fH (jY K.out) hK));clear hB hK;go_wp2_with fail;go_ret;exact⟨rfl,D.out⟩
def iK(x:Bx)(t:Bt):Prop:=x.n≠0/\t.m.n*4096=x.n
def aS(x:Bx):Nat:=x.n/4096-2 ^ x.o
theorem sI{w x t}(h:BdAt w x t):∃ k,x.n=k*(4096*2 ^ x.o)/\k<=64/\x.n/x.R=k:=by
 obtain⟨k,hk,hl⟩:=h.sp.kn;have h2:=h.sp.cfg.l2;have hp : 0<4096*2 ^ x.o:=Nat.mul_pos (by decide) (Nat.pow_pos (by decide));rw[h.hR] at hk;exact⟨k,hk,by omega,by rw[h.hR,hk,Nat.mul_div_cancel _ hp]⟩
theorem LU(x:Bx)(t:Bt)(hn:¬iK x t)(w:World)(h:BdAt w x t):
  Calls prog 185 #[.pointer (some ⟨x.b,0,none⟩)] w fun e w'=>e=.returned (.tuple #[.int .i64 0,.bool false])/\Kt nO w w':=by
 obtain⟨k,hk,hk64,hkr⟩:=sI h;have ho:=h.o8;have hn1:=h.mp.n1;have c1:=h.b1;have H:=aA h;obtain⟨z,hz⟩:=xe (2 ^ x.o);have hzi:(2:Int) ^ x.o=(z:Int):=by rw[hz];simp
 have hz1 : 1<=z:=by rw[hz];exact Nat.pow_pos (by decide)
 have hz2:z<=256:=by rw[hz];exact Nat.pow_le_pow_right (n:=2) (by decide) ho
 obtain⟨kz,hkz⟩:=xe (k*z);have hkzl:kz<=16384:=by rw[hkz];exact Nat.mul_le_mul hk64 hz2
 have hmul:(k:Int)*(z:Int)=kz:=by rw[hkz];simp
 have hnx:x.n=kz*4096:=by rw[hk,hkz,hz,Nat.mul_comm 4096,Nat.mul_assoc]
 have hcase:k=0\/(k≠0/\t.m.n≠kz):=by
  by_cases e:k=0
  ·exact .inl e
  ·refine .inr ⟨e,fun e2=>hn ⟨?_,by rw[e2,hnx]⟩⟩;intro e3;have : 0<k*z:=Nat.mul_pos (by omega) (by omega);omega
 have RG:=aA (M.regions_any x.s x.a x.bS x.R x.lim x.n t.f w h.sp);rw[hkr] at RG;clear h hz hkz hnx hn hk;rcases hcase with h0|⟨h0,h1⟩
 ·subst h0;go_enter func185,ntmps185;go_wp2_with fail;refine RG.out.mono ?_;rintro e w1 ⟨rfl,d,hw1⟩;have K:=aA (show Kt nO w w1 by rw[hw1];exact(Kt.refl nO w).drewN d);clear hw1;go_wp2_with fail;exact⟨rfl,.tuple #[.int .i64 0,.bool false],by simp[results,results185,go_sem],rfl,K.out⟩
 ·have h0i:¬(k:Int)=0:=by omega
  have h1i:¬(t.m.n:Int)=kz:=by omega
  have hb0:((k:Int) == 0)=false:=beq_eq_false_iff_ne.2 h0i;have hb1:((t.m.n:Int) != (kz:Int))=true:=by simpa using h1i
  go_enter func185,ntmps185;go_wp2_with fail;refine RG.out.mono ?_;rintro e w1 ⟨rfl,d,hw1⟩;have K:=aA (show Kt nO w w1 by rw[hw1];exact(Kt.refl nO w).drewN d);have H1:=aA (H.out.keep K.out);have c2:=H1.out.b2;clear hw1 c1;go_wp2_with fail;refine(uL x.m x.B t.m _ H1.out.mp).mono ?_;rintro e w2 ⟨rfl,hw2⟩;rw[hw2];clear hw2;go_wp2_with fail;refine(mT x t _ H1.out).mono ?_;rintro e w2 ⟨rfl,hw2⟩;rw[hw2];clear hw2;go_wp2_with fail;exact⟨rfl,.tuple #[.int .i64 0,.bool false],by simp[results,results185,go_sem],rfl,K.out⟩
theorem wJ(x:Bx)(t:Bt)(hn:iK x t)(w:World)(h:BdAt w x t):
  Calls prog 185 #[.pointer (some ⟨x.b,0,none⟩)] w fun e w'=>e=.returned (.tuple #[.int .i64 (aS x:Int),.bool true])/\Kt nO w w':=by
 obtain⟨k,hk,hk64,hkr⟩:=sI h;have ho:=h.o8;have hn1:=h.mp.n1;have c1:=h.b1;have H:=aA h;obtain⟨z,hz⟩:=xe (2 ^ x.o);have hzi:(2:Int) ^ x.o=(z:Int):=by rw[hz];simp
 have hz1 : 1<=z:=by rw[hz];exact Nat.pow_pos (by decide)
 have hz2:z<=256:=by rw[hz];exact Nat.pow_le_pow_right (n:=2) (by decide) ho
 have hnx:x.n=k*z*4096:=by rw[hk,hz,Nat.mul_comm 4096,Nat.mul_assoc]
 have hk0:k≠0:=fun e=>hn.1 (by rw[hk,e];simp)
 obtain⟨j,rfl⟩:∃ j,k=j+1:=⟨k-1,by omega⟩;obtain⟨kz,hkz⟩:=xe ((j+1)*z);obtain⟨jz,hjz⟩:=xe (j*z);have hsum:kz=jz+z:=by rw[hkz,hjz,Nat.add_mul,Nat.one_mul]
 have hkzl:kz<=16384:=by rw[hkz];exact Nat.mul_le_mul hk64 hz2
 have hmul:((j:Int)+1)*(z:Int)=kz:=by rw[hkz];simp
 have hmulj:(j:Int)*(z:Int)=jz:=by rw[hjz];simp
 rw[<-hkz] at hnx;have hmn:(t.m.n:Int)=kz:=by have:=hn.2;omega
 have HJW:=aA (show wrap64 (jz:Int)=jz by simp only[wrap64];omega);have hb0:(((j:Int)+1) == 0)=false:=beq_eq_false_iff_ne.2 (by omega);have hb1:((t.m.n:Int) != (kz:Int))=false:=by simp[hmn]
 rw[show aS x=jz by unfold aS;rw[<-hz];omega];have RG:=aA (M.regions_any x.s x.a x.bS x.R x.lim x.n t.f w h.sp);rw[hkr] at RG;clear h hz hkz hjz hnx hn hk hk0 hsum;go_enter func185,ntmps185;go_wp2_with fail;refine RG.out.mono ?_;rintro e w1 ⟨rfl,d,hw1⟩;have K:=aA (show Kt nO w w1 by rw[hw1];exact(Kt.refl nO w).drewN d);have H1:=aA (H.out.keep K.out);have c2:=H1.out.b2;clear hw1 c1;go_wp2_with fail;refine(uL x.m x.B t.m _ H1.out.mp).mono ?_;rintro e w2 ⟨rfl,hw2⟩;rw[hw2];clear hw2;go_wp2_with fail;refine(mT x t _ H1.out).mono ?_;rintro e w2 ⟨rfl,hw2⟩;rw[hw2];clear hw2;go_wp2_with fail;refine(mT x t _ H1.out).mono ?_;rintro e w2 ⟨rfl,hw2⟩;rw[hw2];clear hw2;go_wp2_with fail;exact⟨rfl,.tuple #[.int .i64 jz,.bool true],by simp[results,results185,go_sem];exact HJW.out,rfl,K.out⟩
theorem wI{w x t}(h:BdAt w x t)(hn:iK x t):aS x<=1024/\ad x (aS x)<18446744073709551616:=by
 have h1:=h.mp.n1;have h2:=hn.2;have h3:aS x<=1024:=by unfold aS;exact Nat.le_trans (Nat.sub_le _ _) (by omega)
 have h4:=h.end63;exact⟨h3,by unfold ad;omega⟩
theorem WF(x:Bx)(t:Bt)(hn:iK x t)(hl:lD x t (ad x (aS x)) (x.o:Int)=true)(he:jC x t (gO x t (ad x (aS x))) x.o=0)(w:World)(h:BdAt w x t):
  Calls prog 200 #[.pointer (some ⟨x.b,0,none⟩)] w fun e w'=>e=.returned (.int .i64 0)/\BdAt w' x (fT x t (gO x t (ad x (aS x))) x.o)/\Kt (aE x) w w':=by
 have H:=aA h;have TP:=aA (wJ x t hn w h);obtain⟨h1,h2⟩:=wI h hn;obtain⟨p,hp⟩:=xe (aS x);rw[<-hp] at TP h1 h2 hl he ⊢;have AD:=aA (show ∀ W,BdAt W x t->Calls prog 182 #[.pointer (some ⟨x.b,0,none⟩),.int .i64 p] W fun e w'=>e=.returned (.int .u64 ((ad x p:Nat):Int))/\w'=W from fun W hW=>rR x t p (by omega) W hW);have GV:=aA (show ∀ W,BdAt W x t->Calls prog 133 #[.pointer (some ⟨x.b,0,none⟩),.int .u64 ((ad x p:Nat):Int),.int .i64 x.o] W fun e w'=>e=.returned (.int .i64 0)/\BdAt w' x (fT x t (gO x t (ad x p)) x.o)/\Kt (aE x) W w' from fun W hW=>(FO x t (ad x p) x.o h2 hl W hW).mono (by
  rintro e w' ⟨tr,pr,kr,hj,rfl,hB,hK⟩;rw[Nat.sub_self,iJ] at hj
  cases hj
  rw[he];exact⟨rfl,hB,hK⟩))
 obtain⟨a,ha⟩:=xe (ad x p);rw[<-ha] at AD GV ⊢;clear h hn hl hp ha h2 he;go_enter func200,ntmps200;go_wp2_with fail;refine TP.out.mono ?_;rintro e w1 ⟨rfl,hk⟩;have K:=aA hk;have H1:=aA (H.out.keep hk);clear hk;go_wp2_with fail;refine(AD.out _ H1.out).mono ?_;rintro e w2 ⟨rfl,hw2⟩;rw[hw2];clear hw2;go_wp2_with fail;refine(mT x t _ H1.out).mono ?_;rintro e w2 ⟨rfl,hw2⟩;rw[hw2];clear hw2;go_wp2_with fail;refine(GV.out _ H1.out).mono ?_;rintro e w3 ⟨rfl,hB,hK⟩;have D:=aA (And.intro hB (fH (jY K.out) hK));clear hB hK;go_wp2_with fail;go_ret;exact⟨rfl,D.out⟩
def freeL(x:Bx)(t:Bt)(k:Nat):List Nat:=M.walkR x.bS x.n t.f (x.n/16) 0 (t.hd k)
theorem WE(x:Bx)(t:Bt)(k:Nat)(hk:k<=x.o)(w:World)(h:BdAt w x t):
  Calls prog 216 #[.pointer (some ⟨x.b,0,none⟩),.int .i64 k] w fun e w'=>∃ v,e=.returned v/\M.Lst w' v (freeL x t k)/\Kt nO w w'/\∀ r,v.ownBlock=some r->w.heap.size<=r:=by
 have HS:=aA (uE x t k hk w h);have c3:=h.b3;have cl:=h.lc k hk;have ho:=h.o8;have H:=aA h;have hki:(k:Int)<((x.o+1:Nat):Int):=by omega
 clear h;go_enter func216,ntmps216;go_wp2_with fail;refine HS.out.mono ?_;rintro e w1 ⟨rfl,hw1⟩;rw[hw1];clear hw1;go_wp2_with fail;refine(M.All_any (x.L k) _).mono ?_;rintro e w1 ⟨rfl,hw1⟩;have K1:=aA (show Kt nO w w1 by rw[hw1];exact(Kt.refl nO w).alloc _);have H1:=aA (H.out.keep K1.out);have P1:=aA (show M.PtrB w1 w.heap.size (x.L k)by rw[hw1];exact nH _ _);clear hw1 c3 cl HS;go_wp2_with fail;refine(M.Collect_any w.heap.size (x.L k) x.s x.a x.bS x.R x.lim x.n t.f (t.hd k) x.o ho H1.out.hR _ (H1.out.ls' k hk) P1.out).mono ?_;rintro e w2 ⟨v,rfl,hL,hK,hN⟩;have D:=aA (show M.Lst w2 v (freeL x t k)/\Kt nO w w2/\∀ r,v.ownBlock=some r->w.heap.size<=r from⟨hL,nT K1.out (dR hK),fun r hr=>Nat.le_trans K1.out.size (hN r hr)⟩);clear hL hK hN;go_wp2_with fail;go_ret;exact⟨v,rfl,D.out⟩
theorem zjd(v:Value)(xs:List Nat)(a:Nat)(ha:a<18446744073709551616)(hl:xs.length<=4194305)(w:World)(hv:M.Wds w v xs):
  Calls prog 225 #[v,.int .u64 a] w fun e w'=>∃ i:Int,e=.returned (.int .i64 i)/\(0<=i↔a∈xs)/\w'=w:=by
 obtain⟨hxl,ao,ac,rfl,hA,hac⟩:=hv;have HA:=aA hA;have HAC:=aA hac;have HXL:=aA hxl;obtain⟨m,hm⟩:=xe (xs.length);rw[<-hm] at hl ⊢;have HM:=aA hm;clear hA hac hxl hm;go_enter func225,ntmps225;go_wp2_with fail;go_loopw [8] (fun i W=>Hid (W=w)/\∃ k:Nat,k<=m/\i=.int .i64 k/\Hid (∀ j,j<k->xs.getD j 0≠a)) (fun i _=>m-(intOf i).toNat)
 case atStart=>exact⟨rfl,0,by omega,rfl,fun j hj=>by omega⟩
 case round=>
  obtain⟨hW,k,hk,rfl,hz⟩:=hrel;have hW:=hW.out;subst hW;by_cases hlt:k<m
  ·have hki:(k:Int)<m:=(by omega);have hne:xs≠[]:=fun e=>by have:=HM.out;rw[e] at this;simp at this;omega
   obtain⟨g,rfl⟩:=HA.out hne;rw[show M.adr (some g)=some ⟨g,0,none⟩from rfl];have hca:=(HAC.out g rfl).2.2 k (by have:=HM.out;omega);have hmem:xs.getD k 0∈xs:=(by have:=HM.out;rw[List.getD_eq_getElem?_getD,List.getElem?_eq_getElem (by omega)];simp);have HMEM:=aA hmem;obtain⟨y,hy⟩:=xe (xs.getD k 0);rw[<-hy] at hca;replace hca:wr.cell? ⟨g,k,none⟩=some (.int .u64 y):=hca;have HY:=aA hy;clear hy hmem;by_cases hay:a=y
   ·have hayi:(a:Int)=y:=(by omega);have hayb:((a:Int) == (y:Int))=true:=(by simp[hayi]);have HIN:=aA (show a∈xs by rw[hay,HY.out];exact HMEM.out);clear hay hayi;go_wp2_with fail;go_ret;exact⟨(k:Int),rfl,⟨fun _=>HIN.out,fun _=>by omega⟩,rfl⟩
   ·have hayi:¬(a:Int)=y:=(by omega);have hayb:((a:Int) == (y:Int))=false:=beq_eq_false_iff_ne.2 hayi;go_wp2_with fail;exact⟨⟨trivial,k+1,by omega,by simp,fun j hj=>by
     by_cases e:j=k
     ·subst e;rw[<-HY.out];exact fun e=>hay e.symm
     ·exact hz.out j (by omega)⟩,by simp[intOf];omega⟩
  ·have hki:¬(k:Int)<m:=(by omega);have HN:=aA (show ¬a∈xs from fun e=>by
    obtain⟨j,hj,e2⟩:=List.mem_iff_getElem.1 e;have hm:=HM.out;exact hz.out j (by omega) (by rw[List.getD_eq_getElem?_getD,List.getElem?_eq_getElem hj];exact e2))
   go_wp2_with fail;go_ret;exact⟨-1,rfl,⟨fun e=>by omega,fun e=>absurd e HN.out⟩,rfl⟩
theorem zfk(v:Value)(xs:List Nat)(a:Nat)(ha:a<18446744073709551616)(hl:xs.length<=4194305)(w:World)(hv:M.Wds w v xs):
  Calls prog 215 #[v,.int .u64 a] w fun e w'=>e=.returned (.bool (decide (a∈xs)))/\w'=w:=by
 have IX:=aA (zjd v xs a ha hl w hv);clear hv;go_enter func215,ntmps215;go_wp2_with fail;refine IX.out.mono ?_;rintro e w1 ⟨i,rfl,hi,rfl⟩;have HI:=aA hi;clear hi IX;go_wp2_with fail;go_ret;exact⟨cE (decide_eq_decide.2 HI.out),rfl⟩
theorem GQ(bS n:Nat)(f:Nat->Nat):∀ k q p,(M.walkR bS n f k q p).length<=k
 | 0,_,_=>Nat.le_refl _
 | k+1,q,p=>by
  unfold M.walkR;split
  ·have:=GQ bS n f k p (M.nx bS f p);simp;omega
  ·simp
theorem zje{w x t}(h:BdAt w x t)(k:Nat):(freeL x t k).length<=4194305:=by
 have h1:=GQ x.bS x.n t.f (x.n/16) 0 (t.hd k);have h2:x.n<=4194304:=Nat.le_trans h.sp.nle h.sp.cfg.lr;unfold freeL;omega
def nI(x:Bx)(t:Bt)(p k:Nat):Bool:=lL t.m 0 (p:Int) (k:Int) && decide (ad x p∈freeL x t k)
theorem FN(x:Bx)(t:Bt)(p k:Nat)(hp:p<=4000)(hk:k<=x.o)(w:World)(h:BdAt w x t):
  Calls prog 186 #[.pointer (some ⟨x.b,0,none⟩),.int .i64 p,.int .i64 k] w fun e w'=>e=.returned (.bool (nI x t p k))/\Kt nO w w':=by
 have H:=aA h;have hfl:=zje h k;have IS:=aA (BG x t 0 (p:Int) (k:Int) w h);have hal:ad x p<18446744073709551616:=by have:=h.end63;unfold ad;omega
 have AD:=aA (show ∀ W,BdAt W x t->Calls prog 182 #[.pointer (some ⟨x.b,0,none⟩),.int .i64 p] W fun e w'=>e=.returned (.int .u64 ((ad x p:Nat):Int))/\w'=W from fun W hW=>rR x t p hp W hW);obtain⟨b,hb⟩:=xe (lL t.m 0 (p:Int) (k:Int));obtain⟨a,ha⟩:=xe (ad x p);rw[<-ha] at hal AD;rw[<-hb] at IS;rw[show nI x t p k=(b && decide (a∈freeL x t k))by unfold nI;rw[<-hb,<-ha]];clear h hb ha
 cases b with
 | false=>
  go_enter func186,ntmps186;go_wp2_with fail;refine IS.out.mono ?_;rintro e w1 ⟨rfl,hk1⟩;have K:=aA hk1;clear hk1;go_wp2_with fail;go_ret;exact⟨cE (by simp),K.out⟩
 | true=>
  go_enter func186,ntmps186;go_wp2_with fail;refine IS.out.mono ?_;rintro e w1 ⟨rfl,hk1⟩;have K:=aA hk1;have H1:=aA (H.out.keep hk1);clear hk1;go_wp2_with fail;refine(WE x t k hk _ H1.out).mono ?_;rintro e w2 ⟨v,rfl,hL,hK,hN⟩;have K2:=aA (nT K.out hK);have H2:=aA (H1.out.keep hK);have L2:=aA hL;clear hL hK hN;go_wp2_with fail;refine(AD.out _ H2.out).mono ?_;rintro e w3 ⟨rfl,hw3⟩;rw[hw3];clear hw3;go_wp2_with fail;refine(zfk v (freeL x t k) a hal hfl _ L2.out.wds).mono ?_;rintro e w3 ⟨rfl,hw3⟩;rw[hw3];clear hw3;go_wp2_with fail;go_ret;exact⟨cE (by simp),K2.out⟩
theorem QK(x:Bx)(t:Bt)(hn:¬iK x t\/(iK x t/\nI x t (aS x) x.o=false))(w:World)(h:BdAt w x t):
  Calls prog 140 #[.pointer (some ⟨x.b,0,none⟩)] w fun e w'=>e=.returned (.int .i64 9)/\Kt nO w w':=by
 have H:=aA h;rcases hn with hn|⟨hn,hl⟩
 ·have TP:=aA (LU x t hn w h);clear h hn;go_enter func140,ntmps140;go_wp2_with fail;refine TP.out.mono ?_;rintro e w1 ⟨rfl,hk⟩;have K:=aA hk;clear hk;go_wp2_with fail;go_ret;exact⟨rfl,K.out⟩
 ·have TP:=aA (wJ x t hn w h);obtain⟨h1,h2⟩:=wI h hn;obtain⟨p,hp⟩:=xe (aS x);rw[<-hp] at TP h1 h2 hl;have FR:=aA (fun W (hW:BdAt W x t)=>FN x t p x.o (by omega) (Nat.le_refl _) W hW);rw[hl] at FR;clear h hn hl hp h2;go_enter func140,ntmps140;go_wp2_with fail;refine TP.out.mono ?_;rintro e w1 ⟨rfl,hk⟩;have K:=aA hk;have H1:=aA (H.out.keep hk);clear hk;go_wp2_with fail;refine(mT x t _ H1.out).mono ?_;rintro e w2 ⟨rfl,hw2⟩;rw[hw2];clear hw2;go_wp2_with fail;refine(FR.out _ H1.out).mono ?_;rintro e w3 ⟨rfl,hk⟩;have K3:=aA (nT K.out hk);clear hk;go_wp2_with fail;go_ret;exact⟨rfl,K3.out⟩
def vK(x:Bx)(t:Bt):Bt:=cV (cS x t (aS x) x.o) (aS x) x.o 2
theorem WC(x:Bx)(t:Bt)(hn:iK x t)(hl:nI x t (aS x) x.o=true)(hr:jI x t (aS x) x.o=0)(w:World)(h:BdAt w x t):
  Calls prog 140 #[.pointer (some ⟨x.b,0,none⟩)] w fun e w'=>e=.returned (.int .i64 0)/\BdAt w' x (vK x t)/\Kt (aE x) w w':=by
 have H:=aA h;have ho:=h.o8;have TP:=aA (wJ x t hn w h);obtain⟨h1,h2⟩:=wI h hn;rw[show vK x t=cV (cS x t (aS x) x.o) (aS x) x.o 2 from rfl];obtain⟨p,hp⟩:=xe (aS x);rw[<-hp] at TP h1 h2 hl hr ⊢;have FR:=aA (fun W (hW:BdAt W x t)=>FN x t p x.o (by omega) (Nat.le_refl _) W hW);rw[hl] at FR;have ADR:=aA (show ∀ W,BdAt W x t->Calls prog 182 #[.pointer (some ⟨x.b,0,none⟩),.int .i64 p] W fun e w'=>e=.returned (.int .u64 ((ad x p:Nat):Int))/\w'=W from fun W hW=>rR x t p (by omega) W hW);have REM:=aA (fun W (hW:BdAt W x t)=>FH x t p x.o (by omega) (Nat.le_refl _) W hW);rw[hr] at REM;obtain⟨a,ha⟩:=xe (ad x p);rw[<-ha] at ADR REM;have hki:(x.o:Int)<((x.o+1:Nat):Int):=by omega
 have hki2:(x.o:Int)<x.o+1:=by omega
 have hk0:(0:Int)<=(x.o:Int):=by omega
 have hki3:x.o<x.o+1:=by omega
 have hkw:IntKind.i64.wrap (x.o:Int)=x.o:=by rw[IntKind.wrap_i64];omega
 clear h hn hl hp h2 ha hr;go_enter func140,ntmps140;go_wp2_with fail;refine TP.out.mono ?_;rintro e w1 ⟨rfl,hk⟩;have K:=aA hk;have H1:=aA (H.out.keep hk);clear hk;go_wp2_with fail;refine(mT x t _ H1.out).mono ?_;rintro e w2 ⟨rfl,hw2⟩;rw[hw2];clear hw2;go_wp2_with fail;refine(FR.out _ H1.out).mono ?_;rintro e w3 ⟨rfl,hk⟩;have K3:=aA (nT K.out hk);have H3:=aA (H1.out.keep hk);clear hk FR TP;have H3d:=aA (H3.out.keep (Kt.refl nO w3).drew);have GRd:=aA (mT x t w3.drew H3d.out);have c3d:w3.drew.cell? ⟨x.b,3,none⟩=some (.slice (some ⟨x.l,0,none⟩) (x.o+1) x.c):=H3d.out.b3;have cld:=H3d.out.lc x.o (Nat.le_refl _);have K3d:=aA (nT K3.out (Kt.refl nO w3).drew);go_wp2_with fail;go_region_held3 (fun w'=>w'.cell? ⟨x.b,3,none⟩=some (.slice (some ⟨x.l,0,none⟩) (x.o+1) x.c)/\w'.cell? ⟨x.l,x.o,none⟩=some (.pointer (some ⟨x.L x.o,0,none⟩))) (first|with_reducible exact⟨c3d,cld⟩|with_reducible exact⟨c34,cl4⟩) (first|(go_at_call 187;refine GRd.out.mono ?_;rintro e w4 ⟨rfl,hw4⟩;rw[hw4];clear hw4)|(go_at_call 182;refine(ADR.out _ H3d.out).mono ?_;rintro e w4 ⟨rfl,hw4⟩;rw[hw4];clear hw4)|(go_at_call 188;refine(REM.out _ H3d.out).mono ?_;rintro e w4 ⟨rfl,hB,hK⟩;have H4:=aA hB;have K4:=aA (fH (jY K3d.out) hK);have c34:=H4.out.b3;have cl4:=H4.out.lc x.o (Nat.le_refl _);clear hB hK))
 all_goals
  clear c3d cld c34 cl4 ADR REM GRd H3d H3 H1;have H4d:=aA (H4.out.keep (Kt.refl nO w4).drew);have GR4:=aA (mT x _ w4.drew H4d.out);have c24:=H4d.out.b2;have K4d:=aA (fH K4.out (jY (Kt.refl nO w4).drew));go_wp2_with fail;go_region_held3 (fun w'=>w'.cell? ⟨x.b,2,none⟩=some (.pointer (some ⟨x.m,0,none⟩))) (first|with_reducible exact c24|with_reducible exact c25) (first|(go_at_call 187;refine GR4.out.mono ?_;rintro e w5 ⟨rfl,hw5⟩;rw[hw5];clear hw5)|(go_at_call 138;refine(rF x _ p x.o 2 _ H4d.out).mono ?_;rintro e w5 ⟨rfl,hB,hK⟩;have H5:=aA hB;have K5:=aA (fH K4d.out hK);have c25:=H5.out.b2;clear hB hK))
  all_goals
   go_wp2_with fail;go_ret;exact⟨rfl,H5.out,K5.out⟩
end Go.Proofs.YtbgbfpklgfpepaaGreatDoor
