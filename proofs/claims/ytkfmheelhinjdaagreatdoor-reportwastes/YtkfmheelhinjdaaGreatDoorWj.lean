import Derived.Test.YtkfmheelhinjdaaGreatDoorZa
import Derived.Test.YtkfmheelhinjdaaGreatDoorWn
import Derived.Test.YtkfmheelhinjdaaGreatDoorWo
import Derived.Test.YtkfmheelhinjdaaGreatDoorWp
set_option maxRecDepth 1000000
set_option maxHeartbeats 80000000
namespace Go.Proofs.YtkfmheelhinjdaaGreatDoor.W
open _root_.Go.Proofs.Tryz
open Go.RowKit
set_option linter.unusedVariables false
set_option maxHeartbeats 8000000
set_option maxRecDepth 8000
theorem VC{w1 U:World}{hb:Nat}(s:KH w1 U hb 0 [] [] [] rH false):Calls prog 12 #[.pointer (some ⟨hb,0,none⟩),.int .u64 0,.bool false] U fun e w'=>e=tE 65536 0/\KH w1 w' hb 8192 [1] [] [(0,0)] Q1 false:=s.mal_grow 0 rfl 0 (by decide) 4 (by decide) (by decide) 0 (by decide) rfl rfl (by decide)
theorem VB{w1 U:World}{hb:Nat}(s:KH w1 U hb 8192 [1] [] [(0,0)] Q1 false):Calls prog 12 #[.pointer (some ⟨hb,0,none⟩),.int .u64 17,.bool false] U fun e w'=>e=tE 69632 0/\KH w1 w' hb 8192 [] [] [(0,0),(1,0)] Q2 false:=s.mal_here 17 (by decide) false 5 (by decide) (by decide) 1 (by decide) rfl rfl
theorem VA{w1 U:World}{hb:Nat}(s:KH w1 U hb 8192 [] [] [(0,0),(1,0)] Q2 false):Calls prog 12 #[.pointer (some ⟨hb,0,none⟩),.int .u64 4097,.bool false] U fun e w'=>e=tE 73728 0/\KH w1 w' hb 16384 [] [] [(0,0),(1,0),(2,1)] Q2 false:=s.pg_grow 2 rfl 4097 (by decide) (by decide) (by decide)
abbrev jG:List (Nat×Nat):=[(65536,16),(69632,32),(73728,8192)]
theorem IW{ks:List Nat}(h:pA jG ks):ks=[16,32,8192]:=
 h.uniq ⟨by decide,fun x=>by simp[dS,jG]⟩
theorem wV:(iP jG [16,32,8192]).toArray=#[49,54,32,49,32,49,54,10,51,50,32,49,32,51,50,10,56,49,57,50,32,49,32,56,49,57,50,10]:=by
 have nU:Lib.decDigits 16=[49,54]:=by simp[Lib.decDigits]
 have e32:Lib.decDigits 32=[51,50]:=by simp[Lib.decDigits]
 have e81:Lib.decDigits 8192=[56,49,57,50]:=by simp[Lib.decDigits]
 have e1:Lib.decDigits 1=[49]:=by simp[Lib.decDigits]
 simp[iP,lX,dS,nU,e32,e81,e1]
theorem UZ{v:Value}{w:World}(hv:RBk w v jG)(ht:Tab10 w):
  Calls prog 17 #[v] w fun e w'=>e=.returned (.string ⟨#[49,54,32,49,32,49,54,10,51,50,32,49,32,51,50,10,56,49,57,50,32,49,32,56,49,57,50,10]⟩)/\Kt nO w w':=
 (zjs v jG w (by decide) (by simp[jG,jW]) hv ht).mono fun e w' ⟨ks,hk,he,k⟩=>⟨by rw[he,IW hk,wV],k⟩
theorem IT{I:Img}(h:Im4 I):(oW I).toArray=#[97,98,10,49,61,10]:=by
 have l0:gI (I.pg 0)=97:=by unfold gI fP;rw[h.p0.1,h.p0.2.1,h.p0.2.2];first|rfl|simp[celN9]
 have l1:gI (I.pg 1)=98:=by unfold gI fP;rw[h.p1.1,h.p1.2.1,h.p1.2.2];first|rfl|simp[celN9]
 have l2:gI (I.pg 2)=49:=by unfold gI fP;rw[h.p2.1,h.p2.2];first|rfl|simp
 have l3:gI (I.pg 3)=61:=by unfold gI fP;rw[h.p3];first|rfl|simp
 unfold oW;rw[h.ck,if_pos rfl,h.np,h.ord];simp[kO,l0,l1,l2,l3]
theorem UY{I:Img}{V:ImV}{w:World}(h:Im4 I)(hI:ImD w I V):
  Calls prog 16 #[imA I V] w fun e w'=>e=.returned (.string ⟨#[97,98,10,49,61,10]⟩)/\Kt nO w w':=
 (zik I V w hI).mono fun e w' ⟨he,k⟩=>⟨by rw[he,IT h],k⟩
theorem xQ{I:Img}(h:Im4 I):dR I 16=4080:=by
 have r0:fM 16 (cV (I.pg 0))=4080:=by unfold fM cV eW;dsimp only;rw[h.p0.1,h.p0.2.1,h.p0.2.2];first|rfl|simp[celN9]
 have r1:fM 16 (cV (I.pg 1))=0:=by unfold fM cV eW;dsimp only;rw[h.p1.1,h.p1.2.1,h.p1.2.2];first|rfl|simp[celN9]
 have r2:fM 16 (cV (I.pg 2))=0:=by unfold fM cV eW;dsimp only;rw[h.p2.1];simp
 have r3:fM 16 (cV (I.pg 3))=0:=by unfold fM cV eW;dsimp only;rw[h.p3];simp
 unfold dR;rw[h.np];simp[List.range_succ,r0,r1,r2,r3]
theorem UW{I:Img}{V:ImV}{w:World}(h:Im4 I)(hI:ImD w I V):
  Calls prog 15 #[imA I V,.int .u64 16] w fun e w'=>e=.returned (.int .i64 750)/\Kt nO w w':=
 (DH I V 16 (by decide) w hI (fun _ _=>by rw[xQ h,h.nm];decide)).mono fun e w' ⟨he,k⟩=>⟨by
  have e1:fC I.ord.toNat 16=true:=by rw[h.ord];decide
  rw[he];unfold jT;rw[if_pos ⟨by rw[h.ck],e1⟩,h.nm,xQ h];rfl,k⟩
theorem UV(w:World)(hT:jI w)(hP:Tab10 w):Calls prog 10 #[] w fun e w'=>e=.returned (.bool true)/\Kt nO w w':=by
 have NW:=aA (NE w hT);have TP:=aA hP;clear hT hP;go_enter func10,ntmps10;go_wp2_with fail;refine NW.out.mono ?_;rintro e W0 ⟨hb,rfl,hs⟩;have S0:=aA hs;clear hs NW;go_wp2_with fail;refine(VC S0.out).mono ?_;rintro e W1 ⟨rfl,hs⟩;have S1:=aA hs;clear hs S0;go_wp2_with fail;refine(VB S1.out).mono ?_;rintro e W2 ⟨rfl,hs⟩;have S2:=aA hs;clear hs S1;go_wp2_with fail;refine(VA S2.out).mono ?_;rintro e W3 ⟨rfl,hs⟩;have S3:=aA hs;clear hs S2;go_wp2_with fail;refine S3.out.live.mono ?_;rintro e W4 ⟨vl,rfl,hrb,hk⟩;have S4:=aA (S3.out.keep hk);have RB:=aA hrb;clear hk hrb S3;go_wp2_with fail;refine(UZ RB.out (Tab10.keep TP.out S4.out.kp)).mono ?_;rintro e W5 ⟨rfl,hk⟩;have S5:=aA (S4.out.keep hk);clear hk S4 RB;go_wp2_with fail;refine S5.out.image.mono ?_;rintro e W6 ⟨I,V,rfl,hI,h4,hk⟩;have S6:=aA (S5.out.keep hk);have HI:=aA hI;have H4:=aA h4;clear hk hI h4 S5;go_wp2_with fail;refine(UY H4.out HI.out).mono ?_;rintro e W7 ⟨rfl,hk⟩;have S7:=aA (S6.out.keep hk);clear hk S6 HI H4;go_wp2_with fail;refine S7.out.image.mono ?_;rintro e W8 ⟨I2,V2,rfl,hI,h4,hk⟩;have S8:=aA (S7.out.keep hk);have HI:=aA hI;have H4:=aA h4;clear hk hI h4 S7;go_wp2_with fail;refine(UW H4.out HI.out).mono ?_;rintro e W9 ⟨rfl,hk⟩;have S9:=aA (S8.out.keep hk);clear hk S8 HI H4;go_wp2_with fail;go_ret;exact⟨rfl,S9.out.kp⟩
set_option maxHeartbeats 8000000
set_option maxRecDepth 8000
theorem jI.keep'{w w':World}(h:jI w)(k:Kt nO w w'):jI w':=fun j hj=>k.cell id (h j hj)
structure Bx20(w W:World)(ib xb:Nat)(I:Img)(V U:ImV):Prop where
 im:ImAt W ib I V
 cp:ImAt W xb I U
 k:Kt nO w W
theorem Bx20.keep{w W W':World}{ib xb:Nat}{I:Img}{V U:ImV}(h:Bx20 w W ib xb I V U)(hk:Kt nO W W'):Bx20 w W' ib xb I V U:=⟨h.im.keep hk,h.cp.keep hk,nT h.k hk⟩
set_option maxHeartbeats 8000000
set_option maxRecDepth 6000
set_option maxHeartbeats 4000000
set_option maxRecDepth 6000
theorem RBk.two{w:World}{v:Value}{l:List (Nat×Nat)}(h:RBk w v l)(j:Nat)(hj:j<l.length):∃ g oc,v=.slice (some ⟨g,0,none⟩) l.length oc/\w.cell? ⟨g,j*2,none⟩=some (.int .u64 ((l.getD j (0,0)).1:Int))/\w.cell? ⟨g,j*2+1,none⟩=some (.int .u64 ((l.getD j (0,0)).2:Int)):=by
 obtain⟨oa,oc,rfl,h0|⟨g,rfl,-,hc⟩⟩:=h
 ·rw[h0] at hj;simp at hj
 ·exact⟨g,oc,rfl,(hc j hj).1,(hc j hj).2⟩
theorem zir{l:List (Nat×Nat)}{j:Nat}(h:j<l.length):l.take (j + 1)=l.take j ++ [l.getD j (0,0)]:=by
 rw[List.take_succ_eq_append_getElem h,List.getD_eq_getElem?_getD,List.getElem?_eq_getElem h];rfl
set_option maxHeartbeats 8000000
set_option maxRecDepth 8000
set_option maxRecDepth 6000
def sg(f:Nat->Nat)(a:Nat):Nat->Nat
 | 0=>0
 | n+1=>sg f a n+f (a+n)
theorem kH(f:Nat->Nat)(a m:Nat):∀ n,sg f a (m+n)=sg f a m+sg f (a+m) n
 | 0=>rfl
 | n+1=>by
  show sg f a (m+n)+f (a+(m+n))=sg f a m+(sg f (a+m) n+f (a+m+n))
  rw[kH f a m n,Nat.add_assoc a m n];omega
theorem gR{f:Nat->Nat}{a c:Nat} : ∀ n,(∀ i,i<n->f (a+i)=c)->sg f a n=n*c
 | 0,_=>by simp[sg]
 | n+1,h=>by
  unfold sg;rw[gR n fun i hi=>h i (by omega),h n (by omega),Nat.succ_mul]
theorem rX(f:Nat->Nat):∀ n,sg f 0 n=((List.range n).map f).sum
 | 0=>rfl
 | n+1=>by
  unfold sg;rw[rX f n,List.range_succ,List.map_append,List.sum_append,Nat.zero_add];simp
def fA(I:Img)(i:Nat):Nat:=if (I.pg i).kd=0\/(I.pg i).kd=1 then 1 else 0
def fB(I:Img)(i:Nat):Nat:=if (I.pg i).kd=0 then 2 ^ (I.pg i).od.toNat else 0
theorem yN{I:Img}{k r:Nat}(hS:Sn9 I k r):∀ n a,r4F I n a=none->I.np<=a+n->a<=I.np->sg (fA I) a (I.np-a)=sg (fB I) a (I.np-a)
 | 0,a,_,hn,ha=>by rw[show I.np-a=0 by omega];rfl
 | n+1,a,h,hn,ha=>by
  rcases Nat.lt_or_ge a I.np with hlt|hge
  case inr=>rw[show I.np-a=0 by omega];rfl
  unfold r4F at h;rw[if_neg (by omega)] at h;by_cases hh:hdOk (I.pg a) a=false
  ·rw[if_pos hh] at h;cases h
  rw[if_neg hh] at h;have hh:hdOk (I.pg a) a=true:=by simpa using hh
  cases e:fst1 (2 ^ (I.pg a).od.toNat-1) (fun i=>rsOk (I.pg a) (I.pg (a+1+i)))with
  | some i=>rw[e] at h;cases h
  | none=>
   rw[e] at h;have hr:=kK e;have hp : 0<2 ^ (I.pg a).od.toNat:=Nat.two_pow_pos _;obtain⟨kd,od,cl,lv,-,-,y3,y4,-⟩:=hS.pg a hlt;have hod:(I.pg a).od.toNat=od:=(by rw[y3,Int.toNat_natCast]);rw[hod] at h hr hp;obtain⟨P,hP⟩:=xe (2 ^ od);rw[<-hP] at h hr hp;have hkd:=pD hh;rw[hod,<-hP] at hkd;have hfit:a+P<=I.np:=by
    rcases hkd with ⟨_,e0⟩|⟨_,hm⟩
    ·have:od=0:=by omega
     rw[this] at hP;omega
    ·exact mul_fits (by rw[hP];exact hS.dvd od y4) hm hlt
   have ih:=yN hS n (a+P) h (by omega) hfit;have e1:I.np-a=P+(I.np-(a+P)):=(by omega);rw[e1,kH,kH,ih];congr 1
   have rest:∀ i,i<P-1->(I.pg (a+1+i)).kd=(I.pg a).kd+1:=fun i hi=>pE (hr i hi)
   have hsp:P=1+(P-1):=(by omega);rw[hsp,kH,kH];have s1:∀ f:Nat->Nat,sg f a 1=f a:=fun f=>by show 0+f (a+0)=f a;rw[Nat.zero_add,Nat.add_zero]
   rw[s1,s1];rcases hkd with ⟨h4,e0⟩|⟨h0|h2,_⟩
   ·have:od=0:=by omega
    rw[this] at hP;rw[show P-1=0 by rw[hP]];show fA I a+0=fB I a+0
    unfold fA fB;rw[h4];rfl
   ·have ra:sg (fA I) (a+1) (P-1)=(P-1)*1:=gR _ fun i hi=>by
     unfold fA;rw[if_pos (.inr (by rw[rest i hi,h0];rfl))]
    have rb:sg (fB I) (a+1) (P-1)=(P-1)*0:=gR _ fun i hi=>by
     unfold fB;rw[if_neg (by rw[rest i hi,h0];decide)]
    rw[ra,rb];unfold fA fB;rw[if_pos (.inl h0),if_pos h0,hod,<-hP];omega
   ·have ra:sg (fA I) (a+1) (P-1)=(P-1)*0:=gR _ fun i hi=>by
     unfold fA;rw[if_neg (by rw[rest i hi,h2];decide)]
    have rb:sg (fB I) (a+1) (P-1)=(P-1)*0:=gR _ fun i hi=>by
     unfold fB;rw[if_neg (by rw[rest i hi,h2];decide)]
    rw[ra,rb];unfold fA fB;rw[if_neg (by rw[h2];decide),if_neg (by rw[h2];decide)]
theorem ZV{I:Img}(hz:(chk I).1=0):sg (fA I) 0 I.np=sg (fB I) 0 I.np:=by
 obtain⟨r,hS⟩:=kX hz;have:=yN hS (I.np+1) 0 (lU hz 3 (by decide)) (by omega) (Nat.zero_le _);simpa using this
set_option maxRecDepth 6000
def eC(I:Img)(g:Nat):Prop:=(I.pg g).kd=0\/(I.pg g).kd=1
instance (I:Img) (g:Nat):Decidable (eC I g):=by unfold eC;infer_instance
theorem xV{p q:Pg}(h:rsOk p q=true):q.od=p.od:=by
 have:q=aN (p.kd+1) p.od:=of_decide_eq_true h;rw[this];rfl
theorem uU{I:Img}{k r:Nat}(hS:Sn9 I k r):∀ n a,r4F I n a=none->I.np<=a+n->∀ g,a<=g->g<I.np->
  ∃ b o:Nat,b%2 ^ o=0/\b<=g/\g<b+2 ^ o/\b+2 ^ o<=I.np/\o<=k/\(I.pg b).od=(o:Int)/\(((I.pg b).kd=4/\o=0)\/(I.pg b).kd=0\/(I.pg b).kd=2)/\(∀ i,i<2 ^ o->0<i->(I.pg (b+i)).od=(o:Int)/\(I.pg (b+i)).kd=(I.pg b).kd+1)
 | 0,a,_,hn,g,h1,h2=>absurd h2 (by omega)
 | n+1,a,h,hn,g,h1,h2=>by
  unfold r4F at h;rw[if_neg (by omega)] at h;by_cases hh:hdOk (I.pg a) a=false
  ·rw[if_pos hh] at h;cases h
  rw[if_neg hh] at h;have hh:hdOk (I.pg a) a=true:=by simpa using hh
  cases e:fst1 (2 ^ (I.pg a).od.toNat-1) (fun i=>rsOk (I.pg a) (I.pg (a+1+i)))with
  | some i=>rw[e] at h;cases h
  | none=>
   rw[e] at h;have hr:=kK e;obtain⟨kd,od,cl,lv,-,-,y3,y4,-⟩:=hS.pg a (by omega);have hod:(I.pg a).od.toNat=od:=(by rw[y3,Int.toNat_natCast]);have hkd:=pD hh;rw[hod] at h hr hkd;have hp : 0<2 ^ od:=Nat.two_pow_pos _;have hfit:a%2 ^ od=0/\a+2 ^ od<=I.np:=by
    rcases hkd with ⟨_,e0⟩|⟨_,hm⟩
    ·have:od=0:=by omega
     rw[this];exact⟨Nat.mod_one a,by omega⟩
    ·exact⟨hm,mul_fits (hS.dvd od y4) hm (by omega)⟩
   by_cases g2:g<a+2 ^ od
   ·refine⟨a,od,hfit.1,h1,g2,hfit.2,y4,y3,?_,fun i hi h0=>?_⟩
    ·rcases hkd with ⟨h4,e0⟩|⟨h0|h2,_⟩
     ·exact .inl ⟨h4,by omega⟩
     ·exact .inr (.inl h0)
     ·exact .inr (.inr h2)
    ·have:=hr (i-1) (by omega);rw[show a+1+(i-1)=a+i by omega] at this;exact⟨(xV this).trans y3,pE this⟩
   ·exact uU hS n _ h (by omega) g (by omega) h2
theorem uD{I:Img}{k r:Nat}(hS:Sn9 I k r)(h4:r4 I=none){g:Nat}(hg:g<I.np)(hf:eC I g):
  ∃ b o:Nat,b%2 ^ o=0/\b<=g/\g<b+2 ^ o/\b+2 ^ o<=I.np/\o<=k/\(I.pg b).kd=0/\(∀ i,i<2 ^ o->(I.pg (b+i)).od=(o:Int)/\eC I (b+i)):=by
 obtain⟨b,o,h1,h2,h3,h4,h5,h6,h7,h8⟩:=uU hS (I.np+1) 0 h4 (by omega) g (Nat.zero_le _) hg;have h0:(I.pg b).kd=0:=by
  unfold eC at hf;rcases Nat.eq_or_lt_of_le h2 with e|e
  ·subst e;omega
  ·have:=(h8 (g-b) (by omega) (by omega)).2;rw[show b+(g-b)=g by omega] at this;rcases h7 with ⟨h7,e0⟩|h7|h7
   ·rw[e0] at h3;omega
   ·exact h7
   ·omega
 refine⟨b,o,h1,h2,h3,h4,h5,h0,fun i hi=>?_⟩;rcases Nat.eq_zero_or_pos i with e|e
 ·subst e;exact⟨h6,.inl h0⟩
 ·have:=h8 i hi e;exact⟨this.1,.inr (by omega)⟩
theorem MV{I:Img}{k r:Nat}(hS:Sn9 I k r)(h4:r4 I=none){g:Nat}(hg:g<I.np)(hf:(I.pg g).kd=2\/(I.pg g).kd=3):
  ∃ b o:Nat,b<=g/\g<b+2 ^ o/\b<I.np/\(I.pg b).kd=2/\(I.pg b).od=(o:Int):=by
 obtain⟨b,o,h1,h2,h3,h4,h5,h6,h7,h8⟩:=uU hS (I.np+1) 0 h4 (by omega) g (Nat.zero_le _) hg;have h0:(I.pg b).kd=2:=by
  rcases Nat.eq_or_lt_of_le h2 with e|e
  ·subst e;omega
  ·have:=(h8 (g-b) (by omega) (by omega)).2;rw[show b+(g-b)=g by omega] at this;rcases h7 with ⟨h7,e0⟩|h7|h7
   ·rw[e0] at h3;omega
   ·omega
   ·exact h7
 exact⟨b,o,h2,h3,by omega,h0,h6⟩
theorem dy{b o s m g:Nat}(hb:b%2 ^ o=0)(hs:s%2 ^ m=0)(hom:o<=m)(h1:b<=g)(h2:g<b+2 ^ o)(h3:s<=g)(h4:g<s+2 ^ m):s<=b/\b+2 ^ o<=s+2 ^ m:=by
 obtain⟨u,rfl⟩:=Nat.dvd_of_mod_eq_zero hb;have hd : 2 ^ o ∣ 2 ^ m:=Nat.pow_dvd_pow 2 hom;obtain⟨x,hx⟩:=Nat.dvd_trans hd (Nat.dvd_of_mod_eq_zero hs);obtain⟨y,hy⟩:=Nat.dvd_add (Nat.dvd_trans hd (Nat.dvd_of_mod_eq_zero hs)) hd;rw[hy] at h4 ⊢;rw[hx] at h3 ⊢;have e1 : 2 ^ o*u+2 ^ o=2 ^ o*(u+1):=by rw[Nat.mul_succ]
 rw[e1] at h2 ⊢;have a1:x<u+1:=Nat.lt_of_mul_lt_mul_left (Nat.lt_of_le_of_lt h3 h2);have a2:u<y:=Nat.lt_of_mul_lt_mul_left (Nat.lt_of_le_of_lt h1 h4);exact⟨Nat.mul_le_mul_left _ (by omega),Nat.mul_le_mul_left _ a2⟩
theorem TO{b P:Nat}(hb:b%P=0)(hP : 0<P):b%(2*P)=0\/b%(2*P)=P:=by
 have h1:=Nat.mod_add_div b (2*P);have h2:b%(2*P)%P=0:=by rw[Nat.mod_mul_left_mod];exact hb
 have h3:=Nat.mod_lt b (show 0<2*P by omega);obtain⟨z,hz⟩:=Nat.dvd_of_mod_eq_zero h2;rw[hz] at h3 ⊢;have:z<2:=by
  rw[Nat.mul_comm 2 P] at h3;exact Nat.lt_of_mul_lt_mul_left h3
 rcases (show z=0\/z=1 by omega)with rfl|rfl
 ·exact .inl (Nat.mul_zero _)
 ·exact .inr (Nat.mul_one _)
theorem TN{I:Img}{k r:Nat}(hS:Sn9 I k r)(h4:r4 I=none)(h6:∀ a,a<I.np->ok6 I k a=true){s m:Nat}(hs:s%2 ^ m=0)(hm:m<=k)(hsn:s+2 ^ m<=I.np)(hall:∀ i,i<2 ^ m->eC I (s+i)):
  ∀ o,o<m->∀ g,s<=g->g<s+2 ^ m->(I.pg g).od≠(o:Int):=by
 intro o;induction o using Nat.strongRecOn with
 | _ o ih=>
  intro ho g g1 g2 hod;have fr:∀ x,s<=x->x<s+2 ^ m->eC I x:=fun x h1 h2=>by
   have:=hall (x-s) (by omega);rwa [show s+(x-s)=x by omega] at this
  obtain⟨b,o',b1,b2,b3,b4,b5,b6,b7⟩:=uD hS h4 (by omega) (fr g g1 g2);have eo:o'=o:=by
   have:=(b7 (g-b) (by omega)).1;rw[show b+(g-b)=g by omega,hod] at this;omega
  subst eo;obtain⟨d1,d2⟩:=dy b1 hs (by omega) b2 b3 g1 g2;obtain⟨P,hP⟩:=xe (2 ^ o');have hp : 0<P:=by rw[hP];exact Nat.two_pow_pos _
  have hP2 : 2 ^ (o'+1)=2*P:=by rw[Nat.pow_succ,hP,Nat.mul_comm]
  obtain⟨c,hc⟩:=xe (b-b%(2*P));have hcm:c%(2*P)=0:=by
   rw[hc];have:=Nat.mod_add_div b (2*P);rw[show b-b%(2*P)=2*P*(b/(2*P))by omega];exact Nat.mul_mod_right _ _
  have hcb:b=c\/b=c+P:=by
   have h1:=TO (by rw[hP];exact b1) hp;have:=Nat.mod_le b (2*P);omega
  have hcm':c%2 ^ (o'+1)=0:=by rw[hP2];exact hcm
  obtain⟨c1,c2⟩:=dy hcm' hs ho (g:=b) (by omega) (by omega) (by omega) (by rw[<-hP] at d2;omega);rw[hP2] at c2;rw[<-hP] at b1 b3 b4 d2;have hcP:c%P=0:=by
   have:P ∣ 2*P:=⟨2,Nat.mul_comm _ _⟩;exact Nat.mod_eq_zero_of_dvd (Nat.dvd_trans this (Nat.dvd_of_mod_eq_zero hcm))
  have hb0:(I.pg b).kd=0/\(I.pg b).od=(o':Int):=⟨b6,by have:=(b7 0 (Nat.two_pow_pos _)).1;simpa using this⟩
  have other:∀ d,(d=c\/d=c+P)->(I.pg d).kd=0/\(I.pg d).od=(o':Int):=fun d hd=>by
   by_cases e:d=b
   ·subst e;exact hb0
   have hdP:d%P=0:=by
    rcases hd with rfl|rfl
    ·exact hcP
    ·rw[Nat.add_mod_right];exact hcP
   obtain⟨b',q,f1,f2,f3,f4,f5,f6,f7⟩:=uD hS h4 (g:=d) (by omega) (fr d (by omega) (by omega));have hq:(I.pg d).od=(q:Int):=by
    have:=(f7 (d-b') (by omega)).1;rwa [show b'+(d-b')=d by omega] at this
   rcases Nat.lt_trichotomy q o' with h|h|h
   ·exact absurd hq (ih q h (by omega) d (by omega) (by omega))
   ·subst h;rw[<-hP] at f1 f3;have:b'=d:=by
     obtain⟨u,hu⟩:=Nat.dvd_of_mod_eq_zero f1;obtain⟨v,hv⟩:=Nat.dvd_of_mod_eq_zero hdP;have:u=v:=by
      have a1:P*u<=P*v:=(by omega);have a2:P*v<P*(u+1):=(by rw[Nat.mul_succ];omega);have:=Nat.le_of_mul_le_mul_left a1 hp;have:=Nat.lt_of_mul_lt_mul_left a2;omega
     rw[hu,hv,this]
    subst this;exact⟨f6,hq⟩
   ·exfalso
    obtain⟨e1,e2⟩:=dy hcm' f1 h (g:=d) (by omega) (by rw[hP2];omega) f2 f3;rw[hP2] at e2;have:=(f7 (b-b') (by omega)).1;rw[show b'+(b-b')=b by omega,hb0.2] at this;omega
  obtain⟨k1,k2⟩:=other c (.inl rfl);obtain⟨k3,k4⟩:=other (c+P) (.inr rfl);have hk6:=h6 c (by omega);unfold ok6 isF at hk6;rw[k1,k2,Int.toNat_natCast,<-hP,k3,k4] at hk6;have l1:decide ((o':Int)<k)=true:=decide_eq_true (by omega);have l2:decide (c%(2*P)=0)=true:=decide_eq_true hcm;rw[l1,l2] at hk6;simp at hk6
def gV(I:Img)(m i:Nat):Nat:=if eC I i/\m<=(I.pg i).od.toNat then 1 else 0
def gU(I:Img)(m i:Nat):Nat:=if (I.pg i).kd=0/\m<=(I.pg i).od.toNat then 2 ^ (I.pg i).od.toNat else 0
theorem zY{I:Img}{k r:Nat}(m:Nat)(hS:Sn9 I k r):∀ n a,r4F I n a=none->I.np<=a+n->a<=I.np->sg (gV I m) a (I.np-a)=sg (gU I m) a (I.np-a)
 | 0,a,_,hn,ha=>by rw[show I.np-a=0 by omega];rfl
 | n+1,a,h,hn,ha=>by
  rcases Nat.lt_or_ge a I.np with hlt|hge
  case inr=>rw[show I.np-a=0 by omega];rfl
  unfold r4F at h;rw[if_neg (by omega)] at h;by_cases hh:hdOk (I.pg a) a=false
  ·rw[if_pos hh] at h;cases h
  rw[if_neg hh] at h;have hh:hdOk (I.pg a) a=true:=by simpa using hh
  cases e:fst1 (2 ^ (I.pg a).od.toNat-1) (fun i=>rsOk (I.pg a) (I.pg (a+1+i)))with
  | some i=>rw[e] at h;cases h
  | none=>
   rw[e] at h;have hr:=kK e;have hp : 0<2 ^ (I.pg a).od.toNat:=Nat.two_pow_pos _;obtain⟨kd,od,cl,lv,-,-,y3,y4,-⟩:=hS.pg a hlt;have hod:(I.pg a).od.toNat=od:=(by rw[y3,Int.toNat_natCast]);rw[hod] at h hr hp;obtain⟨P,hP⟩:=xe (2 ^ od);rw[<-hP] at h hr hp;have hkd:=pD hh;rw[hod,<-hP] at hkd;have hfit:a+P<=I.np:=by
    rcases hkd with ⟨_,e0⟩|⟨_,hm⟩
    ·have:od=0:=by omega
     rw[this] at hP;omega
    ·exact mul_fits (by rw[hP];exact hS.dvd od y4) hm hlt
   have ih:=zY m hS n (a+P) h (by omega) hfit;have e1:I.np-a=P+(I.np-(a+P)):=(by omega);rw[e1,kH,kH,ih];congr 1
   have rest:∀ i,i<P-1->(I.pg (a+1+i)).kd=(I.pg a).kd+1/\(I.pg (a+1+i)).od.toNat=od:=fun i hi=>⟨pE (hr i hi),by rw[xV (hr i hi),hod]⟩
   have hsp:P=1+(P-1):=(by omega);rw[hsp,kH,kH];have s1:∀ f:Nat->Nat,sg f a 1=f a:=fun f=>by show 0+f (a+0)=f a;rw[Nat.zero_add,Nat.add_zero]
   rw[s1,s1];rcases hkd with ⟨h4,e0⟩|⟨h0|h2,_⟩
   ·have:od=0:=by omega
    rw[this] at hP;rw[show P-1=0 by rw[hP]];show gV I m a+0=gU I m a+0
    unfold gV gU eC;rw[if_neg (by omega),if_neg (by omega)]
   ·by_cases hm:m<=od
    ·have ra:sg (gV I m) (a+1) (P-1)=(P-1)*1:=gR _ fun i hi=>by
      unfold gV eC;rw[if_pos ⟨.inr (by rw[(rest i hi).1,h0];rfl),by rw[(rest i hi).2];exact hm⟩]
     have rb:sg (gU I m) (a+1) (P-1)=(P-1)*0:=gR _ fun i hi=>by
      unfold gU;rw[if_neg (by rw[(rest i hi).1,h0];omega)]
     rw[ra,rb];unfold gV gU eC;rw[if_pos ⟨.inl h0,by rw[hod];exact hm⟩,if_pos ⟨h0,by rw[hod];exact hm⟩,hod,<-hP];omega
    ·have ra:sg (gV I m) (a+1) (P-1)=(P-1)*0:=gR _ fun i hi=>by
      unfold gV;rw[if_neg (by rw[(rest i hi).2];omega)]
     have rb:sg (gU I m) (a+1) (P-1)=(P-1)*0:=gR _ fun i hi=>by
      unfold gU;rw[if_neg (by rw[(rest i hi).2];omega)]
     rw[ra,rb];unfold gV gU;rw[if_neg (by rw[hod];omega),if_neg (by rw[hod];omega)]
   ·have ra:sg (gV I m) (a+1) (P-1)=(P-1)*0:=gR _ fun i hi=>by
     unfold gV eC;rw[if_neg (by rw[(rest i hi).1,h2];omega)]
    have rb:sg (gU I m) (a+1) (P-1)=(P-1)*0:=gR _ fun i hi=>by
     unfold gU;rw[if_neg (by rw[(rest i hi).1,h2];omega)]
    rw[ra,rb];unfold gV gU eC;rw[if_neg (by rw[h2];omega),if_neg (by rw[h2];omega)]
theorem MU{I:Img}{k r:Nat}(hS:Sn9 I k r)(h4:r4 I=none)(h6:∀ a,a<I.np->ok6 I k a=true){s m:Nat}(hs:s%2 ^ m=0)(hm:m<=k)(hsn:s+2 ^ m<=I.np):
  sg (gV I m) s (2 ^ m)=if (∀ i,i<2 ^ m->eC I (s+i)) then 2 ^ m else 0:=by
 by_cases hall:∀ i,i<2 ^ m->eC I (s+i)
 ·rw[if_pos hall,gR (c:=1) _ fun i hi=>?_,Nat.mul_one];unfold gV;obtain⟨kd,od,cl,lv,-,-,y3,y4,-⟩:=hS.pg (s+i) (by omega);refine if_pos ⟨hall i hi,?_⟩;rw[y3,Int.toNat_natCast];refine Nat.le_of_not_lt fun hlt=>?_
  exact TN hS h4 h6 hs hm hsn hall od hlt (s+i) (by omega) (by omega) y3
 ·rw[if_neg hall,gR (c:=0) _ fun i hi=>?_,Nat.mul_zero];unfold gV;refine if_neg fun ⟨hf,hmo⟩=>hall fun j hj=>?_
  obtain⟨b,o,b1,b2,b3,b4,b5,b6,b7⟩:=uD hS h4 (g:=s+i) (by omega) hf;have ho:(I.pg (s+i)).od=(o:Int):=by
   have:=(b7 (s+i-b) (by omega)).1;rwa [show b+(s+i-b)=s+i by omega] at this
  rw[ho,Int.toNat_natCast] at hmo;obtain⟨d1,d2⟩:=dy hs b1 hmo (g:=s+i) (by omega) (by omega) b2 b3;have:=(b7 (s+j-b) (by omega)).2;rwa [show b+(s+j-b)=s+j by omega] at this
set_option maxRecDepth 6000
def iQ(I:Img)(r o:Nat):Bool:=(cG I).all fun b=>!(decide (b.1<I.bS+o+r) && decide (I.bS+o<b.1+b.2)) && !(decide (r<4096) && decide (b.2<4096) && decide (b.2≠r) && decide (b.1/4096=(I.bS+o)/4096))
theorem sF{I:Img}{r o:Nat} : iQ I r o=true↔∀ b∈cG I,¬(b.1<I.bS+o+r/\I.bS+o<b.1+b.2)/\¬(r<4096/\b.2<4096/\b.2≠r/\b.1/4096=(I.bS+o)/4096):=by
 unfold iQ;rw[List.all_eq_true];constructor
 ·intro h b hb;have:=h b hb;simp only[Bool.and_eq_true,Bool.not_eq_true',Bool.and_eq_false_iff,decide_eq_false_iff_not] at this;omega
 ·intro h b hb;have:=h b hb;simp only[Bool.and_eq_true,Bool.not_eq_true',Bool.and_eq_false_iff,decide_eq_false_iff_not];omega
theorem pL{I:Img}{r o:Nat}{b:Nat×Nat}(hb:b∈cG I)(h:(b.1<I.bS+o+r/\I.bS+o<b.1+b.2)\/(r<4096/\b.2<4096/\b.2≠r/\b.1/4096=(I.bS+o)/4096)):iQ I r o=false:=by
 cases e:iQ I r o with
 | false=>rfl
 | true=>
  have:=sF.1 e b hb;exact absurd h (by intro h;rcases h with h|h;exact this.1 h;exact this.2 h)
theorem yQ{I:Img}{b:Nat×Nat}{g:Nat}(h:b∈gG I g):∀ j,g<j->b∈iU I j
 | 0,h0=>absurd h0 (by omega)
 | j+1,h0=>by
  refine List.mem_append.2 ?_;rcases Nat.lt_or_ge g j with h1|h1
  ·exact .inl (yQ h j h1)
  ·rw[show j=g by omega];exact .inr h
theorem uO{I:Img}(hz:(chk I).1=0):cG I=iU I I.np:=by unfold cG;rw[if_pos hz]
theorem AJ{I:Img}(hz:(chk I).1=0){b:Nat×Nat}{g:Nat}(hg:g<I.np)(h:b∈gG I g):b∈cG I:=by rw[uO hz];exact yQ h _ hg
theorem yP{bS g sz i:Nat}{ws:List Nat}(hb:aC ws i=true):∀ j,i<j->(bS+g*4096+i*sz,sz)∈fT bS g sz ws j
 | 0,h0=>absurd h0 (by omega)
 | j+1,h0=>by
  unfold fT;rcases Nat.lt_or_ge i j with h1|h1
  ·have:=yP (bS:=bS) (g:=g) (sz:=sz) hb j h1;split
   ·exact List.mem_append.2 (.inl this)
   ·exact this
  ·obtain rfl:i=j:=(by omega);rw[if_pos hb];exact List.mem_append.2 (.inr (by simp))
theorem uN{bS g sz:Nat}{ws:List Nat}{x:Nat×Nat} : ∀ {j:Nat},x∈fT bS g sz ws j->∃ i,i<j/\aC ws i=true/\x=(bS+g*4096+i*sz,sz)
 | 0,h=>by simp[fT] at h
 | j+1,h=>by
  unfold fT at h;split at h
  ·rename_i hb;rcases List.mem_append.1 h with h|h
   ·obtain⟨i,h1,h2⟩:=uN h;exact⟨i,by omega,h2⟩
   ·exact⟨j,by omega,hb,by simpa using h⟩
  ·obtain⟨i,h1,h2⟩:=uN h;exact⟨i,by omega,h2⟩
structure Ws9(I:Img)(k r:Nat):Prop where
 hz:(chk I).1=0
 hk:k=I.ord.toNat
 hS:Sn9 I k r
 h4:r4 I=none
 h5:∀ g,g<I.np->ok5 (I.pg g)=true
 h6:∀ g,g<I.np->ok6 I k g=true
 hin:∀ g,g<I.np->PgIn (I.pg g)
 b4:I.bS%4096=0
theorem Ws9.of{I:Img}(hz:(chk I).1=0)(hin:∀ g,g<I.np->PgIn (I.pg g)):∃ r,Ws9 I I.ord.toNat r:=by
 obtain⟨r,hS⟩:=kX hz;refine⟨r,hz,rfl,hS,lU hz 3 (by decide),kK (lU hz 4 (by decide)),kK (lU hz 5 (by decide)),hin,?_⟩;have hbm:=hS.bm;unfold M.RS at hbm;have : 4096 ∣ I.bS:=Nat.dvd_trans ⟨_,rfl⟩ (Nat.dvd_of_mod_eq_zero hbm);exact Nat.mod_eq_zero_of_dvd this
section
variable {I:Img} {k r0 g:Nat}
theorem Ws9.cell(h:Ws9 I k r0)(hg:g<I.np)(h4:(I.pg g).kd=4):∃ c l i:Nat,(I.pg g).cl=(c:Int)/\c<=7/\(I.pg g).lv=(l:Int)/\l=aD (aC (wsP (I.pg g))) (celN9 c)/\l<=celN9 c/\i<celN9 c/\aC (wsP (I.pg g)) i=true:=by
 obtain⟨kd,od,cl,lv,-,-,-,-,y5,y6,-⟩:=h.hS.pg g hg;obtain⟨l,g1,g2,g3,g4⟩:=rP (h.hin g hg) y5 y6 h4 (h.h5 g hg);by_cases hn:∃ i,i<celN9 cl/\aC (wsP (I.pg g)) i=true
 ·obtain⟨i,i1,i2⟩:=hn;exact⟨cl,l,i,y5,y6,g1,g4,g3,i1,i2⟩
 ·have:aD (aC (wsP (I.pg g))) (celN9 cl)=0:=DR _ _ fun j hj=>by
   cases e:aC (wsP (I.pg g)) j with
   | false=>rfl
   | true=>exact absurd ⟨j,hj,e⟩ hn
  omega
theorem Ws9.cell_in(h:Ws9 I k r0)(hg:g<I.np)(h4:(I.pg g).kd=4){c i:Nat}(hc:(I.pg g).cl=(c:Int))(hi:i<celN9 c)(hb:aC (wsP (I.pg g)) i=true):(I.bS+g*4096+i*(16*2 ^ c),16*2 ^ c)∈cG I:=by
 refine AJ h.hz hg ?_;unfold gG;rw[if_neg (by omega),if_pos h4,hc,Int.toNat_natCast];exact yP hb _ hi
theorem Ws9.big(h:Ws9 I k r0)(hg:g<I.np)(hf:(I.pg g).kd=2\/(I.pg g).kd=3):∃ b∈cG I,b.1<=I.bS+g*4096/\I.bS+(g+1)*4096<=b.1+b.2:=by
 obtain⟨b,o,h1,h2,h3,h4,h5⟩:=MV h.hS h.h4 hg hf;refine⟨(I.bS+b*4096,4096*2 ^ o),AJ h.hz h3 ?_,?_,?_⟩
 ·unfold gG;rw[if_pos h4,h5,Int.toNat_natCast];exact List.mem_singleton.2 rfl
 ·show I.bS+b*4096<=_;omega
 ·show _<=I.bS+b*4096+4096*2 ^ o;omega
theorem Ws9.meet(h:Ws9 I k r0)(hg:g<I.np){b:Nat×Nat}(hb:b∈cG I)(m1:b.1<I.bS+(g+1)*4096)(m2:I.bS+g*4096<b.1+b.2):((I.pg g).kd=4/\b∈gG I g)\/(I.pg g).kd=2\/(I.pg g).kd=3:=by
 rw[uO h.hz] at hb;obtain⟨g',h1,h2⟩:=uG hb;obtain⟨hok,x1,x2,x3,x4,x5⟩:=yM h.hS h.h4 h1 h2;rcases x3 with k2|k4
 ·have:=x5 k2;rcases Nat.eq_or_lt_of_le (show g'<=g by omega)with e|e
  ·subst e;exact .inr (.inl k2)
  ·right;right
   rcases uI _ _ h.h4 (by omega) g' (by omega) (by omega)with hh|⟨hh,hr⟩
   ·omega
   ·have:=pE (hr (g-(g'+1)) (by omega));rw[show g'+1+(g-(g'+1))=g by omega] at this;omega
 ·have:=x4 k4;have:g'=g:=by omega
  subst this;exact .inl ⟨k4,h2⟩
theorem Ws9.free_no(h:Ws9 I k r0)(hg:g<I.np)(hf:eC I g){b:Nat×Nat}(hb:b∈cG I):¬(b.1<I.bS+(g+1)*4096/\I.bS+g*4096<b.1+b.2):=fun ⟨m1,m2⟩=>by
 unfold eC at hf;rcases h.meet hg hb m1 m2 with ⟨h4,_⟩|h2|h3 <;> omega
theorem Ws9.kinds(h:Ws9 I k r0)(hg:g<I.np):eC I g\/((I.pg g).kd=2\/(I.pg g).kd=3)\/(I.pg g).kd=4:=by
 obtain⟨kd,od,cl,lv,y1,y2,-⟩:=h.hS.pg g hg;unfold eC;omega
theorem Ws9.cel(h:Ws9 I k r0){c i:Nat}(hc:c<=7)(hi:i<celN9 c) : 16<=16*2 ^ c/\16*2 ^ c<=2048/\i*(16*2 ^ c)+16*2 ^ c<=4096:=by
 obtain⟨q,hq⟩:=Nat.dvd_of_mod_eq_zero h.b4;obtain⟨f1,-,-,-,f5⟩:=zM (g:=0) hq hc hi;exact⟨f1,(mP c hc).2.2,f5⟩
theorem Ws9.okBig(h:Ws9 I k r0){s m:Nat}(hsn:s+2 ^ m<=I.np):iQ I (4096*2 ^ m) (s*4096)=decide (∀ i,i<2 ^ m->eC I (s+i)):=by
 obtain⟨P,hP⟩:=xe (2 ^ m);have hp : 0<P:=by rw[hP];exact Nat.two_pow_pos _
 rw[<-hP] at hsn ⊢;by_cases hall:∀ i,i<P->eC I (s+i)
 ·rw[decide_eq_true hall];refine sF.2 fun b hb=>⟨fun ⟨m1,m2⟩=>?_,fun hh=>by omega⟩
  have hok:=(sE hb).2;have hs:=hok.s16;have hlo:=hok.lo;obtain⟨g,hg⟩:=xe (if b.1<=I.bS+s*4096 then s else (b.1-I.bS)/4096);have hgs:s<=g/\g<s+P/\b.1<I.bS+(g+1)*4096/\I.bS+g*4096<b.1+b.2:=by
   rw[hg];split <;> omega
  have:=hall (g-s) (by omega);rw[show s+(g-s)=g by omega] at this;exact h.free_no (by omega) this hb hgs.2.2
 ·rw[decide_eq_false hall];obtain⟨i,hi⟩:=Classical.not_forall.1 hall;obtain⟨hi,hn⟩:=Classical.not_imp.1 hi;rcases h.kinds (g:=s+i) (by omega)with hf|hf|h4
  ·exact absurd hf hn
  ·obtain⟨b,hb,h1,h2⟩:=h.big (by omega) hf;exact pL hb (.inl (by omega))
  ·obtain⟨c,l,j,hc,h7,-,-,-,hj,hbt⟩:=h.cell (by omega) h4;have hb:=h.cell_in (by omega) h4 hc hj hbt;obtain⟨f1,f2,f3⟩:=h.cel h7 hj;refine pL hb (.inl ?_);generalize 16*2 ^ c=z at *;dsimp only;generalize j*z=y at *;omega
theorem Ws9.okFree(h:Ws9 I k r0)(hg:g<I.np)(hf:eC I g){r o:Nat}(h16 : 16<=r)(ho:o+r<=4096):iQ I r (g*4096+o)=true:=by
 refine sF.2 fun b hb=>⟨fun ⟨m1,m2⟩=>?_,fun ⟨hh1,hh2,hh3,hh4⟩=>?_⟩
 ·exact h.free_no hg hf hb (by omega)
 ·have hs:=(sE hb).2.s16;obtain⟨q,hq⟩:=Nat.dvd_of_mod_eq_zero h.b4;exact h.free_no hg hf hb (by omega)
theorem Ws9.okTaken(h:Ws9 I k r0)(hg:g<I.np)(hf:(I.pg g).kd=2\/(I.pg g).kd=3){r o:Nat}(h16 : 16<=r)(ho:o+r<=4096):iQ I r (g*4096+o)=false:=by
 obtain⟨b,hb,h1,h2⟩:=h.big hg hf;exact pL hb (.inl (by omega))
theorem Ws9.okOther(h:Ws9 I k r0)(hg:g<I.np)(h4:(I.pg g).kd=4){c r o:Nat}(hc:(I.pg g).cl=(c:Int))(hr : 16*2 ^ c≠r)(h16 : 16<=r)(ho:o+r<=4096)(hr4:r<4096):iQ I r (g*4096+o)=false:=by
 obtain⟨c',l,j,hc',h7,-,-,-,hj,hbt⟩:=h.cell hg h4;obtain rfl:c'=c:=by omega
 have hb:=h.cell_in hg h4 hc hj hbt;obtain⟨f1,f2,f3⟩:=h.cel h7 hj;refine pL hb (.inr ?_);obtain⟨q,hq⟩:=Nat.dvd_of_mod_eq_zero h.b4;generalize 16*2 ^ c'=z at *;dsimp only;generalize j*z=y at *;omega
theorem Ws9.okCell(h:Ws9 I k r0)(hg:g<I.np)(h4:(I.pg g).kd=4){c i:Nat}(hc:(I.pg g).cl=(c:Int))(h7:c<=7)(hi:i<celN9 c):iQ I (16*2 ^ c) (g*4096+i*(16*2 ^ c))=!aC (wsP (I.pg g)) i:=by
 obtain⟨f1,f2,f3⟩:=h.cel h7 hi
 cases hbt:aC (wsP (I.pg g)) i with
 | true=>
  refine pL (h.cell_in hg h4 hc hi hbt) (.inl ?_);generalize 16*2 ^ c=z at *;dsimp only;generalize i*z=y at *;omega
 | false=>
  refine sF.2 fun b hb=>?_
  have key:b.1<I.bS+(g+1)*4096->I.bS+g*4096<b.1+b.2->∃ j,j<celN9 c/\aC (wsP (I.pg g)) j=true/\b=(I.bS+g*4096+j*(16*2 ^ c),16*2 ^ c):=fun m1 m2=>by
   rcases h.meet hg hb m1 m2 with ⟨-,hm⟩|h2|h3
   ·unfold gG at hm;rw[if_neg (by omega),if_pos h4,hc,Int.toNat_natCast] at hm;exact uN hm
   ·omega
   ·omega
  have hs:=(sE hb).2.s16;obtain⟨q,hq⟩:=Nat.dvd_of_mod_eq_zero h.b4;clear hb;generalize 16*2 ^ c=z at *;constructor
  ·rintro ⟨m1,m2⟩;obtain⟨j,hj,hjb,rfl⟩:=key (by omega) (Nat.lt_of_le_of_lt (by rw[<-Nat.add_assoc];exact Nat.le_add_right _ _) m2);dsimp only at m1 m2;have:j=i:=by
    have a1:j*z<(i+1)*z:=(by have e:(i+1)*z=i*z+z:=Nat.succ_mul i z;omega);have a2:i*z<(j+1)*z:=(by have e:(j+1)*z=j*z+z:=Nat.succ_mul j z;omega);have:=Nat.lt_of_mul_lt_mul_right a1;have:=Nat.lt_of_mul_lt_mul_right a2;omega
   subst this;rw[hbt] at hjb
   cases hjb
  ·rintro ⟨hh1,hh2,hh3,hh4⟩;obtain⟨j,hj,hjb,rfl⟩:=key (by omega) (by omega);exact hh3 rfl
end
def fI(I:Img)(r n:Nat):Nat:=sg (fun j=>if iQ I r (j*r)=true then r else 0) 0 n
theorem vX(I:Img)(r n:Nat):fI I r (n+1)=fI I r n+if iQ I r (n*r)=true then r else 0:=by
 unfold fI;rw[sg,Nat.zero_add]
theorem uE(I:Img)(r:Nat):∀ n,fI I r n<=n*r
 | 0=>by simp[fI,sg]
 | n+1=>by
  rw[vX,Nat.succ_mul];have:=uE I r n;split <;> omega
theorem AI{f:Nat->Nat}{h:Nat->Bool}{a r:Nat} : ∀ n,(∀ i,i<n->f (a+i)=if h i=true then 0 else r)->sg f a n=(n-aD h n)*r
 | 0,_=>by simp[sg]
 | n+1,hf=>by
  unfold sg;rw[AI n (fun i hi=>hf i (by omega)),hf n (by omega)];have hle:=pU h n
  cases e:h n with
  | true=>rw[lI _ _ e,if_pos rfl,show n+1-(aD h n+1)=n-aD h n by omega];rfl
  | false=>rw[kL _ _ e,if_neg (by decide),show n+1-aD h n=n-aD h n+1 by omega,Nat.succ_mul]
theorem NN{I:Img}{k r0:Nat}(h:Ws9 I k r0)(m:Nat):dR I (4096*2 ^ m)=4096*sg (gU I m) 0 I.np:=by
 rw[rX];unfold dR;rw[List.map_map];have key:∀ n,n<=I.np->((List.range n).map ((fM (4096*2 ^ m)) ∘ fun i=>cV (I.pg i))).sum=4096*((List.range n).map (gU I m)).sum:=fun n=>by
  induction n with
  | zero=>intro _;rfl
  | succ n ih=>
   intro hn;rw[List.range_succ,List.map_append,List.map_append,List.sum_append,List.sum_append,ih (by omega),Nat.mul_add];congr 1
   obtain⟨kd,od,cl,lv,y1,y2,y3,y4,y5,y6,-⟩:=h.hS.pg n (by omega);simp only[List.map_singleton,List.sum_singleton,Function.comp];show eW (I.pg n).kd (I.pg n).od.toNat (I.pg n).cl.toNat (I.pg n).lv.toNat (4096*2 ^ m)=4096*gU I m n
   unfold eW gU;rw[y3,y5,Int.toNat_natCast,Int.toNat_natCast];have hle:(4096*2 ^ m<=4096*2 ^ od)↔m<=od:=by
    constructor
    ·intro e;exact(Nat.pow_le_pow_iff_right (by decide)).1 (Nat.le_of_mul_le_mul_left e (by decide))
    ·intro e;exact Nat.mul_le_mul_left _ (Nat.pow_le_pow_right (by decide) e)
   by_cases h0:(I.pg n).kd=0
   ·rw[if_pos h0];by_cases hm:m<=od
    ·rw[if_pos (hle.2 hm),if_pos (show(I.pg n).kd=0/\m<=od from⟨h0,hm⟩)]
    ·rw[if_neg (fun e=>hm (hle.1 e)),if_neg (show ¬((I.pg n).kd=0/\m<=od)from fun e=>hm e.2),Nat.mul_zero]
   ·rw[if_neg h0,if_neg (show ¬((I.pg n).kd=0/\m<=od)from fun e=>h0 e.1)];have:=(mP cl y6).2.2;have hp : 0<2 ^ m:=Nat.two_pow_pos m;split
    ·rw[if_neg (by omega),Nat.mul_zero]
    ·rw[Nat.mul_zero]
 exact key I.np (Nat.le_refl _)
theorem YY{I:Img}{k r0:Nat}(h:Ws9 I k r0)(m:Nat)(hm:m<=k):fI I (4096*2 ^ m) (I.nm/(4096*2 ^ m))=dR I (4096*2 ^ m):=by
 obtain⟨Q,hQ⟩:=h.hS.dvd m hm;have hp : 0<2 ^ m:=Nat.two_pow_pos m;have hq:I.nm/(4096*2 ^ m)=Q:=by
  rw[h.hS.nm,hQ,show 2 ^ m*Q*4096=Q*(4096*2 ^ m)by rw[Nat.mul_comm (2 ^ m) Q,Nat.mul_assoc,Nat.mul_comm (2 ^ m) 4096]];exact Nat.mul_div_cancel _ (by omega)
 rw[hq,NN h m];have key:∀ n,n<=Q->fI I (4096*2 ^ m) n=4096*sg (gV I m) 0 (n*2 ^ m):=fun n=>by
  induction n with
  | zero=>intro _;simp[fI,sg]
  | succ n ih=>
   intro hn;have hfit:n*2 ^ m+2 ^ m<=I.np:=by
    rw[hQ,Nat.mul_comm (2 ^ m) Q,<-Nat.succ_mul];exact Nat.mul_le_mul_right _ hn
   rw[vX,ih (by omega),Nat.succ_mul n (2 ^ m),kH,Nat.mul_add,Nat.zero_add];congr 1
   rw[MU h.hS h.h4 h.h6 (Nat.mul_mod_left _ _) hm hfit,show n*(4096*2 ^ m)=n*2 ^ m*4096 by rw[Nat.mul_assoc,Nat.mul_comm (2 ^ m) 4096],h.okBig hfit];by_cases hall:∀ i,i<2 ^ m->eC I (n*2 ^ m+i)
   ·rw[decide_eq_true hall,if_pos rfl,if_pos hall]
   ·rw[decide_eq_false hall,if_neg (by decide),if_neg hall]
 rw[key Q (Nat.le_refl _),show Q*2 ^ m=I.np by rw[hQ,Nat.mul_comm]];have:=zY m h.hS (I.np+1) 0 h.h4 (by omega) (Nat.zero_le _);rw[Nat.sub_zero] at this;rw[this]
def iJ(I:Img)(r g:Nat):Nat:=if (I.pg g).kd=4/\16*2 ^ (I.pg g).cl.toNat=r then (celN9 (I.pg g).cl.toNat-(I.pg g).lv.toNat)*r else 0
theorem YX{I:Img}{k r0 r:Nat}(h:Ws9 I k r0)(hr:r<=4096):dR I r=4096*sg (fB I) 0 I.np+sg (iJ I r) 0 I.np:=by
 rw[rX,rX];unfold dR;rw[List.map_map];have key:∀ n,n<=I.np->((List.range n).map ((fM r) ∘ fun i=>cV (I.pg i))).sum=4096*((List.range n).map (fB I)).sum+((List.range n).map (iJ I r)).sum:=fun n=>by
  induction n with
  | zero=>intro _;rfl
  | succ n ih=>
   intro hn;have e:eW (I.pg n).kd (I.pg n).od.toNat (I.pg n).cl.toNat (I.pg n).lv.toNat r=4096*fB I n+iJ I r n:=by
    unfold eW fB iJ;have hp : 0<2 ^ (I.pg n).od.toNat:=Nat.two_pow_pos _;by_cases h0:(I.pg n).kd=0
    ·rw[if_pos h0,if_pos h0,if_neg (show ¬((I.pg n).kd=4/\16*2 ^ (I.pg n).cl.toNat=r)from fun e=>by omega),if_pos (Nat.le_trans hr (Nat.le_mul_of_pos_right _ hp))];rfl
    ·rw[if_neg h0,if_neg h0];by_cases h4:(I.pg n).kd=4
     ·rw[if_pos h4];by_cases hq : 16*2 ^ (I.pg n).cl.toNat=r
      ·rw[if_pos hq,if_pos ⟨h4,hq⟩];omega
      ·rw[if_neg hq,if_neg (fun e=>hq e.2)]
     ·rw[if_neg h4,if_neg (fun e=>h4 e.1)]
   rw[List.range_succ,List.map_append,List.map_append,List.map_append,List.sum_append,List.sum_append,List.sum_append,ih (by omega)];simp only[List.map_singleton,List.sum_singleton,Function.comp];show _+eW (I.pg n).kd (I.pg n).od.toNat (I.pg n).cl.toNat (I.pg n).lv.toNat r=_
   rw[e];omega
 exact key I.np (Nat.le_refl _)
theorem zhD{I:Img}{k r0 r q:Nat}(h:Ws9 I k r0)(h16 : 16<=r)(hr:r<4096)(hq:q*r=4096):fI I r (I.nm/r)=dR I r:=by
 have hnm:I.nm/r=I.np*q:=by
  rw[h.hS.nm,<-hq,<-Nat.mul_assoc];exact Nat.mul_div_cancel _ (by omega)
 rw[hnm,YX h (by omega),<-ZV h.hz];have key:∀ n,n<=I.np->fI I r (n*q)=4096*sg (fA I) 0 n+sg (iJ I r) 0 n:=fun n=>by
  induction n with
  | zero=>intro _;simp[fI,sg]
  | succ n ih=>
   intro hn;have ih:=ih (by omega);unfold fI at ih ⊢;rw[Nat.succ_mul,kH,ih,Nat.zero_add];have e1:sg (fA I) 0 (n+1)=sg (fA I) 0 n+fA I n:=(by show sg (fA I) 0 n+fA I (0+n)=_;rw[Nat.zero_add]);have e2:sg (iJ I r) 0 (n+1)=sg (iJ I r) 0 n+iJ I r n:=(by show sg (iJ I r) 0 n+iJ I r (0+n)=_;rw[Nat.zero_add]);rw[e1,e2];suffices e3:sg (fun j=>if iQ I r (j*r)=true then r else 0) (n*q) q=4096*fA I n+iJ I r n by rw[e3];omega
   have at':∀ i,(n*q+i)*r=n*4096+i*r:=fun i=>by rw[Nat.add_mul,Nat.mul_assoc,hq]
   have cS:∀ i,i<q->i*r+r<=4096:=fun i hi=>by
    rw[<-Nat.succ_mul,<-hq];exact Nat.mul_le_mul_right _ hi
   rcases h.kinds (g:=n) (by omega)with hf|hf|h4
   ·rw[gR (c:=r) _ fun i hi=>by rw[at',h.okFree (by omega) hf h16 (cS i hi),if_pos rfl],hq];unfold fA iJ;unfold eC at hf;rw[if_pos hf,if_neg (fun e=>by omega)]
   ·rw[gR (c:=0) _ fun i hi=>by rw[at',h.okTaken (by omega) hf h16 (cS i hi),if_neg (by decide)],Nat.mul_zero];unfold fA iJ;rw[if_neg (by omega),if_neg (fun e=>by omega)]
   ·obtain⟨c,l,i0,hc,h7,hl,hlb,hle,-⟩:=h.cell (g:=n) (by omega) h4;by_cases hz : 16*2 ^ c=r
    ·have hcn:q=celN9 c:=by
      have:=(mP c h7).1;rw[hz,<-hq] at this;exact(Nat.eq_of_mul_eq_mul_right (by omega) this).symm
     rw[AI (h:=aC (wsP (I.pg n))) (r:=r) q fun i hi=>by
      have:=h.okCell (g:=n) (by omega) h4 hc h7 (i:=i) (by omega);rw[hz] at this;rw[at',this]
      cases aC (wsP (I.pg n)) i <;> rfl]
     unfold fA iJ;rw[if_neg (by omega),hc,Int.toNat_natCast,if_pos ⟨h4,hz⟩,hl,Int.toNat_natCast,hcn,<-hlb];omega
    ·rw[gR (c:=0) _ fun i hi=>by rw[at',h.okOther (by omega) h4 hc hz h16 (cS i hi) hr,if_neg (by decide)],Nat.mul_zero];unfold fA iJ;rw[if_neg (by omega),hc,Int.toNat_natCast,if_neg (fun e=>hz e.2)]
 exact key I.np (Nat.le_refl _)
theorem uM{I:Img}{k r0 r:Nat}(h:Ws9 I k r0)(hr:fC k r=true):fI I r (I.nm/r)=dR I r:=by
 unfold fC at hr;simp only[Bool.and_eq_true,decide_eq_true_eq] at hr;obtain⟨hp,h16,hk⟩:=hr;obtain⟨e,rfl⟩:=(SJ r).1 hp;rcases Nat.lt_or_ge e 12 with he|he
 ·refine zhD (q:=2 ^ (12-e)) h h16 ?_ ?_
  ·exact Nat.lt_of_lt_of_le (Nat.pow_lt_pow_right (by decide) he) (by decide)
  ·rw[<-Nat.pow_add,show 12-e+e=12 by omega]
 ·obtain⟨m,rfl⟩:∃ m,e=12+m:=⟨e-12,by omega⟩;rw[Nat.pow_add] at hk ⊢;exact YY h m ((Nat.pow_le_pow_iff_right (by decide)).1 (Nat.le_of_mul_le_mul_left hk (by decide)))
end Go.Proofs.YtkfmheelhinjdaaGreatDoor.W
