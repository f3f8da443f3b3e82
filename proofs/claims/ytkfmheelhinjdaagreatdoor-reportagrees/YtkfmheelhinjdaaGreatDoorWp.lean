import Derived.Test.YtkfmheelhinjdaaGreatDoorZa
import Derived.Test.YtkfmheelhinjdaaGreatDoorWt
import Derived.Test.YtkfmheelhinjdaaGreatDoorRows
import Derived.Test.YtkfmheelhinjdaaGreatDoorCards
import Derived.Test.YtkfmheelhinjdaaGreatDoorTie
import Derived.LaidMore
import Derived.LaidSub
import Derived.ShutString
import Derived.ChangeOld
import Derived.Below
import Derived.Stop.Joined
import Derived.Lib.LaidTab
import Derived.SevenTiedAt
set_option maxRecDepth 1000000
set_option maxHeartbeats 80000000
namespace Go.Proofs.YtkfmheelhinjdaaGreatDoor.W
open _root_.Go.Proofs.Tryz
open Go.RowKit
set_option linter.unusedVariables false
set_option maxHeartbeats 8000000
set_option maxRecDepth 8000
theorem QH{w1 U:World}{hb:Nat}(s:KH w1 U hb 0 [] [] [] qP false):Calls prog 12 #[.pointer (some ⟨hb,0,none⟩),.int .u64 0,.bool false] U fun e w'=>e=tE 65536 0/\KH w1 w' hb 8192 [1] [] [(0,0)] Q1 false:=s.mal_grow 0 rfl 0 (by decide) 4 (by decide) (by decide) 0 (by decide) rfl rfl (by decide)
theorem QG{w1 U:World}{hb:Nat}(s:KH w1 U hb 8192 [1] [] [(0,0)] Q1 false):Calls prog 12 #[.pointer (some ⟨hb,0,none⟩),.int .u64 17,.bool false] U fun e w'=>e=tE 69632 0/\KH w1 w' hb 8192 [] [] [(0,0),(1,0)] Q2 false:=s.mal_here 17 (by decide) false 5 (by decide) (by decide) 1 (by decide) rfl rfl
theorem QE{w1 U:World}{hb:Nat}(s:KH w1 U hb 8192 [] [] [(0,0),(1,0)] Q2 false):Calls prog 12 #[.pointer (some ⟨hb,0,none⟩),.int .u64 4097,.bool false] U fun e w'=>e=tE 73728 0/\KH w1 w' hb 16384 [] [] [(0,0),(1,0),(2,1)] Q2 false:=s.pg_grow 2 rfl 4097 (by decide) (by decide) (by decide)
abbrev iV:List (Nat×Nat):=[(65536,16),(69632,32),(73728,8192)]
theorem LJ{ks:List Nat}(h:oL iV ks):ks=[16,32,8192]:=
 h.uniq ⟨by decide,fun x=>by simp[dP,iV]⟩
theorem vP:(iF iV [16,32,8192]).toArray=#[49,54,32,49,32,49,54,10,51,50,32,49,32,51,50,10,56,49,57,50,32,49,32,56,49,57,50,10]:=by
 have nG:Lib.decDigits 16=[49,54]:=by simp[Lib.decDigits]
 have e32:Lib.decDigits 32=[51,50]:=by simp[Lib.decDigits]
 have e81:Lib.decDigits 8192=[56,49,57,50]:=by simp[Lib.decDigits]
 have e1:Lib.decDigits 1=[49]:=by simp[Lib.decDigits]
 simp[iF,lJ,dP,nG,e32,e81,e1]
theorem QD{v:Value}{w:World}(hv:RBk w v iV)(ht:Tab10 w):
  Calls prog 17 #[v] w fun e w'=>e=.returned (.string ⟨#[49,54,32,49,32,49,54,10,51,50,32,49,32,51,50,10,56,49,57,50,32,49,32,56,49,57,50,10]⟩)/\Kt nO w w':=
 (zi8 v iV w (by decide) (by simp[iV,jI]) hv ht).mono fun e w' ⟨ks,hk,he,k⟩=>⟨by rw[he,LJ hk,vP],k⟩
theorem LI{I:Img}(h:Im4 I):(gU I).toArray=#[97,98,10,49,61,10]:=by
 have l0:fD (I.pg 0)=97:=by unfold fD eQ;rw[h.p0.1,h.p0.2.1,h.p0.2.2];first|rfl|simp[celN9]
 have l1:fD (I.pg 1)=98:=by unfold fD eQ;rw[h.p1.1,h.p1.2.1,h.p1.2.2];first|rfl|simp[celN9]
 have l2:fD (I.pg 2)=49:=by unfold fD eQ;rw[h.p2.1,h.p2.2];first|rfl|simp
 have l3:fD (I.pg 3)=61:=by unfold fD eQ;rw[h.p3];first|rfl|simp
 unfold gU;rw[h.ck,if_pos rfl,h.np,h.ord];simp[gB,l0,l1,l2,l3]
theorem QC{I:Img}{V:ImV}{w:World}(h:Im4 I)(hI:ImD w I V):
  Calls prog 16 #[imA I V] w fun e w'=>e=.returned (.string ⟨#[97,98,10,49,61,10]⟩)/\Kt nO w w':=
 (DR I V w hI).mono fun e w' ⟨he,k⟩=>⟨by rw[he,LI h],k⟩
theorem wU{I:Img}(h:Im4 I):gM I 16=4080:=by
 have r0:fS 16 (bP (I.pg 0))=4080:=by unfold fS bP fI;dsimp only;rw[h.p0.1,h.p0.2.1,h.p0.2.2];first|rfl|simp[celN9]
 have r1:fS 16 (bP (I.pg 1))=0:=by unfold fS bP fI;dsimp only;rw[h.p1.1,h.p1.2.1,h.p1.2.2];first|rfl|simp[celN9]
 have r2:fS 16 (bP (I.pg 2))=0:=by unfold fS bP fI;dsimp only;rw[h.p2.1];simp
 have r3:fS 16 (bP (I.pg 3))=0:=by unfold fS bP fI;dsimp only;rw[h.p3];simp
 unfold gM;rw[h.np];simp[List.range_succ,r0,r1,r2,r3]
theorem QB{I:Img}{V:ImV}{w:World}(h:Im4 I)(hI:ImD w I V):
  Calls prog 15 #[imA I V,.int .u64 16] w fun e w'=>e=.returned (.int .i64 750)/\Kt nO w w':=
 (uU I V 16 (by decide) w hI (fun _ _=>by rw[wU h,h.nm];decide)).mono fun e w' ⟨he,k⟩=>⟨by
  have e1:lG I.ord.toNat 16=true:=by rw[h.ord];decide
  rw[he];unfold kQ;rw[if_pos ⟨by rw[h.ck],e1⟩,h.nm,wU h];rfl,k⟩
theorem QA(w:World)(hT:iX w)(hP:Tab10 w):Calls prog 10 #[] w fun e w'=>e=.returned (.bool true)/\Kt nO w w':=by
 have NW:=aA (IL w hT);have TP:=aA hP;clear hT hP;go_enter func10,ntmps10;go_wp2_with fail;refine NW.out.mono ?_;rintro e W0 ⟨hb,rfl,hs⟩;have S0:=aA hs;clear hs NW;go_wp2_with fail;refine(QH S0.out).mono ?_;rintro e W1 ⟨rfl,hs⟩;have S1:=aA hs;clear hs S0;go_wp2_with fail;refine(QG S1.out).mono ?_;rintro e W2 ⟨rfl,hs⟩;have S2:=aA hs;clear hs S1;go_wp2_with fail;refine(QE S2.out).mono ?_;rintro e W3 ⟨rfl,hs⟩;have S3:=aA hs;clear hs S2;go_wp2_with fail;refine S3.out.live.mono ?_;rintro e W4 ⟨vl,rfl,hrb,hk⟩;have S4:=aA (S3.out.keep hk);have RB:=aA hrb;clear hk hrb S3;go_wp2_with fail;refine(QD RB.out (Tab10.keep TP.out S4.out.kp)).mono ?_;rintro e W5 ⟨rfl,hk⟩;have S5:=aA (S4.out.keep hk);clear hk S4 RB;go_wp2_with fail;refine S5.out.image.mono ?_;rintro e W6 ⟨I,V,rfl,hI,h4,hk⟩;have S6:=aA (S5.out.keep hk);have HI:=aA hI;have H4:=aA h4;clear hk hI h4 S5;go_wp2_with fail;refine(QC H4.out HI.out).mono ?_;rintro e W7 ⟨rfl,hk⟩;have S7:=aA (S6.out.keep hk);clear hk S6 HI H4;go_wp2_with fail;refine S7.out.image.mono ?_;rintro e W8 ⟨I2,V2,rfl,hI,h4,hk⟩;have S8:=aA (S7.out.keep hk);have HI:=aA hI;have H4:=aA h4;clear hk hI h4 S7;go_wp2_with fail;refine(QB H4.out HI.out).mono ?_;rintro e W9 ⟨rfl,hk⟩;have S9:=aA (S8.out.keep hk);clear hk S8 HI H4;go_wp2_with fail;go_ret;exact⟨rfl,S9.out.kp⟩
set_option maxHeartbeats 8000000
set_option maxRecDepth 8000
theorem iX.keep'{w w':World}(h:iX w)(k:Kt nO w w'):iX w':=fun j hj=>k.cell id (h j hj)
structure Bx20(w W:World)(ib xb:Nat)(I:Img)(V U:ImV):Prop where
 im:ImAt W ib I V
 cp:ImAt W xb I U
 k:Kt nO w W
theorem Bx20.keep{w W W':World}{ib xb:Nat}{I:Img}{V U:ImV}(h:Bx20 w W ib xb I V U)(hk:Kt nO W W'):Bx20 w W' ib xb I V U:=⟨h.im.keep hk,h.cp.keep hk,nT h.k hk⟩
set_option maxHeartbeats 8000000
set_option maxRecDepth 8000
set_option maxRecDepth 6000
def sg(f:Nat->Nat)(a:Nat):Nat->Nat
 | 0=>0
 | n+1=>sg f a n+f (a+n)
theorem oV(f:Nat->Nat)(a m:Nat):∀ n,sg f a (m+n)=sg f a m+sg f (a+m) n
 | 0=>rfl
 | n+1=>by
  show sg f a (m+n)+f (a+(m+n))=sg f a m+(sg f (a+m) n+f (a+m+n))
  rw[oV f a m n,Nat.add_assoc a m n];omega
theorem pK{f:Nat->Nat}{a c:Nat} : ∀ n,(∀ i,i<n->f (a+i)=c)->sg f a n=n*c
 | 0,_=>by simp[sg]
 | n+1,h=>by
  unfold sg;rw[pK n fun i hi=>h i (by omega),h n (by omega),Nat.succ_mul]
theorem xE(f:Nat->Nat):∀ n,sg f 0 n=((List.range n).map f).sum
 | 0=>rfl
 | n+1=>by
  unfold sg;rw[xE f n,List.range_succ,List.map_append,List.sum_append,Nat.zero_add];simp
theorem wN{f:Nat->Nat}{a:Nat} : ∀ n,(∀ i,i<n->f (a+i)<=1)->sg f a n<=n
 | 0,_=>Nat.le_refl _
 | n+1,h=>by
  unfold sg;have:=wN n fun i hi=>h i (by omega)
  have:=h n (by omega);omega
def fA(I:Img)(i:Nat):Nat:=if (I.pg i).kd=0\/(I.pg i).kd=1 then 1 else 0
def fB(I:Img)(i:Nat):Nat:=if (I.pg i).kd=0 then 2 ^ (I.pg i).od.toNat else 0
theorem xD{I:Img}{k r:Nat}(hS:Sn9 I k r):∀ n a,r4F I n a=none->I.np<=a+n->a<=I.np->sg (fA I) a (I.np-a)=sg (fB I) a (I.np-a)
 | 0,a,_,hn,ha=>by rw[show I.np-a=0 by omega];rfl
 | n+1,a,h,hn,ha=>by
  rcases Nat.lt_or_ge a I.np with hlt|hge
  case inr=>rw[show I.np-a=0 by omega];rfl
  unfold r4F at h;rw[if_neg (by omega)] at h;by_cases hh:hdOk (I.pg a) a=false
  ·rw[if_pos hh] at h;cases h
  rw[if_neg hh] at h;have hh:hdOk (I.pg a) a=true:=by simpa using hh
  cases e:fst1 (2 ^ (I.pg a).od.toNat-1) (fun i=>rsOk (I.pg a) (I.pg (a+1+i)))with
  | some i=>rw[e] at h;cases h
  | none=>
   rw[e] at h;have hr:=mU e;have hp : 0<2 ^ (I.pg a).od.toNat:=Nat.two_pow_pos _;obtain⟨kd,od,cl,lv,-,-,y3,y4,-⟩:=hS.pg a hlt;have hod:(I.pg a).od.toNat=od:=(by rw[y3,Int.toNat_natCast]);rw[hod] at h hr hp;obtain⟨P,hP⟩:=xe (2 ^ od);rw[<-hP] at h hr hp;have hkd:=wK hh;rw[hod,<-hP] at hkd;have hfit:a+P<=I.np:=by
    rcases hkd with ⟨_,e0⟩|⟨_,hm⟩
    ·have:od=0:=by omega
     rw[this] at hP;omega
    ·exact mul_fits (by rw[hP];exact hS.dvd od y4) hm hlt
   have ih:=xD hS n (a+P) h (by omega) hfit;have e1:I.np-a=P+(I.np-(a+P)):=(by omega);rw[e1,oV,oV,ih];congr 1
   have rest:∀ i,i<P-1->(I.pg (a+1+i)).kd=(I.pg a).kd+1:=fun i hi=>wL (hr i hi)
   have hsp:P=1+(P-1):=(by omega);rw[hsp,oV,oV];have s1:∀ f:Nat->Nat,sg f a 1=f a:=fun f=>by show 0+f (a+0)=f a;rw[Nat.zero_add,Nat.add_zero]
   rw[s1,s1];rcases hkd with ⟨h4,e0⟩|⟨h0|h2,_⟩
   ·have:od=0:=by omega
    rw[this] at hP;rw[show P-1=0 by rw[hP]];show fA I a+0=fB I a+0
    unfold fA fB;rw[h4];rfl
   ·have ra:sg (fA I) (a+1) (P-1)=(P-1)*1:=pK _ fun i hi=>by
     unfold fA;rw[if_pos (.inr (by rw[rest i hi,h0];rfl))]
    have rb:sg (fB I) (a+1) (P-1)=(P-1)*0:=pK _ fun i hi=>by
     unfold fB;rw[if_neg (by rw[rest i hi,h0];decide)]
    rw[ra,rb];unfold fA fB;rw[if_pos (.inl h0),if_pos h0,hod,<-hP];omega
   ·have ra:sg (fA I) (a+1) (P-1)=(P-1)*0:=pK _ fun i hi=>by
     unfold fA;rw[if_neg (by rw[rest i hi,h2];decide)]
    have rb:sg (fB I) (a+1) (P-1)=(P-1)*0:=pK _ fun i hi=>by
     unfold fB;rw[if_neg (by rw[rest i hi,h2];decide)]
    rw[ra,rb];unfold fA fB;rw[if_neg (by rw[h2];decide),if_neg (by rw[h2];decide)]
theorem AR{I:Img}(hz:(chk I).1=0):sg (fA I) 0 I.np=sg (fB I) 0 I.np:=by
 obtain⟨r,hS⟩:=mV hz;have:=xD hS (I.np+1) 0 (mT hz 3 (by decide)) (by omega) (Nat.zero_le _);simpa using this
theorem GI(I:Img):sg (fA I) 0 I.np<=I.np:=wN _ fun i _=>by unfold fA;split <;> omega
theorem MS{I:Img}{w:World}{V:ImV}(hI:ImD w I V)(hz:(chk I).1=0):gM I 4096=4096*sg (fB I) 0 I.np:=by
 rw[xE];unfold gM;rw[List.map_map];have key:∀ n,n<=I.np->((List.range n).map ((fS 4096) ∘ fun i=>bP (I.pg i))).sum=4096*((List.range n).map (fB I)).sum:=fun n=>by
  induction n with
  | zero=>intro _;rfl
  | succ n ih=>
   intro hn;rw[List.range_succ,List.map_append,List.map_append,List.sum_append,List.sum_append,ih (by omega),Nat.mul_add];congr 1
   obtain⟨o,c,l,sh⟩:=wS hI hz n (by omega);have e1:(I.pg n).od=(o:Int):=sh.od;have e2:(I.pg n).cl=(c:Int):=sh.cl;simp only[List.map_singleton,List.sum_singleton,Function.comp];show fI (I.pg n).kd (I.pg n).od.toNat (I.pg n).cl.toNat (I.pg n).lv.toNat 4096=4096*fB I n
   unfold fI fB;have hp : 0<2 ^ (I.pg n).od.toNat:=Nat.two_pow_pos _;by_cases h0:(I.pg n).kd=0
   ·rw[if_pos h0,if_pos h0,if_pos (Nat.le_mul_of_pos_right _ hp)]
   ·rw[if_neg h0,if_neg h0];by_cases h4:(I.pg n).kd=4
    ·rw[if_pos h4,if_neg];rw[e2,Int.toNat_natCast];have:=(jU c sh.c7).2;omega
    ·rw[if_neg h4]
 exact key I.np (Nat.le_refl _)
set_option maxRecDepth 6000
theorem OG{I:Img}(hz:(chk I).1=0) : 0<=I.reg/\I.np=I.reg.toNat*2 ^ I.ord.toNat:=by
 have hr:r2 I I.ord.toNat=none:=mT hz 1 (by decide);unfold r2 at hr;by_cases c1:wiB I.reg 0 I.lim=false
 ·rw[if_pos c1] at hr;cases hr
 rw[if_neg c1] at hr;by_cases c2:I.nm≠I.reg.toNat*2 ^ I.ord.toNat*4096
 ·rw[if_pos c2] at hr;cases hr
 rw[if_neg c2] at hr;by_cases c3:I.np≠I.reg.toNat*2 ^ I.ord.toNat
 ·rw[if_pos c3] at hr;cases hr
 refine⟨?_,Decidable.not_not.1 c3⟩;have:wiB I.reg 0 I.lim=true:=by simpa using c1
 unfold wiB at this;exact(of_decide_eq_true this).1
theorem QP{p:Pg}{o c:Nat}(hk:p.kd<=4/\0<=p.kd)(ho:p.od=(o:Int))(h8:o<=8)(hc:p.cl=(c:Int))(h7:c<=7):(eQ p=46↔p.kd=0\/p.kd=1)/\eQ p≠10:=by
 unfold eQ;rw[ho,hc,Int.toNat_natCast,Int.toNat_natCast];by_cases h2:p.kd=2
 ·rw[if_pos h2];omega
 ·rw[if_neg h2];by_cases h3:p.kd=3
  ·rw[if_pos h3];omega
  ·rw[if_neg h3];by_cases h4:p.kd=4
   ·rw[if_pos h4];split <;> omega
   ·rw[if_neg h4];omega
theorem zU{a b:Nat}(ha:a<256)(hb:b<256):(UInt8.ofNat a=UInt8.ofNat b)↔a=b:=by
 constructor
 ·intro h;have:=congrArg UInt8.toNat h;rw[UInt8.toNat_ofNat_of_lt' ha,UInt8.toNat_ofNat_of_lt' hb] at this;exact this
 ·intro h;rw[h]
theorem DS{I:Img}{k r:Nat}(hS:Sn9 I k r):∀ j,j<=I.np->(gB I k j).count 46=sg (fA I) 0 j/\(gB I k j).count 10=j/2 ^ k/\(gB I k j).length=j+j/2 ^ k
 | 0,_=>by simp[gB,sg]
 | j+1,hj=>by
  obtain⟨h1,h2,h3⟩:=DS hS j (by omega);obtain⟨kd,od,cl,lv,y1,y2,y3,y4,y5,y6,-⟩:=hS.pg j (by omega);have h8:od<=8:=by have:=hS.k8;omega
  obtain⟨d1,d2⟩:=QP (p:=I.pg j) (by omega) y3 h8 y5 y6;have hl:=yA y3 h8 y5 y6;have e46:fD (I.pg j)=46↔(I.pg j).kd=0\/(I.pg j).kd=1:=by
   rw[<-d1];exact zU hl (by decide)
  have e10:¬fD (I.pg j)=10:=fun h=>d2 ((zU hl (b:=10) (by decide)).1 h)
  have hP : 0<2 ^ k:=Nat.two_pow_pos k;have hdiv:(j+1)/2 ^ k=j/2 ^ k+if (j+1)%2 ^ k=0 then 1 else 0:=by
   rw[Nat.succ_div];by_cases h:(j+1)%2 ^ k=0
   ·rw[if_pos h,if_pos (Nat.dvd_of_mod_eq_zero h)]
   ·rw[if_neg h,if_neg (fun e=>h (Nat.mod_eq_zero_of_dvd e))]
  have tail46:(if (j+1)%2 ^ k=0 then [(10:UInt8)] else []).count 46=0:=by split <;> rfl
  have tail10:(if (j+1)%2 ^ k=0 then [(10:UInt8)] else []).count 10=if (j+1)%2 ^ k=0 then 1 else 0:=by split <;> rfl
  have tailL:(if (j+1)%2 ^ k=0 then [(10:UInt8)] else []).length=if (j+1)%2 ^ k=0 then 1 else 0:=by split <;> rfl
  unfold gB;refine⟨?_,?_,?_⟩
  ·rw[List.count_append,List.count_cons,tail46,h1];show _=sg (fA I) 0 j+fA I (0+j)
   rw[Nat.zero_add j];congr 1
   show _=if (I.pg j).kd=0\/(I.pg j).kd=1 then 1 else 0
   by_cases h:(I.pg j).kd=0\/(I.pg j).kd=1
   ·rw[if_pos h,e46.2 h];rfl
   ·have:¬fD (I.pg j)=46:=fun e=>h (e46.1 e)
    rw[if_neg h,if_neg (by simpa using this)]
  ·have n10:(if (fD (I.pg j) == 10)=true then 1 else 0)=0:=if_neg (by simpa using e10);rw[List.count_append,List.count_cons,tail10,h2,hdiv,n10,Nat.add_zero]
  ·rw[List.length_append,List.length_cons,tailL,h3,hdiv];omega
def lL(I:Img)(i:Nat):Nat->Nat
 | 0=>0
 | j+1=>lL I i j+kX I j i*2 ^ j
def kY(I:Img):Nat->Nat:=lL I I.np
theorem zT(I:Img)(j:Nat):kY I (j+1)=kY I j+mC I j*2 ^ j:=rfl
theorem zS(I:Img):∀ j,lL I 0 j=0
 | 0=>rfl
 | j+1=>by
  show lL I 0 j+kX I j 0*2 ^ j=0
  rw[zS I j,show kX I j 0=0 from Nat.le_zero.1 (OJ I j 0),Nat.zero_mul]
def nF(I:Img)(i:Nat):Nat->Nat
 | 0=>0
 | j+1=>nF I i j+(if bP (I.pg i)=(0,(j:Int),0,0) then 1 else 0)*2 ^ j
theorem zR(I:Img)(i:Nat):∀ j,lL I (i+1) j=lL I i j+nF I i j
 | 0=>rfl
 | j+1=>by
  show lL I (i+1) j+kX I j (i+1)*2 ^ j=(lL I i j+kX I j i*2 ^ j)+(nF I i j+(if bP (I.pg i)=(0,(j:Int),0,0) then 1 else 0)*2 ^ j)
  rw[zR I i j,ZN,Nat.add_mul];omega
theorem zQ{I:Img}{i:Nat}(h:∀ j:Nat,bP (I.pg i)≠(0,(j:Int),0,0)):∀ j,nF I i j=0
 | 0=>rfl
 | j+1=>by
  show nF I i j+(if bP (I.pg i)=(0,(j:Int),0,0) then 1 else 0)*2 ^ j=0
  rw[zQ h j,if_neg (h j),Nat.zero_mul]
theorem zH{I:Img}{i o:Nat}(h:bP (I.pg i)=(0,(o:Int),0,0)):∀ j,nF I i j=if o<j then 2 ^ o else 0
 | 0=>by rw[if_neg (by omega)];rfl
 | j+1=>by
  show nF I i j+(if bP (I.pg i)=(0,(j:Int),0,0) then 1 else 0)*2 ^ j=_
  rw[zH h j,h];by_cases e:o=j
  ·rw[e,if_neg (by omega),if_pos rfl,if_pos (by omega)];omega
  ·have ne:¬((0,(o:Int),0,0):eJ)=(0,(j:Int),0,0):=fun q=>e (by have:=congrArg (fun s:eJ=>s.2.1) q;exact Int.ofNat.inj this)
   rw[if_neg ne,Nat.zero_mul,Nat.add_zero];by_cases hl:o<j
   ·rw[if_pos hl,if_pos (by omega)]
   ·rw[if_neg hl,if_neg (by omega)]
theorem zG{I:Img}{k r:Nat}(hz:(chk I).1=0)(hS:Sn9 I k r):∀ i,i<=I.np->lL I i (k+1)=sg (fB I) 0 i
 | 0,_=>zS I _
 | i+1,hi=>by
  rw[zR,zG hz hS i (by omega)];show _=sg (fB I) 0 i+fB I (0+i)
  rw[Nat.zero_add];congr 1
  obtain⟨kd,od,cl,lv,y1,y2,y3,y4,-⟩:=hS.pg i (by omega);by_cases h0:(I.pg i).kd=0
  ·obtain⟨c0,l0⟩:=shz hz (i:=i) (by omega) h0;have e:bP (I.pg i)=(0,(od:Int),0,0):=by
    show((I.pg i).kd,(I.pg i).od,(I.pg i).cl,(I.pg i).lv)=_
    rw[h0,c0,l0,y3]
   rw[zH e,if_pos (by omega)];show _=if (I.pg i).kd=0 then 2 ^ (I.pg i).od.toNat else 0
   rw[if_pos h0,y3,Int.toNat_natCast]
  ·rw[zQ fun j e=>h0 (congrArg (fun s:eJ=>s.1) e)];show _=if (I.pg i).kd=0 then 2 ^ (I.pg i).od.toNat else 0
   rw[if_neg h0]
theorem QO{I:Img}{k r:Nat}(hz:(chk I).1=0)(hS:Sn9 I k r):kY I (k+1)=sg (fA I) 0 I.np:=by
 rw[AR hz];exact zG hz hS I.np (Nat.le_refl _)
theorem xV{I:Img}{m:Nat} : ∀ j,j<=m->kY I j<=kY I m:=fun j h=>by
 induction m with
 | zero=>rw[show j=0 by omega];exact Nat.le_refl _
 | succ m ih=>
  rcases Nat.lt_or_ge j (m+1)with h1|h1
  ·rw[zT];have:=ih (by omega);omega
  ·rw[show j=m+1 by omega];exact Nat.le_refl _
set_option maxHeartbeats 4000000
set_option maxRecDepth 6000
theorem zfX(s:ByteArray)(k:Nat)(h:k<s.size):s.data.toList.take (k + 1)=s.data.toList.take k ++ [s[k]]:=by
 rw[List.take_succ_eq_append_getElem (by simpa using h)];rfl
theorem CS(s:ByteArray)(b:UInt8)(w:World)(hs:s.size<=maxLen):
  Calls prog 31 #[.string s,.int .u8 b.toNat] w fun e w'=>e=.returned (.int .i64 ((s.data.toList.count b:Nat):Int))/\w'=w:=by
 unfold maxLen at hs;go_enter func31,ntmps31;go_wp2
 go_loop [5,6] (fun n i=>∃ k:Nat,k<=s.size/\i=.int .i64 k/\n=.int .i64 (((s.data.toList.take k).count b:Nat):Int)) (fun _ i=>s.size-(intOf i).toNat)
 case atStart=>exact⟨0,Nat.zero_le _,rfl,rfl⟩
 case round=>
  obtain⟨k,hk,rfl,rfl⟩:=hrel;obtain⟨c,hc⟩:=xe ((s.data.toList.take k).count b);have hl:c<=k:=by rw[hc];exact Nat.le_trans List.count_le_length (List.length_take_le _ _)
  by_cases hlt:k<s.size
  ·have hsn:(s.data.toList.take (k+1)).count b=c+if s[k]=b then 1 else 0:=by
    rw[zfX s k hlt,List.count_append,hc,List.count_singleton];by_cases e:s[k]=b <;> simp[e]
   have hlt':(k:Int)<s.size:=(by omega);by_cases he:s[k]=b
   ·have he':((s[k].toNat:Int) == (b.toNat:Int))=true:=(by rw[he];simp);go_wp2
    refine⟨⟨k+1,hlt,rfl,?_⟩,?_⟩
    ·rw[hsn,if_pos he,<-hc];rfl
    ·simp[intOf];omega
   ·have he':((s[k].toNat:Int) == (b.toNat:Int))=false:=by
     rw[beq_eq_false_iff_ne];exact fun q=>he (UInt8.toNat_inj.1 (by omega))
    go_wp2
    refine⟨⟨k+1,hlt,rfl,?_⟩,?_⟩
    ·rw[hsn,if_neg he,<-hc];rfl
    ·simp[intOf];omega
  ·have hk':k=s.size:=(by omega);have e:(s.data.toList.take s.size).count b=s.data.toList.count b:=(by rw[List.take_of_length_le (by simp)]);have hlt':¬(k:Int)<s.size:=(by omega);go_wp2
   go_ret;exact⟨rfl,rfl⟩
set_option maxRecDepth 6000
structure Agr(I:Img)(n R:Nat):Prop where
 reg:I.reg=(R:Int)
 np1:I.np<=1024
 r1:R<=1024
 nle:n<=I.np
 fr:kY I (I.ord.toNat+1)=n
 c46:(gU I).count 46=n
 c10:(gU I).count 10=R
 len:(gU I).length=I.np+R
 us:gM I 4096<=I.nm
 ws:kQ I 4096=if I.np=0 then 0 else ((1000*(I.np-n)/I.np:Nat):Int)
theorem agr{I:Img}{w:World}{V:ImV}(hI:ImD w I V)(hz:(chk I).1=0):∃ n R,Agr I n R:=by
 obtain⟨r,hS⟩:=mV hz;obtain⟨h0,hn⟩:=OG hz;have h8:=hS.k8;have hf:=QO hz hS;obtain⟨p1,p2,p3⟩:=DS hS I.np (Nat.le_refl _);have hle:=GI I;have hP : 0<2 ^ I.ord.toNat:=Nat.two_pow_pos _;have hR:I.np/2 ^ I.ord.toNat=I.reg.toNat:=by rw[hn];exact Nat.mul_div_cancel _ hP
 have hRl:I.reg.toNat<=I.np:=by rw[hn];exact Nat.le_mul_of_pos_right _ hP
 have h1:=hS.np1;have hus:gM I 4096=4096*sg (fA I) 0 I.np:=by rw[MS hI hz,AR hz]
 have hnm:=hS.nm;have e:gU I=gB I I.ord.toNat I.np:=by unfold gU;rw[if_pos hz]
 have hsz:lG I.ord.toNat 4096=true:=by
  obtain⟨k,hk⟩:=xe (I.ord.toNat);rw[<-hk] at h8 ⊢;have:k=0\/k=1\/k=2\/k=3\/k=4\/k=5\/k=6\/k=7\/k=8:=by omega
  rcases this with rfl|rfl|rfl|rfl|rfl|rfl|rfl|rfl|rfl <;> decide
 refine⟨sg (fA I) 0 I.np,I.reg.toNat,by omega,h1,by omega,hle,hf,by rw[e];exact p1,by rw[e,p2,hR],by rw[e,p3,hR],by omega,?_⟩;unfold kQ;rw[if_pos ⟨hz,hsz⟩,hnm,hus];by_cases hz':I.np=0
 ·rw[if_pos hz',if_pos (by omega)]
 ·rw[if_neg hz',if_neg (by omega)];congr 1
  rw[show 1000*(I.np*4096-4096*sg (fA I) 0 I.np)=(1000*(I.np-sg (fA I) 0 I.np))*4096 by omega];exact Nat.mul_div_mul_right _ _ (by decide)
set_option maxHeartbeats 8000000
set_option maxRecDepth 8000
theorem reportAgrees_any(I:Img)(V:ImV)(w:World)(hI:ImD w I V)(hZ:ImZ I)(hT:iX w)(hP:Tab10 w):
  Calls prog 9 #[imA I V] w fun e w'=>e=.returned (.bool true)/\Kt nO w w':=by
 obtain⟨⟨ma,mc,hm⟩,⟨pa,pc,hp⟩,⟨ra,rc,hr⟩,⟨ha,hc,hh⟩,⟨ta,tc,ht⟩,-⟩:=hI.sl;obtain⟨vm,vp,vr,vh,vt⟩:=V;dsimp only at hm hp hr hh ht;subst hm hp hr hh ht;have ka:=(Kt.refl nO w).alloc (aE I ⟨.slice ma I.nm mc,.slice pa I.np pc,.slice ra I.no rc,.slice ha I.hd.length hc,.slice ta I.pt.length tc⟩);have IM0:=aA (show ImAt (w.alloc (aE I ⟨.slice ma I.nm mc,.slice pa I.np pc,.slice ra I.no rc,.slice ha I.hd.length hc,.slice ta I.pt.length tc⟩)) w.heap.size I _ from⟨nH _ _,hI.keep ka⟩);have AW:=aA (QA (w.alloc (aE I ⟨.slice ma I.nm mc,.slice pa I.np pc,.slice ra I.no rc,.slice ha I.hd.length hc,.slice ta I.pt.length tc⟩)) (iX.keep' hT ka) (Tab10.keep hP ka));have K0:=aA ka;have HZ:=aA hZ;have AG:=aA (fun hz=>agr hI hz);clear hI hZ hT hP ka;go_enter func9,ntmps9;go_wp2_with fail;refine AW.out.mono ?_;rintro e w0 ⟨rfl,hk0⟩;have IM1:=aA (IM0.out.keep hk0);have K1:=aA (nT K0.out hk0);clear hk0 AW IM0 K0;generalize w.heap.size=ib at *;have CP:=aA (zhl I _ _ IM1.out.d HZ.out);obtain⟨i0,i1,i2,i3,i4,i5,i6,i7,i8⟩:=IM1.out.cells;go_wp2_with fail;refine CP.out.mono ?_;rintro e w1 ⟨U,xs,rfl,hcp,hk1⟩;obtain⟨⟨ma',mc',hm'⟩,⟨pa',pc',hp'⟩,⟨ra',rc',hr'⟩,⟨ha',hc',hh'⟩,⟨ta',tc',ht'⟩,-⟩:=hcp.d.sl;obtain⟨um,up,ur,uh,ut⟩:=U;dsimp only at hm' hp' hr' hh' ht';subst hm' hp' hr' hh' ht';have B2:=aA (show Bx20 w (w1.alloc (aE I ⟨.slice ma' I.nm mc',.slice pa' I.np pc',.slice ra' I.no rc',.slice ha' I.hd.length hc',.slice ta' I.pt.length tc'⟩)) ib w1.heap.size I ⟨.slice ma I.nm mc,.slice pa I.np pc,.slice ra I.no rc,.slice ha I.hd.length hc,.slice ta I.pt.length tc⟩ ⟨.slice ma' I.nm mc',.slice pa' I.np pc',.slice ra' I.no rc',.slice ha' I.hd.length hc',.slice ta' I.pt.length tc'⟩from⟨(IM1.out.keep hk1).keep ((Kt.refl nO w1).alloc _),⟨nH _ _,hcp.d.keep ((Kt.refl nO w1).alloc _)⟩,nT (nT K1.out hk1) ((Kt.refl nO w1).alloc _)⟩);clear hcp hk1 CP K1 IM1 i0 i1 i2 i3 i4 i5 i6 i7 i8;have CK:=aA (PH I _ _ B2.out.im.d);obtain⟨i0,i1,i2,i3,i4,i5,i6,i7,i8⟩:=B2.out.im.cells;obtain⟨x0,x1,x2,x3,x4,x5,x6,x7,x8⟩:=B2.out.cp.cells;go_wp2_with fail;refine CK.out.mono ?_;rintro e w3 ⟨rfl,hk3⟩;have B3:=aA (B2.out.keep hk3);clear hk3 B2 CK i0 i1 i2 i3 i4 i5 i6 i7 i8 x0 x1 x2 x3 x4 x5 x6 x7 x8;generalize w1.heap.size=xb at *;have PG:=aA (DR I _ w3 B3.out.cp.d);obtain⟨x0,x1,x2,x3,x4,x5,x6,x7,x8⟩:=B3.out.cp.cells;go_wp2_with fail;refine PG.out.mono ?_;rintro e w4 ⟨rfl,hk4⟩;have B4:=aA (B3.out.keep hk4);clear hk4 B3 PG x0 x1 x2 x3 x4 x5 x6 x7 x8;have FR:=aA (XU I _ w4 B4.out.cp.d);obtain⟨x0,x1,x2,x3,x4,x5,x6,x7,x8⟩:=B4.out.cp.cells;go_wp2_with fail;refine FR.out.mono ?_;intro e w5 hfr;have HK:=aA (show Kt nO w4 w5 from by rcases hfr with ⟨-,-,k⟩|⟨-,_,_,-,-,-,-,k⟩ <;> exact k);have B5:=aA (B4.out.keep HK.out);clear B4 FR HK x0 x1 x2 x3 x4 x5 x6 x7 x8;obtain⟨ru,hru⟩:=xe ((chk I).1);rcases hfr with ⟨hz,rfl,hk5⟩|⟨hz,g,m,hm,hm9,rfl,hx,hk5⟩
 ·have hne:((((chk I).1:Nat):Int) != 0)=true:=by simp;omega
  have EP:=aA (show gU I=[] by unfold gU;rw[if_neg hz]);have WS:=aA (uU I _ 4096 (by decide) w5 B5.out.cp.d (fun h=>absurd h hz));rw[show kQ I 4096 = -1 by unfold kQ;rw[if_neg (fun h=>hz h.1)]] at WS;rw[EP.out];obtain⟨x0,x1,x2,x3,x4,x5,x6,x7,x8⟩:=B5.out.cp.cells;go_wp2_with fail;refine WS.out.mono ?_;rintro e w6 ⟨rfl,hk6⟩;have K6:=aA (nT B5.out.k hk6);clear hk6 WS x0 x1 x2 x3 x4 x5 x6 x7 x8;go_wp2_with fail;go_ret;exact⟨rfl,K6.out⟩
 ·have hne:((((chk I).1:Nat):Int) != 0)=false:=by simp;omega
  obtain⟨n,R,ag⟩:=AG.out hz;have AGR:=aA ag;have XF:=aA hx;have HM:=aA hm;have FN:=aA (show kY I m=n by rw[hm];exact ag.fr);obtain⟨tx,htx⟩:∃ tx:ByteArray,tx=⟨(gU I).toArray⟩:=⟨_,rfl⟩;rw[<-htx];have HTX:=aA htx;have hn1:n<=1024:=Nat.le_trans ag.nle ag.np1;clear hm hx hk5 ag htx;go_wp2_with fail;go_loop [8,9] (fun nv kv=>∃ j a:Nat,j<=m/\a=kY I j/\kv=.int .i64 j/\nv=.int .i64 a) (fun _ kv=>m-(intOf kv).toNat)
  case atStart=>exact⟨0,0,Nat.zero_le _,rfl,rfl,rfl⟩
  case round=>
   obtain⟨j,a,hj,haj,rfl,rfl⟩:=hrel;have hal:a<=n:=(by rw[haj,<-FN.out];exact xV j hj);by_cases hlt:j<m
   ·have hjj:(j:Int)<m:=(by omega);obtain⟨c,hc⟩:=xe (mC I j);obtain⟨lo,hlo⟩:=xe (c*2 ^ j);have hnx:kY I (j+1)=a+lo:=(by rw[zT,<-hc,<-hlo,<-haj]);have hl:a+lo<=n:=(by rw[<-hnx,<-FN.out];exact xV (j+1) hlt);have cc:=XF.out.cell hlt;rw[<-hc] at cc;have sh:=xA hlo (by omega);have H1:=aA (show j+1<=m/\a+lo=kY I (j+1)from⟨hlt,hnx.symm⟩);clear hc hlo hnx haj;go_wp2_with fail;exact⟨⟨j+1,a+lo,H1.out.1,H1.out.2,by simp,by simp⟩,by simp[intOf];omega⟩
   ·have hjj:¬(j:Int)<m:=(by omega);have ean:a=n:=(by rw[haj,<-FN.out,show j=m by omega]);subst ean;clear haj hal;have hrg:=AGR.out.reg;have hr1:=AGR.out.r1;have hnp:=AGR.out.np1;have hsz:tx.size=I.np+R:=(by rw[HTX.out];exact(show(gU I).toArray.size=_ by rw[List.size_toArray];exact AGR.out.len));have hmx:tx.size<=maxLen:=(by unfold maxLen;omega);have LA:=aA (fun x:KW w5=>show Calls prog 31 #[.string tx,.int .u8 46] x.v fun e w'=>e=.returned (.int .i64 a)/\Kt nO x.v w' from by
     have h:=CS tx 46 x.v hmx;rw[show tx.data.toList.count 46=a by rw[HTX.out];exact AGR.out.c46] at h;exact h.mono fun e w' ⟨h1,h2⟩=>⟨h1,by rw[h2];exact Kt.refl nO _⟩)
    have LB:=aA (fun x:KW w5=>show Calls prog 31 #[.string tx,.int .u8 10] x.v fun e w'=>e=.returned (.int .i64 R)/\Kt nO x.v w' from by
     have h:=CS tx 10 x.v hmx;rw[show tx.data.toList.count 10=R by rw[HTX.out];exact AGR.out.c10] at h;exact h.mono fun e w' ⟨h1,h2⟩=>⟨h1,by rw[h2];exact Kt.refl nO _⟩)
    have n1:((a:Int) != (a:Int))=false:=(by simp);have n2:((R:Int) != I.reg)=false:=(by rw[hrg];simp);have n3:(((tx.size:Nat):Int) != (I.np:Int)+I.reg)=false:=(by rw[hrg,hsz];simp);have b1 : 0<=I.reg:=(by omega);have b2:I.reg<=1024:=(by omega);have hszI:((tx.size:Nat):Int)<=2048:=(by omega);have B5f:=aA (fun x:KW w5=>B5.out.keep x.k);clear hmx;obtain⟨i0,i1,i2,i3,i4,i5,i6,i7,i8⟩:=B5.out.im.cells;go_upto_region 15 with fail;clear i0 i1 i2 i3 i4 i5 i6 i7 i8;obtain⟨i0,i1,i2,i3,i4,i5,i6,i7,i8⟩:=B5.out.im.all;refine bU (by kernel_rfl) (by kernel_rfl) ?_;iterate 2 (go_big_quiet_step (first|(go_at_call 31;exact Calls.kept_of (LA.out _))))
    repeat (go_big_quiet_step (first|(go_at_call 31;exact Calls.kept_of (LB.out _))))
    refine wpQuiet_nil ?_;intro x;clear n1 n2 n3 b1 b2 hszI hsz hrg hr1 hnp hjj i0 i1 i2 i3 i4 i5 i6 i7 i8 LA LB;have BX:=aA (B5.out.keep x.k);clear B5f B5;obtain⟨q,hq⟩:∃ q:Nat,q=if I.np=0 then 0 else 1000*(I.np-a)/I.np:=⟨_,rfl⟩;have WS:=aA (uU I _ 4096 (by decide) x.v BX.out.cp.d (fun _ _=>AGR.out.us));rw[AGR.out.ws,show(if I.np=0 then (0:Int) else ((1000*(I.np-a)/I.np:Nat):Int))=((q:Nat):Int)by rw[hq];split <;> rfl] at WS;have HQ:=aA hq;clear hq;obtain⟨x0,x1,x2,x3,x4,x5,x6,x7,x8⟩:=BX.out.cp.cells;go_wp2_with fail;refine WS.out.mono ?_;rintro e w6 ⟨rfl,hk6⟩;have K6:=aA (nT BX.out.k hk6);have hnp:=AGR.out.np1;have hnl:=AGR.out.nle;obtain⟨N,hN⟩:=xe (I.np);have HQ2:=HQ.out;rw[<-hN] at hnp hnl HQ2 ⊢;clear hk6 WS x0 x1 x2 x3 x4 x5 x6 x7 x8 BX HQ AGR hN;by_cases h0:N=0
    ·subst h0;rw[if_pos rfl] at HQ2;subst HQ2;go_wp2_with fail;go_ret;exact⟨rfl,K6.out⟩
    ·rw[if_neg h0] at HQ2;obtain⟨d,hd⟩:=xe (N-a);obtain⟨s,hs⟩:=xe (1000*d);rw[<-hd,<-hs] at HQ2;have e1:(N:Int)-(a:Int)=d:=(by omega);have e2:(1000:Int)*(d:Int)=s:=(by omega);have e3:(s:Int).tdiv (N:Int)=q:=(by rw[HQ2];rfl);have e4:(s:Int)/(N:Int)=q:=(by rw[HQ2];rfl);have hqs:q<=s:=(by rw[HQ2];exact Nat.div_le_self _ _);have f1:((N:Int) == 0)=false:=(by rw[beq_eq_false_iff_ne];omega);have f2:((q:Int) == (q:Int))=true:=(by simp);have p0:(0:Int)<(N:Int):=(by omega);have hd1:d<=1024:=(by omega);have hs1:s<=1024000:=(by omega);clear hd hs HQ2;go_wp2_with fail;go_ret;exact⟨rfl,K6.out⟩
end Go.Proofs.YtkfmheelhinjdaaGreatDoor.W
namespace Go.Proofs.YtkfmheelhinjdaaGreatDoor.reportAgrees
open _root_.Go.Proofs.Tryz
open Go.ChangeShapes Go.WideShapes Go.ChangeAt Go.RowKit Go.Deep
open Go.ChangeMaps (open_string shut_string)
set_option linter.unusedVariables false
theorem own:ownKnob prog.godebug=Option.none:=by kernel_rfl
theorem laidOut:laidOutB prog=true:=by kernel_rfl
theorem gSizes : prog.globalNamed "croft/slab.sizes" = some 0 := by kernel_rfl
theorem door_met (os : Os) (args : Array Value) : laidMetH prog [("math/bits.deBruijn32tab", Rows.laid_math_bits_deBruijn32tab), ("math/bits.deBruijn64tab", Rows.laid_math_bits_deBruijn64tab), ("internal/strconv.uint64pow10", Rows.laid_internal_strconv_uint64pow10), ("croft/slab.sizes", Rows.laid_croft_slab_sizes)] ((World.doorLaid prog 400 os).forCall (fun _ _ => 0) ⟨#[], args, []⟩).memory :=
 laidMetH_of_parts3 (fuel:=8) (laidMet_of_run' 8 (by kernel_rfl) (by kernel_rfl)) (by kernel_rfl) (by kernel_rfl)
theorem wA : prog.globalNamed "internal/strconv.uint64pow10" = some 1 := by kernel_rfl
theorem tab_of {W : World} (h : laidMetH prog [("math/bits.deBruijn32tab", Rows.laid_math_bits_deBruijn32tab), ("math/bits.deBruijn64tab", Rows.laid_math_bits_deBruijn64tab), ("internal/strconv.uint64pow10", Rows.laid_internal_strconv_uint64pow10), ("croft/slab.sizes", Rows.laid_croft_slab_sizes)] W) : iX W := by
 rw[MakeChecks.laidMetH_plain _ _ _ (by kernel_rfl)] at h;have h1 := h.filter (fun x => x.1 == "croft/slab.sizes");have hT : Lib.TabIs prog W "croft/slab.sizes" .u64 [16, 32, 64, 128, 256, 512, 1024, 2048] := Lib.tabIs_of_head gSizes (by kernel_rfl) Tryz.underlying207 Tryz.underlying27 (by kernel_rfl) (by kernel_rfl) h1;intro k hk;have:=hT.cell gSizes k (by simpa using hk);rw[this];rcases (show k=0\/k=1\/k=2\/k=3\/k=4\/k=5\/k=6\/k=7 by omega)with rfl|rfl|rfl|rfl|rfl|rfl|rfl|rfl <;> rfl
theorem ZP {W : World} (h : laidMetH prog [("math/bits.deBruijn32tab", Rows.laid_math_bits_deBruijn32tab), ("math/bits.deBruijn64tab", Rows.laid_math_bits_deBruijn64tab), ("internal/strconv.uint64pow10", Rows.laid_internal_strconv_uint64pow10), ("croft/slab.sizes", Rows.laid_croft_slab_sizes)] W) : _root_.Go.Proofs.YtkfmheelhinjdaaGreatDoor.W.Tab10 W := by
 rw[MakeChecks.laidMetH_plain _ _ _ (by kernel_rfl)] at h;have h1 := h.filter (fun x => x.1 == "internal/strconv.uint64pow10");exact Lib.tabIs_of_head wA (by kernel_rfl) Tryz.underlying230 Tryz.underlying27 (by kernel_rfl) (by kernel_rfl) h1
theorem lifted(os:Os)(started:os.Started)(H:Type)(enc:TypeId×Value->H):
  ReturnsInHanded {} Tryz.checked os 9 .any (fun w args => (Rows.reportAgreesSpec.pre enc prog Tryz.f9 [] false w args /\ laidMetH prog [("math/bits.deBruijn32tab", Rows.laid_math_bits_deBruijn32tab), ("math/bits.deBruijn64tab", Rows.laid_math_bits_deBruijn64tab), ("internal/strconv.uint64pow10", Rows.laid_internal_strconv_uint64pow10), ("croft/slab.sizes", Rows.laid_croft_slab_sizes)] w) /\ sizedMet enc prog Tryz.f9 (OpenSpec.ofChange Rows.reportAgreesSpec) false w args)
   (Rows.reportAgreesSpec.post enc prog Tryz.f9 false true false false):=by
 refine returnsInHanded_of_change_and (C := Tryz.checked) (X := fun w _ => laidMetH prog [("math/bits.deBruijn32tab", Rows.laid_math_bits_deBruijn32tab), ("math/bits.deBruijn64tab", Rows.laid_math_bits_deBruijn64tab), ("internal/strconv.uint64pow10", Rows.laid_internal_strconv_uint64pow10), ("croft/slab.sizes", Rows.laid_croft_slab_sizes)] w) (fun _ _ _ hh h => h.of_heap hh) own started (by kernel_rfl) func9
  (ChangeSpec.witness_shaped (enc := enc) (C := Tryz.checked) (os := os) (X := fun w _ => laidMetH prog [("math/bits.deBruijn32tab", Rows.laid_math_bits_deBruijn32tab), ("math/bits.deBruijn64tab", Rows.laid_math_bits_deBruijn64tab), ("internal/strconv.uint64pow10", Rows.laid_internal_strconv_uint64pow10), ("croft/slab.sizes", Rows.laid_croft_slab_sizes)] w) false (World.doorLaid prog 400 os) #[.agg #[.int .u64 0, .int .i64 0, .int .i64 0, .int .i64 0, .slice none 0 0, .slice none 0 0, .slice none 0 0, .slice none 0 0, .slice none 0 0]] 8 rfl (World.shaped_of_RefB (by kernel_rfl) (by kernel_rfl)) (by kernel_rfl) (by kernel_rfl) (by kernel_rfl) (door_met os _)) ?_
 intro UU bS args ds gs before hval0 hW _ hsz0 hL _;have hsz:(DataW.weightsEach prog (Tryz.f9.params.toList ++ Rows.reportAgreesSpec.plain.varTypes prog) (ds ++ gs)).all (·<=reachBytes)=true:=hsz0;clear hsz0;have hval:∀ (j:Nat) t v,Tryz.f9.params[j]?=some t->args[j]?=some v->Value.okWide prog UU .any bS t v:=hval0;have hW':=hW;obtain⟨p,q,hA0,hV,rfl,hfz,hnd⟩:=hW;have hA:DataW.TrodAll enc prog UU 0 (fun _=>true) true Tryz.f9.params.toList args.toList ds p:=hA0;rw[Tryz.params9] at hA hval hsz;obtain⟨v0,vs0,d0,ds0,p0,q0,hargs,rfl,rfl,h0,r0⟩:=trodAll_cons hA;obtain⟨rfl,rfl,rfl⟩:=trodAll_nil r0;obtain rfl:args=#[v0]:=by cases args;simp_all
 obtain⟨rfl,rfl⟩:=trodVars_none hV;have hTab:=tab_of hL;have hTab10:=ZP hL;have k0:=h0;have lt0:∀ x∈p0,x.block<UU.heap.size:=by obtain⟨m,hm⟩:=k0;exact DataW.trod_lt m _ _ _ hm
 obtain⟨I0,V0,rfl,hI0⟩:=W.image_of (hval 0 38 v0 rfl rfl) h0;have hZ0:=W.image_sized h0 (fun k hk=>by simpa using List.all_eq_true.1 hsz _ (DataW.weights_mem_each (j:=0) rfl rfl k hk)) hI0;clear hA0 hval0;refine(W.reportAgrees_any I0 V0 UU  hI0 hZ0 hTab hTab10).mono fun e UU' ⟨he,kp⟩=>?_
 subst he;have bel:Below UU.heap.size UU UU':=kp.below (Nat.le_refl _) (fun x hx=>hx.elim);exact⟨_,rfl,_,_,_,[],_,[],hW',trodAll_mk1 (shut_bool Tryz.underlying4 true),(trodAll_cons_mk (Below.trod laidOut (by kernel_rfl) (of_decide_eq_true (by kernel_rfl)) k0 bel lt0) trodAll_mk0),rfl,bel.frame _,fun h=>by cases h⟩
set_option maxRecDepth 100000
theorem a1:prog.funcNamed Rows.reportAgreesRow.func=some 9:=by kernel_rfl
theorem a2:joinedFacts prog 9 Tryz.f9 Rows.reportAgreesSpec Rows.reportAgreesRow=true:=by kernel_rfl
theorem a3:Tryz.f9.isWrapper prog Rows.reportAgreesRow.wrapper Rows.reportAgreesRow.mainSum:=by unfold Func.isWrapper;first|(rw[if_pos (by decide +kernel)];kernel_rfl)|(rw[if_neg (by decide +kernel)];exact⟨rfl,rfl⟩)
theorem a5:Tryz.f9.isInstance prog Rows.reportAgreesRow.origin Rows.reportAgreesRow.targs:=of_decide_eq_true (by kernel_rfl)
theorem over:Rows.reportAgreesRow.holds Tryz.pinned (OpenSpec.ofChange Rows.reportAgreesSpec):=
 OpenClaim.holds_of_wide 9 Tryz.f9 rfl rfl rfl rfl rfl rfl rfl ⟨rfl,rfl,rfl,rfl,rfl⟩ rfl rfl rfl rfl rfl a1 func9 a2 a5 a3
  (fun os started H enc _=>lifted os started H enc)
end Go.Proofs.YtkfmheelhinjdaaGreatDoor.reportAgrees
namespace Go.Proofs.YtkfmheelhinjdaaGreatDoor
open _root_.Go.Proofs.Tryz
open Go
theorem reportAgrees_holds:Rows.ReportAgreesCardSaid:=
 Claim7.holds_tied_plain_at .later [] [.data,.data,.data,.data] true Rows.reportAgreesCard.stood.harness true
  reportAgrees.over (fun _ h=>by cases h) (by kernel_rfl) (fun _ h=>by cases h) reportAgrees_row_tie rfl ⟨rfl,rfl⟩ (by kernel_rfl) rfl
  (fun f fn hf hfn=>by
   obtain rfl : f = 9 := Option.some.inj ((show prog.funcNamed "croft/croftlaw20.ReportAgrees" = some 9 by kernel_rfl).symm.trans hf) |>.symm
   obtain rfl:fn=Tryz.f9:=(Option.some.inj (func9.symm.trans hfn)).symm;exact⟨by kernel_rfl,fun j t ht=>by
    rw[Tryz.params9] at ht;have hm:t∈[38]:=(by simpa using Array.mem_of_getElem? ht);have hall:([38].all fun u=>!prog.wantsStandIn u)=true:=(by kernel_rfl);exact(show prog.wantsStandIn t=false by simpa using List.all_eq_true.1 hall t hm)⟩)
  (by kernel_rfl)
#print axioms reportAgrees_holds
end Go.Proofs.YtkfmheelhinjdaaGreatDoor
