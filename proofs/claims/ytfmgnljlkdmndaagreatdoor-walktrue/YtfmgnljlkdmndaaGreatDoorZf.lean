import Derived.Test.YtfmgnljlkdmndaaGreatDoorXa
import Derived.Test.YtfmgnljlkdmndaaGreatDoorZe
import Derived.Test.YtfmgnljlkdmndaaGreatDoorWk
import Derived.Test.YtfmgnljlkdmndaaGreatDoorZd
set_option maxRecDepth 1000000
set_option maxHeartbeats 80000000
namespace Go.Proofs.YtfmgnljlkdmndaaGreatDoor
open Tryz
open Go.RowKit
set_option linter.unusedVariables false
theorem zlE(k o:Nat)(c:o<=8)(d:k<1024):wrap64 ((k:Int)/2 ^ o*2 ^ o)=((k/2 ^ o*2 ^ o:Nat):Int):=by
 have b:k/2 ^ o*2 ^ o<=k:=Nat.div_mul_le_self _ _;have a:((k:Int)/2 ^ o*2 ^ o)=((k/2 ^ o*2 ^ o:Nat):Int):=by simp
 rw[a];generalize k/2 ^ o*2 ^ o=z at *;unfold wrap64;omega
def kJ(m:Mp)(i:Int):Int:=if aD m.n i=true then ((i.toNat/2 ^ (m.pg i.toNat).od.toNat*2 ^ (m.pg i.toNat).od.toNat:Nat):Int) else -1
theorem zlF(b:Nat)(B:Bs)(m:Mp)(i:Int)(w:World)(h:MpA w b B m)(hi:aD m.n i=false):
  Calls prog 163 #[.pointer (some ⟨b,0,none⟩),.int .i64 i] w fun e d=>e=.returned (.int .i64 (-1))/\d=w:=by
 have a:=aA h;have c:=aA hi;clear h hi;go_enter func163,ntmps163;go_wp2_with fail;refine(fN b B m i _ a.o).mono ?_;rintro e f ⟨rfl,rfl⟩;rw[c.o];go_wp2_with fail;go_ret;exact⟨rfl,rfl⟩
theorem VK(b:Nat)(B:Bs)(m:Mp)(k o:Nat)(w:World)(h:MpA w b B m)(d:k<m.n)(q:(m.pg k).od=o):
  Calls prog 163 #[.pointer (some ⟨b,0,none⟩),.int .i64 k] w fun e l=>e=.returned (.int .i64 ((k/2 ^ o*2 ^ o:Nat):Int))/\l=w:=by
 have j:=aA h;have r:=aA (dQ d);have a:o<=8:=by have:=(h.ok k d).o8;omega
 have c:k<1024:=by have:=h.n1;omega
 obtain⟨g,hg,f⟩:=h.has_row (by omega);have s:=(f.cell k d).2.1;rw[q] at s;have c1:=h.c1 hg;have i:(k:Int)<m.n:=by omega
 have p:=aA (zlE k o a c);clear h f hg;go_enter func163,ntmps163;go_wp2_with fail;refine(fN b B m k _ j.o).mono ?_;rintro e t ⟨rfl,rfl⟩;rw[r.o];go_wp2_with fail;go_ret;exact⟨dZ p.o,rfl⟩
theorem bP.f6{w g n pg}(h:bP w g n pg)(i:Nat)(hi:i<n)(x:Int):bP (w.setCell ⟨g,i*11+6,none⟩ (.int .i64 x)) g n (aG pg i { pg i with fs:=x }):=by
 have:=bA.set h i 6 hi (by decide) (.int .i64 x);refine bA.congr this (fun a ha b hb=>sG a b hb (fun j c=>?_) (fun e=>?_))
 ·revert j
  apply kU <;> simp[lP,Pg.fld]
 ·simp[lP,e]
theorem zjS(b:Nat)(B:Bs)(m:Mp)(i c:Int)(w:World)(h:MpA w b B m)(hi:aD m.n i=false):
  Calls prog 214 #[.pointer (some ⟨b,0,none⟩),.int .i64 i,.int .i64 c] w fun e f=>e=.returned (.int .i64 1)/\f=w:=by
 have a:=aA h;have d:=aA hi;clear h hi;go_enter func214,ntmps214;go_wp2_with fail;refine(wE b B m i _ a.o d.o).mono ?_;rintro e g ⟨rfl,rfl⟩;go_wp2_with fail;go_ret;exact⟨rfl,rfl⟩
theorem zie(b:Nat)(B:Bs)(m:Mp)(k:Nat)(c:Int)(w:World)(h:MpA w b B m)(i:k<m.n)(a:(m.pg k).kd≠4):
  Calls prog 214 #[.pointer (some ⟨b,0,none⟩),.int .i64 k,.int .i64 c] w fun e f=>e=.returned (.int .i64 1)/\f=w:=by
 have j:=aA h;obtain⟨g,hg,d⟩:=h.has_row (by omega);have S:=aA (lK b B m g k w h hg i);rw[ac a] at S;clear h d hg;go_enter func214,ntmps214;go_wp2_with fail;refine S.o.mono ?_;rintro e l ⟨rfl,rfl⟩;go_wp2_with fail;go_ret;exact⟨rfl,rfl⟩
theorem zif(b:Nat)(B:Bs)(m:Mp)(k:Nat)(c:Int)(w:World)(h:MpA w b B m)(a:k<m.n)(d:(m.pg k).kd=4)(p:c ≠ -1)(hc:aD (eJ (m.pg k).cl) c=false):
  Calls prog 214 #[.pointer (some ⟨b,0,none⟩),.int .i64 k,.int .i64 c] w fun e o=>e=.returned (.int .i64 1)/\o=w:=by
 have t:=aA h;obtain⟨g,hg,f⟩:=h.has_row (by omega);have S:=aA (lK b B m g k w h hg a);rw[ae d] at S;obtain⟨v,C,l,y,z,s,A,r,x,u,j⟩:=f.cell k a;have i:=aA (qS g (k*11) (m.pg k).cl (h.ok k a).c0 (h.ok k a).c7 c w l);rw[hc] at i;clear h f hg;go_enter func214,ntmps214;go_wp2_with fail;refine S.o.mono ?_;rintro e q ⟨rfl,rfl⟩;go_wp2_with fail;refine i.o.mono ?_;rintro e q ⟨rfl,rfl⟩;go_wp2_with fail;go_ret;exact⟨rfl,rfl⟩
theorem zlG(b:Nat)(B:Bs)(m:Mp)(k:Nat)(c:Int)(w:World)(h:MpA w b B m)(a:k<m.n)(j:(m.pg k).kd=4)(hc:c = -1\/aD (eJ (m.pg k).cl) c=true):
  Calls prog 214 #[.pointer (some ⟨b,0,none⟩),.int .i64 k,.int .i64 c] w fun e q=>e=.returned (.int .i64 0)/\MpA q b B { m with pg:=aG m.pg k { m.pg k with fs:=c } }/\Kt (aO b B m.o) w q:=by
 have A:=aA h;obtain⟨g,hg,f⟩:=h.has_row (by omega);have S:=aA (lK b B m g k w h hg a);rw[ae j] at S;obtain⟨D,F,u,G,I,y,J,v,E,C,t⟩:=f.cell k a;have s:=aA (qS g (k*11) (m.pg k).cl (h.ok k a).c0 (h.ok k a).c7 c w u);have z:=bA.froz f;have d:=aA (show MpA (w.setCell ⟨g,k*11+6,none⟩ (.int .i64 c)) b B { m with pg:=aG m.pg k { m.pg k with fs:=c } }/\Kt (aO b B m.o) w (w.setCell ⟨g,k*11+6,none⟩ (.int .i64 c))from
  ⟨h.pages hg ((Kt.refl (fun x=>x=g) w).setCell (p:=⟨g,_,none⟩) rfl _) (f.f6 k a c) (fun i hi=>by
   unfold aG;split
   ·exact⟨(h.ok k a).o0,(h.ok k a).o8,(h.ok k a).c0,(h.ok k a).c7,(h.ok k a).b0,(h.ok k a).b1,(h.ok k a).b2,(h.ok k a).b3⟩
   ·exact h.ok i hi),(Kt.refl (aO b B m.o) w).setCell (p:=⟨g,_,none⟩) (.inr (.inl hg)) _⟩)
 clear h f hg;by_cases l:c = -1
 ·subst l;clear hc;go_enter func214,ntmps214;go_wp2_with fail;refine S.o.mono ?_;rintro e r ⟨rfl,rfl⟩;go_wp2_with fail;go_ret;exact⟨rfl,d.o⟩
 ·rw[hc.resolve_left l] at s;clear hc;go_enter func214,ntmps214;go_wp2_with fail;refine S.o.mono ?_;rintro e r ⟨rfl,rfl⟩;go_wp2_with fail;refine s.o.mono ?_;rintro e r ⟨rfl,rfl⟩;go_wp2_with fail;go_ret;exact⟨rfl,d.o⟩
def jR(m:Mp)(p o k:Int):Bool:=decide ((k=0\/k=2)/\0<=o/\o<=m.o) && (aD m.n p && decide (p%2 ^ o.toNat=0))
theorem QI(b:Nat)(B:Bs)(m:Mp)(p o k:Int)(w:World)(h:MpA w b B m)(hc:¬((k=0\/k=2)/\0<=o/\o<=m.o)):
  Calls prog 175 #[.pointer (some ⟨b,0,none⟩),.int .i64 p,.int .i64 o,.int .i64 k] w fun e c=>e=.returned (.int .i64 1)/\c=w:=by
 have c0:=h.c0;clear h;by_cases h0:k=0
 ·subst h0;by_cases d:o<0
  ·clear hc;go_enter func175,ntmps175;go_wp2_with fail;go_ret;exact⟨rfl,rfl⟩
  ·have f:(m.o:Int)<o:=(by omega);clear hc;go_enter func175,ntmps175;go_wp2_with fail;go_ret;exact⟨rfl,rfl⟩
 ·by_cases a:k=2
  ·subst a;by_cases d:o<0
   ·clear hc;go_enter func175,ntmps175;go_wp2_with fail;go_ret;exact⟨rfl,rfl⟩
   ·have f:(m.o:Int)<o:=(by omega);clear hc;go_enter func175,ntmps175;go_wp2_with fail;go_ret;exact⟨rfl,rfl⟩
  ·clear hc;go_enter func175,ntmps175;go_wp2_with fail;go_ret;exact⟨rfl,rfl⟩
theorem QH(b:Nat)(B:Bs)(m:Mp)(p:Int)(o k:Nat)(w:World)(h:MpA w b B m)(c:k=0\/k=2)(l:o<=m.o)(hp:aD m.n p=false):
  Calls prog 175 #[.pointer (some ⟨b,0,none⟩),.int .i64 p,.int .i64 o,.int .i64 k] w fun e g=>e=.returned (.int .i64 1)/\g=w:=by
 have c0:=h.c0;have d:=aA h;have i:=aA hp;have f:¬(m.o:Int)<o:=by omega
 have a:¬(o:Int)<0:=by omega
 clear h hp;rcases c with rfl|rfl
 all_goals
  go_enter func175,ntmps175;go_wp2_with fail;refine(fN b B m p _ d.o).mono ?_;rintro e j ⟨rfl,rfl⟩;rw[i.o];go_wp2_with fail;go_ret;exact⟨rfl,rfl⟩
theorem QG(b:Nat)(B:Bs)(m:Mp)(p o k:Nat)(w:World)(h:MpA w b B m)(i:k=0\/k=2)(y:o<=m.o)(hp:p<m.n)(d:p%2 ^ o≠0):
  Calls prog 175 #[.pointer (some ⟨b,0,none⟩),.int .i64 p,.int .i64 o,.int .i64 k] w fun e r=>e=.returned (.int .i64 1)/\r=w:=by
 have c0:=h.c0;have j:=aA h;have u:=aA (dQ hp);have a:o<=8:=by have:=h.o8;omega
 have g:=h.n1;have l:¬(m.o:Int)<o:=by omega
 have f:¬(o:Int)<0:=by omega
 obtain⟨z,hz⟩:=xe (2 ^ o);have q:(2:Int) ^ o=(z:Int):=by rw[hz];simp
 have v : 1<=z:=by rw[hz];exact pQ o
 have s:z<=256:=by rw[hz];exact bj (n:=2) (by decide) a
 rw[<-hz] at d;have c:((p:Int)%(z:Int) == 0)=false:=ag.2 (by omega);have t:((p:Int)%(z:Int) != 0)=true:=by simp only[bne,c,Bool.not_false]
 clear h hp hz d;rcases i with rfl|rfl
 all_goals
  go_enter func175,ntmps175;go_wp2_with fail;refine(fN b B m p _ j.o).mono ?_;rintro e x ⟨rfl,rfl⟩;rw[u.o];go_wp2_with fail;go_ret;exact⟨rfl,rfl⟩
def cH(m:Mp)(p o k:Int):Mp:=if jR m p o k=true then { m with pg:=fG m.pg p.toNat o.toNat k } else m
def fO(m:Mp)(p o k:Int):Int:=if jR m p o k=true then 0 else 1
theorem DE(b:Nat)(B:Bs)(m:Mp)(p o k:Int)(w:World)(h:MpA w b B m):
  Calls prog 175 #[.pointer (some ⟨b,0,none⟩),.int .i64 p,.int .i64 o,.int .i64 k] w fun e d=>e=.returned (.int .i64 (fO m p o k))/\MpA d b B (cH m p o k)/\Kt (aO b B m.o) w d:=by
 have no:∀ {E:Ending} {d:World},jR m p o k=false->E=.returned (.int .i64 1)/\d=w->E=.returned (.int .i64 (fO m p o k))/\MpA d b B (cH m p o k)/\Kt (aO b B m.o) w d:=by rintro E d hc ⟨rfl,rfl⟩;rw[show fO m p o k=1 by simp[fO,hc],show cH m p o k=m by simp[cH,hc]];exact⟨rfl,h,Kt.refl _ _⟩
 by_cases g:(k=0\/k=2)/\0<=o/\o<=m.o
 ·obtain⟨a,rfl⟩:=au g.2.1;obtain⟨c,rfl⟩:=au (show 0<=k by omega);have j:a<=m.o:=by omega
  have i:c=0\/c=2:=by omega
  cases h2:aD m.n p with
  | false=>exact(QH b B m p a c w h i j h2).mono (fun _ _=>no (by simp[jR,h2]))
  | true=>
   obtain⟨q,rfl,hq⟩:=gR h2;have l:((q:Int)%2 ^ (a:Int).toNat=0)↔q%2 ^ a=0:=by
    have:((q:Int)%2 ^ (a:Int).toNat)=((q%2 ^ a:Nat):Int):=by simp
    rw[this];omega
   by_cases f:q%2 ^ a=0
   ·have hc:jR m (q:Int) (a:Int) (c:Int)=true:=by
     unfold jR;rw[af g,h2,af (l.2 f)];rfl
    rw[show fO m (q:Int) (a:Int) (c:Int)=0 by simp[fO,hc],show cH m (q:Int) (a:Int) (c:Int)={ m with pg:=fG m.pg q a c } by simp[cH,hc]];exact CJ b B m q a c w h hq j f i
   ·exact(QG b B m q a c w h i j hq f).mono (fun _ _=>no (by unfold jR;rw[show decide ((q:Int)%2 ^ (a:Int).toNat=0)=false from ah (fun e=>f (l.1 e))];simp))
 ·exact(QI b B m p o k w h g).mono (fun _ _=>no (by unfold jR;rw[ah g];rfl))
theorem dN.kept{w a d:World}{b:Nat}{B c:Bs}{o:Nat}(k:Kt (aO b B o) w a)(f:dN w b B c o)(g:Kt (aO b c o) a d):Kt (aO b B o) w d:=
 k.trans g (fun _ _ x=>x) (fun x hx e=>(f x e).resolve_right (by omega))
def dE(m:Mp):Mp:=if 1024<m.n+2 ^ m.o then m else { dC m (m.n+2 ^ m.o)with pg:=fG (dC m (m.n+2 ^ m.o)).pg m.n m.o 2 }
theorem zjg(b:Nat)(B:Bs)(m:Mp)(w:World)(h:MpA w b B m)(hf : 1024<m.n+2 ^ m.o):
  Calls prog 221 #[.pointer (some ⟨b,0,none⟩)] w fun e g=>e=.returned (.tuple #[])/\g=w:=by
 obtain⟨j,c0,c1,c2⟩:=h.cb;have a:=h.o8;have c:=h.n1;obtain⟨z,hz⟩:=xe (2 ^ m.o);have f:(2:Int) ^ m.o=(z:Int):=by rw[hz];simp
 have i:z<=256:=by rw[hz];exact bj (n:=2) (by decide) a
 rw[<-hz] at hf;have d:(1024:Int)<(m.n:Int)+z:=by omega
 clear h hz;go_enter func221,ntmps221;go_wp2_with fail;exact⟨rfl,.tuple #[],by simp[results,results221,go_sem],rfl,rfl⟩
theorem TF{n o:Nat}(h:∃ r,n=r*2 ^ o):∃ r,n+2 ^ o=r*2 ^ o:=by obtain⟨r,a⟩:=h;exact⟨r+1,by rw[a,av,aL]⟩
theorem AZ{n o:Nat}(h:∃ r,n=r*2 ^ o):n%2 ^ o=0:=by obtain⟨r,a⟩:=h;rw[a];exact Nat.mul_mod_left _ _
theorem UZ(b:Nat)(B:Bs)(m:Mp)(w:World)(h:MpA w b B m)(hf:¬ 1024<m.n+2 ^ m.o):
  Calls prog 221 #[.pointer (some ⟨b,0,none⟩)] w fun e p=>e=.returned (.tuple #[])/\∃ q,MpA p b q (dE m)/\Kt (aO b B m.o) w p/\dN w b B q m.o:=by
 rw[show dE m={ dC m (m.n+2 ^ m.o)with pg:=fG (dC m (m.n+2 ^ m.o)).pg m.n m.o 2 } by simp only[dE,ac hf]];obtain⟨E,c0,c1,c2⟩:=h.cb;have k:=h.o8;have t:=h.n1;have l:=aA (xS b B m (m.n+2 ^ m.o) (by omega) (TF h.dv) w h);have RN:=aA (fun j g (u:MpA j b g (dC m (m.n+2 ^ m.o)))=>CJ b g (dC m (m.n+2 ^ m.o)) m.n m.o 2 j u (by show m.n<m.n+2 ^ m.o;have:=pQ m.o;omega) (aj _) (AZ h.dv) (.inr rfl));obtain⟨z,hz⟩:=xe (2 ^ m.o);have x:(2:Int) ^ m.o=(z:Int):=by rw[hz];simp
 have A:z<=256:=by rw[hz];exact bj (n:=2) (by decide) k
 rw[<-hz] at hf l RN ⊢;have v:¬(1024:Int)<(m.n:Int)+z:=by omega
 have a:((m.n+z:Nat):Int)=(m.n:Int)+z:=by omega
 rw[a] at l;have d:=aA (show(dC m (m.n+z)).o=m.o from rfl);generalize dC m (m.n+z)=F at *;clear h hz a;go_enter func221,ntmps221;go_wp2_with fail;refine l.o.mono ?_;rintro e j ⟨rfl,g,c,hK1,i⟩;have y:=aA c;have D:=aA hK1;have r:=aA i;have c0:=c.c0;rw[d.o] at c0;clear c hK1 i;go_wp2_with fail;refine(RN.o j g y.o).mono ?_;rintro e G ⟨rfl,f,hK2⟩;have C:=aA f;have s:=aA hK2;rw[d.o] at s;clear f hK2;go_wp2_with fail;go_end0
 exact⟨rfl,g,C.o,dN.kept D.o r.o s.o,r.o⟩
theorem dN.refl(w:World)(b:Nat)(B:Bs)(o:Nat):dN w b B B o:=fun _ h=>.inl h
theorem ZP(b:Nat)(B:Bs)(m:Mp)(w:World)(h:MpA w b B m):
  Calls prog 221 #[.pointer (some ⟨b,0,none⟩)] w fun e a=>e=.returned (.tuple #[])/\∃ c,MpA a b c (dE m)/\Kt (aO b B m.o) w a/\dN w b B c m.o:=by
 by_cases hf : 1024<m.n+2 ^ m.o
 ·refine(zjg b B m w h hf).mono ?_;rintro e a ⟨rfl,rfl⟩;rw[show dE m=m by simp only[dE,ae hf]];exact⟨rfl,B,h,Kt.refl _ _,dN.refl _ _ _ _⟩
 ·exact UZ b B m w h hf
theorem OM{n o k:Nat}(h:∃ r,n=r*2 ^ o):∃ r,n-k*2 ^ o=r*2 ^ o:=by obtain⟨r,a⟩:=h;exact⟨r-k,by rw[a,Nat.sub_mul]⟩
theorem WL(n o d:Nat)(b:o<=8)(hd:(n:Int)*2 ^ o=d)(a:d<=1024)(W:World):Sem.run prog (Op.shift BinOp.shl IntKind.i64 (n:Int) IntKind.i64 (o:Int)) W=Result.ok (.int .i64 d) W:=by unfold Op.shift;simp[go_sem];rw[ac (by omega),Nat.min_eq_left (by omega),hd,show IntKind.i64.wrap (d:Int)=d by rw[IntKind.wrap_i64];omega]
theorem zkh(b:Nat)(B:Bs)(m:Mp)(n:Nat)(w:World)(h:MpA w b B m)(D:n<=m.n/2 ^ m.o):
  Calls prog 157 #[.pointer (some ⟨b,0,none⟩),.int .i64 n] w fun e k=>e=.returned (.int .i64 0)/\∃ q,MpA k b q (dC m (m.n-n*2 ^ m.o))/\Kt (aO b B m.o) w k/\dN w b B q m.o:=by
 obtain⟨J,c0,c1,c2⟩:=h.cb;have g:=h.o8;have t:=h.n1;have z:=aA (fun k (I:Kt nO w k)=>xS b B m (m.n-n*2 ^ m.o) (by omega) (OM h.dv) k (h.keep I));have r:n*2 ^ m.o<=m.n:=an (ak _ D) (Nat.div_mul_le_self _ _);have i:¬(n:Int)<0:=by omega
 have f:¬(m.n:Int)/2 ^ m.o<(n:Int):=by
  have:(m.n:Int)/2 ^ m.o=((m.n/2 ^ m.o:Nat):Int):=by simp
  rw[this];omega
 have a:(n:Int)*2 ^ m.o=((n*2 ^ m.o:Nat):Int):=by simp
 obtain⟨d,hd⟩:=xe (n*2 ^ m.o);rw[<-hd] at r a z ⊢;have c:((m.n-d:Nat):Int)=(m.n:Int)-d:=by omega
 rw[c] at z;have p:d<=1024:=by omega
 have u:decide ((n:Int)<0)=false:=ah i;have A:decide ((m.n:Int)/2 ^ m.o<(n:Int))=false:=ah f;have v:=WL n m.o d g a p;have l:IntKind.i64.wrap ((m.n:Int)-d)=(m.n:Int)-d:=by rw[IntKind.wrap_i64];omega
 clear h hd c D;go_enter func157,ntmps157;go_wp2_with fail;go_quiet (fail)
 go_wp2_with fail;obtain⟨W,y⟩:=xe (w.drewN nq);have KW:=aA (show Kt nO w W by rw[y];exact(Kt.refl nO w).drewN nq);have c0:=KW.o.cell (fun x=>x) c0;have c1:=KW.o.cell (fun x=>x) c1;rw[<-y];have C:=aA (show IntKind.i64.wrap ((m.n:Int)-IntKind.i64.wrap ((n:Int)*2 ^ min m.o 64))=(m.n:Int)-d by rw[Nat.min_eq_left (by omega),a,show IntKind.i64.wrap (d:Int)=d by rw[IntKind.wrap_i64];omega];exact l);clear y a f A u i c2 r g t v l;go_region_with ((go_at_call 152;rw[C.o];refine(z.o _ (KW.o.drew)).mono ?_;rintro e E ⟨rfl,F,s,hK1,j⟩))
 all_goals
  have G:=aA (show ∃ q,MpA E b q (dC m (m.n-d))/\Kt (aO b B m.o) w E/\dN w b B q m.o from⟨F,s,KW.o.drew.trans hK1 (fun _ _ x=>x.elim) (fun _ _ x=>x),fun x hx=>(j x hx).imp (fun h=>h) (fun h=>an KW.o.size h)⟩);clear s hK1 j;go_wp2_with fail;go_ret;exact⟨rfl,G.o⟩
def fZ(w w':World)(b:Nat)(B:Bs)(o:Nat)(m':Mp):Prop:=MpA w' b B m'/\Kt (aO b B o) w w'
theorem fZ.same{w w' b B m}(h:MpA w b B m)(k:Kt nO w w'):fZ w w' b B m.o m:=⟨h.keep k,k.mono (fun _ _ x=>x.elim)⟩
theorem fZ.mk{w w' b B o m'}(h:MpA w' b B m')(k:Kt (aO b B o) w w'):fZ w w' b B o m':=⟨h,k⟩
theorem TE(b:Nat)(B:Bs)(m:Mp)(i c:Int)(w:World)(h:MpA w b B m)(hc:¬(aD m.n i=true/\0<=c/\c<=7)):
  Calls prog 212 #[.pointer (some ⟨b,0,none⟩),.int .i64 i,.int .i64 c] w fun e g=>e=.returned (.int .i64 1)/\Kt nO w g:=by
 have d:=aA h
 cases hi:aD m.n i with
 | false=>
  have a:=aA hi;clear h hc hi;go_enter func212,ntmps212;go_wp2_with fail;refine(fN b B m i _ d.o).mono ?_;rintro e f ⟨rfl,rfl⟩;rw[a.o];go_wp2_with fail;go_ret;exact⟨rfl,Kt.refl nO _⟩
 | true=>
  have a:=aA hi;by_cases h0:c<0
  ·clear h hc hi;go_enter func212,ntmps212;go_wp2_with fail;refine(fN b B m i _ d.o).mono ?_;rintro e f ⟨rfl,rfl⟩;rw[a.o];go_wp2_with fail;go_ret;exact⟨rfl,Kt.refl nO _⟩
  ·have k : 8<=c:=by
    by_cases j:c<=7
    ·exact absurd ⟨hi,by omega,j⟩ hc
    ·omega
   clear h hc hi;go_enter func212,ntmps212;go_wp2_with fail;refine(fN b B m i _ d.o).mono ?_;rintro e f ⟨rfl,rfl⟩;rw[a.o];go_wp2_with fail;go_ret;exact⟨rfl,Kt.refl nO _⟩
theorem ZL(b:Nat)(B:Bs)(m:Mp)(i c:Int)(w:World)(h:MpA w b B m):
  Calls prog 212 #[.pointer (some ⟨b,0,none⟩),.int .i64 i,.int .i64 c] w fun e f=>e=.returned (.int .i64 (pO m i c))/\fZ w f b B m.o (jO m i c):=by
 by_cases hc:aD m.n i=true/\0<=c/\c<=7
 ·rw[show pO m i c=0 from ae hc,show jO m i c={ m with pg:=aG m.pg i.toNat (eA c) } from ae hc];obtain⟨k,rfl,a⟩:=gR hc.1;obtain⟨d,rfl⟩:=au hc.2.1;refine(XY b B m k d w h a (by omega)).mono ?_;rintro e f ⟨rfl,g,j⟩;exact⟨rfl,fZ.mk g j⟩
 ·rw[show pO m i c=1 from ac hc,show jO m i c=m from ac hc];refine(TE b B m i c w h hc).mono ?_;rintro e f ⟨rfl,a⟩;exact⟨rfl,fZ.same h a⟩
def oO(m:Mp)(i c:Int):Bool:=aD m.n i && (decide ((m.pg i.toNat).kd=4) && aD (eJ (m.pg i.toNat).cl) c)
def jQ(m:Mp)(i c:Int)(live:Bool):Bool:=oO m i c && (aI (m.pg i.toNat) c.toNat != live)
def bX(m:Mp)(i c:Int)(live:Bool):Mp:=if jQ m i c live=true then { m with pg:=aG m.pg i.toNat (aT (m.pg i.toNat) c.toNat) } else m
def eD(m:Mp)(i c:Int)(live:Bool):Int:=if jQ m i c live=true then 0 else 1
theorem UV(b:Nat)(B:Bs)(m:Mp)(i c:Int)(a:Bool)(w:World)(h:MpA w b B m):
  Calls prog 165 #[.pointer (some ⟨b,0,none⟩),.int .i64 i,.int .i64 c,.bool a] w fun e j=>e=.returned (.int .i64 (eD m i c a))/\fZ w j b B m.o (bX m i c a):=by
 have no:∀ {E:Ending} {j:World},jQ m i c a=false->E=.returned (.int .i64 1)/\j=w->E=.returned (.int .i64 (eD m i c a))/\fZ w j b B m.o (bX m i c a):=by rintro E j hc ⟨rfl,rfl⟩;rw[show eD m i c a=1 by simp[eD,hc],show bX m i c a=m by simp[bX,hc]];exact⟨rfl,fZ.same h (Kt.refl _ _)⟩
 cases hi:aD m.n i with
 | false=>exact(VE b B m i c a w h hi).mono (fun _ _=>no (by simp[jQ,oO,hi]))
 | true=>
  obtain⟨k,rfl,l⟩:=gR hi;by_cases f:(m.pg k).kd=4
  ·cases hc:aD (eJ (m.pg k).cl) c with
   | false=>exact(zk1 b B m k c a w h l f hc).mono (fun _ _=>no (by simp[jQ,oO,hc]))
   | true=>
    obtain⟨d,rfl,hd⟩:=TS (h.ok k l).c0 hc;by_cases hl:aI (m.pg k) d=a
    ·subst hl;refine(zk2 b B m k d w h l f hc hd).mono ?_;rintro E j ⟨rfl,p⟩;have g:jQ m (k:Int) (d:Int) (aI (m.pg k) d)=false:=(by simp[jQ]);rw[show eD m (k:Int) (d:Int) (aI (m.pg k) d)=1 by simp[eD,g],show bX m (k:Int) (d:Int) (aI (m.pg k) d)=m by simp[bX,g]];exact⟨rfl,fZ.same h p⟩
    ·obtain rfl:a=!aI (m.pg k) d:=(by revert hl;cases aI (m.pg k) d <;> cases a <;> simp);have g:jQ m (k:Int) (d:Int) (!aI (m.pg k) d)=true:=by
      unfold jQ oO;rw[hi,aa,aa,af f,hc]
      cases aI (m.pg k) d <;> rfl
     rw[show eD m (k:Int) (d:Int) (!aI (m.pg k) d)=0 by simp[eD,g],show bX m (k:Int) (d:Int) (!aI (m.pg k) d)={ m with pg:=aG m.pg k (aT (m.pg k) d) } by simp[bX,g]];refine(zk3 b B m k d w h l f hc hd).mono ?_;rintro E j ⟨rfl,q,r⟩;exact⟨rfl,fZ.mk q r⟩
  ·exact(zk0 b B m k c a w h l f).mono (fun _ _=>no (by simp[jQ,oO,f]))
def lN(m:Mp)(i c:Int):Bool:=aD m.n i && (decide ((m.pg i.toNat).kd=4) && (c == -1 || aD (eJ (m.pg i.toNat).cl) c))
def fW(m:Mp)(i c:Int):Mp:=if lN m i c=true then { m with pg:=aG m.pg i.toNat { m.pg i.toNat with fs:=c } } else m
def kO(m:Mp)(i c:Int):Int:=if lN m i c=true then 0 else 1
theorem zjk(b:Nat)(B:Bs)(m:Mp)(i c:Int)(w:World)(h:MpA w b B m):
  Calls prog 214 #[.pointer (some ⟨b,0,none⟩),.int .i64 i,.int .i64 c] w fun e d=>e=.returned (.int .i64 (kO m i c))/\fZ w d b B m.o (fW m i c):=by
 have no:∀ {E:Ending} {d:World},lN m i c=false->E=.returned (.int .i64 1)/\d=w->E=.returned (.int .i64 (kO m i c))/\fZ w d b B m.o (fW m i c):=by rintro E d hc ⟨rfl,rfl⟩;rw[show kO m i c=1 by simp[kO,hc],show fW m i c=m by simp[fW,hc]];exact⟨rfl,fZ.same h (Kt.refl _ _)⟩
 cases hi:aD m.n i with
 | false=>exact(zjS b B m i c w h hi).mono (fun _ _=>no (by simp[lN,hi]))
 | true=>
  obtain⟨k,rfl,l⟩:=gR hi;by_cases a:(m.pg k).kd=4
  ·by_cases hc:c = -1\/aD (eJ (m.pg k).cl) c=true
   ·have f:lN m (k:Int) c=true:=by
     unfold lN;rw[hi,aa,af a];rcases hc with rfl|hc
     ·rfl
     ·simp[hc]
    rw[show kO m (k:Int) c=0 by simp[kO,f],show fW m (k:Int) c={ m with pg:=aG m.pg k { m.pg k with fs:=c } } by simp[fW,f]];refine(zlG b B m k c w h l a hc).mono ?_;rintro E d ⟨rfl,g,j⟩;exact⟨rfl,fZ.mk g j⟩
   ·have g:c ≠ -1:=fun e=>hc (.inl e)
    have j:aD (eJ (m.pg k).cl) c=false:=by cases e:aD (eJ (m.pg k).cl) c with|false=>rfl|true=>exact absurd (.inr e) hc
    exact(zif b B m k c w h l a g j).mono (fun _ _=>no (by simp[lN,g,j]))
  ·exact(zie b B m k c w h l a).mono (fun _ _=>no (by simp[lN,a]))
def kQ(m:Mp)(i x y:Int):Bool:=aD m.n i && (decide ((m.pg i.toNat).kd=4) && (cV m.n x && cV m.n y))
def eB(m:Mp)(i x y:Int):Mp:=if kQ m i x y=true then { m with pg:=aG m.pg i.toNat { m.pg i.toNat with nx:=x,pv:=y } } else m
def nI(m:Mp)(i x y:Int):Int:=if kQ m i x y=true then 0 else 1
theorem zjl(b:Nat)(B:Bs)(m:Mp)(i x y:Int)(w:World)(h:MpA w b B m):
  Calls prog 227 #[.pointer (some ⟨b,0,none⟩),.int .i64 i,.int .i64 x,.int .i64 y] w fun e d=>e=.returned (.int .i64 (nI m i x y))/\fZ w d b B m.o (eB m i x y):=by
 have no:∀ {E:Ending} {d:World},kQ m i x y=false->E=.returned (.int .i64 1)/\d=w->E=.returned (.int .i64 (nI m i x y))/\fZ w d b B m.o (eB m i x y):=by rintro E d hc ⟨rfl,rfl⟩;rw[show nI m i x y=1 by simp[nI,hc],show eB m i x y=m by simp[eB,hc]];exact⟨rfl,fZ.same h (Kt.refl _ _)⟩
 cases hi:aD m.n i with
 | false=>exact(zit b B m i x y w h hi).mono (fun _ _=>no (by simp[kQ,hi]))
 | true=>
  obtain⟨k,rfl,a⟩:=gR hi;by_cases c:(m.pg k).kd=4
  ·cases hx:cV m.n x with
   | false=>
    have l:x ≠ -1:=fun e=>by subst e;simp[cV] at hx
    have r:aD m.n x=false:=(by simpa [cV,l] using hx);exact(zhK b B m k x y w h a c l r).mono (fun _ _=>no (by simp[kQ,hx]))
   | true=>
    cases hy:cV m.n y with
    | false=>exact(KT b B m k x y w h a c hx 1 w (.inl ⟨hy,rfl,rfl⟩)).mono (fun _ _=>no (by simp[kQ,hy]))
    | true=>
     obtain⟨g,hg,q⟩:=h.has_row (by omega);have f:kQ m (k:Int) x y=true:=by unfold kQ;rw[hi,aa,af c,hx,hy];rfl
     rw[show nI m (k:Int) x y=0 by simp[nI,f],show eB m (k:Int) x y={ m with pg:=aG m.pg k { m.pg k with nx:=x,pv:=y } } by simp[eB,f]];refine(KT b B m k x y w h a c hx 0 _ (.inr ⟨hy,rfl,g,hg,rfl⟩)).mono ?_;rintro E d ⟨rfl,rfl⟩;refine⟨rfl,fZ.mk (h.pages hg (((Kt.refl (fun x=>x=g) w).setCell (p:=⟨g,_,none⟩) rfl _).setCell (p:=⟨g,_,none⟩) rfl _) (q.f45 k a x y) (fun j s=>?_)) (((Kt.refl (aO b B m.o) w).setCell (p:=⟨g,_,none⟩) (.inr (.inl hg)) _).setCell (p:=⟨g,_,none⟩) (.inr (.inl hg)) _)⟩;unfold aG;split
     ·exact⟨(h.ok k a).o0,(h.ok k a).o8,(h.ok k a).c0,(h.ok k a).c7,(h.ok k a).b0,(h.ok k a).b1,(h.ok k a).b2,(h.ok k a).b3⟩
     ·exact h.ok j s
  ·exact(zhJ b B m k x y w h a c).mono (fun _ _=>no (by simp[kQ,c]))
def nX(k i:Int):Nat:=i.toNat/2 ^ (k.toNat+1)
def nY(m:Mp)(k:Int):Nat:=m.n/2 ^ (k.toNat+1)
def dW(m:Mp)(k i:Int):Bool:=aD m.o k && aD m.n i
def fJ(m:Mp)(k i:Int):Mp:=if dW m k i=true then { m with wd:=fX m.wd k.toNat (gI (nY m k) (m.wd k.toNat) (nX k i:Int)) } else m
def pJ(m:Mp)(k i:Int):Int:=if dW m k i=true then 0 else 1
def iV(m:Mp)(k i:Int):Bool:=dW m k i && cT (nY m k) (m.wd k.toNat) (nX k i:Int)
def aH(f:Nat->Bool):Nat->Nat
 | 0=>0
 | k+1=>aH f k+(if f k=true then 1 else 0)
theorem sZ(f:Nat->Bool)(k:Nat):aH f k<=k:=by
 induction k with
 | zero=>simp[aH]
 | succ k a=>simp only[aH];split <;> omega
theorem mB(f:Nat->Bool)(k:Nat)(h:f k=true):aH f (k+1)=aH f k+1:=by simp[aH,h]
theorem lM(f:Nat->Bool)(k:Nat)(h:f k=false):aH f (k+1)=aH f k:=by simp[aH,h]
theorem oX(ws:List Nat)(j:Nat):aE ws j=(ws.getD (j/64) 0).testBit (j%64):=by unfold aE;rw[Nat.testBit_eq_decide_div_mod_eq];rfl
theorem qT(ws:List Nat)(k j:Nat)(b:k/64<ws.length):aE (kK ws k) j=(if j=k then !aE ws k else aE ws j):=by
 rw[oX,oX,oX];unfold kK;by_cases e:j/64=k/64
 ·rw[e,uG _ _ _ b,Nat.testBit_xor,Nat.testBit_two_pow];by_cases a:j=k
  ·subst a;simp
  ·have:¬k%64=j%64:=by omega
   simp[a,this]
 ·rw[getD_set_ne _ _ _ _ e];have:¬j=k:=by intro h;subst h;exact e rfl
  simp[this]
theorem wJ(zs:List Nat)(N j:Nat)(hz:∀ i,zs.getD i 0<2 ^ 64)(a:j<N):aE (dA zs N) j=aE zs j:=by
 rw[oX,oX,vX zs N (j/64) hz (by omega),Nat.testBit_mod_two_pow];have:j%64<min 64 (N-64*(j/64)):=by omega
 simp[this]
theorem uC(f g:Nat->Bool)(n:Nat)(h:∀ j,j<n->f j=g j):aH f n=aH g n:=by
 induction n with
 | zero=>rfl
 | succ n a=>simp only[aH];rw[a (fun j b=>h j (by omega)),h n (by omega)]
theorem zhR(f:Nat->Bool)(k:Nat):aH f (k+1)=(if f 0=true then 1 else 0)+aH (fun j=>f (j+1)) k:=by
 induction k with
 | zero=>simp[aH]
 | succ k a=>rw[aH,a];simp only[aH];omega
theorem zkG(f:Nat->Bool)(a k:Nat):aH f (a+k)=aH f a+aH (fun j=>f (a+j)) k:=by
 induction k with
 | zero=>simp[aH]
 | succ k b=>rw[<-Nat.add_assoc,aH,b];simp only[aH];omega
theorem ziR(k x:Nat):dB k x=aH (fun p=>x/2 ^ p%2 == 1) k:=by
 induction k generalizing x with
 | zero=>rfl
 | succ k a=>
  rw[zhR,dB,a (x/2)];congr 1
  ·by_cases h:x%2=1
   ·simp[h]
   ·have:x%2=0:=by omega
    simp[this]
  ·apply uC
   intro j b;rw[Nat.div_div_eq_div_mul,ci,aq]
theorem uB(ws:List Nat)(hz:∀ i,ws.getD i 0<2 ^ 64)(m:Nat):mK ws m=aH (aE ws) (64*m):=by
 induction m with
 | zero=>rfl
 | succ m a=>
  rw[xT,a,Nat.mul_add,Nat.mul_one,zkG];congr 1
  rw[uU 64 _ (hz m),ziR];apply uC
  intro p hp;exact(wD ws m p hp).symm
theorem ziS(f g:Nat->Bool)(j M:Nat)(h:∀ i,i≠j->f i=g i)(hf:f j=true)(hg:g j=false)(b:j<M):aH g M+1=aH f M:=by
 induction M with
 | zero=>omega
 | succ M a=>
  by_cases e:j=M
  ·subst e;rw[mB f j hf,lM g j hg,uC f g j (fun i hi=>h i (by omega))]
  ·have:=a (by omega);simp only[aH,h M (fun x=>e x.symm)];omega
theorem ziT(f:Nat->Bool)(M:Nat)(h:∀ j,j<M->f j=false):aH f M=0:=by
 induction M with
 | zero=>rfl
 | succ M a=>rw[lM f M (h M (by omega)),a (fun j b=>h j (by omega))]
theorem ziU(ws:List Nat)(j:Nat)(hz:∀ i,ws.getD i 0<2 ^ 64)(a:∀ i,(kK ws j).getD i 0<2 ^ 64)(b:j/64<ws.length)(hb:aE ws j=true):aZ (kK ws j)+1=aZ ws:=by
 unfold aZ;rw[uB _ a,uB _ hz,JO];refine ziS (aE ws) (aE (kK ws j)) j _ ?_ hb ?_ (by omega)
 ·intro i hi;rw[qT ws j i b,ac hi]
 ·rw[qT ws j j b,ae rfl,hb];rfl
def gC(f:Nat->Nat)(k x:Nat):Nat->Nat:=fun j=>if j=k then x else f j
theorem MpA.newset{w w' b B m q k}{ws:List Nat}(h:MpA w b B m)(G:k<m.o)(hq:B.P=some q)(kp:Kt nO w w')(hS:SetAt w' (w.heap.size+1) w.heap.size (m.n/2 ^ (k+1)) ws):
  MpA (w'.setCell ⟨q,k,none⟩ (.pointer (some ⟨w.heap.size+1,0,none⟩))) b ⟨B.g,B.P,gC B.S k (w.heap.size+1),gC B.C k w.heap.size⟩ { m with wd:=fX m.wd k ws }:=by
 have u:=h.keep kp;obtain⟨A,hb,hp⟩:=u.hb;rw[hq] at hp;obtain⟨cs,a,hs,F,hc⟩:=hp;have t:Kt (fun x=>x=q) w' (w'.setCell ⟨q,k,none⟩ (.pointer (some ⟨w.heap.size+1,0,none⟩))):=(Kt.refl (fun x=>x=q) w').setCell (p:=⟨q,k,none⟩) rfl _;have l:∀ j,j<m.o->B.S j<w.heap.size:=fun j c=>lH (h.set j c).hb
 have r:∀ j,j<m.o->B.C j<w.heap.size:=fun j c=>lH (h.set j c).hc
 have E:nB (w'.setCell ⟨q,k,none⟩ (.pointer (some ⟨w.heap.size+1,0,none⟩))) B.P m.o A (gC B.S k (w.heap.size+1)):=by
  rw[hq];refine⟨_,cF a k _,by simpa using hs,F,fun j c=>?_⟩;rw[Array.getElem?_setIfInBounds];unfold gC;by_cases e:j=k
  ·subst e;rw[ae rfl,ae (by omega),ae rfl]
  ·rw[ac (by omega),ac e];exact hc j c
 refine⟨h.o8,h.n1,h.dv,⟨A,(t.block b (lH hb) (bY hb a (by decide))).trans hb,E⟩,Rows.kept u.row t (fun x e=>?_),fun j c=>?_,fun i j hi c e=>?_,fun i j hi c e=>?_,h.ok⟩
 ·have D:=u.row;rw[e] at D;obtain⟨I,y,_⟩:=D;exact bY y a (by decide)
 ·show SetAt _ (gC B.S k (w.heap.size+1) j) (gC B.C k w.heap.size j) (m.n/2 ^ (j+1)) (fX m.wd k ws j)
  unfold gC fX;by_cases e:j=k
  ·subst e;rw[ae rfl,ae rfl,ae rfl];exact hS.kept t (bY hS.hb a (by decide)) (bY hS.hc a (by decide))
  ·rw[ac e,ac e,ac e];have s:=u.set j c;exact s.kept t (bY s.hb a (by decide)) (bY s.hc a (by decide))
 ·have f:i<m.o:=hi;have d:j<m.o:=c;have e:gC B.S k (w.heap.size+1) i=gC B.S k (w.heap.size+1) j:=e;unfold gC at e;by_cases v:i=k <;> by_cases z:j=k <;> simp only[v,z,if_true,if_false] at e
  ·omega
  ·have:=l j d;omega
  ·have:=l i f;omega
  ·exact h.injS i j f d e
 ·have f:i<m.o:=hi;have d:j<m.o:=c;have e:gC B.C k w.heap.size i=gC B.C k w.heap.size j:=e;unfold gC at e;by_cases v:i=k <;> by_cases z:j=k <;> simp only[v,z,if_true,if_false] at e
  ·omega
  ·have:=r j d;omega
  ·have:=r i f;omega
  ·exact h.injC i j f d e
def PgC(w:World)(bl o i:Nat)(p:Pg):Prop:=w.cell? ⟨bl,o+i*11,none⟩=some (.int .i64 p.kd)/\w.cell? ⟨bl,o+i*11+1,none⟩=some (.int .i64 p.od)/\w.cell? ⟨bl,o+i*11+2,none⟩=some (.int .i64 p.cl)/\w.cell? ⟨bl,o+i*11+3,none⟩=some (.int .i64 p.lv)/\w.cell? ⟨bl,o+i*11+4,none⟩=some (.int .i64 p.nx)/\w.cell? ⟨bl,o+i*11+5,none⟩=some (.int .i64 p.pv)/\w.cell? ⟨bl,o+i*11+6,none⟩=some (.int .i64 p.fs)/\w.cell? ⟨bl,o+i*11+7,none⟩=some (.int .u64 p.b0)/\w.cell? ⟨bl,o+i*11+8,none⟩=some (.int .u64 p.b1)/\w.cell? ⟨bl,o+i*11+9,none⟩=some (.int .u64 p.b2)/\w.cell? ⟨bl,o+i*11+10,none⟩=some (.int .u64 p.b3)
def N64(z:Int):Prop := -9223372036854775808<=z/\z<=9223372036854775807
structure PgIn(p:Pg):Prop where
 kd:N64 p.kd
 od:N64 p.od
 cl:N64 p.cl
 lv:N64 p.lv
 nx:N64 p.nx
 pv:N64 p.pv
 fs:N64 p.fs
 b0:p.b0<18446744073709551616
 b1:p.b1<18446744073709551616
 b2:p.b2<18446744073709551616
 b3:p.b3<18446744073709551616
def YG(w:World)(v:Value)(n:Nat)(pg:Nat->Pg):Prop:=
 n<=9223372036854775807/\∃ oa oc,v=.slice oa n oc/\(n=0\/∃ bl o,oa=some ⟨bl,o,none⟩/\bl<w.heap.size/\∀ i,i<n->PgIn (pg i)/\PgC w bl o i (pg i))
def VF(w:World)(v:Value)(o:Nat)(ws:Nat->Value)(zs:Nat->List Nat):Prop:=
 o<=9223372036854775807/\∃ oa oc,v=.slice oa o oc/\(o=0\/∃ bl f,oa=some ⟨bl,f,none⟩/\bl<w.heap.size/\∀ k,k<o->w.cell? ⟨bl,f+k,none⟩=some (ws k)/\Src w (ws k) (zs k))
theorem PgC.kept{w b:World}{c o i:Nat}{p:Pg}(h:PgC w c o i p)(k:Kt nO w b):PgC b c o i p:=by obtain⟨g,m,l,n,q,e,r,d,j,f,a⟩:=h;exact⟨k.cell (fun x=>x) g,k.cell (fun x=>x) m,k.cell (fun x=>x) l,k.cell (fun x=>x) n,k.cell (fun x=>x) q,k.cell (fun x=>x) e,k.cell (fun x=>x) r,k.cell (fun x=>x) d,k.cell (fun x=>x) j,k.cell (fun x=>x) f,k.cell (fun x=>x) a⟩
end Go.Proofs.YtfmgnljlkdmndaaGreatDoor
