import Derived.Test.YtfmgnljlkdmndaaGreatDoorXr
import Derived.Test.YtfmgnljlkdmndaaGreatDoorXq
set_option maxRecDepth 1000000
set_option maxHeartbeats 0
namespace Go.Proofs.YtfmgnljlkdmndaaGreatDoor
open Tryz RowKit
set_option linter.unusedVariables false
def dY(c:Int):Pg:={ aT 4 0 with cl:=c }
theorem PgOk.fj(c:Nat)(h:c<8):PgOk (dY c):=⟨by show(0:Int)<=0;decide,by show(0:Int)<=8;decide,by show(0:Int)<=c;omega,by show(c:Int)<=7;omega,by show 0<_;decide,by show 0<_;decide,by show 0<_;decide,by show 0<_;decide⟩
def jN(m:Mp)(i c:Int):Mp:=if aD m.n i=true/\0<=c/\c<=7 then { m with pg:=aH m.pg i.toNat (dY c) } else m
def pO(m:Mp)(i c:Int):Int:=if aD m.n i=true/\0<=c/\c<=7 then 0 else 1
theorem YM(m:Mp)(i c:Int):(jN m i c).n=m.n:=by unfold jN;split <;> rfl
theorem ZJ(b:Nat)(B:Bs)(m:Mp)(k c:Nat)(w:Wd)(h:MpA w b B m)(s:k<m.n)(hc:c<8):Calls prog 212 #[.pointer (some ⟨b,0,none⟩),.int .i64 k,.int .i64 c] w fun e v=>e=.returned (.int .i64 0)/\MpA v b B { m with pg:=aH m.pg k (dY c) }/\Kt (aP b B m.o) w v:=by
 have t:=aA h;have F:=aA (dN s);have u:=aA s;have J:¬(c:Int)<0:=by omega
 have G:¬ 8<=(c:Int):=by omega
 have D:(k:Int)<m.n:=by omega
 obtain⟨g,hg,f⟩:=h.et (by omega);clear h f s;go_enter func212,ntmps212;go_wp2_with fail;refine(fL b B m k _ t.o).mono ?_;rintro e d ⟨rfl,rfl⟩;rw[F.o];go_wp2_with fail;refine(qV 4 0 d).mono ?_;rintro e p ⟨rfl,a⟩;have E:=aA (show Kt nO d p by rw[a];exact(kz d).alloc _);have T:=aA (show p.heap.size=d.heap.size+1 by rw[a];simp);clear a;go_wp2_with fail;obtain⟨W,l⟩:=xe (p.alloc (.cells #[.int .i64 (aT 4 0).kd,.int .i64 (aT 4 0).od,.int .i64 c,.int .i64 (aT 4 0).lv,.int .i64 (aT 4 0).nx,.int .i64 (aT 4 0).pv,.int .i64 (aT 4 0).fs,.int .u64 ((aT 4 0).b0:Int),.int .u64 ((aT 4 0).b1:Int),.int .u64 ((aT 4 0).b2:Int),.int .u64 ((aT 4 0).b3:Int)] 97));rw[<-l];have KW:=aA (show Kt nO d W by rw[l];exact E.o.alloc _);have L:=aA (show W.heap[p.heap.size]?=some (aO (dY c))by rw[l];exact nH _ _);have j:=aA (t.o.dk KW.o);clear l;obtain⟨X,S,x2,N,R,x5,x6,x7,x8,Z,C⟩:=iR L.o;have c1:=j.o.c1 hg;have f:=j.o.row;rw[hg] at f;have r:=aA (show bO W g m.n m.pg from f);obtain⟨d0,P,d2,Y,Q,d5,d6,V,U,d9,I⟩:=r.o.cell k u.o;have z:=aZ.ic r.o;have y:=aA hg;clear f hg;go_region
 all_goals
  go_wp2_with fail;go_ret;have K:=(r.o.put k u.o (dY c));have q:∀ i,i<m.n->PgOk (aH m.pg k (dY c) i):=fun i hi=>by
   unfold aH;split;·exact PgOk.fj c (by omega)
   ·exact j.o.ok i hi
  have A:=nP W g k (dY c);exact⟨rfl,(j.o.fh y.o A K q).dk (kz _).drew,(KW.o.trans A (fun _ _ x=>x.elim) (fun x _ e=>.inr (.inl (e▸y.o)))).drew⟩
theorem zlZ(k o:Nat)(d:o<=8)(c:k<1024):wrap64 ((k:Int)/2 ^ o*2 ^ o)=((k/2 ^ o*2 ^ o:Nat):Int):=by
 have b:k/2 ^ o*2 ^ o<=k:=Nat.div_mul_le_self _ _;have a:((k:Int)/2 ^ o*2 ^ o)=((k/2 ^ o*2 ^ o:Nat):Int):=by simp
 rw[a];generalize k/2 ^ o*2 ^ o=z at *;unfold wrap64;omega
def kF(m:Mp)(i:Int):Int:=if aD m.n i=true then ((i.toNat/2 ^ (m.pg i.toNat).od.toNat*2 ^ (m.pg i.toNat).od.toNat:Nat):Int) else -1
theorem zl0(b:Nat)(B:Bs)(m:Mp)(i:Int)(w:Wd)(h:MpA w b B m)(hi:aD m.n i=false):Calls prog 163 #[.pointer (some ⟨b,0,none⟩),.int .i64 i] w fun e c=>e=.returned (.int .i64 (-1))/\c=w:=by
 have a:=aA h;have d:=aA hi;clear h hi;go_enter func163,ntmps163;go_wp2_with fail;refine(fL b B m i _ a.o).mono ?_;rintro e f ⟨rfl,rfl⟩;rw[d.o];go_wp2_with fail;go_ret;exact⟨rfl,rfl⟩
theorem UB(b:Nat)(B:Bs)(m:Mp)(k o:Nat)(w:Wd)(h:MpA w b B m)(d:k<m.n)(r:(m.pg k).od=o):Calls prog 163 #[.pointer (some ⟨b,0,none⟩),.int .i64 k] w fun e p=>e=.returned (.int .i64 ((k/2 ^ o*2 ^ o:Nat):Int))/\p=w:=by
 have i:=aA h;have q:=aA (dN d);have a:o<=8:=by have:=(h.ok k d).o8;omega
 have c:k<1024:=by have:=h.n1;omega
 obtain⟨g,hg,f⟩:=h.et (by omega);have j:=(f.cell k d).2.1;rw[r] at j;have c1:=h.c1 hg;have l:(k:Int)<m.n:=by omega
 have s:=aA (zlZ k o a c);clear h f hg;go_enter func163,ntmps163;go_wp2_with fail;refine(fL b B m k _ i.o).mono ?_;rintro e t ⟨rfl,rfl⟩;rw[q.o];go_wp2_with fail;go_ret;exact⟨dX s.o,rfl⟩
theorem bO.f6{w g n pg}(h:bO w g n pg)(i:Nat)(hi:i<n)(x:Int):bO (w.setCell ⟨g,i*11+6,none⟩ (.int .i64 x)) g n (aH pg i { pg i with fs:=x }):=by
 have:=aZ.set h i 6 hi (by decide) (.int .i64 x);refine aZ.congr this (fun a ha b hb=>sF a b hb (fun j c=>?_) (fun e=>?_))
 ·revert j
  apply jG <;> simp[lO,Pg.es]
 ·simp[lO,e]
theorem zka(b:Nat)(B:Bs)(m:Mp)(i c:Int)(w:Wd)(h:MpA w b B m)(hi:aD m.n i=false):Calls prog 214 #[.pointer (some ⟨b,0,none⟩),.int .i64 i,.int .i64 c] w fun e d=>e=.returned (.int .i64 1)/\d=w:=by
 have a:=aA h;have f:=aA hi;clear h hi;go_enter func214,ntmps214;go_wp2_with fail;refine(wL b B m i _ a.o f.o).mono ?_;rintro e g ⟨rfl,rfl⟩;go_wp2_with fail;go_ret;exact⟨rfl,rfl⟩
theorem zil(b:Nat)(B:Bs)(m:Mp)(k:Nat)(c:Int)(w:Wd)(h:MpA w b B m)(i:k<m.n)(a:(m.pg k).kd≠4):Calls prog 214 #[.pointer (some ⟨b,0,none⟩),.int .i64 k,.int .i64 c] w fun e d=>e=.returned (.int .i64 1)/\d=w:=by
 have j:=aA h;obtain⟨g,hg,f⟩:=h.et (by omega);have S:=aA (lJ b B m g k w h hg i);rw[ac a] at S;clear h f hg;go_enter func214,ntmps214;go_wp2_with fail;refine S.o.mono ?_;rintro e l ⟨rfl,rfl⟩;go_wp2_with fail;go_ret;exact⟨rfl,rfl⟩
theorem zim(b:Nat)(B:Bs)(m:Mp)(k:Nat)(c:Int)(w:Wd)(h:MpA w b B m)(a:k<m.n)(d:(m.pg k).kd=4)(l:c ≠ -1)(hc:aD (eD (m.pg k).cl) c=false):Calls prog 214 #[.pointer (some ⟨b,0,none⟩),.int .i64 k,.int .i64 c] w fun e j=>e=.returned (.int .i64 1)/\j=w:=by
 have r:=aA h;obtain⟨g,hg,i⟩:=h.et (by omega);have S:=aA (lJ b B m g k w h hg a);rw[ae d] at S;obtain⟨C,s,q,x,t,z,A,v,u,y,p⟩:=i.cell k a;have f:=aA (qT g (k*11) (m.pg k).cl (h.ok k a).c0 (h.ok k a).c7 c w q);rw[hc] at f;clear h i hg;go_enter func214,ntmps214;go_wp2_with fail;refine S.o.mono ?_;rintro e o ⟨rfl,rfl⟩;go_wp2_with fail;refine f.o.mono ?_;rintro e o ⟨rfl,rfl⟩;go_wp2_with fail;go_ret;exact⟨rfl,rfl⟩
theorem zl1(b:Nat)(B:Bs)(m:Mp)(k:Nat)(c:Int)(w:Wd)(h:MpA w b B m)(a:k<m.n)(j:(m.pg k).kd=4)(hc:c = -1\/aD (eD (m.pg k).cl) c=true):Calls prog 214 #[.pointer (some ⟨b,0,none⟩),.int .i64 k,.int .i64 c] w fun e q=>e=.returned (.int .i64 0)/\MpA q b B { m with pg:=aH m.pg k { m.pg k with fs:=c } }/\Kt (aP b B m.o) w q:=by
 have v:=aA h;obtain⟨g,hg,f⟩:=h.et (by omega);have S:=aA (lJ b B m g k w h hg a);rw[ae j] at S;obtain⟨J,y,u,E,A,G,I,D,C,F,t⟩:=f.cell k a;have s:=aA (qT g (k*11) (m.pg k).cl (h.ok k a).c0 (h.ok k a).c7 c w u);have z:=aZ.ic f;have d:=aA (show MpA (w.setCell ⟨g,k*11+6,none⟩ (.int .i64 c)) b B { m with pg:=aH m.pg k { m.pg k with fs:=c } }/\Kt (aP b B m.o) w (w.setCell ⟨g,k*11+6,none⟩ (.int .i64 c))from
  ⟨h.fh hg ((Kt.refl (fun x=>x=g) w).setCell (p:=⟨g,_,none⟩) rfl _) (f.f6 k a c) (fun i hi=>by
   unfold aH;split;·exact⟨(h.ok k a).o0,(h.ok k a).o8,(h.ok k a).c0,(h.ok k a).c7,(h.ok k a).b0,(h.ok k a).b1,(h.ok k a).b2,(h.ok k a).b3⟩
   ·exact h.ok i hi),(Kt.refl (aP b B m.o) w).setCell (p:=⟨g,_,none⟩) (.inr (.inl hg)) _⟩)
 clear h f hg;by_cases l:c = -1;·subst l;clear hc;go_enter func214,ntmps214;go_wp2_with fail;refine S.o.mono ?_;rintro e r ⟨rfl,rfl⟩;go_wp2_with fail;go_ret;exact⟨rfl,d.o⟩
 ·rw[hc.resolve_left l] at s;clear hc;go_enter func214,ntmps214;go_wp2_with fail;refine S.o.mono ?_;rintro e r ⟨rfl,rfl⟩;go_wp2_with fail;refine s.o.mono ?_;rintro e r ⟨rfl,rfl⟩;go_wp2_with fail;go_ret;exact⟨rfl,d.o⟩
def jR(m:Mp)(p o k:Int):Bool:=decide ((k=0\/k=2)/\0<=o/\o<=m.o) && (aD m.n p && decide (p%2 ^ o.toNat=0))
theorem QQ(b:Nat)(B:Bs)(m:Mp)(p o k:Int)(w:Wd)(h:MpA w b B m)(hc:¬((k=0\/k=2)/\0<=o/\o<=m.o)):Calls prog 175 #[.pointer (some ⟨b,0,none⟩),.int .i64 p,.int .i64 o,.int .i64 k] w fun e c=>e=.returned (.int .i64 1)/\c=w:=by
 have c0:=h.c0;clear h;by_cases h0:k=0
 ·subst h0;by_cases d:o<0
  ·clear hc;go_enter func175,ntmps175;go_wp2_with fail;go_ret;exact⟨rfl,rfl⟩
  ·have f:(m.o:Int)<o:=(by omega);clear hc;go_enter func175,ntmps175;go_wp2_with fail;go_ret;exact⟨rfl,rfl⟩
 ·by_cases a:k=2
  ·subst a;by_cases d:o<0
   ·clear hc;go_enter func175,ntmps175;go_wp2_with fail;go_ret;exact⟨rfl,rfl⟩
   ·have f:(m.o:Int)<o:=(by omega);clear hc;go_enter func175,ntmps175;go_wp2_with fail;go_ret;exact⟨rfl,rfl⟩
  ·clear hc;go_enter func175,ntmps175;go_wp2_with fail;go_ret;exact⟨rfl,rfl⟩
theorem QP(b:Nat)(B:Bs)(m:Mp)(p:Int)(o k:Nat)(w:Wd)(h:MpA w b B m)(g:k=0\/k=2)(j:o<=m.o)(hp:aD m.n p=false):Calls prog 175 #[.pointer (some ⟨b,0,none⟩),.int .i64 p,.int .i64 o,.int .i64 k] w fun e f=>e=.returned (.int .i64 1)/\f=w:=by
 have c0:=h.c0;have a:=aA h;have i:=aA hp;have d:¬(m.o:Int)<o:=by omega
 have c:¬(o:Int)<0:=by omega
 clear h hp;rcases g with rfl|rfl
 all_goals
  go_enter func175,ntmps175;go_wp2_with fail;refine(fL b B m p _ a.o).mono ?_;rintro e l ⟨rfl,rfl⟩;rw[i.o];go_wp2_with fail;go_ret;exact⟨rfl,rfl⟩
theorem QO(b:Nat)(B:Bs)(m:Mp)(p o k:Nat)(w:Wd)(h:MpA w b B m)(u:k=0\/k=2)(x:o<=m.o)(hp:p<m.n)(d:p%2 ^ o≠0):Calls prog 175 #[.pointer (some ⟨b,0,none⟩),.int .i64 p,.int .i64 o,.int .i64 k] w fun e l=>e=.returned (.int .i64 1)/\l=w:=by
 have c0:=h.c0;have f:=aA h;have v:=aA (dN hp);have a:o<=8:=by have:=h.o8;omega
 have g:=h.n1;have j:¬(m.o:Int)<o:=by omega
 have i:¬(o:Int)<0:=by omega
 obtain⟨z,hz⟩:=xe (2 ^ o);have t:(2:Int) ^ o=(z:Int):=by rw[hz];simp
 have r : 1<=z:=by rw[hz];exact pR o
 have s:z<=256:=by rw[hz];exact bj (n:=2) (by decide) a
 rw[<-hz] at d;have c:((p:Int)%(z:Int) == 0)=false:=ag.2 (by omega);have q:((p:Int)%(z:Int) != 0)=true:=by simp only[bne,c,Bool.not_false]
 clear h hp hz d;rcases u with rfl|rfl
 all_goals
  go_enter func175,ntmps175;go_wp2_with fail;refine(fL b B m p _ f.o).mono ?_;rintro e y ⟨rfl,rfl⟩;rw[v.o];go_wp2_with fail;go_ret;exact⟨rfl,rfl⟩
def cF(m:Mp)(p o k:Int):Mp:=if jR m p o k=true then { m with pg:=fC m.pg p.toNat o.toNat k } else m
def fM(m:Mp)(p o k:Int):Int:=if jR m p o k=true then 0 else 1
theorem DW(b:Nat)(B:Bs)(m:Mp)(p o k:Int)(w:Wd)(h:MpA w b B m):Calls prog 175 #[.pointer (some ⟨b,0,none⟩),.int .i64 p,.int .i64 o,.int .i64 k] w fun e d=>e=.returned (.int .i64 (fM m p o k))/\MpA d b B (cF m p o k)/\Kt (aP b B m.o) w d:=by
 have no:∀ {E:Ending} {d:Wd},jR m p o k=false->E=.returned (.int .i64 1)/\d=w->E=.returned (.int .i64 (fM m p o k))/\MpA d b B (cF m p o k)/\Kt (aP b B m.o) w d:=by rintro E d hc ⟨rfl,rfl⟩;rw[show fM m p o k=1 by simp[fM,hc],show cF m p o k=m by simp[cF,hc]];exact⟨rfl,h,Kt.refl _ _⟩
 by_cases f:(k=0\/k=2)/\0<=o/\o<=m.o
 ·obtain⟨a,rfl⟩:=au f.2.1;obtain⟨c,rfl⟩:=au (show 0<=k by omega);have i:a<=m.o:=by omega
  have j:c=0\/c=2:=by omega
  cases h2:aD m.n p with
  | false=>exact(QP b B m p a c w h j i h2).mono (fun _ _=>no (by simp[jR,h2]))
  | true=>
   obtain⟨q,rfl,hq⟩:=gP h2;have l:((q:Int)%2 ^ (a:Int).toNat=0)↔q%2 ^ a=0:=by
    have:((q:Int)%2 ^ (a:Int).toNat)=((q%2 ^ a:Nat):Int):=by simp
    rw[this];omega
   by_cases g:q%2 ^ a=0
   ·have hc:jR m (q:Int) (a:Int) (c:Int)=true:=by
     unfold jR;rw[af f,h2,af (l.2 g)];rfl
    rw[show fM m (q:Int) (a:Int) (c:Int)=0 by simp[fM,hc],show cF m (q:Int) (a:Int) (c:Int)={ m with pg:=fC m.pg q a c } by simp[cF,hc]];exact BO b B m q a c w h hq i g j
   ·exact(QO b B m q a c w h j i hq g).mono (fun _ _=>no (by unfold jR;rw[show decide ((q:Int)%2 ^ (a:Int).toNat=0)=false from ah (fun e=>g (l.1 e))];simp))
 ·exact(QQ b B m p o k w h f).mono (fun _ _=>no (by unfold jR;rw[ah f];rfl))
theorem dK.kept{w a d:Wd}{b:Nat}{B c:Bs}{o:Nat}(k:Kt (aP b B o) w a)(f:dK w b B c o)(g:Kt (aP b c o) a d):Kt (aP b B o) w d:=
 k.trans g (fun _ _ x=>x) (fun x hx e=>(f x e).resolve_right (by omega))
def dD(m:Mp):Mp:=if 1024<m.n+2 ^ m.o then m else { dB m (m.n+2 ^ m.o)with pg:=fC (dB m (m.n+2 ^ m.o)).pg m.n m.o 2 }
theorem zjp(b:Nat)(B:Bs)(m:Mp)(w:Wd)(h:MpA w b B m)(hf : 1024<m.n+2 ^ m.o):Calls prog 221 #[.pointer (some ⟨b,0,none⟩)] w fun e d=>e=.returned (.tuple #[])/\d=w:=by
 obtain⟨j,c0,c1,c2⟩:=h.cb;have a:=h.o8;have c:=h.n1;obtain⟨z,hz⟩:=xe (2 ^ m.o);have i:(2:Int) ^ m.o=(z:Int):=by rw[hz];simp
 have g:z<=256:=by rw[hz];exact bj (n:=2) (by decide) a
 rw[<-hz] at hf;have f:(1024:Int)<(m.n:Int)+z:=by omega
 clear h hz;go_enter func221,ntmps221;go_wp2_with fail;exact⟨rfl,.tuple #[],by simp[results,results221,go_sem],rfl,rfl⟩
theorem VG{n o:Nat}(h:∃ r,n=r*2 ^ o):∃ r,n+2 ^ o=r*2 ^ o:=by obtain⟨r,a⟩:=h;exact⟨r+1,by rw[a,av,aL]⟩
theorem AV{n o:Nat}(h:∃ r,n=r*2 ^ o):n%2 ^ o=0:=by obtain⟨r,a⟩:=h;rw[a];exact Nat.mul_mod_left _ _
theorem VO(b:Nat)(B:Bs)(m:Mp)(w:Wd)(h:MpA w b B m)(hf:¬ 1024<m.n+2 ^ m.o):Calls prog 221 #[.pointer (some ⟨b,0,none⟩)] w fun e q=>e=.returned (.tuple #[])/\∃ r,MpA q b r (dD m)/\Kt (aP b B m.o) w q/\dK w b B r m.o:=by
 rw[show dD m={ dB m (m.n+2 ^ m.o)with pg:=fC (dB m (m.n+2 ^ m.o)).pg m.n m.o 2 } by simp only[dD,ac hf]];obtain⟨E,c0,c1,c2⟩:=h.cb;have k:=h.o8;have u:=h.n1;have l:=aA (xW b B m (m.n+2 ^ m.o) (by omega) (VG h.dv) w h);have RN:=aA (fun j d (t:MpA j b d (dB m (m.n+2 ^ m.o)))=>BO b d (dB m (m.n+2 ^ m.o)) m.n m.o 2 j t (by show m.n<m.n+2 ^ m.o;have:=pR m.o;omega) (aj _) (AV h.dv) (.inr rfl));obtain⟨z,hz⟩:=xe (2 ^ m.o);have D:(2:Int) ^ m.o=(z:Int):=by rw[hz];simp
 have C:z<=256:=by rw[hz];exact bj (n:=2) (by decide) k
 rw[<-hz] at hf l RN ⊢;have v:¬(1024:Int)<(m.n:Int)+z:=by omega
 have a:((m.n+z:Nat):Int)=(m.n:Int)+z:=by omega
 rw[a] at l;have i:=aA (show(dB m (m.n+z)).o=m.o from rfl);generalize dB m (m.n+z)=F at *;clear h hz a;go_enter func221,ntmps221;go_wp2_with fail;refine l.o.mono ?_;rintro e j ⟨rfl,d,c,hK1,f⟩;have x:=aA c;have A:=aA hK1;have s:=aA f;have c0:=c.c0;rw[i.o] at c0;clear c hK1 f;go_wp2_with fail;refine(RN.o j d x.o).mono ?_;rintro e G ⟨rfl,g,hK2⟩;have y:=aA g;have p:=aA hK2;rw[i.o] at p;clear g hK2;go_wp2_with fail;go_end0
 exact⟨rfl,d,y.o,dK.kept A.o s.o p.o,s.o⟩
theorem dK.refl(w:Wd)(b:Nat)(B:Bs)(o:Nat):dK w b B B o:=fun _ h=>.inl h
theorem ZT(b:Nat)(B:Bs)(m:Mp)(w:Wd)(h:MpA w b B m):Calls prog 221 #[.pointer (some ⟨b,0,none⟩)] w fun e a=>e=.returned (.tuple #[])/\∃ c,MpA a b c (dD m)/\Kt (aP b B m.o) w a/\dK w b B c m.o:=by
 by_cases hf : 1024<m.n+2 ^ m.o;·refine(zjp b B m w h hf).mono ?_;rintro e a ⟨rfl,rfl⟩;rw[show dD m=m by simp only[dD,ae hf]];exact⟨rfl,B,h,Kt.refl _ _,dK.refl _ _ _ _⟩
 ·exact VO b B m w h hf
theorem PF{n o k:Nat}(h:∃ r,n=r*2 ^ o):∃ r,n-k*2 ^ o=r*2 ^ o:=by obtain⟨r,a⟩:=h;exact⟨r-k,by rw[a,Nat.sub_mul]⟩
theorem TQ(n o d:Nat)(b:o<=8)(hd:(n:Int)*2 ^ o=d)(a:d<=1024)(W:Wd):Sem.run prog (Op.shift BinOp.shl IntKind.i64 (n:Int) IntKind.i64 (o:Int)) W=Result.ok (.int .i64 d) W:=by unfold Op.shift;simp[go_sem];rw[ac (by omega),Nat.min_eq_left (by omega),hd,show IntKind.i64.wrap (d:Int)=d by rw[cz];omega]
theorem zkx(b:Nat)(B:Bs)(m:Mp)(n:Nat)(w:Wd)(h:MpA w b B m)(D:n<=m.n/2 ^ m.o):Calls prog 157 #[.pointer (some ⟨b,0,none⟩),.int .i64 n] w fun e i=>e=.returned (.int .i64 0)/\∃ j,MpA i b j (dB m (m.n-n*2 ^ m.o))/\Kt (aP b B m.o) w i/\dK w b B j m.o:=by
 obtain⟨J,c0,c1,c2⟩:=h.cb;have f:=h.o8;have t:=h.n1;have C:=aA (fun i (G:Kt nO w i)=>xW b B m (m.n-n*2 ^ m.o) (by omega) (PF h.dv) i (h.dk G));have s:n*2 ^ m.o<=m.n:=an (ak _ D) (Nat.div_mul_le_self _ _);have p:¬(n:Int)<0:=by omega
 have l:¬(m.n:Int)/2 ^ m.o<(n:Int):=by
  have:(m.n:Int)/2 ^ m.o=((m.n/2 ^ m.o:Nat):Int):=by simp
  rw[this];omega
 have a:(n:Int)*2 ^ m.o=((n*2 ^ m.o:Nat):Int):=by simp
 obtain⟨d,hd⟩:=xe (n*2 ^ m.o);rw[<-hd] at s a C ⊢;have c:((m.n-d:Nat):Int)=(m.n:Int)-d:=by omega
 rw[c] at C;have r:d<=1024:=by omega
 have z:decide ((n:Int)<0)=false:=ah p;have A:decide ((m.n:Int)/2 ^ m.o<(n:Int))=false:=ah l;have u:=TQ n m.o d f a r;have k:IntKind.i64.wrap ((m.n:Int)-d)=(m.n:Int)-d:=by rw[cz];omega
 clear h hd c D;go_enter func157,ntmps157;go_wp2_with fail;go_quiet (fail)
 go_wp2_with fail;obtain⟨W,y⟩:=xe (w.drewN nq);have KW:=aA (show Kt nO w W by rw[y];exact(kz w).drewN nq);have c0:=KW.o.cell (fun x=>x) c0;have c1:=KW.o.cell (fun x=>x) c1;rw[<-y];have v:=aA (show IntKind.i64.wrap ((m.n:Int)-IntKind.i64.wrap ((n:Int)*2 ^ min m.o 64))=(m.n:Int)-d by rw[Nat.min_eq_left (by omega),a,show IntKind.i64.wrap (d:Int)=d by rw[cz];omega];exact k);clear y a l A z p c2 s f t u k;go_region_with ((go_at_call 152;rw[v.o];refine(C.o _ (KW.o.drew)).mono ?_;rintro e E ⟨rfl,F,q,hK1,g⟩))
 all_goals
  have I:=aA (show ∃ j,MpA E b j (dB m (m.n-d))/\Kt (aP b B m.o) w E/\dK w b B j m.o from⟨F,q,KW.o.drew.trans hK1 (fun _ _ x=>x.elim) (fun _ _ x=>x),fun x hx=>(g x hx).imp (fun h=>h) (fun h=>an KW.o.size h)⟩);clear q hK1 g;go_wp2_with fail;go_ret;exact⟨rfl,I.o⟩
def fX(w w':Wd)(b:Nat)(B:Bs)(o:Nat)(m':Mp):Prop:=MpA w' b B m'/\Kt (aP b B o) w w'
theorem fX.same{w w' b B m}(h:MpA w b B m)(k:Kt nO w w'):fX w w' b B m.o m:=⟨h.dk k,k.mono (fun _ _ x=>x.elim)⟩
theorem fX.mk{w w' b B o m'}(h:MpA w' b B m')(k:Kt (aP b B o) w w'):fX w w' b B o m':=⟨h,k⟩
theorem VF(b:Nat)(B:Bs)(m:Mp)(i c:Int)(w:Wd)(h:MpA w b B m)(hc:¬(aD m.n i=true/\0<=c/\c<=7)):Calls prog 212 #[.pointer (some ⟨b,0,none⟩),.int .i64 i,.int .i64 c] w fun e g=>e=.returned (.int .i64 1)/\Kt nO w g:=by
 have d:=aA h
 cases hi:aD m.n i with
 | false=>have a:=aA hi;clear h hc hi;go_enter func212,ntmps212;go_wp2_with fail;refine(fL b B m i _ d.o).mono ?_;rintro e f ⟨rfl,rfl⟩;rw[a.o];go_wp2_with fail;go_ret;exact⟨rfl,kz _⟩
 | true=>
  have a:=aA hi;by_cases h0:c<0;·clear h hc hi;go_enter func212,ntmps212;go_wp2_with fail;refine(fL b B m i _ d.o).mono ?_;rintro e f ⟨rfl,rfl⟩;rw[a.o];go_wp2_with fail;go_ret;exact⟨rfl,kz _⟩
  ·have k : 8<=c:=by
    by_cases j:c<=7;·exact absurd ⟨hi,by omega,j⟩ hc
    ·omega
   clear h hc hi;go_enter func212,ntmps212;go_wp2_with fail;refine(fL b B m i _ d.o).mono ?_;rintro e f ⟨rfl,rfl⟩;rw[a.o];go_wp2_with fail;go_ret;exact⟨rfl,kz _⟩
theorem ZO(b:Nat)(B:Bs)(m:Mp)(i c:Int)(w:Wd)(h:MpA w b B m):Calls prog 212 #[.pointer (some ⟨b,0,none⟩),.int .i64 i,.int .i64 c] w fun e a=>e=.returned (.int .i64 (pO m i c))/\fX w a b B m.o (jN m i c):=by
 by_cases hc:aD m.n i=true/\0<=c/\c<=7;·rw[show pO m i c=0 from ae hc,show jN m i c={ m with pg:=aH m.pg i.toNat (dY c) } from ae hc];obtain⟨k,rfl,f⟩:=gP hc.1;obtain⟨d,rfl⟩:=au hc.2.1;refine(ZJ b B m k d w h f (by omega)).mono ?_;rintro e a ⟨rfl,g,j⟩;exact⟨rfl,fX.mk g j⟩
 ·rw[show pO m i c=1 from ac hc,show jN m i c=m from ac hc];refine(VF b B m i c w h hc).mono ?_;rintro e a ⟨rfl,f⟩;exact⟨rfl,fX.same h f⟩
def oO(m:Mp)(i c:Int):Bool:=aD m.n i && (decide ((m.pg i.toNat).kd=4) && aD (eD (m.pg i.toNat).cl) c)
def jQ(m:Mp)(i c:Int)(live:Bool):Bool:=oO m i c && (aJ (m.pg i.toNat) c.toNat != live)
def bU(m:Mp)(i c:Int)(live:Bool):Mp:=if jQ m i c live=true then { m with pg:=aH m.pg i.toNat (aS (m.pg i.toNat) c.toNat) } else m
def eB(m:Mp)(i c:Int)(live:Bool):Int:=if jQ m i c live=true then 0 else 1
theorem XQ(b:Nat)(B:Bs)(m:Mp)(i c:Int)(a:Bool)(w:Wd)(h:MpA w b B m):Calls prog 165 #[.pointer (some ⟨b,0,none⟩),.int .i64 i,.int .i64 c,.bool a] w fun e j=>e=.returned (.int .i64 (eB m i c a))/\fX w j b B m.o (bU m i c a):=by
 have no:∀ {E:Ending} {j:Wd},jQ m i c a=false->E=.returned (.int .i64 1)/\j=w->E=.returned (.int .i64 (eB m i c a))/\fX w j b B m.o (bU m i c a):=by rintro E j hc ⟨rfl,rfl⟩;rw[show eB m i c a=1 by simp[eB,hc],show bU m i c a=m by simp[bU,hc]];exact⟨rfl,fX.same h (Kt.refl _ _)⟩
 cases hi:aD m.n i with
 | false=>exact(VT b B m i c a w h hi).mono (fun _ _=>no (by simp[jQ,oO,hi]))
 | true=>
  obtain⟨k,rfl,l⟩:=gP hi;by_cases f:(m.pg k).kd=4
  ·cases hc:aD (eD (m.pg k).cl) c with
   | false=>exact(zlf b B m k c a w h l f hc).mono (fun _ _=>no (by simp[jQ,oO,hc]))
   | true=>
    obtain⟨d,rfl,hd⟩:=UF (h.ok k l).c0 hc;by_cases hl:aJ (m.pg k) d=a;·subst hl;refine(zlg b B m k d w h l f hc hd).mono ?_;rintro E j ⟨rfl,p⟩;have g:jQ m (k:Int) (d:Int) (aJ (m.pg k) d)=false:=(by simp[jQ]);rw[show eB m (k:Int) (d:Int) (aJ (m.pg k) d)=1 by simp[eB,g],show bU m (k:Int) (d:Int) (aJ (m.pg k) d)=m by simp[bU,g]];exact⟨rfl,fX.same h p⟩
    ·obtain rfl:a=!aJ (m.pg k) d:=(by revert hl;cases aJ (m.pg k) d <;> cases a <;> simp);have g:jQ m (k:Int) (d:Int) (!aJ (m.pg k) d)=true:=by
      unfold jQ oO;rw[hi,aa,aa,af f,hc]
      cases aJ (m.pg k) d <;> rfl
     rw[show eB m (k:Int) (d:Int) (!aJ (m.pg k) d)=0 by simp[eB,g],show bU m (k:Int) (d:Int) (!aJ (m.pg k) d)={ m with pg:=aH m.pg k (aS (m.pg k) d) } by simp[bU,g]];refine(zlh b B m k d w h l f hc hd).mono ?_;rintro E j ⟨rfl,q,r⟩;exact⟨rfl,fX.mk q r⟩
  ·exact(zle b B m k c a w h l f).mono (fun _ _=>no (by simp[jQ,oO,f]))
def lM(m:Mp)(i c:Int):Bool:=aD m.n i && (decide ((m.pg i.toNat).kd=4) && (c == -1 || aD (eD (m.pg i.toNat).cl) c))
def fU(m:Mp)(i c:Int):Mp:=if lM m i c=true then { m with pg:=aH m.pg i.toNat { m.pg i.toNat with fs:=c } } else m
def kN(m:Mp)(i c:Int):Int:=if lM m i c=true then 0 else 1
theorem zjt(b:Nat)(B:Bs)(m:Mp)(i c:Int)(w:Wd)(h:MpA w b B m):Calls prog 214 #[.pointer (some ⟨b,0,none⟩),.int .i64 i,.int .i64 c] w fun e d=>e=.returned (.int .i64 (kN m i c))/\fX w d b B m.o (fU m i c):=by
 have no:∀ {E:Ending} {d:Wd},lM m i c=false->E=.returned (.int .i64 1)/\d=w->E=.returned (.int .i64 (kN m i c))/\fX w d b B m.o (fU m i c):=by rintro E d hc ⟨rfl,rfl⟩;rw[show kN m i c=1 by simp[kN,hc],show fU m i c=m by simp[fU,hc]];exact⟨rfl,fX.same h (Kt.refl _ _)⟩
 cases hi:aD m.n i with
 | false=>exact(zka b B m i c w h hi).mono (fun _ _=>no (by simp[lM,hi]))
 | true=>
  obtain⟨k,rfl,l⟩:=gP hi;by_cases a:(m.pg k).kd=4
  ·by_cases hc:c = -1\/aD (eD (m.pg k).cl) c=true
   ·have f:lM m (k:Int) c=true:=by
     unfold lM;rw[hi,aa,af a];rcases hc with rfl|hc
     ·rfl
     ·simp[hc]
    rw[show kN m (k:Int) c=0 by simp[kN,f],show fU m (k:Int) c={ m with pg:=aH m.pg k { m.pg k with fs:=c } } by simp[fU,f]];refine(zl1 b B m k c w h l a hc).mono ?_;rintro E d ⟨rfl,g,j⟩;exact⟨rfl,fX.mk g j⟩
   ·have g:c ≠ -1:=fun e=>hc (.inl e)
    have j:aD (eD (m.pg k).cl) c=false:=by cases e:aD (eD (m.pg k).cl) c with|false=>rfl|true=>exact absurd (.inr e) hc
    exact(zim b B m k c w h l a g j).mono (fun _ _=>no (by simp[lM,g,j]))
  ·exact(zil b B m k c w h l a).mono (fun _ _=>no (by simp[lM,a]))
def kP(m:Mp)(i x y:Int):Bool:=aD m.n i && (decide ((m.pg i.toNat).kd=4) && (cU m.n x && cU m.n y))
def dZ(m:Mp)(i x y:Int):Mp:=if kP m i x y=true then { m with pg:=aH m.pg i.toNat { m.pg i.toNat with nx:=x,pv:=y } } else m
def nF(m:Mp)(i x y:Int):Int:=if kP m i x y=true then 0 else 1
theorem zju(b:Nat)(B:Bs)(m:Mp)(i x y:Int)(w:Wd)(h:MpA w b B m):Calls prog 227 #[.pointer (some ⟨b,0,none⟩),.int .i64 i,.int .i64 x,.int .i64 y] w fun e d=>e=.returned (.int .i64 (nF m i x y))/\fX w d b B m.o (dZ m i x y):=by
 have no:∀ {E:Ending} {d:Wd},kP m i x y=false->E=.returned (.int .i64 1)/\d=w->E=.returned (.int .i64 (nF m i x y))/\fX w d b B m.o (dZ m i x y):=by rintro E d hc ⟨rfl,rfl⟩;rw[show nF m i x y=1 by simp[nF,hc],show dZ m i x y=m by simp[dZ,hc]];exact⟨rfl,fX.same h (Kt.refl _ _)⟩
 cases hi:aD m.n i with
 | false=>exact(ziC b B m i x y w h hi).mono (fun _ _=>no (by simp[kP,hi]))
 | true=>
  obtain⟨k,rfl,c⟩:=gP hi;by_cases a:(m.pg k).kd=4
  ·cases hx:cU m.n x with
   | false=>
    have l:x ≠ -1:=fun e=>by subst e;simp[cU] at hx
    have r:aD m.n x=false:=(by simpa [cU,l] using hx);exact(zhQ b B m k x y w h c a l r).mono (fun _ _=>no (by simp[kP,hx]))
   | true=>
    cases hy:cU m.n y with
    | false=>exact(LJ b B m k x y w h c a hx 1 w (.inl ⟨hy,rfl,rfl⟩)).mono (fun _ _=>no (by simp[kP,hy]))
    | true=>
     obtain⟨g,hg,s⟩:=h.et (by omega);have f:kP m (k:Int) x y=true:=by unfold kP;rw[hi,aa,af a,hx,hy];rfl
     rw[show nF m (k:Int) x y=0 by simp[nF,f],show dZ m (k:Int) x y={ m with pg:=aH m.pg k { m.pg k with nx:=x,pv:=y } } by simp[dZ,f]];refine(LJ b B m k x y w h c a hx 0 _ (.inr ⟨hy,rfl,g,hg,rfl⟩)).mono ?_;rintro E d ⟨rfl,rfl⟩;refine⟨rfl,fX.mk (h.fh hg (((Kt.refl (fun x=>x=g) w).setCell (p:=⟨g,_,none⟩) rfl _).setCell (p:=⟨g,_,none⟩) rfl _) (s.f45 k c x y) (fun j q=>?_)) (((Kt.refl (aP b B m.o) w).setCell (p:=⟨g,_,none⟩) (.inr (.inl hg)) _).setCell (p:=⟨g,_,none⟩) (.inr (.inl hg)) _)⟩;unfold aH;split;·exact⟨(h.ok k c).o0,(h.ok k c).o8,(h.ok k c).c0,(h.ok k c).c7,(h.ok k c).b0,(h.ok k c).b1,(h.ok k c).b2,(h.ok k c).b3⟩
     ·exact h.ok j q
  ·exact(zhP b B m k x y w h c a).mono (fun _ _=>no (by simp[kP,a]))
def nX(k i:Int):Nat:=i.toNat/2 ^ (k.toNat+1)
def nY(m:Mp)(k:Int):Nat:=m.n/2 ^ (k.toNat+1)
def dT(m:Mp)(k i:Int):Bool:=aD m.o k && aD m.n i
def fH(m:Mp)(k i:Int):Mp:=if dT m k i=true then { m with wd:=fV m.wd k.toNat (gG (nY m k) (m.wd k.toNat) (nX k i:Int)) } else m
def pJ(m:Mp)(k i:Int):Int:=if dT m k i=true then 0 else 1
def iT(m:Mp)(k i:Int):Bool:=dT m k i && cS (nY m k) (m.wd k.toNat) (nX k i:Int)
end Go.Proofs.YtfmgnljlkdmndaaGreatDoor
