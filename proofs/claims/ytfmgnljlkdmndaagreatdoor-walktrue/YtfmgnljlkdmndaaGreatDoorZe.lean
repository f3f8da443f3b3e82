import Derived.Test.YtfmgnljlkdmndaaGreatDoorZc
set_option maxRecDepth 1000000
set_option maxHeartbeats 80000000
namespace Go.Proofs.YtfmgnljlkdmndaaGreatDoor
open Tryz
open Go.RowKit
set_option linter.unusedVariables false
def eA(c:Int):Pg:={ aU 4 0 with cl:=c }
theorem PgOk.slab(c:Nat)(h:c<8):PgOk (eA c):=⟨by show(0:Int)<=0;decide,by show(0:Int)<=8;decide,by show(0:Int)<=c;omega,by show(c:Int)<=7;omega,by show 0<_;decide,by show 0<_;decide,by show 0<_;decide,by show 0<_;decide⟩
def jO(m:Mp)(i c:Int):Mp:=if aD m.n i=true/\0<=c/\c<=7 then { m with pg:=aG m.pg i.toNat (eA c) } else m
def pO(m:Mp)(i c:Int):Int:=if aD m.n i=true/\0<=c/\c<=7 then 0 else 1
theorem XZ(m:Mp)(i c:Int):(jO m i c).n=m.n:=by unfold jO;split <;> rfl
theorem XY(b:Nat)(B:Bs)(m:Mp)(k c:Nat)(w:World)(h:MpA w b B m)(q:k<m.n)(hc:c<8):
  Calls prog 212 #[.pointer (some ⟨b,0,none⟩),.int .i64 k,.int .i64 c] w fun e y=>e=.returned (.int .i64 0)/\MpA y b B { m with pg:=aG m.pg k (eA c) }/\Kt (aO b B m.o) w y:=by
 have t:=aA h;have L:=aA (dQ q);have A:=aA q;have C:¬(c:Int)<0:=by omega
 have J:¬ 8<=(c:Int):=by omega
 have E:(k:Int)<m.n:=by omega
 obtain⟨g,hg,d⟩:=h.has_row (by omega);clear h d q;go_enter func212,ntmps212;go_wp2_with fail;refine(fN b B m k _ t.o).mono ?_;rintro e f ⟨rfl,rfl⟩;rw[L.o];go_wp2_with fail;refine(qV 4 0 f).mono ?_;rintro e p ⟨rfl,a⟩;have K:=aA (show Kt nO f p by rw[a];exact(Kt.refl nO f).alloc _);have Z2:=aA (show p.heap.size=f.heap.size+1 by rw[a];simp);clear a;go_wp2_with fail;obtain⟨W,l⟩:=xe (p.alloc (.cells #[.int .i64 (aU 4 0).kd,.int .i64 (aU 4 0).od,.int .i64 c,.int .i64 (aU 4 0).lv,.int .i64 (aU 4 0).nx,.int .i64 (aU 4 0).pv,.int .i64 (aU 4 0).fs,.int .u64 ((aU 4 0).b0:Int),.int .u64 ((aU 4 0).b1:Int),.int .u64 ((aU 4 0).b2:Int),.int .u64 ((aU 4 0).b3:Int)] 97));rw[<-l];have KW:=aA (show Kt nO f W by rw[l];exact K.o.alloc _);have G:=aA (show W.heap[p.heap.size]?=some (aN (eA c))by rw[l];exact nH _ _);have j:=aA (t.o.keep KW.o);clear l;obtain⟨S,x1,T,x3,N,x5,Q,x7,x8,U,D⟩:=iU G.o;have c1:=j.o.c1 hg;have d:=j.o.row;rw[hg] at d;have r:=aA (show bP W g m.n m.pg from d);obtain⟨V,d1,Z,d3,d4,R,d6,P,Y,X,F⟩:=r.o.cell k A.o;have z:=bA.froz r.o;have v:=aA hg;clear d hg;go_region
 all_goals
  go_wp2_with fail;go_ret;have I:=(r.o.put k A.o (eA c));have s:∀ i,i<m.n->PgOk (aG m.pg k (eA c) i):=fun i hi=>by
   unfold aG;split
   ·exact PgOk.slab c (by omega)
   ·exact j.o.ok i hi
  have u:=nR W g k (eA c);exact⟨rfl,(j.o.pages v.o u I s).keep (Kt.refl nO _).drew,(KW.o.trans u (fun _ _ x=>x.elim) (fun x _ e=>.inr (.inl (e▸v.o)))).drew⟩
def cV(n:Nat)(x:Int):Bool:=x == -1 || aD n x
theorem bP.f45{w g n pg}(h:bP w g n pg)(i:Nat)(hi:i<n)(x y:Int):bP ((w.setCell ⟨g,i*11+4,none⟩ (.int .i64 x)).setCell ⟨g,i*11+5,none⟩ (.int .i64 y)) g n (aG pg i { pg i with nx:=x,pv:=y }):=by
 have:=(bA.set h i 4 hi (by decide) (.int .i64 x)).set i 5 hi (by decide) (.int .i64 y);refine bA.congr this (fun a ha b hb=>sG a b hb (fun j c=>?_) (fun e=>?_))
 ·revert j
  apply kU <;> simp[lP,Pg.fld]
 ·simp[lP,e]
theorem zit(b:Nat)(B:Bs)(m:Mp)(i x y:Int)(w:World)(h:MpA w b B m)(hi:aD m.n i=false):
  Calls prog 227 #[.pointer (some ⟨b,0,none⟩),.int .i64 i,.int .i64 x,.int .i64 y] w fun e d=>e=.returned (.int .i64 1)/\d=w:=by
 have a:=aA h;have c:=aA hi;clear h hi;go_enter func227,ntmps227;go_wp2_with fail;refine(wE b B m i _ a.o c.o).mono ?_;rintro e f ⟨rfl,rfl⟩;go_wp2_with fail;go_ret;exact⟨rfl,rfl⟩
theorem zhJ(b:Nat)(B:Bs)(m:Mp)(k:Nat)(x y:Int)(w:World)(h:MpA w b B m)(c:k<m.n)(a:(m.pg k).kd≠4):
  Calls prog 227 #[.pointer (some ⟨b,0,none⟩),.int .i64 k,.int .i64 x,.int .i64 y] w fun e f=>e=.returned (.int .i64 1)/\f=w:=by
 have i:=aA h;obtain⟨g,hg,d⟩:=h.has_row (by omega);have S:=aA (lK b B m g k w h hg c);rw[ac a] at S;clear h d hg;go_enter func227,ntmps227;go_wp2_with fail;refine S.o.mono ?_;rintro e j ⟨rfl,rfl⟩;go_wp2_with fail;go_ret;exact⟨rfl,rfl⟩
theorem zhK(b:Nat)(B:Bs)(m:Mp)(k:Nat)(x y:Int)(w:World)(h:MpA w b B m)(d:k<m.n)(c:(m.pg k).kd=4)(hx:x ≠ -1)(a:aD m.n x=false):
  Calls prog 227 #[.pointer (some ⟨b,0,none⟩),.int .i64 k,.int .i64 x,.int .i64 y] w fun e j=>e=.returned (.int .i64 1)/\j=w:=by
 have i:=aA h;obtain⟨g,hg,f⟩:=h.has_row (by omega);have S:=aA (lK b B m g k w h hg d);rw[ae c] at S;have o:=aA a;clear h f hg a;go_enter func227,ntmps227;go_wp2_with fail;refine S.o.mono ?_;rintro e l ⟨rfl,rfl⟩;go_wp2_with fail;refine(fN b B m x _ i.o).mono ?_;rintro e l ⟨rfl,rfl⟩;rw[o.o];go_wp2_with fail;go_ret;exact⟨rfl,rfl⟩
theorem KT(b:Nat)(B:Bs)(m:Mp)(k:Nat)(x y:Int)(w:World)(h:MpA w b B m)(v:k<m.n)(u:(m.pg k).kd=4)(hx:cV m.n x=true)(R:Int)(W:World)
  (hR:(cV m.n y=false/\R=1/\W=w)\/(cV m.n y=true/\R=0/\∃ g,B.g=some g/\W=(w.setCell ⟨g,k*11+4,none⟩ (.int .i64 x)).setCell ⟨g,k*11+5,none⟩ (.int .i64 y))):
  Calls prog 227 #[.pointer (some ⟨b,0,none⟩),.int .i64 k,.int .i64 x,.int .i64 y] w fun e K=>e=.returned (.int .i64 R)/\K=W:=by
 have p:=aA h;obtain⟨g,hg,r⟩:=h.has_row (by omega);have S:=aA (lK b B m g k w h hg v);rw[ae u] at S;have A:=aA hx;obtain⟨F,P,I,L,T,Q,N,C,G,E,q⟩:=r.cell k v;have z:=bA.froz r;have l:(cV m.n y=false/\R=1/\W=w)\/(cV m.n y=true/\R=0/\W=(w.setCell ⟨g,k*11+4,none⟩ (.int .i64 x)).setCell ⟨g,k*11+5,none⟩ (.int .i64 y)):=by
  rcases hR with h|⟨a,J,U,o,D⟩
  ·exact .inl h
  ·rw[hg] at o
   cases o
   exact .inr ⟨a,J,D⟩
 have d:=aA l;clear h r hg hx hR l F P I L N C G E q;by_cases f:x = -1
 all_goals by_cases c:y = -1
 ·subst f c;have j:=(d.o.resolve_left (fun h=>by simp[cV] at h)).2;obtain⟨rfl,rfl⟩:=j;clear d;go_enter func227,ntmps227;go_wp2_with fail;refine S.o.mono ?_;rintro e t ⟨rfl,rfl⟩;go_wp2_with fail;go_ret;exact⟨rfl,rfl⟩
 ·subst f;go_enter func227,ntmps227;go_wp2_with fail;refine S.o.mono ?_;rintro e t ⟨rfl,rfl⟩;go_wp2_with fail;refine(fN b B m y _ p.o).mono ?_;rintro e s ⟨rfl,rfl⟩;rcases d.o with ⟨a,rfl,rfl⟩|⟨a,rfl,rfl⟩
  ·rw[show aD m.n y=false by simpa [cV,c] using a];clear a d;go_wp2_with fail;go_ret;exact⟨rfl,rfl⟩
  ·rw[show aD m.n y=true by simpa [cV,c] using a];clear a d;go_wp2_with fail;go_ret;exact⟨rfl,rfl⟩
 ·subst c;have j:=(d.o.resolve_left (fun h=>by simp[cV] at h)).2;obtain⟨rfl,rfl⟩:=j;have i:=aA (show aD m.n x=true by simpa [cV,f] using A.o);clear d;go_enter func227,ntmps227;go_wp2_with fail;refine S.o.mono ?_;rintro e t ⟨rfl,rfl⟩;go_wp2_with fail;refine(fN b B m x _ p.o).mono ?_;rintro e s ⟨rfl,rfl⟩;rw[i.o];go_wp2_with fail;go_ret;exact⟨rfl,rfl⟩
 ·have i:=aA (show aD m.n x=true by simpa [cV,f] using A.o);go_enter func227,ntmps227;go_wp2_with fail;refine S.o.mono ?_;rintro e t ⟨rfl,rfl⟩;go_wp2_with fail;refine(fN b B m x _ p.o).mono ?_;rintro e s ⟨rfl,rfl⟩;rw[i.o];go_wp2_with fail;refine(fN b B m y _ p.o).mono ?_;rintro e s ⟨rfl,rfl⟩;rcases d.o with ⟨a,rfl,rfl⟩|⟨a,rfl,rfl⟩
  ·rw[show aD m.n y=false by simpa [cV,c] using a];clear a d;go_wp2_with fail;go_ret;exact⟨rfl,rfl⟩
  ·rw[show aD m.n y=true by simpa [cV,c] using a];clear a d;go_wp2_with fail;go_ret;exact⟨rfl,rfl⟩
def fX(wd:Nat->List Nat)(k:Nat)(ws:List Nat):Nat->List Nat:=fun j=>if j=k then ws else wd j
theorem MpA.words{w w' b B m}{ws:List Nat}(h:MpA w b B m)(k:Nat)(c:k<m.o)(kp:Kt (fun x=>x=B.C k) w w')(hS:SetAt w' (B.S k) (B.C k) (m.n/2 ^ (k+1)) ws):MpA w' b B { m with wd:=fX m.wd k ws }:=by
 obtain⟨g,hb,hp⟩:=h.hb;have s0:=h.set k c;refine⟨h.o8,h.n1,h.dv,⟨g,(kp.block b (lH hb) (bY hb s0.hc (by decide))).trans hb,hp.kept kp (fun x e=>?_)⟩,Rows.kept h.row kp (fun x e=>?_),fun j f=>?_,h.injS,h.injC,h.ok⟩
 ·rw[e] at hp;obtain⟨ds,hq,_⟩:=hp;exact bY hq s0.hc (by decide)
 ·have d:=h.row;rw[e] at d;obtain⟨cs,a,_⟩:=d;exact bY a s0.hc (by decide)
 ·show SetAt w' (B.S j) (B.C j) (m.n/2 ^ (j+1)) (fX m.wd k ws j)
  unfold fX;by_cases e:j=k
  ·rw[ae e,e];exact hS
  ·rw[ac e];have s:=h.set j f;exact s.kept kp (bY s.hb s0.hc (by decide)) (fun i=>e (h.injC j k f c i))
theorem WA(i k:Nat)(a:k<8)(W:World):Sem.run prog (Op.shift BinOp.shr IntKind.i64 (i:Int) IntKind.i64 (IntKind.i64.wrap ((k:Int)+1))) W=Result.ok (.int .i64 ((i/2 ^ (k+1):Nat):Int)) W:=by
 have hw:IntKind.i64.wrap ((k:Int)+1)=((k+1:Nat):Int):=by rw[IntKind.wrap_i64];omega
 rw[hw];unfold Op.shift;simp[go_sem];rw[ac (by omega),Nat.min_eq_left (by omega),Int.fdiv_eq_ediv_of_nonneg _ (Int.le_of_lt (Int.pow_pos (by decide)))]
theorem VZ(b:Nat)(B:Bs)(m:Mp)(k i:Int)(w:World)(h:MpA w b B m)(hp:(aD m.o k && aD m.n i)=false):
  Calls prog 247 #[.pointer (some ⟨b,0,none⟩),.int .i64 k,.int .i64 i] w fun e c=>e=.returned (.tuple #[.bool false,.int .i64 1])/\Kt nO w c:=by
 have a:=aA h;have d:=aA hp;clear h hp;go_enter func247,ntmps247;go_wp2_with fail;refine(qR b B m k i _ a.o).mono ?_;rintro e f ⟨rfl,rfl⟩;rw[d.o];go_wp2_with fail;exact⟨rfl,_,by simp[results,results247,go_sem],rfl,Kt.refl nO _⟩
theorem VY(b:Nat)(B:Bs)(m:Mp)(k i:Nat)(w:World)(h:MpA w b B m)(c:k<m.o)(hi:i<m.n):
  Calls prog 247 #[.pointer (some ⟨b,0,none⟩),.int .i64 k,.int .i64 i] w fun e d=>e=.returned (.tuple #[.bool (cT (m.n/2 ^ (k+1)) (gI (m.n/2 ^ (k+1)) (m.wd k) ((i/2 ^ (k+1):Nat):Int)) ((i/2 ^ (k+1):Nat):Int)),.int .i64 0])/\MpA d b B { m with wd:=fX m.wd k (gI (m.n/2 ^ (k+1)) (m.wd k) ((i/2 ^ (k+1):Nat):Int)) }/\Kt (aO b B m.o) w d:=by
 have p:=aA h;have G:=aA (show(aD m.o (k:Int) && aD m.n (i:Int))=true by rw[dQ c,dQ hi];rfl);obtain⟨q,hq,L⟩:=h.cp k c;obtain⟨J,c2⟩:=h.c2 hq;have D:=aA (fun d (F:Kt nO w d)=>wG (B.S k) (B.C k) _ (m.wd k) ((i/2 ^ (k+1):Nat):Int) d ((h.set k c).kept F (fun x=>x) (fun x=>x)));have j:k<8:=by have:=h.o8;omega
 have r:i<1024:=by have:=h.n1;omega
 have u:(k:Int)<m.o:=by omega
 have y:=WA i k j;have g:=aA c;have I:=aA hi;clear h hq c hi;go_enter func247,ntmps247;go_wp2_with fail;refine(qR b B m k i _ p.o).mono ?_;rintro e l ⟨rfl,rfl⟩;rw[G.o];go_wp2_with fail;go_region_with ((go_at_call 251;refine(D.o _ (Kt.refl nO l).drew).mono ?_;rintro e s ⟨rfl,hS,hK,f⟩))
 all_goals
  have t:=aA ((p.o.keep (Kt.refl nO _).drew).words k g.o hK hS);have E:=aA (show Kt (aO b B m.o) l s from(Kt.refl nO l).drew.trans hK (fun _ _ x=>x.elim) (fun x _ e=>.inr (.inr (.inr ⟨k,g.o,.inr e⟩))));clear hS hK f;have A:=aA (WK b B _ k i s t.o g.o I.o);go_wp2_with fail;refine A.o.mono ?_;rintro e K ⟨rfl,a⟩;have z:=aA (t.o.keep a);have v:=aA (E.o.trans (U:=aO b B m.o) a (fun _ _ x=>x) (fun _ _ x=>x.elim));clear a;go_wp2_with fail;exact⟨rfl,_,by simp[results,results247,go_sem,fX],rfl,z.o,v.o⟩
end Go.Proofs.YtfmgnljlkdmndaaGreatDoor
