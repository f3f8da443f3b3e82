import Derived.Test.YtfmgnljlkdmndaaGreatDoorXo
import Derived.Test.YtfmgnljlkdmndaaGreatDoorZf
set_option maxRecDepth 1000000
set_option maxHeartbeats 0
namespace Go.Proofs.YtfmgnljlkdmndaaGreatDoor
open Tryz RowKit
set_option linter.unusedVariables false
def cU(n:Nat)(x:Int):Bool:=x == -1 || aD n x
theorem bO.f45{w g n pg}(h:bO w g n pg)(i:Nat)(hi:i<n)(x y:Int):bO ((w.setCell ⟨g,i*11+4,none⟩ (.int .i64 x)).setCell ⟨g,i*11+5,none⟩ (.int .i64 y)) g n (aH pg i { pg i with nx:=x,pv:=y }):=by
 have:=(aZ.set h i 4 hi (by decide) (.int .i64 x)).set i 5 hi (by decide) (.int .i64 y);refine aZ.congr this (fun a ha b hb=>sF a b hb (fun j c=>?_) (fun e=>?_))
 ·revert j
  apply jG <;> simp[lO,Pg.es]
 ·simp[lO,e]
theorem ziC(b:Nat)(B:Bs)(m:Mp)(i x y:Int)(w:Wd)(h:MpA w b B m)(hi:aD m.n i=false):Calls prog 227 #[.pointer (some ⟨b,0,none⟩),.int .i64 i,.int .i64 x,.int .i64 y] w fun e c=>e=.returned (.int .i64 1)/\c=w:=by
 have a:=aA h;have d:=aA hi;clear h hi;go_enter func227,ntmps227;go_wp2_with fail;refine(wL b B m i _ a.o d.o).mono ?_;rintro e f ⟨rfl,rfl⟩;go_wp2_with fail;go_ret;exact⟨rfl,rfl⟩
theorem zhP(b:Nat)(B:Bs)(m:Mp)(k:Nat)(x y:Int)(w:Wd)(h:MpA w b B m)(f:k<m.n)(a:(m.pg k).kd≠4):Calls prog 227 #[.pointer (some ⟨b,0,none⟩),.int .i64 k,.int .i64 x,.int .i64 y] w fun e c=>e=.returned (.int .i64 1)/\c=w:=by
 have i:=aA h;obtain⟨g,hg,d⟩:=h.et (by omega);have S:=aA (lJ b B m g k w h hg f);rw[ac a] at S;clear h d hg;go_enter func227,ntmps227;go_wp2_with fail;refine S.o.mono ?_;rintro e j ⟨rfl,rfl⟩;go_wp2_with fail;go_ret;exact⟨rfl,rfl⟩
theorem zhQ(b:Nat)(B:Bs)(m:Mp)(k:Nat)(x y:Int)(w:Wd)(h:MpA w b B m)(o:k<m.n)(c:(m.pg k).kd=4)(hx:x ≠ -1)(a:aD m.n x=false):Calls prog 227 #[.pointer (some ⟨b,0,none⟩),.int .i64 k,.int .i64 x,.int .i64 y] w fun e f=>e=.returned (.int .i64 1)/\f=w:=by
 have d:=aA h;obtain⟨g,hg,l⟩:=h.et (by omega);have S:=aA (lJ b B m g k w h hg o);rw[ae c] at S;have i:=aA a;clear h l hg a;go_enter func227,ntmps227;go_wp2_with fail;refine S.o.mono ?_;rintro e j ⟨rfl,rfl⟩;go_wp2_with fail;refine(fL b B m x _ d.o).mono ?_;rintro e j ⟨rfl,rfl⟩;rw[i.o];go_wp2_with fail;go_ret;exact⟨rfl,rfl⟩
theorem LJ(b:Nat)(B:Bs)(m:Mp)(k:Nat)(x y:Int)(w:Wd)(h:MpA w b B m)(A:k<m.n)(q:(m.pg k).kd=4)(hx:cU m.n x=true)(R:Int)(W:Wd)(hR:(cU m.n y=false/\R=1/\W=w)\/(cU m.n y=true/\R=0/\∃ g,B.g=some g/\W=(w.setCell ⟨g,k*11+4,none⟩ (.int .i64 x)).setCell ⟨g,k*11+5,none⟩ (.int .i64 y))):Calls prog 227 #[.pointer (some ⟨b,0,none⟩),.int .i64 k,.int .i64 x,.int .i64 y] w fun e E=>e=.returned (.int .i64 R)/\E=W:=by
 have p:=aA h;obtain⟨g,hg,t⟩:=h.et (by omega);have S:=aA (lJ b B m g k w h hg A);rw[ae q] at S;have v:=aA hx;obtain⟨P,C,K,J,Q,T,N,I,F,L,s⟩:=t.cell k A;have z:=aZ.ic t;have l:(cU m.n y=false/\R=1/\W=w)\/(cU m.n y=true/\R=0/\W=(w.setCell ⟨g,k*11+4,none⟩ (.int .i64 x)).setCell ⟨g,k*11+5,none⟩ (.int .i64 y)):=by
  rcases hR with h|⟨a,D,U,o,G⟩
  ·exact .inl h
  ·rw[hg] at o
   cases o
   exact .inr ⟨a,D,G⟩
 have d:=aA l;clear h t hg hx hR l P C K J N I F L s;by_cases f:x = -1
 all_goals by_cases c:y = -1
 ·subst f c;have i:=(d.o.resolve_left (fun h=>by simp[cU] at h)).2;obtain⟨rfl,rfl⟩:=i;clear d;go_enter func227,ntmps227;go_wp2_with fail;refine S.o.mono ?_;rintro e r ⟨rfl,rfl⟩;go_wp2_with fail;go_ret;exact⟨rfl,rfl⟩
 ·subst f;go_enter func227,ntmps227;go_wp2_with fail;refine S.o.mono ?_;rintro e r ⟨rfl,rfl⟩;go_wp2_with fail;refine(fL b B m y _ p.o).mono ?_;rintro e u ⟨rfl,rfl⟩;rcases d.o with ⟨a,rfl,rfl⟩|⟨a,rfl,rfl⟩
  ·rw[show aD m.n y=false by simpa [cU,c] using a];clear a d;go_wp2_with fail;go_ret;exact⟨rfl,rfl⟩
  ·rw[show aD m.n y=true by simpa [cU,c] using a];clear a d;go_wp2_with fail;go_ret;exact⟨rfl,rfl⟩
 ·subst c;have i:=(d.o.resolve_left (fun h=>by simp[cU] at h)).2;obtain⟨rfl,rfl⟩:=i;have j:=aA (show aD m.n x=true by simpa [cU,f] using v.o);clear d;go_enter func227,ntmps227;go_wp2_with fail;refine S.o.mono ?_;rintro e r ⟨rfl,rfl⟩;go_wp2_with fail;refine(fL b B m x _ p.o).mono ?_;rintro e u ⟨rfl,rfl⟩;rw[j.o];go_wp2_with fail;go_ret;exact⟨rfl,rfl⟩
 ·have j:=aA (show aD m.n x=true by simpa [cU,f] using v.o);go_enter func227,ntmps227;go_wp2_with fail;refine S.o.mono ?_;rintro e r ⟨rfl,rfl⟩;go_wp2_with fail;refine(fL b B m x _ p.o).mono ?_;rintro e u ⟨rfl,rfl⟩;rw[j.o];go_wp2_with fail;refine(fL b B m y _ p.o).mono ?_;rintro e u ⟨rfl,rfl⟩;rcases d.o with ⟨a,rfl,rfl⟩|⟨a,rfl,rfl⟩
  ·rw[show aD m.n y=false by simpa [cU,c] using a];clear a d;go_wp2_with fail;go_ret;exact⟨rfl,rfl⟩
  ·rw[show aD m.n y=true by simpa [cU,c] using a];clear a d;go_wp2_with fail;go_ret;exact⟨rfl,rfl⟩
namespace W
def fA:Option Nat->Int
 | none => -1
 | some p=>(p:Int)
theorem nD(j:Nat)(h:j<=9) : 2 ^ j<=512:=bj (by decide) h (n:=2)
theorem nE(k:Nat)(l:k<=9)(w:Wd):Calls prog 129 #[.int .i64 k] w fun e d=>e=.returned (.int .i64 ((2 ^ k:Nat):Int))/\d=w:=by
 go_enter func129,ntmps129;go_wp2
 go_loop [3,4] (fun r i=>∃ j:Nat,j<=k/\i=.int .i64 j/\r=.int .i64 ((2 ^ j:Nat):Int)) (fun _ i=>k-(intOf i).toNat)
 case atStart=>exact⟨0,by omega,rfl,by simp⟩
 case round=>
  obtain⟨j,h,rfl,rfl⟩:=hrel;obtain⟨P,a⟩:=xe (2 ^ j);have b:=nD j (by omega);rw[<-a] at b ⊢;by_cases g:j<k
  ·have c:=aA (show 2 ^ (j+1)=P*2 from by rw[a,co]);have f:(j:Int)<k:=(by omega);clear a;go_wp2
   refine⟨⟨j+1,by omega,by simp,?_⟩,by simp[intOf];omega⟩;rw[c.o];simp
  ·obtain rfl:j=k:=(by omega);have E:=aA (show 2 ^ j=P from a.symm);clear a;go_wp2
   go_ret;exact⟨dX (by rw[<-E.o];simp),rfl⟩
theorem NK(x a b:Int)(w:Wd):Calls prog 127 #[.int .i64 x,.int .i64 a,.int .i64 b] w fun e c=>e=.returned (.bool (wiB x a b))/\c=w:=by
 by_cases h:a<=x
 ·go_enter func127,ntmps127;go_wp2
  go_ret;exact⟨cN (by simp[wiB,h]),rfl⟩
 ·go_enter func127,ntmps127;go_wp2
  go_ret;exact⟨cN (ah (by omega)).symm,rfl⟩
theorem sJ(p:Pg)(c:Nat)(hc:p.cl=(c:Int))(h:c<=7)(w:Wd):Calls prog 132 #[gV p] w fun e a=>e=.returned (.int .i64 ((celN9 c:Nat):Int))/\Kt nO w a:=by
 obtain⟨kd,od,cl,lv,nx,pv,fs,b0,b1,b2,b3⟩:=p;dsimp only at hc;subst hc;have f:=aA (fun W=>nE c (by omega) W);have hd:(256:Int)/((2 ^ c:Nat):Int)=((celN9 c:Nat):Int):=by unfold celN9;rfl
 have b:(256:Int).tdiv ((2 ^ c:Nat):Int)=((celN9 c:Nat):Int):=by rw[Int.tdiv_eq_ediv_of_nonneg (by decide)];exact hd
 have hp : 0<2 ^ c:=ax c;have hb:=nD c (by omega);have d:celN9 c<=256:=by unfold celN9;exact dg _ _
 generalize celN9 c=j at *;generalize 2 ^ c=P at *;have h0:¬(P:Int)=0:=by omega
 have g:¬(P:Int) = -1:=by omega
 go_enter func132,ntmps132;go_wp2_with fail;refine(f.o _).mono ?_;rintro e i ⟨rfl,rfl⟩;go_wp2_with fail;go_ret;exact⟨rfl,(Kt.refl _ w).alloc _⟩
def jU(p:Pg):Bool:=decide (p.cl=0/\p.lv=0/\p.nx = -1/\p.pv = -1/\p.fs = -1/\p.b0=0/\p.b1=0/\p.b2=0/\p.b3=0)
theorem sI(p:Pg)(w:Wd):Calls prog 130 #[gV p] w fun e s=>e=.returned (.bool (jU p))/\Kt nO w s:=by
 obtain⟨kd,od,cl,lv,nx,pv,fs,b0,b1,b2,b3⟩:=p;obtain⟨r,i⟩:=xe (jU ⟨kd,od,cl,lv,nx,pv,fs,b0,b1,b2,b3⟩);rw[<-i];have f:=aA (show ¬(cl=0/\lv=0/\nx = -1/\pv = -1/\fs = -1/\b0=0/\b1=0/\b2=0/\b3=0)->r=false from fun h=>i.trans (ah h));have q:=aA (show(cl=0/\lv=0/\nx = -1/\pv = -1/\fs = -1/\b0=0/\b1=0/\b2=0/\b3=0)->r=true from fun h=>i.trans (af h));clear i;by_cases a:cl=0
 case neg=>
  have j:(cl == 0)=false:=by rw[ag];exact a
  have:=f.o (fun h=>a h.1);subst this;clear a;go_enter func130,ntmps130;go_wp2_with fail;go_ret;exact⟨rfl,(Kt.refl _ w).alloc _⟩
 by_cases b:lv=0
 case neg=>
  have j:(lv == 0)=false:=by rw[ag];exact b
  have:=f.o (fun h=>b h.2.1);subst this a;clear b;go_enter func130,ntmps130;go_wp2_with fail;go_ret;exact⟨rfl,(Kt.refl _ w).alloc _⟩
 by_cases c:nx = -1
 case neg=>
  have j:(nx == -1)=false:=by rw[ag];exact c
  have:=f.o (fun h=>c h.2.2.1);subst this a b;clear c;go_enter func130,ntmps130;go_wp2_with fail;go_ret;exact⟨rfl,(Kt.refl _ w).alloc _⟩
 by_cases d:pv = -1
 case neg=>
  have j:(pv == -1)=false:=by rw[ag];exact d
  have:=f.o (fun h=>d h.2.2.2.1);subst this a b c;clear d;go_enter func130,ntmps130;go_wp2_with fail;go_ret;exact⟨rfl,(Kt.refl _ w).alloc _⟩
 by_cases g:fs = -1
 case neg=>
  have j:(fs == -1)=false:=by rw[ag];exact g
  have:=f.o (fun h=>g h.2.2.2.2.1);subst this a b c d;clear g;go_enter func130,ntmps130;go_wp2_with fail;go_ret;exact⟨rfl,(Kt.refl _ w).alloc _⟩
 by_cases k:b0=0
 case neg=>
  have j:((b0:Int) == 0)=false:=by rw[ag];omega
  have o:(b0 == 0)=false:=by rw[ag];exact k
  have:=f.o (fun h=>k h.2.2.2.2.2.1);subst this a b c d g;clear k;go_enter func130,ntmps130;go_wp2_with fail;go_ret;exact⟨rfl,(Kt.refl _ w).alloc _⟩
 by_cases l:b1=0
 case neg=>
  have j:((b1:Int) == 0)=false:=by rw[ag];omega
  have o:(b1 == 0)=false:=by rw[ag];exact l
  have:=f.o (fun h=>l h.2.2.2.2.2.2.1);subst this a b c d g k;clear l;go_enter func130,ntmps130;go_wp2_with fail;go_ret;exact⟨rfl,(Kt.refl _ w).alloc _⟩
 by_cases m:b2=0
 case neg=>
  have j:((b2:Int) == 0)=false:=by rw[ag];omega
  have o:(b2 == 0)=false:=by rw[ag];exact m
  have:=f.o (fun h=>m h.2.2.2.2.2.2.2.1);subst this a b c d g k l;clear m;go_enter func130,ntmps130;go_wp2_with fail;go_ret;exact⟨rfl,(Kt.refl _ w).alloc _⟩
 by_cases n:b3=0
 case neg=>
  have j:((b3:Int) == 0)=false:=by rw[ag];omega
  have o:(b3 == 0)=false:=by rw[ag];exact n
  have:=f.o (fun h=>n h.2.2.2.2.2.2.2.2);subst this a b c d g k l m;clear n;go_enter func130,ntmps130;go_wp2_with fail;go_ret;exact⟨rfl,(Kt.refl _ w).alloc _⟩
 have:=q.o ⟨a,b,c,d,g,k,l,m,n⟩;subst this a b c d g k l m n;go_enter func130,ntmps130;go_wp2_with fail;go_ret;exact⟨rfl,(Kt.refl _ w).alloc _⟩
end W
end Go.Proofs.YtfmgnljlkdmndaaGreatDoor
