import Derived.Test.YtfmgnljlkdmndaaGreatDoorXe
import Derived.Test.YtfmgnljlkdmndaaGreatDoorZd
set_option maxRecDepth 1000000
set_option maxHeartbeats 80000000
namespace Go.Proofs.YtfmgnljlkdmndaaGreatDoor.M
open Tryz
open Go.RowKit
set_option linter.unusedVariables false
theorem WY(bS:Nat)(lim ord:Int)(d : -9223372036854775808<=lim)(b:lim<=9223372036854775807)(c : -9223372036854775808<=ord)(a:ord<=9223372036854775807)(h:¬Bounds lim ord)(w:World):
  Calls prog 7 #[.agg #[.int .u64 bS,.int .i64 lim,.int .i64 ord]] w fun e f=>e=.returned (.bool false)/\Kt nO w f:=by
 by_cases g:ord<0
 ·clear h;go_enter func7,ntmps7;go_wp2
  go_ret;exact⟨rfl,(Kt.refl _ w).alloc _⟩
 ·by_cases h2 : 8<ord
  ·clear h;go_enter func7,ntmps7;go_wp2
   go_ret;exact⟨rfl,(Kt.refl _ w).alloc _⟩
  ·by_cases j:lim<1
   ·clear h;go_enter func7,ntmps7;go_wp2
    go_ret;exact⟨rfl,(Kt.refl _ w).alloc _⟩
   ·have i : 64<lim:=(by unfold Bounds at h;omega);clear h;go_enter func7,ntmps7;go_wp2
    go_ret;exact⟨rfl,(Kt.refl _ w).alloc _⟩
theorem WG(bS:Nat)(A:bS<18446744073709551616)(lim k:Nat)(S:k<=8)(J : 1<=lim)(o:lim<=64)(w:World):
  Calls prog 7 #[.agg #[.int .u64 bS,.int .i64 lim,.int .i64 k]] w fun e K=>e=.returned (.bool (mayB bS lim k))/\Kt nO w K:=by
 have D:Bounds (lim:Int) (k:Int):=by unfold Bounds;omega
 have d:=aA (show mayB bS lim k=(decide (lim*2 ^ k<=1024) && (decide (bS≠0) && decide (bS%RS k=0) && decide (bS+lim*RS k<=9223372036854775808)))from by unfold mayB;rw[af D,aa,aa,bf])
 clear D;go_enter func7,ntmps7;go_wp2
 go_loop [3,4,5] (fun pg r i=>∃ j:Nat,j<=k/\i=.int .i64 j/\pg=.int .i64 ((lim*2 ^ j:Nat):Int)/\r=.int .u64 ((4096*2 ^ j:Nat):Int)) (fun _ _ i=>k-(intOf i).toNat)
 case atStart=>exact⟨0,by omega,rfl,by simp,by simp⟩
 case round=>
  obtain⟨j,T,rfl,rfl,rfl⟩:=hrel;obtain⟨P,h⟩:=xe (2 ^ j);have g:=pow8 j (by omega);rw[<-h] at g ⊢;obtain⟨f,a⟩:=xe (lim*P);have B:f<=16384:=by rw[a];exact an (Nat.mul_le_mul o g.2) (by decide)
  rw[<-a];obtain⟨R,hR⟩:=xe (4096*P);have I:R<=1048576:=by omega
  rw[<-hR];by_cases N:j<k
  ·have n:=aA (show lim*2 ^ (j+1)=f*2 from by rw[a,h,ci,cx]);have v:=aA (show 4096*2 ^ (j+1)=R*2 from by rw[hR,h,ci,cx]);have E:(j:Int)<k:=(by omega);clear h a hR;go_wp2
   refine⟨⟨j+1,by omega,by simp,?_,?_⟩,by simp[intOf];omega⟩
   ·rw[n.o];simp
   ·rw[v.o];simp
  ·obtain rfl:j=k:=(by omega);have C:RS j=R:=(by rw[hR,h];rfl);obtain⟨lr,c⟩:=xe (lim*R);have b:lr=4096*f:=(by rw[c,hR,a,Nat.mul_left_comm]);have z:(R:Int)*(lim:Int)=lr:=(by rw[c,Int.mul_comm];simp);have l:=aA (show mayB bS lim j=(decide (f<=1024) && (decide (bS≠0) && decide (bS%R=0) && decide (bS+lr<=9223372036854775808)))from by
    rw[d.o,C,<-h,<-a,<-c])
   clear C d;have G:¬(R:Int)=0:=(by omega);clear h a hR c g;by_cases q:f<=1024
   ·have t:=aA (af q);have s:¬(1024:Int)<f:=(by omega);by_cases h0:bS=0
    ·have p:((bS:Int) == 0)=true:=(by rw[h0];rfl);have u:=aA h0;clear h0 b;go_wp2
     go_ret;exact⟨cO (by rw[l.o,u.o];simp),(Kt.refl _ w).alloc _⟩
    ·have p:((bS:Int) == 0)=false:=(by rw[ag];omega);have u:=aA (show decide (bS≠0)=true from af h0);by_cases m:bS%R=0
     ·have L:((bS:Int)%(R:Int) != 0)=false:=(by rw[ay];omega);have x:=aA (show decide (bS%R=0)=true from af m);clear m;by_cases Q:bS<=9223372036854775808
      ·have y:(bS:Int)<=9223372036854775808:=(by omega);go_wp2
       go_ret;exact⟨cO (by rw[l.o,u.o,t.o,x.o,bf,bf,bf,decide_eq_decide];omega),(Kt.refl _ w).alloc _⟩
      ·have y:¬(bS:Int)<=9223372036854775808:=(by omega);have F:=aA (show decide (bS+lr<=9223372036854775808)=false from ah (by omega));go_wp2
       go_ret;exact⟨cO (by rw[l.o,F.o];simp),(Kt.refl _ w).alloc _⟩
     ·have L:((bS:Int)%(R:Int) != 0)=true:=(by rw[cu];omega);have x:=aA (show decide (bS%R=0)=false from ah m);clear m b;go_wp2
      go_ret;exact⟨cO (by rw[l.o,x.o];simp),(Kt.refl _ w).alloc _⟩
   ·have t:=aA (show decide (f<=1024)=false from ah q);have s:(1024:Int)<f:=(by omega);clear q b;go_wp2
    go_ret;exact⟨cO (by rw[l.o,t.o];simp),(Kt.refl _ w).alloc _⟩
theorem May_any(bS:Nat)(a:bS<18446744073709551616)(lim ord:Int)(f : -9223372036854775808<=lim)(c:lim<=9223372036854775807)(d : -9223372036854775808<=ord)(b:ord<=9223372036854775807)(w:World):
  Calls prog 7 #[.agg #[.int .u64 bS,.int .i64 lim,.int .i64 ord]] w fun e i=>e=.returned (.bool (mayB bS lim ord))/\Kt nO w i:=by
 by_cases h:Bounds lim ord
 ·have g:=h;unfold Bounds at g;obtain⟨l,rfl⟩:=au (by omega : 0<=lim);obtain⟨k,rfl⟩:=au g.1;exact WG bS a l k (by omega) (by omega) (by omega) w
 ·have e:mayB bS lim ord=false:=by unfold mayB;rw[ah h,Bool.false_and,Bool.false_and]
  rw[e];exact WY bS lim ord f c d b h w
theorem R_any(bS lim:Int)(k:Nat)(l:k<=8)(w:World):
  Calls prog 128 #[.agg #[.int .u64 bS,.int .i64 lim,.int .i64 k]] w fun e g=>e=.returned (.int .u64 ((RS k:Nat):Int))/\Kt nO w g:=by
 go_enter func128,ntmps128;go_wp2
 go_loop [3,4] (fun r i=>∃ j:Nat,j<=k/\i=.int .i64 j/\r=.int .u64 ((4096*2 ^ j:Nat):Int)) (fun _ i=>k-(intOf i).toNat)
 case atStart=>exact⟨0,by omega,rfl,by simp⟩
 case round=>
  obtain⟨j,m,rfl,rfl⟩:=hrel;obtain⟨P,a⟩:=xe (2 ^ j);have b:=pow8 j (by omega);rw[<-a] at b ⊢;obtain⟨R,hR⟩:=xe (4096*P);have f:R<=1048576:=by omega
  rw[<-hR];by_cases h:j<k
  ·have c:=aA (show 4096*2 ^ (j+1)=R*2 from by rw[hR,a,ci,cx]);have d:(j:Int)<k:=(by omega);clear a hR;go_wp2
   refine⟨⟨j+1,by omega,by simp,?_⟩,by simp[intOf];omega⟩;rw[c.o];simp
  ·obtain rfl:j=k:=(by omega);have E:=aA (show RS j=R by rw[hR,a];rfl);clear a hR;go_wp2
   go_ret;exact⟨dZ (by rw[E.o]),(Kt.refl _ w).alloc _⟩
end Go.Proofs.YtfmgnljlkdmndaaGreatDoor.M
namespace Go.Proofs.YtfmgnljlkdmndaaGreatDoor.W
open Tryz
open Go.RowKit
set_option linter.unusedVariables false
def fE:Option Nat->Int
 | none => -1
 | some p=>(p:Int)
theorem nF(j:Nat)(h:j<=9) : 2 ^ j<=512:=bj (by decide) h (n:=2)
theorem nG(k:Nat)(l:k<=9)(w:World):Calls prog 129 #[.int .i64 k] w fun e d=>e=.returned (.int .i64 ((2 ^ k:Nat):Int))/\d=w:=by
 go_enter func129,ntmps129;go_wp2
 go_loop [3,4] (fun r i=>∃ j:Nat,j<=k/\i=.int .i64 j/\r=.int .i64 ((2 ^ j:Nat):Int)) (fun _ i=>k-(intOf i).toNat)
 case atStart=>exact⟨0,by omega,rfl,by simp⟩
 case round=>
  obtain⟨j,h,rfl,rfl⟩:=hrel;obtain⟨P,a⟩:=xe (2 ^ j);have c:=nF j (by omega);rw[<-a] at c ⊢;by_cases g:j<k
  ·have b:=aA (show 2 ^ (j+1)=P*2 from by rw[a,ci]);have f:(j:Int)<k:=(by omega);clear a;go_wp2
   refine⟨⟨j+1,by omega,by simp,?_⟩,by simp[intOf];omega⟩;rw[b.o];simp
  ·obtain rfl:j=k:=(by omega);have E:=aA (show 2 ^ j=P from a.symm);clear a;go_wp2
   go_ret;exact⟨dZ (by rw[<-E.o];simp),rfl⟩
theorem MJ(x a b:Int)(w:World):Calls prog 127 #[.int .i64 x,.int .i64 a,.int .i64 b] w fun e c=>e=.returned (.bool (wiB x a b))/\c=w:=by
 by_cases h:a<=x
 ·go_enter func127,ntmps127;go_wp2
  go_ret;exact⟨cO (by simp[wiB,h]),rfl⟩
 ·go_enter func127,ntmps127;go_wp2
  go_ret;exact⟨cO (ah (by omega)).symm,rfl⟩
theorem sK(p:Pg)(c:Nat)(hc:p.cl=(c:Int))(g:c<=7)(w:World):Calls prog 132 #[gX p] w fun e f=>e=.returned (.int .i64 ((celN9 c:Nat):Int))/\Kt nO w f:=by
 obtain⟨kd,od,cl,lv,nx,pv,fs,b0,b1,b2,b3⟩:=p;dsimp only at hc;subst hc;have b:=aA (fun W=>nG c (by omega) W);have hd:(256:Int)/((2 ^ c:Nat):Int)=((celN9 c:Nat):Int):=by unfold celN9;rfl
 have a:(256:Int).tdiv ((2 ^ c:Nat):Int)=((celN9 c:Nat):Int):=by rw[Int.tdiv_eq_ediv_of_nonneg (by decide)];exact hd
 have hp : 0<2 ^ c:=ax c;have hb:=nF c (by omega);have d:celN9 c<=256:=by unfold celN9;exact df _ _
 generalize celN9 c=i at *;generalize 2 ^ c=P at *;have h0:¬(P:Int)=0:=by omega
 have h:¬(P:Int) = -1:=by omega
 go_enter func132,ntmps132;go_wp2_with fail;refine(b.o _).mono ?_;rintro e j ⟨rfl,rfl⟩;go_wp2_with fail;go_ret;exact⟨rfl,(Kt.refl _ w).alloc _⟩
def jV(p:Pg):Bool:=decide (p.cl=0/\p.lv=0/\p.nx = -1/\p.pv = -1/\p.fs = -1/\p.b0=0/\p.b1=0/\p.b2=0/\p.b3=0)
theorem sJ(p:Pg)(w:World):Calls prog 130 #[gX p] w fun e s=>e=.returned (.bool (jV p))/\Kt nO w s:=by
 obtain⟨kd,od,cl,lv,nx,pv,fs,b0,b1,b2,b3⟩:=p;obtain⟨r,i⟩:=xe (jV ⟨kd,od,cl,lv,nx,pv,fs,b0,b1,b2,b3⟩);rw[<-i];have g:=aA (show ¬(cl=0/\lv=0/\nx = -1/\pv = -1/\fs = -1/\b0=0/\b1=0/\b2=0/\b3=0)->r=false from fun h=>i.trans (ah h));have o:=aA (show(cl=0/\lv=0/\nx = -1/\pv = -1/\fs = -1/\b0=0/\b1=0/\b2=0/\b3=0)->r=true from fun h=>i.trans (af h));clear i;by_cases a:cl=0
 case neg=>
  have k:(cl == 0)=false:=by rw[ag];exact a
  have:=g.o (fun h=>a h.1);subst this;clear a;go_enter func130,ntmps130;go_wp2_with fail;go_ret;exact⟨rfl,(Kt.refl _ w).alloc _⟩
 by_cases b:lv=0
 case neg=>
  have k:(lv == 0)=false:=by rw[ag];exact b
  have:=g.o (fun h=>b h.2.1);subst this a;clear b;go_enter func130,ntmps130;go_wp2_with fail;go_ret;exact⟨rfl,(Kt.refl _ w).alloc _⟩
 by_cases c:nx = -1
 case neg=>
  have k:(nx == -1)=false:=by rw[ag];exact c
  have:=g.o (fun h=>c h.2.2.1);subst this a b;clear c;go_enter func130,ntmps130;go_wp2_with fail;go_ret;exact⟨rfl,(Kt.refl _ w).alloc _⟩
 by_cases d:pv = -1
 case neg=>
  have k:(pv == -1)=false:=by rw[ag];exact d
  have:=g.o (fun h=>d h.2.2.2.1);subst this a b c;clear d;go_enter func130,ntmps130;go_wp2_with fail;go_ret;exact⟨rfl,(Kt.refl _ w).alloc _⟩
 by_cases f:fs = -1
 case neg=>
  have k:(fs == -1)=false:=by rw[ag];exact f
  have:=g.o (fun h=>f h.2.2.2.2.1);subst this a b c d;clear f;go_enter func130,ntmps130;go_wp2_with fail;go_ret;exact⟨rfl,(Kt.refl _ w).alloc _⟩
 by_cases j:b0=0
 case neg=>
  have k:((b0:Int) == 0)=false:=by rw[ag];omega
  have q:(b0 == 0)=false:=by rw[ag];exact j
  have:=g.o (fun h=>j h.2.2.2.2.2.1);subst this a b c d f;clear j;go_enter func130,ntmps130;go_wp2_with fail;go_ret;exact⟨rfl,(Kt.refl _ w).alloc _⟩
 by_cases l:b1=0
 case neg=>
  have k:((b1:Int) == 0)=false:=by rw[ag];omega
  have q:(b1 == 0)=false:=by rw[ag];exact l
  have:=g.o (fun h=>l h.2.2.2.2.2.2.1);subst this a b c d f j;clear l;go_enter func130,ntmps130;go_wp2_with fail;go_ret;exact⟨rfl,(Kt.refl _ w).alloc _⟩
 by_cases m:b2=0
 case neg=>
  have k:((b2:Int) == 0)=false:=by rw[ag];omega
  have q:(b2 == 0)=false:=by rw[ag];exact m
  have:=g.o (fun h=>m h.2.2.2.2.2.2.2.1);subst this a b c d f j l;clear m;go_enter func130,ntmps130;go_wp2_with fail;go_ret;exact⟨rfl,(Kt.refl _ w).alloc _⟩
 by_cases n:b3=0
 case neg=>
  have k:((b3:Int) == 0)=false:=by rw[ag];omega
  have q:(b3 == 0)=false:=by rw[ag];exact n
  have:=g.o (fun h=>n h.2.2.2.2.2.2.2.2);subst this a b c d f j l m;clear n;go_enter func130,ntmps130;go_wp2_with fail;go_ret;exact⟨rfl,(Kt.refl _ w).alloc _⟩
 have:=o.o ⟨a,b,c,d,f,j,l,m,n⟩;subst this a b c d f j l m n;go_enter func130,ntmps130;go_wp2_with fail;go_ret;exact⟨rfl,(Kt.refl _ w).alloc _⟩
end Go.Proofs.YtfmgnljlkdmndaaGreatDoor.W
