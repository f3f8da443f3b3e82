import Derived.Test.YtfmgnljlkdmndaaGreatDoorZb
set_option maxRecDepth 1000000
set_option maxHeartbeats 0
namespace Go.Proofs.YtfmgnljlkdmndaaGreatDoor
namespace M
open Tryz RowKit
set_option linter.unusedVariables false
theorem uU(k R:Nat)(hR : 4096<=R):k*R/R=k:=dh _ (by omega)
theorem zh8{a b:Int}{c d:Int}(h:a=b)(e:c=d):Ending.returned (.tuple #[.int .u64 a,.int .i64 c])=.returned (.tuple #[.int .u64 b,.int .i64 d]):=by rw[h,e]
theorem Commit_deny(b ao bS R dl n f)(w:Wd)(h:SpA w b ao bS R dl n f):Calls prog 99 #[.pointer (some ⟨b,0,none⟩),.bool true] w fun e a=>e=.returned (.tuple #[.int .u64 0,.int .i64 2])/\Kt nO w a:=by
 have c:=h.c2;clear h;go_enter func99,ntmps99;go_wp2
 go_quiet (fail)
 go_wp2
 go_ret2;exact⟨rfl,(Kt.refl _ w).drewN _⟩
theorem Commit_full(b ao bS R dl n f)(w:Wd)(h:SpA w b ao bS R dl n f)(d:n=dl*R):Calls prog 99 #[.pointer (some ⟨b,0,none⟩),.bool false] w fun e g=>e=.returned (.tuple #[.int .u64 0,.int .i64 2])/\Kt nO w g:=by
 have j:=h.c2;have a:=fun m=>regions_any b ao bS R dl n f (w.drewN m) ⟨h.cfg,h.kn,h.ex⟩
 have c:n/R=dl:=by rw[d];exact uU dl R h.cfg.r1
 rw[c] at a;have i:=aA a;clear h a c d;go_enter func99,ntmps99;go_wp2
 go_quiet ((go_at_call 32;exact Calls.quiet_of (i.o _)))
 go_wp2
 go_ret2;exact⟨rfl,(Kt.refl _ w).drewN _⟩
theorem Commit_ok(b ao bS R dl n f)(w:Wd)(h:SpA w b ao bS R dl n f)(c:∃ k,n=k*R/\k+1<=dl):Calls prog 99 #[.pointer (some ⟨b,0,none⟩),.bool false] w fun e i=>e=.returned (.tuple #[.int .u64 ((bS+n:Nat):Int),.int .i64 0])/\∃ j,SpA i b (some j) bS R dl (n+R) (more f n)/\Kt (own b ao) w i/\(ao=some j\/w.heap.size<=j):=by
 have C:=h.c2;have a:=fun m=>regions_any b ao bS R dl n f (w.drewN m) ⟨h.cfg,h.kn,h.ex⟩
 have hend:=fun m=>end_any b ao bS R dl n f (w.drewN m) ⟨h.cfg,h.kn,h.ex⟩
 obtain⟨q,hq⟩:=xe (n/R);have o:q<dl/\q<=64:=by obtain⟨k,rfl,E⟩:=c;rw[hq,uU k R h.cfg.r1];have:=h.cfg.l2;omega
 have r:((q:Int) == (dl:Int))=false:=by rw[ag];omega
 rw[<-hq] at a;have t:=aA a;have v:=aA hend;have hc:=h.cfg;obtain⟨cap,hb,s⟩:=h.ex;have D:w.cell? ⟨b,3,none⟩=some (.slice (adr ao) n cap):=by simp[World.cell?,hb]
 have B:=h.c1;have x:=aA hc;have u:=aA c;have z:=aA hb;have l:=aA s;clear h a hend hq o hc hb s c;go_enter func99,ntmps99;go_wp2
 go_quiet ((go_at_call 32;exact Calls.quiet_of (t.o _)))
 go_wp2_with fail;refine(v.o _).mono ?_;rintro e i ⟨rfl,m,rfl⟩;go_wp2
 go_region_law ((refine zc6 rfl (.tmp 23) (.tmp 27) rfl b ao bS R dl n f cap x.o u.o z.o l.o rfl rfl ?_;intro j p i d A y))
 all_goals (go_wp2;go_ret2)
 all_goals exact⟨zh8 (by simp) rfl,j,d.o.sp,(show Kt (own b ao) w i from⟨d.o.k.os,d.o.k.tape,d.o.k.output,d.o.k.size,d.o.k.block⟩).setCell (fun _=>Or.inl rfl) _,d.o.g⟩
theorem SpA.less{w b ao bS R dl n f}(h:SpA w b ao bS R dl n f)(n' cap:Nat)(c:w.cell? ⟨b,3,none⟩=some (.slice (adr ao) n cap))(m:∃ k,n'=k*R/\k<=dl)(q:n'<=n):SpA (w.setCell ⟨b,3,none⟩ (.slice (adr ao) n' cap)) b ao bS R dl n' f:=by
 obtain⟨a,hb,d⟩:=h.ex;have e:a=cap:=by
  have:w.cell? ⟨b,3,none⟩=some (.slice (adr ao) n a):=by simp[World.cell?,hb]
  rw[this] at c;injection c with c
  injection c
 subst e;refine⟨h.cfg,m,a,?_,?_⟩;·simp only[World.setCell];rw[Array.getElem?_modify,ae rfl,hb];simp
 ·cases ao with
  | none=>exact⟨by have:=d.1;omega,d.2⟩
  | some g=>obtain⟨j,l,o,c,s,p,r⟩:=d;exact⟨j,l,o,by rw[Below.heap_setCell _ _ _ _ j];exact c,by omega,fun i hi=>p i (by omega),r⟩
theorem Decommit_ok(b ao bS R dl n f)(c:Nat)(w:Wd)(h:SpA w b ao bS R dl n f)(hc:c<=n/R):Calls prog 158 #[.pointer (some ⟨b,0,none⟩),.int .i64 c] w fun e v=>e=.returned (.int .i64 0)/\SpA v b ao bS R dl (n-c*R) f/\Kt (own b ao) w v:=by
 have F:=aA h;obtain⟨k,z,P⟩:=h.kn;have i:=h.cfg;have r1:=i.r1;have r2:=i.r2;have lr:=i.lr;have l2:=i.l2;have hq:n/R=k:=by rw[z];exact uU k R r1
 rw[hq] at hc;obtain⟨cap,l⟩:=h.c3;have N:=h.fb 3;have Q:=h.c1;obtain⟨d,hd⟩:=xe (c*R);have B:d<=n:=by rw[hd,z];exact ak _ hc
 have A:n<=dl*R:=h.fk;obtain⟨n',t⟩:=xe (n-d);rw[<-hd,<-t];have K:n<=4194304:=by omega
 have D:(c:Int)*(R:Int)=d:=by rw[hd];simp
 have E:(n:Int)-(d:Int)=n':=by omega
 have s:n<=cap:=by
  obtain⟨p,hb,x⟩:=h.ex;have:w.cell? ⟨b,3,none⟩=some (.slice (adr ao) n p):=by simp[World.cell?,hb]
  rw[this] at l;injection l with l
  injection l with _ _ e
  subst e
  cases ao with
  | none=>exact Nat.le_of_eq (x.1.trans x.2.symm)
  | some g=>obtain⟨_,S,_,_,J,_⟩:=x;exact J
 have y:n'=(k-c)*R:=by rw[t,hd,z,Nat.sub_mul]
 have q:=aA (show ∀ m,SpA ((w.setCell ⟨b,3,none⟩ (.slice (adr ao) n' cap)).drewN m) b ao bS R dl n' f/\Kt (own b ao) w ((w.setCell ⟨b,3,none⟩ (.slice (adr ao) n' cap)).drewN m)from fun m=>⟨(h.less n' cap l ⟨k-c,y,by omega⟩ (by omega)).dk ((Kt.refl _ _).drewN m),((Kt.refl (own b ao) w).setCell (fun _=>Or.inl rfl) _).drewN m⟩)
 have r:=aA (show ∀ m,Calls prog 32 #[.pointer (some ⟨b,0,none⟩)] (w.drewN m) fun e v=>e=.returned (.int .i64 k)/\∃ I,v=(w.drewN m).drewN I from fun m=>by have:=regions_any b ao bS R dl n f (w.drewN m) ⟨h.cfg,h.kn,h.ex⟩;rw[hq] at this;exact this)
 have L:n'<=cap:=by omega
 have G:(c:Int)<=k:=by omega
 have C:k<=64:=by omega
 have u:∀ g,ao=some g->∀ o,(adr ao)=some o->o=⟨g,0,none⟩:=by rintro g rfl o e;simp[adr] at e;exact e.symm
 have j:ao=none->n'=0/\cap=0:=by
  rintro rfl;obtain⟨p,hb,x⟩:=h.ex;have:w.cell? ⟨b,3,none⟩=some (.slice (adr none) n p):=by simp[World.cell?,hb]
  rw[this] at l;injection l with l
  injection l with _ _ e
  subst e;exact⟨by have:=x.1;omega,x.2⟩
 clear h i hq z P hd B A t y lr l2 s F u
 cases ao with
 | none=>
  obtain⟨rfl,rfl⟩:=j rfl;have a:adr none=none:=rfl;rw[a] at l q;clear j a;go_enter func158,ntmps158;go_wp2_with fail;refine(r.o 0).mono ?_;rintro e v ⟨rfl,m,rfl⟩;go_wp2
  go_region
  all_goals (go_wp2;go_ret;exact⟨rfl,q.o _⟩)
 | some g=>
  have a:adr (some g)=some ⟨g,0,none⟩:=rfl;rw[a] at l q;clear j a;go_enter func158,ntmps158;go_wp2_with fail;refine(r.o 0).mono ?_;rintro e v ⟨rfl,m,rfl⟩;go_wp2
  go_region
  all_goals (go_wp2;go_ret;exact⟨rfl,q.o _⟩)
def RS(k:Nat):Nat:=4096*2 ^ k
theorem pow8(k:Nat)(a:k<=8) : 1<=2 ^ k/\2 ^ k<=256:=⟨ax k,bj (n:=2) (by decide) a⟩
theorem MU(bS dl:Int)(k:Nat)(b:k<=8)(w:Wd):Calls prog 101 #[.agg #[.int .u64 bS,.int .i64 dl,.int .i64 k]] w fun e a=>e=.returned (.int .u64 ((RS k:Nat):Int))/\Kt nO w a:=by
 have E:=aA (show IntKind.u64.wrap (4096*2 ^ k)=((RS k:Nat):Int)by
  have:=pow8 k b;have e:((2:Int) ^ k)=((2 ^ k:Nat):Int):=by simp
  rw[wrap_u64,e];unfold RS;generalize 2 ^ k=p at this;omega)
 go_enter func101,ntmps101;go_wp2
 go_ret;exact⟨dX E.o,(Kt.refl _ w).alloc _⟩
def Bounds(dl ord:Int):Prop:=0<=ord/\ord<=8/\1<=dl/\dl<=64
instance (dl ord:Int):Decidable (Bounds dl ord):=by unfold Bounds;infer_instance
def mayB(bS:Nat)(dl ord:Int):Bool:=
 decide (Bounds dl ord) && decide (dl.toNat*2 ^ ord.toNat<=1024) && (decide (bS≠0) && decide (bS%RS ord.toNat=0) && decide (bS+dl.toNat*RS ord.toNat<=9223372036854775808))
theorem zjN(bS:Nat)(dl ord:Int)(f : -9223372036854775808<=dl)(d:dl<=9223372036854775807)(b : -9223372036854775808<=ord)(c:ord<=9223372036854775807)(h:¬Bounds dl ord)(w:Wd):Calls prog 100 #[.agg #[.int .u64 bS,.int .i64 dl,.int .i64 ord]] w fun e a=>e=.returned (.bool false)/\Kt nO w a:=by
 by_cases g:ord<0;·clear h;go_enter func100,ntmps100;go_wp2_with fail;go_ret;exact⟨rfl,(Kt.refl _ w).alloc _⟩
 ·by_cases h2 : 8<ord
  ·clear h;go_enter func100,ntmps100;go_wp2_with fail;go_ret;exact⟨rfl,(Kt.refl _ w).alloc _⟩
  ·by_cases i:dl<1
   ·clear h;go_enter func100,ntmps100;go_wp2_with fail;go_ret;exact⟨rfl,(Kt.refl _ w).alloc _⟩
   ·have j : 64<dl:=(by unfold Bounds at h;omega);clear h;go_enter func100,ntmps100;go_wp2_with fail;go_ret;exact⟨rfl,(Kt.refl _ w).alloc _⟩
theorem tR(w a:Wd)(bS dl ord:Int)(hK:Kt nO (w.alloc (.cells #[.int .u64 bS,.int .i64 dl,.int .i64 ord] 24)) a):a.cell? ⟨w.heap.size,0,none⟩=some (.int .u64 bS)/\a.cell? ⟨w.heap.size,1,none⟩=some (.int .i64 dl)/\Kt nO w a:=by
 have:=(hK.block w.heap.size (by simp) (fun x=>x)).trans (nH w _);exact⟨by simp[World.cell?,this],by simp[World.cell?,this],((kz w).alloc _).trans hK (fun _ _ x=>x) (fun _ _ x=>x)⟩
theorem zlH(bS:Nat)(B:bS<18446744073709551616)(dl k:Nat)(D:k<=8)(L : 1<=dl)(x:dl<=64)(w:Wd):Calls prog 100 #[.agg #[.int .u64 bS,.int .i64 dl,.int .i64 k]] w fun e v=>e=.returned (.bool (mayB bS dl k))/\Kt nO w v:=by
 obtain⟨P,m⟩:=xe (2 ^ k);have n:=pow8 k D;rw[<-m] at n;obtain⟨h,c⟩:=xe (dl*P);have A:h<=16384:=by rw[c];exact an (Nat.mul_le_mul x n.2) (by decide)
 have F:wrap64 ((dl:Int)*2 ^ k)=(h:Int):=by
  have e:((2:Int) ^ k)=((2 ^ k:Nat):Int):=by simp
  have G:(dl:Int)*((P:Nat):Int)=(h:Int):=by rw[c];simp
  rw[e,<-m,G];unfold wrap64;omega
 have z:Bounds (dl:Int) (k:Int):=by unfold Bounds;omega
 have i:mayB bS dl k=(decide (h<=1024) && (decide (bS≠0) && decide (bS%RS k=0) && decide (bS+dl*RS k<=9223372036854775808))):=by unfold mayB;rw[af z,aa,aa,<-m,<-c,bf]
 rw[i];clear i z;obtain⟨R,hR⟩:=xe (RS k);have d:R=4096*P:=by rw[hR,RS,m]
 obtain⟨lr,b⟩:=xe (dl*R);have g:lr=4096*h:=by rw[b,d,c,Nat.mul_left_comm]
 have C:(dl:Int)*(R:Int)=lr:=by rw[b];simp
 rw[<-hR,<-b];have l:=aA (show ∀ w,Calls prog 101 #[.agg #[.int .u64 bS,.int .i64 dl,.int .i64 k]] w fun e v=>e=.returned (.int .u64 R)/\Kt nO w v from fun w=>by rw[hR];exact MU bS dl k D w)
 have K:¬(R:Int)=0:=by omega
 have E:R<=1048576:=by omega
 by_cases t:h<=1024
 ·have u:¬(1024:Int)<h:=by omega
  have hd:decide (h<=1024)=true:=af t;rw[hd,bf];clear m c hR hd;by_cases h0:bS=0
  ·have y:((bS:Int) != 0)=false:=(by rw[h0];rfl);have J:=aA h0;clear d b g h0;go_enter func100,ntmps100;go_wp2_with fail;refine(l.o _).mono ?_;rintro e q ⟨rfl,hK⟩;obtain⟨r,p,a⟩:=tR w q bS dl k hK;have o:=aA a;clear hK a;go_wp2
   go_ret;exact⟨cN (by rw[J.o];simp),o.o⟩
  ·have y:((bS:Int) != 0)=true:=(by rw[cx];omega);have j:decide (bS≠0)=true:=af h0;rw[j,bf];by_cases s:bS%R=0
   ·have I:((bS:Int)%(R:Int) == 0)=true:=(by rw[cu];omega);have f:decide (bS%R=0)=true:=af s;rw[f,bf];clear d b s f j;go_enter func100,ntmps100;go_wp2_with fail;refine(l.o _).mono ?_;rintro e q ⟨rfl,hK⟩;obtain⟨r,p,a⟩:=tR w q bS dl k hK;have o:=aA a;clear hK a;go_wp2
    go_ret;exact⟨cN (by rw[decide_eq_decide];omega),o.o⟩
   ·have I:((bS:Int)%(R:Int) == 0)=false:=(by rw[ag];omega);have f:decide (bS%R=0)=false:=ah s;rw[f,eb];clear d b g s f j;go_enter func100,ntmps100;go_wp2_with fail;refine(l.o _).mono ?_;rintro e q ⟨rfl,hK⟩;obtain⟨r,p,a⟩:=tR w q bS dl k hK;have o:=aA a;clear hK a;go_wp2
    go_ret;exact⟨rfl,o.o⟩
 ·have hd:decide (h<=1024)=false:=ah t;rw[hd,eb];have u:(1024:Int)<h:=by omega
  clear m c hR d b g t hd;go_enter func100,ntmps100;go_wp2_with fail;go_ret;exact⟨rfl,(Kt.refl _ w).alloc _⟩
theorem zjO(bS:Nat)(a:bS<18446744073709551616)(dl ord:Int)(f : -9223372036854775808<=dl)(d:dl<=9223372036854775807)(b : -9223372036854775808<=ord)(c:ord<=9223372036854775807)(w:Wd):Calls prog 100 #[.agg #[.int .u64 bS,.int .i64 dl,.int .i64 ord]] w fun e i=>e=.returned (.bool (mayB bS dl ord))/\Kt nO w i:=by
 by_cases h:Bounds dl ord;·have g:=h;unfold Bounds at g;obtain⟨l,rfl⟩:=au (by omega : 0<=dl);obtain⟨k,rfl⟩:=au g.1;exact zlH bS a l k (by omega) (by omega) (by omega) w
 ·have e:mayB bS dl ord=false:=by unfold mayB;rw[ah h,eb,eb]
  rw[e];exact zjN bS dl ord f d b c h w
theorem zlI{bS:Nat}{dl ord:Int}(h:mayB bS dl ord=true):Bounds dl ord/\Cfg bS (RS ord.toNat) dl.toNat:=by
 simp only[mayB,bu,ci] at h;obtain⟨⟨a,d⟩,⟨f,e⟩,b⟩:=h;refine⟨a,?_⟩;unfold Bounds at a;have hp:=pow8 ord.toNat (by omega);have c:dl.toNat*RS ord.toNat=4096*(dl.toNat*2 ^ ord.toNat):=by rw[RS,Nat.mul_left_comm]
 have hR:RS ord.toNat=4096*2 ^ ord.toNat:=rfl;exact⟨by omega,by omega,by omega,by omega,by omega,by omega,b⟩
end M
end Go.Proofs.YtfmgnljlkdmndaaGreatDoor
