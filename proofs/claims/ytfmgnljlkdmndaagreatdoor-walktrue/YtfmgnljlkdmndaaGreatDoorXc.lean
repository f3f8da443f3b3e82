import Derived.Test.YtfmgnljlkdmndaaGreatDoorXb
set_option maxRecDepth 1000000
set_option maxHeartbeats 80000000
namespace Go.Proofs.YtfmgnljlkdmndaaGreatDoor.M
open Tryz
open Go.RowKit
set_option linter.unusedVariables false
theorem uN(k R:Nat)(hR : 4096<=R):k*R/R=k:=dg _ (by omega)
theorem zh2{a b:Int}{c d:Int}(h:a=b)(e:c=d):Ending.returned (.tuple #[.int .u64 a,.int .i64 c])=.returned (.tuple #[.int .u64 b,.int .i64 d]):=by rw[h,e]
theorem Commit_deny(b ao bS R lim n f)(w:World)(h:SpA w b ao bS R lim n f):
  Calls prog 99 #[.pointer (some ⟨b,0,none⟩),.bool true] w fun e a=>e=.returned (.tuple #[.int .u64 0,.int .i64 2])/\Kt nO w a:=by
 have c:=h.c2;clear h;go_enter func99,ntmps99;go_wp2
 go_quiet (fail)
 go_wp2
 go_ret2;exact⟨rfl,(Kt.refl _ w).drewN _⟩
theorem Commit_full(b ao bS R lim n f)(w:World)(h:SpA w b ao bS R lim n f)(d:n=lim*R):
  Calls prog 99 #[.pointer (some ⟨b,0,none⟩),.bool false] w fun e i=>e=.returned (.tuple #[.int .u64 0,.int .i64 2])/\Kt nO w i:=by
 have j:=h.c2;have a:=fun m=>regions_any b ao bS R lim n f (w.drewN m) ⟨h.cfg,h.kn,h.ex⟩
 have c:n/R=lim:=by rw[d];exact uN lim R h.cfg.r1
 rw[c] at a;have g:=aA a;clear h a c d;go_enter func99,ntmps99;go_wp2
 go_quiet ((go_at_call 32;exact Calls.quiet_of (g.o _)))
 go_wp2
 go_ret2;exact⟨rfl,(Kt.refl _ w).drewN _⟩
theorem Commit_ok(b ao bS R lim n f)(w:World)(h:SpA w b ao bS R lim n f)(c:∃ k,n=k*R/\k+1<=lim):
  Calls prog 99 #[.pointer (some ⟨b,0,none⟩),.bool false] w fun e i=>e=.returned (.tuple #[.int .u64 ((bS+n:Nat):Int),.int .i64 0])/\∃ j,SpA i b (some j) bS R lim (n+R) (more f n)/\Kt (own b ao) w i/\(ao=some j\/w.heap.size<=j):=by
 have E:=h.c2;have a:=fun m=>regions_any b ao bS R lim n f (w.drewN m) ⟨h.cfg,h.kn,h.ex⟩
 have hend:=fun m=>end_any b ao bS R lim n f (w.drewN m) ⟨h.cfg,h.kn,h.ex⟩
 obtain⟨q,hq⟩:=xe (n/R);have o:q<lim/\q<=64:=by obtain⟨k,rfl,C⟩:=c;rw[hq,uN k R h.cfg.r1];have:=h.cfg.l2;omega
 have s:((q:Int) == (lim:Int))=false:=by rw[ag];omega
 rw[<-hq] at a;have u:=aA a;have v:=aA hend;have hc:=h.cfg;obtain⟨cap,hb,p⟩:=h.ex;have B:w.cell? ⟨b,3,none⟩=some (.slice (adr ao) n cap):=by simp[World.cell?,hb]
 have D:=h.c1;have z:=aA hc;have x:=aA c;have A:=aA hb;have l:=aA p;clear h a hend hq o hc hb p c;go_enter func99,ntmps99;go_wp2
 go_quiet ((go_at_call 32;exact Calls.quiet_of (u.o _)))
 go_wp2_with fail;refine(v.o _).mono ?_;rintro e i ⟨rfl,m,rfl⟩;go_wp2
 go_region_law ((refine zc2 rfl (.tmp 23) (.tmp 27) rfl b ao bS R lim n f cap z.o x.o A.o l.o rfl rfl ?_;intro j r i d t y))
 all_goals (go_wp2;go_ret2)
 all_goals exact⟨zh2 (by simp) rfl,j,d.o.sp,(show Kt (own b ao) w i from⟨d.o.k.os,d.o.k.tape,d.o.k.output,d.o.k.size,d.o.k.block⟩).setCell (fun _=>Or.inl rfl) _,d.o.g⟩
theorem SpA.less{w b ao bS R lim n f}(h:SpA w b ao bS R lim n f)(n' cap:Nat)(c:w.cell? ⟨b,3,none⟩=some (.slice (adr ao) n cap))(m:∃ k,n'=k*R/\k<=lim)(r:n'<=n):
  SpA (w.setCell ⟨b,3,none⟩ (.slice (adr ao) n' cap)) b ao bS R lim n' f:=by
 obtain⟨a,hb,d⟩:=h.ex;have e:a=cap:=by
  have:w.cell? ⟨b,3,none⟩=some (.slice (adr ao) n a):=by simp[World.cell?,hb]
  rw[this] at c;injection c with c
  injection c
 subst e;refine⟨h.cfg,m,a,?_,?_⟩
 ·simp only[World.setCell];rw[Array.getElem?_modify,ae rfl,hb];simp
 ·cases ao with
  | none=>exact⟨by have:=d.1;omega,d.2⟩
  | some g=>
   obtain⟨j,p,q,c,s,o,l⟩:=d;exact⟨j,p,q,by rw[Below.heap_setCell _ _ _ _ j];exact c,by omega,fun i hi=>o i (by omega),l⟩
theorem Decommit_ok(b ao bS R lim n f)(c:Nat)(w:World)(h:SpA w b ao bS R lim n f)(hc:c<=n/R):
  Calls prog 158 #[.pointer (some ⟨b,0,none⟩),.int .i64 c] w fun e x=>e=.returned (.int .i64 0)/\SpA x b ao bS R lim (n-c*R) f/\Kt (own b ao) w x:=by
 have F:=aA h;obtain⟨k,z,I⟩:=h.kn;have i:=h.cfg;have r1:=i.r1;have r2:=i.r2;have lr:=i.lr;have l2:=i.l2;have hq:n/R=k:=by rw[z];exact uN k R r1
 rw[hq] at hc;obtain⟨cap,l⟩:=h.c3;have L:=h.fb 3;have Q:=h.c1;obtain⟨d,hd⟩:=xe (c*R);have A:d<=n:=by rw[hd,z];exact ak _ hc
 have B:n<=lim*R:=h.nle;obtain⟨n',s⟩:=xe (n-d);rw[<-hd,<-s];have K:n<=4194304:=by omega
 have C:(c:Int)*(R:Int)=d:=by rw[hd];simp
 have E:(n:Int)-(d:Int)=n':=by omega
 have t:n<=cap:=by
  obtain⟨p,hb,v⟩:=h.ex;have:w.cell? ⟨b,3,none⟩=some (.slice (adr ao) n p):=by simp[World.cell?,hb]
  rw[this] at l;injection l with l
  injection l with _ _ e
  subst e
  cases ao with
  | none=>exact Nat.le_of_eq (v.1.trans v.2.symm)
  | some g=>
   obtain⟨_,S,_,_,J,_⟩:=v;exact J
 have y:n'=(k-c)*R:=by rw[s,hd,z,Nat.sub_mul]
 have q:=aA (show ∀ m,SpA ((w.setCell ⟨b,3,none⟩ (.slice (adr ao) n' cap)).drewN m) b ao bS R lim n' f/\Kt (own b ao) w ((w.setCell ⟨b,3,none⟩ (.slice (adr ao) n' cap)).drewN m)from fun m=>
  ⟨(h.less n' cap l ⟨k-c,y,by omega⟩ (by omega)).keep ((Kt.refl _ _).drewN m),((Kt.refl (own b ao) w).setCell (fun _=>Or.inl rfl) _).drewN m⟩)
 have r:=aA (show ∀ m,Calls prog 32 #[.pointer (some ⟨b,0,none⟩)] (w.drewN m) fun e x=>e=.returned (.int .i64 k)/\∃ N,x=(w.drewN m).drewN N from fun m=>by have:=regions_any b ao bS R lim n f (w.drewN m) ⟨h.cfg,h.kn,h.ex⟩;rw[hq] at this;exact this)
 have P:n'<=cap:=by omega
 have G:(c:Int)<=k:=by omega
 have D:k<=64:=by omega
 have u:∀ g,ao=some g->∀ o,(adr ao)=some o->o=⟨g,0,none⟩:=by rintro g rfl o e;simp[adr] at e;exact e.symm
 have j:ao=none->n'=0/\cap=0:=by
  rintro rfl;obtain⟨p,hb,v⟩:=h.ex;have:w.cell? ⟨b,3,none⟩=some (.slice (adr none) n p):=by simp[World.cell?,hb]
  rw[this] at l;injection l with l
  injection l with _ _ e
  subst e;exact⟨by have:=v.1;omega,v.2⟩
 clear h i hq z I hd A B s y lr l2 t F u
 cases ao with
 | none=>
  obtain⟨rfl,rfl⟩:=j rfl;have a:adr none=none:=rfl;rw[a] at l q;clear j a;go_enter func158,ntmps158;go_wp2_with fail;refine(r.o 0).mono ?_;rintro e x ⟨rfl,m,rfl⟩;go_wp2
  go_region
  all_goals (go_wp2;go_ret;exact⟨rfl,q.o _⟩)
 | some g=>
  have a:adr (some g)=some ⟨g,0,none⟩:=rfl;rw[a] at l q;clear j a;go_enter func158,ntmps158;go_wp2_with fail;refine(r.o 0).mono ?_;rintro e x ⟨rfl,m,rfl⟩;go_wp2
  go_region
  all_goals (go_wp2;go_ret;exact⟨rfl,q.o _⟩)
def RS(k:Nat):Nat:=4096*2 ^ k
theorem pow8(k:Nat)(a:k<=8) : 1<=2 ^ k/\2 ^ k<=256:=⟨ax k,bj (n:=2) (by decide) a⟩
theorem LP(bS lim:Int)(k:Nat)(b:k<=8)(w:World):
  Calls prog 101 #[.agg #[.int .u64 bS,.int .i64 lim,.int .i64 k]] w fun e a=>e=.returned (.int .u64 ((RS k:Nat):Int))/\Kt nO w a:=by
 have E:=aA (show IntKind.u64.wrap (4096*2 ^ k)=((RS k:Nat):Int)by
  have:=pow8 k b;have e:((2:Int) ^ k)=((2 ^ k:Nat):Int):=by simp
  rw[wrap_u64,e];unfold RS;generalize 2 ^ k=p at this;omega)
 go_enter func101,ntmps101;go_wp2
 go_ret;exact⟨dZ E.o,(Kt.refl _ w).alloc _⟩
def Bounds(lim ord:Int):Prop:=0<=ord/\ord<=8/\1<=lim/\lim<=64
instance (lim ord:Int):Decidable (Bounds lim ord):=by unfold Bounds;infer_instance
def mayB(bS:Nat)(lim ord:Int):Bool:=
 decide (Bounds lim ord) && decide (lim.toNat*2 ^ ord.toNat<=1024) && (decide (bS≠0) && decide (bS%RS ord.toNat=0) && decide (bS+lim.toNat*RS ord.toNat<=9223372036854775808))
theorem zjD(bS:Nat)(lim ord:Int)(d : -9223372036854775808<=lim)(b:lim<=9223372036854775807)(c : -9223372036854775808<=ord)(a:ord<=9223372036854775807)(h:¬Bounds lim ord)(w:World):
  Calls prog 100 #[.agg #[.int .u64 bS,.int .i64 lim,.int .i64 ord]] w fun e f=>e=.returned (.bool false)/\Kt nO w f:=by
 by_cases g:ord<0
 ·clear h;go_enter func100,ntmps100;go_wp2_with fail;go_ret;exact⟨rfl,(Kt.refl _ w).alloc _⟩
 ·by_cases h2 : 8<ord
  ·clear h;go_enter func100,ntmps100;go_wp2_with fail;go_ret;exact⟨rfl,(Kt.refl _ w).alloc _⟩
  ·by_cases j:lim<1
   ·clear h;go_enter func100,ntmps100;go_wp2_with fail;go_ret;exact⟨rfl,(Kt.refl _ w).alloc _⟩
   ·have i : 64<lim:=(by unfold Bounds at h;omega);clear h;go_enter func100,ntmps100;go_wp2_with fail;go_ret;exact⟨rfl,(Kt.refl _ w).alloc _⟩
theorem qU(w a:World)(bS lim ord:Int)(hK:Kt nO (w.alloc (.cells #[.int .u64 bS,.int .i64 lim,.int .i64 ord] 24)) a):
  a.cell? ⟨w.heap.size,0,none⟩=some (.int .u64 bS)/\a.cell? ⟨w.heap.size,1,none⟩=some (.int .i64 lim)/\Kt nO w a:=by
 have:=(hK.block w.heap.size (by simp) (fun x=>x)).trans (nH w _);exact⟨by simp[World.cell?,this],by simp[World.cell?,this],((Kt.refl nO w).alloc _).trans hK (fun _ _ x=>x) (fun _ _ x=>x)⟩
theorem YX(bS:Nat)(B:bS<18446744073709551616)(lim k:Nat)(A:k<=8)(G : 1<=lim)(t:lim<=64)(w:World):
  Calls prog 100 #[.agg #[.int .u64 bS,.int .i64 lim,.int .i64 k]] w fun e y=>e=.returned (.bool (mayB bS lim k))/\Kt nO w y:=by
 obtain⟨P,m⟩:=xe (2 ^ k);have o:=pow8 k A;rw[<-m] at o;obtain⟨h,c⟩:=xe (lim*P);have C:h<=16384:=by rw[c];exact an (Nat.mul_le_mul t o.2) (by decide)
 have K:wrap64 ((lim:Int)*2 ^ k)=(h:Int):=by
  have e:((2:Int) ^ k)=((2 ^ k:Nat):Int):=by simp
  have L:(lim:Int)*((P:Nat):Int)=(h:Int):=by rw[c];simp
  rw[e,<-m,L];unfold wrap64;omega
 have D:Bounds (lim:Int) (k:Int):=by unfold Bounds;omega
 have i:mayB bS lim k=(decide (h<=1024) && (decide (bS≠0) && decide (bS%RS k=0) && decide (bS+lim*RS k<=9223372036854775808))):=by unfold mayB;rw[af D,aa,aa,<-m,<-c,bf]
 rw[i];clear i D;obtain⟨R,hR⟩:=xe (RS k);have d:R=4096*P:=by rw[hR,RS,m]
 obtain⟨lr,b⟩:=xe (lim*R);have f:lr=4096*h:=by rw[b,d,c,Nat.mul_left_comm]
 have z:(lim:Int)*(R:Int)=lr:=by rw[b];simp
 rw[<-hR,<-b];have l:=aA (show ∀ w,Calls prog 101 #[.agg #[.int .u64 bS,.int .i64 lim,.int .i64 k]] w fun e y=>e=.returned (.int .u64 R)/\Kt nO w y from fun w=>by rw[hR];exact LP bS lim k A w)
 have F:¬(R:Int)=0:=by omega
 have E:R<=1048576:=by omega
 by_cases v:h<=1024
 ·have x:¬(1024:Int)<h:=by omega
  have hd:decide (h<=1024)=true:=af v;rw[hd,bf];clear m c hR hd;by_cases h0:bS=0
  ·have u:((bS:Int) != 0)=false:=(by rw[h0];rfl);have J:=aA h0;clear d b f h0;go_enter func100,ntmps100;go_wp2_with fail;refine(l.o _).mono ?_;rintro e r ⟨rfl,hK⟩;obtain⟨n,q,a⟩:=qU w r bS lim k hK;have p:=aA a;clear hK a;go_wp2
   go_ret;exact⟨cO (by rw[J.o];simp),p.o⟩
  ·have u:((bS:Int) != 0)=true:=(by rw[cu];omega);have j:decide (bS≠0)=true:=af h0;rw[j,bf];by_cases s:bS%R=0
   ·have I:((bS:Int)%(R:Int) == 0)=true:=(by rw[co];omega);have g:decide (bS%R=0)=true:=af s;rw[g,bf];clear d b s g j;go_enter func100,ntmps100;go_wp2_with fail;refine(l.o _).mono ?_;rintro e r ⟨rfl,hK⟩;obtain⟨n,q,a⟩:=qU w r bS lim k hK;have p:=aA a;clear hK a;go_wp2
    go_ret;exact⟨cO (by rw[decide_eq_decide];omega),p.o⟩
   ·have I:((bS:Int)%(R:Int) == 0)=false:=(by rw[ag];omega);have g:decide (bS%R=0)=false:=ah s;rw[g,Bool.false_and];clear d b f s g j;go_enter func100,ntmps100;go_wp2_with fail;refine(l.o _).mono ?_;rintro e r ⟨rfl,hK⟩;obtain⟨n,q,a⟩:=qU w r bS lim k hK;have p:=aA a;clear hK a;go_wp2
    go_ret;exact⟨rfl,p.o⟩
 ·have hd:decide (h<=1024)=false:=ah v;rw[hd,Bool.false_and];have x:(1024:Int)<h:=by omega
  clear m c hR d b f v hd;go_enter func100,ntmps100;go_wp2_with fail;go_ret;exact⟨rfl,(Kt.refl _ w).alloc _⟩
theorem JB(bS:Nat)(a:bS<18446744073709551616)(lim ord:Int)(f : -9223372036854775808<=lim)(c:lim<=9223372036854775807)(d : -9223372036854775808<=ord)(b:ord<=9223372036854775807)(w:World):
  Calls prog 100 #[.agg #[.int .u64 bS,.int .i64 lim,.int .i64 ord]] w fun e i=>e=.returned (.bool (mayB bS lim ord))/\Kt nO w i:=by
 by_cases h:Bounds lim ord
 ·have g:=h;unfold Bounds at g;obtain⟨l,rfl⟩:=au (by omega : 0<=lim);obtain⟨k,rfl⟩:=au g.1;exact YX bS a l k (by omega) (by omega) (by omega) w
 ·have e:mayB bS lim ord=false:=by unfold mayB;rw[ah h,Bool.false_and,Bool.false_and]
  rw[e];exact zjD bS lim ord f c d b h w
theorem YW{bS:Nat}{lim ord:Int}(h:mayB bS lim ord=true):Bounds lim ord/\Cfg bS (RS ord.toNat) lim.toNat:=by
 simp only[mayB,bu,bW] at h;obtain⟨⟨a,d⟩,⟨f,e⟩,b⟩:=h;refine⟨a,?_⟩;unfold Bounds at a;have hp:=pow8 ord.toNat (by omega);have c:lim.toNat*RS ord.toNat=4096*(lim.toNat*2 ^ ord.toNat):=by rw[RS,Nat.mul_left_comm]
 have hR:RS ord.toNat=4096*2 ^ ord.toNat:=rfl;exact⟨by omega,by omega,by omega,by omega,by omega,by omega,b⟩
theorem New_bad(bS:Nat)(b:bS<18446744073709551616)(lim ord:Int)(g : -9223372036854775808<=lim)(f:lim<=9223372036854775807)(c : -9223372036854775808<=ord)(j:ord<=9223372036854775807)(h:mayB bS lim ord=false)(w:World):
  Calls prog 53 #[.agg #[.int .u64 bS,.int .i64 lim,.int .i64 ord]] w fun e m=>e=.returned (.tuple #[.pointer none,.int .i64 1])/\Kt nO w m:=by
 have k:=aA (JB bS b lim ord g f c j);rw[h] at k;clear h;go_enter func53,ntmps53;go_wp2_with fail;refine(k.o _).mono ?_;rintro e n ⟨rfl,hK⟩;obtain⟨d,i,a⟩:=qU w n bS lim ord hK;have l:=aA a;clear hK a d i;go_wp2
 go_ret2;exact⟨rfl,l.o⟩
end Go.Proofs.YtfmgnljlkdmndaaGreatDoor.M
