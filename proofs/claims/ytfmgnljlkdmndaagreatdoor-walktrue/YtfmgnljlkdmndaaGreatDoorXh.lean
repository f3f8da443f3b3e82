import Derived.Test.YtfmgnljlkdmndaaGreatDoorZa
import Derived.Test.YtfmgnljlkdmndaaGreatDoorXg
set_option maxRecDepth 1000000
set_option maxHeartbeats 80000000
namespace Go.Proofs.YtfmgnljlkdmndaaGreatDoor
open Tryz
open Go.RowKit
set_option linter.unusedVariables false
theorem GH(x:Bx)(t:Bt)(p:Nat){w:World}(h:BdAt w x t):fT x t p<=1024:=by
 unfold fT;have:=h.mp.n1;split
 ·next c=>have:=c.2;omega
 ·omega
theorem GG(x:Bx)(t:Bt)(p k:Nat)(hp:p<18446744073709551616)(hl:kI x t p (k:Int)=true)(w:World)(h:BdAt w x t):
  Calls prog 170 #[.pointer (some ⟨x.b,0,none⟩),.int .u64 p,.int .i64 k] w fun e l=>∃ d pr a,(d,pr,a)=gN x (x.o-k) t (fT x t p) k/\e=.returned (.int .i64 (iG x d pr a:Int))/\BdAt l x (fF x d pr a)/\Kt (aC x) w l:=by
 have g:=aA (FP x t p k hp w h);have n:k<=x.o:=by unfold kI at hl;simp only[bu] at hl;have:=hl.1.2;simp only[aD,bW] at this;omega
 rw[hl] at g;have f:=GH x t p h;have H:=aA h;clear h hl;obtain⟨q,hq⟩:=xe (fT x t p);rw[<-hq] at g f ⊢;clear hq;go_enter func170,ntmps170;go_wp2_with fail;refine g.o.mono ?_;rintro e r ⟨rfl,c⟩;have K:=aA c;have m:=aA (H.o.keep c);clear c g;go_wp2_with fail;refine(zk8 x t q k f n _ m.o).mono ?_;rintro e j ⟨d,pr,a,he,rfl,i,hK⟩;have D:=aA (show(d,pr,a)=gN x (x.o-k) t q k/\BdAt j x (fF x d pr a)/\Kt (aC x) w j from⟨he,i,eV (jE K.o) hK⟩);clear he i hK;go_wp2_with fail;go_ret;exact⟨d,pr,a,D.o.1,rfl,D.o.2⟩
theorem zgD(x:Bx)(t:Bt)(p k o:Nat)(hp:p<18446744073709551616)(hl:kI x t p (k:Int)=true)(j:o<=k)(w:World)(h:BdAt w x t):
  Calls prog 65 #[.pointer (some ⟨x.b,0,none⟩),.int .u64 p,.int .i64 k,.int .i64 o] w fun e g=>e=.returned (.int .i64 (gH x t (fT x t p) k o:Int))/\BdAt g x (eG x t (fT x t p) k o)/\Kt (aC x) w g:=by
 have d:=aA (FP x t p k hp w h);have l:k<=x.o:=by unfold kI at hl;simp only[bu] at hl;have:=hl.1.2;simp only[aD,bW] at this;omega
 rw[hl] at d;have c:=GH x t p h;have H:=aA h;clear h hl;obtain⟨q,hq⟩:=xe (fT x t p);rw[<-hq] at d c ⊢;have m:¬(k:Int)<o:=by omega
 clear hq;go_enter func65,ntmps65;go_wp2_with fail;refine d.o.mono ?_;rintro e r ⟨rfl,a⟩;have K:=aA a;have i:=aA (H.o.keep a);clear a d;go_wp2_with fail;refine(FN x t q k o c j l _ i.o).mono ?_;rintro e n ⟨rfl,f,hK⟩;have D:=aA (And.intro f (eV (jE K.o) hK));clear f hK;go_wp2_with fail;go_ret;exact⟨rfl,D.o⟩
def gL(x:Bx)(t:Bt):Prop:=x.n≠0/\t.m.n*4096=x.n
def aM(x:Bx):Nat:=x.n/4096-2 ^ x.o
theorem rJ{w x t}(h:BdAt w x t):∃ k,x.n=k*(4096*2 ^ x.o)/\k<=64/\x.n/x.R=k:=by obtain⟨k,a,hl⟩:=h.sp.kn;have b:=h.sp.cfg.l2;have hp : 0<4096*2 ^ x.o:=Nat.mul_pos (by decide) (ap (by decide));rw[h.hR] at a;exact⟨k,a,by omega,by rw[h.hR,a,dg _ hp]⟩
theorem SC(x:Bx)(t:Bt)(I:¬gL x t)(w:World)(h:BdAt w x t):
  Calls prog 206 #[.pointer (some ⟨x.b,0,none⟩)] w fun e V=>e=.returned (.tuple #[.int .i64 0,.bool false])/\Kt nO w V:=by
 obtain⟨k,G,q,u⟩:=rJ h;have J:=h.o8;have Q:=h.mp.n1;have c1:=h.b1;have H:=aA h;obtain⟨z,hz⟩:=xe (2 ^ x.o);have P:(2:Int) ^ x.o=(z:Int):=by rw[hz];simp
 have U : 1<=z:=by rw[hz];exact ap (by decide)
 have D:z<=256:=by rw[hz];exact bj (n:=2) (by decide) J
 obtain⟨l,i⟩:=xe (k*z);have F:l<=16384:=by rw[i];exact Nat.mul_le_mul q D
 have E:(k:Int)*(z:Int)=l:=by rw[i];simp
 have p:x.n=l*4096:=by rw[G,i,hz,aq 4096,cx]
 have j:k=0\/(k≠0/\t.m.n≠l):=by
  by_cases e:k=0
  ·exact .inl e
  ·refine .inr ⟨e,fun S=>I ⟨?_,by rw[S,p]⟩⟩;intro Y;have : 0<k*z:=Nat.mul_pos (by omega) (by omega);omega
 have C:=aA (M.regions_any x.s x.a x.bS x.R x.lim x.n t.f w h.sp);rw[u] at C;clear h hz i p I G;rcases j with h0|⟨h0,X⟩
 ·subst h0;go_enter func206,ntmps206;go_wp2_with fail;refine C.o.mono ?_;rintro e A ⟨rfl,d,g⟩;have K:=aA (show Kt nO w A by rw[g];exact(Kt.refl nO w).drewN d);clear g;go_wp2_with fail;exact⟨rfl,.tuple #[.int .i64 0,.bool false],by simp[results,results206,go_sem],rfl,K.o⟩
 ·have v:¬(k:Int)=0:=by omega
  have y:¬(t.m.n:Int)=l:=by omega
  have N:((k:Int) == 0)=false:=ag.2 v;have T:((t.m.n:Int) != (l:Int))=true:=by simpa using y
  go_enter func206,ntmps206;go_wp2_with fail;refine C.o.mono ?_;rintro e A ⟨rfl,d,g⟩;have K:=aA (show Kt nO w A by rw[g];exact(Kt.refl nO w).drewN d);have r:=aA (H.o.keep K.o);have c2:=r.o.b2;clear g c1;go_wp2_with fail;refine(tN x.m x.B t.m _ r.o.mp).mono ?_;rintro e L ⟨rfl,c⟩;rw[c];clear c;go_wp2_with fail;refine(lZ x t _ r.o).mono ?_;rintro e L ⟨rfl,c⟩;rw[c];clear c;go_wp2_with fail;exact⟨rfl,.tuple #[.int .i64 0,.bool false],by simp[results,results206,go_sem],rfl,K.o⟩
theorem vU(x:Bx)(t:Bt)(I:gL x t)(w:World)(h:BdAt w x t):
  Calls prog 206 #[.pointer (some ⟨x.b,0,none⟩)] w fun e w'=>e=.returned (.tuple #[.int .i64 (aM x:Int),.bool true])/\Kt nO w w':=by
 obtain⟨k,G,r,F⟩:=rJ h;have S:=h.o8;have X:=h.mp.n1;have c1:=h.b1;have H:=aA h;obtain⟨z,hz⟩:=xe (2 ^ x.o);have V:(2:Int) ^ x.o=(z:Int):=by rw[hz];simp
 have Z : 1<=z:=by rw[hz];exact ap (by decide)
 have J:z<=256:=by rw[hz];exact bj (n:=2) (by decide) S
 have p:x.n=k*z*4096:=by rw[G,hz,aq 4096,cx]
 have D:k≠0:=fun e=>I.1 (by rw[G,e];simp)
 obtain⟨j,rfl⟩:∃ j,k=j+1:=⟨k-1,by omega⟩;obtain⟨q,g⟩:=xe ((j+1)*z);obtain⟨l,i⟩:=xe (j*z);have u:q=l+z:=by rw[g,i,av,aL]
 have P:q<=16384:=by rw[g];exact Nat.mul_le_mul r J
 have L:((j:Int)+1)*(z:Int)=q:=by rw[g];simp
 have C:(j:Int)*(z:Int)=l:=by rw[i];simp
 rw[<-g] at p;have E:(t.m.n:Int)=q:=by have:=I.2;omega
 have A:=aA (show wrap64 (l:Int)=l by simp only[wrap64];omega);have U:(((j:Int)+1) == 0)=false:=ag.2 (by omega);have Y:((t.m.n:Int) != (q:Int))=false:=by simp[E]
 rw[show aM x=l by unfold aM;rw[<-hz];omega];have Q:=aA (M.regions_any x.s x.a x.bS x.R x.lim x.n t.f w h.sp);rw[F] at Q;clear h hz g i p I G D u;go_enter func206,ntmps206;go_wp2_with fail;refine Q.o.mono ?_;rintro e T ⟨rfl,d,v⟩;have K:=aA (show Kt nO w T by rw[v];exact(Kt.refl nO w).drewN d);have y:=aA (H.o.keep K.o);have c2:=y.o.b2;clear v c1;go_wp2_with fail;refine(tN x.m x.B t.m _ y.o.mp).mono ?_;rintro e N ⟨rfl,c⟩;rw[c];clear c;go_wp2_with fail;refine(lZ x t _ y.o).mono ?_;rintro e N ⟨rfl,c⟩;rw[c];clear c;go_wp2_with fail;refine(lZ x t _ y.o).mono ?_;rintro e N ⟨rfl,c⟩;rw[c];clear c;go_wp2_with fail;exact⟨rfl,.tuple #[.int .i64 l,.bool true],by simp[results,results206,go_sem];exact A.o,rfl,K.o⟩
theorem vS{w x t}(h:BdAt w x t)(b:gL x t):aM x<=1024/\ad x (aM x)<18446744073709551616:=by
 have c:=h.mp.n1;have d:=b.2;have a:aM x<=1024:=by unfold aM;exact an (Nat.sub_le _ _) (by omega)
 have e:=h.end63;exact⟨a,by unfold ad;omega⟩
theorem zlB(x:Bx)(t:Bt)(l:gL x t)(hl:kI x t (ad x (aM x)) (x.o:Int)=true)(he:iG x t (fT x t (ad x (aM x))) x.o=0)(w:World)(h:BdAt w x t):
  Calls prog 222 #[.pointer (some ⟨x.b,0,none⟩)] w fun e d=>e=.returned (.int .i64 0)/\BdAt d x (fF x t (fT x t (ad x (aM x))) x.o)/\Kt (aC x) w d:=by
 have H:=aA h;have r:=aA (vU x t l w h);obtain⟨s,j⟩:=vS h l;obtain⟨p,hp⟩:=xe (aM x);rw[<-hp] at r s j hl he ⊢;have m:=aA (show ∀ W,BdAt W x t->Calls prog 210 #[.pointer (some ⟨x.b,0,none⟩),.int .i64 p] W fun e d=>e=.returned (.int .u64 ((ad x p:Nat):Int))/\d=W from fun W i=>lY x t p (by omega) W i);have q:=aA (show ∀ W,BdAt W x t->Calls prog 170 #[.pointer (some ⟨x.b,0,none⟩),.int .u64 ((ad x p:Nat):Int),.int .i64 x.o] W fun e d=>e=.returned (.int .i64 0)/\BdAt d x (fF x t (fT x t (ad x p)) x.o)/\Kt (aC x) W d from fun W i=>(GG x t (ad x p) x.o j hl W i).mono (by
  rintro e d ⟨z,pr,v,n,rfl,f,hK⟩;rw[Nat.sub_self,gN] at n
  cases n
  rw[he];exact⟨rfl,f,hK⟩))
 obtain⟨a,ha⟩:=xe (ad x p);rw[<-ha] at m q ⊢;clear h l hl hp ha j he;go_enter func222,ntmps222;go_wp2_with fail;refine r.o.mono ?_;rintro e y ⟨rfl,k⟩;have K:=aA k;have g:=aA (H.o.keep k);clear k;go_wp2_with fail;refine(m.o _ g.o).mono ?_;rintro e u ⟨rfl,c⟩;rw[c];clear c;go_wp2_with fail;refine(lZ x t _ g.o).mono ?_;rintro e u ⟨rfl,c⟩;rw[c];clear c;go_wp2_with fail;refine(q.o _ g.o).mono ?_;rintro e A ⟨rfl,f,hK⟩;have D:=aA (And.intro f (eV (jE K.o) hK));clear f hK;go_wp2_with fail;go_ret;exact⟨rfl,D.o⟩
def freeL(x:Bx)(t:Bt)(k:Nat):List Nat:=M.walkR x.bS x.n t.f (x.n/16) 0 (t.hd k)
theorem zlC(x:Bx)(t:Bt)(k:Nat)(g:k<=x.o)(w:World)(h:BdAt w x t):
  Calls prog 239 #[.pointer (some ⟨x.b,0,none⟩),.int .i64 k] w fun e q=>∃ v,e=.returned v/\M.Lst q v (freeL x t k)/\Kt nO w q/\∀ r,v.ownBlock=some r->w.heap.size<=r:=by
 have l:=aA (tE x t k g w h);have c3:=h.b3;have cl:=h.lc k g;have y:=h.o8;have H:=aA h;have z:(k:Int)<((x.o+1:Nat):Int):=by omega
 clear h;go_enter func239,ntmps239;go_wp2_with fail;refine l.o.mono ?_;rintro e d ⟨rfl,c⟩;rw[c];clear c;go_wp2_with fail;refine(M.All_any (x.L k) _).mono ?_;rintro e d ⟨rfl,c⟩;have i:=aA (show Kt nO w d by rw[c];exact(Kt.refl nO w).alloc _);have j:=aA (H.o.keep i.o);have u:=aA (show M.PtrB d w.heap.size (x.L k)by rw[c];exact nH _ _);clear c c3 cl l;go_wp2_with fail;refine(M.Collect_any w.heap.size (x.L k) x.s x.a x.bS x.R x.lim x.n t.f (t.hd k) x.o y j.o.hR _ (j.o.ls' k g) u.o).mono ?_;rintro e p ⟨v,rfl,hL,hK,m⟩;have D:=aA (show M.Lst p v (freeL x t k)/\Kt nO w p/\∀ r,v.ownBlock=some r->w.heap.size<=r from⟨hL,nT i.o (dF hK),fun r A=>an i.o.size (m r A)⟩);clear hL hK m;go_wp2_with fail;go_ret;exact⟨v,rfl,D.o⟩
theorem zjO(v:Value)(c:List Nat)(a:Nat)(ha:a<18446744073709551616)(hl:c.length<=4194305)(w:World)(J:M.Wds w v c):
  Calls prog 252 #[v,.int .u64 a] w fun e K=>∃ i:Int,e=.returned (.int .i64 i)/\(0<=i↔a∈c)/\K=w:=by
 obtain⟨l,ao,N,rfl,C,p⟩:=J;have I:=aA C;have A:=aA p;have D:=aA l;obtain⟨m,r⟩:=xe (c.length);rw[<-r] at hl ⊢;have q:=aA r;clear C p l r;go_enter func252,ntmps252;go_wp2_with fail;go_loopw [8] (fun i W=>Hd (W=w)/\∃ k:Nat,k<=m/\i=.int .i64 k/\Hd (∀ j,j<k->c.getD j 0≠a)) (fun i _=>m-(intOf i).toNat)
 case atStart=>exact⟨rfl,0,by omega,rfl,fun j u=>by omega⟩
 case round=>
  obtain⟨t,k,L,rfl,hz⟩:=hrel;have t:=t.o;subst t;by_cases E:k<m
  ·have z:(k:Int)<m:=(by omega);have x:c≠[]:=fun e=>by have:=q.o;rw[e] at this;simp at this;omega
   obtain⟨g,rfl⟩:=I.o x;rw[show M.adr (some g)=some ⟨g,0,none⟩from rfl];have h:=(A.o g rfl).2.2 k (by have:=q.o;omega);have d:c.getD k 0∈c:=(by have:=q.o;rw[ai,bo (by omega)];simp);have o:=aA d;obtain⟨y,hy⟩:=xe (c.getD k 0);rw[<-hy] at h;replace h:wr.cell? ⟨g,k,none⟩=some (.int .u64 y):=h;have B:=aA hy;clear hy d;by_cases f:a=y
   ·have b:(a:Int)=y:=(by omega);have n:((a:Int) == (y:Int))=true:=(by simp[b]);have s:=aA (show a∈c by rw[f,B.o];exact o.o);clear f b;go_wp2_with fail;go_ret;exact⟨(k:Int),rfl,⟨fun _=>s.o,fun _=>by omega⟩,rfl⟩
   ·have b:¬(a:Int)=y:=(by omega);have n:((a:Int) == (y:Int))=false:=ag.2 b;go_wp2_with fail;exact⟨⟨trivial,k+1,by omega,by simp,fun j u=>by
     by_cases e:j=k
     ·subst e;rw[<-B.o];exact fun e=>f e.symm
     ·exact hz.o j (by omega)⟩,by simp[intOf];omega⟩
  ·have z:¬(k:Int)<m:=(by omega);have F:=aA (show ¬a∈c from fun e=>by
    obtain⟨j,u,G⟩:=List.mem_iff_getElem.1 e;have r:=q.o;exact hz.o j (by omega) (by rw[ai,bo u];exact G))
   go_wp2_with fail;go_ret;exact⟨-1,rfl,⟨fun e=>by omega,fun e=>absurd e F.o⟩,rfl⟩
theorem zf3(v:Value)(b:List Nat)(a:Nat)(ha:a<18446744073709551616)(hl:b.length<=4194305)(w:World)(d:M.Wds w v b):
  Calls prog 238 #[v,.int .u64 a] w fun e g=>e=.returned (.bool (decide (a∈b)))/\g=w:=by
 have c:=aA (zjO v b a ha hl w d);clear d;go_enter func238,ntmps238;go_wp2_with fail;refine c.o.mono ?_;rintro e h ⟨i,rfl,hi,rfl⟩;have f:=aA hi;clear hi c;go_wp2_with fail;go_ret;exact⟨cO (decide_eq_decide.2 f.o),rfl⟩
theorem JU(bS n:Nat)(f:Nat->Nat):∀ k q p,(M.walkR bS n f k q p).length<=k
 | 0,_,_=>aj _
 | k+1,q,p=>by
  unfold M.walkR;split
  ·have:=JU bS n f k p (M.nx bS f p);simp;omega
  ·simp
theorem zjP{w x t}(h:BdAt w x t)(k:Nat):(freeL x t k).length<=4194305:=by have b:=JU x.bS x.n t.f (x.n/16) 0 (t.hd k);have a:x.n<=4194304:=an h.sp.nle h.sp.cfg.lr;unfold freeL;omega
def mL(x:Bx)(t:Bt)(p k:Nat):Bool:=kV t.m 0 (p:Int) (k:Int) && decide (ad x p∈freeL x t k)
theorem GF(x:Bx)(t:Bt)(p k:Nat)(hp:p<=4000)(z:k<=x.o)(w:World)(h:BdAt w x t):
  Calls prog 207 #[.pointer (some ⟨x.b,0,none⟩),.int .i64 p,.int .i64 k] w fun e j=>e=.returned (.bool (mL x t p k))/\Kt nO w j:=by
 have H:=aA h;have i:=zjP h k;have g:=aA (is_any x t 0 (p:Int) (k:Int) w h);have f:ad x p<18446744073709551616:=by have:=h.end63;unfold ad;omega
 have l:=aA (show ∀ W,BdAt W x t->Calls prog 210 #[.pointer (some ⟨x.b,0,none⟩),.int .i64 p] W fun e j=>e=.returned (.int .u64 ((ad x p:Nat):Int))/\j=W from fun W q=>lY x t p hp W q);obtain⟨b,hb⟩:=xe (kV t.m 0 (p:Int) (k:Int));obtain⟨a,ha⟩:=xe (ad x p);rw[<-ha] at f l;rw[<-hb] at g;rw[show mL x t p k=(b && decide (a∈freeL x t k))by unfold mL;rw[<-hb,<-ha]];clear h hb ha
 cases b with
 | false=>
  go_enter func207,ntmps207;go_wp2_with fail;refine g.o.mono ?_;rintro e s ⟨rfl,c⟩;have K:=aA c;clear c;go_wp2_with fail;go_ret;exact⟨cO (by simp),K.o⟩
 | true=>
  go_enter func207,ntmps207;go_wp2_with fail;refine g.o.mono ?_;rintro e s ⟨rfl,c⟩;have K:=aA c;have n:=aA (H.o.keep c);clear c;go_wp2_with fail;refine(zlC x t k z _ n.o).mono ?_;rintro e C ⟨v,rfl,hL,hK,r⟩;have u:=aA (nT K.o hK);have A:=aA (n.o.keep hK);have y:=aA hL;clear hL hK r;go_wp2_with fail;refine(l.o _ A.o).mono ?_;rintro e B ⟨rfl,d⟩;rw[d];clear d;go_wp2_with fail;refine(zf3 v (freeL x t k) a f i _ y.o.wds).mono ?_;rintro e B ⟨rfl,d⟩;rw[d];clear d;go_wp2_with fail;go_ret;exact⟨cO (by simp),u.o⟩
theorem VL(x:Bx)(t:Bt)(c:¬gL x t\/(gL x t/\mL x t (aM x) x.o=false))(w:World)(h:BdAt w x t):
  Calls prog 156 #[.pointer (some ⟨x.b,0,none⟩)] w fun e q=>e=.returned (.int .i64 9)/\Kt nO w q:=by
 have H:=aA h;rcases c with c|⟨c,hl⟩
 ·have f:=aA (SC x t c w h);clear h c;go_enter func156,ntmps156;go_wp2_with fail;refine f.o.mono ?_;rintro e m ⟨rfl,a⟩;have K:=aA a;clear a;go_wp2_with fail;go_ret;exact⟨rfl,K.o⟩
 ·have f:=aA (vU x t c w h);obtain⟨l,i⟩:=vS h c;obtain⟨p,hp⟩:=xe (aM x);rw[<-hp] at f l i hl;have j:=aA (fun W (k:BdAt W x t)=>GF x t p x.o (by omega) (aj _) W k);rw[hl] at j;clear h c hl hp i;go_enter func156,ntmps156;go_wp2_with fail;refine f.o.mono ?_;rintro e m ⟨rfl,a⟩;have K:=aA a;have g:=aA (H.o.keep a);clear a;go_wp2_with fail;refine(lZ x t _ g.o).mono ?_;rintro e r ⟨rfl,d⟩;rw[d];clear d;go_wp2_with fail;refine(j.o _ g.o).mono ?_;rintro e s ⟨rfl,a⟩;have n:=aA (nT K.o a);clear a;go_wp2_with fail;go_ret;exact⟨rfl,n.o⟩
def uQ(x:Bx)(t:Bt):Bt:=cQ (cL x t (aM x) x.o) (aM x) x.o 2
theorem zlD(x:Bx)(t:Bt)(J:gL x t)(hl:mL x t (aM x) x.o=true)(S:iN x t (aM x) x.o=0)(w:World)(h:BdAt w x t):
  Calls prog 156 #[.pointer (some ⟨x.b,0,none⟩)] w fun e i=>e=.returned (.int .i64 0)/\BdAt i x (uQ x t)/\Kt (aC x) w i:=by
 have H:=aA h;have ho:=h.o8;have G:=aA (vU x t J w h);obtain⟨h1,U⟩:=vS h J;rw[show uQ x t=cQ (cL x t (aM x) x.o) (aM x) x.o 2 from rfl];obtain⟨p,hp⟩:=xe (aM x);rw[<-hp] at G h1 U hl S ⊢;have N:=aA (fun W (r:BdAt W x t)=>GF x t p x.o (by omega) (aj _) W r);rw[hl] at N;have j:=aA (show ∀ W,BdAt W x t->Calls prog 210 #[.pointer (some ⟨x.b,0,none⟩),.int .i64 p] W fun e i=>e=.returned (.int .u64 ((ad x p:Nat):Int))/\i=W from fun W r=>lY x t p (by omega) W r);have g:=aA (fun W (r:BdAt W x t)=>FM x t p x.o (by omega) (aj _) W r);rw[S] at g;obtain⟨a,ha⟩:=xe (ad x p);rw[<-ha] at j g;have a2:(x.o:Int)<((x.o+1:Nat):Int):=by omega
 have V:(x.o:Int)<x.o+1:=by omega
 have a1:(0:Int)<=(x.o:Int):=by omega
 have Y:x.o<x.o+1:=by omega
 have a0:IntKind.i64.wrap (x.o:Int)=x.o:=by rw[IntKind.wrap_i64];omega
 clear h J hl hp U ha S;go_enter func156,ntmps156;go_wp2_with fail;refine G.o.mono ?_;rintro e w1 ⟨rfl,n⟩;have K:=aA n;have D:=aA (H.o.keep n);clear n;go_wp2_with fail;refine(lZ x t _ D.o).mono ?_;rintro e w2 ⟨rfl,z⟩;rw[z];clear z;go_wp2_with fail;refine(N.o _ D.o).mono ?_;rintro e E ⟨rfl,n⟩;have K3:=aA (nT K.o n);have Z:=aA (D.o.keep n);clear n N G;have d:=aA (Z.o.keep (Kt.refl nO E).drew);have B:=aA (lZ x t E.drew d.o);have C:E.drew.cell? ⟨x.b,3,none⟩=some (.slice (some ⟨x.l,0,none⟩) (x.o+1) x.c):=d.o.b3;have u:=d.o.lc x.o (aj _);have T:=aA (nT K3.o (Kt.refl nO E).drew);go_wp2_with fail;go_region_held3 (fun i=>i.cell? ⟨x.b,3,none⟩=some (.slice (some ⟨x.l,0,none⟩) (x.o+1) x.c)/\i.cell? ⟨x.l,x.o,none⟩=some (.pointer (some ⟨x.L x.o,0,none⟩))) (first|with_reducible exact⟨C,u⟩|with_reducible exact⟨v,y⟩) (first|(go_at_call 208;refine B.o.mono ?_;rintro e A ⟨rfl,f⟩;rw[f];clear f)|(go_at_call 210;refine(j.o _ d.o).mono ?_;rintro e A ⟨rfl,f⟩;rw[f];clear f)|(go_at_call 209;refine(g.o _ d.o).mono ?_;rintro e A ⟨rfl,s,hK⟩;have R:=aA s;have K4:=aA (eV (jE T.o) hK);have v:=R.o.b3;have y:=R.o.lc x.o (aj _);clear s hK))
 all_goals
  clear C u v y j g B d Z D;have k:=aA (R.o.keep (Kt.refl nO A).drew);have P:=aA (lZ x _ A.drew k.o);have Q:=k.o.b2;have F:=aA (eV K4.o (jE (Kt.refl nO A).drew));go_wp2_with fail;go_region_held3 (fun i=>i.cell? ⟨x.b,2,none⟩=some (.pointer (some ⟨x.m,0,none⟩))) (first|with_reducible exact Q|with_reducible exact I) (first|(go_at_call 208;refine P.o.mono ?_;rintro e w5 ⟨rfl,q⟩;rw[q];clear q)|(go_at_call 175;refine(qK x _ p x.o 2 _ k.o).mono ?_;rintro e w5 ⟨rfl,s,hK⟩;have X:=aA s;have K5:=aA (eV F.o hK);have I:=X.o.b2;clear s hK))
  all_goals
   go_wp2_with fail;go_ret;exact⟨rfl,X.o,K5.o⟩
def jD(x:Bx)(t:Bt):List Nat:=(List.range (x.o+1)).map t.hd
theorem zib(x:Bx)(t:Bt):(jD x t).length=x.o+1:=by simp[jD]
theorem zf6{w:World}{g:Nat}{zs:List Nat}(hg:w.heap[g]?=some (.cells (bU zs) 22 (0,0)))(q y:Nat):(w.setCell ⟨g,q,none⟩ (.int .u64 y)).heap[g]?=some (.cells (bU (zs.set q y)) 22 (0,0)):=by rw[cF hg q (.int .u64 y)];simp[bU,List.map_set]
def kM(x:Bx)(t:Bt)(k:Nat):List Nat:=(List.range (x.o+1)).map fun j=>if j<k then t.hd j else 0
theorem zic(x:Bx)(t:Bt)(k:Nat):(kM x t k).set k (t.hd k)=kM x t (k+1):=by
 apply List.ext_getElem
 ·simp[kM]
 ·intro i a b;rw[List.getElem_set];simp only[kM,List.getElem_map,List.getElem_range];by_cases e:k=i
  ·subst e;rw[ae rfl,ae (by omega)]
  ·rw[ac e];by_cases h:i<k
   ·rw[ae h,ae (by omega)]
   ·rw[ac h,ac (by omega)]
theorem zjQ(x:Bx)(t:Bt)(w:World)(h:BdAt w x t):
  Calls prog 34 #[.pointer (some ⟨x.b,0,none⟩)] w fun e B=>e=.returned (.slice (some ⟨w.heap.size,0,none⟩) (x.o+1) (x.o+1))/\B.heap[w.heap.size]?=some (.cells (bU (jD x t)) 22 (0,0))/\Kt nO w B:=by
 have K:=h.o8;have c3:=h.b3;have H:=aA h;obtain⟨N,l⟩:=xe (x.o+1);have F:((x.o:Int)+1)=(N:Int):=by omega
 rw[<-l] at c3 ⊢;obtain⟨A,m,f,c,u⟩:=wS N (by omega) w;have y:=aA (show A.heap[w.heap.size]?=some (.cells (bU (kM x t 0)) 22 (0,0))/\Kt nO w A from⟨by rw[f,l];simp[kM,eW,List.map_const'],c⟩);have z:=aA l;have n:=c.cell (fun x=>x) c3;clear h f c u l;go_enter func34,ntmps34;go_wp2_with fail;go_loopw [17] (fun i W=>∃ k:Nat,k<=N/\i=.int .i64 k/\Hd (W.heap[w.heap.size]?=some (.cells (bU (kM x t k)) 22 (0,0))/\Kt nO w W)) (fun i _=>N-(intOf i).toNat)
 case atStart=>exact⟨0,by omega,rfl,y⟩
 case round=>
  clear m n y c3;obtain⟨k,R,rfl,a⟩:=hrel;by_cases C:k<N
  ·have r:(k:Int)<N:=(by omega);have g:k<=x.o:=(by have:=z.o;omega);have v:=aA (H.o.keep a.o.2);have cl:=v.o.lc k g;have I:=aA (M.Head_any (x.L k) x.s (t.hd k) wr (v.o.ls k g));have J:∀ j,wr.frozen? ⟨w.heap.size,j,none⟩=false:=fun j=>by simp[World.frozen?,a.o.1]
   have Q:wr.cell? ⟨w.heap.size,k,none⟩=some (.int .u64 0):=by simp[World.cell?,a.o.1,bU,kM,show k<x.o+1 by omega]
   have G:=aA (show(wr.setCell ⟨w.heap.size,k,none⟩ (.int .u64 (t.hd k:Int))).heap[w.heap.size]?=some (.cells (bU (kM x t (k+1))) 22 (0,0))/\Kt nO w (wr.setCell ⟨w.heap.size,k,none⟩ (.int .u64 (t.hd k:Int)))from⟨by rw[zf6 a.o.1,zic],a.o.2.setNew (p:=⟨w.heap.size,k,none⟩) (fun e=>absurd e (dc _)) _⟩);go_wp2_with fail;refine I.o.mono ?_;rintro e P ⟨rfl,d⟩;rw[d];clear d;go_wp2_with fail;exact⟨⟨k+1,by omega,by simp,G⟩,by simp[intOf];omega⟩
  ·have r:¬(k:Int)<N:=(by omega);have D:=aA (show wr.heap[w.heap.size]?=some (.cells (bU (jD x t)) 22 (0,0))/\Kt nO w wr from⟨by
    rw[a.o.1];have q:k=x.o+1:=(by have:=z.o;omega);have:kM x t k=jD x t:=by
     rw[q];unfold kM jD;apply List.map_congr_left
     intro j E;rw[ae (List.mem_range.1 E)]
    rw[this],a.o.2⟩)
   clear a;go_wp2_with fail;go_ret;exact⟨rfl,D.o⟩
end Go.Proofs.YtfmgnljlkdmndaaGreatDoor
