import Derived.Test.YtfmgnljlkdmndaaGreatDoorZa
import Derived.Test.YtfmgnljlkdmndaaGreatDoorXd
set_option maxRecDepth 1000000
set_option maxHeartbeats 0
namespace Go.Proofs.YtfmgnljlkdmndaaGreatDoor
open Tryz RowKit
set_option linter.unusedVariables false
theorem GU(x:Bx)(t:Bt)(p:Nat){w:Wd}(h:BdAt w x t):fR x t p<=1024:=by
 unfold fR;have:=h.mp.n1;split;·next c=>have:=c.2;omega
 ·omega
theorem GT(x:Bx)(t:Bt)(p k:Nat)(hp:p<18446744073709551616)(hl:kI x t p (k:Int)=true)(w:Wd)(h:BdAt w x t):Calls prog 170 #[.pointer (some ⟨x.b,0,none⟩),.int .u64 p,.int .i64 k] w fun e i=>∃ c pr d,(c,pr,d)=gL x (x.o-k) t (fR x t p) k/\e=.returned (.int .i64 (iE x c pr d:Int))/\BdAt i x (fB x c pr d)/\Kt (aC x) w i:=by
 have g:=aA (FY x t p k hp w h);have n:k<=x.o:=by unfold kI at hl;simp only[bu] at hl;have:=hl.1.2;simp only[aD,ci] at this;omega
 rw[hl] at g;have f:=GU x t p h;have H:=aA h;clear h hl;obtain⟨q,hq⟩:=xe (fR x t p);rw[<-hq] at g f ⊢;clear hq;go_enter func170,ntmps170;go_wp2_with fail;refine g.o.mono ?_;rintro e r ⟨rfl,a⟩;have K:=aA a;have m:=aA (H.o.dk a);clear a g;go_wp2_with fail;refine(ZX x t q k f n _ m.o).mono ?_;rintro e l ⟨c,pr,d,he,rfl,j,hK⟩;have D:=aA (show(c,pr,d)=gL x (x.o-k) t q k/\BdAt l x (fB x c pr d)/\Kt (aC x) w l from⟨he,j,eQ (jD K.o) hK⟩);clear he j hK;go_wp2_with fail;go_ret;exact⟨c,pr,d,D.o.1,rfl,D.o.2⟩
theorem zgH(x:Bx)(t:Bt)(p k o:Nat)(hp:p<18446744073709551616)(hl:kI x t p (k:Int)=true)(j:o<=k)(w:Wd)(h:BdAt w x t):Calls prog 65 #[.pointer (some ⟨x.b,0,none⟩),.int .u64 p,.int .i64 k,.int .i64 o] w fun e f=>e=.returned (.int .i64 (gF x t (fR x t p) k o:Int))/\BdAt f x (eC x t (fR x t p) k o)/\Kt (aC x) w f:=by
 have d:=aA (FY x t p k hp w h);have l:k<=x.o:=by unfold kI at hl;simp only[bu] at hl;have:=hl.1.2;simp only[aD,ci] at this;omega
 rw[hl] at d;have c:=GU x t p h;have H:=aA h;clear h hl;obtain⟨q,hq⟩:=xe (fR x t p);rw[<-hq] at d c ⊢;have m:¬(k:Int)<o:=by omega
 clear hq;go_enter func65,ntmps65;go_wp2_with fail;refine d.o.mono ?_;rintro e n ⟨rfl,a⟩;have K:=aA a;have i:=aA (H.o.dk a);clear a d;go_wp2_with fail;refine(FX x t q k o c j l _ i.o).mono ?_;rintro e r ⟨rfl,g,hK⟩;have D:=aA (And.intro g (eQ (jD K.o) hK));clear g hK;go_wp2_with fail;go_ret;exact⟨rfl,D.o⟩
def gJ(x:Bx)(t:Bt):Prop:=x.n≠0/\t.m.n*4096=x.n
def aN(x:Bx):Nat:=x.n/4096-2 ^ x.o
theorem rI{w x t}(h:BdAt w x t):∃ k,x.n=k*(4096*2 ^ x.o)/\k<=64/\x.n/x.R=k:=by obtain⟨k,a,hl⟩:=h.sp.kn;have b:=h.sp.cfg.l2;have hp : 0<4096*2 ^ x.o:=Nat.mul_pos (by decide) (ap (by decide));rw[h.hR] at a;exact⟨k,a,by omega,by rw[h.hR,a,dh _ hp]⟩
theorem QB(x:Bx)(t:Bt)(E:¬gJ x t)(w:Wd)(h:BdAt w x t):Calls prog 206 #[.pointer (some ⟨x.b,0,none⟩)] w fun e N=>e=.returned (.tuple #[.int .i64 0,.bool false])/\Kt nO w N:=by
 obtain⟨k,I,p,C⟩:=rI h;have Q:=h.o8;have J:=h.mp.n1;have c1:=h.b1;have H:=aA h;obtain⟨z,hz⟩:=xe (2 ^ x.o);have T:(2:Int) ^ x.o=(z:Int):=by rw[hz];simp
 have S : 1<=z:=by rw[hz];exact ap (by decide)
 have D:z<=256:=by rw[hz];exact bj (n:=2) (by decide) Q
 obtain⟨l,i⟩:=xe (k*z);have F:l<=16384:=by rw[i];exact Nat.mul_le_mul p D
 have G:(k:Int)*(z:Int)=l:=by rw[i];simp
 have q:x.n=l*4096:=by rw[I,i,hz,aq 4096,cy]
 have j:k=0\/(k≠0/\t.m.n≠l):=by
  by_cases e:k=0;·exact .inl e
  ·refine .inr ⟨e,fun L=>E ⟨?_,by rw[L,q]⟩⟩;intro Y;have : 0<k*z:=Nat.mul_pos (by omega) (by omega);omega
 have u:=aA (M.regions_any x.s x.a x.bS x.R x.dl x.n t.f w h.sp);rw[C] at u;clear h hz i q E I;rcases j with h0|⟨h0,X⟩
 ·subst h0;go_enter func206,ntmps206;go_wp2_with fail;refine u.o.mono ?_;rintro e y ⟨rfl,d,c⟩;have K:=aA (show Kt nO w y by rw[c];exact(kz w).drewN d);clear c;go_wp2_with fail;exact⟨rfl,.tuple #[.int .i64 0,.bool false],by simp[results,results206,go_sem],rfl,K.o⟩
 ·have v:¬(k:Int)=0:=by omega
  have A:¬(t.m.n:Int)=l:=by omega
  have V:((k:Int) == 0)=false:=ag.2 v;have P:((t.m.n:Int) != (l:Int))=true:=by simpa using A
  go_enter func206,ntmps206;go_wp2_with fail;refine u.o.mono ?_;rintro e y ⟨rfl,d,c⟩;have K:=aA (show Kt nO w y by rw[c];exact(kz w).drewN d);have r:=aA (H.o.dk K.o);have c2:=r.o.b2;clear c c1;go_wp2_with fail;refine(tN x.m x.B t.m _ r.o.mp).mono ?_;rintro e U ⟨rfl,g⟩;rw[g];clear g;go_wp2_with fail;refine(lY x t _ r.o).mono ?_;rintro e U ⟨rfl,g⟩;rw[g];clear g;go_wp2_with fail;exact⟨rfl,.tuple #[.int .i64 0,.bool false],by simp[results,results206,go_sem],rfl,K.o⟩
theorem vX(x:Bx)(t:Bt)(A:gJ x t)(w:Wd)(h:BdAt w x t):Calls prog 206 #[.pointer (some ⟨x.b,0,none⟩)] w fun e T=>e=.returned (.tuple #[.int .i64 (aN x:Int),.bool true])/\Kt nO w T:=by
 obtain⟨k,J,r,G⟩:=rI h;have V:=h.o8;have S:=h.mp.n1;have c1:=h.b1;have H:=aA h;obtain⟨z,hz⟩:=xe (2 ^ x.o);have Z:(2:Int) ^ x.o=(z:Int):=by rw[hz];simp
 have Y : 1<=z:=by rw[hz];exact ap (by decide)
 have I:z<=256:=by rw[hz];exact bj (n:=2) (by decide) V
 have u:x.n=k*z*4096:=by rw[J,hz,aq 4096,cy]
 have E:k≠0:=fun e=>A.1 (by rw[J,e];simp)
 obtain⟨j,rfl⟩:∃ j,k=j+1:=⟨k-1,by omega⟩;obtain⟨v,g⟩:=xe ((j+1)*z);obtain⟨l,i⟩:=xe (j*z);have q:v=l+z:=by rw[g,i,av,aL]
 have N:v<=16384:=by rw[g];exact Nat.mul_le_mul r I
 have P:((j:Int)+1)*(z:Int)=v:=by rw[g];simp
 have D:(j:Int)*(z:Int)=l:=by rw[i];simp
 rw[<-g] at u;have C:(t.m.n:Int)=v:=by have:=A.2;omega
 have F:=aA (show wrap64 (l:Int)=l by simp only[wrap64];omega);have a0:(((j:Int)+1) == 0)=false:=ag.2 (by omega);have U:((t.m.n:Int) != (v:Int))=false:=by simp[C]
 rw[show aN x=l by unfold aN;rw[<-hz];omega];have L:=aA (M.regions_any x.s x.a x.bS x.R x.dl x.n t.f w h.sp);rw[G] at L;clear h hz g i u A J E q;go_enter func206,ntmps206;go_wp2_with fail;refine L.o.mono ?_;rintro e X ⟨rfl,d,p⟩;have K:=aA (show Kt nO w X by rw[p];exact(kz w).drewN d);have y:=aA (H.o.dk K.o);have c2:=y.o.b2;clear p c1;go_wp2_with fail;refine(tN x.m x.B t.m _ y.o.mp).mono ?_;rintro e Q ⟨rfl,c⟩;rw[c];clear c;go_wp2_with fail;refine(lY x t _ y.o).mono ?_;rintro e Q ⟨rfl,c⟩;rw[c];clear c;go_wp2_with fail;refine(lY x t _ y.o).mono ?_;rintro e Q ⟨rfl,c⟩;rw[c];clear c;go_wp2_with fail;exact⟨rfl,.tuple #[.int .i64 l,.bool true],by simp[results,results206,go_sem];exact F.o,rfl,K.o⟩
theorem vV{w x t}(h:BdAt w x t)(b:gJ x t):aN x<=1024/\ad x (aN x)<18446744073709551616:=by
 have c:=h.mp.n1;have e:=b.2;have a:aN x<=1024:=by unfold aN;exact an (Nat.sub_le _ _) (by omega)
 have d:=h.ie;exact⟨a,by unfold ad;omega⟩
theorem zlW(x:Bx)(t:Bt)(g:gJ x t)(hl:kI x t (ad x (aN x)) (x.o:Int)=true)(he:iE x t (fR x t (ad x (aN x))) x.o=0)(w:Wd)(h:BdAt w x t):Calls prog 222 #[.pointer (some ⟨x.b,0,none⟩)] w fun e d=>e=.returned (.int .i64 0)/\BdAt d x (fB x t (fR x t (ad x (aN x))) x.o)/\Kt (aC x) w d:=by
 have H:=aA h;have n:=aA (vX x t g w h);obtain⟨s,i⟩:=vV h g;obtain⟨p,hp⟩:=xe (aN x);rw[<-hp] at n s i hl he ⊢;have r:=aA (show ∀ W,BdAt W x t->Calls prog 210 #[.pointer (some ⟨x.b,0,none⟩),.int .i64 p] W fun e d=>e=.returned (.int .u64 ((ad x p:Nat):Int))/\d=W from fun W k=>lX x t p (by omega) W k);have q:=aA (show ∀ W,BdAt W x t->Calls prog 170 #[.pointer (some ⟨x.b,0,none⟩),.int .u64 ((ad x p:Nat):Int),.int .i64 x.o] W fun e d=>e=.returned (.int .i64 0)/\BdAt d x (fB x t (fR x t (ad x p)) x.o)/\Kt (aC x) W d from fun W k=>(GT x t (ad x p) x.o i hl W k).mono (by
  rintro e d ⟨z,pr,A,m,rfl,f,hK⟩;rw[Nat.sub_self,gL] at m
  cases m
  rw[he];exact⟨rfl,f,hK⟩))
 obtain⟨a,ha⟩:=xe (ad x p);rw[<-ha] at r q ⊢;clear h g hl hp ha i he;go_enter func222,ntmps222;go_wp2_with fail;refine n.o.mono ?_;rintro e v ⟨rfl,l⟩;have K:=aA l;have j:=aA (H.o.dk l);clear l;go_wp2_with fail;refine(r.o _ j.o).mono ?_;rintro e u ⟨rfl,c⟩;rw[c];clear c;go_wp2_with fail;refine(lY x t _ j.o).mono ?_;rintro e u ⟨rfl,c⟩;rw[c];clear c;go_wp2_with fail;refine(q.o _ j.o).mono ?_;rintro e y ⟨rfl,f,hK⟩;have D:=aA (And.intro f (eQ (jD K.o) hK));clear f hK;go_wp2_with fail;go_ret;exact⟨rfl,D.o⟩
def ff(x:Bx)(t:Bt)(k:Nat):List Nat:=M.walkR x.bS x.n t.f (x.n/16) 0 (t.hd k)
theorem zlX(x:Bx)(t:Bt)(k:Nat)(i:k<=x.o)(w:Wd)(h:BdAt w x t):Calls prog 239 #[.pointer (some ⟨x.b,0,none⟩),.int .i64 k] w fun e l=>∃ v,e=.returned v/\M.Lst l v (ff x t k)/\Kt nO w l/\∀ r,v.ownBlock=some r->w.heap.size<=r:=by
 have j:=aA (tC x t k i w h);have c3:=h.b3;have cl:=h.lc k i;have z:=h.o8;have H:=aA h;have y:(k:Int)<((x.o+1:Nat):Int):=by omega
 clear h;go_enter func239,ntmps239;go_wp2_with fail;refine j.o.mono ?_;rintro e d ⟨rfl,c⟩;rw[c];clear c;go_wp2_with fail;refine(M.All_any (x.L k) _).mono ?_;rintro e d ⟨rfl,c⟩;have g:=aA (show Kt nO w d by rw[c];exact(kz w).alloc _);have m:=aA (H.o.dk g.o);have u:=aA (show M.PtrB d w.heap.size (x.L k)by rw[c];exact nH _ _);clear c c3 cl j;go_wp2_with fail;refine(M.Collect_any w.heap.size (x.L k) x.s x.a x.bS x.R x.dl x.n t.f (t.hd k) x.o z m.o.hR _ (m.o.eF k i) u.o).mono ?_;rintro e q ⟨v,rfl,hL,hK,p⟩;have D:=aA (show M.Lst q v (ff x t k)/\Kt nO w q/\∀ r,v.ownBlock=some r->w.heap.size<=r from⟨hL,nT g.o (dI hK),fun r A=>an g.o.size (p r A)⟩);clear hL hK p;go_wp2_with fail;go_ret;exact⟨v,rfl,D.o⟩
theorem zj6(v:Vl)(c:List Nat)(a:Nat)(ha:a<18446744073709551616)(hl:c.length<=4194305)(w:Wd)(F:M.Wds w v c):Calls prog 252 #[v,.int .u64 a] w fun e G=>∃ i:Int,e=.returned (.int .i64 i)/\(0<=i↔a∈c)/\G=w:=by
 obtain⟨o,ao,L,rfl,B,n⟩:=F;have E:=aA B;have x:=aA n;have J:=aA o;obtain⟨m,r⟩:=xe (c.length);rw[<-r] at hl ⊢;have q:=aA r;clear B n o r;go_enter func252,ntmps252;go_wp2_with fail;go_loopw [8] (fun i W=>Hd (W=w)/\∃ k:Nat,k<=m/\i=.int .i64 k/\Hd (∀ j,j<k->c.getD j 0≠a)) (fun i _=>m-(intOf i).toNat)
 case atStart=>exact⟨rfl,0,by omega,rfl,fun j t=>by omega⟩
 case round=>
  obtain⟨A,k,N,rfl,hz⟩:=hrel;have A:=A.o;subst A;by_cases K:k<m
  ·have u:(k:Int)<m:=(by omega);have s:c≠[]:=fun e=>by have:=q.o;rw[e] at this;simp at this;omega
   obtain⟨g,rfl⟩:=E.o s;rw[show M.adr (some g)=some ⟨g,0,none⟩from rfl];have f:=(x.o g rfl).2.2 k (by have:=q.o;omega);have d:c.getD k 0∈c:=(by have:=q.o;rw[ai,bo (by omega)];simp);have p:=aA d;obtain⟨y,hy⟩:=xe (c.getD k 0);rw[<-hy] at f;replace f:wr.cell? ⟨g,k,none⟩=some (.int .u64 y):=f;have C:=aA hy;clear hy d;by_cases h:a=y;·have b:(a:Int)=y:=(by omega);have l:((a:Int) == (y:Int))=true:=(by simp[b]);have z:=aA (show a∈c by rw[h,C.o];exact p.o);clear h b;go_wp2_with fail;go_ret;exact⟨(k:Int),rfl,⟨fun _=>z.o,fun _=>by omega⟩,rfl⟩
   ·have b:¬(a:Int)=y:=(by omega);have l:((a:Int) == (y:Int))=false:=ag.2 b;go_wp2_with fail;exact⟨⟨trivial,k+1,by omega,by simp,fun j t=>by
     by_cases e:j=k;·subst e;rw[<-C.o];exact fun e=>h e.symm
     ·exact hz.o j (by omega)⟩,by simp[intOf];omega⟩
  ·have u:¬(k:Int)<m:=(by omega);have I:=aA (show ¬a∈c from fun e=>by
    obtain⟨j,t,D⟩:=List.mem_iff_getElem.1 e;have r:=q.o;exact hz.o j (by omega) (by rw[ai,bo t];exact D))
   go_wp2_with fail;go_ret;exact⟨-1,rfl,⟨fun e=>by omega,fun e=>absurd e I.o⟩,rfl⟩
theorem zf7(v:Vl)(b:List Nat)(a:Nat)(ha:a<18446744073709551616)(hl:b.length<=4194305)(w:Wd)(d:M.Wds w v b):Calls prog 238 #[v,.int .u64 a] w fun e f=>e=.returned (.bool (decide (a∈b)))/\f=w:=by
 have c:=aA (zj6 v b a ha hl w d);clear d;go_enter func238,ntmps238;go_wp2_with fail;refine c.o.mono ?_;rintro e h ⟨i,rfl,hi,rfl⟩;have g:=aA hi;clear hi c;go_wp2_with fail;go_ret;exact⟨cN (decide_eq_decide.2 g.o),rfl⟩
theorem KT(bS n:Nat)(f:Nat->Nat):∀ k q p,(M.walkR bS n f k q p).length<=k
 | 0,_,_=>aj _
 | k+1,q,p=>by
  unfold M.walkR;split;·have:=KT bS n f k p (M.nx bS f p);simp;omega
  ·simp
theorem zj7{w x t}(h:BdAt w x t)(k:Nat):(ff x t k).length<=4194305:=by have a:=KT x.bS x.n t.f (x.n/16) 0 (t.hd k);have b:x.n<=4194304:=an h.sp.fk h.sp.cfg.lr;unfold ff;omega
def mL(x:Bx)(t:Bt)(p k:Nat):Bool:=kT t.m 0 (p:Int) (k:Int) && decide (ad x p∈ff x t k)
theorem GP(x:Bx)(t:Bt)(p k:Nat)(hp:p<=4000)(B:k<=x.o)(w:Wd)(h:BdAt w x t):Calls prog 207 #[.pointer (some ⟨x.b,0,none⟩),.int .i64 p,.int .i64 k] w fun e g=>e=.returned (.bool (mL x t p k))/\Kt nO w g:=by
 have H:=aA h;have j:=zj7 h k;have i:=aA (is_any x t 0 (p:Int) (k:Int) w h);have f:ad x p<18446744073709551616:=by have:=h.ie;unfold ad;omega
 have n:=aA (show ∀ W,BdAt W x t->Calls prog 210 #[.pointer (some ⟨x.b,0,none⟩),.int .i64 p] W fun e g=>e=.returned (.int .u64 ((ad x p:Nat):Int))/\g=W from fun W z=>lX x t p hp W z);obtain⟨b,hb⟩:=xe (kT t.m 0 (p:Int) (k:Int));obtain⟨a,ha⟩:=xe (ad x p);rw[<-ha] at f n;rw[<-hb] at i;rw[show mL x t p k=(b && decide (a∈ff x t k))by unfold mL;rw[<-hb,<-ha]];clear h hb ha
 cases b with
 | false=>go_enter func207,ntmps207;go_wp2_with fail;refine i.o.mono ?_;rintro e s ⟨rfl,c⟩;have K:=aA c;clear c;go_wp2_with fail;go_ret;exact⟨cN (by simp),K.o⟩
 | true=>go_enter func207,ntmps207;go_wp2_with fail;refine i.o.mono ?_;rintro e s ⟨rfl,c⟩;have K:=aA c;have l:=aA (H.o.dk c);clear c;go_wp2_with fail;refine(zlX x t k B _ l.o).mono ?_;rintro e C ⟨v,rfl,hL,hK,u⟩;have q:=aA (nT K.o hK);have y:=aA (l.o.dk hK);have r:=aA hL;clear hL hK u;go_wp2_with fail;refine(n.o _ y.o).mono ?_;rintro e A ⟨rfl,d⟩;rw[d];clear d;go_wp2_with fail;refine(zf7 v (ff x t k) a f j _ r.o.ot).mono ?_;rintro e A ⟨rfl,d⟩;rw[d];clear d;go_wp2_with fail;go_ret;exact⟨cN (by simp),q.o⟩
theorem UC(x:Bx)(t:Bt)(c:¬gJ x t\/(gJ x t/\mL x t (aN x) x.o=false))(w:Wd)(h:BdAt w x t):Calls prog 156 #[.pointer (some ⟨x.b,0,none⟩)] w fun e l=>e=.returned (.int .i64 9)/\Kt nO w l:=by
 have H:=aA h;rcases c with c|⟨c,hl⟩
 ·have f:=aA (QB x t c w h);clear h c;go_enter func156,ntmps156;go_wp2_with fail;refine f.o.mono ?_;rintro e m ⟨rfl,a⟩;have K:=aA a;clear a;go_wp2_with fail;go_ret;exact⟨rfl,K.o⟩
 ·have f:=aA (vX x t c w h);obtain⟨k,i⟩:=vV h c;obtain⟨p,hp⟩:=xe (aN x);rw[<-hp] at f k i hl;have g:=aA (fun W (q:BdAt W x t)=>GP x t p x.o (by omega) (aj _) W q);rw[hl] at g;clear h c hl hp i;go_enter func156,ntmps156;go_wp2_with fail;refine f.o.mono ?_;rintro e m ⟨rfl,a⟩;have K:=aA a;have j:=aA (H.o.dk a);clear a;go_wp2_with fail;refine(lY x t _ j.o).mono ?_;rintro e s ⟨rfl,d⟩;rw[d];clear d;go_wp2_with fail;refine(g.o _ j.o).mono ?_;rintro e r ⟨rfl,a⟩;have n:=aA (nT K.o a);clear a;go_wp2_with fail;go_ret;exact⟨rfl,n.o⟩
def uR(x:Bx)(t:Bt):Bt:=cP (cJ x t (aN x) x.o) (aN x) x.o 2
theorem zlY(x:Bx)(t:Bt)(J:gJ x t)(hl:mL x t (aN x) x.o=true)(R:iK x t (aN x) x.o=0)(w:Wd)(h:BdAt w x t):Calls prog 156 #[.pointer (some ⟨x.b,0,none⟩)] w fun e i=>e=.returned (.int .i64 0)/\BdAt i x (uR x t)/\Kt (aC x) w i:=by
 have H:=aA h;have ho:=h.o8;have N:=aA (vX x t J w h);obtain⟨h1,V⟩:=vV h J;rw[show uR x t=cP (cJ x t (aN x) x.o) (aN x) x.o 2 from rfl];obtain⟨p,hp⟩:=xe (aN x);rw[<-hp] at N h1 V hl R ⊢;have F:=aA (fun W (A:BdAt W x t)=>GP x t p x.o (by omega) (aj _) W A);rw[hl] at F;have j:=aA (show ∀ W,BdAt W x t->Calls prog 210 #[.pointer (some ⟨x.b,0,none⟩),.int .i64 p] W fun e i=>e=.returned (.int .u64 ((ad x p:Nat):Int))/\i=W from fun W A=>lX x t p (by omega) W A);have g:=aA (fun W (A:BdAt W x t)=>FW x t p x.o (by omega) (aj _) W A);rw[R] at g;obtain⟨a,ha⟩:=xe (ad x p);rw[<-ha] at j g;have a0:(x.o:Int)<((x.o+1:Nat):Int):=by omega
 have X:(x.o:Int)<x.o+1:=by omega
 have a1:(0:Int)<=(x.o:Int):=by omega
 have U:x.o<x.o+1:=by omega
 have a2:IntKind.i64.wrap (x.o:Int)=x.o:=by rw[cz];omega
 clear h J hl hp V ha R;go_enter func156,ntmps156;go_wp2_with fail;refine N.o.mono ?_;rintro e w1 ⟨rfl,n⟩;have K:=aA n;have D:=aA (H.o.dk n);clear n;go_wp2_with fail;refine(lY x t _ D.o).mono ?_;rintro e w2 ⟨rfl,u⟩;rw[u];clear u;go_wp2_with fail;refine(F.o _ D.o).mono ?_;rintro e E ⟨rfl,n⟩;have K3:=aA (nT K.o n);have Z:=aA (D.o.dk n);clear n F N;have d:=aA (Z.o.dk (kz E).drew);have z:=aA (lY x t E.drew d.o);have r:E.drew.cell? ⟨x.b,3,none⟩=some (.slice (some ⟨x.l,0,none⟩) (x.o+1) x.c):=d.o.b3;have C:=d.o.lc x.o (aj _);have I:=aA (nT K3.o (kz E).drew);go_wp2_with fail;go_region_held3 (fun i=>i.cell? ⟨x.b,3,none⟩=some (.slice (some ⟨x.l,0,none⟩) (x.o+1) x.c)/\i.cell? ⟨x.l,x.o,none⟩=some (.pointer (some ⟨x.L x.o,0,none⟩))) (first|with_reducible exact⟨r,C⟩|with_reducible exact⟨B,s⟩) (first|(go_at_call 208;refine z.o.mono ?_;rintro e q ⟨rfl,f⟩;rw[f];clear f)|(go_at_call 210;refine(j.o _ d.o).mono ?_;rintro e q ⟨rfl,f⟩;rw[f];clear f)|(go_at_call 209;refine(g.o _ d.o).mono ?_;rintro e q ⟨rfl,y,hK⟩;have T:=aA y;have K4:=aA (eQ (jD I.o) hK);have B:=T.o.b3;have s:=T.o.lc x.o (aj _);clear y hK))
 all_goals
  clear r C B s j g z d Z D;have k:=aA (T.o.dk (kz q).drew);have P:=aA (lY x _ q.drew k.o);have G:=k.o.b2;have Q:=aA (eQ K4.o (jD (kz q).drew));go_wp2_with fail;go_region_held3 (fun i=>i.cell? ⟨x.b,2,none⟩=some (.pointer (some ⟨x.m,0,none⟩))) (first|with_reducible exact G|with_reducible exact S) (first|(go_at_call 208;refine P.o.mono ?_;rintro e w5 ⟨rfl,v⟩;rw[v];clear v)|(go_at_call 175;refine(qM x _ p x.o 2 _ k.o).mono ?_;rintro e w5 ⟨rfl,y,hK⟩;have Y:=aA y;have K5:=aA (eQ Q.o hK);have S:=Y.o.b2;clear y hK))
  all_goals
   go_wp2_with fail;go_ret;exact⟨rfl,Y.o,K5.o⟩
def jC(x:Bx)(t:Bt):List Nat:=(List.range (x.o+1)).map t.hd
theorem zii(x:Bx)(t:Bt):(jC x t).length=x.o+1:=by simp[jC]
theorem zga{w:Wd}{g:Nat}{zs:List Nat}(hg:w.heap[g]?=some (.cells (bT zs) 22 (0,0)))(q y:Nat):(w.setCell ⟨g,q,none⟩ (.int .u64 y)).heap[g]?=some (.cells (bT (zs.set q y)) 22 (0,0)):=by rw[cD hg q (.int .u64 y)];simp[bT,List.map_set]
def kL(x:Bx)(t:Bt)(k:Nat):List Nat:=(List.range (x.o+1)).map fun j=>if j<k then t.hd j else 0
theorem zij(x:Bx)(t:Bt)(k:Nat):(kL x t k).set k (t.hd k)=kL x t (k+1):=by
 apply List.ext_getElem;·simp[kL]
 ·intro i a b;rw[List.getElem_set];simp only[kL,List.getElem_map,List.getElem_range];by_cases e:k=i
  ·subst e;rw[ae rfl,ae (by omega)]
  ·rw[ac e];by_cases h:i<k
   ·rw[ae h,ae (by omega)]
   ·rw[ac h,ac (by omega)]
theorem zj8(x:Bx)(t:Bt)(w:Wd)(h:BdAt w x t):Calls prog 34 #[.pointer (some ⟨x.b,0,none⟩)] w fun e v=>e=.returned (.slice (some ⟨w.heap.size,0,none⟩) (x.o+1) (x.o+1))/\v.heap[w.heap.size]?=some (.cells (bT (jC x t)) 22 (0,0))/\Kt nO w v:=by
 have K:=h.o8;have c3:=h.b3;have H:=aA h;obtain⟨N,l⟩:=xe (x.o+1);have I:((x.o:Int)+1)=(N:Int):=by omega
 rw[<-l] at c3 ⊢;obtain⟨A,m,g,c,r⟩:=wG N (by omega) w;have B:=aA (show A.heap[w.heap.size]?=some (.cells (bT (kL x t 0)) 22 (0,0))/\Kt nO w A from⟨by rw[g,l];simp[kL,eS,List.map_const'],c⟩);have y:=aA l;have q:=c.cell (fun x=>x) c3;clear h g c r l;go_enter func34,ntmps34;go_wp2_with fail;go_loopw [17] (fun i W=>∃ k:Nat,k<=N/\i=.int .i64 k/\Hd (W.heap[w.heap.size]?=some (.cells (bT (kL x t k)) 22 (0,0))/\Kt nO w W)) (fun i _=>N-(intOf i).toNat)
 case atStart=>exact⟨0,by omega,rfl,B⟩
 case round=>
  clear m q B c3;obtain⟨k,Q,rfl,a⟩:=hrel;by_cases G:k<N
  ·have n:(k:Int)<N:=(by omega);have f:k<=x.o:=(by have:=y.o;omega);have z:=aA (H.o.dk a.o.2);have cl:=z.o.lc k f;have E:=aA (M.Head_any (x.L k) x.s (t.hd k) wr (z.o.ls k f));have J:∀ j,wr.frozen? ⟨w.heap.size,j,none⟩=false:=fun j=>by simp[World.frozen?,a.o.1]
   have R:wr.cell? ⟨w.heap.size,k,none⟩=some (.int .u64 0):=by simp[World.cell?,a.o.1,bT,kL,show k<x.o+1 by omega]
   have F:=aA (show(wr.setCell ⟨w.heap.size,k,none⟩ (.int .u64 (t.hd k:Int))).heap[w.heap.size]?=some (.cells (bT (kL x t (k+1))) 22 (0,0))/\Kt nO w (wr.setCell ⟨w.heap.size,k,none⟩ (.int .u64 (t.hd k:Int)))from⟨by rw[zga a.o.1,zij],a.o.2.em (p:=⟨w.heap.size,k,none⟩) (fun e=>absurd e (de _)) _⟩);go_wp2_with fail;refine E.o.mono ?_;rintro e P ⟨rfl,d⟩;rw[d];clear d;go_wp2_with fail;exact⟨⟨k+1,by omega,by simp,F⟩,by simp[intOf];omega⟩
  ·have n:¬(k:Int)<N:=(by omega);have D:=aA (show wr.heap[w.heap.size]?=some (.cells (bT (jC x t)) 22 (0,0))/\Kt nO w wr from⟨by
    rw[a.o.1];have u:k=x.o+1:=(by have:=y.o;omega);have:kL x t k=jC x t:=by
     rw[u];unfold kL jC;apply List.map_congr_left
     intro j C;rw[ae (List.mem_range.1 C)]
    rw[this],a.o.2⟩)
   clear a;go_wp2_with fail;go_ret;exact⟨rfl,D.o⟩
end Go.Proofs.YtfmgnljlkdmndaaGreatDoor
