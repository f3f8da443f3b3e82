import Derived.Test.YtfmgnljlkdmndaaGreatDoorWc
import Derived.Test.YtfmgnljlkdmndaaGreatDoorXi
set_option maxRecDepth 1000000
set_option maxHeartbeats 0
namespace Go.Proofs.YtfmgnljlkdmndaaGreatDoor
open Tryz RowKit
set_option linter.unusedVariables false
def uP(x:Bx)(ls:List (Nat×Nat))(S:Sb)(p a z:Nat)(l:Bool):Prop:=(l=true/\a=p/\aR x ls S p z)\/(l=false/\∀ c,¬aR x ls S p c)
theorem XZ(n m k:Nat)(W:Wd)(d:(n:Int)/16=(m:Int))(f:n<=1048576)(b:Calls prog 116 #[.int .u64 m] W fun e a=>e=.returned (.int .i64 k)/\a=W):Calls prog 108 #[.int .u64 n] W fun e a=>e=.returned (.int .i64 k)/\a=W:=by have L:=aA b;clear b;go_enter func108,ntmps108;go_wp2_with fail;refine L.o.mono ?_;rintro e c ⟨rfl,rfl⟩;go_wp2_with fail;go_ret;exact⟨rfl,rfl⟩
theorem XY(k:Nat)(c:k<8)(W:Wd):Calls prog 108 #[.int .u64 ((aB k:Nat):Int)] W fun e b=>e=.returned (.int .i64 k)/\b=W:=by have hp : 2 ^ k<=2 ^ 8:=bj (by decide) (by omega);have a:=pV (2 ^ k) (by omega) W;rw[oN _ (Nat.ne_of_gt (ap (by decide))),Nat.log2_two_pow] at a;exact XZ _ (2 ^ k) k W (by unfold aB;omega) (by unfold aB;omega) a
theorem XV(n m k:Nat)(W:Wd)(d:(n:Int)/4096=(m:Int))(f:n<=1048576)(b:Calls prog 116 #[.int .u64 m] W fun e a=>e=.returned (.int .i64 k)/\a=W):Calls prog 66 #[.int .u64 n] W fun e a=>e=.returned (.int .i64 k)/\a=W:=by have L:=aA b;clear b;go_enter func66,ntmps66;go_wp2_with fail;refine L.o.mono ?_;rintro e c ⟨rfl,rfl⟩;go_wp2_with fail;go_ret;exact⟨rfl,rfl⟩
theorem sS(k:Nat)(c:k<=8)(W:Wd):Calls prog 66 #[.int .u64 ((4096*2 ^ k:Nat):Int)] W fun e b=>e=.returned (.int .i64 k)/\b=W:=by have hp : 2 ^ k<=2 ^ 8:=bj (by decide) (by omega);have a:=pV (2 ^ k) (by omega) W;rw[oN _ (Nat.ne_of_gt (ap (by decide))),Nat.log2_two_pow] at a;exact XV _ (2 ^ k) k W (by skip;omega) (by skip;omega) a
section
variable {w W W':Wd} {hb sb lw:Nat} {x:Bx} {t:Bt} {fr:Nat->List Nat} {ls:List (Nat×Nat)} {S:Sb} {s:Int}
theorem jA.st(H:HW w W hb sb lw x t fr ls S s){p a z:Nat}(h:jA x ls S p a z true):(a=p/\aR x ls S p z)\/(a≠p/\∀ c,¬aR x ls S p c):=by
 obtain⟨f,o⟩:=H.so;rcases h with ⟨_,b,i,g⟩|⟨b,_⟩
 ·by_cases e:a=p
  ·subst e;exact .inl ⟨rfl,b⟩
  ·refine .inr ⟨e,fun c hc=>?_⟩;have:=(o.span hc).1;rcases o.two b hc with ⟨d,_⟩|d|d <;> omega
 ·cases b
theorem jA.no(H:HW w W hb sb lw x t fr ls S s){p a z:Nat}(h:jA x ls S p a z false):∀ c,¬aR x ls S p c:=by
 obtain⟨d,o⟩:=H.so;rcases h with ⟨b,_⟩|⟨_,b⟩
 ·cases b
 ·intro c hc;have:=(o.span hc).1;exact b p c hc ⟨aj _,by omega⟩
theorem ID(H:HW w W hb sb lw x t fr ls S s)(p:Nat)(hp:p<18446744073709551616):Calls prog 63 #[.pointer (some ⟨hb,0,none⟩),.int .u64 p] W fun e v=>∃ a z l,e=.returned (.tuple #[jJ a z,.bool l])/\uP x ls S p a z l/\Kt nO W v:=by
 have g:=aA ((kz W).alloc pG);have d:=aA (show(W.alloc pG).heap[W.heap.size]?=some (bY 0 0)from nH W pG);have j:=aA (JI (H.dk g.o) p hp);have q:=aA H;clear H;go_enter func63,ntmps63;go_wp2_with fail;refine j.o.mono ?_;rintro e o ⟨a,z,l,rfl,i,b⟩;have C:=aA (nT g.o (b.alloc (bY a z)));have A:=aA (nH o (bY a z));have B:=aA (show(o.alloc (bY a z)).heap[W.heap.size]?=some (bY 0 0)from((b.alloc (bY a z)).block _ (lH d.o) id).trans d.o);have D:=aA (fun m=>pP (C.o.drewN m) (y:=W.heap.size) (fun e=>absurd e (de _)) (.int .u64 a) (.int .u64 z));have r:o.heap.size≠W.heap.size:=by have u:=b.size;rw[World.size_alloc] at u;omega
 obtain⟨n,k,J⟩:=fQ B.o;obtain⟨I,G,F⟩:=fQ A.o
 cases l with
 | true=>
  rcases jA.st q.o i with ⟨f,c⟩|⟨f,c⟩
  ·have ST:=aA (show uP x ls S p a z true from .inl ⟨rfl,f,c⟩);have E:((a:Int) == (p:Int))=true:=(by rw[cu,f]);clear i f c b j g d;go_wp2_with fail;go_region
   all_goals
    go_wp2_with fail;exact⟨rfl,.tuple #[jJ a z,.bool true],by simp[results,results63,go_sem,n,k],a,z,true,rfl,ST.o,D.o _⟩
  ·have ST:=aA (show uP x ls S p a z false from .inr ⟨rfl,c⟩);have E:((a:Int) == (p:Int))=false:=(by rw[ag];omega);clear i f c b j g d;go_wp2_with fail;go_region
   all_goals
    go_wp2_with fail;exact⟨rfl,.tuple #[jJ a z,.bool false],by simp[results,results63,go_sem,n,k],a,z,false,rfl,ST.o,D.o _⟩
 | false=>
  have ST:=aA (show uP x ls S p a z false from .inr ⟨rfl,jA.no q.o i⟩);clear i b j g d;go_wp2_with fail;go_region
  all_goals
   go_wp2_with fail;exact⟨rfl,.tuple #[jJ a z,.bool false],by simp[results,results63,go_sem,n,k],a,z,false,rfl,ST.o,D.o _⟩
def cX(o m:Nat):Bool:=decide (cl m<=12+o)
theorem vY{o m:Nat}(d : 16<=m)(h:cX o m=true):(∃ k,k<8/\2 ^ cl m=aB k)\/(∃ k,k<=o/\2 ^ cl m=4096*2 ^ k):=by
 have h:=bw h;have c : 4<=cl m:=by
  refine Nat.le_of_not_lt fun b=>?_
  have:=(EA m 3).2 (by omega);omega
 by_cases a:cl m<12
 ·refine .inl ⟨cl m-4,by omega,?_⟩;unfold aB;rw[show(16:Nat)=2 ^ 4 from rfl,<-Nat.pow_add];congr 1
  omega
 ·refine .inr ⟨cl m-12,by omega,?_⟩;rw[show(4096:Nat)=2 ^ 12 from rfl,<-Nat.pow_add];congr 1
  omega
end
theorem xQ(W:Wd)(hb sz al g r L:Nat)(hs:sz<18446744073709551616)(ha:al<18446744073709551616)(m:Nat)(n:m=max (max sz al) 16)(cv c d:Int)(b:Bool)(hz:(cv=(r:Int)/\b=true/\r<18446744073709551616/\¬(L:Int)<r/\c=(r:Int)/\d=0)\/(cv=(r:Int)/\b=true/\r<18446744073709551616/\(L:Int)<r/\c=0/\d=3)\/(cv=0/\b=false/\c=0/\d=3))(c4:W.cell? ⟨hb,4,none⟩=some (.int .i64 g))(l:Hd (Calls prog 106 #[.int .u64 m] W fun e j=>e=.returned (.tuple #[.int .u64 cv,.bool b])/\j=W))(q:g<=8)(hL:(4096:Int)*2 ^ g=(L:Int))(o:L<=1048576):Calls prog 60 #[.pointer (some ⟨hb,0,none⟩),.int .u64 sz,.int .u64 al] W fun e j=>e=.returned (.tuple #[.int .u64 c,.int .i64 d])/\j=W:=by
 have p:((sz:Int)<al/\(al:Int)<16/\(m:Int)=16)\/((sz:Int)<al/\¬(al:Int)<16/\(m:Int)=al)\/(¬(sz:Int)<al/\(sz:Int)<16/\(m:Int)=16)\/(¬(sz:Int)<al/\¬(sz:Int)<16/\(m:Int)=sz):=by omega
 rcases p with ⟨f,i,a⟩|⟨f,i,a⟩|⟨f,i,a⟩|⟨f,i,a⟩
 all_goals
  rw[a] at l;clear a n;rcases hz with ⟨rfl,rfl,u,k,rfl,rfl⟩|⟨rfl,rfl,u,k,rfl,rfl⟩|⟨rfl,rfl,rfl,rfl⟩
  all_goals
   go_enter func60,ntmps60;go_wp2_with fail;refine l.o.mono ?_;rintro e v ⟨rfl,rfl⟩;go_wp2_with fail;go_ret2;exact⟨rfl,rfl⟩
section
variable {w W W':Wd} {hb sb lw:Nat} {x:Bx} {t:Bt} {fr:Nat->List Nat} {ls:List (Nat×Nat)} {S:Sb} {s:Int}
theorem xP(H:HW w W hb sb lw x t fr ls S s)(sz al:Nat)(hs:sz<18446744073709551616)(ha:al<18446744073709551616)(m:Nat)(q:m=max (max sz al) 16):Calls prog 60 #[.pointer (some ⟨hb,0,none⟩),.int .u64 sz,.int .u64 al] W fun e v=>e=.returned (.tuple #[.int .u64 ((if cX x.o m=true then 2 ^ cl m else 0:Nat):Int),.int .i64 (if cX x.o m=true then 0 else 3)])/\v=W:=by
 have n1:=H.po.en.1;have c4:=H.c.2.2.2.1;have u:m<18446744073709551616:=by omega
 have j:=WY m u W;obtain⟨L,hL⟩:=xe (4096*2 ^ x.o);have k:(4096:Int)*2 ^ x.o=(L:Int):=by rw[hL];simp
 have i:L<=1048576:=by have : 2 ^ x.o<=2 ^ 8:=bj (by decide) n1;omega
 have g:L=2 ^ (12+x.o):=by rw[hL,Nat.pow_add]
 by_cases eN:cl m<64
 ·have n:lD 64 m=2 ^ cl m:=by unfold lD;rw[ae eN]
  have a:pL 64 m=true:=af eN;have f : 2 ^ cl m<18446744073709551616:=by have:=(iG (cl m) 64).2 eN;omega
  rw[n,a] at j;have b:=mM (cl m) (12+x.o);rw[<-g] at b
  cases l:cX x.o m with
  | true=>have d:=b.2 (bw l);rw[ae rfl,ae rfl];obtain⟨r,p⟩:=xe (2 ^ cl m);rw[<-p] at j d f ⊢;clear b n a g p l eN;exact xQ W hb sz al x.o r L hs ha m q _ _ _ _ (.inl ⟨rfl,rfl,f,by omega,rfl,rfl⟩) c4 j n1 k i
  | false=>
   have d:=fun e=>of_decide_eq_false l (b.1 e)
   rw[ac (by decide),ac (by decide)];obtain⟨r,p⟩:=xe (2 ^ cl m);rw[<-p] at j d f;clear b n a g p l eN;exact xQ W hb sz al x.o r L hs ha m q _ _ _ _ (.inr (.inl ⟨rfl,rfl,f,by have:=Nat.lt_of_not_le d;omega,rfl,rfl⟩)) c4 j n1 k i
 ·have n:lD 64 m=0:=by unfold lD;rw[ac eN]
  have a:pL 64 m=false:=ah eN;rw[n,a] at j;have l:cX x.o m=false:=ah (by omega);rw[l,ac (by decide),ac (by decide)];exact xQ W hb sz al x.o 0 L hs ha m q _ _ _ _ (.inr (.inr ⟨rfl,rfl,rfl,rfl⟩)) c4 j n1 k i
end
theorem SO.jz{w W sb lw x t fr ls S h}(s:SO w W sb lw x t fr ls S h){y:Nat}{cs:Array Vl}{z:Nat×Nat}(hy:W.heap[y]?=some (.cells cs 73 z)):¬bM x sb y:=by
 rintro (e|e);·exact absurd (s.sw.pl.pty hy (.inl e)) (by unfold Go.Proofs.YtfmgnljlkdmndaaGreatDoor.pty;decide)
 ·subst e;exact absurd (kM hy s.sw.bx) (by decide)
section
variable {w W W1 W':Wd} {hb sb lw:Nat} {x:Bx} {t:Bt} {fr:Nat->List Nat} {ls:List (Nat×Nat)} {S:Sb} {s:Int}
theorem Nx.from{x' t' fr' eF S'}(k:Kt nO W W1)(h:Nx w W1 W' hb sb lw x t ls S s x' t' fr' eF S'):Nx w W W' hb sb lw x t ls S s x' t' fr' eF S':=
 ⟨h.H,h.ch,(k.mono (fun _ _ e=>e.elim)).trans h.kp (fun _ _ e=>e) (fun _ _ e=>e),fun y hy=>(h.ns y hy).imp id (an k.size)⟩
theorem Tq.from{r:Nat}{d:Bool}{p:Nat}{g:Int}(k:Kt nO W W1)(h:Tq w W1 hb sb lw x t fr ls S s r d p g W'):Tq w W hb sb lw x t fr ls S s r d p g W':=by
 cases h with
 | no hp he o hd kp=>exact .no hp he o hd (nT k kp)
 | yes x' l f e q b he i nx hL n m j c a=>exact .yes x' l f e q b he i (nx.from k) hL n m j c a
theorem Gq.from{p z:Nat}(k:Kt nO W W1)(h:Gq w W1 hb sb lw x t fr ls S s p z W'):Gq w W hb sb lw x t fr ls S s p z W':=by obtain⟨x',d,a,b,c,e,nx,hL,f⟩:=h;exact⟨x',d,a,b,c,e,nx.from k,hL,f⟩
theorem Tq.st{r:Nat}{d:Bool}{p:Nat}{g:Int}(H:HW w W hb sb lw x t fr ls S s)(h:Tq w W hb sb lw x t fr ls S s r d p g W'):∃ x' e c a f,HW w W' hb sb lw x' e c a f s:=by
 cases h with
 | no hp he j hd kp=>exact⟨_,_,_,_,_,H.dk kp⟩
 | yes x' e c a f b he i nx=>exact⟨_,_,_,_,_,nx.H⟩
theorem Tq.c{r:Nat}{d:Bool}{p:Nat}{b:Int}(H:HW w W hb sb lw x t fr ls S s)(h:Tq w W hb sb lw x t fr ls S s r d p b W'):W'.cell? ⟨hb,5,none⟩=some (.pointer (some ⟨lw,0,none⟩))/\W'.cell? ⟨hb,6,none⟩=some (.pointer (some ⟨sb,0,none⟩)):=by obtain⟨x',i,e,f,g,a⟩:=h.st H;exact⟨a.c.2.2.2.2.1,a.c.2.2.2.2.2⟩
theorem zgb(H:HW w W hb sb lw x t fr ls S s){k:Nat}(i:k<8)(d:Bool):Calls prog 61 #[.pointer (some ⟨hb,0,none⟩),.int .u64 ((aB k:Nat):Int),.bool d] W fun e b=>∃ p a,e=.returned (.tuple #[.int .u64 ((p:Nat):Int),.int .i64 a])/\Tq w W hb sb lw x t fr ls S s (aB k) d p a b:=by
 have hz:=cM i;obtain⟨c0,c2,c3,c4,c5,u⟩:=H.c;have n:=aA ((kz W).drew);have l:=aA (XY k i);have o:=aA (((H.dk n.o).ip i d).mono fun e b h=>(show ∃ p g a,e=rE p g a/\Tq w W hb sb lw x t fr ls S s (aB k) d p a b from by obtain⟨p,g,a,he,f⟩:=h;exact⟨p,g,a,he,f.from n.o⟩))
 have m:=aA (fun (b:Wd) (p:Nat) (a:Int) (h:Tq w W hb sb lw x t fr ls S s (aB k) d p a b)=>h.c H);obtain⟨r,q⟩:=xe (aB k);rw[<-q] at hz l o m ⊢;have z:(r:Int)<4096:=by omega
 have A:W.drew.cell? ⟨hb,5,none⟩=some (.pointer (some ⟨lw,0,none⟩)):=c5;have y:W.drew.cell? ⟨hb,6,none⟩=some (.pointer (some ⟨sb,0,none⟩)):=u;clear H q i hz;go_enter func61,ntmps61;go_wp2_with fail;go_region_held3 (fun b=>b.cell? ⟨hb,6,none⟩=some (.pointer (some ⟨sb,0,none⟩))) (first|with_reducible exact y|with_reducible exact v) (first
  | (go_at_call 108;(with_reducible refine(l.o _).mono ?_);rintro e C ⟨rfl,j⟩;replace j:=j.symm;subst j)
  | (go_at_call 107;(with_reducible refine(o.o).mono ?_);rintro e B ⟨p,g,a,rfl,f⟩;have v:=(m.o _ _ _ f).2;have D:=aA f;clear f)
  | fail)
 all_goals
  go_wp2_with fail;exact⟨rfl,.tuple #[.int .u64 ((p:Nat):Int),.int .i64 a],by simp[results,results61,go_sem],p,a,rfl,D.o⟩
theorem zik(H:HW w W hb sb lw x t fr ls S s){k:Nat}(j:k<=x.o)(d:Bool):Calls prog 61 #[.pointer (some ⟨hb,0,none⟩),.int .u64 ((4096*2 ^ k:Nat):Int),.bool d] W fun e b=>∃ p a,e=.returned (.tuple #[.int .u64 ((p:Nat):Int),.int .i64 a])/\Tq w W hb sb lw x t fr ls S s (4096*2 ^ k) d p a b:=by
 have hz : 0<2 ^ k:=ap (by decide);have i:k<=8:=an j H.po.en.1;obtain⟨c0,c2,c3,c4,c5,C⟩:=H.c;have q:=aA ((kz W).drew);have m:=aA (sS k i);have u:=aA (((H.dk q.o).jm j d).mono fun e b h=>(show ∃ p g a,e=rE p g a/\Tq w W hb sb lw x t fr ls S s (4096*2 ^ k) d p a b from by obtain⟨p,g,a,he,f⟩:=h;exact⟨p,g,a,he,f.from q.o⟩))
 have n:=aA (fun (b:Wd) (p:Nat) (a:Int) (h:Tq w W hb sb lw x t fr ls S s (4096*2 ^ k) d p a b)=>h.c H);obtain⟨r,v⟩:=xe (4096*2 ^ k);have y:¬r<4096:=by omega
 rw[<-v] at m u n ⊢;have B:¬(r:Int)<4096:=by omega
 have z:W.drew.cell? ⟨hb,5,none⟩=some (.pointer (some ⟨lw,0,none⟩)):=c5;clear H v j hz i;go_enter func61,ntmps61;go_wp2_with fail;go_region_held3 (fun b=>b.cell? ⟨hb,5,none⟩=some (.pointer (some ⟨lw,0,none⟩))) (first|with_reducible exact z|with_reducible exact A) (first
  | (go_at_call 66;(with_reducible refine(m.o _).mono ?_);rintro e F ⟨rfl,l⟩;replace l:=l.symm;subst l)
  | (go_at_call 109;(with_reducible refine(u.o).mono ?_);rintro e E ⟨p,g,a,rfl,f⟩;have A:=(n.o _ _ _ f).1;have D:=aA f;clear f)
  | fail)
 all_goals
  go_wp2_with fail;exact⟨rfl,.tuple #[.int .u64 ((p:Nat):Int),.int .i64 a],by simp[results,results61,go_sem],p,a,rfl,D.o⟩
theorem vF(H:HW w W hb sb lw x t fr ls S s)(r:Nat)(f:(∃ k,k<8/\r=aB k)\/(∃ k,k<=x.o/\r=4096*2 ^ k))(d:Bool):Calls prog 61 #[.pointer (some ⟨hb,0,none⟩),.int .u64 r,.bool d] W fun e c=>∃ p b,e=.returned (.tuple #[.int .u64 ((p:Nat):Int),.int .i64 b])/\Tq w W hb sb lw x t fr ls S s r d p b c:=by
 rcases f with ⟨k,a,rfl⟩|⟨k,a,rfl⟩
 ·exact zgb H a d
 ·exact zik H a d
theorem Gq.c{p z:Nat}(h:Gq w W hb sb lw x t fr ls S s p z W'):W'.cell? ⟨hb,5,none⟩=some (.pointer (some ⟨lw,0,none⟩))/\W'.cell? ⟨hb,6,none⟩=some (.pointer (some ⟨sb,0,none⟩)):=by obtain⟨x',e,a,b,d,f,nx,hL,g⟩:=h;exact⟨nx.H.c.2.2.2.2.1,nx.H.c.2.2.2.2.2⟩
theorem Gq.box{p z y a c:Nat}(H:HW w W hb sb lw x t fr ls S s)(h:Gq w W hb sb lw x t fr ls S s p z W')(hy:W.heap[y]?=some (bY a c)):W'.heap[y]?=some (bY a c):=by obtain⟨g,o⟩:=H.so;obtain⟨x',e,d,b,j,i,nx,hL,f⟩:=h;exact(nx.kp.block _ (lH hy) (o.jz hy)).trans hy
theorem zgK(H:HW w W hb sb lw x t fr ls S s){p g k i:Nat}(f:iY x S p g k i):Calls prog 64 #[.pointer (some ⟨hb,0,none⟩),jJ p (aB k)] W fun e a=>e=.returned (.int .i64 0)/\Gq w W hb sb lw x t fr ls S s p (aB k) a:=by
 have v:k<8:=by obtain⟨K,o⟩:=H.so;exact(o.si.pg g k f.1).1
 have hz:=cM v;have j:=aA ((kz W).alloc (bY p (aB k)));have b:=aA (nT j.o (kz _).drew);have d:=aA (show(W.alloc (bY p (aB k))).drew.heap[W.heap.size]?=some (bY p (aB k))from nH W (bY p (aB k)));obtain⟨c0,c2,c3,c4,c5,y⟩:=(H.dk j.o).c;obtain⟨k0,N,G,J,E,n⟩:=(H.dk b.o).c;obtain⟨l,A,L⟩:=fQ d.o;obtain⟨B,z,I⟩:=fQ (show(W.alloc (bY p (aB k))).heap[W.heap.size]?=some (bY p (aB k))from nH W (bY p (aB k)));have m:=aA (((H.dk b.o).jc f).mono fun e a h=>(show e=.returned (.int .i64 0)/\Gq w W hb sb lw x t fr ls S s p (aB k) a/\(a.cell? ⟨hb,6,none⟩=some (.pointer (some ⟨sb,0,none⟩))/\a.cell? ⟨W.heap.size,0,none⟩=some (.int .u64 p))from
  ⟨h.1,h.2.from b.o,h.2.c.2,(fQ (h.2.box (H.dk b.o) d.o)).1⟩))
 obtain⟨r,q⟩:=xe (aB k);rw[<-q] at hz j b d c5 y E n l A B z m ⊢;have F:(r:Int)<4096:=by omega
 clear H q v hz f;go_enter func64,ntmps64;go_wp2_with fail;go_region_held3 (fun a=>a.cell? ⟨hb,6,none⟩=some (.pointer (some ⟨sb,0,none⟩))/\a.cell? ⟨W.heap.size,0,none⟩=some (.int .u64 p)) (first|with_reducible exact⟨n,l⟩|with_reducible exact C) (first
  | (go_at_call 112;(with_reducible refine(m.o).mono ?_);rintro e P ⟨rfl,u,C⟩;have D:=aA u;clear u)
  | fail)
 all_goals
  go_wp2_with fail;go_ret;exact⟨rfl,D.o⟩
theorem zgc(H:HW w W hb sb lw x t fr ls S s){p q k:Nat}(g:(q,k)∈ls)(hc:S.c q=none)(hp:p=ad x q):Calls prog 64 #[.pointer (some ⟨hb,0,none⟩),jJ p (4096*2 ^ k)] W fun e a=>e=.returned (.int .i64 0)/\Gq w W hb sb lw x t fr ls S s p (4096*2 ^ k) a:=by
 have d:k<=8:=by obtain⟨N,o⟩:=H.so;exact an (o.al g).1 o.po.en.1
 have hz : 0<2 ^ k:=ap (by decide);have l:=aA (sS k d);have i:=aA ((kz W).alloc (bY p (4096*2 ^ k)));have b:=aA (nT i.o (kz _).drew);have f:=aA (show(W.alloc (bY p (4096*2 ^ k))).drew.heap[W.heap.size]?=some (bY p (4096*2 ^ k))from nH W (bY p (4096*2 ^ k)));obtain⟨c0,c2,c3,c4,c5,A⟩:=(H.dk i.o).c;obtain⟨k0,Q,J,L,v,G⟩:=(H.dk b.o).c;obtain⟨n,m,P⟩:=fQ f.o;obtain⟨C,B,K⟩:=fQ (show(W.alloc (bY p (4096*2 ^ k))).heap[W.heap.size]?=some (bY p (4096*2 ^ k))from nH W (bY p (4096*2 ^ k)));have u:=aA (((H.dk b.o).ir g hc hp).mono fun e a h=>(show e=.returned (.int .i64 0)/\Gq w W hb sb lw x t fr ls S s p (4096*2 ^ k) a/\(a.cell? ⟨hb,5,none⟩=some (.pointer (some ⟨lw,0,none⟩))/\a.cell? ⟨W.heap.size,0,none⟩=some (.int .u64 p)/\a.cell? ⟨W.heap.size,1,none⟩=some (.int .u64 ((4096*2 ^ k:Nat):Int)))from
  ⟨h.1,h.2.from b.o,h.2.c.1,(fQ (h.2.box (H.dk b.o) f.o)).1,(fQ (h.2.box (H.dk b.o) f.o)).2.1⟩))
 obtain⟨r,y⟩:=xe (4096*2 ^ k);have E:¬r<4096:=by omega
 rw[<-y] at l i b f c5 A v G n m C B u ⊢;have I:¬(r:Int)<4096:=by omega
 clear H y hz g hc hp d;go_enter func64,ntmps64;go_wp2_with fail;go_region_held3 (fun a=>a.cell? ⟨hb,5,none⟩=some (.pointer (some ⟨lw,0,none⟩))/\a.cell? ⟨W.heap.size,0,none⟩=some (.int .u64 p)/\a.cell? ⟨W.heap.size,1,none⟩=some (.int .u64 r)) (first|with_reducible exact⟨v,n,m⟩|with_reducible exact F) (first
  | (go_at_call 66;(with_reducible refine(l.o _).mono ?_);rintro e R ⟨rfl,j⟩;replace j:=j.symm;subst j)
  | (go_at_call 113;(with_reducible refine(u.o).mono ?_);rintro e T ⟨rfl,z,F⟩;have D:=aA z;clear z)
  | fail)
 all_goals
  go_wp2_with fail;go_ret;exact⟨rfl,D.o⟩
theorem CX(H:HW w W hb sb lw x t fr ls S s){p z:Nat}(hl:aR x ls S p z):Calls prog 64 #[.pointer (some ⟨hb,0,none⟩),jJ p z] W fun e a=>e=.returned (.int .i64 0)/\Gq w W hb sb lw x t fr ls S s p z a:=by
 rcases hl with ⟨g,k,i,b,rfl⟩|⟨q,k,c,hc,hp,rfl⟩
 ·exact zgK H b
 ·exact zgc H c hc hp
inductive Rq8(w W:Wd)(hb sb lw:Nat)(x:Bx)(t:Bt)(fr:Nat->List Nat)(ls:List (Nat×Nat))(S:Sb)(s:Int)(m:Nat)(d:Bool)(p:Nat)(er:Int)(w':Wd):Prop where
 | big (ho:cX x.o m=false) (hp:p=0) (he:er=3) (kp:Kt nO W w')
 | ok (ho:cX x.o m=true) (hT:Tq w W hb sb lw x t fr ls S s (2 ^ cl m) d p er w')
theorem Rq8.st{m d p er}(H:HW w W hb sb lw x t fr ls S s)(h:Rq8 w W hb sb lw x t fr ls S s m d p er W'):∃ x' g a b e,HW w W' hb sb lw x' g a b e s:=by
 cases h with
 | big f hp he kp=>exact⟨_,_,_,_,_,H.dk kp⟩
 | ok f c=>exact c.st H
theorem wK(H:HW w W hb sb lw x t fr ls S s)(sz al:Nat)(hs:sz<18446744073709551616)(ha:al<18446744073709551616)(d:Bool)(m:Nat)(g:m=max (max sz al) 16):Calls prog 57 #[.pointer (some ⟨hb,0,none⟩),.int .u64 sz,.int .u64 al,.bool d] W fun e i=>∃ p a,e=.returned (.tuple #[.int .u64 ((p:Nat):Int),.int .i64 a])/\Rq8 w W hb sb lw x t fr ls S s m d p a i:=by
 have c:=aA (xP H sz al hs ha m g);have l:=aA H
 cases ho:cX x.o m with
 | false=>rw[ho] at c;rw[ac (by decide),ac (by decide)] at c;have D:=aA (show Rq8 w W hb sb lw x t fr ls S s m d 0 3 W from .big ho rfl rfl (Kt.refl _ _));clear H ho g;go_enter func57,ntmps57;go_wp2_with fail;refine c.o.mono ?_;rintro e j ⟨rfl,b⟩;replace b:=b.symm;subst b;go_wp2_with fail;exact⟨rfl,.tuple #[.int .u64 ((0:Nat):Int),.int .i64 3],by simp[results,results57,go_sem],0,3,rfl,D.o⟩
 | true=>
  rw[ho] at c;rw[ae rfl,ae rfl] at c;have k:=aA ((vF H (2 ^ cl m) (vY (by omega) ho) d).mono fun e i h=>(show ∃ p a,e=.returned (.tuple #[.int .u64 ((p:Nat):Int),.int .i64 a])/\Rq8 w W hb sb lw x t fr ls S s m d p a i from by obtain⟨p,a,he,f⟩:=h;exact⟨p,a,he,.ok ho f⟩))
  generalize 2 ^ cl m=r at *;clear H ho g;go_enter func57,ntmps57;go_wp2_with fail;refine c.o.mono ?_;rintro e j ⟨rfl,b⟩;replace b:=b.symm;subst b;go_wp2_with fail;refine k.o.mono ?_;rintro e n ⟨p,a,rfl,f⟩;have D:=aA f;clear f;go_wp2_with fail;exact⟨rfl,.tuple #[.int .u64 ((p:Nat):Int),.int .i64 a],by simp[results,results57,go_sem],p,a,rfl,D.o⟩
end
open Go.MuLone
abbrev eI(W:Wd)(hb:Nat):Wd:=W.setCell ⟨hb,0,none⟩ (.int .i32 1)
abbrev eJ(W:Wd)(hb:Nat):Wd:=W.setCell ⟨hb,0,none⟩ (.int .i32 0)
section
variable {w W W1 W':Wd} {hb sb lw:Nat} {x:Bx} {t:Bt} {fr:Nat->List Nat} {ls:List (Nat×Nat)} {S:Sb} {s:Int}
theorem HW.in(H:HW w W hb sb lw x t fr ls S 0):HW w (eI W hb) hb sb lw x t fr ls S 1:=(H.set 1).1
theorem HW.ft(H:HW w W hb sb lw x t fr ls S 0)(k:Kt nO (eI W hb) W'):Kt nO W (eJ W' hb):=H.round id k (H.in.dk k) rfl rfl rfl
theorem Nx.o{x' t' fr' eF S'}(H:HW w W hb sb lw x t fr ls S 0)(n:Nx w (eI W hb) W' hb sb lw x t ls S 1 x' t' fr' eF S'):Nx w W (eJ W' hb) hb sb lw x t ls S 0 x' t' fr' eF S':=
 ⟨(n.H.set 0).1,n.ch,H.round H.ms n.kp n.H n.ch.bS n.ch.dl n.ch.o,fun y hy=>(n.ns y hy).imp id (fun e=>by simpa using e)⟩
theorem Tq.o{r d p er}(H:HW w W hb sb lw x t fr ls S 0)(h:Tq w (eI W hb) hb sb lw x t fr ls S 1 r d p er W'):Tq w W hb sb lw x t fr ls S 0 r d p er (eJ W' hb):=by
 cases h with
 | no hp he m hd kp=>exact .no hp he m hd (H.ft kp)
 | yes x' j f e n b he g nx hL l k i c a=>exact .yes x' j f e n b he g (nx.o H) hL l k i c a
theorem Gq.o{p z}(H:HW w W hb sb lw x t fr ls S 0)(h:Gq w (eI W hb) hb sb lw x t fr ls S 1 p z W'):Gq w W hb sb lw x t fr ls S 0 p z (eJ W' hb):=by obtain⟨x',d,a,b,c,e,nx,hL,f⟩:=h;exact⟨x',d,a,b,c,e,nx.o H,hL,f⟩
theorem Rq8.o{m d p er}(H:HW w W hb sb lw x t fr ls S 0)(h:Rq8 w (eI W hb) hb sb lw x t fr ls S 1 m d p er W'):Rq8 w W hb sb lw x t fr ls S 0 m d p er (eJ W' hb):=by
 cases h with
 | big a hp he kp=>exact .big a hp he (H.ft kp)
 | ok a b=>exact .ok a (b.o H)
theorem zkF(H:HW w W hb sb lw x t fr ls S 0)(sz:Nat)(hs:sz<18446744073709551616)(d:Bool)(m:Nat)(g:m=max sz 16):Calls prog 21 #[.pointer (some ⟨hb,0,none⟩),.int .u64 sz,.bool d] W fun e i=>∃ p a,e=.returned (.tuple #[.int .u64 ((p:Nat):Int),.int .i64 a])/\Rq8 w W hb sb lw x t fr ls S 0 m d p a i:=by
 have n:=aA H.lock;have RQ:=aA (wK H.in sz 1 hs (by decide) d m (by omega));have ST:=aA (fun (c:Wd) (p:Nat) (a:Int) (h:Rq8 w (eI W hb) hb sb lw x t fr ls S 1 m d p a c)=>And.intro (h.st H.in) (h.o H));clear H g;go_enter_defers func21,ntmps21;go_wp2_with fail;refine n.o.mono ?_;rintro e q ⟨rfl,rfl⟩;go_wp2_with fail;refine RQ.o.mono ?_;rintro e c ⟨p,a,rfl,hq⟩;obtain⟨⟨x',o,l,k,v,b⟩,hD⟩:=ST.o _ _ _ hq;have j:=aA (b.unlock .returning);have D:=aA hD;clear hD b hq;go_wp2_with fail;refine dm (f:=30) (args:=#[.pointer (some ⟨hb,0,none⟩)]) (by simp) (by simp[go_sem]) ?_;refine j.o.mono ?_;rintro e r u ⟨rfl,rfl,rfl⟩;exact⟨_,results_tmp2 rfl _ _ _,p,a,rfl,D.o⟩
theorem zgo(H:HW w W hb sb lw x t fr ls S 0)(al sz:Nat)(ha:al<18446744073709551616)(hs:sz<18446744073709551616)(d:Bool)(hp:gH al=false):Calls prog 22 #[.pointer (some ⟨hb,0,none⟩),.int .u64 al,.int .u64 sz,.bool d] W fun e c=>e=.returned (.tuple #[.int .u64 0,.int .i64 1])/\Kt nO W c:=by
 have i:=aA H.lock;have b:=aA (uA al ha (eI W hb));rw[hp] at b;have g:=aA (H.in.unlock .returning);have D:=aA (H.ft (kz _));clear H hp;go_enter_defers func22,ntmps22;go_wp2_with fail;refine i.o.mono ?_;rintro e j ⟨rfl,rfl⟩;go_wp2_with fail;refine b.o.mono ?_;rintro e m ⟨rfl,a⟩;replace a:=a.symm;subst a;go_wp2_with fail;refine dm (f:=30) (args:=#[.pointer (some ⟨hb,0,none⟩)]) (by simp) (by simp[go_sem]) ?_;refine g.o.mono ?_;rintro e k l ⟨rfl,rfl,rfl⟩;exact⟨_,results_tmp2 rfl _ _ _,rfl,D.o⟩
theorem ziw(H:HW w W hb sb lw x t fr ls S 0)(al sz:Nat)(ha:al<18446744073709551616)(hs:sz<18446744073709551616)(d:Bool)(hp:gH al=true)(m:Nat)(g:m=max (max sz al) 16):Calls prog 22 #[.pointer (some ⟨hb,0,none⟩),.int .u64 al,.int .u64 sz,.bool d] W fun e k=>∃ p a,e=.returned (.tuple #[.int .u64 ((p:Nat):Int),.int .i64 a])/\Rq8 w W hb sb lw x t fr ls S 0 m d p a k:=by
 have q:=aA H.lock;have j:=aA (uA al ha (eI W hb));rw[hp] at j;have RQ:=aA (wK H.in sz al hs ha d m g);have ST:=aA (fun (c:Wd) (p:Nat) (a:Int) (h:Rq8 w (eI W hb) hb sb lw x t fr ls S 1 m d p a c)=>And.intro (h.st H.in) (h.o H));clear H hp g;go_enter_defers func22,ntmps22;go_wp2_with fail;refine q.o.mono ?_;rintro e u ⟨rfl,rfl⟩;go_wp2_with fail;refine j.o.mono ?_;rintro e c ⟨rfl,b⟩;replace b:=b.symm;subst b;go_wp2_with fail;refine RQ.o.mono ?_;rintro e c ⟨p,a,rfl,hq⟩;obtain⟨⟨x',r,o,n,z,i⟩,hD⟩:=ST.o _ _ _ hq;have l:=aA (i.unlock .returning);have D:=aA hD;clear hD i hq;go_wp2_with fail;refine dm (f:=30) (args:=#[.pointer (some ⟨hb,0,none⟩)]) (by simp) (by simp[go_sem]) ?_;refine l.o.mono ?_;rintro e v y ⟨rfl,rfl,rfl⟩;exact⟨_,results_tmp2 rfl _ _ _,p,a,rfl,D.o⟩
inductive Fq(w W:Wd)(hb sb lw:Nat)(x:Bx)(t:Bt)(fr:Nat->List Nat)(ls:List (Nat×Nat))(S:Sb)(s:Int)(p:Nat)(er:Int)(w':Wd):Prop where
 | nil (hp:p=0) (he:er=0) (kp:Kt nO W w')
 | bad (hp:p≠0) (hl:∀ c,¬aR x ls S p c) (he:er=1) (kp:Kt nO W w')
 | ok (z:Nat) (hp:p≠0) (hl:aR x ls S p z) (he:er=0) (hG:Gq w W hb sb lw x t fr ls S s p z w')
theorem VE(H:HW w W hb sb lw x t fr ls S 0)(p:Nat)(hp:p<18446744073709551616):Calls prog 26 #[.pointer (some ⟨hb,0,none⟩),.int .u64 p] W fun e E=>∃ r,e=.returned (.int .i64 r)/\Fq w W hb sb lw x t fr ls S 0 p r E:=by
 have C:=aA H.lock;have i:=aA H;by_cases h0:p=0;·subst h0;have d:=aA (H.in.unlock .returning);have D:=aA (show Fq w W hb sb lw x t fr ls S 0 0 0 (eJ (eI W hb) hb)from .nil rfl rfl (H.ft (kz _)));clear H;go_enter_defers func26,ntmps26;go_wp2_with fail;refine C.o.mono ?_;rintro e G ⟨rfl,rfl⟩;go_wp2_with fail;refine dm (f:=30) (args:=#[.pointer (some ⟨hb,0,none⟩)]) (by simp) (by simp[go_sem]) ?_;refine d.o.mono ?_;rintro e u B ⟨rfl,rfl,rfl⟩;exact⟨_,results_tmp rfl _ _ _,0,rfl,D.o⟩
 ·have K:((p:Int) == 0)=false:=by rw[ag];omega
  have L:=aA (ID H.in p hp);have v:=aA h0;clear H h0;go_enter_defers func26,ntmps26;go_wp2_with fail;refine C.o.mono ?_;rintro e G ⟨rfl,rfl⟩;go_wp2_with fail;refine L.o.mono ?_;rintro e n ⟨a,z,l,rfl,m,q⟩;have j:=aA (q.alloc (bY a z));have F:=aA (nH n (bY a z));obtain⟨Q,P,N⟩:=fQ F.o;rcases m with ⟨rfl,rfl,hl⟩|⟨rfl,hl⟩
  ·have J:=aA (CX (i.o.in.dk j.o) hl);have I:=aA (fun (g:Wd) (h:Gq w (n.alloc (bY a z)) hb sb lw x t fr ls S 1 a z g)=>show(∃ x' k c b o,HW w g hb sb lw x' k c b o 1)/\Fq w W hb sb lw x t fr ls S 0 a 0 (eJ g hb)from by
    refine⟨?_,.ok z v.o hl rfl ((h.from j.o).o i.o)⟩;obtain⟨x',k,c,b,o,R,nx,_⟩:=h;exact⟨_,_,_,_,_,nx.H⟩)
   clear hl q;go_wp2_with fail;refine J.o.mono ?_;rintro e g ⟨rfl,A⟩;obtain⟨⟨x',k,c,b,o,y⟩,hD⟩:=I.o _ A;have d:=aA (y.unlock .returning);have D:=aA hD;clear hD y A;go_wp2_with fail;refine dm (f:=30) (args:=#[.pointer (some ⟨hb,0,none⟩)]) (by simp) (by simp[go_sem]) ?_;refine d.o.mono ?_;rintro e u B ⟨rfl,rfl,rfl⟩;exact⟨_,results_tmp rfl _ _ _,0,rfl,D.o⟩
  ·have d:=aA ((i.o.in.dk j.o).unlock .returning);have D:=aA (show Fq w W hb sb lw x t fr ls S 0 p 1 (eJ (n.alloc (bY a z)) hb)from .bad v.o hl rfl (i.o.ft j.o));clear hl q;go_wp2_with fail;refine dm (f:=30) (args:=#[.pointer (some ⟨hb,0,none⟩)]) (by simp) (by simp[go_sem]) ?_;refine d.o.mono ?_;rintro e u B ⟨rfl,rfl,rfl⟩;exact⟨_,results_tmp rfl _ _ _,1,rfl,D.o⟩
end
section
variable {w W:Wd} {wb sb lw:Nat} {x:Bx} {t:Bt} {fr:Nat->List Nat} {ls:List (Nat×Nat)} {S:Sb} {h:Nat->Int}
theorem SO.kq{W':Wd}(o:SO w W sb lw x t fr ls S h){p s:Nat}(hl:aR x ls S p s){f':Nat->Nat}(hf:∀ j,¬(p<=x.bS+j/\x.bS+j<p+s)->f' j=t.f j)(hs:M.SpA W' x.s x.a x.bS x.R x.dl x.n f')(k:Kt (M.own x.s x.a) W W'):SO w W' sb lw x { t with f:=f' } fr ls S h:=by
 have kb:Kt (aC x) W W':=k.mono (fun _ _ e=>.inl e);obtain⟨_,q,j,E,G,I⟩:=o.span hl;unfold ad at G I;refine⟨⟨o.sw.pl.jp k hs,(kb.block _ (lH o.sw.bx) (fun e=>o.sw.mg (.inl e))).trans o.sw.bx,o.sw.nw,o.sw.tb⟩,o.sf.fill E (fun i hi=>hf i (fun e=>?_)),o.st,o.bm,⟨o.si.eP,o.si.pg,fun g c hg=>?_,o.si.lv,o.si.pn,o.si.pm⟩,o.hd⟩;·omega
 ·obtain⟨n1,z,K⟩:=o.si.fl g c hg;have C:=(o.si.pg g c hg).1;have hz:=cM C;have F:=o.mem hg;have U:=o.po.en.2.2.2.1;refine⟨n1,z,oQ rfl (fun i hi=>yA fun b hb=>hf _ (fun e=>?_)) K⟩;have r:=z i hi;have Q:=fT (x:=x) (p:=g) C r (by omega)
  have L:aM x g c i=x.bS+4096*g+i*aB c:=rfl;rcases hl with ⟨l,v,m,⟨l1,l2,J,rfl⟩,rfl⟩|⟨B,T,l1,l2,rfl,rfl⟩
  ·have u:=(o.si.pg l v l1).1;have P:=o.mem l1;have y:=fT (x:=x) (p:=l) u l2 (by omega);have A:aM x l v m=x.bS+4096*l+m*aB v:=rfl;have N:l=g:=(by omega);subst N;rw[hg] at l1;injection l1 with l1
   subst l1;rcases Nat.lt_trichotomy i m with d|rfl|d
   ·have:(i+1)*aB c<=m*aB c:=ak _ d;rw[av,aL] at this;omega
   ·exact J hi
   ·have:(m+1)*aB c<=i*aB c:=ak _ d;rw[av,aL] at this;omega
  ·have D:ad x B=x.bS+4096*B:=rfl;rcases o.apart F.1 l1 with ⟨d,_⟩|d|d
   ·rw[<-d,hg] at l2;cases l2
   ·rw[Nat.pow_zero] at d;omega
   ·omega
end
section
variable {w W W1 W':Wd} {hb sb lw:Nat} {x:Bx} {t:Bt} {fr:Nat->List Nat} {ls:List (Nat×Nat)} {S:Sb} {s:Int}
def Wr(w W:Wd)(hb sb lw:Nat)(x:Bx)(t:Bt)(fr:Nat->List Nat)(ls:List (Nat×Nat))(S:Sb)(s:Int)(f':Nat->Nat)(w':Wd):Prop:=HW w w' hb sb lw x { t with f:=f' } fr ls S s/\Kt (bM x sb) W w'
theorem HW.wrote(H:HW w W hb sb lw x t fr ls S s){p z:Nat}(hl:aR x ls S p z){f':Nat->Nat}(hf:∀ j,¬(p<=x.bS+j/\x.bS+j<p+z)->f' j=t.f j)(hs:M.SpA W' x.s x.a x.bS x.R x.dl x.n f')(k:Kt (M.own x.s x.a) W W'):Wr w W hb sb lw x t fr ls S s f' W':=by obtain⟨h,o⟩:=H.so;have c:=o.kq hl hf hs k;have b:Kt (bM x sb) W W':=k.mono (fun _ _ e=>.inl (.inl e));exact⟨⟨⟨h,c⟩,H.lv,(b.block _ (lH H.bx) H.ms).trans H.bx,H.nw,H.br⟩,b⟩
theorem Wr.from{f':Nat->Nat}(k:Kt nO W W1)(h:Wr w W1 hb sb lw x t fr ls S s f' W'):Wr w W hb sb lw x t fr ls S s f' W':=
 ⟨h.1,(k.mono (fun _ _ e=>e.elim)).trans h.2 (fun _ _ e=>e) (fun _ _ e=>e)⟩
theorem Wr.o{f':Nat->Nat}(H:HW w W hb sb lw x t fr ls S 0)(h:Wr w (eI W hb) hb sb lw x t fr ls S 1 f' W'):Wr w W hb sb lw x t fr ls S 0 f' (eJ W' hb):=
 ⟨(h.1.set 0).1,H.round H.ms h.2 h.1 rfl rfl rfl⟩
def mX(x:Bx)(ls:List (Nat×Nat))(S:Sb)(p n:Nat)(l:Bool):Prop:=(l=true/\∃ a z,aR x ls S a z/\a<=p/\p<a+z/\p+n<=a+z)\/(l=false/\∀ a z,aR x ls S a z->¬(a<=p/\p<a+z/\p+n<=a+z))
theorem zlO(H:HW w W hb sb lw x t fr ls S s)(p n:Nat)(hp:p<18446744073709551616)(P:n<18446744073709551616):Calls prog 68 #[.pointer (some ⟨hb,0,none⟩),.int .u64 p,.int .u64 n] W fun e C=>∃ l,e=.returned (.bool l)/\mX x ls S p n l/\Kt nO W C:=by
 have B:=aA (JI H p hp);have A:=aA H;clear H;go_enter func68,ntmps68;go_wp2_with fail;refine B.o.mono ?_;rintro e L ⟨a,z,l,rfl,K,g⟩;have m:=aA (g.alloc (bY a z));have I:=aA (nH L (bY a z));obtain⟨T,Q,N⟩:=fQ I.o;rcases K with ⟨rfl,hl,i,k⟩|⟨rfl,hl⟩
 ·obtain⟨R,o⟩:=A.o.so;have hi:=o.inside hl;have u:=o.po.en.2.2.2.1;obtain⟨c,hc⟩:=xe (a+z-p);have F:(a:Int)+(z:Int)-(p:Int)=c:=by omega
  have v:IntKind.u64.wrap ((a:Int)+(z:Int))=(a:Int)+(z:Int):=by rw[wrap_u64];omega
  have U:((a:Int)+(z:Int))%18446744073709551616=(a:Int)+(z:Int):=by omega
  have E:c<18446744073709551616:=by omega
  by_cases d:n<=c;·have D:=aA (show mX x ls S p n true from .inl ⟨rfl,a,z,hl,i,k,by omega⟩);have J:decide ((n:Int)<=c)=true:=af (by omega);have G:decide (n<=c)=true:=af d;have j:a<9223372036854775808:=(by omega);have q:z<=9223372036854775808:=(by omega);clear hl i k o u hc hi d g;go_wp2_with fail;go_ret;exact⟨true,by simp,D.o,m.o⟩
  ·have D:=aA (show mX x ls S p n false from .inr ⟨rfl,fun b y f ⟨r,g2,g3⟩=>by
    rcases o.two hl f with ⟨F,v⟩|e|e <;> omega⟩)
   have J:decide ((n:Int)<=c)=false:=ah (by omega);have G:decide (n<=c)=false:=ah d;have j:a<9223372036854775808:=(by omega);have q:z<=9223372036854775808:=(by omega);clear hl i k o u hc hi d g;go_wp2_with fail;go_ret;exact⟨false,by simp,D.o,m.o⟩
 ·have D:=aA (show mX x ls S p n false from .inr ⟨rfl,fun b y f ⟨r,g2,g3⟩=>hl b y f ⟨r,g2⟩⟩);clear hl g;go_wp2_with fail;go_ret;exact⟨false,rfl,D.o,m.o⟩
theorem HW.wi(H:HW w W hb sb lw x t fr ls S s){p n:Nat}(h:mX x ls S p n true):∃ a z,aR x ls S a z/\a<=p/\p+n<=a+z/\M.In x.bS x.n p n:=by
 obtain⟨e,o⟩:=H.so;rcases h with ⟨_,a,z,hl,b,f,c⟩|⟨b,_⟩
 ·have hi:=o.inside hl;have d:=o.po.en.2.2.2.1;exact⟨a,z,hl,b,c,by unfold M.In;omega⟩
 ·cases b
theorem HW.space(H:HW w W hb sb lw x t fr ls S s)(b : 0<x.n):∃ g,x.a=some g/\M.SpA W x.s (some g) x.bS x.R x.dl x.n t.f:=by have hs:=H.po.pl.bd.sp;obtain⟨g,hg⟩:=xV hs b;exact⟨g,hg,by rw[hg] at hs;exact hs⟩
theorem HW.trim(H:HW w W hb sb lw x t fr ls S s){r:Nat}(u:t.m.n=r*2 ^ x.o):Calls prog 59 #[.pointer (some ⟨lw,0,none⟩)] W fun e f=>e=.returned (.int .i64 ((fW x.o r fr).1:Int))/\∃ x' b,Nx w W f hb sb lw x t ls S s x' b (fW x.o r fr).2 ls S/\b.m.n=(r-(fW x.o r fr).1)*2 ^ x.o:=by
 obtain⟨h,o⟩:=H.so;refine(K.Trim_any o.po r u).mono ?_;rintro e f ⟨rfl,x',b,i,d,g,kp,nb,bk⟩;have k:=o.iz i d bk (fun a c ha=>(o.mem ha).1) kp;have l:Kt (bM x sb) W f:=kp.mono (fun _ _ e=>.inl e);have ch:Ch x t ls S x' b ls S:=⟨d.bS,d.R,d.dl,d.o,fun j p q=>bk j (o.byte p) (k.byte q)⟩;exact⟨rfl,x',b,⟨H.call k H.lv ch l,ch,l,fun y e=>e.elim (fun e=>(nb y e).imp (fun e=>.inl e) id) (fun e=>.inl (.inr e))⟩,g⟩
theorem QD(H:HW w W hb sb lw x t fr ls S 0){r:Nat}(i:t.m.n=r*2 ^ x.o):Calls prog 23 #[.pointer (some ⟨hb,0,none⟩)] W fun e k=>e=.returned (.int .i64 ((fW x.o r fr).1:Int))/\∃ x' b,Nx w W k hb sb lw x t ls S 0 x' b (fW x.o r fr).2 ls S/\b.m.n=(r-(fW x.o r fr).1)*2 ^ x.o:=by
 have p:=aA H.lock;have j:=aA H;have g:=aA (H.in.trim i);obtain⟨c0,c2,c3,c4,c5,q⟩:=H.in.c;obtain⟨n,d⟩:=xe ((fW x.o r fr).1);rw[<-d] at g ⊢;clear H i d;go_enter_defers func23,ntmps23;go_wp2_with fail;refine p.o.mono ?_;rintro e u ⟨rfl,rfl⟩;go_wp2_with fail;refine g.o.mono ?_;rintro e z ⟨rfl,x',b,nx,a⟩;have l:=aA (nx.H.unlock .returning);have D:=aA (And.intro (nx.o j.o) a);clear nx a;go_wp2_with fail;refine dm (f:=30) (args:=#[.pointer (some ⟨hb,0,none⟩)]) (by simp) (by simp[go_sem]) ?_;refine l.o.mono ?_;rintro e v y ⟨rfl,rfl,rfl⟩;exact⟨_,results_tmp rfl _ _ _,rfl,x',b,D.o.1,D.o.2⟩
end
end Go.Proofs.YtfmgnljlkdmndaaGreatDoor
