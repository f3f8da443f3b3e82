import Derived.ProofKit
import Derived.OpenShut
import Derived.Deep.Slices
import Derived.Deep.Strs
import Derived.Test.YtfmgnljlkdmndaaGreatDoorWg
import Derived.Test.YtfmgnljlkdmndaaGreatDoorXy
set_option maxRecDepth 1000000
set_option maxHeartbeats 80000000
namespace Go.Proofs.YtfmgnljlkdmndaaGreatDoor
open Tryz
open Go.ChangeShapes Go.WideShapes Go.ChangeAt Go.RowKit Go.Deep
set_option linter.unusedVariables false
theorem zkb:prog.cellsOf 22=1:=by kernel_rfl
theorem zkc:prog.cellsOf 3=1:=by kernel_rfl
theorem TV{H:Type}{enc:TypeId×Value->H}{W:World}{bS:Nat}{v:Value}{d:DataW H}{p:List MemPlace}(f:Value.okWide prog W .any bS 24 v)
  (h:DataW.Trod enc prog W 0 (fun _=>true) true 24 v d p):
  ∃ (b:Nat) (lim ord:Int),v=.agg #[.int .u64 b,.int .i64 lim,.int .i64 ord]/\b<18446744073709551616 /\ -9223372036854775808<=lim/\lim<=9223372036854775807 /\ -9223372036854775808<=ord/\ord<=9223372036854775807:=by
 obtain⟨cs,rfl,_⟩:=okWide_struct Tryz.underlying24 f;obtain⟨fuel,hf⟩:=h;obtain⟨B,u,A,C,_,a,e,g,c⟩:=trod_struct3 Tryz.underlying24 hf;obtain⟨l⟩:=cs;simp only[Value.cells] at a e g c;have i:l.length=3:=a.trans (by kernel_rfl);match l,i with
 | [c0,c1,c2],_=>
  rw[zkb] at e;rw[zkc] at g c;obtain⟨x,k,_,q⟩:=DataW.trod_int Tryz.underlying22 e;obtain⟨y,j,_,n⟩:=DataW.trod_int Tryz.underlying3 g;obtain⟨z,m,_,r⟩:=DataW.trod_int Tryz.underlying3 c;simp at k j m;subst k j m;have b0:=bounds_u64 q;have b1:=bounds_i64 n;have b2:=bounds_i64 r;obtain⟨b,rfl⟩:=au b0.1;exact⟨b,y,z,rfl,by omega,b1.1,b1.2,b2.1,b2.2⟩
open Go.RowKit
open Go.MuLone
section
variable {w W W1 W2 W':World} {hb sb lw:Nat} {x:Bx} {t:Bt} {fr:Nat->List Nat} {ls:List (Nat×Nat)} {S:Sb} {s:Int}
theorem aS.r{W sb lw h}(o:SO w W sb lw x t fr ls S h){p z r:Nat}(hl:aS x ls S p z)(m : 4096<=r)(d:r<z)(f:(∃ k,k<8/\r=aB k)\/(∃ k,k<=x.o/\r=4096*2 ^ k)):∃ q k j,(q,k)∈ls/\S.c q=none/\p=ad x q/\z=4096*2 ^ k/\r=4096*2 ^ j/\j<=k/\k<=8:=by
 rcases f with ⟨j,b,rfl⟩|⟨j,b,rfl⟩
 ·have:=cN b;omega
 ·rcases hl with ⟨g,k,i,l,rfl⟩|⟨q,k,a,hc,hp,rfl⟩
  ·have:=cN (o.si.pg g k l.1).1;omega
  ·refine⟨q,k,j,a,hc,hp,rfl,rfl,?_,an (o.al a).1 o.po.nums.1⟩;have e:=Nat.lt_of_mul_lt_mul_left d;exact Nat.le_of_lt ((iI j k).1 e)
theorem zgC(H:HW w W hb sb lw x t fr ls S 0)(sz:Nat)(hs:sz<18446744073709551616)(d:Bool)(m:Nat)(i:m=max sz 16):
  Calls prog 27 #[.pointer (some ⟨hb,0,none⟩),.int .u64 0,.int .u64 sz,.bool d] W fun e q=>∃ g a,e=.returned (.tuple #[.int .u64 ((g:Nat):Int),.int .i64 a])/\Rl w W hb sb lw x t fr ls S 0 0 m d g a q:=by
 have k:=aA H.lock;have RQ:=aA (xK H.in sz 1 hs (by decide) d m (by omega));have ST:=aA (fun (b:World) (p:Nat) (a:Int) (h:Rq8 w (eQ W hb) hb sb lw x t fr ls S 1 m d p a b)=>And.intro (h.st H.in) (h.o H));clear H i;go_enter_defers func27,ntmps27;go_wp2_with fail;refine k.o.mono ?_;rintro e v ⟨rfl,rfl⟩;go_wp2_with fail;refine RQ.o.mono ?_;rintro e b ⟨p,a,rfl,hq⟩;obtain⟨⟨x',r,n,l,u,c⟩,hD⟩:=ST.o _ _ _ hq;have j:=aA (c.unlock .returning);have D:=aA (show Rl w W hb sb lw x t fr ls S 0 0 m d p a (eS b hb)from .nil rfl hD);clear hD c hq;go_wp2_with fail;refine leaves_cons (f:=30) (args:=#[.pointer (some ⟨hb,0,none⟩)]) (by simp) (by simp[go_sem]) ?_;refine j.o.mono ?_;rintro e y z ⟨rfl,rfl,rfl⟩;exact⟨_,results_tmp2 rfl _ _ _,p,a,rfl,D.o⟩
theorem zjK(H:HW w W hb sb lw x t fr ls S 0)(p sz:Nat)(hp:p<18446744073709551616)(h0:p≠0)(hs:sz<18446744073709551616)(d:Bool)(m:Nat)(hm:m=max sz 16):
  Calls prog 27 #[.pointer (some ⟨hb,0,none⟩),.int .u64 p,.int .u64 sz,.bool d] W fun e A=>∃ K J,e=.returned (.tuple #[.int .u64 ((K:Nat):Int),.int .i64 J])/\Rl w W hb sb lw x t fr ls S 0 p m d K J A:=by
 have LK:=aA H.lock;have u:=aA H;have a4:((p:Int) == 0)=false:=by rw[ag];omega
 have SS:=aA (GK H.in p hp);have y:=aA (fun W' (H':HW w W' hb sb lw x t fr ls S 1)=>xN H' sz 1 hs (by decide) m (by omega));have T:=aA h0;have X : 16<=m:=by omega
 have KD:=aA (vV (o:=x.o) X);clear H h0 hm;go_enter_defers func27,ntmps27;go_wp2_with fail;refine LK.o.mono ?_;rintro e w1 ⟨rfl,rfl⟩;go_wp2_with fail;refine SS.o.mono ?_;rintro e w2 ⟨a,z,l,rfl,a0,R⟩;have N:=aA (R.alloc (cA a z));have X5:=aA (nH w2 (cA a z));obtain⟨x0,x1,xf⟩:=fS X5.o;have i:=aA (u.o.in.keep N.o);clear R SS;go_upto_region 6 with fail;generalize w2.alloc (cA a z)=P at *;generalize w2.heap.size=y5 at *;rcases a0 with ⟨rfl,rfl,hl⟩|⟨rfl,hl⟩
 ·have L:=aA hl;have hz:z<=9223372036854775808/\a<9223372036854775808/\0<z:=by
   obtain⟨h',o⟩:=u.o.so;have h1:=o.inside hl;have h2:=(o.span hl).1;have n4:=o.po.nums.2.2.2.1;omega
  obtain⟨a5,a6,a2⟩:=hz;clear hl
  cases ho:cY x.o m with
  | false=>
   have v:=aA (i.o.unlock .returning);have D:=aA (show Rl w W hb sb lw x t fr ls S 0 a m d 0 3 (eS P hb)from .big z T.o L.o ho rfl rfl (u.o.kout N.o));rw[ho] at y;rw[ac (by decide),ac (by decide)] at y;clear ho;go_wp2_with fail;refine(y.o _ i.o).mono ?_;rintro e w4 ⟨rfl,b⟩;replace b:=b.symm;subst b;go_wp2_with fail;refine leaves_cons (f:=30) (args:=#[.pointer (some ⟨hb,0,none⟩)]) (by simp) (by simp[go_sem]) ?_;refine v.o.mono ?_;rintro e u' w9 ⟨rfl,rfl,rfl⟩;exact⟨_,results_tmp2 rfl _ _ _,0,3,rfl,D.o⟩
  | true=>
   have HO:=aA ho;have kd:=KD.o ho;rw[ho] at y;rw[ae rfl,ae rfl] at y;obtain⟨r,hr⟩:=xe (2 ^ cl m);have G:=aA hr;rw[<-hr] at y kd;have a3:r<=1048576:=by
    rcases kd with ⟨k,R,rfl⟩|⟨k,R,rfl⟩
    ·have:=cN R;omega
    ·have h8:=u.o.po.nums.1;have : 2 ^ k<=2 ^ 8:=bj (by decide) (by omega);omega
   clear ho hr KD;by_cases he:r=z
   ·subst he;have v:=aA (i.o.unlock .returning);have D:=aA (show Rl w W hb sb lw x t fr ls S 0 a m d a 0 (eS P hb)from .same T.o HO.o (by rw[<-G.o];exact L.o) rfl rfl (u.o.kout N.o));clear kd;go_wp2_with fail;refine(y.o _ i.o).mono ?_;rintro e w4 ⟨rfl,b⟩;replace b:=b.symm;subst b;go_wp2_with fail;refine leaves_cons (f:=30) (args:=#[.pointer (some ⟨hb,0,none⟩)]) (by simp) (by simp[go_sem]) ?_;refine v.o.mono ?_;rintro e u' w9 ⟨rfl,rfl,rfl⟩;exact⟨_,results_tmp2 rfl _ _ _,a,0,rfl,D.o⟩
   ·have q1:((r:Int) == (z:Int))=false:=(by rw[ag];omega);have HE:=aA he;clear he;by_cases hb4 : 4096<=r/\r<z
    ·obtain⟨b1,b2⟩:=hb4;obtain⟨q,k,j,hm,hc,V,C,F,hj,B⟩:∃ q k j,(q,k)∈ls/\S.c q=none/\a=ad x q/\z=4096*2 ^ k/\r=4096*2 ^ j/\j<=k/\k<=8:=by
      obtain⟨h',o⟩:=u.o.so;exact aS.r o L.o b1 b2 kd
     have K4:=aA ((Kt.refl nO P).drew);have HD:=aA (i.o.keep K4.o);have X6:=aA (show P.drew.heap[y5]?=some (cA a z)from X5.o);have OZ:=aA (fun W'=>sS k B W');have OR:=aA (fun W'=>sS j (an hj B) W');rw[<-C] at OZ;rw[<-F] at OR;have BD:=aA (BS HD.o.po.pl);have SH:=aA ((HD.o.shrink hm hc hj a V).mono fun e A h=>(show e=.returned (.int .i64 0)/\(A.cell? ⟨hb,5,none⟩=some (.pointer (some ⟨lw,0,none⟩))/\A.cell? ⟨y5,1,none⟩=some (.int .u64 z))/\Rl w W hb sb lw x t fr ls S 0 a m d a 0 (eS A hb)/\∃ x' E g n U,HW w A hb sb lw x' E g n U 1 from by
      obtain⟨he,hS⟩:=h;have Y:=(hS.from (nT N.o K4.o)).o u.o;rw[<-C,<-F,G.o] at Y;refine⟨he,?_,.shr z T.o HO.o L.o (by rw[<-G.o];exact b1) (by rw[<-G.o];exact b2) rfl rfl Y,?_⟩
      ·obtain⟨E,q',k',j',_,_,_,_,_,_,nx,_⟩:=hS;obtain⟨h',o⟩:=HD.o.so;exact⟨nx.H.c.2.2.2.2.1,(fS ((nx.kp.block _ (lH X6.o) (o.bty8 X6.o)).trans X6.o)).2.1⟩
      ·obtain⟨E,q',k',j',_,_,_,_,_,_,nx,_⟩:=hS;exact⟨_,_,_,_,_,nx.H⟩))
     obtain⟨c0,c2,c3,c4,c5,c6⟩:=i.o.c;obtain⟨d0,d2,d3,d4,d5,d6⟩:=HD.o.c;obtain⟨y0,y1,yf⟩:=fS X6.o;have g1:(4096:Int)<=(r:Int):=(by omega);have g2:(r:Int)<z:=(by omega);clear kd hm hc V C F hj B b1 b2;go_wp2_with fail;refine(y.o _ i.o).mono ?_;rintro e w4 ⟨rfl,b⟩;replace b:=b.symm;subst b;go_wp2_with fail;go_region_held3 (fun A=>A.cell? ⟨hb,5,none⟩=some (.pointer (some ⟨lw,0,none⟩))/\A.cell? ⟨y5,1,none⟩=some (.int .u64 z)) (first|with_reducible exact⟨d5,y1⟩|with_reducible exact e6) (first
      | (go_at_call 33;(with_reducible refine(BD.o).mono ?_);rintro e w5 ⟨rfl,I⟩;replace I:=I.symm;subst I)
      | (go_at_call 66;(first | with_reducible refine(OZ.o _).mono ?_ | with_reducible refine(OR.o _).mono ?_);rintro e w5 ⟨rfl,I⟩;replace I:=I.symm;subst I)
      | (go_at_call 65;(with_reducible refine(SH.o).mono ?_);rintro e Q ⟨rfl,e6,hD,x',E,g,n,U,Z⟩;have v:=aA (Z.unlock .returning);have D:=aA hD;clear hD Z)
      | fail)
     all_goals
      go_wp2_with fail;refine leaves_cons (f:=30) (args:=#[.pointer (some ⟨hb,0,none⟩)]) (by simp) (by simp[go_sem]) ?_;refine v.o.mono ?_;rintro e u' w9 ⟨rfl,rfl,rfl⟩;exact⟨_,results_tmp2 rfl _ _ _,a,0,rfl,D.o⟩
    ·have MV:=aA (WH i.o L.o r kd d);have MD:=aA (fun (Q:World) (K:Nat) (J:Int) (h:Mq w P hb sb lw x t fr ls S 1 a z r d K J Q)=>show(∃ x' E g n U,HW w Q hb sb lw x' E g n U 1)/\Rl w W hb sb lw x t fr ls S 0 a m d K J (eS Q hb)from by
      refine⟨h.st i.o,.mov z T.o HO.o L.o (by rw[<-G.o];exact HE.o) (by rw[<-G.o];exact hb4) ?_⟩;have h2:=(h.from N.o).o u.o;rw[G.o] at h2;exact h2)
     have a1:(¬(4096:Int)<=(r:Int))\/((4096:Int)<=(r:Int)/\¬(r:Int)<z):=(by omega);clear kd hb4;rcases a1 with g1|⟨g1,g2⟩
     all_goals
      go_wp2_with fail;refine(y.o _ i.o).mono ?_;rintro e w4 ⟨rfl,b⟩;replace b:=b.symm;subst b;go_wp2_with fail;refine MV.o.mono ?_;rintro e Q ⟨K,J,rfl,hM⟩;obtain⟨⟨x',E,g,n,U,Z⟩,hD⟩:=MD.o _ _ _ hM;have v:=aA (Z.unlock .returning);have D:=aA hD;clear hD Z hM;go_wp2_with fail;refine leaves_cons (f:=30) (args:=#[.pointer (some ⟨hb,0,none⟩)]) (by simp) (by simp[go_sem]) ?_;refine v.o.mono ?_;rintro e u' w9 ⟨rfl,rfl,rfl⟩;exact⟨_,results_tmp2 rfl _ _ _,K,J,rfl,D.o⟩
 ·have v:=aA (i.o.unlock .returning);have D:=aA (show Rl w W hb sb lw x t fr ls S 0 p m d 0 1 (eS P hb)from .bad T.o hl rfl rfl (u.o.kout N.o));clear hl;go_wp2_with fail;refine leaves_cons (f:=30) (args:=#[.pointer (some ⟨hb,0,none⟩)]) (by simp) (by simp[go_sem]) ?_;refine v.o.mono ?_;rintro e u' w9 ⟨rfl,rfl,rfl⟩;exact⟨_,results_tmp2 rfl _ _ _,0,1,rfl,D.o⟩
theorem zjL(H:HW w W hb sb lw x t fr ls S 0)(p sz:Nat)(hp:p<18446744073709551616)(hs:sz<18446744073709551616)(d:Bool)(m:Nat)(a:m=max sz 16):
  Calls prog 27 #[.pointer (some ⟨hb,0,none⟩),.int .u64 p,.int .u64 sz,.bool d] W fun e f=>∃ c b,e=.returned (.tuple #[.int .u64 ((c:Nat):Int),.int .i64 b])/\Rl w W hb sb lw x t fr ls S 0 p m d c b f:=by
 by_cases h0:p=0
 ·subst h0;exact zgC H sz hs d m a
 ·exact zjK H p sz hp h0 hs d m a
end
def H9(w W:World)(hb bS lim o:Nat):Prop:=∃ sb lw x t fr ls S,HW w W hb sb lw x t fr ls S 0/\x.bS=bS/\x.lim=lim/\x.o=o
theorem H9.keep{w W W':World}{hb bS lim o:Nat}(h:H9 w W hb bS lim o)(k:Kt nO W W'):H9 w W' hb bS lim o:=by obtain⟨sb,lw,x,t,fr,ls,S,H,e⟩:=h;exact⟨sb,lw,x,t,fr,ls,S,H.keep k,e⟩
theorem H9.kp{w W:World}{hb bS lim o:Nat}(h:H9 w W hb bS lim o):Kt nO w W:=by obtain⟨sb,lw,x,t,fr,ls,S,H,e⟩:=h;exact H.po.pl.kp
section
variable {w W W':World} {hb sb lw:Nat} {x:Bx} {t:Bt} {fr:Nat->List Nat} {ls:List (Nat×Nat)} {S:Sb} {bS lim o:Nat}
theorem HW.h9(H:HW w W hb sb lw x t fr ls S 0)(e:x.bS=bS/\x.lim=lim/\x.o=o):H9 w W hb bS lim o:=⟨sb,lw,x,t,fr,ls,S,H,e⟩
theorem Nx.h9{x' t' fr' ls' S'}(n:Nx w W W' hb sb lw x t ls S 0 x' t' fr' ls' S')(e:x.bS=bS/\x.lim=lim/\x.o=o):H9 w W' hb bS lim o:=
 ⟨sb,lw,x',t',fr',ls',S',n.H,by rw[n.ch.bS];exact e.1,by rw[n.ch.lim];exact e.2.1,by rw[n.ch.o];exact e.2.2⟩
theorem Tq.h9(H:HW w W hb sb lw x t fr ls S 0)(e:x.bS=bS/\x.lim=lim/\x.o=o){r d p er}(h:Tq w W hb sb lw x t fr ls S 0 r d p er W'):H9 w W' hb bS lim o:=by
 cases h with
 | no _ _ _ _ kp=>exact(H.keep kp).h9 e
 | yes x' g c a f b _ _ nx=>exact nx.h9 e
theorem Rq8.h9(H:HW w W hb sb lw x t fr ls S 0)(e:x.bS=bS/\x.lim=lim/\x.o=o){m d p er}(h:Rq8 w W hb sb lw x t fr ls S 0 m d p er W'):H9 w W' hb bS lim o:=by
 cases h with
 | big b hp he kp=>exact(H.keep kp).h9 e
 | ok b a=>exact a.h9 H e
theorem Cz.h9(H:HW w W hb sb lw x t fr ls S 0)(e:x.bS=bS/\x.lim=lim/\x.o=o){m d p er}(h:Cz w W hb sb lw x t fr ls S 0 m d p er W'):H9 w W' hb bS lim o:=by
 cases h with
 | big a hp he kp=>exact(H.keep kp).h9 e
 | no a hp he i hd kp=>exact(H.keep kp).h9 e
 | yes a x' k f c g b he j nx=>exact nx.h9 e
theorem Mq.h9(H:HW w W hb sb lw x t fr ls S 0)(e:x.bS=bS/\x.lim=lim/\x.o=o){p z r d p' er}(h:Mq w W hb sb lw x t fr ls S 0 p z r d p' er W'):H9 w W' hb bS lim o:=by
 cases h with
 | no _ _ _ _ kp=>exact(H.keep kp).h9 e
 | yes x' g c a f b he nx=>exact nx.h9 e
theorem Rl.h9(H:HW w W hb sb lw x t fr ls S 0)(e:x.bS=bS/\x.lim=lim/\x.o=o){p m d p' er}(h:Rl w W hb sb lw x t fr ls S 0 p m d p' er W'):H9 w W' hb bS lim o:=by
 cases h with
 | nil _ h=>exact h.h9 H e
 | bad _ _ _ _ kp=>exact(H.keep kp).h9 e
 | big _ _ _ _ _ _ kp=>exact(H.keep kp).h9 e
 | same _ _ _ _ _ kp=>exact(H.keep kp).h9 e
 | shr z hp a hl b i c he hS=>
  obtain⟨l,q,k,j,_,_,_,_,_,_,nx,_⟩:=hS;exact nx.h9 e
 | mov z hp a hl f b g=>exact g.h9 H e
theorem Fq.h9(H:HW w W hb sb lw x t fr ls S 0)(e:x.bS=bS/\x.lim=lim/\x.o=o){p er}(h:Fq w W hb sb lw x t fr ls S 0 p er W'):H9 w W' hb bS lim o:=by
 cases h with
 | nil _ _ kp=>exact(H.keep kp).h9 e
 | bad _ _ _ kp=>exact(H.keep kp).h9 e
 | ok z hp hl he b=>
  obtain⟨x',f,c,a,d,_,nx,_⟩:=b;exact nx.h9 e
theorem WrP.h9(H:HW w W hb sb lw x t fr ls S 0)(e:x.bS=bS/\x.lim=lim/\x.o=o){p n gg er}(h:WrP w W hb sb lw x t fr ls S p n gg er W'):H9 w W' hb bS lim o:=by
 cases h with
 | nil _ _ kp=>exact(H.keep kp).h9 e
 | ok _ _ _ wr=>exact wr.1.h9 e
 | bad _ _ _ kp=>exact(H.keep kp).h9 e
end
theorem rS:∀ l:List (Nat×Nat),W.blV l=blV l
 | []=>rfl
 | b :: l=>by
  show _ :: _ :: W.blV l=_ :: _ :: blV l
  rw[rS l]
abbrev mH(w:World)(v:Value)(l:List (Nat×Nat)):Prop:=W.RBk w v l
theorem zC(l:List (Nat×Nat))(j:Nat)(h:j<l.length):(blV l)[j*2]?=some (.int .u64 ((l.getD j (0,0)).1:Int))/\(blV l)[j*2+1]?=some (.int .u64 ((l.getD j (0,0)).2:Int)):=by have:=W.blV_get l j h;rwa [rS] at this
theorem MG{e W:World}{v:Value}{l:List (Nat×Nat)}(h:GB e W v l):mH W v l:=by
 obtain⟨k,d⟩:=h.own;rcases d with ⟨rfl,h0⟩|⟨g,cap,c,rfl,_,hg,_,_,hs,f⟩
 ·exact⟨none,0,by rw[h0],.inl (bq h0)⟩
 ·refine⟨_,_,rfl,.inr ⟨g,rfl,lH hg,fun j i=>?_⟩⟩;obtain⟨a,b⟩:=zC l j i;rw[<-f,List.getElem?_take_of_lt (by omega)] at a b;rw[Array.getElem?_toList] at a b;exact⟨by simp[World.cell?,hg,a],by simp[World.cell?,hg,b]⟩
abbrev rT:Obj:=.cells #[.int .u64 0,.int .u64 0] 73 (0,0)
def MQ(l:List (Nat×Nat))(w:World)(e:Ending)(w':World):Prop:=∃ b∈l,e=.returned (.agg #[.int .u64 b.1,.int .u64 b.2])/\Kt nO w w'
theorem TQ{w:World}{g:Nat}{C:Nat}{l:List (Nat×Nat)}(hg:g<w.heap.size)(hc:∀ j,j<l.length->w.cell? ⟨g,j*2,none⟩=some (.int .u64 ((l.getD j (0,0)).1:Int))/\w.cell? ⟨g,j*2+1,none⟩=some (.int .u64 ((l.getD j (0,0)).2:Int)))(h0 : 0<l.length)(hl:l.length<=9223372036854775807)(n:Int)(A : -9223372036854775808<=n)(z:n<=9223372036854775807):
  Calls prog 25 #[.slice (some ⟨g,0,none⟩) l.length C,.int .i64 n] w (MQ l w):=by
 obtain⟨N,q⟩:=xe (l.length);rw[<-q] at h0 hl hc ⊢;obtain⟨m,a⟩:=xe (n.tmod (N:Int));have E:m<(N:Int):=by rw[a];exact Int.tmod_lt_of_pos _ (by omega)
 have I : -(N:Int)<m:=by rw[a];exact Int.lt_tmod_of_pos _ (by omega)
 have y:=aA ((Kt.refl nO w).alloc rT);have F:=aA (nH w rT);have B:¬(N:Int)=0:=by omega
 have i:=aA (show ∀ k,k<N->w.cell? ⟨g,k*2,none⟩=some (.int .u64 ((l.getD k (0,0)).1:Int))/\w.cell? ⟨g,k*2+1,none⟩=some (.int .u64 ((l.getD k (0,0)).2:Int))/\l.getD k (0,0)∈l from fun k c=>⟨(hc k c).1,(hc k c).2,by
  rw[ai,bo (by omega)];exact List.getElem_mem _⟩)
 have e:∀ (k:Nat),k<N->∀ (W:World),Kt nO w W->∃ b∈l,W.cell? ⟨g,k*2,none⟩=some (.int .u64 b.1)/\W.cell? ⟨g,k*2+1,none⟩=some (.int .u64 b.2):=fun k c W v=>
  ⟨_,(i.o k c).2.2,v.cell id (i.o k c).1,v.cell id (i.o k c).2.1⟩
 have f:=aA e;have G:=aA a.symm;by_cases u:m<0
 ·obtain⟨k,c⟩:∃ k:Nat,m+(N:Int)=k:=⟨(m+(N:Int)).toNat,by omega⟩;have d:k<N:=by omega
  have h:(k:Int)<N:=by omega
  obtain⟨b,hb,c0,c1⟩:=f.o k d _ y.o;have r:=aA hb;have p:=a.symm;have D:=aA ((Kt.refl nO w).alloc (.cells #[.int .u64 b.1,.int .u64 b.2] 73 (0,0)));clear hc q a e hb;go_enter func25,ntmps25;go_wp2_with fail;exact⟨rfl,.agg #[.int .u64 b.1,.int .u64 b.2],by simp[results,results25,go_sem],b,r.o,rfl,D.o⟩
 ·obtain⟨k,rfl⟩:∃ k:Nat,m=(k:Int):=⟨m.toNat,by omega⟩;have d:k<N:=by omega
  have h:(k:Int)<N:=by omega
  obtain⟨b,hb,c0,c1⟩:=f.o k d _ y.o;have r:=aA hb;have p:=a.symm;have D:=aA ((Kt.refl nO w).alloc (.cells #[.int .u64 b.1,.int .u64 b.2] 73 (0,0)));clear hc q a e hb;go_enter func25,ntmps25;go_wp2_with fail;exact⟨rfl,.agg #[.int .u64 b.1,.int .u64 b.2],by simp[results,results25,go_sem],b,r.o,rfl,D.o⟩
theorem TO{w:World}{v:Value}{l:List (Nat×Nat)}(h:mH w v l)(h0 : 0<l.length)(hl:l.length<=9223372036854775807)(n:Int)(a : -9223372036854775808<=n)(b:n<=9223372036854775807):
  Calls prog 25 #[v,.int .i64 n] w (MQ l w):=by
 obtain⟨c,d,rfl,e|⟨g,rfl,hg,hc⟩⟩:=h
 ·rw[e] at h0;simp at h0
 ·exact TQ hg hc h0 hl n a b
structure Op9 where
 k:Int
 w:Int
 a:Nat
 b:Nat
 d:Bool
 sa:Option Addr
 sn:Nat
 sc:Nat
abbrev oA(c:Op9):Value:=.agg #[.int .i64 c.k,.int .i64 c.w,.int .u64 c.a,.int .u64 c.b,.bool c.d,.slice c.sa c.sn c.sc]
abbrev kT(c:Op9):Obj:=.cells #[.int .i64 c.k,.int .i64 c.w,.int .u64 c.a,.int .u64 c.b,.bool c.d,.slice c.sa c.sn c.sc] 36
abbrev rC(p er:Int):Ending:=.returned (.tuple #[.int .u64 p,.int .i64 er])
structure Ht9(St:World->Prop)(hb:Nat):Prop where
 kp:∀ W W',St W->Kt nO W W'->St W'
 mal:∀ W a d,St W->a<18446744073709551616->Calls prog 21 #[.pointer (some ⟨hb,0,none⟩),.int .u64 ((a:Nat):Int),.bool d] W fun e w'=>∃ p er,e=rC p er/\St w'
 ali:∀ W a b d,St W->a<18446744073709551616->b<18446744073709551616->Calls prog 22 #[.pointer (some ⟨hb,0,none⟩),.int .u64 ((a:Nat):Int),.int .u64 ((b:Nat):Int),.bool d] W fun e w'=>∃ p er,e=rC p er/\St w'
 cal:∀ W a b d,St W->a<18446744073709551616->b<18446744073709551616->Calls prog 24 #[.pointer (some ⟨hb,0,none⟩),.int .u64 ((a:Nat):Int),.int .u64 ((b:Nat):Int),.bool d] W fun e w'=>∃ p er,e=rC p er/\St w'
 rea:∀ W p a d,St W->p<18446744073709551616->a<18446744073709551616->Calls prog 27 #[.pointer (some ⟨hb,0,none⟩),.int .u64 ((p:Nat):Int),.int .u64 ((a:Nat):Int),.bool d] W fun e w'=>∃ p er,e=rC p er/\St w'
 tri:∀ W,St W->Calls prog 23 #[.pointer (some ⟨hb,0,none⟩)] W fun e w'=>∃ n,e=.returned (.int .i64 n)/\St w'
 fre:∀ W p,St W->p<18446744073709551616->Calls prog 26 #[.pointer (some ⟨hb,0,none⟩),.int .u64 ((p:Nat):Int)] W fun e w'=>∃ er,e=.returned (.int .i64 er)/\St w'
 wri:∀ W p c n z gg,St W->p<18446744073709551616->n<=9223372036854775807->M.Bytes W (.slice c n z) n gg->(0<n->∀ y,(Value.slice c n z).ownBlock=some y->y≠hb)->Calls prog 28 #[.pointer (some ⟨hb,0,none⟩),.int .u64 ((p:Nat):Int),.slice c n z] W fun e w'=>∃ er,e=.returned (.int .i64 er)/\St w'
 liv:∀ W,St W->Calls prog 14 #[.pointer (some ⟨hb,0,none⟩)] W fun e w'=>∃ v l,e=.returned v/\mH w' v l/\l.length<=9223372036854775807/\(∀ b∈l,b.1<18446744073709551616/\b.2<18446744073709551616)/\St w'/\Kt nO W w'
def zK(St:World->Prop)(e:Ending)(w':World):Prop:=(∃ p er,e=rC p er)/\St w'
theorem zD{W:World}{y P Z:Nat}(h:W.heap[y]?=some (.cells #[.int .u64 P,.int .u64 Z] 73 (0,0))):W.cell? ⟨y,0,none⟩=some (.int .u64 P)/\W.cell? ⟨y,1,none⟩=some (.int .u64 Z):=by constructor <;> simp[World.cell?,h]
theorem uH{W:World}{y:Nat}{c:Op9}(h:W.heap[y]?=some (kT c)):W.cell? ⟨y,0,none⟩=some (.int .i64 c.k)/\W.cell? ⟨y,1,none⟩=some (.int .i64 c.w)/\W.cell? ⟨y,2,none⟩=some (.int .u64 c.a)/\W.cell? ⟨y,3,none⟩=some (.int .u64 c.b)/\W.cell? ⟨y,4,none⟩=some (.bool c.d)/\W.cell? ⟨y,5,none⟩=some (.slice c.sa c.sn c.sc):=by refine⟨?_,?_,?_,?_,?_,?_⟩ <;> simp[World.cell?,h]
section
variable {St:World->Prop} {hb:Nat} {W:World}
theorem QJ(T:Ht9 St hb)(c:Op9)(s:St W)(ha:c.a<18446744073709551616)(g:c.b<18446744073709551616)(r:c.k=1\/c.k=2\/c.k=5\/c.k=7):
  Calls prog 8 #[.pointer (some ⟨hb,0,none⟩),oA c] W (zK St):=by
 obtain⟨d,q,h,m,j,sa,sn,sc⟩:=c;dsimp only at ha g r;rcases r with rfl|rfl|rfl|rfl
 case' inl=>obtain⟨d,f⟩:∃ d:Int,d=1:=⟨_,rfl⟩
 case' inr.inl=>obtain⟨d,f⟩:∃ d:Int,d=2:=⟨_,rfl⟩
 case' inr.inr.inl=>obtain⟨d,f⟩:∃ d:Int,d=5:=⟨_,rfl⟩
 case' inr.inr.inr=>obtain⟨d,f⟩:∃ d:Int,d=7:=⟨_,rfl⟩
 all_goals
  have v:=aA (nH W (kT ⟨d,q,h,m,j,sa,sn,sc⟩));have l:=aA (T.kp _ _ s ((Kt.refl nO W).alloc (kT ⟨d,q,h,m,j,sa,sn,sc⟩)));have u:=aA (T.mal _ h j l.o ha);have z:=aA (T.ali _ h m j l.o ha g);have y:=aA (T.cal _ h m j l.o ha g);have A:=aA (T.tri _ l.o);obtain⟨F,B,C,G,E,D⟩:=uH v.o;subst f;clear T;go_enter func8,ntmps8;go_wp2_with fail
 ·refine y.o.mono ?_;rintro e n ⟨p,i,rfl,s1⟩;go_wp2_with fail;exact⟨rfl,.tuple #[.int .u64 p,.int .i64 i],by simp[results,results8,go_sem],⟨_,_,rfl⟩,s1⟩
 ·refine A.o.mono ?_;rintro e n ⟨p,rfl,s1⟩;go_wp2_with fail;exact⟨rfl,.tuple #[.int .u64 (IntKind.u64.wrap p),.int .i64 0],by simp[results,results8,go_sem],⟨_,_,rfl⟩,s1⟩
 ·refine z.o.mono ?_;rintro e n ⟨p,i,rfl,s1⟩;go_wp2_with fail;exact⟨rfl,.tuple #[.int .u64 p,.int .i64 i],by simp[results,results8,go_sem],⟨_,_,rfl⟩,s1⟩
 ·refine u.o.mono ?_;rintro e n ⟨p,i,rfl,s1⟩;go_wp2_with fail;exact⟨rfl,.tuple #[.int .u64 p,.int .i64 i],by simp[results,results8,go_sem],⟨_,_,rfl⟩,s1⟩
theorem TN(T:Ht9 St hb)(c:Op9)(s:St W)(n:¬(c.k=1\/c.k=2\/c.k=5\/c.k=7))(q : -9223372036854775808<=c.w)(B:c.w<=9223372036854775807)(ha:c.a<18446744073709551616)(D:Nat->Nat)(hd:M.Bytes W (.slice c.sa c.sn c.sc) c.sn D)(hs:c.sn<=c.sc)(hc:c.sc<=9223372036854775807)(m : 0<c.sn->∀ y,(Value.slice c.sa c.sn c.sc).ownBlock=some y->y≠hb):
  Calls prog 8 #[.pointer (some ⟨hb,0,none⟩),oA c] W (zK St):=by
 obtain⟨d,X,E,cb,cd,sa,sn,sc⟩:=c;dsimp only at n q B ha hd hs hc m;have k1:¬d=1:=fun e=>n (.inl e)
 have k2:¬d=2:=fun e=>n (.inr (.inl e))
 have k5:¬d=5:=fun e=>n (.inr (.inr (.inl e)))
 have k7:¬d=7:=fun e=>n (.inr (.inr (.inr e)))
 have b1:(d == 1)=false:=ag.2 k1;have b2:(d == 2)=false:=ag.2 k2;have b5:(d == 5)=false:=ag.2 k5;have b7:(d == 7)=false:=ag.2 k7;have HT:=aA T;have u:=aA (nH W (kT ⟨d,X,E,cb,cd,sa,sn,sc⟩));have K1:=aA ((Kt.refl nO W).alloc (kT ⟨d,X,E,cb,cd,sa,sn,sc⟩));have S1:=aA (T.kp _ _ s K1.o);have HD:=aA hd;have LV:=aA (T.liv _ S1.o);obtain⟨J,V,F,x3,L,I⟩:=uH u.o;clear n hd;go_enter func8,ntmps8;go_wp2_with fail;refine LV.o.mono ?_;rintro e w2 ⟨v,l,rfl,hv,hl,f,s2,r⟩;have S2:=aA s2;have K2:=aA r;have RV:=aA hv;have B9:=aA f;obtain⟨va,vc,rfl,-⟩:=hv;obtain⟨N,hN⟩:=xe (l.length);have Q:=aA hN;rw[<-hN] at hl ⊢;clear hN f s2 r;by_cases h0:N=0
 ·have Y:((N:Int) == 0)=true:=co.2 (by omega);subst h0;go_wp2_with fail;exact⟨rfl,.tuple #[.int .u64 0,.int .i64 0],by simp[results,results8,go_sem],⟨_,_,rfl⟩,S2.o⟩
 ·have Y:((N:Int) == 0)=false:=ag.2 (by omega);have a0:¬(N:Int)=0:=by omega
  have X2:=aA ((K2.o.block _ (lH u.o) id).trans u.o);obtain⟨J,V,F,x3,L,I⟩:=uH X2.o;have G:=aA (TO RV.o (by have:=Q.o;omega) (by have:=Q.o;omega) X q B);rw[<-Q.o] at G;go_wp2_with fail;refine G.o.mono ?_;rintro e K ⟨b,z,rfl,g⟩;have f:=B9.o b z;obtain⟨P,Z⟩:=b;dsimp only at f;obtain⟨C,hZ⟩:=f;have K3:=aA ((nT K2.o g).alloc (.cells #[.int .u64 P,.int .u64 Z] 73 (0,0)));have A:=aA (T.kp _ _ S2.o (g.alloc (.cells #[.int .u64 P,.int .u64 Z] 73 (0,0))));have X3:=aA ((K3.o.block _ (lH u.o) id).trans u.o);have Y3:=aA (nH K (.cells #[.int .u64 P,.int .u64 Z] 73 (0,0)));have D3:=aA (HD.o.keep (fL (nT K1.o K3.o)));clear g z RV B9 G J V F x3 L I;obtain⟨J,V,F,x3,L,I⟩:=uH X3.o;dsimp only;go_upto_region 13 with fail;obtain⟨y0,y1⟩:=zD Y3.o;generalize K.alloc (.cells #[.int .u64 P,.int .u64 Z] 73 (0,0))=W3 at *;generalize K.heap.size=bb at *;by_cases k3:d=3
  ·subst k3;have FR:=aA (T.fre _ P A.o C);go_wp2_with fail;refine FR.o.mono ?_;rintro e U ⟨h,rfl,s4⟩;go_wp2_with fail;exact⟨rfl,.tuple #[.int .u64 0,.int .i64 h],by simp[results,results8,go_sem],⟨_,_,rfl⟩,s4⟩
  have b3:(d == 3)=false:=ag.2 k3;by_cases k4:d=4
  ·subst k4;have RE:=aA (T.rea _ P E cd A.o C ha);go_wp2_with fail;refine RE.o.mono ?_;rintro e U ⟨p,h,rfl,s4⟩;go_wp2_with fail;exact⟨rfl,.tuple #[.int .u64 p,.int .i64 h],by simp[results,results8,go_sem],⟨_,_,rfl⟩,s4⟩
  have b4:(d == 4)=false:=ag.2 k4;by_cases k6:d=6
  ·subst k6;have a2:(sn:Int)%18446744073709551616=(sn:Int):=(by omega);by_cases a1:Z<sn
   ·have l1:(Z:Int)<sn:=(by omega);have l2:(Z:Int)<=sc:=(by omega);have l3:Z<=sc:=(by omega);have R:=aA (T.wri _ P sa Z sc D A.o C (by omega) (by
     obtain⟨d1,ao,cap,d2,d3⟩:=D3.o
     cases d2
     exact⟨fun i hi=>d1 i (by omega),_,_,rfl,d3.elim (fun e=>.inl (by omega)) (fun ⟨a,e1,e2,e3⟩=>.inr ⟨a,e1,e2,fun j hj=>e3 j (by omega)⟩)⟩) (fun _ y hy=>m (by omega) y (by cases sa <;> exact hy)))
    go_wp2_with fail;refine R.o.mono ?_;rintro e U ⟨h,rfl,s4⟩;go_wp2_with fail;exact⟨rfl,.tuple #[.int .u64 0,.int .i64 h],by simp[results,results8,go_sem],⟨_,_,rfl⟩,s4⟩
   ·have l1:¬(Z:Int)<sn:=(by omega);have R:=aA (T.wri _ P sa sn sc D A.o C (by omega) D3.o m);go_wp2_with fail;refine R.o.mono ?_;rintro e U ⟨h,rfl,s4⟩;go_wp2_with fail;exact⟨rfl,.tuple #[.int .u64 0,.int .i64 h],by simp[results,results8,go_sem],⟨_,_,rfl⟩,s4⟩
  have b6:(d == 6)=false:=ag.2 k6;go_wp2_with fail;exact⟨rfl,.tuple #[.int .u64 0,.int .i64 0],by simp[results,results8,go_sem],⟨_,_,rfl⟩,A.o⟩
end
theorem zB{I:W.Img}{b:Nat×Nat}(hb:b∈W.blks I) : 16<=b.2/\I.bS<=b.1/\b.1-I.bS+b.2<=I.nm:=⟨(W.blks_ok hb).2.s16,(W.blks_ok hb).2.lo,(W.blks_ok hb).2.hi⟩
theorem HW.lv9{w W:World}{hb sb lw:Nat}{x:Bx}{t:Bt}{fr:Nat->List Nat}{ls:List (Nat×Nat)}{S:Sb}{s:Int}(H:HW w W hb sb lw x t fr ls S s)(may:M.mayB x.bS (x.lim:Int) (x.o:Int)=true):(jH x t S t.m.n).length<=9223372036854775807/\∀ b∈jH x t S t.m.n,b.1<18446744073709551616/\b.2<18446744073709551616:=by have e:=H.po.nums.2.1;have d:=H.po.nums.2.2.2.1;refine⟨by have:=H.lvb _ (aj _);omega,fun b hb=>?_⟩;obtain⟨B,h⟩:=H.st0 may;rw[<-h.blks] at hb;obtain⟨f,a,c⟩:=zB hb;have a:x.bS<=b.1:=a;have c:b.1-x.bS+b.2<=x.n:=c;omega
theorem H9.ht{w:World}{hb bS lim o:Nat}(may:M.mayB bS (lim:Int) (o:Int)=true):Ht9 (fun W=>H9 w W hb bS lim o) hb where
 kp W W' h k:=h.keep k
 mal W a d h ha:=by obtain⟨sb,lw,x,t,fr,ls,S,H,e⟩:=h;refine(zkp H a ha d _ rfl).mono ?_;rintro _ w' ⟨p,er,rfl,hr⟩;exact⟨_,_,rfl,hr.h9 H e⟩
 ali W a b d h ha hb2:=by
  obtain⟨sb,lw,x,t,fr,ls,S,H,e⟩:=h
  cases hp:gJ a with
  | true=>
   refine(zin H a b ha hb2 d hp _ rfl).mono ?_;rintro _ w' ⟨p,er,rfl,hr⟩;exact⟨_,_,rfl,hr.h9 H e⟩
  | false=>
   refine(zgk H a b ha hb2 d hp).mono ?_;rintro _ w' ⟨rfl,hk⟩;exact⟨_,_,rfl,(H.keep hk).h9 e⟩
 cal W a b d h ha hb2:=by
  obtain⟨sb,lw,x,t,fr,ls,S,H,e⟩:=h;by_cases hov:a≠0/\18446744073709551615/a<b
  ·refine(zgy H a b ha hb2 d hov.1 hov.2).mono ?_;rintro _ w' ⟨rfl,hk⟩;exact⟨_,_,rfl,(H.keep hk).h9 e⟩
  ·have hpr:a*b<18446744073709551616:=by
    rcases Nat.eq_zero_or_pos a with h0|h0
    ·rw[h0,Nat.zero_mul];decide
    ·have h1:b<=18446744073709551615/a:=by
      have:¬ 18446744073709551615/a<b:=fun e=>hov ⟨by omega,e⟩
      omega
     have h2:=(Nat.le_div_iff_mul_le h0).1 h1;rw[aq];omega
   refine(ZD H a b ha hb2 d hpr _ rfl).mono ?_;rintro _ w' ⟨p,er,rfl,hr⟩;exact⟨_,_,rfl,hr.h9 H e⟩
 rea W p a d h hp ha:=by obtain⟨sb,lw,x,t,fr,ls,S,H,e⟩:=h;refine(zjL H p a hp ha d _ rfl).mono ?_;rintro _ w' ⟨p',er,rfl,hr⟩;exact⟨_,_,rfl,hr.h9 H e⟩
 tri W h:=by obtain⟨sb,lw,x,t,fr,ls,S,H,e⟩:=h;obtain⟨r,hr,-⟩:=H.po.nums.2.2.2.2.1;refine(SJ H hr).mono ?_;rintro _ w' ⟨rfl,x',t',nx,-⟩;exact⟨_,rfl,nx.h9 e⟩
 fre W p h hp:=by obtain⟨sb,lw,x,t,fr,ls,S,H,e⟩:=h;refine(SA H p hp).mono ?_;rintro _ w' ⟨er,rfl,hr⟩;exact⟨_,rfl,hr.h9 H e⟩
 wri W p c n z gg h hp hn hv hnb:=by obtain⟨sb,lw,x,t,fr,ls,S,H,e⟩:=h;refine(YO H p n hp hn c z gg hv hnb).mono ?_;rintro _ w' ⟨er,rfl,hr⟩;exact⟨_,rfl,hr.h9 H e⟩
 liv W h:=by obtain⟨sb,lw,x,t,fr,ls,S,H,e⟩:=h;obtain⟨q1,q2⟩:=H.lv9 (by rw[e.1,e.2.1,e.2.2];exact may);refine(BN H).mono ?_;rintro _ w' ⟨v,rfl,hr⟩;exact⟨v,_,rfl,MG hr,q1,q2,(H.keep hr.kp).h9 e,hr.kp⟩
structure Pu8(x:Bx)(t:Bt)(fr:Nat->List Nat)(ls:List (Nat×Nat))(S:Sb)(h:Nat->Int):Prop where
 sf:Sf x t fr ls
 st:t.m.n*4096=x.n
 bm:x.bS%4096=0
 si:SI x t S
 hd:∀ k,k<8->h k=bC (S.pl k)
 lv:fB S
 br:x.bS%x.R=0
def Oc8(w:World)(bS lim o nb:Nat)(gg:Nat->Nat)(PP:Nat->Option Pg)(mp:Mp)(hd:Nat->Nat)(fr:Nat->List Nat)(S:Sb)(e:Ending)(w':World):Prop:=∃ hb sb lw x f ls,e=.returned (.tuple #[.pointer (some ⟨hb,0,none⟩),.int .i64 0])/\HW w w' hb sb lw x ⟨f,mp,hd⟩ fr ls S 0/\x.bS=bS/\x.R=4096*2 ^ o/\x.lim=lim/\x.n=nb/\x.o=o/\x.P=PP/\∀ i,i<x.n->f i=gg i
theorem zh9(bS lim o:Nat)(a0:bS<18446744073709551616)(hl:lim<=64)(ho:o<=8)(hm:M.mayB bS (lim:Int) (o:Int)=true)(r nb np:Nat)(hr:r<=lim)(p:np=r*2 ^ o)(v:nb=np*4096)(G Q U:Option Addr)(N Z A nq:Nat)(y:Nat->Nat)(PP:Nat->Option Pg)(I T g:Nat)(hd:List Nat)(m:∀ i,hd.getD i 0<18446744073709551616)(hN:hd.length=o+1)(mp:Mp)(V:mp.o=o)(w:World)(hT:iT w)(Y:M.Bytes w (.slice G nb N) nb y)(hh:nD w I T hd)
  (B:∀ W,Kt nO w W->Calls prog 97 #[.int .i64 o,.slice Q np Z,.slice U nq A] W fun e w'=>∃ b,e=.returned (.tuple #[.pointer (some ⟨b,0,none⟩),.int .i64 0])/\Hd (∃ B',MpA w' b B' mp/\(∀ x,aO b B' o x->W.heap.size<=x)/\Kt nO W w')) (a:Addr) (cap:Nat) (h:Nat->Int) (F:pH w a h) (fr:Nat->List Nat) (S:Sb)
  (pu:∀ x f,x.bS=bS->x.R=4096*2 ^ o->x.lim=lim->x.n=nb->x.o=o->x.P=PP->(∀ i,i<x.n->f i=y i)->∃ ls,Pu8 x ⟨f,mp,fun i=>hd.getD i 0⟩ fr ls S h):
  Calls prog 15 #[.agg #[.int .u64 bS,.int .i64 lim,.int .i64 o,.int .i64 r,.slice G nb N,.slice Q np Z,.slice U nq A,.slice (some ⟨I,T,none⟩) (o+1) g,.slice (some a) 8 cap]] w (Oc8 w bS lim o nb y PP mp (fun i=>hd.getD i 0) fr S):=by
 obtain⟨j,l⟩:∃ ob,ob=Obj.cells #[.int .u64 bS,.int .i64 lim,.int .i64 o,.int .i64 r,.slice G nb N,.slice Q np Z,.slice U nq A,.slice (some ⟨I,T,none⟩) (o+1) g,.slice (some a) 8 cap] 42 (0,0):=⟨_,rfl⟩;have z:=aA ((Kt.refl nO w).alloc j);have X0:=aA (nH w j);have RO:=aA (WZ bS a0 lim o hl ho hm r nb np hr p v G Q U N Z A nq y PP I T g hd m hN mp V (w.alloc j) (Y.kept (fL z.o) (fun _ _ e=>e)) (hh.keep z.o) (fun W hW=>B W (nT z.o hW)));have NB:=aA (show r*(4096*2 ^ o)=nb from by rw[v,p,cx,aq (2 ^ o) 4096]);have a2:=aA (F.keep z.o);have XC:=aA (show ∀ W,Kt nO (w.alloc j) W->W.heap[w.heap.size]?=some (Obj.cells #[.int .u64 bS,.int .i64 lim,.int .i64 o,.int .i64 r,.slice G nb N,.slice Q np Z,.slice U nq A,.slice (some ⟨I,T,none⟩) (o+1) g,.slice (some a) 8 cap] 42 (0,0))from fun W hW=>by rw[<-l];exact(hW.block _ (lH X0.o) (fun x=>x)).trans X0.o);have PU:=aA pu;have HT:=aA hT;clear hm B Y hh hN m p v V F hr X0 pu hT;subst l;go_enter func15,ntmps15;go_wp2_with fail;refine RO.o.mono ?_;rintro e w1 ⟨lw,x,f,rfl,C,J,e2,L,X,e5,e6,e7⟩;rw[NB.o] at X;obtain⟨ls,d⟩:=PU.o x f J e2 L X e5 e6 e7;have EX:=aA (show x.bS=bS/\x.R=4096*2 ^ o/\x.lim=lim/\x.n=nb/\x.o=o/\x.P=PP/\∀ i,i<x.n->f i=y i from⟨J,e2,L,X,e5,e6,e7⟩);have P1:=aA (show PO w w1 lw x ⟨f,mp,fun i=>hd.getD i 0⟩ fr ls from⟨C.from8 z.o,d.sf,d.st,d.bm⟩);have a1:=aA d;have K:=aA (NQ P1.o HT.o a cap h (a2.o.keep C.kp));have X1:=aA (XC.o w1 C.kp);have K1:=aA C.kp;clear C J e2 L X e5 e6 e7 d RO PU NB;have EB:=aA (show w.heap.size<w1.heap.size from lH X1.o);generalize E:w.heap.size=cb at *;have a3:=aA E;clear E;have c8:w1.cell? ⟨cb,8,none⟩=some (.slice (some a) 8 cap):=by simp[World.cell?,X1.o]
 go_wp2_with fail;refine K.o.mono ?_;rintro e c ⟨sb,rfl,hs,q,hz⟩;have S2:=aA hs;have K2:=aA q;have X2:=aA (XC.o c (nT K1.o q));have d0:c.cell? ⟨cb,0,none⟩=some (.int .u64 bS):=by simp[World.cell?,X2.o]
 have d1:c.cell? ⟨cb,1,none⟩=some (.int .i64 lim):=by simp[World.cell?,X2.o]
 have d2:c.cell? ⟨cb,2,none⟩=some (.int .i64 o):=by simp[World.cell?,X2.o]
 clear q c8 hs hz K;have D:=aA (show ∀ W',W'=c.alloc (rQ 0 lw sb bS lim o)->HW w W' c.heap.size sb lw x ⟨f,mp,fun i=>hd.getD i 0⟩ fr ls S 0 from by
  rintro W' rfl;obtain⟨J,e2,L,X,e5,e6,e7⟩:=EX.o;have u:=a1.o;have k:=(Kt.refl nO c).alloc (rQ 0 lw sb bS lim o);have o3:SO w c sb lw x ⟨f,mp,fun i=>hd.getD i 0⟩ fr ls S h:=⟨S2.o,u.sf,u.st,u.bm,u.si,u.hd⟩;refine⟨⟨_,o3.keep k⟩,u.lv,?_,?_,u.br⟩
  ·rw[J,L,e5];exact nH c _
  ·have:=K2.o.size;have:=EB.o;have:=a3.o;omega)
 go_wp2_with fail;exact⟨rfl,.tuple #[.pointer (some ⟨c.heap.size,0,none⟩),.int .i64 0],by simp[results,results15,go_sem],c.heap.size,sb,lw,x,f,ls,rfl,D.o _ rfl,EX.o⟩
theorem OY{w:World}{I:W.Img}{V:W.ImV}(h:W.ImD w I V)(hc:(W.chk I).1=0)(hT:iT w):Calls prog 15 #[W.imA I V] w (Op8 w I):=by
 obtain⟨fr,S,hl⟩:=SX hc;obtain⟨r0,hS⟩:=W.sn9_chk hc;have A:∀ i,i<I.np->W.PgIn (I.pg i):=fun i hi=>by
  obtain⟨-,oa,oc,-,e|⟨y,o,-,-,hc⟩⟩:=h.pgs
  ·omega
  ·exact(hc i hi).1
 have m:=W.may_of (W.chk_zero hc 0 (by decide));obtain⟨kk,LL,f1,f2,f3,f4,f5,f6,f7,f8⟩:=W.may_facts m;obtain⟨q1,q2,q3⟩:=AP ((rI I).symm.trans (W.chk_zero hc 1 (by decide)));have eL:I.lim=((I.lim.toNat:Nat):Int):=by omega
 have T:I.ord=((I.ord.toNat:Nat):Int):=by omega
 have eR:I.reg=((I.reg.toNat:Nat):Int):=by omega
 have p:=hS.hl;obtain⟨v1,v2,v3,v4,v5⟩:=V;obtain⟨ba,bc,g1,hB⟩:=TG h.mem;obtain⟨pn,K,N,X,hP⟩:=h.pgs;obtain⟨ws,qn,L,F,Z,U⟩:=h.prs;obtain⟨g0,q0,J,g4,hH,B⟩:=yW h.hds (fun e=>by rw[e] at p;cases p);obtain⟨a,cap,Y,h8⟩:=yP h.pts hS.tl;dsimp only at g1 X Z g4 Y;subst g1 X Z g4 Y;have R:∀ j,j<I.ord.toNat->(rN I).wd j=I.pr j:=fun j r=>by
  show(if j<I.ord.toNat then dA (I.pr j) (I.np/2 ^ (j+1)) else (dC (aY I.ord.toNat) I.np).wd j)=_
  rw[ae r];have h7:=(wA (JC ((rH I).symm.trans (W.chk_zero hc 6 (by decide))) j (by rw[hS.no];exact r))).2;refine ZR (hS.pl j r) ?_ h7;rcases U with e|⟨y,f,-,-,hc⟩
  ·rw[hS.no] at e;omega
  ·exact(hc j (by rw[hS.no];exact r)).2.1
 have z:∀ x f,x.bS=I.bS->x.n=I.nm->x.o=I.ord.toNat->x.P=fK S (rN I)->(∀ i,i<x.n->f i=I.mem i)->Im9 I x ⟨f,rN I,fun i=>I.hd.getD i 0⟩ S:=fun x f g l b u D=>
  ⟨g,l,b,u,fun q hq=>zje fun i hi=>D _ (by omega),b.symm,rfl,fun i hi=>rfl,fun j r=>R j (by rw[<-b];exact r),fun j r=>rfl⟩
 have d:=zh9 I.bS I.lim.toNat I.ord.toNat h.b64 (by omega) (by omega) (by rw[<-eL,<-T];exact m) I.reg.toNat I.nm I.np (by omega) q1.symm hS.nm ba K L bc N F I.no I.mem (fK S (rN I)) g0 q0 J I.hd B hS.hl (rN I) rfl w hT hB hH
  (fun W C=>WC (.slice K I.np N) (.slice L I.no F) ws ⟨I.ord.toNat,I.np,I.pg,I.pr⟩ (by show I.ord.toNat<=8;omega) hS.np1 ⟨_,hS.np⟩ W ⟨pn,K,N,rfl,hP.imp id fun ⟨y,o,g,l,b⟩=>⟨y,o,g,bg l C.size,fun i hi=>⟨yU (b i hi).1,yR ((b i hi).2.keep C)⟩⟩⟩
   (by rw[<-hS.no];exact⟨qn,L,F,rfl,U.imp id fun ⟨y,o,g,l,b⟩=>⟨y,o,g,bg l C.size,fun i hi=>⟨C.cell (fun x=>x) (b i hi).1,(b i hi).2.kept C (fun _ _ x=>x)⟩⟩⟩)
   (fun i hi=>yZ hS A hi _ rfl rfl) (fun k hk=>hS.pl k hk))
  a cap (fun c=>I.pt.getD c 0) h8 fr S
  (fun x f g l b u D Q E=>by have hx:=z x f g u D Q E;obtain⟨u1,u2,u3⟩:=OE hc A hl hx;obtain⟨ls,G⟩:=Sf.of9 u1;have v:=hS.bm;exact⟨ls,G,u1.st,by rw[g];exact Nat.mod_eq_zero_of_dvd (Nat.dvd_trans (Nat.dvd_mul_right _ _) (cz v)),u1.si,u3,u1.lv,by rw[g,l];exact v⟩)
 rw[<-eL,<-T,<-eR] at d;rw[<-p] at d;refine d.mono ?_;rintro e w' ⟨hb,sb,lw,x,f,ls,rfl,H,g,l,b,u,D,Q,E⟩;exact⟨hb,sb,lw,x,_,fr,ls,S,rfl,H,z x f g u D Q E,hl,b,fun i hi=>E i (by rw[u];exact hi)⟩
end Go.Proofs.YtfmgnljlkdmndaaGreatDoor
