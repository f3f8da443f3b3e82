import Derived.Test.YtfmgnljlkdmndaaGreatDoorWe
import Derived.Test.YtfmgnljlkdmndaaGreatDoorWf
import Derived.Test.YtfmgnljlkdmndaaGreatDoorXl
set_option maxRecDepth 1000000
set_option maxHeartbeats 0
namespace Go.Proofs.YtfmgnljlkdmndaaGreatDoor
open Tryz RowKit
open Go.MuLone
set_option linter.unusedVariables false
section
variable {w W W1 W2 W':Wd} {hb sb lw:Nat} {x:Bx} {t:Bt} {fr:Nat->List Nat} {ls:List (Nat×Nat)} {S:Sb} {s:Int}
theorem aR.r{W sb lw h}(o:SO w W sb lw x t fr ls S h){p z r:Nat}(hl:aR x ls S p z)(m : 4096<=r)(d:r<z)(l:(∃ k,k<8/\r=aB k)\/(∃ k,k<=x.o/\r=4096*2 ^ k)):∃ q k j,(q,k)∈ls/\S.c q=none/\p=ad x q/\z=4096*2 ^ k/\r=4096*2 ^ j/\j<=k/\k<=8:=by
 rcases l with ⟨j,a,rfl⟩|⟨j,a,rfl⟩
 ·have:=cM a;omega
 ·rcases hl with ⟨g,k,i,e,rfl⟩|⟨q,k,b,hc,hp,rfl⟩
  ·have:=cM (o.si.pg g k e.1).1;omega
  ·refine⟨q,k,j,b,hc,hp,rfl,rfl,?_,an (o.al b).1 o.po.en.1⟩;have f:=Nat.lt_of_mul_lt_mul_left d;exact Nat.le_of_lt ((iG j k).1 f)
theorem zgG(H:HW w W hb sb lw x t fr ls S 0)(sz:Nat)(hs:sz<18446744073709551616)(d:Bool)(m:Nat)(i:m=max sz 16):Calls prog 27 #[.pointer (some ⟨hb,0,none⟩),.int .u64 0,.int .u64 sz,.bool d] W fun e j=>∃ g a,e=.returned (.tuple #[.int .u64 ((g:Nat):Int),.int .i64 a])/\Rl w W hb sb lw x t fr ls S 0 0 m d g a j:=by
 have q:=aA H.lock;have RQ:=aA (wK H.in sz 1 hs (by decide) d m (by omega));have ST:=aA (fun (b:Wd) (p:Nat) (a:Int) (h:Rq8 w (eI W hb) hb sb lw x t fr ls S 1 m d p a b)=>And.intro (h.st H.in) (h.o H));clear H i;go_enter_defers func27,ntmps27;go_wp2_with fail;refine q.o.mono ?_;rintro e u ⟨rfl,rfl⟩;go_wp2_with fail;refine RQ.o.mono ?_;rintro e b ⟨p,a,rfl,hq⟩;obtain⟨⟨x',r,n,l,y,c⟩,hD⟩:=ST.o _ _ _ hq;have k:=aA (c.unlock .returning);have D:=aA (show Rl w W hb sb lw x t fr ls S 0 0 m d p a (eJ b hb)from .nil rfl hD);clear hD c hq;go_wp2_with fail;refine dm (f:=30) (args:=#[.pointer (some ⟨hb,0,none⟩)]) (by simp) (by simp[go_sem]) ?_;refine k.o.mono ?_;rintro e v z ⟨rfl,rfl,rfl⟩;exact⟨_,results_tmp2 rfl _ _ _,p,a,rfl,D.o⟩
theorem zjV(H:HW w W hb sb lw x t fr ls S 0)(p sz:Nat)(hp:p<18446744073709551616)(h0:p≠0)(hs:sz<18446744073709551616)(d:Bool)(m:Nat)(hm:m=max sz 16):Calls prog 27 #[.pointer (some ⟨hb,0,none⟩),.int .u64 p,.int .u64 sz,.bool d] W fun e y=>∃ E F,e=.returned (.tuple #[.int .u64 ((E:Nat):Int),.int .i64 F])/\Rl w W hb sb lw x t fr ls S 0 p m d E F y:=by
 have LK:=aA H.lock;have v:=aA H;have a6:((p:Int) == 0)=false:=by rw[ag];omega
 have SS:=aA (ID H.in p hp);have u:=aA (fun W' (H':HW w W' hb sb lw x t fr ls S 1)=>xP H' sz 1 hs (by decide) m (by omega));have R:=aA h0;have X : 16<=m:=by omega
 have KD:=aA (vY (o:=x.o) X);clear H h0 hm;go_enter_defers func27,ntmps27;go_wp2_with fail;refine LK.o.mono ?_;rintro e w1 ⟨rfl,rfl⟩;go_wp2_with fail;refine SS.o.mono ?_;rintro e w2 ⟨a,z,l,rfl,a0,Z⟩;have N:=aA (Z.alloc (bY a z));have X5:=aA (nH w2 (bY a z));obtain⟨x0,x1,xf⟩:=fQ X5.o;have n:=aA (v.o.in.dk N.o);clear Z SS;go_upto_region 6 with fail;generalize w2.alloc (bY a z)=P at *;generalize w2.heap.size=y5 at *;rcases a0 with ⟨rfl,rfl,hl⟩|⟨rfl,hl⟩
 ·have L:=aA hl;have hz:z<=9223372036854775808/\a<9223372036854775808/\0<z:=by
   obtain⟨h',o⟩:=v.o.so;have h1:=o.inside hl;have h2:=(o.span hl).1;have n4:=o.po.en.2.2.2.1;omega
  obtain⟨a3,a4,a2⟩:=hz;clear hl
  cases ho:cX x.o m with
  | false=>have A:=aA (n.o.unlock .returning);have D:=aA (show Rl w W hb sb lw x t fr ls S 0 a m d 0 3 (eJ P hb)from .big z R.o L.o ho rfl rfl (v.o.ft N.o));rw[ho] at u;rw[ac (by decide),ac (by decide)] at u;clear ho;go_wp2_with fail;refine(u.o _ n.o).mono ?_;rintro e w4 ⟨rfl,b⟩;replace b:=b.symm;subst b;go_wp2_with fail;refine dm (f:=30) (args:=#[.pointer (some ⟨hb,0,none⟩)]) (by simp) (by simp[go_sem]) ?_;refine A.o.mono ?_;rintro e u' w9 ⟨rfl,rfl,rfl⟩;exact⟨_,results_tmp2 rfl _ _ _,0,3,rfl,D.o⟩
  | true=>
   have HO:=aA ho;have kd:=KD.o ho;rw[ho] at u;rw[ae rfl,ae rfl] at u;obtain⟨r,hr⟩:=xe (2 ^ cl m);have I:=aA hr;rw[<-hr] at u kd;have a5:r<=1048576:=by
    rcases kd with ⟨k,Z,rfl⟩|⟨k,Z,rfl⟩
    ·have:=cM Z;omega
    ·have h8:=v.o.po.en.1;have : 2 ^ k<=2 ^ 8:=bj (by decide) (by omega);omega
   clear ho hr KD;by_cases he:r=z;·subst he;have A:=aA (n.o.unlock .returning);have D:=aA (show Rl w W hb sb lw x t fr ls S 0 a m d a 0 (eJ P hb)from .same R.o HO.o (by rw[<-I.o];exact L.o) rfl rfl (v.o.ft N.o));clear kd;go_wp2_with fail;refine(u.o _ n.o).mono ?_;rintro e w4 ⟨rfl,b⟩;replace b:=b.symm;subst b;go_wp2_with fail;refine dm (f:=30) (args:=#[.pointer (some ⟨hb,0,none⟩)]) (by simp) (by simp[go_sem]) ?_;refine A.o.mono ?_;rintro e u' w9 ⟨rfl,rfl,rfl⟩;exact⟨_,results_tmp2 rfl _ _ _,a,0,rfl,D.o⟩
   ·have q1:((r:Int) == (z:Int))=false:=(by rw[ag];omega);have HE:=aA he;clear he;by_cases hb4 : 4096<=r/\r<z
    ·obtain⟨b1,b2⟩:=hb4;obtain⟨q,k,j,hm,hc,V,C,B,hj,J⟩:∃ q k j,(q,k)∈ls/\S.c q=none/\a=ad x q/\z=4096*2 ^ k/\r=4096*2 ^ j/\j<=k/\k<=8:=by
      obtain⟨h',o⟩:=v.o.so;exact aR.r o L.o b1 b2 kd
     have K4:=aA ((kz P).drew);have HD:=aA (n.o.dk K4.o);have X6:=aA (show P.drew.heap[y5]?=some (bY a z)from X5.o);have OZ:=aA (fun W'=>sS k J W');have OR:=aA (fun W'=>sS j (an hj J) W');rw[<-C] at OZ;rw[<-B] at OR;have BD:=aA (AY HD.o.po.pl);have SH:=aA ((HD.o.shrink hm hc hj a V).mono fun e y h=>(show e=.returned (.int .i64 0)/\(y.cell? ⟨hb,5,none⟩=some (.pointer (some ⟨lw,0,none⟩))/\y.cell? ⟨y5,1,none⟩=some (.int .u64 z))/\Rl w W hb sb lw x t fr ls S 0 a m d a 0 (eJ y hb)/\∃ x' G i g U,HW w y hb sb lw x' G i g U 1 from by
      obtain⟨he,hS⟩:=h;have Q:=(hS.from (nT N.o K4.o)).o v.o;rw[<-C,<-B,I.o] at Q;refine⟨he,?_,.shr z R.o HO.o L.o (by rw[<-I.o];exact b1) (by rw[<-I.o];exact b2) rfl rfl Q,?_⟩;·obtain⟨G,q',k',j',_,_,_,_,_,_,nx,_⟩:=hS;obtain⟨h',o⟩:=HD.o.so;exact⟨nx.H.c.2.2.2.2.1,(fQ ((nx.kp.block _ (lH X6.o) (o.jz X6.o)).trans X6.o)).2.1⟩
      ·obtain⟨G,q',k',j',_,_,_,_,_,_,nx,_⟩:=hS;exact⟨_,_,_,_,_,nx.H⟩))
     obtain⟨c0,c2,c3,c4,c5,c6⟩:=n.o.c;obtain⟨d0,d2,d3,d4,d5,d6⟩:=HD.o.c;obtain⟨y0,y1,yf⟩:=fQ X6.o;have g1:(4096:Int)<=(r:Int):=(by omega);have g2:(r:Int)<z:=(by omega);clear kd hm hc V C B hj J b1 b2;go_wp2_with fail;refine(u.o _ n.o).mono ?_;rintro e w4 ⟨rfl,b⟩;replace b:=b.symm;subst b;go_wp2_with fail;go_region_held3 (fun y=>y.cell? ⟨hb,5,none⟩=some (.pointer (some ⟨lw,0,none⟩))/\y.cell? ⟨y5,1,none⟩=some (.int .u64 z)) (first|with_reducible exact⟨d5,y1⟩|with_reducible exact e6) (first
      | (go_at_call 33;(with_reducible refine(BD.o).mono ?_);rintro e w5 ⟨rfl,K⟩;replace K:=K.symm;subst K)
      | (go_at_call 66;(first | with_reducible refine(OZ.o _).mono ?_ | with_reducible refine(OR.o _).mono ?_);rintro e w5 ⟨rfl,K⟩;replace K:=K.symm;subst K)
      | (go_at_call 65;(with_reducible refine(SH.o).mono ?_);rintro e T ⟨rfl,e6,hD,x',G,i,g,U,Y⟩;have A:=aA (Y.unlock .returning);have D:=aA hD;clear hD Y)
      | fail)
     all_goals
      go_wp2_with fail;refine dm (f:=30) (args:=#[.pointer (some ⟨hb,0,none⟩)]) (by simp) (by simp[go_sem]) ?_;refine A.o.mono ?_;rintro e u' w9 ⟨rfl,rfl,rfl⟩;exact⟨_,results_tmp2 rfl _ _ _,a,0,rfl,D.o⟩
    ·have MV:=aA (TM n.o L.o r kd d);have MD:=aA (fun (T:Wd) (E:Nat) (F:Int) (h:Mq w P hb sb lw x t fr ls S 1 a z r d E F T)=>show(∃ x' G i g U,HW w T hb sb lw x' G i g U 1)/\Rl w W hb sb lw x t fr ls S 0 a m d E F (eJ T hb)from by
      refine⟨h.st n.o,.mov z R.o HO.o L.o (by rw[<-I.o];exact HE.o) (by rw[<-I.o];exact hb4) ?_⟩;have h2:=(h.from N.o).o v.o;rw[I.o] at h2;exact h2)
     have a1:(¬(4096:Int)<=(r:Int))\/((4096:Int)<=(r:Int)/\¬(r:Int)<z):=(by omega);clear kd hb4;rcases a1 with g1|⟨g1,g2⟩
     all_goals
      go_wp2_with fail;refine(u.o _ n.o).mono ?_;rintro e w4 ⟨rfl,b⟩;replace b:=b.symm;subst b;go_wp2_with fail;refine MV.o.mono ?_;rintro e T ⟨E,F,rfl,hM⟩;obtain⟨⟨x',G,i,g,U,Y⟩,hD⟩:=MD.o _ _ _ hM;have A:=aA (Y.unlock .returning);have D:=aA hD;clear hD Y hM;go_wp2_with fail;refine dm (f:=30) (args:=#[.pointer (some ⟨hb,0,none⟩)]) (by simp) (by simp[go_sem]) ?_;refine A.o.mono ?_;rintro e u' w9 ⟨rfl,rfl,rfl⟩;exact⟨_,results_tmp2 rfl _ _ _,E,F,rfl,D.o⟩
 ·have A:=aA (n.o.unlock .returning);have D:=aA (show Rl w W hb sb lw x t fr ls S 0 p m d 0 1 (eJ P hb)from .bad R.o hl rfl rfl (v.o.ft N.o));clear hl;go_wp2_with fail;refine dm (f:=30) (args:=#[.pointer (some ⟨hb,0,none⟩)]) (by simp) (by simp[go_sem]) ?_;refine A.o.mono ?_;rintro e u' w9 ⟨rfl,rfl,rfl⟩;exact⟨_,results_tmp2 rfl _ _ _,0,1,rfl,D.o⟩
theorem zjW(H:HW w W hb sb lw x t fr ls S 0)(p sz:Nat)(hp:p<18446744073709551616)(hs:sz<18446744073709551616)(d:Bool)(m:Nat)(a:m=max sz 16):Calls prog 27 #[.pointer (some ⟨hb,0,none⟩),.int .u64 p,.int .u64 sz,.bool d] W fun e f=>∃ c b,e=.returned (.tuple #[.int .u64 ((c:Nat):Int),.int .i64 b])/\Rl w W hb sb lw x t fr ls S 0 p m d c b f:=by
 by_cases h0:p=0;·subst h0;exact zgG H sz hs d m a
 ·exact zjV H p sz hp h0 hs d m a
end
def H9(w W:Wd)(hb bS dl o:Nat):Prop:=∃ sb lw x t fr ls S,HW w W hb sb lw x t fr ls S 0/\x.bS=bS/\x.dl=dl/\x.o=o
theorem H9.dk{w W W':Wd}{hb bS dl o:Nat}(h:H9 w W hb bS dl o)(k:Kt nO W W'):H9 w W' hb bS dl o:=by obtain⟨sb,lw,x,t,fr,ls,S,H,e⟩:=h;exact⟨sb,lw,x,t,fr,ls,S,H.dk k,e⟩
theorem H9.kp{w W:Wd}{hb bS dl o:Nat}(h:H9 w W hb bS dl o):Kt nO w W:=by obtain⟨sb,lw,x,t,fr,ls,S,H,e⟩:=h;exact H.po.pl.kp
section
variable {w W W':Wd} {hb sb lw:Nat} {x:Bx} {t:Bt} {fr:Nat->List Nat} {ls:List (Nat×Nat)} {S:Sb} {bS dl o:Nat}
theorem HW.h9(H:HW w W hb sb lw x t fr ls S 0)(e:x.bS=bS/\x.dl=dl/\x.o=o):H9 w W hb bS dl o:=⟨sb,lw,x,t,fr,ls,S,H,e⟩
theorem Nx.h9{x' t' fr' eF S'}(n:Nx w W W' hb sb lw x t ls S 0 x' t' fr' eF S')(e:x.bS=bS/\x.dl=dl/\x.o=o):H9 w W' hb bS dl o:=
 ⟨sb,lw,x',t',fr',eF,S',n.H,by rw[n.ch.bS];exact e.1,by rw[n.ch.dl];exact e.2.1,by rw[n.ch.o];exact e.2.2⟩
theorem Tq.h9(H:HW w W hb sb lw x t fr ls S 0)(e:x.bS=bS/\x.dl=dl/\x.o=o){r d p er}(h:Tq w W hb sb lw x t fr ls S 0 r d p er W'):H9 w W' hb bS dl o:=by
 cases h with
 | no _ _ _ _ kp=>exact(H.dk kp).h9 e
 | yes x' g a c f b _ _ nx=>exact nx.h9 e
theorem Rq8.h9(H:HW w W hb sb lw x t fr ls S 0)(e:x.bS=bS/\x.dl=dl/\x.o=o){m d p er}(h:Rq8 w W hb sb lw x t fr ls S 0 m d p er W'):H9 w W' hb bS dl o:=by
 cases h with
 | big b hp he kp=>exact(H.dk kp).h9 e
 | ok b a=>exact a.h9 H e
theorem Cz.h9(H:HW w W hb sb lw x t fr ls S 0)(e:x.bS=bS/\x.dl=dl/\x.o=o){m d p er}(h:Cz w W hb sb lw x t fr ls S 0 m d p er W'):H9 w W' hb bS dl o:=by
 cases h with
 | big a hp he kp=>exact(H.dk kp).h9 e
 | no a hp he i hd kp=>exact(H.dk kp).h9 e
 | yes a x' k c f j b he g nx=>exact nx.h9 e
theorem Mq.h9(H:HW w W hb sb lw x t fr ls S 0)(e:x.bS=bS/\x.dl=dl/\x.o=o){p z r d p' er}(h:Mq w W hb sb lw x t fr ls S 0 p z r d p' er W'):H9 w W' hb bS dl o:=by
 cases h with
 | no _ _ _ _ kp=>exact(H.dk kp).h9 e
 | yes x' g a c f b he nx=>exact nx.h9 e
theorem Rl.h9(H:HW w W hb sb lw x t fr ls S 0)(e:x.bS=bS/\x.dl=dl/\x.o=o){p m d p' er}(h:Rl w W hb sb lw x t fr ls S 0 p m d p' er W'):H9 w W' hb bS dl o:=by
 cases h with
 | nil _ h=>exact h.h9 H e
 | bad _ _ _ _ kp=>exact(H.dk kp).h9 e
 | big _ _ _ _ _ _ kp=>exact(H.dk kp).h9 e
 | same _ _ _ _ _ kp=>exact(H.dk kp).h9 e
 | shr z hp f hl a l g he hS=>obtain⟨i,q,k,j,_,_,_,_,_,_,nx,_⟩:=hS;exact nx.h9 e
 | mov z hp f hl b a c=>exact c.h9 H e
theorem Fq.h9(H:HW w W hb sb lw x t fr ls S 0)(e:x.bS=bS/\x.dl=dl/\x.o=o){p er}(h:Fq w W hb sb lw x t fr ls S 0 p er W'):H9 w W' hb bS dl o:=by
 cases h with
 | nil _ _ kp=>exact(H.dk kp).h9 e
 | bad _ _ _ kp=>exact(H.dk kp).h9 e
 | ok z hp hl he a=>obtain⟨x',f,b,c,d,_,nx,_⟩:=a;exact nx.h9 e
theorem WrP.h9(H:HW w W hb sb lw x t fr ls S 0)(e:x.bS=bS/\x.dl=dl/\x.o=o){p n gg er}(h:WrP w W hb sb lw x t fr ls S p n gg er W'):H9 w W' hb bS dl o:=by
 cases h with
 | nil _ _ kp=>exact(H.dk kp).h9 e
 | ok _ _ _ wr=>exact wr.1.h9 e
 | bad _ _ _ kp=>exact(H.dk kp).h9 e
end
theorem rR:∀ l:List (Nat×Nat),W.blV l=blV l
 | []=>rfl
 | b :: l=>by
  show _ :: _ :: W.blV l=_ :: _ :: blV l
  rw[rR l]
abbrev lB(w:Wd)(v:Vl)(l:List (Nat×Nat)):Prop:=W.RBk w v l
theorem zH(l:List (Nat×Nat))(j:Nat)(h:j<l.length):(blV l)[j*2]?=some (.int .u64 ((l.getD j (0,0)).1:Int))/\(blV l)[j*2+1]?=some (.int .u64 ((l.getD j (0,0)).2:Int)):=by have:=W.blV_get l j h;rwa [rR] at this
theorem yT{e W:Wd}{v:Vl}{l:List (Nat×Nat)}(h:GB e W v l):lB W v l:=by
 obtain⟨k,d⟩:=h.own;rcases d with ⟨rfl,h0⟩|⟨g,cap,f,rfl,_,hg,_,_,hs,i⟩
 ·exact⟨none,0,by rw[h0],.inl (bq h0)⟩
 ·refine⟨_,_,rfl,.inr ⟨g,rfl,lH hg,fun j c=>?_⟩⟩;obtain⟨b,a⟩:=zH l j c;rw[<-i,List.getElem?_take_of_lt (by omega)] at b a;rw[ef] at b a;exact⟨by simp[World.cell?,hg,b],by simp[World.cell?,hg,a]⟩
abbrev rS:Obj:=.cells #[.int .u64 0,.int .u64 0] 73 (0,0)
def NR(l:List (Nat×Nat))(w:Wd)(e:Ending)(w':Wd):Prop:=∃ b∈l,e=.returned (.agg #[.int .u64 b.1,.int .u64 b.2])/\Kt nO w w'
theorem UE{w:Wd}{g:Nat}{A:Nat}{l:List (Nat×Nat)}(hg:g<w.heap.size)(hc:∀ j,j<l.length->w.cell? ⟨g,j*2,none⟩=some (.int .u64 ((l.getD j (0,0)).1:Int))/\w.cell? ⟨g,j*2+1,none⟩=some (.int .u64 ((l.getD j (0,0)).2:Int)))(h0 : 0<l.length)(hl:l.length<=9223372036854775807)(n:Int)(z : -9223372036854775808<=n)(B:n<=9223372036854775807):Calls prog 25 #[.slice (some ⟨g,0,none⟩) l.length A,.int .i64 n] w (NR l w):=by
 obtain⟨N,p⟩:=xe (l.length);rw[<-p] at h0 hl hc ⊢;obtain⟨m,a⟩:=xe (n.tmod (N:Int));have F:m<(N:Int):=by rw[a];exact Int.tmod_lt_of_pos _ (by omega)
 have I : -(N:Int)<m:=by rw[a];exact Int.lt_tmod_of_pos _ (by omega)
 have y:=aA ((kz w).alloc rS);have G:=aA (nH w rS);have C:¬(N:Int)=0:=by omega
 have i:=aA (show ∀ k,k<N->w.cell? ⟨g,k*2,none⟩=some (.int .u64 ((l.getD k (0,0)).1:Int))/\w.cell? ⟨g,k*2+1,none⟩=some (.int .u64 ((l.getD k (0,0)).2:Int))/\l.getD k (0,0)∈l from fun k e=>⟨(hc k e).1,(hc k e).2,by
  rw[ai,bo (by omega)];exact List.getElem_mem _⟩)
 have c:∀ (k:Nat),k<N->∀ (W:Wd),Kt nO w W->∃ b∈l,W.cell? ⟨g,k*2,none⟩=some (.int .u64 b.1)/\W.cell? ⟨g,k*2+1,none⟩=some (.int .u64 b.2):=fun k e W v=>⟨_,(i.o k e).2.2,v.cell id (i.o k e).1,v.cell id (i.o k e).2.1⟩
 have h:=aA c;have E:=aA a.symm;by_cases u:m<0
 ·obtain⟨k,e⟩:∃ k:Nat,m+(N:Int)=k:=⟨(m+(N:Int)).toNat,by omega⟩;have d:k<N:=by omega
  have f:(k:Int)<N:=by omega
  obtain⟨b,hb,c0,c1⟩:=h.o k d _ y.o;have r:=aA hb;have q:=a.symm;have D:=aA ((kz w).alloc (.cells #[.int .u64 b.1,.int .u64 b.2] 73 (0,0)));clear hc p a c hb;go_enter func25,ntmps25;go_wp2_with fail;exact⟨rfl,.agg #[.int .u64 b.1,.int .u64 b.2],by simp[results,results25,go_sem],b,r.o,rfl,D.o⟩
 ·obtain⟨k,rfl⟩:∃ k:Nat,m=(k:Int):=⟨m.toNat,by omega⟩;have d:k<N:=by omega
  have f:(k:Int)<N:=by omega
  obtain⟨b,hb,c0,c1⟩:=h.o k d _ y.o;have r:=aA hb;have q:=a.symm;have D:=aA ((kz w).alloc (.cells #[.int .u64 b.1,.int .u64 b.2] 73 (0,0)));clear hc p a c hb;go_enter func25,ntmps25;go_wp2_with fail;exact⟨rfl,.agg #[.int .u64 b.1,.int .u64 b.2],by simp[results,results25,go_sem],b,r.o,rfl,D.o⟩
theorem VN{w:Wd}{v:Vl}{l:List (Nat×Nat)}(h:lB w v l)(h0 : 0<l.length)(hl:l.length<=9223372036854775807)(n:Int)(a : -9223372036854775808<=n)(b:n<=9223372036854775807):Calls prog 25 #[v,.int .i64 n] w (NR l w):=by
 obtain⟨c,d,rfl,e|⟨g,rfl,hg,hc⟩⟩:=h;·rw[e] at h0;simp at h0
 ·exact UE hg hc h0 hl n a b
structure Op9 where
 k:Int
 w:Int
 a:Nat
 b:Nat
 d:Bool
 sa:Option Addr
 sn:Nat
 sc:Nat
abbrev oA(c:Op9):Vl:=.agg #[.int .i64 c.k,.int .i64 c.w,.int .u64 c.a,.int .u64 c.b,.bool c.d,.slice c.sa c.sn c.sc]
abbrev kR(c:Op9):Obj:=.cells #[.int .i64 c.k,.int .i64 c.w,.int .u64 c.a,.int .u64 c.b,.bool c.d,.slice c.sa c.sn c.sc] 36
abbrev rC(p er:Int):Ending:=.returned (.tuple #[.int .u64 p,.int .i64 er])
structure Ht9(St:Wd->Prop)(hb:Nat):Prop where
 kp:∀ W W',St W->Kt nO W W'->St W'
 nk:∀ W a d,St W->a<18446744073709551616->Calls prog 21 #[.pointer (some ⟨hb,0,none⟩),.int .u64 ((a:Nat):Int),.bool d] W fun e w'=>∃ p er,e=rC p er/\St w'
 om:∀ W a b d,St W->a<18446744073709551616->b<18446744073709551616->Calls prog 22 #[.pointer (some ⟨hb,0,none⟩),.int .u64 ((a:Nat):Int),.int .u64 ((b:Nat):Int),.bool d] W fun e w'=>∃ p er,e=rC p er/\St w'
 ol:∀ W a b d,St W->a<18446744073709551616->b<18446744073709551616->Calls prog 24 #[.pointer (some ⟨hb,0,none⟩),.int .u64 ((a:Nat):Int),.int .u64 ((b:Nat):Int),.bool d] W fun e w'=>∃ p er,e=rC p er/\St w'
 ow:∀ W p a d,St W->p<18446744073709551616->a<18446744073709551616->Calls prog 27 #[.pointer (some ⟨hb,0,none⟩),.int .u64 ((p:Nat):Int),.int .u64 ((a:Nat):Int),.bool d] W fun e w'=>∃ p er,e=rC p er/\St w'
 oj:∀ W,St W->Calls prog 23 #[.pointer (some ⟨hb,0,none⟩)] W fun e w'=>∃ n,e=.returned (.int .i64 n)/\St w'
 og:∀ W p,St W->p<18446744073709551616->Calls prog 26 #[.pointer (some ⟨hb,0,none⟩),.int .u64 ((p:Nat):Int)] W fun e w'=>∃ er,e=.returned (.int .i64 er)/\St w'
 ni:∀ W p c n z gg,St W->p<18446744073709551616->n<=9223372036854775807->M.Bytes W (.slice c n z) n gg->(0<n->∀ y,(Value.slice c n z).ownBlock=some y->y≠hb)->Calls prog 28 #[.pointer (some ⟨hb,0,none⟩),.int .u64 ((p:Nat):Int),.slice c n z] W fun e w'=>∃ er,e=.returned (.int .i64 er)/\St w'
 oi:∀ W,St W->Calls prog 14 #[.pointer (some ⟨hb,0,none⟩)] W fun e w'=>∃ v l,e=.returned v/\lB w' v l/\l.length<=9223372036854775807/\(∀ b∈l,b.1<18446744073709551616/\b.2<18446744073709551616)/\St w'/\Kt nO W w'
def zP(St:Wd->Prop)(e:Ending)(w':Wd):Prop:=(∃ p er,e=rC p er)/\St w'
theorem zI{W:Wd}{y P Z:Nat}(h:W.heap[y]?=some (.cells #[.int .u64 P,.int .u64 Z] 73 (0,0))):W.cell? ⟨y,0,none⟩=some (.int .u64 P)/\W.cell? ⟨y,1,none⟩=some (.int .u64 Z):=by constructor <;> simp[World.cell?,h]
theorem uK{W:Wd}{y:Nat}{c:Op9}(h:W.heap[y]?=some (kR c)):W.cell? ⟨y,0,none⟩=some (.int .i64 c.k)/\W.cell? ⟨y,1,none⟩=some (.int .i64 c.w)/\W.cell? ⟨y,2,none⟩=some (.int .u64 c.a)/\W.cell? ⟨y,3,none⟩=some (.int .u64 c.b)/\W.cell? ⟨y,4,none⟩=some (.bool c.d)/\W.cell? ⟨y,5,none⟩=some (.slice c.sa c.sn c.sc):=by refine⟨?_,?_,?_,?_,?_,?_⟩ <;> simp[World.cell?,h]
section
variable {St:Wd->Prop} {hb:Nat} {W:Wd}
theorem QR(T:Ht9 St hb)(c:Op9)(s:St W)(ha:c.a<18446744073709551616)(g:c.b<18446744073709551616)(r:c.k=1\/c.k=2\/c.k=5\/c.k=7):Calls prog 8 #[.pointer (some ⟨hb,0,none⟩),oA c] W (zP St):=by
 obtain⟨d,q,j,l,h,sa,sn,sc⟩:=c;dsimp only at ha g r;rcases r with rfl|rfl|rfl|rfl
 case' inl=>obtain⟨d,f⟩:∃ d:Int,d=1:=⟨_,rfl⟩
 case' inr.inl=>obtain⟨d,f⟩:∃ d:Int,d=2:=⟨_,rfl⟩
 case' inr.inr.inl=>obtain⟨d,f⟩:∃ d:Int,d=5:=⟨_,rfl⟩
 case' inr.inr.inr=>obtain⟨d,f⟩:∃ d:Int,d=7:=⟨_,rfl⟩
 all_goals
  have z:=aA (nH W (kR ⟨d,q,j,l,h,sa,sn,sc⟩));have m:=aA (T.kp _ _ s ((kz W).alloc (kR ⟨d,q,j,l,h,sa,sn,sc⟩)));have u:=aA (T.nk _ j h m.o ha);have A:=aA (T.om _ j l h m.o ha g);have v:=aA (T.ol _ j l h m.o ha g);have y:=aA (T.oj _ m.o);obtain⟨E,D,F,B,C,G⟩:=uK z.o;subst f;clear T;go_enter func8,ntmps8;go_wp2_with fail
 ·refine v.o.mono ?_;rintro e n ⟨p,i,rfl,s1⟩;go_wp2_with fail;exact⟨rfl,.tuple #[.int .u64 p,.int .i64 i],by simp[results,results8,go_sem],⟨_,_,rfl⟩,s1⟩
 ·refine y.o.mono ?_;rintro e n ⟨p,rfl,s1⟩;go_wp2_with fail;exact⟨rfl,.tuple #[.int .u64 (IntKind.u64.wrap p),.int .i64 0],by simp[results,results8,go_sem],⟨_,_,rfl⟩,s1⟩
 ·refine A.o.mono ?_;rintro e n ⟨p,i,rfl,s1⟩;go_wp2_with fail;exact⟨rfl,.tuple #[.int .u64 p,.int .i64 i],by simp[results,results8,go_sem],⟨_,_,rfl⟩,s1⟩
 ·refine u.o.mono ?_;rintro e n ⟨p,i,rfl,s1⟩;go_wp2_with fail;exact⟨rfl,.tuple #[.int .u64 p,.int .i64 i],by simp[results,results8,go_sem],⟨_,_,rfl⟩,s1⟩
theorem VM(T:Ht9 St hb)(c:Op9)(s:St W)(n:¬(c.k=1\/c.k=2\/c.k=5\/c.k=7))(q : -9223372036854775808<=c.w)(u:c.w<=9223372036854775807)(ha:c.a<18446744073709551616)(Q:Nat->Nat)(hd:M.Bytes W (.slice c.sa c.sn c.sc) c.sn Q)(hs:c.sn<=c.sc)(hc:c.sc<=9223372036854775807)(g : 0<c.sn->∀ y,(Value.slice c.sa c.sn c.sc).ownBlock=some y->y≠hb):Calls prog 8 #[.pointer (some ⟨hb,0,none⟩),oA c] W (zP St):=by
 obtain⟨d,R,I,cb,G,sa,sn,sc⟩:=c;dsimp only at n q u ha hd hs hc g;have k1:¬d=1:=fun e=>n (.inl e)
 have k2:¬d=2:=fun e=>n (.inr (.inl e))
 have k5:¬d=5:=fun e=>n (.inr (.inr (.inl e)))
 have k7:¬d=7:=fun e=>n (.inr (.inr (.inr e)))
 have b1:(d == 1)=false:=ag.2 k1;have b2:(d == 2)=false:=ag.2 k2;have b5:(d == 5)=false:=ag.2 k5;have b7:(d == 7)=false:=ag.2 k7;have HT:=aA T;have B:=aA (nH W (kR ⟨d,R,I,cb,G,sa,sn,sc⟩));have K1:=aA ((kz W).alloc (kR ⟨d,R,I,cb,G,sa,sn,sc⟩));have S1:=aA (T.kp _ _ s K1.o);have HD:=aA hd;have LV:=aA (T.oi _ S1.o);obtain⟨x0,V,J,K,U,x5⟩:=uK B.o;clear n hd;go_enter func8,ntmps8;go_wp2_with fail;refine LV.o.mono ?_;rintro e w2 ⟨v,l,rfl,hv,hl,f,s2,r⟩;have S2:=aA s2;have K2:=aA r;have RV:=aA hv;have B9:=aA f;obtain⟨va,vc,rfl,-⟩:=hv;obtain⟨N,Y⟩:=xe (l.length);have X:=aA Y;rw[<-Y] at hl ⊢;clear Y f s2 r;by_cases h0:N=0;·have L:((N:Int) == 0)=true:=cu.2 (by omega);subst h0;go_wp2_with fail;exact⟨rfl,.tuple #[.int .u64 0,.int .i64 0],by simp[results,results8,go_sem],⟨_,_,rfl⟩,S2.o⟩
 ·have L:((N:Int) == 0)=false:=ag.2 (by omega);have a0:¬(N:Int)=0:=by omega
  have X2:=aA ((K2.o.block _ (lH B.o) id).trans B.o);obtain⟨x0,V,J,K,U,x5⟩:=uK X2.o;have PK:=aA (VN RV.o (by have:=X.o;omega) (by have:=X.o;omega) R q u);rw[<-X.o] at PK;go_wp2_with fail;refine PK.o.mono ?_;rintro e D ⟨b,z,rfl,m⟩;have f:=B9.o b z;obtain⟨P,Z⟩:=b;dsimp only at f;obtain⟨C,hZ⟩:=f;have K3:=aA ((nT K2.o m).alloc (.cells #[.int .u64 P,.int .u64 Z] 73 (0,0)));have A:=aA (T.kp _ _ S2.o (m.alloc (.cells #[.int .u64 P,.int .u64 Z] 73 (0,0))));have X3:=aA ((K3.o.block _ (lH B.o) id).trans B.o);have Y3:=aA (nH D (.cells #[.int .u64 P,.int .u64 Z] 73 (0,0)));have D3:=aA (HD.o.dk (fJ (nT K1.o K3.o)));clear m z RV B9 PK x0 V J K U x5;obtain⟨x0,V,J,K,U,x5⟩:=uK X3.o;dsimp only;go_upto_region 13 with fail;obtain⟨y0,y1⟩:=zI Y3.o;generalize D.alloc (.cells #[.int .u64 P,.int .u64 Z] 73 (0,0))=W3 at *;generalize D.heap.size=bb at *;by_cases k3:d=3
  ·subst k3;have FR:=aA (T.og _ P A.o C);go_wp2_with fail;refine FR.o.mono ?_;rintro e F ⟨h,rfl,s4⟩;go_wp2_with fail;exact⟨rfl,.tuple #[.int .u64 0,.int .i64 h],by simp[results,results8,go_sem],⟨_,_,rfl⟩,s4⟩
  have b3:(d == 3)=false:=ag.2 k3;by_cases k4:d=4;·subst k4;have RE:=aA (T.ow _ P I G A.o C ha);go_wp2_with fail;refine RE.o.mono ?_;rintro e F ⟨p,h,rfl,s4⟩;go_wp2_with fail;exact⟨rfl,.tuple #[.int .u64 p,.int .i64 h],by simp[results,results8,go_sem],⟨_,_,rfl⟩,s4⟩
  have b4:(d == 4)=false:=ag.2 k4;by_cases k6:d=6
  ·subst k6;have a1:(sn:Int)%18446744073709551616=(sn:Int):=(by omega);by_cases a2:Z<sn
   ·have l1:(Z:Int)<sn:=(by omega);have l2:(Z:Int)<=sc:=(by omega);have l3:Z<=sc:=(by omega);have E:=aA (T.ni _ P sa Z sc Q A.o C (by omega) (by
     obtain⟨d1,ao,cap,d2,d3⟩:=D3.o
     cases d2
     exact⟨fun i hi=>d1 i (by omega),_,_,rfl,d3.elim (fun e=>.inl (by omega)) (fun ⟨a,e1,e2,e3⟩=>.inr ⟨a,e1,e2,fun j hj=>e3 j (by omega)⟩)⟩) (fun _ y hy=>g (by omega) y (by cases sa <;> exact hy)))
    go_wp2_with fail;refine E.o.mono ?_;rintro e F ⟨h,rfl,s4⟩;go_wp2_with fail;exact⟨rfl,.tuple #[.int .u64 0,.int .i64 h],by simp[results,results8,go_sem],⟨_,_,rfl⟩,s4⟩
   ·have l1:¬(Z:Int)<sn:=(by omega);have E:=aA (T.ni _ P sa sn sc Q A.o C (by omega) D3.o g);go_wp2_with fail;refine E.o.mono ?_;rintro e F ⟨h,rfl,s4⟩;go_wp2_with fail;exact⟨rfl,.tuple #[.int .u64 0,.int .i64 h],by simp[results,results8,go_sem],⟨_,_,rfl⟩,s4⟩
  have b6:(d == 6)=false:=ag.2 k6;go_wp2_with fail;exact⟨rfl,.tuple #[.int .u64 0,.int .i64 0],by simp[results,results8,go_sem],⟨_,_,rfl⟩,A.o⟩
end
theorem zG{I:W.Img}{b:Nat×Nat}(hb:b∈W.ey I) : 16<=b.2/\I.bS<=b.1/\b.1-I.bS+b.2<=I.nm:=⟨(W.blks_ok hb).2.oz,(W.blks_ok hb).2.lo,(W.blks_ok hb).2.hi⟩
theorem HW.nj{w W:Wd}{hb sb lw:Nat}{x:Bx}{t:Bt}{fr:Nat->List Nat}{ls:List (Nat×Nat)}{S:Sb}{s:Int}(H:HW w W hb sb lw x t fr ls S s)(may:M.mayB x.bS (x.dl:Int) (x.o:Int)=true):(iX x t S t.m.n).length<=9223372036854775807/\∀ b∈iX x t S t.m.n,b.1<18446744073709551616/\b.2<18446744073709551616:=by have e:=H.po.en.2.1;have f:=H.po.en.2.2.2.1;refine⟨by have:=H.mw _ (aj _);omega,fun b hb=>?_⟩;obtain⟨B,h⟩:=H.mr may;rw[<-h.ey] at hb;obtain⟨d,a,c⟩:=zG hb;have a:x.bS<=b.1:=a;have c:b.1-x.bS+b.2<=x.n:=c;omega
theorem H9.ht{w:Wd}{hb bS dl o:Nat}(may:M.mayB bS (dl:Int) (o:Int)=true):Ht9 (fun W=>H9 w W hb bS dl o) hb where
 kp W W' h k:=h.dk k
 nk W a d h ha:=by obtain⟨sb,lw,x,t,fr,ls,S,H,e⟩:=h;refine(zkF H a ha d _ rfl).mono ?_;rintro _ w' ⟨p,er,rfl,hr⟩;exact⟨_,_,rfl,hr.h9 H e⟩
 om W a b d h ha hb2:=by
  obtain⟨sb,lw,x,t,fr,ls,S,H,e⟩:=h
  cases hp:gH a with
  | true=>refine(ziw H a b ha hb2 d hp _ rfl).mono ?_;rintro _ w' ⟨p,er,rfl,hr⟩;exact⟨_,_,rfl,hr.h9 H e⟩
  | false=>refine(zgo H a b ha hb2 d hp).mono ?_;rintro _ w' ⟨rfl,hk⟩;exact⟨_,_,rfl,(H.dk hk).h9 e⟩
 ol W a b d h ha hb2:=by
  obtain⟨sb,lw,x,t,fr,ls,S,H,e⟩:=h;by_cases hov:a≠0/\18446744073709551615/a<b;·refine(zgC H a b ha hb2 d hov.1 hov.2).mono ?_;rintro _ w' ⟨rfl,hk⟩;exact⟨_,_,rfl,(H.dk hk).h9 e⟩
  ·have hpr:a*b<18446744073709551616:=by
    rcases dx a with h0|h0
    ·rw[h0,Nat.zero_mul];decide
    ·have h1:b<=18446744073709551615/a:=by
      have:¬ 18446744073709551615/a<b:=fun e=>hov ⟨by omega,e⟩
      omega
     have h2:=(Nat.le_div_iff_mul_le h0).1 h1;rw[aq];omega
   refine(zlC H a b ha hb2 d hpr _ rfl).mono ?_;rintro _ w' ⟨p,er,rfl,hr⟩;exact⟨_,_,rfl,hr.h9 H e⟩
 ow W p a d h hp ha:=by obtain⟨sb,lw,x,t,fr,ls,S,H,e⟩:=h;refine(zjW H p a hp ha d _ rfl).mono ?_;rintro _ w' ⟨p',er,rfl,hr⟩;exact⟨_,_,rfl,hr.h9 H e⟩
 oj W h:=by obtain⟨sb,lw,x,t,fr,ls,S,H,e⟩:=h;obtain⟨r,hr,-⟩:=H.po.en.2.2.2.2.1;refine(QD H hr).mono ?_;rintro _ w' ⟨rfl,x',t',nx,-⟩;exact⟨_,rfl,nx.h9 e⟩
 og W p h hp:=by obtain⟨sb,lw,x,t,fr,ls,S,H,e⟩:=h;refine(VE H p hp).mono ?_;rintro _ w' ⟨er,rfl,hr⟩;exact⟨_,rfl,hr.h9 H e⟩
 ni W p c n z gg h hp hn hv hnb:=by obtain⟨sb,lw,x,t,fr,ls,S,H,e⟩:=h;refine(WC H p n hp hn c z gg hv hnb).mono ?_;rintro _ w' ⟨er,rfl,hr⟩;exact⟨_,rfl,hr.h9 H e⟩
 oi W h:=by obtain⟨sb,lw,x,t,fr,ls,S,H,e⟩:=h;obtain⟨q1,q2⟩:=H.nj (by rw[e.1,e.2.1,e.2.2];exact may);refine(vK H).mono ?_;rintro _ w' ⟨v,rfl,hr⟩;exact⟨v,_,rfl,yT hr,q1,q2,(H.dk hr.kp).h9 e,hr.kp⟩
structure Pu8(x:Bx)(t:Bt)(fr:Nat->List Nat)(ls:List (Nat×Nat))(S:Sb)(h:Nat->Int):Prop where
 sf:Sf x t fr ls
 st:t.m.n*4096=x.n
 bm:x.bS%4096=0
 si:SI x t S
 hd:∀ k,k<8->h k=bB (S.pl k)
 lv:eY S
 br:x.bS%x.R=0
def Oc8(w:Wd)(bS dl o nb:Nat)(gg:Nat->Nat)(PP:Nat->Option Pg)(mp:Mp)(hd:Nat->Nat)(fr:Nat->List Nat)(S:Sb)(e:Ending)(w':Wd):Prop:=∃ hb sb lw x f ls,e=.returned (.tuple #[.pointer (some ⟨hb,0,none⟩),.int .i64 0])/\HW w w' hb sb lw x ⟨f,mp,hd⟩ fr ls S 0/\x.bS=bS/\x.R=4096*2 ^ o/\x.dl=dl/\x.n=nb/\x.o=o/\x.P=PP/\∀ i,i<x.n->f i=gg i
theorem zif(bS dl o:Nat)(a0:bS<18446744073709551616)(hl:dl<=64)(ho:o<=8)(hm:M.mayB bS (dl:Int) (o:Int)=true)(r nb np:Nat)(hr:r<=dl)(v:np=r*2 ^ o)(p:nb=np*4096)(C L qa:Option Addr)(Z Q V nq:Nat)(U:Nat->Nat)(PP:Nat->Option Pg)(Y y j:Nat)(hd:List Nat)(m:∀ i,hd.getD i 0<18446744073709551616)(hN:hd.length=o+1)(mp:Mp)(E:mp.o=o)(w:Wd)(hT:iQ w)(A:M.Bytes w (.slice C nb Z) nb U)(hh:nB w Y y hd)(I:∀ W,Kt nO w W->Calls prog 97 #[.int .i64 o,.slice L np Q,.slice qa nq V] W fun e w'=>∃ b,e=.returned (.tuple #[.pointer (some ⟨b,0,none⟩),.int .i64 0])/\Hd (∃ B',MpA w' b B' mp/\(∀ x,aP b B' o x->W.heap.size<=x)/\Kt nO W w')) (a:Addr) (cap:Nat) (h:Nat->Int) (B:pI w a h) (fr:Nat->List Nat) (S:Sb)(pu:∀ x f,x.bS=bS->x.R=4096*2 ^ o->x.dl=dl->x.n=nb->x.o=o->x.P=PP->(∀ i,i<x.n->f i=U i)->∃ ls,Pu8 x ⟨f,mp,fun i=>hd.getD i 0⟩ fr ls S h):Calls prog 15 #[.agg #[.int .u64 bS,.int .i64 dl,.int .i64 o,.int .i64 r,.slice C nb Z,.slice L np Q,.slice qa nq V,.slice (some ⟨Y,y,none⟩) (o+1) j,.slice (some a) 8 cap]] w (Oc8 w bS dl o nb U PP mp (fun i=>hd.getD i 0) fr S):=by
 obtain⟨g,l⟩:∃ ob,ob=Obj.cells #[.int .u64 bS,.int .i64 dl,.int .i64 o,.int .i64 r,.slice C nb Z,.slice L np Q,.slice qa nq V,.slice (some ⟨Y,y,none⟩) (o+1) j,.slice (some a) 8 cap] 42 (0,0):=⟨_,rfl⟩;have K:=aA ((kz w).alloc g);have X0:=aA (nH w g);have RO:=aA (YX bS a0 dl o hl ho hm r nb np hr v p C L qa Z Q V nq U PP Y y j hd m hN mp E (w.alloc g) (A.kept (fJ K.o) (fun _ _ e=>e)) (hh.dk K.o) (fun W hW=>I W (nT K.o hW)));have NB:=aA (show r*(4096*2 ^ o)=nb from by rw[p,v,cy,aq (2 ^ o) 4096]);have a2:=aA (B.dk K.o);have XC:=aA (show ∀ W,Kt nO (w.alloc g) W->W.heap[w.heap.size]?=some (Obj.cells #[.int .u64 bS,.int .i64 dl,.int .i64 o,.int .i64 r,.slice C nb Z,.slice L np Q,.slice qa nq V,.slice (some ⟨Y,y,none⟩) (o+1) j,.slice (some a) 8 cap] 42 (0,0))from fun W hW=>by rw[<-l];exact(hW.block _ (lH X0.o) (fun x=>x)).trans X0.o);have PU:=aA pu;have HT:=aA hT;clear hm I A hh hN m v p E B hr X0 pu hT;subst l;go_enter func15,ntmps15;go_wp2_with fail;refine RO.o.mono ?_;rintro e w1 ⟨lw,x,f,rfl,N,J,e2,T,z,G,e6,e7⟩;rw[NB.o] at z;obtain⟨ls,d⟩:=PU.o x f J e2 T z G e6 e7;have EX:=aA (show x.bS=bS/\x.R=4096*2 ^ o/\x.dl=dl/\x.n=nb/\x.o=o/\x.P=PP/\∀ i,i<x.n->f i=U i from⟨J,e2,T,z,G,e6,e7⟩);have P1:=aA (show PO w w1 lw x ⟨f,mp,fun i=>hd.getD i 0⟩ fr ls from⟨N.iy K.o,d.sf,d.st,d.bm⟩);have a3:=aA d;have F:=aA (RU P1.o HT.o a cap h (a2.o.dk N.kp));have X1:=aA (XC.o w1 N.kp);have K1:=aA N.kp;clear N J e2 T z G e6 e7 d RO PU NB;have EB:=aA (show w.heap.size<w1.heap.size from lH X1.o);generalize X:w.heap.size=cb at *;have a1:=aA X;clear X;have c8:w1.cell? ⟨cb,8,none⟩=some (.slice (some a) 8 cap):=by simp[World.cell?,X1.o]
 go_wp2_with fail;refine F.o.mono ?_;rintro e c ⟨sb,rfl,hs,q,hz⟩;have S2:=aA hs;have K2:=aA q;have X2:=aA (XC.o c (nT K1.o q));have d0:c.cell? ⟨cb,0,none⟩=some (.int .u64 bS):=by simp[World.cell?,X2.o]
 have d1:c.cell? ⟨cb,1,none⟩=some (.int .i64 dl):=by simp[World.cell?,X2.o]
 have d2:c.cell? ⟨cb,2,none⟩=some (.int .i64 o):=by simp[World.cell?,X2.o]
 clear q c8 hs hz F;have D:=aA (show ∀ W',W'=c.alloc (rP 0 lw sb bS dl o)->HW w W' c.heap.size sb lw x ⟨f,mp,fun i=>hd.getD i 0⟩ fr ls S 0 from by
  rintro W' rfl;obtain⟨J,e2,T,z,G,e6,e7⟩:=EX.o;have u:=a3.o;have k:=(kz c).alloc (rP 0 lw sb bS dl o);have o3:SO w c sb lw x ⟨f,mp,fun i=>hd.getD i 0⟩ fr ls S h:=⟨S2.o,u.sf,u.st,u.bm,u.si,u.hd⟩;refine⟨⟨_,o3.dk k⟩,u.lv,?_,?_,u.br⟩;·rw[J,T,G];exact nH c _
  ·have:=K2.o.size;have:=EB.o;have:=a1.o;omega)
 go_wp2_with fail;exact⟨rfl,.tuple #[.pointer (some ⟨c.heap.size,0,none⟩),.int .i64 0],by simp[results,results15,go_sem],c.heap.size,sb,lw,x,f,ls,rfl,D.o _ rfl,EX.o⟩
theorem zU{w:Wd}{I:W.Img}{V:W.ImV}(h:W.ImD w I V)(hc:(W.chk I).1=0)(hT:iQ w):Calls prog 15 #[W.imA I V] w (Op8 w I):=by
 obtain⟨fr,S,hl⟩:=QI hc;obtain⟨r0,hS⟩:=W.sn9_chk hc;have y:∀ i,i<I.np->W.PgIn (I.pg i):=fun i hi=>by
  obtain⟨-,oa,oc,-,e|⟨v,o,-,-,hc⟩⟩:=h.je;·omega
  ·exact(hc i hi).1
 have l:=W.may_of (W.chk_zero hc 0 (by decide));obtain⟨kk,LL,f1,f2,f3,f4,f5,f6,f7,f8⟩:=W.may_facts l;obtain⟨q1,q2,q3⟩:=vD ((nW I).symm.trans (W.chk_zero hc 1 (by decide)));have eL:I.dl=((I.dl.toNat:Nat):Int):=by omega
 have eO:I.ord=((I.ord.toNat:Nat):Int):=by omega
 have eR:I.ep=((I.ep.toNat:Nat):Int):=by omega
 have p:=hS.hl;obtain⟨v1,v2,v3,v4,v5⟩:=V;obtain⟨ba,bc,T,hB⟩:=VH h.mem;obtain⟨pn,J,K,X,hP⟩:=h.je;obtain⟨ws,qn,R,N,U,Y⟩:=h.jg;obtain⟨g0,q0,L,Z,hH,B⟩:=zB h.jr (fun e=>by rw[e] at p;cases p);obtain⟨a,cap,g5,h8⟩:=yU h.kh hS.tl;dsimp only at T X U Z g5;subst T X U Z g5;have G:∀ j,j<I.ord.toNat->(rM I).wd j=I.pr j:=fun j r=>by
  show(if j<I.ord.toNat then cZ (I.pr j) (I.np/2 ^ (j+1)) else (dB (aX I.ord.toNat) I.np).wd j)=_
  rw[ae r];have h7:=(wE (JN ((rH I).symm.trans (W.chk_zero hc 6 (by decide))) j (by rw[hS.no];exact r))).2;refine ZU (hS.pl j r) ?_ h7;rcases Y with e|⟨v,f,-,-,hc⟩
  ·rw[hS.no] at e;omega
  ·exact(hc j (by rw[hS.no];exact r)).2.1
 have D:∀ x f,x.bS=I.bS->x.n=I.nm->x.o=I.ord.toNat->x.P=fI S (rM I)->(∀ i,i<x.n->f i=I.mem i)->Im9 I x ⟨f,rM I,fun i=>I.hd.getD i 0⟩ S:=fun x f d m b u A=>⟨d,m,b,u,fun q hq=>zjn fun i hi=>A _ (by omega),b.symm,rfl,fun i hi=>rfl,fun j r=>G j (by rw[<-b];exact r),fun j r=>rfl⟩
 have g:=zif I.bS I.dl.toNat I.ord.toNat h.lj (by omega) (by omega) (by rw[<-eL,<-eO];exact l) I.ep.toNat I.nm I.np (by omega) q1.symm hS.nm ba J R bc K N I.no I.mem (fI S (rM I)) g0 q0 L I.hd B hS.hl (rM I) rfl w hT hB hH
  (fun W z=>WV (.slice J I.np K) (.slice R I.no N) ws ⟨I.ord.toNat,I.np,I.pg,I.pr⟩ (by show I.ord.toNat<=8;omega) hS.gj ⟨_,hS.np⟩ W ⟨pn,J,K,rfl,hP.imp id fun ⟨v,o,d,m,b⟩=>⟨v,o,d,bg m z.size,fun i hi=>⟨yZ (b i hi).1,yW ((b i hi).2.dk z)⟩⟩⟩
   (by rw[<-hS.no];exact⟨qn,R,N,rfl,Y.imp id fun ⟨v,o,d,m,b⟩=>⟨v,o,d,bg m z.size,fun i hi=>⟨z.cell (fun x=>x) (b i hi).1,(b i hi).2.kept z (fun _ _ x=>x)⟩⟩⟩)
   (fun i hi=>zE hS y hi _ rfl rfl) (fun k hk=>hS.pl k hk))
  a cap (fun c=>I.pt.getD c 0) h8 fr S
  (fun x f d m b u A Q E=>by have hx:=D x f d u A Q E;obtain⟨u1,u2,u3⟩:=AH hc y hl hx;obtain⟨ls,F⟩:=Sf.oy u1;have C:=hS.bm;exact⟨ls,F,u1.st,by rw[d];exact Nat.mod_eq_zero_of_dvd (Nat.dvd_trans (Nat.dvd_mul_right _ _) (da C)),u1.si,u3,u1.lv,by rw[d,m];exact C⟩)
 rw[<-eL,<-eO,<-eR] at g;rw[<-p] at g;refine g.mono ?_;rintro e w' ⟨hb,sb,lw,x,f,ls,rfl,H,d,m,b,u,A,Q,E⟩;exact⟨hb,sb,lw,x,_,fr,ls,S,rfl,H,D x f d u A Q E,hl,b,fun i hi=>E i (by rw[u];exact hi)⟩
end Go.Proofs.YtfmgnljlkdmndaaGreatDoor
