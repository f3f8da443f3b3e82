import Derived.Test.YtfmgnljlkdmndaaGreatDoorZf
import Derived.Test.YtfmgnljlkdmndaaGreatDoorXo
import Derived.Deep.OwnRows
import Derived.ArgAppend
import Derived.Laws.OwnMore
import Derived.Maps.AppendAt
import Derived.Lib.AppendZeros
set_option maxRecDepth 1000000
set_option maxHeartbeats 0
namespace Go.Proofs.YtfmgnljlkdmndaaGreatDoor
namespace W
open Tryz RowKit
set_option linter.unusedVariables false
theorem sE(a c b d b0 b1 b2 b3:Int)(w:Wd):(Op.equalIn 9999 95 (.agg #[.int .u64 a,.int .u64 c,.int .u64 b,.int .u64 d]) (.agg #[.int .u64 b0,.int .u64 b1,.int .u64 b2,.int .u64 b3])).run prog w=.ok (a == b0 && (c == b1 && (b == b2 && d == b3))) w:=by
 have u3:=Tryz.underlying22;have s3:=Tryz.isAgg22;have i:=Tryz.sizeOf22;rw[show(9999:Nat)=9998+1 from rfl,Op.equalIn];simp only[Sem.run_bind,run_underlying Tryz.underlying95,Result.andThen_ok];simp only[Std.Legacy.Range.forIn_eq_forIn_range',Std.Legacy.Range.size,Nat.sub_zero,eh,Nat.div_one,List.range'_succ,List.range'_zero,List.forIn_cons,List.forIn_nil];go_simp
 by_cases e:a=b0 <;> by_cases h:c=b1 <;> by_cases f:b=b2 <;> by_cases g:d=b3 <;> simp[e,h,f,g]
def pgE(p q:Pg):Bool:=decide (p=q)
theorem sW(p q:Pg)(w:Wd):(binOp .eql 97 (gV p) (gV q)).run prog w=.ok (.bool (pgE p q)) w:=by
 have n:=sE;obtain⟨kd,od,cl,lv,nx,pv,fs,b0,b1,b2,b3⟩:=p;obtain⟨h,g,l,a,f,k,d,i,j,c,e⟩:=q;have u3:=Tryz.underlying3;have s3:=Tryz.isAgg3;have m:=Tryz.sizeOf3;rw[run_eql_struct];go_simp
 unfold pgE;repeat' split
 all_goals
  refine congrArg (fun b=>Result.ok (Value.bool b) w) ?_;symm;first
   | (rw[decide_eq_true_iff,Pg.mk.injEq];omega)
   | (rw[decide_eq_false_iff_not,Pg.mk.injEq];omega)
structure Sn9(I:Img)(k r:Nat):Prop where
 k8:k<=8
 ord:I.ord=(k:Int)
 np:I.np=r*2 ^ k
 gj:I.np<=1024
 nm:I.nm=I.np*4096
 no:I.no=k
 pl:∀ j,j<k->(I.pr j).length=pwN I.np j
 hl:I.hd.length=k+1
 tl:I.pt.length=8
 b0:I.bS≠0
 bm:I.bS%M.RS k=0
 be:I.bS+I.nm<=9223372036854775808
 rg:∀ i,i<I.np->rngB (k:Int) I.np (I.pg i)=true
theorem Sn9.pg{I:Img}{k r:Nat}(h:Sn9 I k r)(i:Nat)(hi:i<I.np):∃ kd o c l:Nat,(I.pg i).kd=(kd:Int)/\kd<=4/\(I.pg i).od=(o:Int)/\o<=k/\(I.pg i).cl=(c:Int)/\c<=7/\(I.pg i).lv=(l:Int)/\l<=256/\(-1<=(I.pg i).nx/\(I.pg i).nx<I.np)/\(-1<=(I.pg i).pv/\(I.pg i).pv<I.np) /\ -1<=(I.pg i).fs/\(I.pg i).fs<=255:=by have:=h.rg i hi;simp only[rngB,wiB,bu,ci] at this;obtain⟨⟨g,j⟩,⟨n,p⟩,⟨s,u⟩,⟨q,t⟩,⟨m,e⟩,⟨f,b⟩,a,d⟩:=this;refine⟨(I.pg i).kd.toNat,(I.pg i).od.toNat,(I.pg i).cl.toNat,(I.pg i).lv.toNat,?_,?_,?_,?_,?_,?_,?_,?_,?_,?_,?_,?_⟩ <;> omega
theorem Sn9.dvd{I:Img}{k r:Nat}(h:Sn9 I k r)(o:Nat)(a:o<=k) : 2 ^ o ∣ I.np:=by rw[h.np];exact Nat.dvd_trans (Nat.pow_dvd_pow 2 a) (Nat.dvd_mul_left _ _)
theorem mul_fits{m a n:Nat}(c:m ∣ n)(ha:a%m=0)(h:a<n):a+m<=n:=by obtain⟨x,rfl⟩:=da ha;obtain⟨y,rfl⟩:=c;have b:x<y:=Nat.lt_of_mul_lt_mul_left h;have:m*(x+1)<=m*y:=Nat.mul_le_mul_left m b;rwa [Nat.mul_add,Nat.mul_one] at this
theorem rY{od P:Nat}(b:od<=8)(a:P=2 ^ od):wrap64 ((1:Int)*2 ^ od)=(P:Int)/\((2:Int) ^ od)=(P:Int)/\wrap64 ((2:Int)*2 ^ od)=2*(P:Int):=by
 have h:=M.pow8 od b;have e:((2:Int) ^ od)=((2 ^ od:Nat):Int):=by simp
 rw[e,<-a];rw[<-a] at h;refine⟨?_,rfl,?_⟩ <;> unfold wrap64 <;> omega
theorem UA{P:Nat}(h : 1<=P):¬((2:Int)*(P:Int))=0:=by omega
theorem TZ{a P:Nat}(h:a%(2*P)=0):((a:Int)%(2*(P:Int)) == 0)=true:=by
 rw[cu];have:((a%(2*P):Nat):Int)=0:=by rw[h];rfl
 simpa using this
theorem TY{a P:Nat}(h:¬a%(2*P)=0):((a:Int)%(2*(P:Int)) == 0)=false:=by
 rw[ag];intro e;apply h
 have:((a%(2*P):Nat):Int)=0:=by simpa using e
 omega
theorem QA{P:Nat}(h : 1<=P):¬(P:Int)=0:=by omega
def hdOk(p:Pg)(a:Nat):Bool:=
 if p.kd=4 then decide (p.od=0) else if p.kd=0\/p.kd=2 then decide (a%2 ^ p.od.toNat=0) && pgE p (aT p.kd p.od) else false
def rsOk(p q:Pg):Bool:=pgE q (aT (p.kd+1) p.od)
def r4F(I:Img):Nat->Nat->Option Nat
 | 0,_=>none
 | n+1,a=>if I.np<=a then none else if hdOk (I.pg a) a=false then some a else
  match fst1 (2 ^ (I.pg a).od.toNat-1) (fun i=>rsOk (I.pg a) (I.pg (a+1+i)))with
  | some i=>some (a+1+i)
  | none=>r4F I n (a+2 ^ (I.pg a).od.toNat)
theorem DR{I:Img}{n a:Nat}(ha:a<I.np)(h:hdOk (I.pg a) a=false):r4F I (n+1) a=some a:=by rw[r4F,ac (by omega),ae h]
theorem GO{I:Img}{n a o j:Nat}(ha:a<I.np)(d:(I.pg a).od=(o:Int))(h:hdOk (I.pg a) a=true)(c:j<2 ^ o-1)(b:∀ x,x<j->rsOk (I.pg a) (I.pg (a+1+x))=true)(e:rsOk (I.pg a) (I.pg (a+1+j))=false):r4F I (n+1) a=some (a+1+j):=by rw[r4F,ac (by omega),ac (by rw[h];decide),d,aa,fY c b e]
theorem r4F_ok{I:Img}{n a o:Nat}(ha:a<I.np)(c:(I.pg a).od=(o:Int))(h:hdOk (I.pg a) a=true)(b:∀ x,x<2 ^ o-1->rsOk (I.pg a) (I.pg (a+1+x))=true):r4F I (n+1) a=r4F I n (a+2 ^ o):=by rw[r4F,ac (by omega),ac (by rw[h];decide),c,aa,fst1_ok b]
theorem r4F_end{I:Img}{n:Nat} : r4F I (n+1) I.np=none:=by rw[r4F,ae (aj _)]
def r4(I:Img):Option Nat:=r4F I (I.np+1) 0
structure PbI(w W:Wd)(b g:Nat)(I:Img)(V:ImV)(p:Pg):Prop where
 im:ImAt W b I V
 pb:W.heap[g]?=some (aV p)
 k:Kt nO w W
theorem PbI.dk{w W W':Wd}{b g:Nat}{I:Img}{V:ImV}{p:Pg}(h:PbI w W b g I V p)(a:Kt nO W W'):PbI w W' b g I V p:=
 ⟨h.im.dk a,(a.block _ (lH h.pb) (fun x=>x)).trans h.pb,nT h.k a⟩
theorem PbI.mk'{w W:Wd}{b:Nat}{I:Img}{V:ImV}(h:ImAt W b I V)(k:Kt nO w W)(p:Pg):PbI w (W.alloc (aV p)) b W.heap.size I V p:=
 ⟨h.dk ((Kt.refl _ W).alloc _),nH _ _,k.alloc _⟩
theorem dG{w:Wd}{g:Nat}{p:Pg}(h:w.heap[g]?=some (aV p)):w.cell? ⟨g,0,none⟩=some (.int .i64 p.kd)/\w.cell? ⟨g,1,none⟩=some (.int .i64 p.od)/\w.cell? ⟨g,2,none⟩=some (.int .i64 p.cl)/\w.cell? ⟨g,3,none⟩=some (.int .i64 p.lv)/\w.cell? ⟨g,4,none⟩=some (.int .i64 p.nx)/\w.cell? ⟨g,5,none⟩=some (.int .i64 p.pv)/\w.cell? ⟨g,6,none⟩=some (.int .i64 p.fs)/\w.cell? ⟨g,7,none⟩=some (.int .u64 p.b0)/\w.cell? ⟨g,8,none⟩=some (.int .u64 p.b1)/\w.cell? ⟨g,9,none⟩=some (.int .u64 p.b2)/\w.cell? ⟨g,10,none⟩=some (.int .u64 p.b3):=by refine⟨?_,?_,?_,?_,?_,?_,?_,?_,?_,?_,?_⟩ <;> simp[World.cell?,h]
theorem PbI.all{w W:Wd}{b g:Nat}{I:Img}{V:ImV}{p:Pg}(h:PbI w W b g I V p):(∀ x:KW W,x.v.cell? ⟨g,0,none⟩=some (.int .i64 p.kd))/\(∀ x:KW W,x.v.cell? ⟨g,1,none⟩=some (.int .i64 p.od))/\(∀ x:KW W,x.v.cell? ⟨g,2,none⟩=some (.int .i64 p.cl))/\(∀ x:KW W,x.v.cell? ⟨g,3,none⟩=some (.int .i64 p.lv))/\(∀ x:KW W,x.v.cell? ⟨g,4,none⟩=some (.int .i64 p.nx))/\(∀ x:KW W,x.v.cell? ⟨g,5,none⟩=some (.int .i64 p.pv))/\(∀ x:KW W,x.v.cell? ⟨g,6,none⟩=some (.int .i64 p.fs))/\(∀ x:KW W,x.v.cell? ⟨g,7,none⟩=some (.int .u64 p.b0))/\(∀ x:KW W,x.v.cell? ⟨g,8,none⟩=some (.int .u64 p.b1))/\(∀ x:KW W,x.v.cell? ⟨g,9,none⟩=some (.int .u64 p.b2))/\(∀ x:KW W,x.v.cell? ⟨g,10,none⟩=some (.int .u64 p.b3)):=
 ⟨fun x=>(dG (h.dk x.k).pb).1,fun x=>(dG (h.dk x.k).pb).2.1,fun x=>(dG (h.dk x.k).pb).2.2.1,fun x=>(dG (h.dk x.k).pb).2.2.2.1,fun x=>(dG (h.dk x.k).pb).2.2.2.2.1,fun x=>(dG (h.dk x.k).pb).2.2.2.2.2.1,fun x=>(dG (h.dk x.k).pb).2.2.2.2.2.2.1,fun x=>(dG (h.dk x.k).pb).2.2.2.2.2.2.2.1,fun x=>(dG (h.dk x.k).pb).2.2.2.2.2.2.2.2.1,fun x=>(dG (h.dk x.k).pb).2.2.2.2.2.2.2.2.2.1,fun x=>(dG (h.dk x.k).pb).2.2.2.2.2.2.2.2.2.2⟩
theorem ImAt.go{w:Wd}{b:Nat}{I:Img}{V:ImV}(h:ImAt w b I V){c o e n:Nat}(f:V.p=.slice (some ⟨c,o,none⟩) n e)(i:Nat)(hi:i<I.np)(x:KW w):PgC x.v c o i (I.pg i):=by
 obtain⟨g,j,d,a,_,hc⟩:=(h.dk x.k).ew i hi;rw[f] at a;injection a with e1 e2 e3
 injection e1 with e4
 injection e4 with e5 e6
 subst e5 e6;exact hc
theorem iN{w:Wd}{a o i:Nat}{p:Pg}(h:∀ x:KW w,PgC x.v a o i p):(∀ x:KW w,x.v.cell? ⟨a,o+i*11,none⟩=some (.int .i64 p.kd))/\(∀ x:KW w,x.v.cell? ⟨a,o+i*11+1,none⟩=some (.int .i64 p.od))/\(∀ x:KW w,x.v.cell? ⟨a,o+i*11+2,none⟩=some (.int .i64 p.cl))/\(∀ x:KW w,x.v.cell? ⟨a,o+i*11+3,none⟩=some (.int .i64 p.lv))/\(∀ x:KW w,x.v.cell? ⟨a,o+i*11+4,none⟩=some (.int .i64 p.nx))/\(∀ x:KW w,x.v.cell? ⟨a,o+i*11+5,none⟩=some (.int .i64 p.pv))/\(∀ x:KW w,x.v.cell? ⟨a,o+i*11+6,none⟩=some (.int .i64 p.fs))/\(∀ x:KW w,x.v.cell? ⟨a,o+i*11+7,none⟩=some (.int .u64 p.b0))/\(∀ x:KW w,x.v.cell? ⟨a,o+i*11+8,none⟩=some (.int .u64 p.b1))/\(∀ x:KW w,x.v.cell? ⟨a,o+i*11+9,none⟩=some (.int .u64 p.b2))/\(∀ x:KW w,x.v.cell? ⟨a,o+i*11+10,none⟩=some (.int .u64 p.b3)):=
 ⟨fun x=>(h x).c.1,fun x=>(h x).c.2.1,fun x=>(h x).c.2.2.1,fun x=>(h x).c.2.2.2.1,fun x=>(h x).c.2.2.2.2.1,fun x=>(h x).c.2.2.2.2.2.1,fun x=>(h x).c.2.2.2.2.2.2.1,fun x=>(h x).c.2.2.2.2.2.2.2.1,fun x=>(h x).c.2.2.2.2.2.2.2.2.1,fun x=>(h x).c.2.2.2.2.2.2.2.2.2.1,fun x=>(h x).c.2.2.2.2.2.2.2.2.2.2⟩
def ok6(I:Img)(k a:Nat):Bool:=!(isF (I.pg a) (I.pg a).od && decide ((I.pg a).od<(k:Int)) && decide (a%(2*2 ^ (I.pg a).od.toNat)=0)) || !isF (I.pg (a+2 ^ (I.pg a).od.toNat)) (I.pg a).od
def ok11(I:Img)(a:Nat):Bool:=!(decide ((I.pg a).kd=4) && decide ((I.pg a).lv=(celN9 (I.pg a).cl.toNat:Int))) || (decide ((I.pg a).nx = -1) && decide ((I.pg a).pv = -1))
theorem zdl(b:Nat)(I:Img)(V:ImV)(k r:Nat)(hS:Sn9 I k r)(w:Wd)(hI:ImAt w b I V):Calls prog 147 #[.pointer (some ⟨b,0,none⟩)] w fun e w'=>e=bG (fst1 I.np (ok11 I))/\Kt nO w w':=by
 obtain⟨-,⟨pa,pc,hp⟩,-,-,-,-,bp,-,-⟩:=hI.d.sl;obtain⟨c0,c1,c2,c3,c4,c5,c6,c7,c8⟩:=hI.cells;rw[hp] at c5;obtain⟨EE,P⟩:=xe (bG (fst1 I.np (ok11 I)));rw[<-P];have HE:=aA P;have HI:=aA hI;have HS:=aA hS;have SP:=aA hp;have a2:=hS.gj;obtain⟨n,hn⟩:=xe (I.np);rw[<-hn] at a2 c5;have HN:=aA hn;clear P hI hp hS hn bp;go_enter func147,ntmps147;go_wp2_with fail;go_loopw [9] (fun i W=>∃ a:Nat,a<=n/\i=.int .i64 a/\Hd (Kt nO w W/\∀ x,x<a->ok11 I x=true)) (fun i _=>n-(intOf i).toNat)
 case atStart=>exact⟨0,az _,rfl,aA ⟨Kt.refl _ _,fun x hx=>by omega⟩⟩
 case round=>
  clear c0 c1 c2 c3 c4 c5 c6 c7 c8;obtain⟨a,ha,rfl,hR⟩:=hrel;have A0:=aA (HI.o.dk hR.o.1);by_cases a1:a<n
  ·have a4:(a:Int)<n:=(by omega);have s:a<I.np:=(by rw[<-HN.o];exact a1);obtain⟨bl,o,a6,a0,a3,X⟩:=A0.o.ew a s;rw[SP.o] at a0;injection a0 with e1 e2 e3
   subst e1;obtain⟨kd,od,cc,ll,y1,y2,y3,y4,y5,y6,y7,y8,-⟩:=HS.o.pg a s;have FB:=aA (show ok11 I a=false->cE (a:Int)=EE from fun h=>by rw[HE.o,fY s hR.o.2 h];rfl);have GA:=aA (show ok11 I a=true->∀ x,x<a+1->ok11 I x=true from fun h x hx=>by
    by_cases e:x=a;·rw[e];exact h
    ·exact hR.o.2 x (by omega))
   have L:=aA (show ok11 I a=(!(decide ((I.pg a).kd=4) && decide ((I.pg a).lv=(celN9 (I.pg a).cl.toNat:Int))) || (decide ((I.pg a).nx = -1) && decide ((I.pg a).pv = -1)))from rfl);have PB:=aA (PbI.mk' (w:=w) A0.o hR.o.1 (I.pg a));obtain⟨d0,R,T,Q,Y,d5,U,d7,Z,d9,C⟩:=X.c;have y:=aA (fun W=>GK (I.pg a) cc y5 y6 W);rw[y5,aa] at L;generalize ok11 I a=a5 at *;generalize I.pg a=p at *;obtain⟨N,v,q,j,t,l,u,m,z,A,B⟩:=p;dsimp only at d0 R T Q Y d5 U d7 Z d9 C L y1 y;generalize decide (j=(celN9 cc:Int))=fu at *;clear a3 X e2 e3 y1 y2 y3 y4 y5 y6 y7 y8;by_cases G:N=4
   ·subst G
    cases fu with
    | false=>
     have K:=aA (GA.o (by rw[L.o];simp));go_wp2_with fail;generalize wr.alloc (aV ⟨4,v,q,j,t,l,u,m,z,A,B⟩)=W1 at *;generalize wr.heap.size=g at *;refine(y.o _).mono ?_;rintro e w1 ⟨rfl,D⟩;have K1:=aA (nT PB.o.k D);clear D d0 R T Q Y d5 U d7 Z d9 C;go_wp2_with fail;have R3:=aA (show Kt nO w w1/\_ from⟨K1.o,K.o⟩);go_round
     case rel=>exact⟨a+1,by omega,by go_num,R3⟩
     case measure=>simp[intOf];omega
    | true=>
     by_cases F:t = -1
     ·subst F;by_cases J:l = -1
      ·subst J;have K:=aA (GA.o (by rw[L.o];simp));go_wp2_with fail;generalize wr.alloc (aV ⟨4,v,q,j,-1,-1,u,m,z,A,B⟩)=W1 at *;generalize wr.heap.size=g at *;refine(y.o _).mono ?_;rintro e w1 ⟨rfl,D⟩;have f:=aA (PB.o.dk D);obtain⟨q0,q1,q2,q3,q4,q5,q6,q7,q8,q9,S⟩:=dG f.o.pb;clear D d0 R T Q Y d5 U d7 Z d9 C;go_wp2_with fail;refine(dC _ _).mono ?_;rintro e w2 ⟨rfl,rfl⟩;have R3:=aA (show Kt nO w w2/\_ from⟨f.o.k,K.o⟩);go_wp2_with fail;go_round
       case rel=>exact⟨a+1,by omega,by go_num,R3⟩
       case measure=>simp[intOf];omega
      ·have K:=aA (FB.o (by rw[L.o];simp[J]));have f2:(l == -1)=false:=(by rw[ag];exact J);clear J;go_wp2_with fail;generalize wr.alloc (aV ⟨4,v,q,j,-1,l,u,m,z,A,B⟩)=W1 at *;generalize wr.heap.size=g at *;refine(y.o _).mono ?_;rintro e w1 ⟨rfl,D⟩;have f:=aA (PB.o.dk D);obtain⟨q0,q1,q2,q3,q4,q5,q6,q7,q8,q9,S⟩:=dG f.o.pb;clear D d0 R T Q Y d5 U d7 Z d9 C;go_wp2_with fail;refine(dW _ _).mono ?_;rintro e w2 ⟨rfl,rfl⟩;exact⟨rfl,K.o,f.o.k⟩
     ·have K:=aA (FB.o (by rw[L.o];simp[F]));have f2:(t == -1)=false:=(by rw[ag];exact F);clear F;go_wp2_with fail;generalize wr.alloc (aV ⟨4,v,q,j,t,l,u,m,z,A,B⟩)=W1 at *;generalize wr.heap.size=g at *;refine(y.o _).mono ?_;rintro e w1 ⟨rfl,D⟩;have f:=aA (PB.o.dk D);obtain⟨q0,q1,q2,q3,q4,q5,q6,q7,q8,q9,S⟩:=dG f.o.pb;clear D d0 R T Q Y d5 U d7 Z d9 C;go_wp2_with fail;refine(dW _ _).mono ?_;rintro e w2 ⟨rfl,rfl⟩;exact⟨rfl,K.o,f.o.k⟩
   ·have K:=aA (show Kt nO w (wr.alloc (aV ⟨N,v,q,j,t,l,u,m,z,A,B⟩))/\_ from⟨hR.o.1.alloc _,GA.o (by rw[L.o];simp[G])⟩);have f2:(N == 4)=false:=(by rw[ag];exact G);clear G;go_wp2_with fail;go_round
    case rel=>exact⟨a+1,by omega,by go_num,K⟩
    case measure=>simp[intOf];omega
  ·obtain rfl:a=n:=(by omega);have a4:¬(a:Int)<a:=(by omega);have E:=aA (show Ending.returned (.tuple #[])=EE by rw[HE.o,fst1_ok (fun x hx=>hR.o.2 x (by rw[HN.o];exact hx))];rfl);go_wp2_with fail;first|go_end0|go_ret
   exact⟨E.o,hR.o.1⟩
theorem zfi(b:Nat)(I:Img)(V:ImV)(k r:Nat)(hS:Sn9 I k r)(w:Wd)(hI:ImAt w b I V):Calls prog 142 #[.pointer (some ⟨b,0,none⟩)] w fun e w'=>e=bG (fst1 I.np (ok6 I k))/\Kt nO w w':=by
 obtain⟨-,⟨pa,pc,hp⟩,-,-,-,-,bp,-,-⟩:=hI.d.sl;obtain⟨c0,c1,c2,c3,c4,c5,c6,c7,c8⟩:=hI.cells;rw[hp] at c5;obtain⟨EE,a5⟩:=xe (bG (fst1 I.np (ok6 I k)));rw[<-a5];have HE:=aA a5;have HI:=aA hI;have HS:=aA hS;have SP:=aA hp;have c9:=hS.gj;have g4:=hS.k8;obtain⟨n,hn⟩:=xe (I.np);rw[<-hn] at c9 c5;have HN:=aA hn;clear a5 hI hp hS hn bp;go_enter func142,ntmps142;go_wp2_with fail;go_loopw [11] (fun i W=>∃ a:Nat,a<=n/\i=.int .i64 a/\Hd (Kt nO w W/\∀ x,x<a->ok6 I k x=true)) (fun i _=>n-(intOf i).toNat)
 case atStart=>exact⟨0,az _,rfl,aA ⟨Kt.refl _ _,fun x hx=>by omega⟩⟩
 case round=>
  clear c0 c1 c2 c3 c4 c5 c6 c7 c8;obtain⟨a,ha,rfl,hR⟩:=hrel;have A0:=aA (HI.o.dk hR.o.1);by_cases b9:a<n
  ·have e4:(a:Int)<n:=(by omega);have s:a<I.np:=(by rw[<-HN.o];exact b9);obtain⟨bl,o,f0,b4,e0,b0⟩:=A0.o.ew a s;rw[SP.o] at b4;injection b4 with e1 e2 e3
   subst e1;obtain⟨kd,od,cc,ll,y1,y2,y3,y4,y5,y6,y7,y8,-⟩:=HS.o.pg a s;have a3:od<=8:=(by omega);have hP:=M.pow8 od a3;have FB:=aA (show ok6 I k a=false->cE (a:Int)=EE from fun h=>by rw[HE.o,fY s hR.o.2 h];rfl);have GA:=aA (show ok6 I k a=true->∀ x,x<a+1->ok6 I k x=true from fun h x hx=>by
    by_cases e:x=a;·rw[e];exact h
    ·exact hR.o.2 x (by omega))
   have OK:=aA (show ok6 I k a=(!(isF (I.pg a) (od:Int) && decide ((od:Int)<k) && decide (a%(2*2 ^ od)=0)) || !isF (I.pg (a+2 ^ od)) (od:Int))by unfold ok6;rw[y3,aa]);have a8:=aA (show od<k->a%(2*2 ^ od)=0->a+2 ^ od<n from fun h1 h=>by have:=mul_fits (HS.o.dvd (od+1) (by omega)) (by rw[co,aq];exact h) s;rw[HN.o];have hp:=ax od;rw[co] at this;omega)
   have PB:=aA (PbI.mk' (w:=w) A0.o hR.o.1 (I.pg a));obtain⟨d0,D,K,A,N,Y,L,S,Q,U,j⟩:=b0.c;have y:=aA (fun W=>qR (I.pg a) (od:Int) W);generalize ok6 I k a=b6 at *;obtain⟨fv,a7⟩:=xe (isF (I.pg a) (od:Int));rw[<-a7] at OK y;clear a7;generalize I.pg a=p at *;obtain⟨B,f5,C,F,R,J,T,z,X,a0,a1⟩:=p;dsimp only at d0 D K A N Y L S Q U j y3;subst y3;obtain⟨P,a4⟩:=xe (2 ^ od);rw[<-a4] at a8 hP OK;have b8:=hP.1;have e6:=hP.2;have e5:¬((2:Int)*(P:Int))=0:=UA b8;have SH:=aA (rY a3 a4);clear a4 e0 b0 e2 e3 hP y1 y2 y5 y6 y7 y8
   cases fv with
   | false=>
    have Z:=aA (GA.o (by rw[OK.o];simp));go_wp2_with fail;generalize wr.alloc (aV ⟨B,(od:Int),C,F,R,J,T,z,X,a0,a1⟩)=W1 at *;generalize wr.heap.size=g at *;refine(y.o _).mono ?_;rintro e w1 ⟨rfl,l⟩;have K1:=aA (nT PB.o.k l);clear l d0 D K A N Y L S Q U j;go_wp2_with fail;have R3:=aA (show Kt nO w w1/\_ from⟨K1.o,Z.o⟩);go_round
    case rel=>exact⟨a+1,by omega,by go_num,R3⟩
    case measure=>simp[intOf];omega
   | true=>
    by_cases u:od<k
    case neg=>
     have Z:=aA (GA.o (by rw[OK.o];simp[u]));have f1:decide ((od:Int)<k)=false:=ah (by omega);have f2:¬(od:Int)<k:=(by omega);clear u;go_wp2_with fail;generalize wr.alloc (aV ⟨B,(od:Int),C,F,R,J,T,z,X,a0,a1⟩)=W1 at *;generalize wr.heap.size=g at *;refine(y.o _).mono ?_;rintro e w1 ⟨rfl,l⟩;have f:=aA (PB.o.dk l);obtain⟨c0,c1,c2,c3,c4,c5,c6,c7,c8⟩:=f.o.im.cells;rw[HS.o.ord] at c2;clear l d0 D K A N Y L S Q U j;go_wp2_with fail;have R3:=aA (show Kt nO w w1/\_ from⟨f.o.k,Z.o⟩);go_round
     case rel=>exact⟨a+1,by omega,by go_num,R3⟩
     case measure=>simp[intOf];omega
    have f1:decide ((od:Int)<k)=true:=af (by omega);have f2:(od:Int)<k:=(by omega);by_cases m:a%(2*P)=0
    case neg=>
     have Z:=aA (GA.o (by rw[OK.o];simp[m]));have f3:((a:Int)%(2*(P:Int)) == 0)=false:=TY m;obtain⟨b2,b3,a9⟩:=SH.o;clear u m;go_wp2_with fail;generalize wr.alloc (aV ⟨B,(od:Int),C,F,R,J,T,z,X,a0,a1⟩)=W1 at *;generalize wr.heap.size=g at *;refine(y.o _).mono ?_;rintro e w1 ⟨rfl,l⟩;have f:=aA (PB.o.dk l);obtain⟨c0,c1,c2,c3,c4,c5,c6,c7,c8⟩:=f.o.im.cells;rw[HS.o.ord] at c2;clear l d0 D K A N Y L S Q U j;go_wp2_with fail;have R3:=aA (show Kt nO w w1/\_ from⟨f.o.k,Z.o⟩);go_round
     case rel=>exact⟨a+1,by omega,by go_num,R3⟩
     case measure=>simp[intOf];omega
    have f3:((a:Int)%(2*(P:Int)) == 0)=true:=TZ m;have a2:=a8.o u m;have G:=aA (show b6=!isF (I.pg (a+P)) (od:Int)by rw[OK.o];simp[u,m]);obtain⟨t,ht⟩:=xe (a+P);have f4:(a:Int)+(P:Int)=t:=(by omega);rw[<-ht] at G a2;have g3:(t:Int)<n:=(by omega);have b7:t<I.np:=(by rw[<-HN.o];exact a2);clear u m ht;have a6:=aA (fun W=>qR (I.pg t) (od:Int) W);obtain⟨fw,b1⟩:=xe (isF (I.pg t) (od:Int));rw[<-b1] at G a6;clear b1;obtain⟨b2,b3,a9⟩:=SH.o;go_wp2_with fail;generalize wr.alloc (aV ⟨B,(od:Int),C,F,R,J,T,z,X,a0,a1⟩)=W1 at *;generalize wr.heap.size=g at *;refine(y.o _).mono ?_;rintro e w1 ⟨rfl,l⟩;have f:=aA (PB.o.dk l);obtain⟨c0,c1,c2,c3,c4,c5,c6,c7,c8⟩:=f.o.im.cells;rw[HS.o.ord] at c2;rw[SP.o,<-HN.o] at c5;have b5:=f.o.im.go SP.o t b7 ⟨w1,Kt.refl _ _⟩;clear l d0 D K A N Y L S Q U j;generalize I.pg t=q at *;obtain⟨g2,e9,f9,f6,e7,e8,g5,g1,g0,f8,f7⟩:=q;obtain⟨d0,D,K,A,N,Y,L,S,Q,U,j⟩:=b5.c;dsimp only[KW.v] at d0 D K A N Y L S Q U j;clear b5
    cases fw with
    | false=>
     have Z:=aA (GA.o (by rw[G.o];rfl));go_wp2_with fail;refine(a6.o _).mono ?_;rintro e w2 ⟨rfl,l⟩;have K2:=aA (nT f.o.k l);clear l d0 D K A N Y L S Q U j;go_wp2_with fail;refine(dC _ _).mono ?_;rintro e w3 ⟨rfl,rfl⟩;have R3:=aA (show Kt nO w w3/\_ from⟨K2.o,Z.o⟩);go_wp2_with fail;go_round
     case rel=>exact⟨a+1,by omega,by go_num,R3⟩
     case measure=>simp[intOf];omega
    | true=>have Z:=aA (FB.o (by rw[G.o];rfl));go_wp2_with fail;refine(a6.o _).mono ?_;rintro e w2 ⟨rfl,l⟩;have K2:=aA (nT f.o.k l);clear l d0 D K A N Y L S Q U j;go_wp2_with fail;refine(dW _ _).mono ?_;rintro e w3 ⟨rfl,rfl⟩;exact⟨rfl,Z.o,K2.o⟩
  ·obtain rfl:a=n:=(by omega);have e4:¬(a:Int)<a:=(by omega);have E:=aA (show Ending.returned (.tuple #[])=EE by rw[HE.o,fst1_ok (fun x hx=>hR.o.2 x (by rw[HN.o];exact hx))];rfl);go_wp2_with fail;first|go_end0|go_ret
   exact⟨E.o,hR.o.1⟩
end W
open Tryz RowKit
set_option linter.unusedVariables false
theorem zkX:(prog.info? 39).map (fun i=>(i.zero,i.size,i.bytes))=some (some (.slice none 0 0),1,24):=by kernel_rfl
abbrev qX(D:Nat->Nat)(wd:Nat->List Nat)(j:Nat):Vl:=.slice (some ⟨D j,0,none⟩) (wd j).length (wd j).length
structure Told(w W:Wd)(gp gq:Nat)(m:Mp)(k:Nat)(D:Nat->Nat):Prop where
 row:bO W gp m.n m.pg
 q:∃ cs:Array Vl,W.heap[gq]?=some (.cells cs 39 (0,0))/\cs.size=m.o/\∀ j,j<k->cs[j]?=some (qX D m.wd j)
 d:∀ j,j<k->W.heap[D j]?=some (.cells (bT (m.wd j)) 22 (0,0))
 iD:∀ i j,i<k->j<k->D i=D j->i=j
 fp:w.heap.size<=gp
 fq:w.heap.size<=gq
 fd:∀ j,j<k->w.heap.size<=D j
 kp:Kt nO w W
theorem Told.cell{w W gp gq m k D}(h:Told w W gp gq m k D)(j:Nat)(a:j<m.o):∃ v,W.cell? ⟨gq,j,none⟩=some v:=by obtain⟨cs,hg,hs,_⟩:=h.q;exact⟨cs[j]'(by omega),by simp[World.cell?,hg,hs,a]⟩
theorem Told.ic{w W gp gq m k D}(h:Told w W gp gq m k D)(j:Nat):W.frozen? ⟨gq,j,none⟩=false:=by obtain⟨cs,hg,hs,_⟩:=h.q;simp[World.frozen?,hg]
theorem Told.dk{w W W' gp gq m k D}(h:Told w W gp gq m k D)(kp:Kt nO W W'):Told w W' gp gq m k D:=by obtain⟨cs,hg,hs⟩:=h.q;exact⟨bO.kept h.row kp (fun x=>x),⟨cs,(kp.block _ (lH hg) (fun x=>x)).trans hg,hs⟩,fun j a=>(kp.block _ (lH (h.d j a)) (fun x=>x)).trans (h.d j a),h.iD,h.fp,h.fq,h.fd,nT h.kp kp⟩
theorem Told.next{w W W2 gp gq m k D}(h:Told w W gp gq m k D)(r:k<m.o)(kp:Kt nO W W2)(hx:W2.heap[W.heap.size]?=some (.cells (bT (m.wd k)) 22 (0,0))):Told w (W2.setCell ⟨gq,k,none⟩ (.slice (some ⟨W.heap.size,0,none⟩) (m.wd k).length (m.wd k).length)) gp gq m (k+1) (fun j=>if j=k then W.heap.size else D j):=by
 have a:=h.dk kp;obtain⟨cs,hg,hs,hc⟩:=a.q;obtain⟨n,c,_⟩:=a.row;have f:Kt (fun x=>x=gq) W2 (W2.setCell ⟨gq,k,none⟩ (.slice (some ⟨W.heap.size,0,none⟩) (m.wd k).length (m.wd k).length)):=(Kt.refl (fun x=>x=gq) W2).setCell (p:=⟨gq,k,none⟩) rfl _;have lt:∀ j,j<k->D j<W.heap.size:=fun j b=>lH (h.d j b)
 refine⟨bO.kept a.row f (bX c hg (by decide)),⟨_,cD hg k _,by simpa using hs,fun j b=>?_⟩,fun j b=>?_,fun i j hi b e=>?_,h.fp,h.fq,fun j b=>?_,a.kp.em (p:=⟨gq,k,none⟩) (fun e=>absurd e (Nat.not_lt.2 h.fq)) _⟩
 ·rw[Array.getElem?_setIfInBounds];by_cases e:j=k
  ·subst e;rw[ae rfl,ae (by omega)];simp[qX]
  ·rw[ac (by omega),hc j (by omega)];simp[qX,e]
 ·by_cases e:j=k
  ·simp only[e,if_true];exact(f.block _ (lH hx) (bX hx hg (by decide))).trans hx
  ·simp only[e,if_false];exact(f.block _ (lH (a.d j (by omega))) (bX (a.d j (by omega)) hg (by decide))).trans (a.d j (by omega))
 ·by_cases l:i=k <;> by_cases g:j=k <;> simp only[l,g,if_true,if_false] at e
  ·omega
  ·have:=lt j (by omega);omega
  ·have:=lt i (by omega);omega
  ·exact h.iD i j (by omega) (by omega) e
 ·by_cases e:j=k
  ·simp only[e,if_true];exact h.kp.size
  ·simp only[e,if_false];exact h.fd j (by omega)
theorem GI(o:Nat)(c:o<=8)(w:Wd):∃ a,(Instr.makeSlice 38 (.int .i64 o) (.int .i64 o)).run prog w=.ok (.slice (some ⟨w.heap.size,0,none⟩) o o) a/\(∃ cs:Array Vl,a.heap[w.heap.size]?=some (.cells cs 39 (0,0))/\cs.size=o)/\Kt nO w a/\a.heap.size=w.heap.size+1:=by have b:=run_make_row' (P:=prog) 38 39 (.slice none 0 0) 24 Tryz.underlying38 zkX rfl .i64 .i64 o (by omega) (by omega) w;exact⟨_,b,⟨_,nH _ _,size_madeCells _ _⟩,(kz w).alloc _,by simp⟩
theorem WF(b:Nat)(B:Bs)(m:Mp)(w:Wd)(h:MpA w b B m)(h0:m.o=0):Calls prog 39 #[.pointer (some ⟨b,0,none⟩)] w fun e Y=>∃ K f D,e=.returned (.tuple #[.slice (some ⟨K,0,none⟩) m.n m.n,.slice (some ⟨f,0,none⟩) m.o m.o])/\Told w Y K f m m.o D:=by
 obtain⟨cq,c0,c1,c2⟩:=h.cb;have v:=h.o8;have z:=h.n1;obtain⟨w1,C,q,c,I⟩:=uH m.n z w;have L:=aA (h.dk c);obtain⟨kk,u,J,r,t,G⟩:=uG w1 w.heap.size m.n B.g m.n (fun _=>aU) m.pg q L.o.row;have E:=aA (show Kt nO w u from c.trans t (fun _ _ x=>x) (fun x hx e=>by omega));obtain⟨w3,l,s,a,A⟩:=GI m.o v u;have N:=aA (nT E.o a);obtain⟨a0,d0,Q,d2⟩:=L.o.cb;obtain⟨a1,e0,e1,S⟩:=(h.dk E.o).cb;obtain⟨R,Z,f1,f2⟩:=(h.dk N.o).cb;have HO:=aA h;have F:=aA (show Told w w3 w.heap.size u.heap.size m 0 (fun _=>0)from⟨(bO.kept r a (fun x=>x)).congr (fun i hi=>by simp[hi]),by obtain⟨cs,T,X⟩:=s;exact⟨cs,T,X,fun j p=>absurd p (by omega)⟩,fun j p=>absurd p (by omega),fun i j hi=>absurd hi (by omega),aj _,E.o.size,fun j p=>absurd p (by omega),N.o⟩);have P:=aA h0;clear h q c r t s a I G A h0;go_enter func39,ntmps39;go_wp2_with fail;obtain⟨f,d⟩:=xe (u.heap.size);rw[<-d] at F;rw[<-d];clear d c0 c1 c2 d0 Q d2 e0 e1 S Z f1 f2 C J l;go_loopw [4,5,28] (fun x y i W=>∃ k:Nat,k<=m.o/\i=.int .i64 k/\Hd (∃ D,Told w W w.heap.size f m k D)) (fun _ _ i _=>m.o-(intOf i).toNat)
 case atStart=>exact⟨0,by omega,rfl,⟨_,F.o⟩⟩
 case round=>
  clear F;obtain⟨k,hk,rfl,hR⟩:=hrel;obtain⟨D,hR⟩:=hR.o;have V:=aA hR;clear hR;have U:¬(k:Int)<m.o:=by have:=P.o;omega
  ·obtain rfl:k=m.o:=(by have:=P.o;omega);go_wp2_with fail;skip
   exact⟨rfl,.tuple #[.slice (some ⟨w.heap.size,0,none⟩) m.n m.n,.slice (some ⟨f,0,none⟩) m.o m.o],by simp[results,results39,go_sem],w.heap.size,f,rfl,D,V.o⟩
theorem WE(b q:Nat)(B:Bs)(m:Mp)(w:Wd)(h:MpA w b B m)(hq:B.P=some q):Calls prog 39 #[.pointer (some ⟨b,0,none⟩)] w fun e F=>∃ gp p D,e=.returned (.tuple #[.slice (some ⟨gp,0,none⟩) m.n m.n,.slice (some ⟨p,0,none⟩) m.o m.o])/\Told w F gp p m m.o D:=by
 obtain⟨cq,c0,c1,c2⟩:=h.cb;have J:=h.o8;have G:=h.n1;obtain⟨w1,Q,u,c,L⟩:=uH m.n G w;have M1:=aA (h.dk c);obtain⟨kk,E,X,s,t,I⟩:=uG w1 w.heap.size m.n B.g m.n (fun _=>aU) m.pg u M1.o.row;have R:=aA (show Kt nO w E from c.trans t (fun _ _ x=>x) (fun x hx e=>by omega));obtain⟨w3,r,A,f,N⟩:=GI m.o J E;have Y:=aA (nT R.o f);obtain⟨a3,d0,d1,d2⟩:=M1.o.cb;obtain⟨a4,e0,e1,e2⟩:=(h.dk R.o).cb;obtain⟨a0,f0,f1,Z⟩:=(h.dk Y.o).cb;have HO:=aA h;have K:=aA (show Told w w3 w.heap.size E.heap.size m 0 (fun _=>0)from⟨(bO.kept s f (fun x=>x)).congr (fun i hi=>by simp[hi]),by obtain⟨cs,h1,h2⟩:=A;exact⟨cs,h1,h2,fun j z=>absurd z (by omega)⟩,fun j z=>absurd z (by omega),fun i j hi=>absurd hi (by omega),aj _,R.o.size,fun j z=>absurd z (by omega),Y.o⟩);rw[show adr B.P=some ⟨q,0,none⟩by rw[hq];rfl] at c2 d2 e2 Z;have HQ:=aA hq;clear h u c s t A f L I N hq;go_enter func39,ntmps39;go_wp2_with fail;obtain⟨p,d⟩:=xe (E.heap.size);rw[<-d] at K;rw[<-d];clear d c0 c1 c2 d0 d1 d2 e0 e1 e2 f0 f1 Z Q X r;go_loopw [4,5,28] (fun x y i W=>∃ k:Nat,k<=m.o/\i=.int .i64 k/\Hd (∃ D,Told w W w.heap.size p m k D)) (fun _ _ i _=>m.o-(intOf i).toNat)
 case atStart=>exact⟨0,by omega,rfl,⟨_,K.o⟩⟩
 case round=>
  clear K;obtain⟨k,hk,rfl,hR⟩:=hrel;obtain⟨D,hR⟩:=hR.o;have l:=aA hR;clear hR;by_cases a:k<m.o
  ·have a1:(k:Int)<m.o:=(by omega);have a5:wr.cell? ⟨q,k,none⟩=some (.pointer (some ⟨B.S k,0,none⟩)):=by
    obtain⟨q',v,hc⟩:=(HO.o.dk l.o.kp).cp k a;rw[HQ.o] at v
    cases v
    exact hc
   have WD:=aA (fun F (kk:Kt nO w F)=>JR (B.S k) (B.C k) _ (m.wd k) F ((HO.o.dk kk).set k a));obtain⟨v0,V⟩:=l.o.cell k a;have U:=aA a;go_wp2_with fail;refine(WD.o _ l.o.kp).mono ?_;rintro e W2 ⟨rfl,hx,hK,T⟩;have HX:=aA (l.o.next U.o hK hx);have zz:=(l.o.dk hK).ic k;have a2:=Kt.cell (S:=nO) hK (fun x=>x) V;clear hx hK T;go_wp2_with fail;exact⟨⟨k+1,by omega,by simp,⟨_,HX.o⟩⟩,by simp[intOf];omega⟩
  ·obtain rfl:k=m.o:=(by omega);go_wp2_with fail;skip
   exact⟨rfl,.tuple #[.slice (some ⟨w.heap.size,0,none⟩) m.n m.n,.slice (some ⟨p,0,none⟩) m.o m.o],by simp[results,results39,go_sem],w.heap.size,p,D,rfl,l.o⟩
theorem zi6(b:Nat)(B:Bs)(m:Mp)(w:Wd)(h:MpA w b B m):Calls prog 39 #[.pointer (some ⟨b,0,none⟩)] w fun e d=>∃ c a D,e=.returned (.tuple #[.slice (some ⟨c,0,none⟩) m.n m.n,.slice (some ⟨a,0,none⟩) m.o m.o])/\Told w d c a m m.o D:=by
 by_cases h0:m.o=0;·exact WF b B m w h h0
 ·obtain⟨q,hq,_⟩:=h.cp 0 (by omega);exact WE b q B m w h hq
structure GS(w0 W:Wd)(e:TypeId)(size:Nat)(v:Vl)(n:Nat)(xs:List Vl):Prop where
 own:W.ownsRow 0 e size v n xs
 new:∀ g cap,v=.slice (some ⟨g,0,none⟩) n cap->cap<=n\/w0.heap.size<=g
 kp:Kt nO w0 W
theorem nR{w a:Wd}{row:Option Nat}(h:w.grownBy a row):Kt (fun b=>row=some b) w a:=⟨h.os,h.tape,h.output,h.size,fun k c d=>h.block k c (fun e=>d e.symm)⟩
theorem GS.nil(a W:Wd)(e:TypeId)(size:Nat)(k:Kt nO a W):GS a W e size (.slice none 0 0) 0 []:=
 ⟨World.ownsRow_nil _ _ _ _,fun g cap h=>by simp at h,k⟩
theorem GS.dk{w0 W W' e size v n xs}(h:GS w0 W e size v n xs)(k:Kt nO W W'):GS w0 W' e size v n xs:=by
 refine⟨⟨h.own.1,?_⟩,h.new,nT h.kp k⟩;rcases h.own.2 with h0|⟨g,cap,a,rfl,hb,hg,b⟩
 ·exact .inl h0
 ·exact .inr ⟨g,cap,a,rfl,hb,(k.block g (lH hg) (fun x=>x)).trans hg,b⟩
theorem xI{w:Wd}{cs:Array Vl}{t:TypeId}(j:Nat)(u:Vl)(h:cs.toList[j]?=some u):(w.alloc (.cells cs t)).cell? (Addr.add ⟨w.heap.size,0,none⟩ j)=some u:=by rw[Addr.add_lit,dz];have:=nH w (.cells cs t);simp only[World.cell?,this];rw[<-ef,h];rfl
end Go.Proofs.YtfmgnljlkdmndaaGreatDoor
