import Derived.Test.YtfmgnljlkdmndaaGreatDoorXw
import Derived.Test.YtfmgnljlkdmndaaGreatDoorWl
set_option maxRecDepth 1000000
set_option maxHeartbeats 0
namespace Go.Proofs.YtfmgnljlkdmndaaGreatDoor
namespace W
open Tryz RowKit
set_option linter.unusedVariables false
def ig(I:Img)(g:Nat):List (Nat×Nat):=
 if (I.pg g).kd=2 then [(I.bS+g*4096,4096*2 ^ (I.pg g).od.toNat)]
 else if (I.pg g).kd=4 then gl I.bS g (16*2 ^ (I.pg g).cl.toNat) (wsP (I.pg g)) (celN9 (I.pg g).cl.toNat) else []
def gy(I:Img):Nat->List (Nat×Nat)
 | 0=>[]
 | j + 1=>gy I j ++ ig I j
def ey(I:Img):List (Nat×Nat):=if (chk I).1=0 then gy I I.np else []
theorem chk_zero{I:Img}(h:(chk I).1=0)(a:Nat)(ha:a<11):rl I a=none:=by
 cases e:(List.range 11).findSome? (fun j=>(rl I j).map fun p=>(j+1,p))with
 | none=>have:=List.findSome?_eq_none_iff.1 e a (List.mem_range.2 ha);simpa using this
 | some x=>
  exfalso
  have:chk I=x:=by unfold chk;rw[e]
  rw[this] at h;obtain⟨j,-,b⟩:=List.exists_of_findSome?_eq_some e;simp only[Option.map_eq_some_iff] at b;obtain⟨p,-,hp⟩:=b;rw[<-hp] at h;simp at h
theorem sn9_chk{I:Img}(h:(chk I).1=0):∃ r,Sn9 I I.ord.toNat r:=sn9_of (chk_zero h 0 (by decide)) (chk_zero h 1 (by decide)) (chk_zero h 2 (by decide))
theorem DP{I:Img}{k r:Nat}(hS:Sn9 I k r)(g:Nat)(hg:g<I.np):(ig I g).length<=256:=by
 obtain⟨_,_,c,_,-,-,-,-,a,b,-⟩:=hS.pg g hg;unfold ig;split;·simp
 ·split
  ·rw[a,aa];exact an (vQ _ _ _ _ _) (nK c b).2
  ·simp
theorem DO{I:Img}{k r:Nat}(hS:Sn9 I k r):∀ j,j<=I.np->(gy I j).length<=256*j
 | 0,_=>aj _
 | j+1,h=>by
  have a:=DO hS j (by omega);have b:=DP hS j (by omega);show(gy I j ++ ig I j).length<=_
  rw[ei];omega
theorem zl5{o:Nat}(h:o<=8):IntKind.u64.wrap ((4096:Int)*2 ^ o)=((4096*2 ^ o:Nat):Int):=by
 have a:=M.pow8 o h;have e:((2:Int) ^ o)=((2 ^ o:Nat):Int):=by simp
 rw[wrap_u64,e];generalize 2 ^ o=P at *;omega
theorem OJ{w W:Wd}{v:Vl}{l:List (Nat×Nat)}{x:Nat}(h:GB w W v l)(hx:v.ownBlock=some x):∃ cs,W.heap[x]?=some (.cells cs 73 (0,0)):=by
 rcases h.own.2 with ⟨rfl,_⟩|⟨g,cap,a,rfl,hb,hg,b⟩
 ·simp[Value.ownBlock] at hx
 ·simp[Value.ownBlock] at hx;rw[<-hx];exact⟨a,hg⟩
theorem Blocks_any(I:Img)(V:ImV)(w:Wd)(hI:ImD w I V):Calls prog 13 #[.agg #[.int .u64 I.bS,.int .i64 I.dl,.int .i64 I.ord,.int .i64 I.ep,V.m,V.p,V.r,V.h,V.t]] w fun e w'=>∃ v,e=.returned v/\GB w w' v (ey I):=by
 obtain⟨⟨ma,mc,J⟩,⟨pa,pc,hp⟩,⟨ra,rc,hr⟩,⟨ha,hc,hh⟩,⟨ta,tc,ht⟩,-⟩:=hI.sl;have U:=aA (show ImAt (w.alloc (imO I V)) w.heap.size I V from⟨nH _ _,hI.dk ((Kt.refl _ w).alloc _)⟩);have K0:=aA (show Kt nO w (w.alloc (imO I V))from(Kt.refl _ w).alloc _);have K:=aA (JO I V (w.alloc (imO I V)) U.o.d);have SP:=aA hp;obtain⟨bL,B⟩:=xe (ey I);rw[<-B];have e6:=aA (show(chk I).1≠0->bL=[] from fun h=>by rw[B,ey,ac h]);have a8:=aA (show(chk I).1=0->bL=gy I I.np from fun h=>by rw[B,ey,ae h]);obtain⟨ru,L⟩:=xe ((chk I).1);obtain⟨pl,a0⟩:=xe ((chk I).2);rw[<-L,<-a0] at K;rw[J,hp,hr,hh,ht] at K;rw[J,hp,hr,hh,ht];have a2:=aA L;clear B L a0;have EW:=aA (show(w.alloc (.cells #[.int .u64 I.bS,.int .i64 I.dl,.int .i64 I.ord,.int .i64 I.ep,.slice ma I.nm mc,.slice pa I.np pc,.slice ra I.no rc,.slice ha I.hd.length hc,.slice ta I.pt.length tc] 42 (0,0)))=w.alloc (imO I V)by rw[<-J,<-hp,<-hr,<-hh,<-ht]);clear J hp hr hh ht hI;go_enter func13,ntmps13;go_wp2_with fail;rw[EW.o];refine K.o.mono ?_;rintro e Y ⟨rfl,F⟩;have a6:=aA (U.o.dk F);have K1:=aA (nT K0.o F);clear F EW;generalize w.alloc (imO I V)=W0 at *;generalize w.heap.size=ib at *;by_cases h0:ru=0
 case neg=>
  have f0:((ru:Int) != 0)=true:=by rw[cx];omega
  have E:=aA (e6.o (by rw[<-a2.o];exact h0));clear h0;go_wp2_with fail;go_ret;exact⟨_,rfl,by rw[E.o];exact GS.nil _ _ _ _ K1.o⟩
 have f0:((ru:Int) != 0)=false:=by rw[ay];omega
 have hz:(chk I).1=0:=by rw[<-a2.o];exact h0
 have E:=aA (a8.o hz);obtain⟨r,hS⟩:=sn9_chk hz;have R:=aA hS;have f4:=hS.gj;obtain⟨n,hn⟩:=xe (I.np);rw[<-hn] at f4;have HN:=aA hn;obtain⟨c0,c1,c2,c3,c4,c5,c6,c7,c8⟩:=a6.o.cells;rw[SP.o,<-hn] at c5;have F0:gy I 0=[]:=rfl;have FS:=aA (show ∀ j,gy I (j + 1)=gy I j ++ ig I j from fun j=>rfl);have FL:=aA (show ∀ j,j<=n->(gy I j).length<=300000 from fun j hj=>by have:=DO hS j (by omega);omega)
 generalize gy I=f at *;clear h0 hz hS hn;go_wp2_with fail;clear c0 c1 c2 c3 c4 c5 c6 c7 c8;go_loopw [5,18] (fun lv iv W=>∃ a:Nat,a<=n/\iv=.int .i64 a/\Hd (GB Y W lv (f a))) (fun _ iv _=>n-(intOf iv).toNat)
 case atStart=>exact⟨0,az _,rfl,aA (by rw[F0];exact GS.nil _ _ _ _ (Kt.refl _ _))⟩
 case round=>
  obtain⟨a,e4,rfl,G⟩:=hrel;have b0:=aA (a6.o.dk G.o.kp);obtain⟨va,vc,a4⟩:=mQ G.o.own;by_cases f1:a<n
  ·have f8:(a:Int)<n:=(by omega);have k:a<I.np:=(by rw[<-HN.o];exact f1);obtain⟨bl,o,g1,a7,f7,a3⟩:=b0.o.ew a k;rw[SP.o] at a7;injection a7 with e1 e2 e3
   subst e1;obtain⟨kd,od,S,ll,y1,y2,y3,y4,y5,y6,-⟩:=R.o.pg a k;have g4:=R.o.k8;have b4:od<=8:=(by omega);have PB:=aA (PbI.mk' (w:=Y) b0.o G.o.kp (I.pg a));have GA:=aA (GS.dk G.o (show Kt nO wr (wr.alloc (aV (I.pg a)))from(Kt.refl _ _).alloc _));have C:f (a + 1)=f a ++ ig I a:=FS.o a;have b6:I.bS+a*4096<18446744073709551616:=(by have:=R.o.be;have:=R.o.nm;omega);have a9:=aA (fun W (T:Kt nO (wr.alloc (aV (I.pg a))) W)=>lX ib I V a W (PB.o.im.dk T) b6);have f3:=aA (fun W (T:Kt nO (wr.alloc (aV (I.pg a))) W)=>zeI ib I V I.ord.toNat r R.o a S k y5 y6 W (PB.o.im.dk T));have A:=aA (show ig I a=if (I.pg a).kd=2 then [(I.bS+a*4096,4096*2 ^ od)] else if (I.pg a).kd=4 then gl I.bS a (16*2 ^ S) (wsP (I.pg a)) (celN9 S) else [] by unfold ig;rw[y3,y5,aa,aa]);have b3:=aA (DP R.o a k);have a1:=aA (FL.o a e4);have SH:=aA (zl5 (o:=od) (by omega));obtain⟨m,J⟩:=xe (I.bS+a*4096);rw[<-J] at a9 A;obtain⟨z,hz⟩:=xe (4096*2 ^ od);rw[<-hz] at SH A;generalize ig I a=pB at *;obtain⟨d0,d1,d2,d3,d4,d5,d6,d7,d8,d9,N⟩:=a3.c;generalize gl I.bS a (16*2 ^ S) (wsP (I.pg a)) (celN9 S)=cB at *;generalize I.pg a=p at *;clear f7 a3 e2 e3 y1 y2 y4 y5 y6 J hz;subst a4;by_cases l:p.kd=2
   ·have q2:(p.kd == 2)=true:=(by rw[cu];exact l);have g:pB=[(m,z)]:=(by rw[A.o,ae l]);rw[g] at C;have FA:=aA C;clear l g C;obtain⟨b7,g2,b8,c9,e5,e0,e7,b5,e8,f2,f5⟩:=p;dsimp only at y3 q2 d0 d1 d2 d3 d4 d5 d6 d7 d8 d9 N;subst y3;go_wp2_with fail;generalize wr.alloc (aV ⟨b7,(od:Int),b8,c9,e5,e0,e7,b5,e8,f2,f5⟩)=s at *;generalize wr.heap.size=y at *;have KD:=aA (show Kt nO s s.drew from(kz s).drew);have XC:=aA (show ∀ W,Kt nO s W->W.cell? ⟨y,1,none⟩=some (.int .i64 od)from fun W T=>(dG (PB.o.dk T).pb).2.1);have XE:=aA (show ∀ W7 W8 vv ll,Kt nO s W7->GB Y W7 vv ll->Kt (fun b=>vv.ownBlock=some b) W7 W8->W8.cell? ⟨y,1,none⟩=some (.int .i64 od)from fun W7 W8 vv ll k7 h7 k8=>k8.cell (fun e=>by
     obtain⟨cs,b2⟩:=OJ h7 e;rw[(PB.o.dk k7).pb] at b2;simp at b2) (XC.o W7 k7))
    have A6:=aA (show Calls prog 42 #[.pointer (some ⟨ib,0,none⟩),.int .i64 a] s.drew fun e w'=>e=.returned (.int .u64 m)/\Kt nO s w' from(a9.o s.drew KD.o).mono fun _ _ ⟨h1,h2⟩=>⟨h1,by rw[h2];exact KD.o⟩);have x1:=XC.o _ KD.o;have sh:=SH.o;have g0:IntKind.u64.wrap ((4096:Int)*2 ^ (min od 64))=(z:Int):=(by rw[Nat.min_eq_left (an b4 (by decide))];exact SH.o);have f6:=aA (show(f a).length<=4000000 by have:=a1.o;omega);clear d0 d1 d2 d3 d4 d5 d6 d7 d8 d9 N;go_region_held3 (fun w'=>w'.cell? ⟨y,1,none⟩=some (.int .i64 od)) (with_reducible assumption) (first
     | (go_at_call 42;(with_reducible refine A6.o.mono ?_);rintro e w7 ⟨rfl,a5⟩;have X:=aA a5;have v1:=XC.o _ X.o;have b1:=XC.o _ (X.o.alloc (bY m z));obtain⟨gg,cap,w8,i,x,K8⟩:=GB.push (GS.dk GA.o X.o) m z (f6.o);have e1:=XE.o _ _ _ _ X.o (GS.dk GA.o X.o) K8;clear a5 K8;have x:=aA x;replace i:=aA i)
     | (refine xY rfl (.tmp 27) (.tmp 34) rfl rfl rfl i.o ?_)
     | fail)
    all_goals
     have R3:=aA (show GB Y w8 (.slice (some ⟨gg,0,none⟩) ((f a).length+1) cap) (f (a+1))by rw[FA.o];exact x.o);go_wp2_with fail;go_round
     case rel=>exact⟨a+1,by omega,by go_num,R3⟩
     case measure=>simp[intOf];omega
   ·have q2:(p.kd == 2)=false:=(by rw[ag];exact l);have D:=aA (show pB=if p.kd=4 then cB else [] by rw[A.o,ac l]);clear l y3;by_cases q:p.kd=4
    ·have q4:(p.kd == 4)=true:=(by rw[cu];exact q);have g:pB=cB:=(by rw[D.o,ae q]);rw[g] at C b3;have FA:=aA C;clear q g C;go_wp2_with fail;generalize wr.alloc (aV p)=s at *;generalize wr.heap.size=y at *;refine(f3.o s (Kt.refl _ _)).mono ?_;rintro e w7 ⟨u,rfl,hu⟩;have G7:=aA (GS.dk GA.o hu.kp);obtain⟨v8,w8,i,x,-⟩:=GB.jn G7.o hu.own (by have:=a1.o;omega) (by have:=b3.o;omega);rw[<-FA.o] at x;have i:=aA i;have x:=aA x;obtain⟨ua,uc,e9⟩:=mQ hu.own;subst e9;obtain⟨f9,g3,b9⟩:=mQ x.o.own;subst b9;clear hu d0 d1 d2 d3 d4 d5 d6 d7 d8 d9 N;go_wp2_with (at_builtin;refine Lib.wpList_append_run _ rfl _ _ _ _ rfl _ _ rfl rfl _ _ (i.o _) ?_)
     go_round
     case rel=>exact⟨a+1,by omega,by go_num,x⟩
     case measure=>simp[intOf];omega
    ·have q4:(p.kd == 4)=false:=(by rw[ag];exact q);have g:pB=[]:=(by rw[D.o,ac q]);rw[g,List.append_nil] at C;have FA:=aA C;have R3:=aA (show GB Y (wr.alloc (aV p)) (.slice va (f a).length vc) (f (a+1))by rw[FA.o];exact GA.o);clear q g C;go_wp2_with fail;go_round
     case rel=>exact⟨a+1,by omega,by go_num,R3⟩
     case measure=>simp[intOf];omega
  ·obtain rfl:a=n:=(by omega);have f8:¬(a:Int)<a:=(by omega);subst a4;go_wp2_with fail;go_ret;refine⟨_,rfl,?_⟩;rw[E.o,<-HN.o];refine⟨G.o.own,fun g' Z e=>?_,nT K1.o G.o.kp⟩;exact an K1.o.size (G.o.new g' Z e)
theorem nM:(prog.info? 5).map (fun i=>(i.zero,i.size,i.bytes))=some (some (.int .u8 0),1,1):=by kernel_rfl
def zb(n:Nat):Array Vl:=madeCells (Value.int .u8 0).cells (n*1)
theorem tZ(w:Wd):(Instr.makeSlice 34 (.int .i64 8192) (.int .i64 8192)).run prog w=.ok (.slice (some ⟨w.heap.size,0,none⟩) 8192 8192) (w.alloc (.cells (zb 8192) 5)):=by obtain⟨i,hi,a,b,c⟩:=info_parts nM;have:=run_make (P:=prog) w 34 5 i (.int .u8 0) Tryz.underlying34 hi a .i64 .i64 8192 8192 (by omega) (by omega) (by rw[c];omega) (by omega);rw[b] at this;exact this
theorem CD(n i:Nat)(h:i<n):(zb n)[i]?=some (.int .u8 0):=by unfold zb madeCells;simp[Value.cells,h,Nat.mod_one]
section
variable {P:Program} {ops:Array Oper} {md:Region.Mode} {Q:Exit->Act->Wd->Prop}
theorem wpOp_of_list{i:Nat}{o:Oper}{K:Act->Wd->Prop}{a:Act}{w:Wd}(f:ops[i]?=some o)(h:wpList P ops (Exit.then K Q) [o] a w):wpOp P ops Q i K a w:=by
 unfold wpOp;simp only[f];unfold wpList at h;split
 ·rename_i hw;simp only[hw,if_true] at h;rcases h with h|⟨e,b,c,g⟩
  ·refine .inl ?_;unfold Oper.wp at *;generalize (execOp a.eval o).run P w=r at *
   cases r with
   | ok n d=>cases n <;> simp only[Oper.upon] at h ⊢ <;> exact h
   | halt x d=>cases x <;> simp only[Oper.upon] at h ⊢ <;> exact h
  ·exact .inr ⟨e,b,c,g⟩
 ·rename_i hw;simp only[hw] at h;exact h
def oJ(ls:Array Bool):Nat:=ls.toList.countP (fun b=>!b)
theorem KO{ls:Array Bool}{i:Nat}(h:ls.getD i true=false):oJ (ls.setIfInBounds i true)+1=oJ ls:=by
 unfold oJ;rcases du i ls.size with hl|hl
 ·have a:ls[i]=false:=by simpa [hl] using h
  obtain⟨l⟩:=ls;simp only[List.setIfInBounds_toArray,List.getElem_toArray] at *;clear h;induction l generalizing i with
  | nil=>simp at hl
  | cons x l b=>
   cases i with
   | zero=>simp only[List.getElem_cons_zero] at a;subst a;simp
   | succ i=>simp only[List.set_cons_succ,List.countP_cons];have:=b (i:=i) (by simpa using hl) (by simpa using a);omega
 ·simp[Array.getElem?_eq_none hl] at h
theorem LI{ls:Array Bool}(h:oJ ls=0):Region.ready md ops ls=[]:=by rw[List.eq_nil_iff_forall_not_mem];intro i hi;have a:=KO (mem_ready.1 hi).1;omega
theorem KN{I:Array Bool->Act->Wd->Prop}(hs:∀ ls a w i,I ls a w->i∈Region.ready md ops ls->wpOp P ops Q i (I (ls.setIfInBounds i true)) a w)(he:∀ ls a w,I ls a w->Region.ready md ops ls=[]->Q .normal a w):∀ (n:Nat) (ls:Array Bool) (a:Act) (w:Wd),oJ ls<=n->I ls a w->wpAny P md ops Q n ls a w
 | 0,ls,a,w,d,h=>⟨LI (by omega),he _ _ _ h (LI (by omega))⟩
 | n+1,ls,a,w,d,h=>⟨he _ _ _ h,fun i hi=>wpOp_mono (fun a' b c=>KN hs he n _ a' b (by have:=KO (mem_ready.1 hi).1;omega) c) (hs _ _ _ _ h hi)⟩
end
theorem wp_region_inv{P:Program}{id:Nat}{Q:Exit->Act->Wd->Prop}{a:Act}{w:Wd}{ops:Array Oper}(b:P.follows .mixedOrders=true)(I:Array Bool->Act->Wd->Prop)(h0:I (Array.replicate ops.size false) a w.drew)(hs:∀ ls a w i,I ls a w->i∈Region.ready .any ops ls->wpOp P ops Q i (I (ls.setIfInBounds i true)) a w)(he:∀ ls a w,I ls a w->Region.ready .any ops ls=[]->Q .normal a w):(Code.region id ops true).wp P Q a w:=
 wp_region_any b (KN hs he _ _ _ _ (by unfold oJ;refine an List.countP_le_length ?_;simp) h0)
end W
open Tryz RowKit
set_option linter.unusedVariables false
theorem mQ{W:Wd}{b:Nat}{e:TypeId}{size:Nat}{v:Vl}{n:Nat}{c:List Vl}(h:W.ownsRow b e size v n c):∃ d i,v=.slice d n i:=by
 rcases h.2 with ⟨h0,f⟩|⟨g,cap,a,h0,_⟩
 ·exact⟨none,0,by rw[h0,f]⟩
 ·exact⟨_,_,h0⟩
theorem vB{W:Wd}{b:Nat}{e:TypeId}{size:Nat}{v:Vl}{n:Nat}{c:List Vl}(h:W.ownsRow b e size v n c){y:Nat}(hy:v.ownBlock=some y):∃ cs,W.heap[y]?=some (.cells cs e (0,0)):=by
 rcases h.2 with ⟨h0,_⟩|⟨g,cap,a,h0,hb,hg,d⟩
 ·rw[h0] at hy;simp[Value.ownBlock] at hy
 ·rw[h0] at hy;simp[Value.ownBlock] at hy;subst hy;exact⟨_,hg⟩
theorem zgn{w s a bS R dl n f}(h:M.SpA w s a bS R dl n f)(c : 0<n):∃ g,a=some g:=by
 obtain⟨cap,hb,b⟩:=h.ex
 cases a with
 | none=>exact absurd b.1 (by omega)
 | some g=>exact⟨g,rfl⟩
theorem BdAt.mh{W:Wd}{b s:Nat}{a:Option Nat}{m:Nat}{B:Bs}{l c:Nat}{L:Nat->Nat}{bS R dl n o:Nat}{P d:Nat->Option Pg}{t:Bt}(h:BdAt W ⟨b,s,a,m,B,l,c,L,bS,R,dl,n,o,P⟩ t):BdAt W ⟨b,s,a,m,B,l,c,L,bS,R,dl,n,o,d⟩ t:=
 ⟨h.sp,h.mp,h.ls,h.bs,h.lr,h.mo,h.iL,h.hR⟩
def OC(w:Wd)(b s m:Nat)(B:Bs)(l c:Nat)(L:Nat->Nat)(bS R dl o:Nat)(mp:Mp)(hd:Nat->Nat)(PP:Nat->Option Pg)(j:Nat)(W:Wd):Prop:=∃ a f,BdAt W ⟨b,s,a,m,B,l,c,L,bS,R,dl,j*R,o,PP⟩ ⟨f,mp,hd⟩/\Kt nO w W/\w.heap.size<=s/\(∀ g,a=some g->w.heap.size<=g)/\W.heap[w.heap.size]?=some (cK bS (dl:Int) (o:Int))
theorem rK{w W W':Wd}{s:Nat}{a:Option Nat}(b:Kt nO w W)(hs:w.heap.size<=s)(ha:∀ g,a=some g->w.heap.size<=g)(k:Kt (M.own s a) W W'):Kt nO w W':=
 b.trans k (fun _ _ e=>e) (fun y hy e=>by
  rcases e with rfl|e
  ·omega
  ·have:=ha y e;omega)
def OpY(w:Wd)(bS dl o r:Nat)(mp:Mp)(gg hd:Nat->Nat)(PP:Nat->Option Pg)(e:Ending)(w':Wd):Prop:=∃ lw x f,e=.returned (.tuple #[.pointer (some ⟨lw,0,none⟩),.int .i64 0])/\Pol w w' lw x ⟨f,mp,hd⟩/\x.bS=bS/\x.R=4096*2 ^ o/\x.dl=dl/\x.n=r*(4096*2 ^ o)/\x.o=o/\x.P=PP/\∀ i,i<x.n->f i=gg i
theorem YX(bS:Nat)(a7:bS<18446744073709551616)(dl o:Nat)(hl:dl<=64)(ho:o<=8)(hm:M.mayB bS (dl:Int) (o:Int)=true)(r nb np:Nat)(hr:r<=dl)(t:np=r*2 ^ o)(Y:nb=np*4096)(ba pa qa:Option Addr)(bc pc qc nq:Nat)(gg:Nat->Nat)(J:Nat->Option Pg)(g0 q0 a3:Nat)(hd:List Nat)(u:∀ i,hd.getD i 0<18446744073709551616)(hN:hd.length=o+1)(mp:Mp)(V:mp.o=o)(w:Wd)(K:M.Bytes w (.slice ba nb bc) nb gg)(hh:nB w g0 q0 hd)(a1:∀ W,Kt nO w W->Calls prog 97 #[.int .i64 o,.slice pa np pc,.slice qa nq qc] W fun e q=>∃ b,e=.returned (.tuple #[.pointer (some ⟨b,0,none⟩),.int .i64 0])/\Hd (∃ B',MpA q b B' mp/\(∀ x,aP b B' o x->W.heap.size<=x)/\Kt nO W q)):Calls prog 49 #[fF bS (dl:Int) (o:Int),.int .i64 r,.slice ba nb bc,.slice pa np pc,.slice qa nq qc,.slice (some ⟨g0,q0,none⟩) (o+1) a3] w fun e q=>OpY w bS dl o r mp gg (fun i=>hd.getD i 0) J e q:=by
 have K3:=aA ((kz w).alloc (cK bS (dl:Int) (o:Int)));have X3:=aA (nH w (cK bS (dl:Int) (o:Int)));have NW:=aA (fun W=>M.New_ok bS a7 (dl:Int) (o:Int) (by omega) (by omega) (by omega) (by omega) hm (fun _=>0) W);have T:=aA a1;have b1:=aA K;have HH:=aA hh;have HN:=aA hN;have b6:=aA u;have a9:=aA V;have Z : 2 ^ o<=2 ^ 8:=bj (by decide) ho;have b0:np<=16384:=by rw[t];exact an (Nat.mul_le_mul (show r<=64 by omega) Z) (by decide)
 have a4:(r:Int)*2 ^ o=(np:Int):=by rw[t];simp
 have a8:IntKind.i64.wrap ((r:Int)*2 ^ o)=(np:Int):=by rw[a4,cz];omega
 have c2:(0:Int)<=(o:Int):=by omega
 have c0:¬(o:Int)<0:=by omega
 have b2:¬(dl:Int)<r:=by omega
 have a2:(np:Int)*4096=(nb:Int):=by omega
 have b8:(np:Int)<=16384:=by omega
 have X:=aA (show nb=r*(4096*2 ^ o)by rw[Y,t,cy,aq (2 ^ o) 4096]);clear hm a1 K hh hN u a4 Z b0 t Y V;go_enter func49,ntmps49;obtain⟨G,E,C⟩:=fG X3.o;go_wp2_with fail;generalize w.alloc (cK bS (dl:Int) (o:Int))=W3 at *;refine(NW.o _).mono ?_;rintro e w4 ⟨s,rfl,hS,N,hs⟩;have d:Kt nO W3 w4:=dI N;have S4:=aA (show M.SpA w4 s none bS (M.RS o) dl 0 (fun _=>0)from by simpa using hS);have b3:=aA (show w.heap.size<=s from an K3.o.size hs);have X4:=aA ((d.block _ (lH X3.o) (fun x=>x)).trans X3.o);have K4:=aA (nT K3.o d);clear G E C d N hS hs X3 K3 NW;obtain⟨G,E,C⟩:=fG X4.o;go_wp2_with fail;clear a8 b2 a2;refine(T.o _ K4.o).mono ?_;rintro e w5 ⟨m,rfl,hM⟩;obtain⟨B,a5,a0,d⟩:=hM.o;have M5:=aA a5;have b7:=aA (show ∀ y,aP m B o y->w.heap.size<=y from fun y hy=>an K4.o.size (a0 y hy));have K5:=aA (nT K4.o d);have X5:=aA ((d.block _ (lH X4.o) (fun x=>x)).trans X4.o);have S5:=aA (S4.o.dk (fJ d));clear d G E C T S4 X4 hM a5 a0;obtain⟨G,E,C⟩:=fG X5.o;have OB:=aA (XK bS s m o (dl:Int) ho hd HN.o b6.o g0 q0 a3 w5 (HH.o.dk K5.o));go_wp2_with fail;refine OB.o.mono ?_;rintro e w6 ⟨b,rfl,hO⟩;have k6:Kt nO w5 w6:=by obtain⟨_,_,_,h,_⟩:=hO;exact h.kp
 obtain⟨l,c,L,A,p,v,U,h4⟩:=hO.bd rfl (S5.o.dk (fJ k6)) (M5.o.dk k6) a9.o rfl;have hz:=K5.o.size;have S6:=aA (show OC w b s m B l c L bS (4096*2 ^ o) dl o mp (fun i=>hd.getD i 0) J 0 w6 from⟨none,_,by rw[Nat.zero_mul];exact A.mh,nT K5.o k6,b3.o,(fun g e=>by cases e),(k6.block _ (lH X5.o) (fun x=>x)).trans X5.o⟩);have I:=aA (show w.heap.size<=b/\w.heap.size<=l/\∀ k,k<=o->w.heap.size<=L k from⟨an hz p,an hz v,fun k d=>an hz (U k d)⟩);clear G E C OB S5 hO k6 A p v U h4 hz X5 M5 K5;go_wp2_with fail;go_loopw [74] (fun i W'=>∃ j:Nat,j<=r/\i=.int .i64 j/\Hd (OC w b s m B l c L bS (4096*2 ^ o) dl o mp (fun i=>hd.getD i 0) J j W')) (fun i _=>r-(intOf i).toNat)
 case atStart=>exact⟨0,az _,rfl,S6⟩
 case round=>
  clear S6;obtain⟨j,hj,rfl,hI⟩:=hrel;obtain⟨a,f,p,v,U,h4,h5⟩:=hI.o;have F:=aA p;have A2:=aA v;have A3:=aA U;have A4:=aA h4;have A5:=aA h5;clear hI p v U h4 h5;by_cases c1:j<r
  ·have b4:(j:Int)<r:=(by omega);have CM:=aA (M.Commit_ok s a bS (4096*2 ^ o) dl (j*(4096*2 ^ o)) f wr F.o.sp ⟨j,rfl,by omega⟩);go_wp2_with fail;refine CM.o.mono ?_;rintro e w7 ⟨rfl,g',hS,d,hg⟩;have D:=aA (show OC w b s m B l c L bS (4096*2 ^ o) dl o mp (fun i=>hd.getD i 0) J (j+1) w7 from by
    have hz:=A2.o.size;have A:=F.o.space (dI d) (a':=some g') (n':=j*(4096*2 ^ o)+4096*2 ^ o) hS;refine⟨some g',_,by rw[av,aL];exact A,rK A2.o A3.o A4.o (dI d),A3.o,fun g e=>?_,?_⟩
    ·cases e
     rcases hg with e|e
     ·exact A4.o g' e
     ·omega
    ·refine((dI d).block _ (lH A5.o) (fun e=>?_)).trans A5.o;obtain⟨cs,t',z,p,v⟩:=mO F.o.sp e;rw[A5.o] at p
     cases p
     rcases v with e2|e2 <;> exact absurd e2 (by decide))
   clear hS d hg CM;go_wp2_with fail;exact⟨⟨j+1,by omega,by simp,D⟩,by simp[intOf];omega⟩
  ·obtain rfl:j=r:=(by omega);have b4:¬(j:Int)<j:=(by omega);obtain⟨G,E,C⟩:=fG A5.o;have WR:=aA (show Calls prog 69 #[.pointer (some ⟨s,0,none⟩),.int .u64 bS,.slice ba nb bc] wr fun e q=>e=.returned (.int .i64 0)/\Kt nO w q/\∃ f',BdAt q ⟨b,s,a,m,B,l,c,L,bS,4096*2 ^ o,dl,j*(4096*2 ^ o),o,J⟩ ⟨f',mp,fun i=>hd.getD i 0⟩/\∀ i,i<nb->f' i=gg i from by
    rcases dx nb with h0|h0
    ·rw[h0];refine(M.Write_zero s (bS:Int) ba bc wr).mono ?_;rintro e q ⟨rfl,d⟩;exact⟨rfl,nT A2.o (dI d),f,F.o.dk (dI d),fun i hi=>by omega⟩
    ·have b9:=X.o;obtain⟨g,hg⟩:=zgn F.o.sp (show 0<j*(4096*2 ^ o)by omega);have p:M.SpA wr s a bS (4096*2 ^ o) dl (j*(4096*2 ^ o)) f:=F.o.sp;have hg:a=some g:=hg;rw[hg] at p;refine(M.Write_in s g bS (4096*2 ^ o) dl (j*(4096*2 ^ o)) f bS nb _ gg wr p h0 ⟨aj _,by omega⟩ (b1.o.kept (fJ A2.o) (fun _ _ e=>e))).mono ?_;rintro e q ⟨rfl,S,d⟩;rw[<-hg] at S d;refine⟨rfl,rK A2.o A3.o A4.o (dI d),_,F.o.space (dI d) S,fun i hi=>?_⟩;unfold M.upd;rw[ae (by omega)];congr 1
     omega)
   go_wp2_with fail;refine WR.o.mono ?_;rintro e w8 ⟨rfl,d,f',A,a6⟩;have D:=aA (show ∃ x:Bx,Pol w (w8.alloc (rJ x)) w8.heap.size x ⟨f',mp,fun i=>hd.getD i 0⟩/\x.bS=bS/\x.R=4096*2 ^ o/\x.dl=dl/\x.n=j*(4096*2 ^ o)/\x.o=o/\x.P=J/\x.s=s/\x.m=m/\x.b=b from by
    refine⟨_,⟨nH _ _,A.dk ((kz w8).alloc _),?_,d.alloc _⟩,rfl,rfl,rfl,rfl,rfl,rfl,rfl,rfl,rfl⟩;rintro y (hy|rfl|rfl|rfl)
    ·rcases hy with hy|hy|⟨k,d,rfl⟩
     ·rcases hy with rfl|hy
      ·exact A3.o
      ·exact A4.o y hy
     ·exact b7.o y hy
     ·exact I.o.2.2 k d
    ·exact I.o.1
    ·exact I.o.2.1
    ·exact d.size)
   have b5:=aA a6;clear d WR G E C A a6;go_wp2_with fail;obtain⟨x,hL,e1,e2,e3,e4,e5,eP,e6,e7,e8⟩:=D.o;refine⟨rfl,.tuple #[.pointer (some ⟨w8.heap.size,0,none⟩),.int .i64 0],by simp[results,results49,go_sem],_,x,f',rfl,?_,e1,e2,e3,e4,e5,eP,fun i hi=>b5.o i (by rw[X.o,<-e4];exact hi)⟩;rw[rJ,e6,e7,e8] at hL;exact hL
namespace W
theorem WU(I:Img)(V:ImV)(k r:Nat)(hS:Sn9 I k r)(p:Nat)(w:Wd)(y:ImD w I V):Calls prog 134 #[imA I V,.int .u64 p] w fun e w'=>e=.returned (.int .i64 (gY (decP I p)))/\Kt nO w w':=by
 obtain⟨⟨T,U,J⟩,⟨L,N,hp⟩,⟨ra,rc,X⟩,⟨ha,hc,G⟩,⟨ta,E,F⟩,-⟩:=y.sl;obtain⟨vm,vp,vr,vh,vt⟩:=V;dsimp only at J hp X G F;subst J hp X G F;have n:=aA (show ImAt (w.alloc (imO I _)) w.heap.size I _ from⟨nH _ _,y.dk ((Kt.refl _ w).alloc _)⟩);have K:=aA (show Kt nO w (w.alloc (imO I _))from(Kt.refl _ w).alloc (imO I ⟨.slice T I.nm U,.slice L I.np N,.slice ra I.no rc,.slice ha I.hd.length hc,.slice ta I.pt.length E⟩));obtain⟨c0,c1,c2,c3,c4,c5,Z,c7,S⟩:=n.o.cells;have f:=aA hS.gj;have u:=aA hS.be;have s:=aA hS.nm;obtain⟨C,d⟩:=xe (gY (decP I p));rw[<-d];have v:=aA (show ∀ a,a<I.np->p=I.bS+4096*a->C=(a:Int)from fun a h1 h2=>by
  have:=hS.nm;rw[d];unfold decP;rw[ae ⟨by omega,by omega,by omega⟩];show(((p-I.bS)/4096:Nat):Int)=_
  omega)
 have t:=aA (show(∀ a,a<I.np->¬p=I.bS+4096*a)->C = -1 from fun h=>by have:=hS.nm;rw[d];unfold decP;rw[ac (fun hc=>h ((p-I.bS)/4096) (by omega) (by omega))];rfl)
 clear y d hS;go_enter func134,ntmps134;go_wp2_with fail;clear c0 c1 c2 c3 c4 c5 Z c7 S;generalize w.heap.size=ib at *;generalize w.alloc (imO I ⟨.slice T I.nm U,.slice L I.np N,.slice ra I.no rc,.slice ha I.hd.length hc,.slice ta I.pt.length E⟩)=W0 at *;go_loopw [5] (fun A W=>∃ a:Nat,a<=I.np/\A=.int .i64 a/\Hd (Kt nO W0 W/\∀ j,j<a->¬p=I.bS+4096*j)) (fun A _=>I.np-(intOf A).toNat)
 case atStart=>exact⟨0,az _,rfl,aA ⟨Kt.refl _ _,fun j Y=>by omega⟩⟩
 case round=>
  obtain⟨a,z,rfl,l⟩:=hrel;have B:=aA (n.o.dk l.o.1);obtain⟨c0,c1,c2,c3,c4,c5,Z,c7,S⟩:=B.o.cells;dsimp only at c5;by_cases g:a<I.np
  ·have D:(a:Int)<I.np:=(by omega);obtain⟨bS,c⟩:∃ b,b=I.bS:=⟨_,rfl⟩;rw[<-c] at c0;obtain⟨q,hq⟩:=xe (bS+4096*a);have g1:IntKind.u64.wrap (a:Int)=a:=(by have:=f.o;rw[wrap_u64];omega);have g2:IntKind.u64.wrap (4096*(a:Int))=4096*(a:Int):=(by have:=f.o;rw[wrap_u64];omega);have g3:IntKind.u64.wrap ((bS:Int)+4096*(a:Int))=(q:Int):=(by have:=u.o;have:=s.o;rw[wrap_u64];omega);have g4:(bS:Int)+4096*(a:Int)=q:=(by omega);have g5:IntKind.u64.wrap (q:Int)=q:=(by have:=u.o;have:=s.o;rw[wrap_u64];omega);have o:=aA (show p=q->C=(a:Int)from fun h=>v.o a g (by rw[h,hq,c]));have m:=aA (show ¬p=q->∀ j,j<a+1->¬p=I.bS+4096*j from fun h j Y=>by
    by_cases e:j=a;·rw[e,<-c,<-hq];exact h
    ·exact l.o.2 j (by omega))
   have R:=aA l.o.1;have i:=aA g;clear c hq g z l;by_cases h:p=q;·have x:=o.o h;subst x;have q1:((p:Int) == (q:Int))=true:=(by rw[cu];omega);have q2:(p == q)=true:=(by rw[cu];exact h);clear h;go_wp2_with fail;go_ret;exact⟨rfl,nT K.o (nT R.o (kz wr))⟩
   ·have q1:((p:Int) == (q:Int))=false:=(by rw[ag];omega);have q2:(p == q)=false:=(by rw[ag];exact h);have N1:=aA (m.o h);clear h;go_wp2_with fail;have hw:wrap64 ((a:Int)+1)=((a+1:Nat):Int):=(by have:=f.o;have:=i.o;rw[wrap64];omega);rw[hw];exact⟨⟨a+1,by have:=i.o;omega,rfl,aA ⟨nT R.o (kz wr),N1.o⟩⟩,by have:=i.o;simp only[intOf,aa];omega⟩
  ·have D:¬(a:Int)<I.np:=(by omega);have x:=t.o (fun j Y=>l.o.2 j (by omega));subst x;go_wp2_with fail;go_ret;exact⟨rfl,nT K.o l.o.1⟩
end W
end Go.Proofs.YtfmgnljlkdmndaaGreatDoor
