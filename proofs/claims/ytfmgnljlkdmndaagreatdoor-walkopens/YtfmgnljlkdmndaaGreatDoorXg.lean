import Derived.Test.YtfmgnljlkdmndaaGreatDoorXf
import Derived.Deep.Upon
import Derived.Test.YtfmgnljlkdmndaaGreatDoorXx
set_option maxRecDepth 1000000
set_option maxHeartbeats 0
namespace Go.Proofs.YtfmgnljlkdmndaaGreatDoor
namespace W
open Tryz RowKit
set_option linter.unusedVariables false
def mU:Obj:=.cells #[.int .i64 1,.func (.func 137) #[] #[],.int .i64 2,.func (.func 138) #[] #[],.int .i64 3,.func (.func 139) #[] #[],.int .i64 4,.func (.func 140) #[] #[],.int .i64 5,.func (.func 141) #[] #[],.int .i64 6,.func (.func 142) #[] #[],.int .i64 7,.func (.func 143) #[] #[],.int .i64 8,.func (.func 144) #[] #[],.int .i64 9,.func (.func 145) #[] #[],.int .i64 10,.func (.func 146) #[] #[],.int .i64 11,.func (.func 147) #[] #[]] 148 (0,0)
theorem zjK(w:Wd):Calls prog 90 #[] w fun e a=>e=.returned (.slice (some ⟨w.heap.size,0,none⟩) 11 11)/\a=w.alloc mU:=by
 go_enter func90,ntmps90;go_wp2
 go_ret;exact⟨rfl,rfl⟩
theorem zic{w:Wd}{g:Nat}(h:w.heap[g]?=some mU)(a:Nat)(ha:a<11):w.cell? ⟨g,a*2,none⟩=some (.int .i64 ((a+1:Nat):Int))/\w.cell? ⟨g,a*2+1,none⟩=some (.func (.func (gM a)) #[] #[]):=by
 unfold mU at h;match a,ha with
 | 0,_=>exact⟨by simp[World.cell?,h],by simp[World.cell?,h,gM]⟩
 | 1,_=>exact⟨by simp[World.cell?,h],by simp[World.cell?,h,gM]⟩
 | 2,_=>exact⟨by simp[World.cell?,h],by simp[World.cell?,h,gM]⟩
 | 3,_=>exact⟨by simp[World.cell?,h],by simp[World.cell?,h,gM]⟩
 | 4,_=>exact⟨by simp[World.cell?,h],by simp[World.cell?,h,gM]⟩
 | 5,_=>exact⟨by simp[World.cell?,h],by simp[World.cell?,h,gM]⟩
 | 6,_=>exact⟨by simp[World.cell?,h],by simp[World.cell?,h,gM]⟩
 | 7,_=>exact⟨by simp[World.cell?,h],by simp[World.cell?,h,gM]⟩
 | 8,_=>exact⟨by simp[World.cell?,h],by simp[World.cell?,h,gM]⟩
 | 9,_=>exact⟨by simp[World.cell?,h],by simp[World.cell?,h,gM]⟩
 | 10,_=>exact⟨by simp[World.cell?,h],by simp[World.cell?,h,gM]⟩
theorem QK(p:Addr)(x pl:Int)(a:List PanicEntry)(w:Wd)(hc:w.cell? p=some (.int .i64 x))(hz:w.frozen? p=false):CallsD prog 88 #[.pointer (some p)] (.panicking ({ v:=.iface 189 (.int .i64 pl),recovered:=false } :: a)) w fun e d b=>
   e=.returned (.tuple #[])/\d=.panicking ({ v:=.iface 189 (.int .i64 pl),recovered:=true } :: a)/\b=w.setCell p (.int .i64 pl):=by
 refine callsD_of_wpS func88 rfl fun c₀ cs f=>?_
 apply wpS_region
 simp[wpOpsS,go_sem,recoverD,f,ntmps88];refine(zfA _ _).mono ?_;rintro e b ⟨rfl,rfl⟩;simp[go_sem,hc,hz,bodyPostS,results,results88]
theorem QJ(p:Addr)(x:Int)(w:Wd)(hc:w.cell? p=some (.int .i64 x))(hz:w.frozen? p=false):CallsD prog 88 #[.pointer (some p)] .returning w fun e b a=>e=.returned (.tuple #[])/\b=.returning/\a=w.setCell p (.int .i64 0):=by
 refine callsD_of_wpS func88 rfl fun c₀ cs d=>?_
 apply wpS_region
 simp[wpOpsS,go_sem,recoverD,d,ntmps88];refine(zgr _).mono ?_;rintro e a ⟨rfl,rfl⟩
 cases c₀
 simp_all [go_sem,bodyPostS,results,results88]
structure CkI(w W:Wd)(I:Img)(V:ImV)(g:Nat):Prop where
 im:ImAt W w.heap.size I V
 pl:W.heap[w.heap.size+1]?=some (.cells #[.int .i64 0] 3 (0,0))
 tb:W.heap[g]?=some mU
 k:Kt nO w W
theorem CkI.dk{w W W':Wd}{I:Img}{V:ImV}{g:Nat}(h:CkI w W I V g)(a:Kt nO W W'):CkI w W' I V g:=
 ⟨h.im.dk a,(a.block _ (lH h.pl) (fun x=>x)).trans h.pl,(a.block _ (lH h.tb) (fun x=>x)).trans h.tb,nT h.k a⟩
theorem JO(I:Img)(V:ImV)(w:Wd)(hI:ImD w I V):Calls prog 41 #[.agg #[.int .u64 I.bS,.int .i64 I.dl,.int .i64 I.ord,.int .i64 I.ep,V.m,V.p,V.r,V.h,V.t]] w fun e w'=>e=.returned (.tuple #[.int .i64 ((chk I).1:Int),.int .i64 ((chk I).2:Int)])/\Kt nO w w':=by
 have a6:=M.mkf;obtain⟨EE,l⟩:=xe (Ending.returned (.tuple #[.int .i64 ((chk I).1:Int),.int .i64 ((chk I).2:Int)]));have FB:=aA (show ∀ j p,j<11->(∀ a,a<j->rl I a=none)->rl I j=some p->Ending.returned (.tuple #[.int .i64 ((j+1:Nat):Int),.int .i64 p])=EE from fun j p h1 h2 h3=>by rw[l,EL h1 h2 h3]);have FG:=aA (show(∀ a,a<11->rl I a=none)->Ending.returned (.tuple #[.int .i64 0,.int .i64 0])=EE from fun h=>by rw[l,chk_ok h];rfl);rw[<-l];have Z:=aA (show Kt nO w ((w.alloc (imO I V)).alloc (.cells #[.int .i64 0] 3 (0,0)))from((Kt.refl _ w).alloc _).alloc _);have B1:=aA (show((w.alloc (imO I V)).alloc (.cells #[.int .i64 0] 3 (0,0))).heap[w.heap.size]?=some (imO I V)by rw[Below.heap_alloc _ _ _ (by simp)];exact nH w _);have B2:=aA (show((w.alloc (imO I V)).alloc (.cells #[.int .i64 0] 3 (0,0))).heap[w.heap.size+1]?=some (.cells #[.int .i64 0] 3 (0,0))from mB w _ _);have SZ:=aA (show((w.alloc (imO I V)).alloc (.cells #[.int .i64 0] 3 (0,0))).heap.size=w.heap.size+2 by simp);have HI:=aA hI;obtain⟨⟨ma,mc,Y⟩,⟨pa,pc,hp⟩,⟨ra,rc,hr⟩,⟨ha,hc,X⟩,⟨ta,tc,T⟩,-⟩:=hI.sl;rw[Y,hp,hr,X,T];clear l hI;go_enter_defers func41,ntmps41;go_wp2_with fail;have EW:(w.alloc (.cells #[.int .u64 I.bS,.int .i64 I.dl,.int .i64 I.ord,.int .i64 I.ep,.slice ma I.nm mc,.slice pa I.np pc,.slice ra I.no rc,.slice ha I.hd.length hc,.slice ta I.pt.length tc] 42 (0,0)))=w.alloc (imO I V):=by rw[<-Y,<-hp,<-hr,<-X,<-T]
 rw[EW];clear EW Y hp hr X T;generalize (w.alloc (imO I V)).alloc (.cells #[.int .i64 0] 3 (0,0))=n at *;refine(zjK n).mono ?_;rintro e w1 ⟨rfl,rfl⟩;have C0:=aA (show CkI w (n.alloc mU) I V n.heap.size from⟨⟨(((kz n).alloc mU).block _ (lH B1.o) (fun x=>x)).trans B1.o,HI.o.dk (Z.o.alloc _)⟩,(((kz n).alloc mU).block _ (lH B2.o) (fun x=>x)).trans B2.o,nH _ _,Z.o.alloc _⟩);have a8:=aA (show w.heap.size+1<n.heap.size by have:=SZ.o;omega);generalize n.alloc mU=W1 at *;generalize n.heap.size=g at *;clear B1 B2 SZ Z;obtain⟨ib,u⟩:=xe (w.heap.size);obtain⟨pb,z⟩:=xe (w.heap.size+1);have a3:=aA u;have d:=aA z;simp only[<-z];simp only[<-u];clear u z;go_wp2_with fail;go_loopw [9] (fun i W=>∃ a:Nat,a<=11/\i=.int .i64 a/\Hd (CkI w W I V g/\∀ x,x<a->rl I x=none)) (fun i _=>11-(intOf i).toNat)
 case atStart=>exact⟨0,az _,rfl,aA ⟨C0.o,fun x hx=>by omega⟩⟩
 case round=>
  clear C0;obtain⟨a,a7,rfl,hR⟩:=hrel;by_cases y:a<11
  ·have a5:(a:Int)<11:=(by omega);obtain⟨Q,q1⟩:=zic hR.o.1.tb a y;obtain⟨U,A⟩:=xe (a+1);rw[<-A] at Q;have S:=aA A;obtain⟨a2,P⟩:∃ ob,ob=Obj.cells #[.int .i64 U,.func (.func (gM a)) #[] #[]] 148 (0,0):=⟨_,rfl⟩;have L:=aA (hR.o.1.dk ((kz wr).alloc a2));rw[P] at L;have B:=aA (ZF w.heap.size I V a y hR.o.2 _ L.o.im);rw[<-a3.o] at B;have q:=B.o.1;have R:=aA (show ∀ p,rl I a=some p->Ending.returned (.tuple #[.int .i64 U,.int .i64 p])=EE from fun p h=>by rw[S.o];exact FB.o a p y hR.o.2 h);have GA:=aA (show rl I a=none->∀ x,x<a+1->rl I x=none from fun h x hx=>by
    by_cases e:x=a;·rw[e];exact h
    ·exact hR.o.2 x (by omega))
   generalize gM a=C at *;have J:∀ (a:Addr) (w:Wd),(store a (.func (.func C) #[] #[])).run prog w=stored prog w a (.func (.func C) #[] #[]) .plain:=fun a w=>run_store prog w a _ .plain rfl
   clear A P;go_wp2_with fail;have s:=aA L.o.pl;rw[<-d.o] at s
   cases hrl:rl I a with
   | none=>
    rw[hrl] at B;have N:=aA (GA.o hrl);clear hrl;refine B.o.2.mono ?_;rintro e D ⟨rfl,c⟩;have R3:=aA (show CkI w D I V g/\_ from⟨L.o.dk c,N.o⟩);clear c Q q1 q J;dsimp only[bG];go_wp2_with fail;go_round
    case rel=>exact⟨a+1,by omega,by go_num,R3⟩
    case measure=>simp[intOf];omega
   | some p=>rw[hrl] at B;have N:=aA (R.o p hrl);clear hrl;refine B.o.2.mono ?_;rintro e D ⟨rfl,c⟩;have b:=aA ((c.block _ (lH s.o) (fun x=>x)).trans s.o);have v:D.cell? ⟨pb,0,none⟩=some (.int .i64 0):=(by simp[World.cell?,b.o]);have E:D.frozen? ⟨pb,0,none⟩=false:=(by simp[World.frozen?,b.o]);have K2:=aA (nT L.o.k c);clear c Q q1 q J;refine dm (f:=88) (args:=#[.pointer (some ⟨pb,0,none⟩)]) (by simp) (by simp[go_sem]) ?_;refine(QK ⟨pb,0,none⟩ 0 (p:Int) [] D v E).mono ?_;rintro e u' a4 ⟨rfl,rfl,rfl⟩;refine⟨.tuple #[.int .i64 U,.int .i64 p],?_,N.o,K2.o.em (fun h=>absurd h (by have:=d.o;show ¬pb<_;omega)) _⟩;simp[results,results41,go_sem,v]
  ·have a0:a=11:=(by omega);have a5:¬(a:Int)<11:=(by omega);have N:=aA (FG.o (fun x hx=>hR.o.2 x (by omega)));have b:=aA hR.o.1.pl;rw[<-d.o] at b;have v:wr.cell? ⟨pb,0,none⟩=some (.int .i64 0):=(by simp[World.cell?,b.o]);have E:wr.frozen? ⟨pb,0,none⟩=false:=(by simp[World.frozen?,b.o]);have K2:=aA hR.o.1.k;clear a0;go_wp2_with fail;refine dm (f:=88) (args:=#[.pointer (some ⟨pb,0,none⟩)]) (by simp) (by simp[go_sem]) ?_;have G:=aA (show(wr.setCell ⟨pb,0,none⟩ (.int .i64 0)).heap[pb]?=some (.cells #[.int .i64 0] 3 (0,0))from cD b.o 0 _);have o:(wr.setCell ⟨pb,0,none⟩ (.int .i64 0)).cell? ⟨pb,0,none⟩=some (.int .i64 0):=(by simp[World.cell?,G.o]);have F:(wr.setCell ⟨pb,0,none⟩ (.int .i64 0)).frozen? ⟨pb,0,none⟩=false:=(by simp[World.frozen?,G.o]);refine(QJ ⟨pb,0,none⟩ 0 _ o F).mono ?_;rintro e u' a4 ⟨rfl,rfl,rfl⟩;have K:∀ h:pb<w.heap.size,nO pb:=fun h=>absurd h (by have:=d.o;omega)
   refine⟨.tuple #[.int .i64 0,.int .i64 0],?_,N.o,(K2.o.em K _).em K _⟩;simp[results,results41,go_sem,o]
structure GS(w0 W:Wd)(e:TypeId)(size:Nat)(v:Vl)(n:Nat)(xs:List Vl):Prop where
 own:W.ownsRow 0 e size v n xs
 new:∀ g cap,v=.slice (some ⟨g,0,none⟩) n cap->w0.heap.size<=g
 kp:Kt nO w0 W
theorem nR{w a:Wd}{row:Option Nat}(h:w.grownBy a row):Kt (fun b=>row=some b) w a:=⟨h.os,h.tape,h.output,h.size,fun k c d=>h.block k c (fun e=>d e.symm)⟩
theorem GS.nil(a W:Wd)(e:TypeId)(size:Nat)(k:Kt nO a W):GS a W e size (.slice none 0 0) 0 []:=
 ⟨World.ownsRow_nil _ _ _ _,fun g cap h=>by simp at h,k⟩
theorem GS.dk{w0 W W' e size v n xs}(h:GS w0 W e size v n xs)(k:Kt nO W W'):GS w0 W' e size v n xs:=by
 refine⟨⟨h.own.1,?_⟩,h.new,nT h.kp k⟩;rcases h.own.2 with h0|⟨g,cap,a,rfl,hb,hg,b⟩
 ·exact .inl h0
 ·exact .inr ⟨g,cap,a,rfl,hb,(k.block g (lH hg) (fun x=>x)).trans hg,b⟩
theorem xI{w:Wd}{cs:Array Vl}{t:TypeId}(j:Nat)(u:Vl)(h:cs.toList[j]?=some u):(w.alloc (.cells cs t)).cell? (Addr.add ⟨w.heap.size,0,none⟩ j)=some u:=by rw[Addr.add_lit,dz];have:=nH w (.cells cs t);simp only[World.cell?,this];rw[<-ef,h];rfl
theorem mQ{W:Wd}{b:Nat}{e:TypeId}{size:Nat}{v:Vl}{n:Nat}{c:List Vl}(h:W.ownsRow b e size v n c):∃ d i,v=.slice d n i:=by
 rcases h.2 with ⟨h0,f⟩|⟨g,cap,a,h0,_⟩
 ·exact⟨none,0,by rw[h0,f]⟩
 ·exact⟨_,_,h0⟩
abbrev bY(a s:Nat):Obj:=.cells #[.int .u64 a,.int .u64 s] 73
theorem GS.il{L W:Wd}{e:TypeId}{size:Nat}{v:Vl}{n:Nat}{y:List Vl}(h:GS L W e size v n y)(t:TypeId)(i:TypeInfo)(z:Vl)(bytes:Nat)(R:prog.underlying t=some (.slice e)) (hi:prog.info? e=some i) (hz:i.zero=some z) (hs:i.size=size) (I:i.bytes=bytes) (A:z.cells.size=size) (C : 0<size)(a:Addr) (c m:Nat) (hm : 0<m) (f:List Vl) (s:f.length=m*size) (o:∀ j u,f[j]?=some u->W.cell? (a.add j)=some u) (T:∀ u∈f,u.oneCell'=true) (E:n+m<=maxLen) (F:(n+m)*bytes<=140737488355328):∃ g cap l,(∀ S,(Builtin.append_ #[t,t] S #[v,.slice (some a) m c]).run prog W=.ok (.slice (some ⟨g,0,none⟩) (n + m) cap) l)/\GS L l e size (.slice (some ⟨g,0,none⟩) (n + m) cap) (n + m) (y ++ f)/\L.heap.size<=g/\Kt (fun b=>v.ownBlock=some b) W l/\(v.ownBlock=some g\/W.heap.size<=g):=by
 have K:=h.own;by_cases U:∃ g cap,v=.slice (some ⟨g,0,none⟩) n cap/\n+m<=cap
 ·obtain⟨g,cap,rfl,q⟩:=U;obtain⟨l,k,d,p⟩:=run_append_fits (P:=prog) W 0 t 0 e i size R hi hs g n cap y K a m c f s o T q;have hg:=h.new g cap rfl;have G:=nR p;refine⟨g,cap,l,fun S=>?_,⟨d,fun g' D e=>?_,h.kp.trans G (fun _ _ x=>x) (fun x hx e=>?_)⟩,hg,G,.inl (by simp[Value.ownBlock])⟩
  ·rw[<-k];simp[Builtin.append_]
  ·simp at e;omega
  ·cases e;omega
 ·have N:∃ r l,(Builtin.append_ #[t,t] 0 #[v,.slice (some a) m c]).run prog W=.ok r l/\l.ownsRow W.heap.size e size r (n + m) (y ++ f)/\Kt nO W l:=by
   rcases K.2 with ⟨rfl,h0⟩|⟨g,cap,B,rfl,hb,hg,Y,Z,V,w⟩
   ·subst h0;have:y=[]:=bq (by rw[K.1,Nat.zero_mul]);subst this;obtain⟨r,l,k,d,p,_⟩:=run_append_own (P:=prog) W W.heap.size t 0 e i z size bytes R hi hz hs I A C (.slice none 0 0) 0 [] (World.ownsRow_nil _ _ _ _) a m c f s o T E F (aj _);exact⟨r,l,k,d,(nR p).mono (fun _ _ e=>by cases e)⟩
   ·obtain⟨r,l,k,d,p⟩:=run_append_arg_grows (P:=prog) W t 0 e i z size bytes R hi hz hs I A C ⟨g,0,none⟩ n cap y K.1 (fun j u J=>by
     rw[Addr.add_lit,dz];rw[<-w,dc] at J;split at J;·simp only[World.cell?,hg];rw[<-ef,J];rfl
     ·cases J) a m c f s o (Nat.lt_of_not_le fun Q=>U ⟨g,cap,rfl,Q⟩) E F
    exact⟨r,l,k,d,(nR p).mono (fun _ _ e=>by cases e)⟩
  obtain⟨r,l,k,d,G⟩:=N;rcases d.2 with ⟨_,h0⟩|⟨g,cap,B,rfl,hb,hg,X⟩
  ·omega
  ·refine⟨g,cap,l,fun S=>?_,⟨⟨d.1,.inr ⟨g,cap,B,rfl,az _,hg,X⟩⟩,fun g' D e=>?_,nT h.kp G⟩,an h.kp.size hb,G.mono (fun _ _ e=>e.elim),.inr hb⟩
   ·rw[<-k];simp[Builtin.append_]
   ·simp at e;have:=h.kp.size;omega
def blV:List (Nat×Nat)->List Vl
 | []=>[]
 | b :: l=>.int .u64 b.1 :: .int .u64 b.2 :: blV l
theorem nL:∀ l m:List (Nat×Nat),blV (l ++ m)=blV l ++ blV m
 | [],_=>rfl
 | b :: l,m=>by
  show _ :: _ :: blV (l ++ m)=_
  rw[nL l m];rfl
theorem qB:∀ l:List (Nat×Nat),(blV l).length=l.length*2
 | []=>rfl
 | b :: l=>by
  show(blV l).length+1+1=(l.length+1)*2
  rw[qB l];omega
theorem qA:∀ (l:List (Nat×Nat)) (u:Vl),u∈blV l->u.oneCell'=true
 | b :: l,u,h=>by
  rcases eg.1 h with rfl|h
  ·rfl
  ·rcases eg.1 h with rfl|h
   ·rfl
   ·exact qA l u h
theorem qE:(prog.info? 73).map (fun i=>(i.zero,i.size,i.bytes))=some (some (.agg #[.int .u64 0,.int .u64 0]),2,16):=by kernel_rfl
abbrev GB(w0 W:Wd)(v:Vl)(l:List (Nat×Nat)):Prop:=GS w0 W 73 2 v l.length (blV l)
theorem GB.push{f W:Wd}{v:Vl}{l:List (Nat×Nat)}(h:GB f W v l)(a s:Nat)(q:l.length<=4000000):∃ g cap d,(∀ t,(Builtin.append_ #[48,48] t #[v,.slice (some ⟨W.heap.size,0,none⟩) 1 1]).run prog (W.alloc (bY a s))=.ok (.slice (some ⟨g,0,none⟩) (l.length + 1) cap) d)/\GB f d (.slice (some ⟨g,0,none⟩) (l.length + 1) cap) (l ++ [(a,s)])/\Kt (fun b=>v.ownBlock=some b) W d:=by
 obtain⟨i,hi,c⟩:=Option.map_eq_some_iff.1 qE;simp only[Prod.mk.injEq] at c;have k:=(kz W).alloc (bY a s);obtain⟨g,cap,d,m,o,w,p,r⟩:=(GS.dk h k).il 48 i (.agg #[.int .u64 0,.int .u64 0]) 16 Tryz.underlying48 hi c.1 c.2.1 c.2.2 rfl (by decide) ⟨W.heap.size,0,none⟩ 1 1 (by decide) [.int .u64 a,.int .u64 s] rfl (fun j u n=>xI (cs:=#[.int .u64 a,.int .u64 s]) j u n) (by simp[Value.oneCell']) (by simp only[maxLen];omega) (by omega);refine⟨g,cap,d,m,?_,k.trans p (fun _ _ e=>e.elim) (fun _ _ e=>e)⟩;show GS _ _ _ _ _ (l ++ [(a,s)]).length (blV (l ++ [(a,s)]))
 rw[nL,ei];exact o
theorem GB.jn{q W:Wd}{v u:Vl}{l m:List (Nat×Nat)}(h:GB q W v l)(n:W.ownsRow 0 73 2 u m.length (blV m))(J:l.length<=4000000)(I:m.length<=4000000):∃ r f,(∀ t,(Builtin.append_ #[48,48] t #[v,u]).run prog W=.ok r f)/\GB q f r (l ++ m)/\Kt (fun b=>v.ownBlock=some b) W f:=by
 obtain⟨i,hi,a⟩:=Option.map_eq_some_iff.1 qE;simp only[Prod.mk.injEq] at a;rcases n.2 with ⟨rfl,h0⟩|⟨g,cap,B,rfl,hb,hg,E,F,z,c⟩
 ·obtain rfl:=bq h0;refine⟨v,W,fun t=>?_,by rw[List.append_nil];exact h,Kt.refl _ _⟩;exact run_append_owned_none W 0 48 t 73 i 2 Tryz.underlying48 hi v _ _ h.own
 ·rcases dx m.length with h0|h0
  ·obtain rfl:=bq h0;refine⟨v,W,fun t=>?_,by rw[List.append_nil];exact h,Kt.refl _ _⟩;obtain⟨C,x,rfl⟩:=mQ h.own;have k:l.length<=x:=by
    rcases h.own.2 with ⟨e,_⟩|⟨P,w,o,e,_,D,s,_⟩
    ·simp at e;omega
    ·simp at e;omega
   exact run_append_nothing W 48 48 t 73 i Tryz.underlying48 hi C l.length x k _ (Src.ofSlice W Tryz.underlying48 ⟨g,0,none⟩ 0 cap [] (by simp) (fun j u d=>by simp at d) (fun u n=>by simp at n))
  ·obtain⟨K,p,f,y,A,N,G,L⟩:=GS.il h 48 i (.agg #[.int .u64 0,.int .u64 0]) 16 Tryz.underlying48 hi a.1 a.2.1 a.2.2 rfl (by decide) ⟨g,0,none⟩ cap m.length h0 (blV m) (qB m) (fun j u d=>by
     rw[Addr.add_lit,dz];rw[<-c,dc] at d;split at d;·simp only[World.cell?,hg];rw[<-ef,d];rfl
     ·cases d) (qA m) (by simp only[maxLen];omega) (by omega)
   refine⟨_,f,y,?_,G⟩;show GS _ _ _ _ _ (l ++ m).length (blV (l ++ m))
   rw[nL,ei];exact A
theorem xY{b:Array Oper}{o:Oper}{a:Act}{K:Act->Wd->Prop}{Q:Exit->Act->Wd->Prop}{E:Prop}{W f:Wd}{v u g:Vl}(e:o.guard=none) (s x:Operand) (d:o.op=.call { callee:=.builtin .append,args:=#[s,x],argTypes:=#[48,48] })(hs:a.eval s=v) (hx:a.eval x=u) (c:∀ t,(Builtin.append_ #[48,48] t #[v,u]).run prog W=.ok g f) (h:K (a.put o.dst g) f):if Region.wanted o (yielded b a.tmps)=true then Oper.wp prog o a W K Q else E:=by
 have hw:Region.wanted o (yielded b a.tmps)=true:=by simp[Region.wanted,e]
 rw[ae hw];exact Lib.wp_append_run W s x _ _ d _ _ hs hx _ _ (c _) h
def gl(bS g sz:Nat)(ws:List Nat):Nat->List (Nat×Nat)
 | 0=>[]
 | j + 1=>if aE ws j=true then gl bS g sz ws j ++ [(bS + g*4096 + j*sz,sz)] else gl bS g sz ws j
theorem vQ(bS g sz:Nat)(ws:List Nat):∀ j,(gl bS g sz ws j).length<=j
 | 0=>aj _
 | j+1=>by
  have:=vQ bS g sz ws j;unfold gl;split;·rw[ei];exact Nat.succ_le_succ this
  ·omega
theorem IY(bS g sz:Nat)(ws:List Nat)(k:Nat):∀ d,(∀ j,k<=j->j<k+d->aE ws j=false)->gl bS g sz ws (k+d)=gl bS g sz ws k
 | 0,_=>rfl
 | d+1,h=>by
  have e:=IY bS g sz ws k d (fun j a b=>h j a (by omega));show gl bS g sz ws (k+d+1)=_
  rw[gl,ac (by rw[h (k+d) (by omega) (by omega)];decide),e]
theorem nxtN_of{n:Nat}{ws:List Nat}{k:Nat} : (bI n ws k = -1/\∀ j,k<=j->j<n->aE ws j=false)\/∃ j:Nat,bI n ws k=(j:Int)/\k<=j/\j<n/\aE ws j=true/\∀ i,k<=i->i<j->aE ws i=false:=by
 cases h:(List.range n).find? (fun j=>decide (k<=j) && aE ws j)with
 | none=>
  refine .inl ⟨by unfold bI;rw[h],fun j c b=>?_⟩;have:=List.find?_eq_none.1 h j (List.mem_range.2 b)
  cases hb:aE ws j with
  | false=>rfl
  | true=>exact absurd (by simp[c,hb]) this
 | some j=>
  have d:=h;rw[List.find?_range_eq_some] at d;obtain⟨a,f,e⟩:=d;simp only[bu,ci] at a;refine .inr ⟨j,by unfold bI;rw[h],a.1,List.mem_range.1 f,a.2,fun i c b=>?_⟩;have:=e i b;simp only[Bool.not_eq_true',Bool.and_eq_false_iff,decide_eq_false_iff_not] at this;rcases this with h|h
  ·omega
  ·exact h
theorem ziB{n:Nat}{ws:List Nat}{j:Nat} : (if bI n ws (j+1) = -1 then 0 else 4097-(bI n ws (j+1)).toNat)<4097-j\/4096<j\/4096<n:=by
 rcases nxtN_of (n:=n) (ws:=ws) (k:=j+1)with ⟨a,-⟩|⟨i,a,c,b,-⟩
 ·rw[a,ae rfl];omega
 ·rw[a,ac (by omega),aa];omega
theorem zeI(b:Nat)(I:Img)(V:ImV)(k r:Nat)(hS:Sn9 I k r)(g c:Nat)(hg:g<I.np)(hc:(I.pg g).cl=(c:Int))(h7:c<=7)(w:Wd)(L:ImAt w b I V):Calls prog 43 #[.pointer (some ⟨b,0,none⟩),.int .i64 g] w fun e w'=>∃ v,e=.returned v/\GB w w' v (gl I.bS g (16*2 ^ c) (wsP (I.pg g)) (celN9 c)):=by
 obtain⟨-,⟨pa,pc,hp⟩,-,-,-,-,bp,-,-⟩:=L.d.sl;obtain⟨c0,c1,c2,c3,c4,c5,c6,c7,c8⟩:=L.cells;rw[hp] at c5;obtain⟨bl,o,f7,a5,b0,X⟩:=L.ew g hg;rw[hp] at a5;injection a5 with e1 e2 e3
 subst e1;obtain⟨z,c9,b2⟩:=sP c h7;have e7:=nK c h7;have e4:=hS.nm;have b7:=hS.be;have g0:=hS.gj;have a7:=aA (fun W=>MQ (I.pg g) c hc h7 b0 W);have a8:=aA (fun W (hW:Kt nO w W)=>lX b I V g W (L.dk hW) (by omega));have C:=aA (fun W=>MJ (I.pg g) c hc h7 W);obtain⟨sz,a9⟩:=xe (16*2 ^ c);obtain⟨Z,D⟩:=xe (I.bS+g*4096);rw[<-a9] at z c9 b2 C ⊢;rw[<-D] at a8;have f4:Z+4096<=9223372036854775808:=by omega
 obtain⟨a,a3⟩:=xe (celN9 c);rw[<-a3] at z e7 a7 ⊢;have CE:=aA (show ∀ j,gl I.bS g sz (wsP (I.pg g)) (j + 1)=if aE (wsP (I.pg g)) j=true then gl I.bS g sz (wsP (I.pg g)) j ++ [(Z + j*sz,sz)] else gl I.bS g sz (wsP (I.pg g)) j from fun j=>by rw[D];rfl);have CL:=aA (fun j=>vQ I.bS g sz (wsP (I.pg g)) j);have CN:=aA (fun k d=>IY I.bS g sz (wsP (I.pg g)) k d);have e0:gl I.bS g sz (wsP (I.pg g)) 0=[]:=rfl;generalize f2:gl I.bS g sz (wsP (I.pg g))=f at *;have HM:=aA (show ∀ j,j<a->j*sz+sz<=4096 from fun j hj=>by have:(j+1)*sz<=a*sz:=ak _ hj;rw[av,aL,z] at this;exact this)
 have PB:=aA (PbI.mk' (w:=w) L (Kt.refl _ w) (I.pg g));obtain⟨d0,d1,d2,d3,d4,d5,d6,d7,d8,d9,f1⟩:=X.c;obtain⟨n,hn⟩:=xe (I.np);rw[<-hn] at c5;have f9:(g:Int)<n:=by omega
 have f6:g<=1024:=by omega
 generalize e6:I.pg g=p at *;clear L hp b0 X e2 e3 hn hc bp e6 f2 a9 D a3 hS e4 b7 z;go_enter func43,ntmps43;go_wp2_with fail;generalize w.alloc (aV p)=W1 at *;generalize w.heap.size=gb at *;clear d0 d1 d2 d3 d4 d5 d6 d7 d8 d9 f1 c0 c1 c2 c3 c4 c5 c6 c7 c8;refine(a7.o W1).mono ?_;rintro e w2 ⟨sb,sc,ws,rfl,E,b9,b6,a4,R⟩;have A:=aA (PB.o.dk R);have ST:=aA E;have BT:=aA a4;have a6:=aA (fun (x:Nat) (hx:x<=4096) (W:Wd) (hW:Kt nO w2 W)=>wD sb sc a ws (x:Int) (by omega) W (E.kept hW (fun x=>x) (fun x=>x)));have Q:=aA (show ∀ x:Nat,ez a ws (x:Int)=bI a ws x from fun x=>by unfold ez;rw[aa]);clear E b9 b6 a4 R;have G:=aA (a6.o 0 (by decide) w2 (Kt.refl _ _));rw[Q.o 0] at G;go_wp2_with fail;refine G.o.mono ?_;rintro e w3 ⟨rfl,rfl⟩;clear G;go_wp2_with fail;go_loopw [5,8] (fun lv xv W=>∃ (x:Int) (q:Nat),xv=.int .i64 x/\Hd (q<=a/\x=bI a ws q/\GB w3 W lv (f q))) (fun _ xv _=>if (intOf xv) = -1 then 0 else 4097-(intOf xv).toNat)
 case atStart=>exact⟨_,0,rfl,aA ⟨az _,rfl,by rw[e0];exact GS.nil _ _ _ _ (Kt.refl _ _)⟩⟩
 case round=>
  obtain⟨x,q,rfl,hG⟩:=hrel;obtain⟨hq,hx,l⟩:=hG.o;obtain⟨va,vc,Y⟩:=mQ l.own;rcases nxtN_of (n:=a) (ws:=ws) (k:=q)with ⟨t,J⟩|⟨j,t,J,h3,h4,h5⟩
  ·have e5:(x != -1)=false:=(by rw[hx,t];rfl);have b8:=aA (show f a=f q by
    obtain⟨d,rfl⟩:∃ d,a=q+d:=⟨a-q,by omega⟩;exact CN.o q d (fun j s a1=>by rw[<-BT.o j a1];exact J j s a1))
   have G9:=aA l;clear hx t J l;subst Y;go_wp2_with fail;go_ret;refine⟨_,rfl,?_⟩;rw[b8.o];refine⟨G9.o.own,fun g' U e=>?_,nT A.o.k G9.o.kp⟩;exact an A.o.k.size (G9.o.new g' U e)
  ·have b5:x=(j:Int):=(by rw[hx,t]);subst b5;have e5:((j:Int) != -1)=true:=(by rw[cx];omega);have ce:f (j + 1)=f q ++ [(Z + j*sz,sz)]:=by
    rw[CE.o j,ae (by rw[<-BT.o j h3];exact h4)];obtain⟨d,rfl⟩:∃ d,j=q+d:=⟨j-q,by omega⟩;rw[CN.o q d (fun i b3 b4=>by rw[<-BT.o i (by omega)];exact h5 i b3 b4)]
   have hm:=HM.o j h3;obtain⟨m,B⟩:=xe (j*sz);rw[<-B] at ce hm;have f5:(j:Int)*(sz:Int)=m:=(by rw[B];simp);have b1:j<256:=(by omega);have f0:=aA (show(f q).length<=4000000 by have:=CL.o q;omega);have S:=aA (A.o.dk l.kp);have GQ:=aA l;have e8:=aA ce;have J3:=aA h3;have a2:=aA (fun (y:KW wr)=>a8.o y.v (nT S.o.k y.k));obtain⟨p0,p1,p2,p3,p4,p5,p6,p7,p8,p9,f3⟩:=S.o.all;clear hx t J h3 h4 h5 l ce B;subst Y;go_wp2_with fail;refine cR (by kernel_rfl) (by kernel_rfl) ?_;repeat (go_big_quiet_step (first|(go_at_call 42;exact Calls.ek ((a2.o _).mono fun _ _ ⟨t,J⟩=>⟨t,J▸Kt.refl _ _⟩))|(go_at_call 93;exact Calls.ek (C.o _))))
   refine wpQuiet_nil ?_;intro y;go_wp2_with fail;refine(C.o _).mono ?_;rintro e w4 ⟨rfl,T⟩;have K4:=aA (nT y.k T);clear T p0 p1 p2 p3 p4 p5 p6 p7 p8 p9 f3;obtain⟨ad,P⟩:=xe (Z+m);have N:(Z:Int)+(m:Int)=ad:=(by omega);have G4:=aA (GS.dk GQ.o K4.o);obtain⟨gg,cap,w5,PU,K,-⟩:=GB.push G4.o ad sz f0.o;rw[P,<-e8.o] at K;have K:=aA K;have e9:=aA PU;obtain⟨u,s⟩:=xe (j+1);have f8:(j:Int)+1=(u:Int):=(by omega);rw[<-s] at K;have F:=aA (a6.o u (by omega) w5 K.o.kp);rw[Q.o u] at F;have J1:=aA (show u=j+1/\u<=a from⟨s,by have:=J3.o;omega⟩);clear PU P s;rw[N];go_wp2_with (at_builtin;refine Lib.wpList_append_run _ rfl _ _ _ _ rfl _ (.slice (some ⟨w4.heap.size,0,none⟩) 1 1) rfl rfl _ _ (e9.o _) ?_)
   refine F.o.mono ?_;rintro e w6 ⟨rfl,rfl⟩;have MS:=aA (show(if bI a ws u = -1 then 0 else 4097-(bI a ws u).toNat)<4097-j by
    have h:=ziB (n:=a) (ws:=ws) (j:=j);rw[<-J1.o.1] at h;omega)
   clear F;go_wp2_with fail;go_round
   case rel=>exact⟨_,u,rfl,aA ⟨J1.o.2,rfl,K.o⟩⟩
   case measure=>
    have t:¬(j:Int) = -1:=(by omega);have:=MS.o;by_cases e:bI a ws u = -1;·simp only[e,if_true] at this;simp[intOf,t,e];omega
    ·simp only[e,if_false] at this;simp[intOf,t,e];omega
end W
open Tryz RowKit
set_option linter.unusedVariables false
theorem Sd.is{x t fr B}(s:Sd x t fr B)(D:∀ q i,¬B 9 q i)(g p k:Nat)(hg:g=0\/g=2):kT t.m (g:Int) (p:Int) (k:Int)=true↔(B g p k/\x.P p=none):=by
 constructor
 ·intro h;unfold kT at h;simp only[bu,cu] at h;obtain⟨⟨⟨d,b⟩,o⟩,z⟩:=h;have u:p<t.m.n:=by
   have : 0<=(p:Int)/\(p:Int)<t.m.n:=bw d;omega
  have ha:cL t.m (p:Int)=t.m.pg p:=by unfold cL;rw[ae d,aa]
  rw[ha] at b o;obtain⟨l,q,j,c1,c2,c3⟩:=s.cv p u;have C:l=0\/l=2:=by
   rcases s.tg _ _ _ c1 with e|e|e
   ·exact .inl e
   ·exact .inr e
   ·subst e;exact absurd c1 (D q j)
  have a:=s.pg _ _ _ c1 (by omega) p c2 c3;have c:x.P p=none:=by
   cases c:x.P p with
   | none=>rfl
   | some y=>
    exfalso
    rw[c,Option.getD_some] at a;have z:=(s.vs p y c).2;rw[a] at b;omega
  refine⟨?_,c⟩;rw[c,ej] at a;rw[a] at b o;have o:(j:Int)=k:=o;have b:(if p=q then (l:Int) else (l:Int)+1)=(g:Int):=b;by_cases e:p=q;·rw[ae e] at b;have A:l=g:=(by omega);have v:j=k:=(by omega);rw[<-A,<-v,e];exact c1
  ·rw[ac e] at b;omega
 ·rintro ⟨hb,c⟩;obtain⟨G,w,F⟩:=s.al _ _ _ hb;obtain⟨l1,_⟩:=s.lt hb;have hz : 0<2 ^ k:=ap (by decide);have d:aD t.m.n (p:Int)=true:=dN l1;have ha:cL t.m (p:Int)=t.m.pg p:=by unfold cL;rw[ae d,aa]
  have a:=s.pg _ _ _ hb (by omega) p (aj _) (by omega);rw[ae rfl,c,ej] at a;have f:(t.m.pg p).od=(k:Int):=by rw[a];rfl
  have r:(t.m.pg p).kd=(g:Int):=by rw[a];rfl
  have E:kF t.m (p:Int)=p:=by unfold kF;rw[ae d,aa,f,aa];have:=dy p (2 ^ k);rw[w,Nat.add_zero,aq] at this;rw[this]
  unfold kT;rw[d,ha,f,r,E];simp
theorem sX{x t fr B}(s:Sd x t fr B)(p:Nat)(hp:p<t.m.n):fR x t (ad x p)=p/\lS x t (ad x p)=true:=by
 have c:=s.nb;have d:=s.b2;have a:fO x (ad x p)=4096*p:=by unfold fO ad;omega
 have b:lG x t (ad x p):=by unfold lG;rw[a];exact⟨by omega,by omega⟩
 refine⟨by unfold fR;rw[ae b,a];omega,?_⟩;unfold lS;exact af ⟨b,by unfold M.In ad;omega⟩
theorem Sd.eT{x t fr B}(s:Sd x t fr B)(a:∀ q i,¬B 9 q i)(p k:Nat)(hp:p<t.m.n):kI x t (ad x p) (k:Int)=true↔(B 2 p k/\x.P p=none):=by
 obtain⟨b,c⟩:=sX s p hp;unfold kI;have hi:=s.is a 2 p k (.inr rfl);rw[show((2:Nat):Int)=2 from rfl] at hi;rw[b,c,bf,bu,hi];constructor;·exact fun h=>h.2
 ·intro hb;have:=(s.al _ _ _ hb.1).1;exact⟨af ⟨by omega,by omega⟩,hb⟩
theorem Sd.ff{x t fr B}(s:Sd x t fr B)(k:Nat)(c:k<=x.o):ff x t k=(fr k).map (ad x):=by
 have hc:=s.ch k c;have d:=s.nb;unfold Go.Proofs.YtfmgnljlkdmndaaGreatDoor.ff;refine hc.all _ ?_;rw[List.length_map];have a:(fr k).Nodup:=by have:=hc.nodup;rw[List.nodup_iff_pairwise_ne,List.pairwise_map] at this;exact this.imp fun h e=>h (by rw[e])
 have b:∀ p∈fr k,p<t.m.n:=fun p hp=>by obtain⟨_,_,f⟩:=s.al _ _ _ ((s.fi p k).2 ⟨c,hp⟩);have : 0<2 ^ k:=ap (by decide);omega
 have:=M.nodup_len t.m.n (fr k) a b;omega
theorem Sd.ii{x t fr B}(s:Sd x t fr B)(a:∀ q i,¬B 9 q i)(p k:Nat)(b:k<=x.o):mL x t p k=true↔B 0 p k:=by
 have hi:=s.is a 0 p k (.inl rfl);rw[show((0:Nat):Int)=0 from rfl] at hi;unfold mL;rw[bu,hi,s.ff k b];constructor;·exact fun h=>h.1.1
 ·exact fun hb=>⟨⟨hb,s.nc hb (by decide) p (aj _) (by have : 0<2 ^ k:=ap (by decide);omega)⟩,af (List.mem_map.2 ⟨p,((s.fi p k).1 hb).2,rfl⟩)⟩
theorem KH{w b c n ws}(h:SetAt w b c n ws):(∀ i,ws.getD i 0<2 ^ 64)/\∀ j,n<=j->aE ws j=false:=by
 have hl:=h.len;have h0:∀ i,ws.length<=i->ws.getD i 0=0:=fun i hi=>by simp only[List.getD];rw[dj hi];rfl
 constructor
 ·intro i;by_cases hi:i<ws.length
  ·exact bg (h.ok i hi) (bj (by decide) (by omega))
  ·rw[h0 i (by omega)];decide
 ·intro j a;rw[oX];by_cases hi:j/64<ws.length
  ·refine Nat.testBit_lt_two_pow (bg (h.ok _ hi) (bj (by decide) (by omega)))
  ·rw[h0 _ (by omega)];simp
theorem JC{x x':Bx}{f f':Nat->Nat}{hd n':Nat}{l:List Nat}(hc:M.Chn x.bS x.n f hd (l.map (ad x)))(hb:x'.bS=x.bS)(m:x.bS+x'.n<=9223372036854775808)(o:n'*4096<=x'.n)(hp:∀ p∈l,p<n')(hf:∀ i,i<n'*4096->f' i=f i):M.Chn x'.bS x'.n f' hd (l.map (ad x')):=by
 have e:ad x'=ad x:=by funext p;unfold ad;rw[hb]
 rw[e,hb];have a:∀ c∈l.map (ad x),M.IsCell x.bS x'.n c/\c-x.bS+16<=n'*4096:=fun c d=>by obtain⟨h,j,k,q,r⟩:=hc.cell c d;obtain⟨p,g,rfl⟩:=List.mem_map.1 d;have:=hp p g;unfold M.IsCell ad at *;omega
 have b:=hc.congr (f':=f') fun c d=>by obtain⟨h,j⟩:=a c d;obtain⟨_,_,k,_⟩:=h;unfold M.nx M.pv M.word;exact⟨M.wordTo_congr _ _ _ fun i hi=>hf _ (by omega),M.wordTo_congr _ _ _ fun i hi=>hf _ (by omega)⟩
 exact⟨fun c d=>(a c d).1,b.nodup,b.head,b.ez,b.jt⟩
def nZ(B:Nat->Nat->Nat->Prop)(h p k:Nat):Nat->Nat->Nat->Prop:=fun a b c=>B a b c\/(a=h/\b=p/\c=k)
theorem Sd.grow{x t fr B}(s:Sd x t fr B)(x':Bx)(N:x'.P=x.P)(u:x'.o=x.o)(hb:x'.bS=x.bS)(I:(t.m.n+2 ^ x.o)*4096<=x'.n)(D:x.bS+x'.n<=9223372036854775808)(hg:t.m.n+2 ^ x.o<=1024)(f':Nat->Nat)(hf:∀ i,i<t.m.n*4096->f' i=t.f i)(hz:∀ k,k<x.o->∀ i,(t.m.wd k).getD i 0<2 ^ 64) (hp:∀ k,k<x.o->∀ j,t.m.n/2 ^ (k+1)<=j->aE (t.m.wd k) j=false):Sd x' ⟨f',dD t.m,t.hd⟩ fr (nZ B 2 t.m.n x.o):=by
 have C:=s.mo;obtain⟨r,G⟩:=s.dv;have U : 0<2 ^ x.o:=ap (by decide);have l:dD t.m={ dB t.m (t.m.n+2 ^ x.o)with pg:=fC (dB t.m (t.m.n+2 ^ x.o)).pg t.m.n x.o 2 }:=by unfold dD;rw[C,ac (by omega)]
 have v:(dD t.m).n=t.m.n+2 ^ x.o:=by rw[l];rfl
 have Q:(dD t.m).o=x.o:=by rw[l];exact C
 have J:∀ k,(dD t.m).wd k=cZ (t.m.wd k) ((t.m.n+2 ^ x.o)/2 ^ (k+1)):=fun k=>by rw[l];rfl
 have R:∀ i,(dD t.m).pg i=if i=t.m.n then aT 2 x.o else if t.m.n<i/\i<t.m.n+2 ^ x.o then aT (2+1) x.o else if i<t.m.n then t.m.pg i else aU:=fun i=>by rw[l];rfl
 have y:∀ k,k<=x.o->∀ p∈fr k,p<t.m.n:=fun k d p hp=>by obtain⟨_,_,K⟩:=s.al _ _ _ ((s.fi p k).2 ⟨d,hp⟩);have : 0<2 ^ k:=ap (by decide);omega
 constructor
 ·show(dD t.m).o=x'.o
  rw[Q,u]
 ·rw[u];exact s.o8
 ·refine⟨r+1,?_⟩;show(dD t.m).n=_
  rw[v,u,G,av,aL]
 ·show(dD t.m).n*4096<=x'.n
  rw[v];exact I
 ·show(dD t.m).n<=1024
  rw[v];exact hg
 ·rw[hb];exact s.b1
 ·rw[hb];exact D
 ·rintro a b c (h|⟨rfl,rfl,rfl⟩)
  ·exact s.tg _ _ _ h
  ·exact .inr (.inl rfl)
 ·intro p k;rw[u,<-s.fi p k];constructor
  ·rintro (h|⟨h,_⟩)
   ·exact h
   ·omega
  ·exact .inl
 ·rintro a b c h;show c<=x'.o/\b%2 ^ c=0/\b+2 ^ c<=(dD t.m).n
  rw[u,v];rcases h with h|⟨rfl,rfl,rfl⟩
  ·obtain⟨A,z,K⟩:=s.al _ _ _ h;exact⟨A,z,by omega⟩
  ·exact⟨aj _,by rw[G];exact Nat.mul_mod_left _ _,aj _⟩
 ·rintro a b c a' Z Y (h|⟨rfl,rfl,rfl⟩) (L|⟨rfl,rfl,rfl⟩)
  ·exact s.ds _ _ _ _ _ _ h L
  ·exact .inr (.inl (s.al _ _ _ h).2.2)
  ·exact .inr (.inr (s.al _ _ _ L).2.2)
  ·exact .inl ⟨rfl,rfl,rfl⟩
 ·intro i hi;have hi:i<(dD t.m).n:=hi;rw[v] at hi;by_cases h:i<t.m.n
  ·obtain⟨g,p,k,A,z⟩:=s.cv i h;exact⟨g,p,k,.inl A,z⟩
  ·exact⟨2,t.m.n,x.o,.inr ⟨rfl,rfl,rfl⟩,by omega,hi⟩
 ·rintro g p k h T i A z;show(dD t.m).pg i=_
  rw[R,N];rcases h with h|⟨rfl,rfl,rfl⟩
  ·have K:=(s.al _ _ _ h).2.2;have F:i<t.m.n:=(by omega);rw[ac (show ¬i=t.m.n by omega),ac (show ¬(t.m.n<i/\i<t.m.n+2 ^ x.o)by omega),ae F];exact s.pg _ _ _ h T i A z
  ·have w:x.P i=none:=by
    cases w:x.P i with
    | none=>rfl
    | some S=>have:=(s.al _ _ _ (s.vs i S w).1).2.2;omega
   rw[w,ej];by_cases e:i=t.m.n;·rw[ae e,ae e];rfl
   ·rw[ac e,ae (by omega),ac e];rfl
 ·intro k d;rw[u] at d;exact JC (n':=t.m.n) (s.ch k d) hb D (an (ak _ (Nat.le_add_right _ _)) I) (y k d) hf
 ·intro k d;show((dD t.m).wd k).length=((dD t.m).n/2 ^ (k+1)+63)/64
  rw[J,v,sN]
 ·intro k d i hi;rw[u] at d;have hi:i<(dD t.m).n/2 ^ (k+1):=hi;rw[v] at hi;show aE ((dD t.m).wd k) i=_
  rw[J,wR _ _ _ (hz k d) hi];by_cases h:i<t.m.n/2 ^ (k+1);·exact s.bt k d i h
  ·rw[hp k d i (by omega)];have V : 0<2 ^ k:=ap (by decide);have X:t.m.n<=i*2 ^ (k+1):=by
    have hd : 2 ^ (k+1) ∣ t.m.n:=(by rw[G];exact Nat.dvd_trans (Nat.pow_dvd_pow 2 d) (Nat.dvd_mul_left _ _));rw[<-Nat.div_mul_cancel hd];exact ak _ (by omega)
   have he : 2*i*2 ^ k=i*2 ^ (k+1):=(by rw[co,aq 2 i,cy,aq 2]);have z:(2*i+1)*2 ^ k=2*i*2 ^ k+2 ^ k:=(by rw[av,aL]);rw[ah (fun E=>by have:=y k (by omega) _ E;omega),ah (fun E=>by have:=y k (by omega) _ E;omega)];rfl
 ·intro k d;rw[u] at d;exact s.nm k d
 ·intro p q h;rw[N] at h;exact⟨.inl (s.vs p q h).1,(s.vs p q h).2⟩
def pN(B:Nat->Nat->Nat->Prop)(h p k:Nat):Nat->Nat->Nat->Prop:=fun a b c=>B a b c/\¬(a=h/\b=p/\c=k)
theorem Sd.drop{x t fr B}(s:Sd x t fr B)(c:Nat)(hc:t.m.n=c+2 ^ x.o)(hl:B 2 c x.o)(J:x.P c=none)(x':Bx)(I:x'.P=x.P)(v:x'.o=x.o)(hb:x'.bS=x.bS)(F:c*4096<=x'.n)(y:x.bS+x'.n<=9223372036854775808)(f':Nat->Nat)(hf:∀ i,i<c*4096->f' i=t.f i)(hz:∀ k,k<x.o->∀ i,(t.m.wd k).getD i 0<2 ^ 64):Sd x' ⟨f',dB t.m c,t.hd⟩ fr (pN B 2 c x.o):=by
 have C:=s.mo;obtain⟨r,S⟩:=s.dv;have Q : 0<2 ^ x.o:=ap (by decide);have j:∀ g p k,pN B 2 c x.o g p k->p+2 ^ k<=c:=fun g p k ⟨u,w⟩=>by
  have R : 0<2 ^ k:=ap (by decide);have:=(s.al _ _ _ u).2.2;rcases s.ds _ _ _ _ _ _ u hl with e|e|e
  ·exact absurd e w
  ·exact e
  ·omega
 have G:∀ p k,B 0 p k->pN B 2 c x.o 0 p k:=fun p k h=>⟨h,fun e=>by omega⟩
 have E:∀ k,k<=x.o->∀ p∈fr k,p<c:=fun k l p hp=>by have:=j _ _ _ (G p k ((s.fi p k).2 ⟨l,hp⟩));have : 0<2 ^ k:=ap (by decide);omega
 have N : 1<=r:=by
  rcases dx r with e|e
  ·rw[e,Nat.zero_mul] at S;omega
  ·exact e
 have D:c=(r-1)*2 ^ x.o:=by
  have:r*2 ^ x.o=(r-1)*2 ^ x.o+2 ^ x.o:=by rw[show r=(r-1)+1 by omega,av,aL];rfl
  omega
 constructor
 ·show t.m.o=x'.o
  rw[v,C]
 ·rw[v];exact s.o8
 ·exact⟨r-1,by rw[v];exact D⟩
 ·exact F
 ·show c<=1024
  have:=s.n1;omega
 ·rw[hb];exact s.b1
 ·rw[hb];exact y
 ·exact fun a b d h=>s.tg _ _ _ h.1
 ·intro p k;rw[v,<-s.fi p k];exact⟨fun h=>h.1,G p k⟩
 ·intro a b d h;obtain⟨u,w,z⟩:=s.al _ _ _ h.1;exact⟨by rw[v];exact u,w,j _ _ _ h⟩
 ·exact fun a b d a' U T h L=>s.ds _ _ _ _ _ _ h.1 L.1
 ·intro i hi;have hi:i<c:=hi;obtain⟨g,p,k,u,w,z⟩:=s.cv i (by omega);exact⟨g,p,k,⟨u,fun e=>by omega⟩,w,z⟩
 ·intro g p k h K i u w;have z:=j _ _ _ h;have A:i<t.m.n:=by omega
  show(if i<t.m.n then t.m.pg i else aU)=_
  rw[ae A,I];exact s.pg _ _ _ h.1 K i u w
 ·intro k l;rw[v] at l;exact JC (n':=c) (s.ch k l) hb y F (E k l) hf
 ·intro k l;exact sN _ _
 ·intro k l i hi;rw[v] at l;have hi:i<c/2 ^ (k+1):=hi;show aE (cZ (t.m.wd k) (c/2 ^ (k+1))) i=_
  rw[wR _ _ _ (hz k l) hi];exact s.bt k l i (bg hi (Nat.div_le_div_right (by omega)))
 ·intro k l;rw[v] at l;exact s.nm k l
 ·intro p q h;rw[I] at h;refine⟨⟨(s.vs p q h).1,fun e=>?_⟩,(s.vs p q h).2⟩;rw[e.2.1,J] at h
  cases h
theorem uZ(m:Mp)(p o k:Int):(cF m p o k).n=m.n:=by unfold cF;split <;> rfl
theorem vL(m:Mp)(k i:Int):(fH m k i).n=m.n:=by unfold fH;split <;> rfl
theorem tI(x:Bx)(t:Bt)(p k:Nat):(fB x t p k).m.n=t.m.n:=by
 unfold fB;split;·exact(vL _ _ _).trans (uZ _ _ _ _)
 ·rfl
theorem AU(x:Bx)(p a:Nat):∀ (d:Nat) (t:Bt),(fE x p a d t).1.m.n=t.m.n
 | 0,t=>rfl
 | d+1,t=>by
  rw[fE];split;·exact(AU x p a d _).trans (tI _ _ _ _)
  ·exact tI _ _ _ _
theorem AP(x:Bx)(t:Bt)(p a b:Nat):(eC x t p a b).m.n=t.m.n:=(uZ _ _ _ _).trans (AU _ _ _ _ _)
theorem XU(x:Bx)(t:Bt)(q j k:Nat):(oK x t q j k).m.n=t.m.n:=(AP _ _ _ _ _).trans (vL _ _ _)
theorem DV(x:Bx):∀ (d:Nat) (t:Bt) (p k:Nat),(gL x d t p k).1.m.n=t.m.n
 | 0,t,p,k=>rfl
 | d+1,t,p,k=>by
  rw[gL];split
  ·split
   ·exact(DV x d _ _ _).trans (vL _ _ _)
   ·rfl
  ·rfl
def Sn(x:Bx)(t:Bt)(L:Nat->Nat->Prop):Prop:=∃ fr B,Sd x t fr B/\(∀ q i,¬B 9 q i)/\∀ q i,B 2 q i↔L q i
theorem Sn.apart{x t L}(s:Sn x t L){p k q i:Nat}(a:L p k)(b:L q i):(p=q/\k=i)\/p+2 ^ k<=q\/q+2 ^ i<=p:=by
 obtain⟨fr,B,s,_,hL⟩:=s;rcases s.ds _ _ _ _ _ _ ((hL p k).2 a) ((hL q i).2 b)with ⟨_,e⟩|e
 ·exact .inl e
 ·exact .inr e
theorem Sn.al{x t L}(s:Sn x t L){p k:Nat}(h:L p k):k<=x.o/\p%2 ^ k=0/\p+2 ^ k<=t.m.n:=by obtain⟨fr,B,s,_,hL⟩:=s;exact s.al _ _ _ ((hL p k).2 h)
theorem ZS(x:Bx)(t:Bt)(k:Nat):(∀ a,k<=a->a<=x.o->t.hd a=0)\/∃ j,j<=x.o/\Least x t k j:=by
 have c:∀ d,∀ b,k<=b->b+d=x.o+1->(∀ a,k<=a->a<b->t.hd a=0)->(∀ a,k<=a->a<=x.o->t.hd a=0)\/∃ j,j<=x.o/\Least x t k j:=by
  intro d;induction d with
  | zero=>exact fun b f i g=>.inl fun a h l=>g a h (by omega)
  | succ d m=>
   intro b f i g;by_cases e:t.hd b=0
   ·refine m (b+1) (by omega) (by omega) fun a h l=>?_
    by_cases ea:a=b;·rw[ea];exact e
    ·exact g a h (by omega)
   ·exact .inr ⟨b,by omega,f,by omega,g,fun _=>e⟩
 by_cases n:k<=x.o;·exact c (x.o+1-k) k (aj _) (by omega) fun a f i=>by omega
 ·exact .inl fun a f i=>by omega
theorem Sn.eT{x t L}(s:Sn x t L)(p k:Nat)(hp:p<t.m.n):kI x t (ad x p) (k:Int)=true↔(L p k/\x.P p=none):=by obtain⟨fr,B,s,a,hL⟩:=s;rw[s.eT a p k hp,hL]
theorem Sn.n{x t L}(s:Sn x t L):t.m.n<=1024/\x.bS+x.n<=9223372036854775808/\t.m.n*4096<=x.n:=by obtain⟨fr,B,s,a,hL⟩:=s;exact⟨s.n1,s.b2,s.nb⟩
namespace W
theorem BH(p:Pg)(k o:Int):pgE p (aT k o)=(decide (p.kd=k) && (decide (p.od=o) && jU p)):=by obtain⟨kd,od,cl,lv,nx,pv,fs,b0,b1,b2,b3⟩:=p;unfold pgE jU aT;rw[<-Bool.decide_and,<-Bool.decide_and,decide_eq_decide,Pg.mk.injEq]
theorem ok8_eq{I:Img}{k r:Nat}(hS:Sn9 I k r)(j:Nat):ok8 I j=refL (decP I) 0 (fun i=>M.word I.mem (4096*i)) (fun i=>M.word I.mem (4096*i+8)) (fun i=>isF (I.pg i) (j:Int)) (pgL I fun p=>isF p (j:Int)).length (I.hd.getD j 0) 0:=by
 unfold ok8;refine DT (cod:=fun i=>I.bS+4096*i) (fun i=>by have:=hS.b0;omega) (fun i j h=>by omega) (fun p i h=>(decP_lt hS h).2.1) ?_ (pgL I fun p=>isF p (j:Int)) (pgL_nodup _ _) (fun p i h=>?_) _ (pgL I fun p=>isF p (j:Int)) [] _ _ rfl (pgL_nodup _ _) List.nodup_nil (fun i=>by simp) (fun i _ h=>by cases h) trivial rfl;·unfold decP;rw[ac (by have:=hS.b0;omega)]
 ·rw[pgL_mem];exact⟨fun x=>x.2,fun x=>⟨(decP_lt hS h).1,x⟩⟩
theorem UJ(p:Pg)(hp:PgIn p):aY (wsP p)=aI (aE (wsP p)) 256:=by
 refine uE (wsP p) (fun i=>?_) 4;match i with
 | 0=>exact hp.b0
 | 1=>exact hp.b1
 | 2=>exact hp.b2
 | 3=>exact hp.b3
 | i+4=>simp[List.getD]
theorem ok5_iff(p:Pg)(hp:PgIn p)(c:Nat)(hc:p.cl=(c:Int))(e:p.kd=4):ok5 p=true↔(0<p.lv/\p.lv=(aI (aE (wsP p)) 256:Int))/\∀ j,celN9 c<=j->j<256->aE (wsP p) j=false:=by
 unfold ok5;rw[hc,aa,UJ p hp,af e,Bool.not_true,Bool.false_or,bu,bu,ci,ci,ci];refine and_congr_right fun _=>?_
 rcases nxtN_of (n:=256) (ws:=wsP p) (k:=celN9 c)with ⟨a,b⟩|⟨j,a,b,f,d,g⟩
 ·exact⟨fun _=>b,fun _=>a⟩
 ·rw[a];refine⟨fun h=>by omega,fun h=>?_⟩;rw[h j b f] at d
  cases d
theorem cntB_cut(f:Nat->Bool)(n:Nat):∀ d,(∀ j,n<=j->j<n+d->f j=false)->aI f (n+d)=aI f n
 | 0,_=>rfl
 | d+1,h=>by rw[<-Nat.add_assoc,lL f _ (h (n+d) (by omega) (by omega))];exact cntB_cut f n d (fun j a b=>h j a (by omega))
theorem EZ(c:Nat)(h:c<=7):celN9 c<=256/\1<=celN9 c:=by
 match c,h with
 | 0,_=>decide
 | 1,_=>decide
 | 2,_=>decide
 | 3,_=>decide
 | 4,_=>decide
 | 5,_=>decide
 | 6,_=>decide
 | 7,_=>decide
theorem ok5_lv{p:Pg}(hp:PgIn p){c:Nat}(hc:p.cl=(c:Int))(g:c<=7)(d:p.kd=4)(h:ok5 p=true):∃ l:Nat,p.lv=(l:Int)/\1<=l/\l<=celN9 c/\l=aI (aE (wsP p)) (celN9 c):=by
 rw[ok5_iff p hp c hc d] at h;obtain⟨⟨k,i⟩,f⟩:=h;have m:=EZ c g;have e:aI (aE (wsP p)) 256=aI (aE (wsP p)) (celN9 c):=by have:=cntB_cut (aE (wsP p)) (celN9 c) (256-celN9 c) (fun j a b=>f j a (by omega));rwa [show celN9 c+(256-celN9 c)=256 by omega] at this
 have:=sY (aE (wsP p)) (celN9 c);exact⟨aI (aE (wsP p)) 256,i,by omega,by omega,e⟩
theorem frL_len(p:Pg)(n:Nat):(frL p n).length+aI (aE (wsP p)) n=n:=by
 induction n with
 | zero=>rfl
 | succ n a=>
  unfold frL at a ⊢;rw[List.range_succ,List.filter_append,ei]
  cases h:aE (wsP p) n with
  | true=>rw[mA _ _ h];simp[h];omega
  | false=>rw[lL _ _ h];simp[h];omega
theorem ok10_eq(I:Img)(j:Nat):ok10 I j=refL (dec10 I) (-1) (fun i=>(I.pg i).nx) (fun i=>(I.pg i).pv) (fun i=>prS (j:Int) (I.pg i)) (pgL I (prS (j:Int))).length (I.pt.getD j 0) (-1):=by unfold ok10;refine DT (cod:=fun i=>(i:Int)) (fun i=>by omega) (fun i j h=>by omega) (fun p i h=>(dec10_i h).2.1) rfl (pgL I (prS (j:Int))) (pgL_nodup _ _) (fun p i h=>?_) _ (pgL I (prS (j:Int))) [] _ _ rfl (pgL_nodup _ _) List.nodup_nil (fun i=>by simp) (fun i _ h=>by cases h) trivial rfl;rw[pgL_mem];exact⟨fun x=>x.2,fun x=>⟨(dec10_i h).1,x⟩⟩
theorem EY(I:Img)(S:Pg->Bool):∀ n,((List.range n).filter fun i=>S (I.pg i)).length=aI (fun i=>S (I.pg i)) n
 | 0=>rfl
 | n+1=>by
  rw[List.range_succ,List.filter_append,ei,EY I S n]
  cases h:S (I.pg n)with
  | true=>rw[mA (fun i=>S (I.pg i)) n h];simp[h]
  | false=>rw[lL (fun i=>S (I.pg i)) n h];simp[h]
theorem EV(I:Img)(S:Pg->Bool):(pgL I S).length=aI (fun i=>S (I.pg i)) I.np:=EY I S I.np
end W
end Go.Proofs.YtfmgnljlkdmndaaGreatDoor
