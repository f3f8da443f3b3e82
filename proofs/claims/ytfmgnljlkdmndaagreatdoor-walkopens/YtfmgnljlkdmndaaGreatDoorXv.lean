import Derived.Test.YtfmgnljlkdmndaaGreatDoorXt
import Derived.Test.YtfmgnljlkdmndaaGreatDoorXu
set_option maxRecDepth 1000000
set_option maxHeartbeats 0
namespace Go.Proofs.YtfmgnljlkdmndaaGreatDoor
open Tryz RowKit
set_option linter.unusedVariables false
def jL(w:Wd)(v:Vl)(xs:List Nat):Prop:=w.ownsRow 0 135 1 v xs.length (xs.map dE)
theorem zkk:(prog.info? 135).map (fun i=>(i.zero,i.size,i.bytes))=some (some (.pointer none),1,8):=by kernel_rfl
theorem zed:∃ i,prog.info? 135=some i/\i.zero=some (.pointer none)/\i.size=1/\i.bytes=8:=by obtain⟨i,hi,a⟩:=Option.map_eq_some_iff.1 zkk;simp only[Prod.mk.injEq] at a;exact⟨i,hi,a.1,a.2.1,a.2.2⟩
theorem jL.jd{w v xs r}(h:jL w v xs)(a:v.ownBlock=some r):∃ cs,w.heap[r]?=some (.cells cs 135 (0,0)):=by
 rcases h.2 with ⟨rfl,_⟩|⟨g,cap,b,rfl,hb,hg,c⟩
 ·simp[Value.ownBlock] at a
 ·simp[Value.ownBlock] at a;subst a;exact⟨_,hg⟩
theorem jL.kept{w w' v xs}{S:Nat->Prop}(h:jL w v xs)(k:Kt S w w')(hS:∀ r,v.ownBlock=some r->¬S r):jL w' v xs:=by
 refine⟨h.1,?_⟩;rcases h.2 with h0|⟨g,cap,a,rfl,hb,hg,b⟩
 ·exact .inl h0
 ·exact .inr ⟨g,cap,a,rfl,hb,(k.block g (lH hg) (hS g rfl)).trans hg,b⟩
theorem jL.push(w:Wd)(v:Vl)(k:List Nat)(x:Nat)(h:jL w v k)(J:k.length+1<=9)(a:Addr)(c:Nat)(ha:w.cell? (a.add 0)=some (dE x)):∃ n l,(∀ G,(Builtin.append_ #[132,132] G #[v,.slice (some a) 1 c]).run prog w=.ok n l)/\jL l n (k ++ [x])/\Kt (fun b=>v.ownBlock=some b) w l/\
   (n.ownBlock=v.ownBlock\/∃ r,n.ownBlock=some r/\w.heap.size<=r)/\∃ g cap,n=.slice (some ⟨g,0,none⟩) (k.length+1) cap:=by
 obtain⟨i,hi,B,y,C⟩:=zed;have q:k.length+1<=maxLen:=by simp only[maxLen];omega
 have m:∀ j u,[dE x][j]?=some u->w.cell? (a.add j)=some u:=by
  intro j u p;match j,p with
  | 0,p=>simp at p;subst p;exact ha
  | j+1,p=>simp at p
 have s:(k ++ [x]).map dE=k.map dE ++ [dE x]:=by simp
 have D:(k ++ [x]).length=k.length + 1:=by simp
 by_cases I:∃ g cap,v=.slice (some ⟨g,0,none⟩) k.length cap/\k.length+1<=cap
 ·obtain⟨g,cap,rfl,t⟩:=I;obtain⟨l,f,d,o⟩:=run_append_fits (P:=prog) w 0 132 0 135 i 1 Tryz.underlying132 hi y g k.length cap (k.map dE) h a 1 c [dE x] rfl m (by simp[Value.oneCell',dE]) t;refine⟨.slice (some ⟨g,0,none⟩) (k.length+1) cap,l,fun G=>?_,?_,lK o,.inl rfl,g,cap,rfl⟩
  ·rw[<-f];simp[Builtin.append_]
  ·unfold jL;rw[s,D];exact d
 ·have E:∃ n l,(Builtin.append_ #[132,132] 0 #[v,.slice (some a) 1 c]).run prog w=.ok n l/\l.ownsRow w.heap.size 135 1 n (k.length + 1) (k.map dE ++ [dE x])/\Kt (fun b=>v.ownBlock=some b) w l:=by
   have N:=h;rcases N.2 with ⟨rfl,h0⟩|⟨g,cap,A,rfl,hb,hg,Q,R,K,z⟩
   ·have:k=[]:=bq h0;subst this;obtain⟨n,l,f,d,o,_⟩:=run_append_own (P:=prog) w w.heap.size 132 0 135 i (.pointer none) 1 8 Tryz.underlying132 hi B y C rfl (by decide) (.slice none 0 0) 0 [] (World.ownsRow_nil _ _ _ _) a 1 c [dE x] rfl m (by simp[Value.oneCell',dE]) q (by simp) (aj _);exact⟨n,l,f,d,lK o⟩
   ·obtain⟨n,l,f,d,o⟩:=run_append_arg_grows (P:=prog) w 132 0 135 i (.pointer none) 1 8 Tryz.underlying132 hi B y C rfl (by decide) ⟨g,0,none⟩ k.length cap (k.map dE) (by simp) (fun j u p=>by
     rw[Addr.add_lit,dz];rw[<-z,dc] at p;split at p;·simp only[World.cell?,hg];rw[<-ef,p];rfl
     ·cases p) a 1 c [dE x] rfl m (Nat.lt_of_not_le fun F=>I ⟨g,cap,rfl,F⟩) q (by omega)
    exact⟨n,l,f,d,(lK o).mono (fun _ _ e=>by cases e)⟩
  obtain⟨n,l,f,d,S⟩:=E;rcases d.2 with ⟨_,h0⟩|⟨g,cap,A,rfl,hb,hg,L⟩
  ·omega
  ·refine⟨_,l,fun G=>?_,?_,S,.inr ⟨g,rfl,hb⟩,g,cap,rfl⟩
   ·rw[<-f];simp[Builtin.append_]
   ·unfold jL;rw[s,D];exact⟨d.1,.inr ⟨g,cap,A,rfl,az _,hg,L⟩⟩
structure PushedL(w w':Wd)(v v':Vl)(xs:List Nat)(x:Nat):Prop where
 pl:jL w' v' (xs ++ [x])
 kp:Kt (fun b=>v.ownBlock=some b) w w'
 ob:v'.ownBlock=v.ownBlock\/∃ r,v'.ownBlock=some r/\w.heap.size<=r
 sl:∃ g cap,v'=.slice (some ⟨g,0,none⟩) (xs.length+1) cap
abbrev uO(bS s m:Nat)(v:Vl):Obj:=.cells #[.int .u64 bS,.pointer (some ⟨s,0,none⟩),.pointer (some ⟨m,0,none⟩),v] 134 (0,0)
theorem LT{i:Array Oper}{o:Oper}{a:Act}{w:Wd}{K:Act->Wd->Prop}{Q:Exit->Act->Wd->Prop}{E:Prop}(q:o.guard=none)(s x:Operand)(m:o.op=Op.call { callee:=Callee.builtin Builtin.append,args:=#[s,x],argTypes:=#[132,132] }) (v:Vl) (l:List Nat) (n y b:Nat) (c0 c1 c2:Vl) (h:jL w v l) (t:l.length=n) (hl:n+1<=9)(hb:w.heap[b]?=some (.cells #[c0,c1,c2,v] 134 (0,0))) (ad:Addr) (c:Nat)(hs:a.eval s=v) (hx:a.eval x=.slice (some ad) 1 c) (ha:w.cell? (ad.add 0)=some (dE y))(hK:∀ j d g,Hd (PushedL w g v (.slice (some ⟨j,0,none⟩) (n+1) d) l y)->g.cell? ⟨b,3,none⟩=some v->g.frozen? ⟨b,3,none⟩=false->K (a.put o.dst (.slice (some ⟨j,0,none⟩) (n+1) d)) g):if Region.wanted o (yielded i a.tmps)=true then Oper.wp prog o a w K Q else E:=by
 have hw:Region.wanted o (yielded i a.tmps)=true:=by simp[Region.wanted,q]
 rw[ae hw];obtain⟨A,g,f,r,u,z,j,d,rfl⟩:=h.push w v l y (by omega) ad c ha;rw[t] at f r z;have f:=f o.type;have k:g.heap[b]?=some (.cells #[c0,c1,c2,v] 134 (0,0)):=(u.block b (lH hb) (fun e=>by obtain⟨cs,p⟩:=h.jd e;exact bX hb p (by decide) rfl)).trans hb
 unfold Oper.wp;simp[execOp,m,resolve,invoke,builtin,hs,hx,f,Result.andThen];exact hK j d g ⟨r,u,z,j,d,by rw[t]⟩ (by simp[World.cell?,k]) (by simp[World.frozen?,k])
theorem LZ{f:Array Oper}{o:Oper}{a:Act}{w:Wd}{K:Act->Wd->Prop}{Q:Exit->Act->Wd->Prop}{E:Prop}(h:o.guard=none)(m n:Nat)(g:o.op=Op.call { callee:=Callee.value (Operand.func 155),args:=#[.tmp m,.tmp n],argTypes:=#[77,22] }) (b s hd:Nat) (eN:hd<18446744073709551616) (v:Vl) (hc:w.cell? ⟨b,3,none⟩=some v)(k:a.eval (.tmp m)=.pointer (some ⟨s,0,none⟩)) (l:a.eval (.tmp n)=.int .u64 hd)(hK:∀ d c,Hd (M.ListAt d c s hd/\w.heap.size<=c)->Hd (Kt nO w d)->d.cell? ⟨b,3,none⟩=some v->K (a.put o.dst (.pointer (some ⟨c,0,none⟩))) d):if Region.wanted o (yielded f a.tmps)=true then Oper.wp prog o a w K Q else E:=by
 have hw:Region.wanted o (yielded f a.tmps)=true:=by simp[Region.wanted,h]
 rw[ae hw];unfold Oper.wp;simp[Act.eval] at k l;simp[execOp,g,resolve,invoke,Deferred.ofValue,Act.eval,k,l,callFunc,Result.andThen,go_sem];rw[ac (by decide +kernel),ac (by decide +kernel)];show Calls prog 155 _ _ _
 refine(M.newList_any s hd eN w).mono ?_;rintro e d ⟨c,rfl,hL,j,i⟩;exact hK d c ⟨hL,i⟩ (show Kt nO w d from dI j) ((dI j).cell (fun x=>x) hc)
structure Ov(w W:Wd)(b bS s m k:Nat)(v:Vl)(L hd:Nat->Nat):Prop where
 hb:W.heap[b]?=some (uO bS s m v)
 pl:jL W v ((List.range k).map L)
 vs:v=.slice none 0 0/\k=0\/∃ g cap,v=.slice (some ⟨g,0,none⟩) k cap/\w.heap.size<=g
 ls:∀ j,j<k->M.ListAt W (L j) s (hd j)
 iL:∀ i j,i<k->j<k->L i=L j->i=j
 hL:∀ j,j<k->w.heap.size<=L j
 hw:w.heap.size<=b
 kp:Kt nO w W
theorem Ov.next{w W W2 W3 b bS s m k v v' L hd c}(h:Ov w W b bS s m k v L hd)(hS:M.ListAt W2 c s (hd k))(hc:W.heap.size<=c)(z:Kt nO W W2)(hp:PushedL W2 W3 v v' ((List.range k).map L) c):Ov w (W3.setCell ⟨b,3,none⟩ v') b bS s m (k+1) v' (fun j=>if j=k then c else L j) hd:=by
 have q:∀ r,v.ownBlock=some r->∃ cs,W.heap[r]?=some (.cells cs 135 (0,0)):=fun r A=>h.pl.jd A
 have F:Kt (fun x=>v.ownBlock=some x) W W3:=z.trans hp.kp (fun _ _ x=>x.elim) (fun _ _ x=>x);have l:W3.heap[b]?=some (uO bS s m v):=(F.block b (lH h.hb) (fun e=>by obtain⟨cs,a⟩:=q _ e;exact bX h.hb a (by decide) rfl)).trans h.hb
 have E:Kt (fun x=>x=b) W3 (W3.setCell ⟨b,3,none⟩ v'):=(Kt.refl (fun x=>x=b) W3).setCell (p:=⟨b,3,none⟩) rfl _;have f:∀ {C n},M.ListAt W2 C s n->M.ListAt (W3.setCell ⟨b,3,none⟩ v') C s n:=fun {C n} hs=>by
  have D:=hs.kept (fJ hp.kp) (fun e=>by obtain⟨cs,a⟩:=q _ e;have:=(z.block _ (lH a) (fun x=>x)).trans a;exact bX hs.hc this (by decide) rfl)
  exact D.kept (fJ E) (bX D.hc l (by decide))
 have y:(List.range (k + 1)).map (fun j=>if j=k then c else L j)=(List.range k).map L ++ [c]:=by
  rw[List.range_succ,List.map_append];congr 1;·exact List.map_congr_left (fun j o=>by rw[ac (by have:=List.mem_range.1 o;omega)])
  ·simp
 obtain⟨g,cap,d⟩:=hp.sl;rw[List.length_map,List.length_range] at d;have u:∀ j,j<k->L j<W.heap.size:=fun j o=>(h.ls j o).lt
 refine⟨(cD l 3 _).trans (by simp),?_,.inr ⟨g,cap,d,?_⟩,fun j o=>?_,fun i j hi o e=>?_,fun j o=>?_,h.hw,?_⟩;·rw[y];exact hp.pl.kept E (fun r A e=>by obtain⟨cs,a⟩:=hp.pl.jd A;exact bX a l (by decide) e)
 ·rcases hp.ob with e|⟨r,e,A⟩
  ·rw[d] at e;rcases h.vs with ⟨h0,_⟩|⟨I,t,h0,B⟩
   ·rw[h0] at e;simp[Value.ownBlock] at e
   ·rw[h0] at e;simp[Value.ownBlock] at e;omega
  ·rw[d] at e;simp[Value.ownBlock] at e;have:=h.kp.size;have:=z.size;omega
 ·by_cases e:j=k
  ·subst e;simp only[if_true];exact f hS
  ·simp only[e,if_false];exact f ((h.ls j (by omega)).dk (fJ z))
 ·by_cases J:i=k <;> by_cases G:j=k <;> simp only[J,G,if_true,if_false] at e
  ·omega
  ·have:=u j (by omega);omega
  ·have:=u i (by omega);omega
  ·exact h.iL i j (by omega) (by omega) e
 ·have hz:=h.kp.size;by_cases e:j=k
  ·simp only[e,if_true];omega
  ·simp only[e,if_false];exact h.hL j (by omega)
 ·refine(h.kp.trans (U:=nO) F (fun _ _ x=>x) (fun x hx e=>?_)).em (p:=⟨b,3,none⟩) (fun e=>absurd e (Nat.not_lt.2 h.hw)) _;rcases h.vs with ⟨h0,_⟩|⟨I,t,h0,B⟩
  ·rw[h0] at e;simp[Value.ownBlock] at e
  ·rw[h0] at e;simp[Value.ownBlock] at e;omega
abbrev fF(bS:Nat)(dl o:Int):Vl:=.agg #[.int .u64 bS,.int .i64 dl,.int .i64 o]
abbrev cK(bS:Nat)(dl o:Int):Obj:=.cells #[.int .u64 bS,.int .i64 dl,.int .i64 o] 24
def lC(w W:Wd)(b bS s m N:Nat)(hd:Nat->Nat):Prop:=∃ g cap L,Ov w W b bS s m N (.slice (some ⟨g,0,none⟩) N cap) L hd/\w.heap.size<=g
theorem zl7(bS s m N:Nat)(dl o:Int)(Z : 1<=N)(T:N<=9)(hs:List Nat)(hl:hs.length=N)(eN:∀ i,hs.getD i 0<18446744073709551616)(C t:Nat)(w:Wd)(G:w.heap[C]?=some (.cells (bT hs) 22 (0,0))):Calls prog 103 #[fF bS dl o,.pointer (some ⟨s,0,none⟩),.pointer (some ⟨m,0,none⟩),.slice (some ⟨C,0,none⟩) N t] w fun e R=>∃ b,e=.returned (.pointer (some ⟨b,0,none⟩))/\lC w R b bS s m N (fun i=>hs.getD i 0):=by
 have J:=aA G;have K:=aA hl;have A:=aA eN;have F:=aA (show Ov w ((w.alloc (cK bS dl o)).alloc (uO bS s m (.slice none 0 0))) (w.heap.size+1) bS s m 0 (.slice none 0 0) (fun _=>0) (fun i=>hs.getD i 0)from
  ⟨mB w _ _,World.ownsRow_nil _ _ _ _,.inl ⟨rfl,rfl⟩,fun j u=>absurd u (by omega),fun i j hi=>absurd hi (by omega),fun j u=>absurd u (by omega),by omega,((kz w).alloc _).alloc _⟩)
 clear G hl eN;go_enter func103,ntmps103;go_wp2_with fail;go_loopw [20] (fun i W=>∃ k:Nat,k<=N/\i=.int .i64 k/\Hd (∃ v L,Ov w W (w.heap.size+1) bS s m k v L (fun i=>hs.getD i 0))) (fun i _=>N-(intOf i).toNat)
 case atStart=>exact⟨0,by omega,rfl,⟨_,_,F.o⟩⟩
 case round=>
  clear F;obtain⟨k,hk,rfl,hR⟩:=hrel;obtain⟨v,L,hR⟩:=hR.o;have d:=aA hR;have c3:wr.cell? ⟨w.heap.size+1,3,none⟩=some v:=by simp[World.cell?,hR.hb]
  have kp:=hR.kp;clear hR;by_cases X:k<N
  ·have y:(k:Int)<N:=(by omega);obtain⟨hd,a⟩:=xe (hs.getD k 0);have Q:wr.cell? ⟨C,k,none⟩=some (.int .u64 hd):=by
    rw[a];refine kp.cell (fun x=>x) ?_;have:=K.o;simp[World.cell?,J.o,bT,show k<hs.length by omega]
   have f:hd<18446744073709551616:=(by rw[a];exact A.o k);have z:=aA a;clear a kp;go_wp2_with fail;go_region_law (first|(refine LZ rfl 29 30 rfl (w.heap.size+1) s hd f v c3 rfl rfl ?_;intro r c E l c3;have l:=aA (nT (kz wr).drew l.o);have B:=((kz r).alloc (.cells #[.pointer (some ⟨c,0,none⟩)] 135)).cell (fun x=>x) c3)|(refine LT rfl (.tmp 28) (.tmp 32) rfl v _ k c (w.heap.size+1) _ _ _ ((d.o.pl.kept l.o (fun _ _ x=>x)).kept ((kz r).alloc _) (fun _ _ x=>x)) (by simp) (by omega) (((l.o.alloc _).block (w.heap.size+1) (lH d.o.hb) (fun x=>x)).trans d.o.hb) ⟨r.heap.size,0,none⟩ 1 rfl rfl (by rw[Addr.add_lit];exact qL _ _ _) ?_;intro U n P p I V))
   all_goals
    have q:=aA (d.o.next (z.o▸(E.o.1.dk (fJ ((kz r).alloc _)))) E.o.2 (l.o.alloc _) p.o);generalize S:P.setCell ⟨w.heap.size+1,3,none⟩ (.slice (some ⟨U,0,none⟩) (k+1) n)=Y at q;clear S p I V B c3;go_wp2_with fail;exact⟨⟨k+1,by omega,by simp,⟨_,_,q.o⟩⟩,by simp[intOf];omega⟩
  ·have y:¬(k:Int)<N:=(by omega);have D:=aA (show lC w wr (w.heap.size+1) bS s m N (fun i=>hs.getD i 0)from by
    have e:k=N:=(by omega);have h:=d.o;rw[e] at h;rcases h.vs with ⟨_,h0⟩|⟨g,cap,h0,hg⟩
    ·omega
    ·rw[h0] at h;exact⟨g,cap,L,h,hg⟩)
   clear d kp;go_wp2_with fail;go_ret;exact⟨_,rfl,D.o⟩
theorem lC.bd{w W:Wd}{b bS s m N:Nat}{hd:Nat->Nat}(h:lC w W b bS s m N hd){a:Option Nat}{B:Bs}{R dl n o:Nat}{f:Nat->Nat}{mp:Mp}(A:N=o+1)(hs:M.SpA W s a bS R dl n f)(u:MpA W m B mp)(z:mp.o=o)(hR:R=4096*2 ^ o):∃ l c L,BdAt W ⟨b,s,a,m,B,l,c,L,bS,R,dl,n,o,fun _=>none⟩ ⟨f,mp,hd⟩/\w.heap.size<=b/\w.heap.size<=l/\(∀ k,k<=o->w.heap.size<=L k)/\Kt nO w W:=by
 obtain⟨g,cap,L,h,hg⟩:=h;subst A;refine⟨g,cap,L,⟨hs,u,fun k d=>h.ls k (Nat.lt_succ_of_le d),h.hb,?_,z,fun i j hi v e=>h.iL i j (Nat.lt_succ_of_le hi) (Nat.lt_succ_of_le v) e,hR⟩,h.hw,hg,fun k d=>h.hL k (Nat.lt_succ_of_le d),h.kp⟩;rcases h.pl.2 with ⟨h0,_⟩|⟨x,p,q,h0,y,t,D,E,F,C⟩
 ·cases h0
 ·obtain⟨rfl,rfl⟩:g=x/\cap=p:=by simpa using h0
  refine⟨q,t,fun k d=>?_⟩;have e:(q.toList.take (((List.range (o+1)).map L).length*1))[k]?=(((List.range (o+1)).map L).map dE)[k]?:=by rw[C]
  have r:k<o+1:=Nat.lt_succ_of_le d;rw[dc,ae (by simp;exact r)] at e;simpa [r,dE] using e
theorem LR(bS:Nat)(dl:Int)(o:Nat)(f:o<=8)(w:Wd):Calls prog 104 #[fF bS dl (o:Int)] w fun e a=>e=.returned (.int .i64 ((o:Int)+1))/\Kt nO w a:=by
 have b:¬(o:Int)<0:=by omega
 have g:¬(8:Int)<(o:Int):=by omega
 have c:max (o:Int) 0=(o:Int):=by omega
 have d:min (o:Int) 8=(o:Int):=by omega
 have K:=aA ((kz w).alloc (cK bS dl (o:Int)));go_enter func104,ntmps104;go_wp2_with fail;go_ret;exact⟨rfl,K.o⟩
theorem lC.bS{a w W:Wd}{b bS s m N:Nat}{hd:Nat->Nat}(h:lC w W b bS s m N hd)(k:Kt nO a w):lC a W b bS s m N hd:=by
 obtain⟨g,cap,L,h,hg⟩:=h;have hz:=k.size;refine⟨g,cap,L,⟨h.hb,h.pl,?_,h.ls,h.iL,fun j c=>an hz (h.hL j c),an hz h.hw,nT k h.kp⟩,by omega⟩;rcases h.vs with e|⟨i,f,d,l⟩
 ·exact .inl e
 ·exact .inr ⟨i,f,d,by omega⟩
theorem fG{w:Wd}{x bS:Nat}{dl o:Int}(h:w.heap[x]?=some (cK bS dl o)):w.cell? ⟨x,0,none⟩=some (.int .u64 bS)/\w.cell? ⟨x,1,none⟩=some (.int .i64 dl)/\w.cell? ⟨x,2,none⟩=some (.int .i64 o):=by refine⟨?_,?_,?_⟩ <;> simp[World.cell?,h]
theorem zl8(bS s m o:Nat)(dl:Int)(T:o<=8)(w:Wd):Calls prog 55 #[fF bS dl (o:Int),.pointer (some ⟨s,0,none⟩),.pointer (some ⟨m,0,none⟩)] w fun e c=>∃ b,e=.returned (.pointer (some ⟨b,0,none⟩))/\lC w c b bS s m (o+1) (fun _=>0):=by
 have S:=aA ((kz w).alloc (cK bS dl (o:Int)));have R:=aA (nH w (cK bS dl (o:Int)));obtain⟨N,D⟩:=xe (o+1);have f:(o:Int)+1=(N:Int):=by omega
 rw[<-D];have B:=aA (fun W=>LR bS dl o T W);rw[f] at B;have r:N<=9:=by omega
 have j : 1<=N:=by omega
 clear f D;go_enter func55,ntmps55;go_wp2_with fail;generalize w.alloc (cK bS dl (o:Int))=K at *;have t:=aA (show K.drew.heap[w.heap.size]?=some (cK bS dl (o:Int))from R.o);obtain⟨A,y,P⟩:=fG t.o;have X:=aA (nT S.o (kz K).drew);go_region_held3 (fun c=>c.cell? ⟨w.heap.size,0,none⟩=some (.int .u64 bS)/\c.cell? ⟨w.heap.size,1,none⟩=some (.int .i64 dl)/\c.cell? ⟨w.heap.size,2,none⟩=some (.int .i64 o)) (first|with_reducible exact⟨A,y,P⟩|with_reducible exact⟨C,z,L⟩|with_reducible exact⟨G,u,I⟩|with_reducible exact⟨E,v,F⟩) (first|(go_at_call 104;refine(B.o _).mono ?_;rintro e J ⟨rfl,g⟩;obtain⟨Y,l,d,a,k⟩:=wG N (by omega) J;have V:=aA (nT (nT X.o g) a);have p:=aA ((g.block _ (lH t.o) (fun x=>x)).trans t.o);have q:=aA ((a.block _ (lH p.o) (fun x=>x)).trans p.o);have Z:=aA d;obtain⟨C,z,L⟩:=fG p.o;obtain⟨G,u,I⟩:=fG q.o;clear g d a k)|(go_at_call 103;refine(zl7 bS s m N dl (o:Int) j r (eS N) (mS N) (fun i=>by rw[oZ];decide) J.heap.size N _ Z.o).mono ?_;rintro e Q ⟨b,rfl,n⟩;have O4:=aA (n.bS V.o);have U:=aA ((show Kt nO Y Q from by obtain⟨_,_,_,h,_⟩:=n;exact h.kp).block _ (lH q.o) (fun x=>x) |>.trans q.o);obtain⟨E,v,F⟩:=fG U.o;clear n))
 all_goals
  clear A y P C z L G u I E v F l;go_wp2_with fail;go_ret;refine⟨b,rfl,?_⟩;have h:=O4.o;rw[show(fun i=>(eS N).getD i 0)=fun _=>0 from funext fun i=>oZ N i] at h;exact h
end Go.Proofs.YtfmgnljlkdmndaaGreatDoor
