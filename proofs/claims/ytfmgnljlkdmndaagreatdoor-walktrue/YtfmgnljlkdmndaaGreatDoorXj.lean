import Derived.Test.YtfmgnljlkdmndaaGreatDoorXh
import Derived.Test.YtfmgnljlkdmndaaGreatDoorXi
set_option maxRecDepth 1000000
set_option maxHeartbeats 80000000
namespace Go.Proofs.YtfmgnljlkdmndaaGreatDoor
open Tryz
open Go.RowKit
set_option linter.unusedVariables false
def jM(w:World)(v:Value)(xs:List Nat):Prop:=w.ownsRow 0 135 1 v xs.length (xs.map dG)
theorem zj2:(prog.info? 135).map (fun i=>(i.zero,i.size,i.bytes))=some (some (.pointer none),1,8):=by kernel_rfl
theorem zd8:∃ i,prog.info? 135=some i/\i.zero=some (.pointer none)/\i.size=1/\i.bytes=8:=by obtain⟨i,hi,a⟩:=Option.map_eq_some_iff.1 zj2;simp only[Prod.mk.injEq] at a;exact⟨i,hi,a.1,a.2.1,a.2.2⟩
theorem jM.blk{w v xs r}(h:jM w v xs)(a:v.ownBlock=some r):∃ cs,w.heap[r]?=some (.cells cs 135 (0,0)):=by
 rcases h.2 with ⟨rfl,_⟩|⟨g,cap,b,rfl,hb,hg,c⟩
 ·simp[Value.ownBlock] at a
 ·simp[Value.ownBlock] at a;subst a;exact⟨_,hg⟩
theorem jM.kept{w w' v xs}{S:Nat->Prop}(h:jM w v xs)(k:Kt S w w')(hS:∀ r,v.ownBlock=some r->¬S r):jM w' v xs:=by
 refine⟨h.1,?_⟩;rcases h.2 with h0|⟨g,cap,a,rfl,hb,hg,b⟩
 ·exact .inl h0
 ·exact .inr ⟨g,cap,a,rfl,hb,(k.block g (lH hg) (hS g rfl)).trans hg,b⟩
theorem jM.push(w:World)(v:Value)(k:List Nat)(x:Nat)(h:jM w v k)(I:k.length+1<=9)(a:Addr)(c:Nat)(ha:w.cell? (a.add 0)=some (dG x)):
  ∃ n m,(∀ E,(Builtin.append_ #[132,132] E #[v,.slice (some a) 1 c]).run prog w=.ok n m)/\jM m n (k ++ [x])/\Kt (fun b=>v.ownBlock=some b) w m/\
   (n.ownBlock=v.ownBlock\/∃ r,n.ownBlock=some r/\w.heap.size<=r)/\∃ g cap,n=.slice (some ⟨g,0,none⟩) (k.length+1) cap:=by
 obtain⟨i,hi,B,y,D⟩:=zd8;have q:k.length+1<=maxLen:=by simp only[maxLen];omega
 have l:∀ j u,[dG x][j]?=some u->w.cell? (a.add j)=some u:=by
  intro j u o;match j,o with
  | 0,o=>simp at o;subst o;exact ha
  | j+1,o=>simp at o
 have s:(k ++ [x]).map dG=k.map dG ++ [dG x]:=by simp
 have A:(k ++ [x]).length=k.length + 1:=by simp
 by_cases J:∃ g cap,v=.slice (some ⟨g,0,none⟩) k.length cap/\k.length+1<=cap
 ·obtain⟨g,cap,rfl,t⟩:=J;obtain⟨m,f,d,p⟩:=run_append_fits (P:=prog) w 0 132 0 135 i 1 Tryz.underlying132 hi y g k.length cap (k.map dG) h a 1 c [dG x] rfl l (by simp[Value.oneCell',dG]) t;refine⟨.slice (some ⟨g,0,none⟩) (k.length+1) cap,m,fun E=>?_,?_,lL p,.inl rfl,g,cap,rfl⟩
  ·rw[<-f];simp[Builtin.append_]
  ·unfold jM;rw[s,A];exact d
 ·have F:∃ n m,(Builtin.append_ #[132,132] 0 #[v,.slice (some a) 1 c]).run prog w=.ok n m/\m.ownsRow w.heap.size 135 1 n (k.length + 1) (k.map dG ++ [dG x])/\Kt (fun b=>v.ownBlock=some b) w m:=by
   have K:=h;rcases K.2 with ⟨rfl,h0⟩|⟨g,cap,C,rfl,hb,hg,L,S,Q,z⟩
   ·have:k=[]:=bq h0;subst this;obtain⟨n,m,f,d,p,_⟩:=run_append_own (P:=prog) w w.heap.size 132 0 135 i (.pointer none) 1 8 Tryz.underlying132 hi B y D rfl (by decide) (.slice none 0 0) 0 [] (World.ownsRow_nil _ _ _ _) a 1 c [dG x] rfl l (by simp[Value.oneCell',dG]) q (by simp) (aj _);exact⟨n,m,f,d,lL p⟩
   ·obtain⟨n,m,f,d,p⟩:=run_append_arg_grows (P:=prog) w 132 0 135 i (.pointer none) 1 8 Tryz.underlying132 hi B y D rfl (by decide) ⟨g,0,none⟩ k.length cap (k.map dG) (by simp) (fun j u o=>by
     rw[Addr.add_lit,Nat.zero_add];rw[<-z,List.getElem?_take] at o;split at o
     ·simp only[World.cell?,hg];rw[<-Array.getElem?_toList,o];rfl
     ·cases o) a 1 c [dG x] rfl l (Nat.lt_of_not_le fun G=>J ⟨g,cap,rfl,G⟩) q (by omega)
    exact⟨n,m,f,d,(lL p).mono (fun _ _ e=>by cases e)⟩
  obtain⟨n,m,f,d,R⟩:=F;rcases d.2 with ⟨_,h0⟩|⟨g,cap,C,rfl,hb,hg,N⟩
  ·omega
  ·refine⟨_,m,fun E=>?_,?_,R,.inr ⟨g,rfl,hb⟩,g,cap,rfl⟩
   ·rw[<-f];simp[Builtin.append_]
   ·unfold jM;rw[s,A];exact⟨d.1,.inr ⟨g,cap,C,rfl,az _,hg,N⟩⟩
structure PushedL(w w':World)(v v':Value)(xs:List Nat)(x:Nat):Prop where
 pl:jM w' v' (xs ++ [x])
 kp:Kt (fun b=>v.ownBlock=some b) w w'
 ob:v'.ownBlock=v.ownBlock\/∃ r,v'.ownBlock=some r/\w.heap.size<=r
 sl:∃ g cap,v'=.slice (some ⟨g,0,none⟩) (xs.length+1) cap
abbrev uL(bS s m:Nat)(v:Value):Obj:=.cells #[.int .u64 bS,.pointer (some ⟨s,0,none⟩),.pointer (some ⟨m,0,none⟩),v] 134 (0,0)
theorem JZ{k:Array Oper}{o:Oper}{a:Act}{w:World}{K:Act->World->Prop}{Q:Exit->Act->World->Prop}{E:Prop}(q:o.guard=none)(s x:Operand)
  (p:o.op=Op.call { callee:=Callee.builtin Builtin.append,args:=#[s,x],argTypes:=#[132,132] }) (v:Value) (l:List Nat) (n y b:Nat) (c0 c1 c2:Value) (h:jM w v l) (z:l.length=n) (hl:n+1<=9)
  (hb:w.heap[b]?=some (.cells #[c0,c1,c2,v] 134 (0,0))) (ad:Addr) (c:Nat)
  (hs:a.eval s=v) (hx:a.eval x=.slice (some ad) 1 c) (ha:w.cell? (ad.add 0)=some (dG y))
  (hK:∀ i d g,Hd (PushedL w g v (.slice (some ⟨i,0,none⟩) (n+1) d) l y)->g.cell? ⟨b,3,none⟩=some v->g.frozen? ⟨b,3,none⟩=false->K (a.put o.dst (.slice (some ⟨i,0,none⟩) (n+1) d)) g):
  if Region.wanted o (yielded k a.tmps)=true then Oper.wp prog o a w K Q else E:=by
 have hw:Region.wanted o (yielded k a.tmps)=true:=by simp[Region.wanted,q]
 rw[ae hw];obtain⟨A,g,f,r,t,u,i,d,rfl⟩:=h.push w v l y (by omega) ad c ha;rw[z] at f r u;have f:=f o.type;have j:g.heap[b]?=some (.cells #[c0,c1,c2,v] 134 (0,0)):=(t.block b (lH hb) (fun e=>by obtain⟨cs,m⟩:=h.blk e;exact bY hb m (by decide) rfl)).trans hb
 unfold Oper.wp;simp[execOp,p,resolve,invoke,builtin,hs,hx,f,Result.andThen];exact hK i d g ⟨r,t,u,i,d,by rw[z]⟩ (by simp[World.cell?,j]) (by simp[World.frozen?,j])
theorem KV{f:Array Oper}{o:Oper}{a:Act}{w:World}{K:Act->World->Prop}{Q:Exit->Act->World->Prop}{E:Prop}(i:o.guard=none)(m l:Nat)
  (g:o.op=Op.call { callee:=Callee.value (Operand.func 155),args:=#[.tmp m,.tmp l],argTypes:=#[77,22] }) (b s hd:Nat) (h64:hd<18446744073709551616) (v:Value) (hc:w.cell? ⟨b,3,none⟩=some v)
  (j:a.eval (.tmp m)=.pointer (some ⟨s,0,none⟩)) (k:a.eval (.tmp l)=.int .u64 hd)
  (hK:∀ d c,Hd (M.ListAt d c s hd/\w.heap.size<=c)->Hd (Kt nO w d)->d.cell? ⟨b,3,none⟩=some v->K (a.put o.dst (.pointer (some ⟨c,0,none⟩))) d):
  if Region.wanted o (yielded f a.tmps)=true then Oper.wp prog o a w K Q else E:=by
 have hw:Region.wanted o (yielded f a.tmps)=true:=by simp[Region.wanted,i]
 rw[ae hw];unfold Oper.wp;simp[Act.eval] at j k;simp[execOp,g,resolve,invoke,Deferred.ofValue,Act.eval,j,k,callFunc,Result.andThen,go_sem];rw[ac (by decide +kernel),ac (by decide +kernel)];show Calls prog 155 _ _ _
 refine(M.newList_any s hd h64 w).mono ?_;rintro e d ⟨c,rfl,hL,n,h⟩;exact hK d c ⟨hL,h⟩ (show Kt nO w d from dF n) ((dF n).cell (fun x=>x) hc)
structure Ov(w W:World)(b bS s m k:Nat)(v:Value)(L hd:Nat->Nat):Prop where
 hb:W.heap[b]?=some (uL bS s m v)
 pl:jM W v ((List.range k).map L)
 vs:v=.slice none 0 0/\k=0\/∃ g cap,v=.slice (some ⟨g,0,none⟩) k cap/\w.heap.size<=g
 ls:∀ j,j<k->M.ListAt W (L j) s (hd j)
 iL:∀ i j,i<k->j<k->L i=L j->i=j
 hL:∀ j,j<k->w.heap.size<=L j
 hw:w.heap.size<=b
 kp:Kt nO w W
theorem Ov.next{w W W2 W3 b bS s m k v v' L hd c}(h:Ov w W b bS s m k v L hd)(hS:M.ListAt W2 c s (hd k))(hc:W.heap.size<=c)(z:Kt nO W W2)(hp:PushedL W2 W3 v v' ((List.range k).map L) c):
  Ov w (W3.setCell ⟨b,3,none⟩ v') b bS s m (k+1) v' (fun j=>if j=k then c else L j) hd:=by
 have u:∀ r,v.ownBlock=some r->∃ cs,W.heap[r]?=some (.cells cs 135 (0,0)):=fun r A=>h.pl.blk A
 have D:Kt (fun x=>v.ownBlock=some x) W W3:=z.trans hp.kp (fun _ _ x=>x.elim) (fun _ _ x=>x);have l:W3.heap[b]?=some (uL bS s m v):=(D.block b (lH h.hb) (fun e=>by obtain⟨cs,a⟩:=u _ e;exact bY h.hb a (by decide) rfl)).trans h.hb
 have F:Kt (fun x=>x=b) W3 (W3.setCell ⟨b,3,none⟩ v'):=(Kt.refl (fun x=>x=b) W3).setCell (p:=⟨b,3,none⟩) rfl _;have f:∀ {C n},M.ListAt W2 C s n->M.ListAt (W3.setCell ⟨b,3,none⟩ v') C s n:=fun {C n} hs=>by
  have E:=hs.kept (fL hp.kp) (fun e=>by obtain⟨cs,a⟩:=u _ e;have:=(z.block _ (lH a) (fun x=>x)).trans a;exact bY hs.hc this (by decide) rfl)
  exact E.kept (fL F) (bY E.hc l (by decide))
 have y:(List.range (k + 1)).map (fun j=>if j=k then c else L j)=(List.range k).map L ++ [c]:=by
  rw[List.range_succ,List.map_append];congr 1
  ·exact List.map_congr_left (fun j o=>by rw[ac (by have:=List.mem_range.1 o;omega)])
  ·simp
 obtain⟨g,cap,d⟩:=hp.sl;rw[List.length_map,List.length_range] at d;have q:∀ j,j<k->L j<W.heap.size:=fun j o=>(h.ls j o).lt
 refine⟨(cF l 3 _).trans (by simp),?_,.inr ⟨g,cap,d,?_⟩,fun j o=>?_,fun i j hi o e=>?_,fun j o=>?_,h.hw,?_⟩
 ·rw[y];exact hp.pl.kept F (fun r A e=>by obtain⟨cs,a⟩:=hp.pl.blk A;exact bY a l (by decide) e)
 ·rcases hp.ob with e|⟨r,e,A⟩
  ·rw[d] at e;rcases h.vs with ⟨h0,_⟩|⟨G,t,h0,B⟩
   ·rw[h0] at e;simp[Value.ownBlock] at e
   ·rw[h0] at e;simp[Value.ownBlock] at e;omega
  ·rw[d] at e;simp[Value.ownBlock] at e;have:=h.kp.size;have:=z.size;omega
 ·by_cases e:j=k
  ·subst e;simp only[if_true];exact f hS
  ·simp only[e,if_false];exact f ((h.ls j (by omega)).keep (fL z))
 ·by_cases J:i=k <;> by_cases I:j=k <;> simp only[J,I,if_true,if_false] at e
  ·omega
  ·have:=q j (by omega);omega
  ·have:=q i (by omega);omega
  ·exact h.iL i j (by omega) (by omega) e
 ·have hz:=h.kp.size;by_cases e:j=k
  ·simp only[e,if_true];omega
  ·simp only[e,if_false];exact h.hL j (by omega)
 ·refine(h.kp.trans (U:=nO) D (fun _ _ x=>x) (fun x hx e=>?_)).setNew (p:=⟨b,3,none⟩) (fun e=>absurd e (Nat.not_lt.2 h.hw)) _;rcases h.vs with ⟨h0,_⟩|⟨G,t,h0,B⟩
  ·rw[h0] at e;simp[Value.ownBlock] at e
  ·rw[h0] at e;simp[Value.ownBlock] at e;omega
abbrev dM(bS:Nat)(lim o:Int):Value:=.agg #[.int .u64 bS,.int .i64 lim,.int .i64 o]
abbrev bJ(bS:Nat)(lim o:Int):Obj:=.cells #[.int .u64 bS,.int .i64 lim,.int .i64 o] 24
def lD(w W:World)(b bS s m N:Nat)(hd:Nat->Nat):Prop:=∃ g cap L,Ov w W b bS s m N (.slice (some ⟨g,0,none⟩) N cap) L hd/\w.heap.size<=g
theorem ZY(bS s m N:Nat)(lim o:Int)(Y : 1<=N)(R:N<=9)(hs:List Nat)(hl:hs.length=N)(h64:∀ i,hs.getD i 0<18446744073709551616)(B C:Nat)(w:World)(F:w.heap[B]?=some (.cells (bU hs) 22 (0,0))):
  Calls prog 103 #[dM bS lim o,.pointer (some ⟨s,0,none⟩),.pointer (some ⟨m,0,none⟩),.slice (some ⟨B,0,none⟩) N C] w fun e X=>∃ b,e=.returned (.pointer (some ⟨b,0,none⟩))/\lD w X b bS s m N (fun i=>hs.getD i 0):=by
 have T:=aA F;have S:=aA hl;have z:=aA h64;have G:=aA (show Ov w ((w.alloc (bJ bS lim o)).alloc (uL bS s m (.slice none 0 0))) (w.heap.size+1) bS s m 0 (.slice none 0 0) (fun _=>0) (fun i=>hs.getD i 0)from
  ⟨mU w _ _,World.ownsRow_nil _ _ _ _,.inl ⟨rfl,rfl⟩,fun j u=>absurd u (by omega),fun i j hi=>absurd hi (by omega),fun j u=>absurd u (by omega),by omega,((Kt.refl nO w).alloc _).alloc _⟩)
 clear F hl h64;go_enter func103,ntmps103;go_wp2_with fail;go_loopw [20] (fun i W=>∃ k:Nat,k<=N/\i=.int .i64 k/\Hd (∃ v L,Ov w W (w.heap.size+1) bS s m k v L (fun i=>hs.getD i 0))) (fun i _=>N-(intOf i).toNat)
 case atStart=>exact⟨0,by omega,rfl,⟨_,_,G.o⟩⟩
 case round=>
  clear G;obtain⟨k,Z,rfl,hR⟩:=hrel;obtain⟨v,L,hR⟩:=hR.o;have d:=aA hR;have c3:wr.cell? ⟨w.heap.size+1,3,none⟩=some v:=by simp[World.cell?,hR.hb]
  have kp:=hR.kp;clear hR;by_cases J:k<N
  ·have A:(k:Int)<N:=(by omega);obtain⟨hd,a⟩:=xe (hs.getD k 0);have P:wr.cell? ⟨B,k,none⟩=some (.int .u64 hd):=by
    rw[a];refine kp.cell (fun x=>x) ?_;have:=S.o;simp[World.cell?,T.o,bU,show k<hs.length by omega]
   have l:hd<18446744073709551616:=(by rw[a];exact z.o k);have t:=aA a;clear a kp;go_wp2_with fail;go_region_law (first|(refine KV rfl 29 30 rfl (w.heap.size+1) s hd l v c3 rfl rfl ?_;intro r c E n c3;have n:=aA (nT (Kt.refl nO wr).drew n.o);have y:=((Kt.refl nO r).alloc (.cells #[.pointer (some ⟨c,0,none⟩)] 135)).cell (fun x=>x) c3)|(refine JZ rfl (.tmp 28) (.tmp 32) rfl v _ k c (w.heap.size+1) _ _ _ ((d.o.pl.kept n.o (fun _ _ x=>x)).kept ((Kt.refl nO r).alloc _) (fun _ _ x=>x)) (by simp) (by omega) (((n.o.alloc _).block (w.heap.size+1) (lH d.o.hb) (fun x=>x)).trans d.o.hb) ⟨r.heap.size,0,none⟩ 1 rfl rfl (by rw[Addr.add_lit];exact qJ _ _ _) ?_;intro K p Q f U V))
   all_goals
    have q:=aA (d.o.next (t.o▸(E.o.1.keep (fL ((Kt.refl nO r).alloc _)))) E.o.2 (n.o.alloc _) f.o);generalize I:Q.setCell ⟨w.heap.size+1,3,none⟩ (.slice (some ⟨K,0,none⟩) (k+1) p)=W4 at q;clear I f U V y c3;go_wp2_with fail;exact⟨⟨k+1,by omega,by simp,⟨_,_,q.o⟩⟩,by simp[intOf];omega⟩
  ·have A:¬(k:Int)<N:=(by omega);have D:=aA (show lD w wr (w.heap.size+1) bS s m N (fun i=>hs.getD i 0)from by
    have e:k=N:=(by omega);have h:=d.o;rw[e] at h;rcases h.vs with ⟨_,h0⟩|⟨g,cap,h0,hg⟩
    ·omega
    ·rw[h0] at h;exact⟨g,cap,L,h,hg⟩)
   clear d kp;go_wp2_with fail;go_ret;exact⟨_,rfl,D.o⟩
theorem lD.bd{w W:World}{b bS s m N:Nat}{hd:Nat->Nat}(h:lD w W b bS s m N hd){a:Option Nat}{B:Bs}{R lim n o:Nat}{f:Nat->Nat}{mp:Mp}(y:N=o+1)(hs:M.SpA W s a bS R lim n f)(A:MpA W m B mp)(v:mp.o=o)(hR:R=4096*2 ^ o):
  ∃ l c L,BdAt W ⟨b,s,a,m,B,l,c,L,bS,R,lim,n,o,fun _=>none⟩ ⟨f,mp,hd⟩/\w.heap.size<=b/\w.heap.size<=l/\(∀ k,k<=o->w.heap.size<=L k)/\Kt nO w W:=by
 obtain⟨g,cap,L,h,hg⟩:=h;subst y;refine⟨g,cap,L,⟨hs,A,fun k p=>h.ls k (Nat.lt_succ_of_le p),h.hb,?_,v,fun i j hi u e=>h.iL i j (Nat.lt_succ_of_le hi) (Nat.lt_succ_of_le u) e,hR⟩,h.hw,hg,fun k p=>h.hL k (Nat.lt_succ_of_le p),h.kp⟩;rcases h.pl.2 with ⟨h0,_⟩|⟨z,q,d,h0,C,t,E,F,D,x⟩
 ·cases h0
 ·obtain⟨rfl,rfl⟩:g=z/\cap=q:=by simpa using h0
  refine⟨d,t,fun k p=>?_⟩;have e:(d.toList.take (((List.range (o+1)).map L).length*1))[k]?=(((List.range (o+1)).map L).map dG)[k]?:=by rw[x]
  have r:k<o+1:=Nat.lt_succ_of_le p;rw[List.getElem?_take,ae (by simp;exact r)] at e;simpa [r,dG] using e
theorem JY(bS:Nat)(lim:Int)(o:Nat)(g:o<=8)(w:World):
  Calls prog 104 #[dM bS lim (o:Int)] w fun e a=>e=.returned (.int .i64 ((o:Int)+1))/\Kt nO w a:=by
 have b:¬(o:Int)<0:=by omega
 have d:¬(8:Int)<(o:Int):=by omega
 have c:max (o:Int) 0=(o:Int):=by omega
 have f:min (o:Int) 8=(o:Int):=by omega
 have K:=aA ((Kt.refl nO w).alloc (bJ bS lim (o:Int)));go_enter func104,ntmps104;go_wp2_with fail;go_ret;exact⟨rfl,K.o⟩
theorem lD.bS{a w W:World}{b bS s m N:Nat}{hd:Nat->Nat}(h:lD w W b bS s m N hd)(k:Kt nO a w):lD a W b bS s m N hd:=by
 obtain⟨g,cap,L,h,hg⟩:=h;have hz:=k.size;refine⟨g,cap,L,⟨h.hb,h.pl,?_,h.ls,h.iL,fun j c=>an hz (h.hL j c),an hz h.hw,nT k h.kp⟩,by omega⟩;rcases h.vs with e|⟨d,f,i,l⟩
 ·exact .inl e
 ·exact .inr ⟨d,f,i,by omega⟩
theorem dI{w:World}{x bS:Nat}{lim o:Int}(h:w.heap[x]?=some (bJ bS lim o)):w.cell? ⟨x,0,none⟩=some (.int .u64 bS)/\w.cell? ⟨x,1,none⟩=some (.int .i64 lim)/\w.cell? ⟨x,2,none⟩=some (.int .i64 o):=by refine⟨?_,?_,?_⟩ <;> simp[World.cell?,h]
theorem ZX(bS s m o:Nat)(lim:Int)(S:o<=8)(w:World):
  Calls prog 55 #[dM bS lim (o:Int),.pointer (some ⟨s,0,none⟩),.pointer (some ⟨m,0,none⟩)] w fun e f=>∃ b,e=.returned (.pointer (some ⟨b,0,none⟩))/\lD w f b bS s m (o+1) (fun _=>0):=by
 have X:=aA ((Kt.refl nO w).alloc (bJ bS lim (o:Int)));have V:=aA (nH w (bJ bS lim (o:Int)));obtain⟨N,B⟩:=xe (o+1);have d:(o:Int)+1=(N:Int):=by omega
 rw[<-B];have v:=aA (fun W=>JY bS lim o S W);rw[d] at v;have l:N<=9:=by omega
 have n : 1<=N:=by omega
 clear d B;go_enter func55,ntmps55;go_wp2_with fail;generalize w.alloc (bJ bS lim (o:Int))=u at *;have j:=aA (show u.drew.heap[w.heap.size]?=some (bJ bS lim (o:Int))from V.o);obtain⟨y,G,D⟩:=dI j.o;have K1:=aA (nT X.o (Kt.refl nO u).drew);go_region_held3 (fun f=>f.cell? ⟨w.heap.size,0,none⟩=some (.int .u64 bS)/\f.cell? ⟨w.heap.size,1,none⟩=some (.int .i64 lim)/\f.cell? ⟨w.heap.size,2,none⟩=some (.int .i64 o)) (first|with_reducible exact⟨y,G,D⟩|with_reducible exact⟨K,P,z⟩|with_reducible exact⟨A,E,I⟩|with_reducible exact⟨L,J,F⟩) (first|(go_at_call 104;refine(v.o _).mono ?_;rintro e C ⟨rfl,p⟩;obtain⟨Y,k,c,a,t⟩:=wS N (by omega) C;have Z:=aA (nT (nT K1.o p) a);have g:=aA ((p.block _ (lH j.o) (fun x=>x)).trans j.o);have q:=aA ((a.block _ (lH g.o) (fun x=>x)).trans g.o);have U:=aA c;obtain⟨K,P,z⟩:=dI g.o;obtain⟨A,E,I⟩:=dI q.o;clear p c a t)|(go_at_call 103;refine(ZY bS s m N lim (o:Int) n l (eW N) (mS N) (fun i=>by rw[oZ];decide) C.heap.size N _ U.o).mono ?_;rintro e T ⟨b,rfl,r⟩;have R:=aA (r.bS Z.o);have Q:=aA ((show Kt nO Y T from by obtain⟨_,_,_,h,_⟩:=r;exact h.kp).block _ (lH q.o) (fun x=>x) |>.trans q.o);obtain⟨L,J,F⟩:=dI Q.o;clear r))
 all_goals
  clear y G D K P z A E I L J F k;go_wp2_with fail;go_ret;refine⟨b,rfl,?_⟩;have h:=R.o;rw[show(fun i=>(eW N).getD i 0)=fun _=>0 from funext fun i=>oZ N i] at h;exact h
end Go.Proofs.YtfmgnljlkdmndaaGreatDoor
