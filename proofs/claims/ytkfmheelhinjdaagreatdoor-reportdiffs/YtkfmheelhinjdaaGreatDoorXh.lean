import Derived.Test.YtkfmheelhinjdaaGreatDoorXg
set_option maxRecDepth 1000000
set_option maxHeartbeats 80000000
namespace Go.Proofs.YtkfmheelhinjdaaGreatDoor
open _root_.Go.Proofs.Tryz
open Go.RowKit
set_option linter.unusedVariables false
def iW(w:World)(v:Value)(xs:List Nat):Prop:=w.ownsRow 0 144 1 v xs.length (xs.map ptr)
theorem WL:(prog.info? 144).map (fun i=>(i.zero,i.size,i.bytes))=some (some (.pointer none),1,8):=by kernel_rfl
theorem zcW:∃ i,prog.info? 144=some i/\i.zero=some (.pointer none)/\i.size=1/\i.bytes=8:=by
 obtain⟨i,hi,hzz⟩:=Option.map_eq_some_iff.1 WL;simp only[Prod.mk.injEq] at hzz;exact⟨i,hi,hzz.1,hzz.2.1,hzz.2.2⟩
theorem iW.blk{w v xs r}(h:iW w v xs)(hr:v.ownBlock=some r):∃ cs,w.heap[r]?=some (.cells cs 144 (0,0)):=by
 rcases h.2 with ⟨rfl,_⟩|⟨g,cap,cur,rfl,hb,hg,h3⟩
 ·simp[Value.ownBlock] at hr
 ·simp[Value.ownBlock] at hr;subst hr;exact⟨_,hg⟩
theorem iW.kept{w w' v xs}{S:Nat->Prop}(h:iW w v xs)(k:Kt S w w')(hS:∀ r,v.ownBlock=some r->¬S r):iW w' v xs:=by
 refine⟨h.1,?_⟩;rcases h.2 with h0|⟨g,cap,cur,rfl,hb,hg,h3⟩
 ·exact .inl h0
 ·exact .inr ⟨g,cap,cur,rfl,hb,(k.block g (lH hg) (hS g rfl)).trans hg,h3⟩
theorem iW.push(w:World)(v:Value)(xs:List Nat)(x:Nat)(h:iW w v xs)(hlen:xs.length+1<=9)(a:Addr)(c:Nat)(ha:w.cell? (a.add 0)=some (ptr x)):
  ∃ v' w',(∀ ty,(Builtin.append_ #[141,141] ty #[v,.slice (some a) 1 c]).run prog w=.ok v' w')/\iW w' v' (xs ++ [x])/\Kt (fun b=>v.ownBlock=some b) w w'/\
   (v'.ownBlock=v.ownBlock\/∃ r,v'.ownBlock=some r/\w.heap.size<=r)/\∃ g cap,v'=.slice (some ⟨g,0,none⟩) (xs.length+1) cap:=by
 obtain⟨i,hi,hz0,hz1,hz2⟩:=zcW;have hmax:xs.length+1<=maxLen:=by simp only[maxLen];omega
 have hnews:∀ j u,[ptr x][j]?=some u->w.cell? (a.add j)=some u:=by
  intro j u hj;match j,hj with
  | 0,hj=>simp at hj;subst hj;exact ha
  | j+1,hj=>simp at hj
 have hmap:(xs ++ [x]).map ptr=xs.map ptr ++ [ptr x]:=by simp
 have hl1:(xs ++ [x]).length=xs.length + 1:=by simp
 by_cases hr:∃ g cap,v=.slice (some ⟨g,0,none⟩) xs.length cap/\xs.length+1<=cap
 ·obtain⟨g,cap,rfl,hroom⟩:=hr;obtain⟨w',hrun,hown,hgr⟩:=run_append_fits (P:=prog) w 0 141 0 144 i 1 Tryz.underlying141 hi hz1 g xs.length cap (xs.map ptr) h a 1 c [ptr x] rfl hnews (by simp[Value.oneCell',ptr]) hroom;refine⟨.slice (some ⟨g,0,none⟩) (xs.length+1) cap,w',fun ty=>?_,?_,nS hgr,.inl rfl,g,cap,rfl⟩
  ·rw[<-hrun];simp[Builtin.append_]
  ·unfold iW;rw[hmap,hl1];exact hown
 ·have key:∃ v' w',(Builtin.append_ #[141,141] 0 #[v,.slice (some a) 1 c]).run prog w=.ok v' w'/\w'.ownsRow w.heap.size 144 1 v' (xs.length + 1) (xs.map ptr ++ [ptr x])/\Kt (fun b=>v.ownBlock=some b) w w':=by
   have ho:=h;rcases ho.2 with ⟨rfl,h0⟩|⟨g,cap,cur,rfl,hb,hg,hnc,hcm,hcs,htake⟩
   ·have:xs=[]:=List.eq_nil_of_length_eq_zero h0;subst this;obtain⟨v',w',hrun,hown,hgr,_⟩:=run_append_own (P:=prog) w w.heap.size 141 0 144 i (.pointer none) 1 8 Tryz.underlying141 hi hz0 hz1 hz2 rfl (by decide) (.slice none 0 0) 0 [] (World.ownsRow_nil _ _ _ _) a 1 c [ptr x] rfl hnews (by simp[Value.oneCell',ptr]) hmax (by simp) (Nat.le_refl _);exact⟨v',w',hrun,hown,nS hgr⟩
   ·obtain⟨v',w',hrun,hown,hgr⟩:=run_append_arg_grows (P:=prog) w 141 0 144 i (.pointer none) 1 8 Tryz.underlying141 hi hz0 hz1 hz2 rfl (by decide) ⟨g,0,none⟩ xs.length cap (xs.map ptr) (by simp) (fun j u hj=>by
     rw[Addr.add_lit,Nat.zero_add];rw[<-htake,List.getElem?_take] at hj;split at hj
     ·simp only[World.cell?,hg];rw[<-Array.getElem?_toList,hj];rfl
     ·cases hj) a 1 c [ptr x] rfl hnews (Nat.lt_of_not_le fun hle=>hr ⟨g,cap,rfl,hle⟩) hmax (by omega)
    exact⟨v',w',hrun,hown,(nS hgr).mono (fun _ _ e=>by cases e)⟩
  obtain⟨v',w',hrun,hown,hk⟩:=key;rcases hown.2 with ⟨_,h0⟩|⟨g,cap,cur,rfl,hb,hg,h3⟩
  ·omega
  ·refine⟨_,w',fun ty=>?_,?_,hk,.inr ⟨g,rfl,hb⟩,g,cap,rfl⟩
   ·rw[<-hrun];simp[Builtin.append_]
   ·unfold iW;rw[hmap,hl1];exact⟨hown.1,.inr ⟨g,cap,cur,rfl,Nat.zero_le _,hg,h3⟩⟩
structure PushedL(w w':World)(v v':Value)(xs:List Nat)(x:Nat):Prop where
 pl:iW w' v' (xs ++ [x])
 kp:Kt (fun b=>v.ownBlock=some b) w w'
 ob:v'.ownBlock=v.ownBlock\/∃ r,v'.ownBlock=some r/\w.heap.size<=r
 sl:∃ g cap,v'=.slice (some ⟨g,0,none⟩) (xs.length+1) cap
abbrev vL(bS s m:Nat)(v:Value):Obj:=.cells #[.int .u64 bS,.pointer (some ⟨s,0,none⟩),.pointer (some ⟨m,0,none⟩),v] 143 (0,0)
theorem YX{ops:Array Oper}{o:Oper}{a:Act}{w:World}{K:Act->World->Prop}{Q:Exit->Act->World->Prop}{E:Prop}(hgd:o.guard=none)(s x:Operand)
  (hop:o.op=Op.call { callee:=Callee.builtin Builtin.append,args:=#[s,x],argTypes:=#[141,141] }) (v:Value) (xs:List Nat) (n y b:Nat) (c0 c1 c2:Value) (h:iW w v xs) (hn:xs.length=n) (hl:n+1<=9)
  (hb:w.heap[b]?=some (.cells #[c0,c1,c2,v] 143 (0,0))) (ad:Addr) (c:Nat)
  (hs:a.eval s=v) (hx:a.eval x=.slice (some ad) 1 c) (ha:w.cell? (ad.add 0)=some (ptr y))
  (hK:∀ g' cap' w',Hid (PushedL w w' v (.slice (some ⟨g',0,none⟩) (n+1) cap') xs y)->w'.cell? ⟨b,3,none⟩=some v->w'.frozen? ⟨b,3,none⟩=false->K (a.put o.dst (.slice (some ⟨g',0,none⟩) (n+1) cap')) w'):
  if Region.wanted o (yielded ops a.tmps)=true then Oper.wp prog o a w K Q else E:=by
 have hw:Region.wanted o (yielded ops a.tmps)=true:=by simp[Region.wanted,hgd]
 rw[if_pos hw];obtain⟨v',w',hrun,h1,h2,h3,g',cap',rfl⟩:=h.push w v xs y (by omega) ad c ha;rw[hn] at hrun h1 h3;have hrun:=hrun o.type;have hb':w'.heap[b]?=some (.cells #[c0,c1,c2,v] 143 (0,0)):=(h2.block b (lH hb) (fun e=>by
  obtain⟨cs,hcs⟩:=h.blk e;exact bT hb hcs (by decide) rfl)).trans hb
 unfold Oper.wp;simp[execOp,hop,resolve,invoke,builtin,hs,hx,hrun,Result.andThen];exact hK g' cap' w' ⟨h1,h2,h3,g',cap',by rw[hn]⟩ (by simp[World.cell?,hb']) (by simp[World.frozen?,hb'])
theorem zeQ{ops:Array Oper}{o:Oper}{a:Act}{w:World}{K:Act->World->Prop}{Q:Exit->Act->World->Prop}{E:Prop}(hgd:o.guard=none)(x1 x2:Nat)
  (hop:o.op=Op.call { callee:=Callee.value (Operand.func 152),args:=#[.tmp x1,.tmp x2],argTypes:=#[77,27] }) (b s hd:Nat) (h64:hd<18446744073709551616) (v:Value) (hc:w.cell? ⟨b,3,none⟩=some v)
  (h1:a.eval (.tmp x1)=.pointer (some ⟨s,0,none⟩)) (h2:a.eval (.tmp x2)=.int .u64 hd)
  (hK:∀ W2 c,Hid (M.ListAt W2 c s hd/\w.heap.size<=c)->Hid (Kt nO w W2)->W2.cell? ⟨b,3,none⟩=some v->K (a.put o.dst (.pointer (some ⟨c,0,none⟩))) W2):
  if Region.wanted o (yielded ops a.tmps)=true then Oper.wp prog o a w K Q else E:=by
 have hw:Region.wanted o (yielded ops a.tmps)=true:=by simp[Region.wanted,hgd]
 rw[if_pos hw];unfold Oper.wp;simp[Act.eval] at h1 h2;simp[execOp,hop,resolve,invoke,Deferred.ofValue,Act.eval,h1,h2,callFunc,Result.andThen,go_sem];rw[if_neg (by decide +kernel),if_neg (by decide +kernel)];show Calls prog 152 _ _ _
 refine(M.newList_any s hd h64 w).mono ?_;rintro e W2 ⟨c,rfl,hL,hk,hc2⟩;exact hK W2 c ⟨hL,hc2⟩ (show Kt nO w W2 from fQ hk) ((fQ hk).cell (fun x=>x) hc)
structure Ov(w W:World)(b bS s m k:Nat)(v:Value)(L hd:Nat->Nat):Prop where
 hb:W.heap[b]?=some (vL bS s m v)
 pl:iW W v ((List.range k).map L)
 vs:v=.slice none 0 0/\k=0\/∃ g cap,v=.slice (some ⟨g,0,none⟩) k cap/\w.heap.size<=g
 ls:∀ j,j<k->M.ListAt W (L j) s (hd j)
 iL:∀ i j,i<k->j<k->L i=L j->i=j
 hL:∀ j,j<k->w.heap.size<=L j
 hw:w.heap.size<=b
 kp:Kt nO w W
theorem Ov.next{w W W2 W3 b bS s m k v v' L hd c}(h:Ov w W b bS s m k v L hd)(hS:M.ListAt W2 c s (hd k))(hc:W.heap.size<=c)(k2:Kt nO W W2)(hp:PushedL W2 W3 v v' ((List.range k).map L) c):
  Ov w (W3.setCell ⟨b,3,none⟩ v') b bS s m (k+1) v' (fun j=>if j=k then c else L j) hd:=by
 have hvb:∀ r,v.ownBlock=some r->∃ cs,W.heap[r]?=some (.cells cs 144 (0,0)):=fun r hr=>h.pl.blk hr
 have kv:Kt (fun x=>v.ownBlock=some x) W W3:=k2.trans hp.kp (fun _ _ x=>x.elim) (fun _ _ x=>x);have hb3:W3.heap[b]?=some (vL bS s m v):=(kv.block b (lH h.hb) (fun e=>by
  obtain⟨cs,hcs⟩:=hvb _ e;exact bT h.hb hcs (by decide) rfl)).trans h.hb
 have ks:Kt (fun x=>x=b) W3 (W3.setCell ⟨b,3,none⟩ v'):=(Kt.refl (fun x=>x=b) W3).setCell (p:=⟨b,3,none⟩) rfl _;have set3:∀ {c' hd'},M.ListAt W2 c' s hd'->M.ListAt (W3.setCell ⟨b,3,none⟩ v') c' s hd':=fun {c' hd'} hs=>by
  have h3:=hs.kept (iP hp.kp) (fun e=>by
   obtain⟨cs,hcs⟩:=hvb _ e;have:=(k2.block _ (lH hcs) (fun x=>x)).trans hcs;exact bT hs.hc this (by decide) rfl)
  exact h3.kept (iP ks) (bT h3.hc hb3 (by decide))
 have hmap:(List.range (k + 1)).map (fun j=>if j=k then c else L j)=(List.range k).map L ++ [c]:=by
  rw[List.range_succ,List.map_append];congr 1
  ·exact List.map_congr_left (fun j hj=>by rw[if_neg (by have:=List.mem_range.1 hj;omega)])
  ·simp
 obtain⟨g,cap,hv'⟩:=hp.sl;rw[List.length_map,List.length_range] at hv';have ltL:∀ j,j<k->L j<W.heap.size:=fun j hj=>(h.ls j hj).lt
 refine⟨(heap_set hb3 3 _).trans (by simp),?_,.inr ⟨g,cap,hv',?_⟩,fun j hj=>?_,fun i j hi hj e=>?_,fun j hj=>?_,h.hw,?_⟩
 ·rw[hmap];exact hp.pl.kept ks (fun r hr e=>by obtain⟨cs,hcs⟩:=hp.pl.blk hr;exact bT hcs hb3 (by decide) e)
 ·rcases hp.ob with e|⟨r,e,hr⟩
  ·rw[hv'] at e;rcases h.vs with ⟨h0,_⟩|⟨g2,cap2,h0,hg2⟩
   ·rw[h0] at e;simp[Value.ownBlock] at e
   ·rw[h0] at e;simp[Value.ownBlock] at e;omega
  ·rw[hv'] at e;simp[Value.ownBlock] at e;have:=h.kp.size;have:=k2.size;omega
 ·by_cases e:j=k
  ·subst e;simp only[if_true];exact set3 hS
  ·simp only[e,if_false];exact set3 ((h.ls j (by omega)).keep (iP k2))
 ·by_cases e1:i=k <;> by_cases e2:j=k <;> simp only[e1,e2,if_true,if_false] at e
  ·omega
  ·have:=ltL j (by omega);omega
  ·have:=ltL i (by omega);omega
  ·exact h.iL i j (by omega) (by omega) e
 ·have hz:=h.kp.size;by_cases e:j=k
  ·simp only[e,if_true];omega
  ·simp only[e,if_false];exact h.hL j (by omega)
 ·refine(h.kp.trans (U:=nO) kv (fun _ _ x=>x) (fun x hx e=>?_)).setNew (p:=⟨b,3,none⟩) (fun e=>absurd e (Nat.not_lt.2 h.hw)) _;rcases h.vs with ⟨h0,_⟩|⟨g2,cap2,h0,hg2⟩
  ·rw[h0] at e;simp[Value.ownBlock] at e
  ·rw[h0] at e;simp[Value.ownBlock] at e;omega
abbrev gG(bS:Nat)(lim o:Int):Value:=.agg #[.int .u64 bS,.int .i64 lim,.int .i64 o]
abbrev dK(bS:Nat)(lim o:Int):Obj:=.cells #[.int .u64 bS,.int .i64 lim,.int .i64 o] 29
def lZ(w W:World)(b bS s m N:Nat)(hd:Nat->Nat):Prop:=∃ g cap L,Ov w W b bS s m N (.slice (some ⟨g,0,none⟩) N cap) L hd/\w.heap.size<=g
theorem WA(bS s m N:Nat)(lim o:Int)(hN : 1<=N)(hN9:N<=9)(hs:List Nat)(hl:hs.length=N)(h64:∀ i,hs.getD i 0<18446744073709551616)(g0 cp0:Nat)(w:World)(hh:w.heap[g0]?=some (.cells (bI hs) 27 (0,0))):
  Calls prog 117 #[gG bS lim o,.pointer (some ⟨s,0,none⟩),.pointer (some ⟨m,0,none⟩),.slice (some ⟨g0,0,none⟩) N cp0] w fun e w'=>∃ b,e=.returned (.pointer (some ⟨b,0,none⟩))/\lZ w w' b bS s m N (fun i=>hs.getD i 0):=by
 have HH:=aA hh;have HL:=aA hl;have H64:=aA h64;have B0:=aA (show Ov w ((w.alloc (dK bS lim o)).alloc (vL bS s m (.slice none 0 0))) (w.heap.size+1) bS s m 0 (.slice none 0 0) (fun _=>0) (fun i=>hs.getD i 0)from
  ⟨yY w _ _,World.ownsRow_nil _ _ _ _,.inl ⟨rfl,rfl⟩,fun j hj=>absurd hj (by omega),fun i j hi=>absurd hi (by omega),fun j hj=>absurd hj (by omega),by omega,((Kt.refl nO w).alloc _).alloc _⟩)
 clear hh hl h64;go_enter func117,ntmps117;go_wp2_with fail;go_loopw [20] (fun i W=>∃ k:Nat,k<=N/\i=.int .i64 k/\Hid (∃ v L,Ov w W (w.heap.size+1) bS s m k v L (fun i=>hs.getD i 0))) (fun i _=>N-(intOf i).toNat)
 case atStart=>exact⟨0,by omega,rfl,⟨_,_,B0.out⟩⟩
 case round=>
  clear B0;obtain⟨k,hk,rfl,hR⟩:=hrel;obtain⟨v,L,hR⟩:=hR.out;have HR:=aA hR;have c3:wr.cell? ⟨w.heap.size+1,3,none⟩=some v:=by simp[World.cell?,hR.hb]
  have kp:=hR.kp;clear hR;by_cases hlt:k<N
  ·have hki:(k:Int)<N:=(by omega);obtain⟨hd,hhd⟩:=xe (hs.getD k 0);have hck:wr.cell? ⟨g0,k,none⟩=some (.int .u64 hd):=by
    rw[hhd];refine kp.cell (fun x=>x) ?_;have:=HL.out;simp[World.cell?,HH.out,bI,show k<hs.length by omega]
   have h64k:hd<18446744073709551616:=(by rw[hhd];exact H64.out k);have HHD:=aA hhd;clear hhd kp;go_wp2_with fail;go_region_law (first|(refine zeQ rfl 29 30 rfl (w.heap.size+1) s hd h64k v c3 rfl rfl ?_;intro W2 c HS K2 c3;have K2:=aA (nT (Kt.refl nO wr).drew K2.out);have c32:=((Kt.refl nO W2).alloc (.cells #[.pointer (some ⟨c,0,none⟩)] 144)).cell (fun x=>x) c3)|(refine YX rfl (.tmp 28) (.tmp 32) rfl v _ k c (w.heap.size+1) _ _ _ ((HR.out.pl.kept K2.out (fun _ _ x=>x)).kept ((Kt.refl nO W2).alloc _) (fun _ _ x=>x)) (by simp) (by omega) (((K2.out.alloc _).block (w.heap.size+1) (lH HR.out.hb) (fun x=>x)).trans HR.out.hb) ⟨W2.heap.size,0,none⟩ 1 rfl rfl (by rw[Addr.add_lit];exact rJ _ _ _) ?_;intro g' cap' W3 HPU e2 z2))
   all_goals
    have HN2:=aA (HR.out.next (HHD.out▸(HS.out.1.keep (iP ((Kt.refl nO W2).alloc _)))) HS.out.2 (K2.out.alloc _) HPU.out);generalize hW:W3.setCell ⟨w.heap.size+1,3,none⟩ (.slice (some ⟨g',0,none⟩) (k+1) cap')=W4 at HN2;clear hW HPU e2 z2 c32 c3;go_wp2_with fail;exact⟨⟨k+1,by omega,by simp,⟨_,_,HN2.out⟩⟩,by simp[intOf];omega⟩
  ·have hki:¬(k:Int)<N:=(by omega);have D:=aA (show lZ w wr (w.heap.size+1) bS s m N (fun i=>hs.getD i 0)from by
    have e:k=N:=(by omega);have h:=HR.out;rw[e] at h;rcases h.vs with ⟨_,h0⟩|⟨g,cap,h0,hg⟩
    ·omega
    ·rw[h0] at h;exact⟨g,cap,L,h,hg⟩)
   clear HR kp;go_wp2_with fail;go_ret;exact⟨_,rfl,D.out⟩
theorem lZ.bd{w W:World}{b bS s m N:Nat}{hd:Nat->Nat}(h:lZ w W b bS s m N hd){a:Option Nat}{B:Bs}{R lim n o:Nat}{f:Nat->Nat}{mp:Mp}(hN:N=o+1)(hs:M.SpA W s a bS R lim n f)(hm:MpA W m B mp)(ho:mp.o=o)(hR:R=4096*2 ^ o):
  ∃ l c L,BdAt W ⟨b,s,a,m,B,l,c,L,bS,R,lim,n,o,fun _=>none⟩ ⟨f,mp,hd⟩/\w.heap.size<=b/\w.heap.size<=l/\(∀ k,k<=o->w.heap.size<=L k)/\Kt nO w W:=by
 obtain⟨g,cap,L,h,hg⟩:=h;subst hN;refine⟨g,cap,L,⟨hs,hm,fun k hk=>h.ls k (Nat.lt_succ_of_le hk),h.hb,?_,ho,fun i j hi hj e=>h.iL i j (Nat.lt_succ_of_le hi) (Nat.lt_succ_of_le hj) e,hR⟩,h.hw,hg,fun k hk=>h.hL k (Nat.lt_succ_of_le hk),h.kp⟩;rcases h.pl.2 with ⟨h0,_⟩|⟨g2,cap2,cur,h0,hb2,hg2,h3,h4,h5,h6⟩
 ·cases h0
 ·obtain⟨rfl,rfl⟩:g=g2/\cap=cap2:=by simpa using h0
  refine⟨cur,hg2,fun k hk=>?_⟩;have e:(cur.toList.take (((List.range (o+1)).map L).length*1))[k]?=(((List.range (o+1)).map L).map ptr)[k]?:=by rw[h6]
  have hk2:k<o+1:=Nat.lt_succ_of_le hk;rw[List.getElem?_take,if_pos (by simp;exact hk2)] at e;simpa [hk2,ptr] using e
theorem YW(bS:Nat)(lim:Int)(o:Nat)(ho:o<=8)(w:World):
  Calls prog 118 #[gG bS lim (o:Int)] w fun e w'=>e=.returned (.int .i64 ((o:Int)+1))/\Kt nO w w':=by
 have h1:¬(o:Int)<0:=by omega
 have h2:¬(8:Int)<(o:Int):=by omega
 have h3:max (o:Int) 0=(o:Int):=by omega
 have h4:min (o:Int) 8=(o:Int):=by omega
 have K:=aA ((Kt.refl nO w).alloc (dK bS lim (o:Int)));go_enter func118,ntmps118;go_wp2_with fail;go_ret;exact⟨rfl,K.out⟩
theorem lZ.bS{w0 w W:World}{b bS s m N:Nat}{hd:Nat->Nat}(h:lZ w W b bS s m N hd)(k:Kt nO w0 w):lZ w0 W b bS s m N hd:=by
 obtain⟨g,cap,L,h,hg⟩:=h;have hz:=k.size;refine⟨g,cap,L,⟨h.hb,h.pl,?_,h.ls,h.iL,fun j hj=>Nat.le_trans hz (h.hL j hj),Nat.le_trans hz h.hw,nT k h.kp⟩,by omega⟩;rcases h.vs with e|⟨g',c',e1,e2⟩
 ·exact .inl e
 ·exact .inr ⟨g',c',e1,by omega⟩
theorem gX{w:World}{x bS:Nat}{lim o:Int}(h:w.heap[x]?=some (dK bS lim o)):w.cell? ⟨x,0,none⟩=some (.int .u64 bS)/\w.cell? ⟨x,1,none⟩=some (.int .i64 lim)/\w.cell? ⟨x,2,none⟩=some (.int .i64 o):=by
 refine⟨?_,?_,?_⟩ <;> simp[World.cell?,h]
theorem SG(bS s m o:Nat)(lim:Int)(ho:o<=8)(w:World):
  Calls prog 78 #[gG bS lim (o:Int),.pointer (some ⟨s,0,none⟩),.pointer (some ⟨m,0,none⟩)] w fun e w'=>∃ b,e=.returned (.pointer (some ⟨b,0,none⟩))/\lZ w w' b bS s m (o+1) (fun _=>0):=by
 have K0:=aA ((Kt.refl nO w).alloc (dK bS lim (o:Int)));have X0:=aA (nH w (dK bS lim (o:Int)));obtain⟨N,hN⟩:=xe (o+1);have hNi:(o:Int)+1=(N:Int):=by omega
 rw[<-hN];have OR:=aA (fun W=>YW bS lim o ho W);rw[hNi] at OR;have hN9:N<=9:=by omega
 have hN1 : 1<=N:=by omega
 clear hNi hN;go_enter func78,ntmps78;go_wp2_with fail;generalize w.alloc (dK bS lim (o:Int))=W1 at *;have X1:=aA (show W1.drew.heap[w.heap.size]?=some (dK bS lim (o:Int))from X0.out);obtain⟨x0,x1,x2⟩:=gX X1.out;have K1:=aA (nT K0.out (Kt.refl nO W1).drew);go_region_held3 (fun w'=>w'.cell? ⟨w.heap.size,0,none⟩=some (.int .u64 bS)/\w'.cell? ⟨w.heap.size,1,none⟩=some (.int .i64 lim)/\w'.cell? ⟨w.heap.size,2,none⟩=some (.int .i64 o)) (first|with_reducible exact⟨x0,x1,x2⟩|with_reducible exact⟨y0,y1,y2⟩|with_reducible exact⟨z0,z1,z2⟩|with_reducible exact⟨t0,t1,t2⟩) (first|(go_at_call 118;refine(OR.out _).mono ?_;rintro e w2 ⟨rfl,hk⟩;obtain⟨w3,hmk,hg3,hk3,hs3⟩:=tK N (by omega) w2;have K3:=aA (nT (nT K1.out hk) hk3);have X2:=aA ((hk.block _ (lH X1.out) (fun x=>x)).trans X1.out);have X3:=aA ((hk3.block _ (lH X2.out) (fun x=>x)).trans X2.out);have G3:=aA hg3;obtain⟨y0,y1,y2⟩:=gX X2.out;obtain⟨z0,z1,z2⟩:=gX X3.out;clear hk hg3 hk3 hs3)|(go_at_call 117;refine(WA bS s m N lim (o:Int) hN1 hN9 (dP N) (lQ N) (fun i=>by rw[nM];decide) w2.heap.size N _ G3.out).mono ?_;rintro e w4 ⟨b,rfl,hO⟩;have O4:=aA (hO.bS K3.out);have X4:=aA ((show Kt nO w3 w4 from by obtain⟨_,_,_,h,_⟩:=hO;exact h.kp).block _ (lH X3.out) (fun x=>x) |>.trans X3.out);obtain⟨t0,t1,t2⟩:=gX X4.out;clear hO))
 all_goals
  clear x0 x1 x2 y0 y1 y2 z0 z1 z2 t0 t1 t2 hmk;go_wp2_with fail;go_ret;refine⟨b,rfl,?_⟩;have h:=O4.out;rw[show(fun i=>(dP N).getD i 0)=fun _=>0 from funext fun i=>nM N i] at h;exact h
end Go.Proofs.YtkfmheelhinjdaaGreatDoor
