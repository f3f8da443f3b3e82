import Derived.Test.YtgjdmkfpmokkaaaGreatDoorZg
set_option maxRecDepth 1000000
set_option maxHeartbeats 80000000
namespace Go.Proofs.YtgjdmkfpmokkaaaGreatDoor
open Go.RowKit
set_option linter.unusedVariables false
def PLL(w:World)(v:Value)(xs:List Nat):Prop:=w.ownsRow 0 177 1 v xs.length (xs.map ptr)
theorem ziF:(Tryz.prog.info? 177).map (fun i=>(i.zero,i.size,i.bytes))=some (some (.pointer none),1,8):=by kernel_rfl
theorem zdo:∃ i,Tryz.prog.info? 177=some i∧i.zero=some (.pointer none)∧i.size=1∧i.bytes=8:=by
 obtain⟨i,hi,hzz⟩:=Option.map_eq_some_iff.1 ziF;simp only[Prod.mk.injEq] at hzz;exact⟨i,hi,hzz.1,hzz.2.1,hzz.2.2⟩
theorem PLL.blk{w v xs r}(h:PLL w v xs)(hr:v.ownBlock=some r):∃ cs,w.heap[r]?=some (.cells cs 177 (0,0)):=by
 rcases h.2 with ⟨rfl,_⟩|⟨g,cap,cur,rfl,hb,hg,h3⟩
 ·simp[Value.ownBlock] at hr
 ·simp[Value.ownBlock] at hr;subst hr;exact⟨_,hg⟩
theorem PLL.kept{w w' v xs}{S:Nat→Prop}(h:PLL w v xs)(k:Kt S w w')(hS:∀ r,v.ownBlock=some r→¬S r):PLL w' v xs:=by
 refine⟨h.1,?_⟩;rcases h.2 with h0|⟨g,cap,cur,rfl,hb,hg,h3⟩
 ·exact .inl h0
 ·exact .inr ⟨g,cap,cur,rfl,hb,(k.block g (lH hg) (hS g rfl)).trans hg,h3⟩
theorem PLL.push(w:World)(v:Value)(xs:List Nat)(x:Nat)(h:PLL w v xs)(hlen:xs.length+1≤9)(a:Addr)(c:Nat)(ha:w.cell? (a.add 0)=some (ptr x)):
  ∃ v' w',(∀ ty,(Builtin.append_ #[178,178] ty #[v,.slice (some a) 1 c]).run Tryz.prog w=.ok v' w')∧PLL w' v' (xs ++ [x])∧Kt (fun b=>v.ownBlock=some b) w w'∧
   (v'.ownBlock=v.ownBlock∨∃ r,v'.ownBlock=some r∧w.heap.size≤r)∧∃ g cap,v'=.slice (some ⟨g,0,none⟩) (xs.length+1) cap:=by
 obtain⟨i,hi,hz0,hz1,hz2⟩:=zdo;have hmax:xs.length+1≤maxLen:=by simp only[maxLen];omega
 have hnews:∀ j u,[ptr x][j]?=some u→w.cell? (a.add j)=some u:=by
  intro j u hj;match j,hj with
  | 0,hj=>simp at hj;subst hj;exact ha
  | j+1,hj=>simp at hj
 have hmap:(xs ++ [x]).map ptr=xs.map ptr ++ [ptr x]:=by simp
 have hl1:(xs ++ [x]).length=xs.length + 1:=by simp
 by_cases hr:∃ g cap,v=.slice (some ⟨g,0,none⟩) xs.length cap∧xs.length+1≤cap
 ·obtain⟨g,cap,rfl,hroom⟩:=hr;obtain⟨w',hrun,hown,hgr⟩:=run_append_fits (P:=Tryz.prog) w 0 178 0 177 i 1 Tryz.underlying178 hi hz1 g xs.length cap (xs.map ptr) h a 1 c [ptr x] rfl hnews (by simp[Value.oneCell',ptr]) hroom;refine⟨.slice (some ⟨g,0,none⟩) (xs.length+1) cap,w',fun ty=>?_,?_,zat hgr,.inl rfl,g,cap,rfl⟩
  ·rw[←hrun];simp[Builtin.append_]
  ·unfold PLL;rw[hmap,hl1];exact hown
 ·have key:∃ v' w',(Builtin.append_ #[178,178] 0 #[v,.slice (some a) 1 c]).run Tryz.prog w=.ok v' w'∧w'.ownsRow w.heap.size 177 1 v' (xs.length + 1) (xs.map ptr ++ [ptr x])∧Kt (fun b=>v.ownBlock=some b) w w':=by
   have ho:=h;rcases ho.2 with ⟨rfl,h0⟩|⟨g,cap,cur,rfl,hb,hg,hnc,hcm,hcs,htake⟩
   ·have:xs=[]:=List.eq_nil_of_length_eq_zero h0;subst this;obtain⟨v',w',hrun,hown,hgr,_⟩:=run_append_own (P:=Tryz.prog) w w.heap.size 178 0 177 i (.pointer none) 1 8 Tryz.underlying178 hi hz0 hz1 hz2 rfl (by decide) (.slice none 0 0) 0 [] (World.ownsRow_nil _ _ _ _) a 1 c [ptr x] rfl hnews (by simp[Value.oneCell',ptr]) hmax (by simp) (Nat.le_refl _);exact⟨v',w',hrun,hown,zat hgr⟩
   ·obtain⟨v',w',hrun,hown,hgr⟩:=run_append_arg_grows (P:=Tryz.prog) w 178 0 177 i (.pointer none) 1 8 Tryz.underlying178 hi hz0 hz1 hz2 rfl (by decide) ⟨g,0,none⟩ xs.length cap (xs.map ptr) (by simp) (fun j u hj=>by
     rw[Addr.add_lit,Nat.zero_add];rw[←htake,List.getElem?_take] at hj;split at hj
     ·simp only[World.cell?,hg];rw[←Array.getElem?_toList,hj];rfl
     ·cases hj) a 1 c [ptr x] rfl hnews (Nat.lt_of_not_le fun hle=>hr ⟨g,cap,rfl,hle⟩) hmax (by omega)
    exact⟨v',w',hrun,hown,(zat hgr).mono (fun _ _ e=>by cases e)⟩
  obtain⟨v',w',hrun,hown,hk⟩:=key;rcases hown.2 with ⟨_,h0⟩|⟨g,cap,cur,rfl,hb,hg,h3⟩
  ·omega
  ·refine⟨_,w',fun ty=>?_,?_,hk,.inr ⟨g,rfl,hb⟩,g,cap,rfl⟩
   ·rw[←hrun];simp[Builtin.append_]
   ·unfold PLL;rw[hmap,hl1];exact⟨hown.1,.inr ⟨g,cap,cur,rfl,Nat.zero_le _,hg,h3⟩⟩
structure PushedL(w w':World)(v v':Value)(xs:List Nat)(x:Nat):Prop where
 pl:PLL w' v' (xs ++ [x])
 kp:Kt (fun b=>v.ownBlock=some b) w w'
 ob:v'.ownBlock=v.ownBlock∨∃ r,v'.ownBlock=some r∧w.heap.size≤r
 sl:∃ g cap,v'=.slice (some ⟨g,0,none⟩) (xs.length+1) cap
abbrev bdO(base s m:Nat)(v:Value):Obj:=.cells #[.int .u64 (base:Int),.pointer (some ⟨s,0,none⟩),.pointer (some ⟨m,0,none⟩),v] 180 (0,0)
theorem zhd{ops:Array Oper}{o:Oper}{a:Act}{w:World}{K:Act→World→Prop}{Q:Exit→Act→World→Prop}{E:Prop}(hgd:o.guard=none)(s x:Operand)
  (hop:o.op=Op.call { callee:=Callee.builtin Builtin.append,args:=#[s,x],argTypes:=#[178,178] }) (v:Value) (xs:List Nat) (n y b:Nat) (c0 c1 c2:Value) (h:PLL w v xs) (hn:xs.length=n) (hl:n+1≤9)
  (hb:w.heap[b]?=some (.cells #[c0,c1,c2,v] 180 (0,0))) (ad:Addr) (c:Nat)
  (hs:a.eval s=v) (hx:a.eval x=.slice (some ad) 1 c) (ha:w.cell? (ad.add 0)=some (ptr y))
  (hK:∀ g' cap' w',Hid (PushedL w w' v (.slice (some ⟨g',0,none⟩) (n+1) cap') xs y)→w'.cell? ⟨b,3,none⟩=some v→w'.frozen? ⟨b,3,none⟩=false→K (a.put o.dst (.slice (some ⟨g',0,none⟩) (n+1) cap')) w'):
  if Region.wanted o (yielded ops a.tmps)=true then Oper.wp Tryz.prog o a w K Q else E:=by
 have hw:Region.wanted o (yielded ops a.tmps)=true:=by simp[Region.wanted,hgd]
 rw[if_pos hw];obtain⟨v',w',hrun,h1,h2,h3,g',cap',rfl⟩:=h.push w v xs y (by omega) ad c ha;rw[hn] at hrun h1 h3;have hrun:=hrun o.type;have hb':w'.heap[b]?=some (.cells #[c0,c1,c2,v] 180 (0,0)):=(h2.block b (lH hb) (fun e=>by
  obtain⟨cs,hcs⟩:=h.blk e;exact zag hb hcs (by decide) rfl)).trans hb
 unfold Oper.wp;simp[execOp,hop,resolve,invoke,builtin,hs,hx,hrun,Result.andThen];exact hK g' cap' w' ⟨h1,h2,h3,g',cap',by rw[hn]⟩ (by simp[World.cell?,hb']) (by simp[World.frozen?,hb'])
theorem zeW{ops:Array Oper}{o:Oper}{a:Act}{w:World}{K:Act→World→Prop}{Q:Exit→Act→World→Prop}{E:Prop}(hgd:o.guard=none)(x1 x2:Nat)
  (hop:o.op=Op.call { callee:=Callee.value (Operand.func 163),args:=#[.tmp x1,.tmp x2],argTypes:=#[53,24] }) (b s hd:Nat) (h64:hd<18446744073709551616) (v:Value) (hc:w.cell? ⟨b,3,none⟩=some v)
  (h1:a.eval (.tmp x1)=.pointer (some ⟨s,0,none⟩)) (h2:a.eval (.tmp x2)=.int .u64 (hd:Int))
  (hK:∀ W2 c,Hid (M.ListAt W2 c s hd∧w.heap.size≤c)→Hid (Kt nO w W2)→W2.cell? ⟨b,3,none⟩=some v→K (a.put o.dst (.pointer (some ⟨c,0,none⟩))) W2):
  if Region.wanted o (yielded ops a.tmps)=true then Oper.wp Tryz.prog o a w K Q else E:=by
 have hw:Region.wanted o (yielded ops a.tmps)=true:=by simp[Region.wanted,hgd]
 rw[if_pos hw];unfold Oper.wp;simp[Act.eval] at h1 h2;simp[execOp,hop,resolve,invoke,Deferred.ofValue,Act.eval,h1,h2,callFunc,Result.andThen,go_sem];rw[if_neg (by decide +kernel),if_neg (by decide +kernel)];show Calls Tryz.prog 163 _ _ _
 refine(M.newList_any s hd h64 w).mono ?_;rintro e W2 ⟨c,rfl,hL,hk,hc2⟩;exact hK W2 c ⟨hL,hc2⟩ (show Kt nO w W2 from toK hk) ((toK hk).cell (fun x=>x) hc)
structure Ov(w W:World)(b base s m k:Nat)(v:Value)(L hd:Nat→Nat):Prop where
 hb:W.heap[b]?=some (bdO base s m v)
 pl:PLL W v ((List.range k).map L)
 vs:v=.slice none 0 0∧k=0∨∃ g cap,v=.slice (some ⟨g,0,none⟩) k cap∧w.heap.size≤g
 ls:∀ j,j<k→M.ListAt W (L j) s (hd j)
 iL:∀ i j,i<k→j<k→L i=L j→i=j
 hL:∀ j,j<k→w.heap.size≤L j
 hw:w.heap.size≤b
 kp:Kt nO w W
theorem Ov.next{w W W2 W3 b base s m k v v' L hd c}(h:Ov w W b base s m k v L hd)(hS:M.ListAt W2 c s (hd k))(hc:W.heap.size≤c)(k2:Kt nO W W2)(hp:PushedL W2 W3 v v' ((List.range k).map L) c):
  Ov w (W3.setCell ⟨b,3,none⟩ v') b base s m (k+1) v' (fun j=>if j=k then c else L j) hd:=by
 have hvb:∀ r,v.ownBlock=some r→∃ cs,W.heap[r]?=some (.cells cs 177 (0,0)):=fun r hr=>h.pl.blk hr
 have kv:Kt (fun x=>v.ownBlock=some x) W W3:=k2.trans hp.kp (fun _ _ x=>x.elim) (fun _ _ x=>x);have hb3:W3.heap[b]?=some (bdO base s m v):=(kv.block b (lH h.hb) (fun e=>by
  obtain⟨cs,hcs⟩:=hvb _ e;exact zag h.hb hcs (by decide) rfl)).trans h.hb
 have ks:Kt (fun x=>x=b) W3 (W3.setCell ⟨b,3,none⟩ v'):=(Kt.refl (fun x=>x=b) W3).setCell (p:=⟨b,3,none⟩) rfl _;have set3:∀ {c' hd'},M.ListAt W2 c' s hd'→M.ListAt (W3.setCell ⟨b,3,none⟩ v') c' s hd':=fun {c' hd'} hs=>by
  have h3:=hs.kept (ofK hp.kp) (fun e=>by
   obtain⟨cs,hcs⟩:=hvb _ e;have:=(k2.block _ (lH hcs) (fun x=>x)).trans hcs;exact zag hs.hc this (by decide) rfl)
  exact h3.kept (ofK ks) (zag h3.hc hb3 (by decide))
 have hmap:(List.range (k + 1)).map (fun j=>if j=k then c else L j)=(List.range k).map L ++ [c]:=by
  rw[List.range_succ,List.map_append];congr 1
  ·exact List.map_congr_left (fun j hj=>by rw[if_neg (by have:=List.mem_range.1 hj;omega)])
  ·simp
 obtain⟨g,cap,hv'⟩:=hp.sl;rw[List.length_map,List.length_range] at hv';have ltL:∀ j,j<k→L j<W.heap.size:=fun j hj=>(h.ls j hj).lt
 refine⟨(zaa hb3 3 _).trans (by simp),?_,.inr ⟨g,cap,hv',?_⟩,fun j hj=>?_,fun i j hi hj e=>?_,fun j hj=>?_,h.hw,?_⟩
 ·rw[hmap];exact hp.pl.kept ks (fun r hr e=>by obtain⟨cs,hcs⟩:=hp.pl.blk hr;exact zag hcs hb3 (by decide) e)
 ·rcases hp.ob with e|⟨r,e,hr⟩
  ·rw[hv'] at e;rcases h.vs with ⟨h0,_⟩|⟨g2,cap2,h0,hg2⟩
   ·rw[h0] at e;simp[Value.ownBlock] at e
   ·rw[h0] at e;simp[Value.ownBlock] at e;omega
  ·rw[hv'] at e;simp[Value.ownBlock] at e;have:=h.kp.size;have:=k2.size;omega
 ·by_cases e:j=k
  ·subst e;simp only[if_true];exact set3 hS
  ·simp only[e,if_false];exact set3 ((h.ls j (by omega)).keep (ofK k2))
 ·by_cases e1:i=k <;> by_cases e2:j=k <;> simp only[e1,e2,if_true,if_false] at e
  ·omega
  ·have:=ltL j (by omega);omega
  ·have:=ltL i (by omega);omega
  ·exact h.iL i j (by omega) (by omega) e
 ·have hz:=h.kp.size;by_cases e:j=k
  ·simp only[e,if_true];omega
  ·simp only[e,if_false];exact h.hL j (by omega)
 ·refine(h.kp.trans (U:=nO) kv (fun _ _ x=>x) (fun x hx e=>?_)).setNew (p:=⟨b,3,none⟩) (fun e=>absurd e (Nat.not_lt.2 h.hw)) _;rcases h.vs with ⟨h0,_⟩|⟨g2,cap2,h0,hg2⟩
  ·rw[h0] at e;simp[Value.ownBlock] at e
  ·rw[h0] at e;simp[Value.ownBlock] at e;omega
abbrev cfgV(base:Nat)(lim o:Int):Value:=.agg #[.int .u64 (base:Int),.int .i64 lim,.int .i64 o]
abbrev cfgO(base:Nat)(lim o:Int):Obj:=.cells #[.int .u64 (base:Int),.int .i64 lim,.int .i64 o] 26
def OvP(w W:World)(b base s m N:Nat)(hd:Nat→Nat):Prop:=∃ g cap L,Ov w W b base s m N (.slice (some ⟨g,0,none⟩) N cap) L hd∧w.heap.size≤g
theorem zkg(base s m N:Nat)(lim o:Int)(hN : 1≤N)(hN9:N≤9)(hs:List Nat)(hl:hs.length=N)(h64:∀ i,hs.getD i 0<18446744073709551616)(g0 cp0:Nat)(w:World)(hh:w.heap[g0]?=some (.cells (wcs hs) 24 (0,0))):
  Calls Tryz.prog 137 #[cfgV base lim o,.pointer (some ⟨s,0,none⟩),.pointer (some ⟨m,0,none⟩),.slice (some ⟨g0,0,none⟩) N cp0] w fun e w'=>∃ b,e=.returned (.pointer (some ⟨b,0,none⟩))∧OvP w w' b base s m N (fun i=>hs.getD i 0):=by
 have HH:=hid hh;have HL:=hid hl;have H64:=hid h64;have B0:=hid (show Ov w ((w.alloc (cfgO base lim o)).alloc (bdO base s m (.slice none 0 0))) (w.heap.size+1) base s m 0 (.slice none 0 0) (fun _=>0) (fun i=>hs.getD i 0)from
  ⟨zbo w _ _,World.ownsRow_nil _ _ _ _,.inl ⟨rfl,rfl⟩,fun j hj=>absurd hj (by omega),fun i j hi=>absurd hi (by omega),fun j hj=>absurd hj (by omega),by omega,((Kt.refl nO w).alloc _).alloc _⟩)
 clear hh hl h64;go_enter Tryz.func137,Tryz.ntmps137;go_wp2_with fail;go_loopw [20] (fun i W=>∃ k:Nat,k≤N∧i=.int .i64 k∧Hid (∃ v L,Ov w W (w.heap.size+1) base s m k v L (fun i=>hs.getD i 0))) (fun i _=>N-(intOf i).toNat)
 case atStart=>exact⟨0,by omega,rfl,⟨_,_,B0.out⟩⟩
 case round=>
  clear B0;obtain⟨k,hk,rfl,hR⟩:=hrel;obtain⟨v,L,hR⟩:=hR.out;have HR:=hid hR;have c3:wr.cell? ⟨w.heap.size+1,3,none⟩=some v:=by simp[World.cell?,hR.hb]
  have kp:=hR.kp;clear hR;by_cases hlt:k<N
  ·have hki:(k:Int)<(N:Int):=(by omega);obtain⟨hd,hhd⟩:=xe (hs.getD k 0);have hck:wr.cell? ⟨g0,k,none⟩=some (.int .u64 (hd:Int)):=by
    rw[hhd];refine kp.cell (fun x=>x) ?_;have:=HL.out;simp[World.cell?,HH.out,wcs,show k<hs.length by omega]
   have h64k:hd<18446744073709551616:=(by rw[hhd];exact H64.out k);have HHD:=hid hhd;clear hhd kp;go_wp2_with fail;go_region_law (first|(refine zeW rfl 29 30 rfl (w.heap.size+1) s hd h64k v c3 rfl rfl ?_;intro W2 c HS K2 c3;have K2:=hid (nT (Kt.refl nO wr).drew K2.out);have c32:=((Kt.refl nO W2).alloc (.cells #[.pointer (some ⟨c,0,none⟩)] 177)).cell (fun x=>x) c3)|(refine zhd rfl (.tmp 28) (.tmp 32) rfl v _ k c (w.heap.size+1) _ _ _ ((HR.out.pl.kept K2.out (fun _ _ x=>x)).kept ((Kt.refl nO W2).alloc _) (fun _ _ x=>x)) (by simp) (by omega) (((K2.out.alloc _).block (w.heap.size+1) (lH HR.out.hb) (fun x=>x)).trans HR.out.hb) ⟨W2.heap.size,0,none⟩ 1 rfl rfl (by rw[Addr.add_lit];exact zcR _ _ _) ?_;intro g' cap' W3 HPU e2 z2))
   all_goals
    have HN2:=hid (HR.out.next (HHD.out▸(HS.out.1.keep (ofK ((Kt.refl nO W2).alloc _)))) HS.out.2 (K2.out.alloc _) HPU.out);generalize hW:W3.setCell ⟨w.heap.size+1,3,none⟩ (.slice (some ⟨g',0,none⟩) (k+1) cap')=W4 at HN2;clear hW HPU e2 z2 c32 c3;go_wp2_with fail;exact⟨⟨k+1,by omega,by simp,⟨_,_,HN2.out⟩⟩,by simp[intOf];omega⟩
  ·have hki:¬(k:Int)<(N:Int):=(by omega);have D:=hid (show OvP w wr (w.heap.size+1) base s m N (fun i=>hs.getD i 0)from by
    have e:k=N:=(by omega);have h:=HR.out;rw[e] at h;rcases h.vs with ⟨_,h0⟩|⟨g,cap,h0,hg⟩
    ·omega
    ·rw[h0] at h;exact⟨g,cap,L,h,hg⟩)
   clear HR kp;go_wp2_with fail;go_ret;exact⟨_,rfl,D.out⟩
theorem OvP.bd{w W:World}{b base s m N:Nat}{hd:Nat→Nat}(h:OvP w W b base s m N hd){a:Option Nat}{B:Bs}{R lim n o:Nat}{f:Nat→Nat}{mp:Mp}(hN:N=o+1)(hs:M.SpA W s a base R lim n f)(hm:MpA W m B mp)(ho:mp.o=o)(hR:R=4096*2 ^ o):
  ∃ l c L,BdAt W ⟨b,s,a,m,B,l,c,L,base,R,lim,n,o,fun _=>none⟩ ⟨f,mp,hd⟩∧w.heap.size≤b∧w.heap.size≤l∧(∀ k,k≤o→w.heap.size≤L k)∧Kt nO w W:=by
 obtain⟨g,cap,L,h,hg⟩:=h;subst hN;refine⟨g,cap,L,⟨hs,hm,fun k hk=>h.ls k (Nat.lt_succ_of_le hk),h.hb,?_,ho,fun i j hi hj e=>h.iL i j (Nat.lt_succ_of_le hi) (Nat.lt_succ_of_le hj) e,hR⟩,h.hw,hg,fun k hk=>h.hL k (Nat.lt_succ_of_le hk),h.kp⟩;rcases h.pl.2 with ⟨h0,_⟩|⟨g2,cap2,cur,h0,hb2,hg2,h3,h4,h5,h6⟩
 ·cases h0
 ·obtain⟨rfl,rfl⟩:g=g2∧cap=cap2:=by simpa using h0
  refine⟨cur,hg2,fun k hk=>?_⟩;have e:(cur.toList.take (((List.range (o+1)).map L).length*1))[k]?=(((List.range (o+1)).map L).map ptr)[k]?:=by rw[h6]
  have hk2:k<o+1:=Nat.lt_succ_of_le hk;rw[List.getElem?_take,if_pos (by simp;exact hk2)] at e;simpa [hk2,ptr] using e
theorem zhe(base:Nat)(lim:Int)(o:Nat)(ho:o≤8)(w:World):
  Calls Tryz.prog 138 #[cfgV base lim (o:Int)] w fun e w'=>e=.returned (.int .i64 ((o:Int)+1))∧Kt nO w w':=by
 have h1:¬(o:Int)<0:=by omega
 have h2:¬(8:Int)<(o:Int):=by omega
 have h3:max (o:Int) 0=(o:Int):=by omega
 have h4:min (o:Int) 8=(o:Int):=by omega
 have K:=hid ((Kt.refl nO w).alloc (cfgO base lim (o:Int)));go_enter Tryz.func138,Tryz.ntmps138;go_wp2_with fail;go_ret;exact⟨rfl,K.out⟩
theorem OvP.base{w0 w W:World}{b base s m N:Nat}{hd:Nat→Nat}(h:OvP w W b base s m N hd)(k:Kt nO w0 w):OvP w0 W b base s m N hd:=by
 obtain⟨g,cap,L,h,hg⟩:=h;have hz:=k.size;refine⟨g,cap,L,⟨h.hb,h.pl,?_,h.ls,h.iL,fun j hj=>Nat.le_trans hz (h.hL j hj),Nat.le_trans hz h.hw,nT k h.kp⟩,by omega⟩;rcases h.vs with e|⟨g',c',e1,e2⟩
 ·exact .inl e
 ·exact .inr ⟨g',c',e1,by omega⟩
theorem cfg3{w:World}{x base:Nat}{lim o:Int}(h:w.heap[x]?=some (cfgO base lim o)):w.cell? ⟨x,0,none⟩=some (.int .u64 (base:Int))∧w.cell? ⟨x,1,none⟩=some (.int .i64 lim)∧w.cell? ⟨x,2,none⟩=some (.int .i64 o):=by
 refine⟨?_,?_,?_⟩ <;> simp[World.cell?,h]
theorem zkh(base s m o:Nat)(lim:Int)(ho:o≤8)(w:World):
  Calls Tryz.prog 82 #[cfgV base lim (o:Int),.pointer (some ⟨s,0,none⟩),.pointer (some ⟨m,0,none⟩)] w fun e w'=>∃ b,e=.returned (.pointer (some ⟨b,0,none⟩))∧OvP w w' b base s m (o+1) (fun _=>0):=by
 have K0:=hid ((Kt.refl nO w).alloc (cfgO base lim (o:Int)));have X0:=hid (nH w (cfgO base lim (o:Int)));obtain⟨N,hN⟩:=xe (o+1);have hNi:(o:Int)+1=(N:Int):=by omega
 rw[←hN];have OR:=hid (fun W=>zhe base lim o ho W);rw[hNi] at OR;have hN9:N≤9:=by omega
 have hN1 : 1≤N:=by omega
 clear hNi hN;go_enter Tryz.func82,Tryz.ntmps82;go_wp2_with fail;generalize w.alloc (cfgO base lim (o:Int))=W1 at *;have X1:=hid (show W1.drew.heap[w.heap.size]?=some (cfgO base lim (o:Int))from X0.out);obtain⟨x0,x1,x2⟩:=cfg3 X1.out;have K1:=hid (nT K0.out (Kt.refl nO W1).drew);go_region_held3 (fun w'=>w'.cell? ⟨w.heap.size,0,none⟩=some (.int .u64 (base:Int))∧w'.cell? ⟨w.heap.size,1,none⟩=some (.int .i64 lim)∧w'.cell? ⟨w.heap.size,2,none⟩=some (.int .i64 (o:Int))) (first|with_reducible exact⟨x0,x1,x2⟩|with_reducible exact⟨y0,y1,y2⟩|with_reducible exact⟨z0,z1,z2⟩|with_reducible exact⟨t0,t1,t2⟩) (first|(go_at_call 138;refine(OR.out _).mono ?_;rintro e w2 ⟨rfl,hk⟩;obtain⟨w3,hmk,hg3,hk3,hs3⟩:=zgl N (by omega) w2;have K3:=hid (nT (nT K1.out hk) hk3);have X2:=hid ((hk.block _ (lH X1.out) (fun x=>x)).trans X1.out);have X3:=hid ((hk3.block _ (lH X2.out) (fun x=>x)).trans X2.out);have G3:=hid hg3;obtain⟨y0,y1,y2⟩:=cfg3 X2.out;obtain⟨z0,z1,z2⟩:=cfg3 X3.out;clear hk hg3 hk3 hs3)|(go_at_call 137;refine(zkg base s m N lim (o:Int) hN1 hN9 (zaN N) (zaX N) (fun i=>by rw[zcg];decide) w2.heap.size N _ G3.out).mono ?_;rintro e w4 ⟨b,rfl,hO⟩;have O4:=hid (hO.base K3.out);have X4:=hid ((show Kt nO w3 w4 from by obtain⟨_,_,_,h,_⟩:=hO;exact h.kp).block _ (lH X3.out) (fun x=>x) |>.trans X3.out);obtain⟨t0,t1,t2⟩:=cfg3 X4.out;clear hO))
 all_goals
  clear x0 x1 x2 y0 y1 y2 z0 z1 z2 t0 t1 t2 hmk;go_wp2_with fail;go_ret;refine⟨b,rfl,?_⟩;have h:=O4.out;rw[show(fun i=>(zaN N).getD i 0)=fun _=>0 from funext fun i=>zcg N i] at h;exact h
theorem zi9(m:Mp)(p o k:Int):(runM m p o k).n=m.n:=by unfold runM;split <;> rfl
theorem zfB(m:Mp)(k i:Int):(zbg m k i).n=m.n:=by unfold zbg;split <;> rfl
theorem zcp(x:Bx)(t:Bt)(p k:Nat):(zaw x t p k).m.n=t.m.n:=by
 unfold zaw;split
 ·exact(zfB _ _ _).trans (zi9 _ _ _ _)
 ·rfl
theorem zk9(x:Bx)(p to:Nat):∀ (d:Nat) (t:Bt),(cutL x p to d t).1.m.n=t.m.n
 | 0,t=>rfl
 | d+1,t=>by
  rw[cutL];split
  ·exact(zk9 x p to d _).trans (zcp _ _ _ _)
  ·exact zcp _ _ _ _
theorem zmW(x:Bx)(t:Bt)(p a b:Nat):(cutT x t p a b).m.n=t.m.n:=(zi9 _ _ _ _).trans (zk9 _ _ _ _ _)
theorem zja(x:Bx)(t:Bt)(q j k:Nat):(zgY x t q j k).m.n=t.m.n:=(zmW _ _ _ _ _).trans (zfB _ _ _)
theorem zjb(x:Bx):∀ (d:Nat) (t:Bt) (p k:Nat),(zbB x d t p k).1.m.n=t.m.n
 | 0,t,p,k=>rfl
 | d+1,t,p,k=>by
  rw[zbB];split
  ·split
   ·exact(zjb x d _ _ _).trans (zfB _ _ _)
   ·rfl
  ·rfl
def Sn(x:Bx)(t:Bt)(L:Nat→Nat→Prop):Prop:=∃ fr B,Sd x t fr B∧(∀ q i,¬B 9 q i)∧∀ q i,B 2 q i↔L q i
theorem Sn.apart{x t L}(s:Sn x t L){p k q i:Nat}(h1:L p k)(h2:L q i):(p=q∧k=i)∨p+2 ^ k≤q∨q+2 ^ i≤p:=by
 obtain⟨fr,B,s,_,hL⟩:=s;rcases s.ds _ _ _ _ _ _ ((hL p k).2 h1) ((hL q i).2 h2)with ⟨_,e⟩|e
 ·exact .inl e
 ·exact .inr e
theorem Sn.al{x t L}(s:Sn x t L){p k:Nat}(h:L p k):k≤x.o∧p%2 ^ k=0∧p+2 ^ k≤t.m.n:=by
 obtain⟨fr,B,s,_,hL⟩:=s;exact s.al _ _ _ ((hL p k).2 h)
theorem zgF(x:Bx)(t:Bt)(k:Nat):(∀ a,k≤a→a≤x.o→t.hd a=0)∨∃ j,j≤x.o∧Least x t k j:=by
 have main:∀ d,∀ a0,k≤a0→a0+d=x.o+1→(∀ a,k≤a→a<a0→t.hd a=0)→(∀ a,k≤a→a≤x.o→t.hd a=0)∨∃ j,j≤x.o∧Least x t k j:=by
  intro d;induction d with
  | zero=>exact fun a0 h1 h2 h3=>.inl fun a h4 h5=>h3 a h4 (by omega)
  | succ d ih=>
   intro a0 h1 h2 h3;by_cases e:t.hd a0=0
   ·refine ih (a0+1) (by omega) (by omega) fun a h4 h5=>?_
    by_cases ea:a=a0
    ·rw[ea];exact e
    ·exact h3 a h4 (by omega)
   ·exact .inr ⟨a0,by omega,h1,by omega,h3,fun _=>e⟩
 by_cases hk:k≤x.o
 ·exact main (x.o+1-k) k (Nat.le_refl _) (by omega) fun a h1 h2=>by omega
 ·exact .inl fun a h1 h2=>by omega
theorem Sn.live_iff{x t L}(s:Sn x t L)(p k:Nat)(hp:p<t.m.n):zb4 x t (ad x p) (k:Int)=true↔(L p k∧x.P p=none):=by
 obtain⟨fr,B,s,hN,hL⟩:=s;rw[s.live_iff hN p k hp,hL]
theorem Sn.n{x t L}(s:Sn x t L):t.m.n≤1024∧x.base+x.n≤9223372036854775808∧t.m.n*4096≤x.n:=by
 obtain⟨fr,B,s,hN,hL⟩:=s;exact⟨s.n1,s.b2,s.nb⟩
theorem GS.keptN{w0 W W':World}{e:TypeId}{size:Nat}{v:Value}{n:Nat}{xs:List Value}{S:Nat→Prop}(h:GS w0 W e size v n xs)(k:Kt S W W')(hS:∀ x,v.ownBlock=some x→¬S x)(h0:∀ x,S x→w0.heap.size≤x):GS w0 W' e size v n xs:=by
 refine⟨⟨h.own.1,?_⟩,h.new,h.kp.trans k (fun _ _ x=>x) (fun x hx e=>absurd (h0 x e) (by omega))⟩;rcases h.own.2 with h0|⟨g,cap,cur,rfl,hb,hg,h3⟩
 ·exact .inl h0
 ·exact .inr ⟨g,cap,cur,rfl,hb,(k.block g (lH hg) (hS g (by simp[Value.ownBlock]))).trans hg,h3⟩
theorem two5(w:World)(a b:Obj):Kt nO w ((w.alloc a).alloc b)∧((w.alloc a).alloc b).heap[w.heap.size]?=some a∧((w.alloc a).alloc b).heap[w.heap.size+1]?=some b:=
 ⟨((Kt.refl nO w).alloc _).alloc _,(((Kt.refl nO (w.alloc a)).alloc b).block _ (lH (nH w a)) (fun x=>x)).trans (nH w a),zbo w a b⟩
theorem BdAt.space{w w' x t}{a':Option Nat}{n':Nat}{f':Nat→Nat}(h:BdAt w x t)(k:Kt (M.own x.s x.a) w w')(hs:M.SpA w' x.s a' x.base x.R x.lim n' f'):BdAt w' { x with a:=a',n:=n' } { t with f:=f' }:=by
 have nb:=h.nb;have nl:=h.nl;refine⟨hs,h.mp.kept k (fun y hy e=>zcb h.mp h.sp hy e),fun i hi=>(h.ls i hi).kept (ofK k) (fun e=>zdH h.sp (h.ls i hi) e),(k.block _ (lH h.bs) (fun e=>nb (.inl e))).trans h.bs,?_,h.mo,h.iL,h.hR⟩;obtain⟨cs,hl,hc⟩:=h.lr;exact⟨cs,(k.block _ (lH hl) (fun e=>nl (.inl e))).trans hl,hc⟩
theorem BdAt.grow{w w' x t}{B':Bs}{m':Mp}(h:BdAt w x t)(k:Kt (mown x.m x.B t.m.o) w w')(hm:MpA w' x.m B' m')(ho:m'.o=t.m.o):BdAt w' { x with B:=B' } { t with m:=m' }:=by
 have nb:=h.nb;have nl:=h.nl;refine⟨h.sp.kept (ofK k) (fun y hy e=>zcb h.mp h.sp e hy),hm,fun i hi=>(h.ls i hi).kept (ofK k) (fun e=>zd7 h.mp (h.ls i hi) e),(k.block _ (lH h.bs) (fun e=>nb (.inr (.inl (h.mo▸e))))).trans h.bs,?_,ho.trans h.mo,h.iL,h.hR⟩;obtain⟨cs,hl,hc⟩:=h.lr;exact⟨cs,(k.block _ (lH hl) (fun e=>nl (.inr (.inl (h.mo▸e))))).trans hl,hc⟩
theorem zjc(m:Mp):(zak m).o=m.o:=by unfold zak;split <;> rfl
theorem aCL{w:World}{a:Addr}{v:Value}{o:Obj}(h:w.cell? a=some v):(w.alloc o).cell? a=some v:=((Kt.refl nO w).alloc o).cell (fun x=>x) h
theorem zjd{m:Mp}{o:Nat}(ho:m.o=o)(h:m.n+2 ^ o≤1024):(zak m).n=m.n+2 ^ o:=by
 subst ho;unfold zak;rw[if_neg (by show ¬ 1024<m.n+2 ^ m.o;omega)];rfl
theorem zdU{W:World}{y:Nat}{cs cs':Array Value}{a b:TypeId}{z z':Nat×Nat}(h:W.heap[y]?=some (.cells cs a z))(h':W.heap[y]?=some (.cells cs' b z')):a=b:=by
 rw[h] at h';injection h' with h'
 injection h' with _ h'
theorem zep{w x t}(h:BdAt w x t):(∀ k,k<x.o→∀ i,(t.m.wd k).getD i 0<2 ^ 64)∧∀ k,k<x.o→∀ j,t.m.n/2 ^ (k+1)≤j→bit (t.m.wd k) j=false:=
 ⟨fun k hk=>(zeE (h.mp.set k (by rw[h.mo];exact hk))).1,fun k hk=>(zeE (h.mp.set k (by rw[h.mo];exact hk))).2⟩
theorem Sn.top{x t L}(s:Sn x t L)(hn:zbx x t):t.m.n=topP x+2 ^ x.o∧topP x%2 ^ x.o=0:=by
 obtain⟨fr,B,s,hN,hL⟩:=s;obtain⟨r,hr⟩:=s.dv;obtain⟨h1,h2⟩:=hn;have h3:x.n/4096=t.m.n:=by omega
 have hr1 : 1≤r:=by
  rcases Nat.eq_zero_or_pos r with e|e
  ·rw[e,Nat.zero_mul] at hr;omega
  ·exact e
 have h4:r*2 ^ x.o=(r-1)*2 ^ x.o+2 ^ x.o:=by
  rw[show r=(r-1)+1 by omega,Nat.add_mul,Nat.one_mul];rfl
 have h5:topP x=(r-1)*2 ^ x.o:=by unfold topP;omega
 exact⟨by omega,by rw[h5];exact Nat.mul_mod_left _ _⟩
def zbh(ls:List (Nat×Nat))(pg od:Int):Bool:=ls.any fun r=>decide ((r.1:Int)=pg) && decide ((r.2:Int)=od)
def zam(ls:List (Nat×Nat))(pg:Nat):List (Nat×Nat):=ls.filter fun r=>decide (r.1≠pg)
def cutF(fr:Nat→List Nat)(pg frm tt:Nat):Nat→List Nat:=fun j=>if tt≤j∧j<frm then (pg+2 ^ j) :: fr j else fr j
theorem zje(fr:Nat→List Nat)(pg frm d:Nat)(h:d<frm):frU (cutF fr pg frm (d+1)) d ((pg+2 ^ d) :: cutF fr pg frm (d+1) d)=cutF fr pg frm d:=by
 funext j
 unfold frU cutF;by_cases e:j=d
 ·subst e;rw[if_pos rfl,if_neg (by omega),if_pos (by omega)]
 ·rw[if_neg e];by_cases e2:d≤j∧j<frm
  ·rw[if_pos (by omega),if_pos e2]
  ·rw[if_neg (by omega),if_neg e2]
theorem zkA(fr:Nat→List Nat)(pg frm d:Nat):cutF fr pg frm (d+1) d=fr d:=by
 unfold cutF;rw[if_neg (by omega)]
theorem zjf(fr:Nat→List Nat)(pg frm:Nat):cutF fr pg frm frm=fr:=by
 funext j
 unfold cutF;rw[if_neg (by omega)]
theorem zcq{ls:List (Nat×Nat)}{p k:Nat} : zbh ls (p:Int) (k:Int)=true↔(p,k)∈ls:=by
 unfold zbh;rw[List.any_eq_true];constructor
 ·rintro ⟨⟨a,b⟩,h1,h2⟩;rw[Bool.and_eq_true,decide_eq_true_iff,decide_eq_true_iff] at h2;obtain⟨h3,h4⟩:=h2;have h3:a=p:=Int.ofNat.inj h3;have h4:b=k:=Int.ofNat.inj h4;rw[h3,h4] at h1;exact h1
 ·intro h;exact⟨(p,k),h,by simp⟩
def zbt(o:Nat)(fr:Nat→List Nat)(p k:Nat):Nat→List Nat:=frU (zap o (o-k) fr p k).1 (zap o (o-k) fr p k).2.2 ((zap o (o-k) fr p k).2.1 :: (zap o (o-k) fr p k).1 (zap o (o-k) fr p k).2.2)
def Sf(x:Bx)(t:Bt)(fr:Nat→List Nat)(ls:List (Nat×Nat)):Prop:=∃ B,Sd x t fr B∧(∀ q i,¬B 9 q i)∧∀ q i,B 2 q i↔(q,i)∈ls
theorem Sf.sn{x t fr ls}(s:Sf x t fr ls):Sn x t (fun q i=>(q,i)∈ls):=by
 obtain⟨B,h⟩:=s;exact⟨fr,B,h⟩
def DF(x:Bx)(t:Bt)(w w':World)(fr:Nat→List Nat)(ls:List (Nat×Nat)):Prop:=∃ t',BdAt w' x t'∧Kt (bown x) w w'∧Sf x t' fr ls∧t'.m.n=t.m.n
theorem Sf.nd{x t fr ls}(s:Sf x t fr ls){k:Nat}(hk:k≤x.o):(fr k).Nodup:=by
 obtain⟨B,s,_⟩:=s;have:=(s.ch k hk).nodup;rw[List.nodup_iff_pairwise_ne,List.pairwise_map] at this;exact this.imp fun h e=>h (by rw[e])
theorem Sf.lt{x t fr ls}(s:Sf x t fr ls){k q:Nat}(hk:k≤x.o)(hq:q∈fr k):q+2 ^ k≤t.m.n:=by
 obtain⟨B,s,_⟩:=s;exact(s.al _ _ _ ((s.fi _ _).2 ⟨hk,hq⟩)).2.2
theorem Sf.len{x t fr ls}(s:Sf x t fr ls){k:Nat}(hk:k≤x.o):(fr k).length≤1024:=by
 have h1:=M.nodup_len t.m.n (fr k) (s.nd hk) (fun q hq=>by
  have:=s.lt hk hq;have hz : 0<2 ^ k:=Nat.pow_pos (by decide);omega)
 have:=s.sn.n.1;omega
theorem Sf.one{x t fr ls}(s:Sf x t fr ls){p k i:Nat}(h1:(p,k)∈ls)(h2:(p,i)∈ls):i=k:=by
 have hz : 0<2 ^ k:=Nat.pow_pos (by decide);have hz2 : 0<2 ^ i:=Nat.pow_pos (by decide);rcases s.sn.apart h1 h2 with e|e|e <;> omega
theorem zjg{ls:List (Nat×Nat)}{p q i:Nat} : (q,i)∈zam ls p↔(q,i)∈ls∧q≠p:=by
 unfold zam;rw[List.mem_filter];simp
theorem Sf.drop_iff{x t fr ls}(s:Sf x t fr ls){p k:Nat}(h:(p,k)∈ls)(q i:Nat):((q,i)∈ls∧¬(q=p∧i=k))↔(q,i)∈zam ls p:=by
 rw[zjg];constructor
 ·rintro ⟨h1,h2⟩;exact⟨h1,fun e=>h2 ⟨e,s.one h (e▸h1)⟩⟩
 ·rintro ⟨h1,h2⟩;exact⟨h1,fun e=>h2 e.1⟩
theorem zdx{ls:List (Nat×Nat)}{p k q i:Nat} : (q,i)∈ls ++ [(p,k)]↔(q,i)∈ls∨(q=p∧i=k):=by
 rw[List.mem_append,List.mem_singleton,Prod.mk.injEq]
theorem Sf.pout{x t fr ls}(s:Sf x t fr ls){p:Nat}(h:t.m.n≤p):x.P p=none:=by
 obtain⟨B,s,_⟩:=s
 cases hP:x.P p with
 | none=>rfl
 | some q=>
  have:=(s.al _ _ _ (s.vs p q hP).1).2.2;omega
theorem Sf.pfree{x t fr ls}(s:Sf x t fr ls){p k:Nat}(hk:k≤x.o)(h:p∈fr k):x.P p=none:=by
 obtain⟨B,s,_⟩:=s;exact s.pn9 ((s.fi p k).2 ⟨hk,h⟩) (by decide) p (Nat.le_refl _) (by have : 0<2 ^ k:=Nat.pow_pos (by decide);omega)
theorem Sf.pslab{x t fr ls}(s:Sf x t fr ls){p:Nat}{q:Pg}(h:x.P p=some q):(p,0)∈ls∧q.kd=4∧p<t.m.n∧t.m.pg p=q:=by
 obtain⟨B,s,_,hL⟩:=s;have hv:=s.vs p q h;have ha:=(s.al _ _ _ hv.1).2.2;have hp:=s.pg _ _ _ hv.1 (by decide) p (Nat.le_refl _) (by omega);rw[h,Option.getD_some] at hp;exact⟨(hL p 0).1 hv.1,hv.2,by omega,hp⟩
theorem zeR(x:Bx)(t:Bt)(fr:Nat→List Nat)(ls:List (Nat×Nat))(s:Sf x t fr ls)(k:Nat)(hk:k≤x.o)(w:World)(h:BdAt w x t):
  Calls Tryz.prog 55 #[.pointer (some ⟨x.b,0,none⟩),.int .i64 (k:Int)] w fun e w'=>
   (e=.returned (.tuple #[.int .u64 0,.int .i64 2])∧w'=w∧∀ j,k≤j→j≤x.o→fr j=[])∨
   (∃ j p l,k≤j∧j≤x.o∧(∀ i,k≤i→i<j→fr i=[])∧fr j=p :: l∧e=.returned (.tuple #[.int .u64 ((ad x p:Nat):Int),.int .i64 0])∧DF x t w w' (cutF (frU fr j (M.dropL (fr j) p)) p j k) (ls ++ [(p,k)])):=by
 obtain⟨B,s,hN,hL⟩:=s;rcases zgF x t k with hz|⟨j,hj,hl⟩
 ·refine(zdI x t k hk hz w h).mono ?_;rintro e w' ⟨rfl,rfl⟩;exact .inl ⟨rfl,rfl,fun j h1 h2=>(s.head j h2).1 (hz j h1 h2)⟩
 ·obtain⟨p,l,hfr⟩:∃ p l,fr j=p :: l:=by
   cases e:fr j with
   | nil=>exact absurd ((s.head j hj).2 e) (hl.lh hj)
   | cons p l=>exact⟨p,l,rfl⟩
  obtain⟨c1,c2,c3,c4,c5,c6,fr',B',c7,c8,c9,c10,_⟩:=s.take hN hl.lk hj hfr;refine(zga x t k j p hk hl hj c1 c2 c3 c4 c5 c6 w h).mono ?_;rintro e w' ⟨rfl,h1,h2⟩;have hfr':fr'=cutF (frU fr j (M.dropL (fr j) p)) p j k:=by
   funext i
   rw[c10];unfold cutF frU;by_cases e:k≤i∧i<j
   ·rw[if_pos e,if_pos e,if_neg (by omega)]
   ·rw[if_neg e,if_neg e]
  subst hfr';exact .inr ⟨j,p,l,hl.lk,hj,fun i h3 h4=>(s.head i (by omega)).1 (hl.lz i h3 h4),hfr,rfl,_,h1,h2,⟨B',c7,c8,fun q i=>by rw[c9,hL,zdx]⟩,zja _ _ _ _ _⟩
theorem zif(x:Bx)(t:Bt)(fr:Nat→List Nat)(ls:List (Nat×Nat))(s0:Sf x t fr ls)(hn:zbx x t)(hl:(topP x,x.o)∈ls)(hv:x.P (topP x)=none)(w:World)(h:BdAt w x t):
  Calls Tryz.prog 117 #[.pointer (some ⟨x.b,0,none⟩)] w fun e w'=>e=.returned (.int .i64 0)∧DF x t w w' (zbt x.o fr (topP x) x.o) (zam ls (topP x)):=by
 obtain⟨t1,t2⟩:=s0.sn.top hn;have hz : 0<2 ^ x.o:=Nat.pow_pos (by decide);have hlv:=(s0.sn.live_iff (topP x) x.o (by omega)).2 ⟨hl,hv⟩;have hdr:=s0.drop_iff hl;obtain⟨B,s,hN,hL⟩:=s0;obtain⟨pg1,_⟩:=zd6 s (topP x) (by omega);obtain⟨t',p',k',c1,c2,B',c3,c4,c5,e1,e2,_⟩:=s.give hN ((hL (topP x) x.o).2 hl) hv;subst e1 e2;rw[Nat.sub_self,zbB] at c1;have c1a:t'=t:=(congrArg Prod.fst c1).symm;have c1b:(zap x.o (x.o-x.o) fr (topP x) x.o).2.1=topP x:=by rw[Nat.sub_self];rfl
 have c1c:(zap x.o (x.o-x.o) fr (topP x) x.o).2.2=x.o:=by rw[Nat.sub_self];rfl
 subst c1a;rw[c1b,c1c] at c2;refine(zf1 x t' hn hlv (by rw[pg1];exact c2) w h).mono ?_;rintro e w' ⟨rfl,h1,h2⟩;rw[pg1] at h1;have c3':Sd x (zaw x t' (topP x) x.o) (zbt x.o fr (topP x) x.o) B':=by
  have:=c3;rw[c1b,c1c] at this;unfold zbt;rw[c1b,c1c];exact this
 exact⟨rfl,_,h1,h2,⟨B',c3',c4,fun q i=>by rw[c5,hL];exact hdr q i⟩,zcp _ _ _ _⟩
theorem zjh(x:Bx)(t:Bt)(fr:Nat→List Nat)(ls:List (Nat×Nat))(s0:Sf x t fr ls)(hm:zbx x t→topP x ∉ fr x.o)(w:World)(h:BdAt w x t):
  Calls Tryz.prog 131 #[.pointer (some ⟨x.b,0,none⟩)] w fun e w'=>e=.returned (.int .i64 9)∧Kt nO w w':=by
 refine zli x t ?_ w h;by_cases ht:zbx x t
 ·refine .inr ⟨ht,?_⟩;obtain⟨B,s,hN,hL⟩:=s0
  cases e:zeH x t (topP x) x.o with
  | false=>rfl
  | true=>exact absurd ((s.fi _ _).1 ((s.free_iff hN _ _ (Nat.le_refl _)).1 e)).2 (hm ht)
 ·exact .inl ht
def pgV(base P a:Nat):Int:=if base≤a∧a%4096=0∧a-base<4096*P then (((a-base)/4096:Nat):Int) else -1
def bigL(x:Bx)(ls:List (Nat×Nat)):List (Nat×Nat):=ls.filter fun r=>(x.P r.1).isNone
theorem zfC{x:Bx}{ls:List (Nat×Nat)}{p k:Nat} : (p,k)∈bigL x ls↔(p,k)∈ls∧x.P p=none:=by
 unfold bigL;rw[List.mem_filter];simp
theorem Sf.live_all{x t fr ls}(s0:Sf x t fr ls)(hb:x.base%4096=0)(hst:t.m.n*4096=x.n)(a:Nat)(ha:a<18446744073709551616)(k:Int):zb4 x t a k=zbh (bigL x ls) (pgV x.base t.m.n a) k:=by
 obtain⟨n1,n2,n3⟩:=s0.sn.n;unfold pgV;by_cases hc:x.base≤a∧a%4096=0∧a-x.base<4096*t.m.n
 ·rw[if_pos hc];obtain⟨p,hp⟩:=xe ((a-x.base)/4096);rw[←hp];have hap:a=ad x p:=by unfold ad;omega
  have hpn:p<t.m.n:=by omega
  rw[hap];by_cases hk : 0≤k
  ·obtain⟨kn,rfl⟩:=Int.eq_ofNat_of_zero_le hk;have:=s0.sn.live_iff p kn hpn;rw[←zfC (ls:=ls),←zcq] at this;exact Bool.eq_iff_iff.2 this
  ·have h1:zb4 x t (ad x p) k=false:=by
    unfold zb4;rw[show inR (x.o+1) k=false from decide_eq_false (by omega),Bool.and_false,Bool.false_and]
   rw[h1];symm
   cases e:zbh (bigL x ls) (p:Int) k with
   | false=>rfl
   | true=>
    obtain⟨r,_,h2⟩:=List.any_eq_true.1 e;rw[Bool.and_eq_true,decide_eq_true_iff,decide_eq_true_iff] at h2;omega
 ·rw[if_neg hc];have h1:zdz x t a=false:=decide_eq_false fun h=>by
   obtain⟨⟨h3,h4⟩,h5⟩:=h;unfold M.In at h5;have hoff:offP x a=a-x.base:=(by unfold offP;omega);rw[hoff] at h3 h4;omega
  unfold zb4;rw[h1,Bool.false_and,Bool.false_and];symm
  cases e:zbh (bigL x ls) (-1) k with
  | false=>rfl
  | true=>
   obtain⟨r,_,h2⟩:=List.any_eq_true.1 e;rw[Bool.and_eq_true,decide_eq_true_iff,decide_eq_true_iff] at h2;omega
theorem wordTo_congr(f g:Nat→Nat):∀ k,(∀ i,i<k→f i=g i)→M.wordTo f k=M.wordTo g k
 | 0,_=>rfl
 | k+1,h=>by rw[M.wordTo,M.wordTo,wordTo_congr f g k (fun i hi=>h i (by omega)),h k (by omega)]
theorem Sd.bytes{x t fr B}(s:Sd x t fr B){f':Nat→Nat}(h:∀ q j,B 0 q j→∀ i,i<16→f' (4096*q+i)=t.f (4096*q+i)):Sd x { t with f:=f' } fr B:=by
 refine⟨s.mo,s.o8,s.dv,s.nb,s.n1,s.b1,s.b2,s.tg,s.fi,s.al,s.ds,s.cv,s.pg,fun k hk=>(s.ch k hk).congr fun c hc=>?_,s.wl,s.bt,s.nm,s.vs⟩;obtain⟨q,hq,rfl⟩:=List.mem_map.1 hc;have hb:=h q k ((s.fi q k).2 ⟨hk,hq⟩);have e1:ad x q-x.base=4096*q:=by unfold ad;omega
 have e2:ad x q+8-x.base=4096*q+8:=by unfold ad;omega
 constructor
 ·show M.nx x.base f' (ad x q)=M.nx x.base t.f (ad x q)
  unfold M.nx M.word;rw[e1];exact wordTo_congr _ _ 8 fun i hi=>hb i (by omega)
 ·show M.pv x.base f' (ad x q)=M.pv x.base t.f (ad x q)
  unfold M.pv M.word;rw[e2];exact wordTo_congr _ _ 8 fun i hi=>by have:=hb (8+i) (by omega);rw[←Nat.add_assoc] at this;exact this
theorem Sf.grow{w x t fr ls}(s:Sf x t fr ls)(h:BdAt w x t)(x':Bx)(hP:x'.P=x.P)(ho:x'.o=x.o)(hb:x'.base=x.base)(hn:x'.n=x.n+x.R)(h63:x.base+x'.n≤9223372036854775808)(hg:t.m.n+2 ^ x.o≤1024):
  Sf x' ⟨M.more t.f x.n,zak t.m,t.hd⟩ fr (ls ++ [(t.m.n,x.o)]):=by
 obtain⟨hz,hp⟩:=zep h;have hR:=h.hR;obtain⟨B,s,hN,hL⟩:=s;have hnb:=s.nb;refine⟨plus B 2 t.m.n x.o,s.grow x' hP ho hb (by rw[hn,hR,Nat.add_mul,Nat.mul_comm (2 ^ x.o)];exact Nat.add_le_add_right hnb _) h63 hg _ (fun i hi=>?_) hz hp,?_,?_⟩
 ·unfold M.more;rw[if_pos (by omega)]
 ·rintro q i (h|⟨e,_⟩)
  ·exact hN q i h
  ·omega
 ·intro q i;rw[zdx];unfold plus;rw[hL];constructor
  ·rintro (h|⟨_,h⟩)
   ·exact .inl h
   ·exact .inr h
  ·rintro (h|h)
   ·exact .inl h
   ·exact .inr ⟨rfl,h⟩
theorem Sf.dropT{w x t fr ls}(s0:Sf x t fr ls)(h:BdAt w x t)(c:Nat)(hc:t.m.n=c+2 ^ x.o)(hl:(c,x.o)∈ls)(hv:x.P c=none)(x':Bx)(hP:x'.P=x.P)(ho:x'.o=x.o)(hb:x'.base=x.base)(hn:c*4096≤x'.n)(hn2:x'.n≤x.n):
  Sf x' ⟨t.f,zaq t.m c,t.hd⟩ fr (zam ls c):=by
 obtain⟨hz,hp⟩:=zep h;obtain⟨B,s,hN,hL⟩:=s0;have hb2:=s.b2;refine⟨zhQ B 2 c x.o,s.drop c hc ((hL c x.o).2 hl) hv x' hP ho hb hn (by omega) _ (fun i hi=>rfl) hz,fun q i h=>hN q i h.1,fun q i=>?_⟩;rw[←Sf.drop_iff ⟨B,s,hN,hL⟩ hl];unfold zhQ;rw[hL];constructor
 ·exact fun h=>⟨h.1,fun e=>h.2 ⟨rfl,e⟩⟩
 ·exact fun h=>⟨h.1,fun e=>h.2 e.2⟩
theorem Sf.fill{x t fr ls}(s:Sf x t fr ls){p k:Nat}(hl:(p,k)∈ls){f':Nat→Nat}(h:∀ i,¬(4096*p≤i∧i<4096*(p+2 ^ k))→f' i=t.f i):Sf x { t with f:=f' } fr ls:=by
 obtain⟨B,s,hN,hL⟩:=s;refine⟨B,s.bytes fun q j hb i hi=>h _ fun e=>?_,hN,hL⟩;have hz : 0<2 ^ j:=Nat.pow_pos (by decide);rcases s.ds _ _ _ _ _ _ hb ((hL p k).2 hl)with ⟨e1,_⟩|e1|e1 <;> omega
theorem Sf.words{x t fr ls}(s:Sf x t fr ls){k:Nat}(hk:k≤x.o):freeL x t k=(fr k).map (ad x):=by
 obtain⟨B,s,_⟩:=s;exact s.freeL k hk
theorem Sf.new(x:Bx)(f:Nat→Nat)(hP:x.P=fun _=>none)(ho:x.o≤8)(hb : 1≤x.base)(h63:x.base+x.n≤9223372036854775808):Sf x ⟨f,newM x.o,fun _=>0⟩ (fun _=>[]) []:=by
 refine⟨fun _ _ _=>False,⟨rfl,ho,⟨0,by simp[newM]⟩,by simp[newM],by simp[newM],hb,h63,fun _ _ _ h=>h.elim,fun p k=>⟨fun h=>h.elim,fun h=>by cases h.2⟩,fun _ _ _ h=>h.elim,fun _ _ _ _ _ _ h=>h.elim,fun i hi=>absurd hi (Nat.not_lt_zero _),fun _ _ _ h=>h.elim,fun k hk=>M.Chn.nil _ _ _,fun k hk=>?_,fun k hk i hi=>?_,fun k hk i h=>(by cases h.1),fun p q h=>(by rw[hP] at h;cases h)⟩,fun _ _ h=>h,fun _ _=>⟨fun h=>h.elim,fun h=>by cases h⟩⟩
 ·show 0=(0/2 ^ (k+1)+63)/64
  rw[Nat.zero_div]
 ·have hi:i<0/2 ^ (k+1):=hi;rw[Nat.zero_div] at hi;omega
theorem Sf.congr{x t fr fr' ls}(s:Sf x t fr ls)(h:∀ k,k≤x.o→fr' k=fr k):Sf x t fr' ls:=by
 obtain⟨B,s,hN,hL⟩:=s;refine⟨B,⟨s.mo,s.o8,s.dv,s.nb,s.n1,s.b1,s.b2,s.tg,fun p k=>?_,s.al,s.ds,s.cv,s.pg,fun k hk=>by rw[h k hk];exact s.ch k hk,s.wl,fun k hk=>?_,fun k hk=>?_,s.vs⟩,hN,hL⟩
 ·rw[s.fi];constructor
  ·exact fun e=>⟨e.1,by rw[h k e.1];exact e.2⟩
  ·exact fun e=>⟨e.1,by rw[←h k e.1];exact e.2⟩
 ·rw[h k (Nat.le_of_lt hk)];exact s.bt k hk
 ·rw[h k (Nat.le_of_lt hk)];exact s.nm k hk
abbrev plO(x:Bx):Obj:=.cells #[.pointer (some ⟨x.s,0,none⟩),.pointer (some ⟨x.m,0,none⟩),.pointer (some ⟨x.b,0,none⟩)] 58
structure Pol(w W:World)(lw:Nat)(x:Bx)(t:Bt):Prop where
 box:W.heap[lw]?=some (plO x)
 bd:BdAt W x t
 nw:∀ y,bown x y∨y=x.b∨y=x.l∨y=lw→w.heap.size≤y
 kp:Kt nO w W
theorem Pol.nlw{w W lw x t}(h:Pol w W lw x t):¬bown x lw:=by
 rintro (hx|hx|⟨k,hk,e⟩)
 ·obtain⟨cs,t',z,h1,h2⟩:=zby h.bd.sp hx;rw[h.box] at h1
  cases h1
  rcases h2 with e|e <;> exact absurd e (by decide)
 ·rw[←h.bd.mo] at hx;obtain⟨cs,t',z,h1,h2⟩:=zdd h.bd.mp hx;rw[h.box] at h1
  cases h1
  rcases h2 with e|e|e|e|e <;> exact absurd e (by decide)
 ·exact absurd e (zag h.box (h.bd.ls k hk).hc (by decide))
theorem Pol.call{w W W' lw x t t'}(h:Pol w W lw x t)(hb:BdAt W' x t')(k:Kt (bown x) W W'):Pol w W' lw x t':=
 ⟨(k.block _ (lH h.box) h.nlw).trans h.box,hb,h.nw,h.kp.trans k (fun _ _ e=>e) (fun y hy e=>absurd (h.nw y (.inl e)) (by omega))⟩
theorem Pol.keep{w W W' lw x t}(h:Pol w W lw x t)(k:Kt nO W W'):Pol w W' lw x t:=h.call (h.bd.keep k) (zar k)
theorem Pol.space{w W W' lw x t}{g' n':Nat}{f':Nat→Nat}(h:Pol w W lw x t)(k:Kt (M.own x.s x.a) W W')(hs:M.SpA W' x.s (some g') x.base x.R x.lim n' f')(hg:x.a=some g'∨W.heap.size≤g'):Pol w W' lw { x with a:=some g',n:=n' } { t with f:=f' }:=by
 refine⟨(k.block _ (lH h.box) (fun e=>h.nlw (.inl e))).trans h.box,h.bd.space k hs,?_,h.kp.trans k (fun _ _ e=>e) (fun y hy e=>absurd (h.nw y (.inl (.inl e))) (by omega))⟩;have hz:=h.kp.size;rintro y (hy|rfl|rfl|rfl)
 ·rcases hy with hy|hy|⟨k,hk,rfl⟩
  ·rcases hy with rfl|hy
   ·exact h.nw _ (.inl (.inl (.inl rfl)))
   ·have hy:some g'=some y:=hy
    cases hy
    rcases hg with e|e
    ·exact h.nw _ (.inl (.inl (.inr e)))
    ·omega
  ·exact h.nw _ (.inl (.inr (.inl hy)))
  ·exact h.nw _ (.inl (.inr (.inr ⟨k,hk,rfl⟩)))
 ·exact h.nw _ (.inr (.inl rfl))
 ·exact h.nw _ (.inr (.inr (.inl rfl)))
 ·exact h.nw _ (.inr (.inr (.inr rfl)))
theorem Pol.grow{w W W' lw x t}{B':Bs}{m':Mp}(h:Pol w W lw x t)(k:Kt (mown x.m x.B t.m.o) W W')(hm:MpA W' x.m B' m')(ho:m'.o=t.m.o)(hF:From W x.m x.B B' t.m.o):Pol w W' lw { x with B:=B' } { t with m:=m' }:=by
 refine⟨(k.block _ (lH h.box) (fun e=>h.nlw (.inr (.inl (h.bd.mo▸e))))).trans h.box,h.bd.grow k hm ho,?_,h.kp.trans k (fun _ _ e=>e) (fun y hy e=>absurd (h.nw y (.inl (.inr (.inl (h.bd.mo▸e))))) (by omega))⟩;have hz:=h.kp.size;rintro y (hy|rfl|rfl|rfl)
 ·rcases hy with hy|hy|⟨k,hk,rfl⟩
  ·exact h.nw _ (.inl (.inl hy))
  ·have hy:mown x.m B' x.o y:=hy;rw[←h.bd.mo] at hy;rcases hF y hy with e|e
   ·exact h.nw _ (.inl (.inr (.inl (h.bd.mo▸e))))
   ·omega
  ·exact h.nw _ (.inl (.inr (.inr ⟨k,hk,rfl⟩)))
 ·exact h.nw _ (.inr (.inl rfl))
 ·exact h.nw _ (.inr (.inr (.inl rfl)))
 ·exact h.nw _ (.inr (.inr (.inr rfl)))
theorem Pol.space0{w W W' lw x t}{n':Nat}{f':Nat→Nat}(h:Pol w W lw x t)(k:Kt (M.own x.s x.a) W W')(hs:M.SpA W' x.s x.a x.base x.R x.lim n' f'):Pol w W' lw { x with n:=n' } { t with f:=f' }:=
 ⟨(k.block _ (lH h.box) (fun e=>h.nlw (.inl e))).trans h.box,h.bd.space k hs,h.nw,h.kp.trans k (fun _ _ e=>e) (fun y hy e=>absurd (h.nw y (.inl (.inl e))) (by omega))⟩
theorem Pol.lt{w W lw x t}(h:Pol w W lw x t):∀ y,bown x y∨y=lw→y<W.heap.size:=by
 rintro y ((hx|hx|⟨j,hj,e⟩)|rfl)
 ·obtain⟨cs,t',z,h1,h2⟩:=zby h.bd.sp hx;exact lH h1
 ·rw[←h.bd.mo] at hx;obtain⟨cs,t',z,h1,h2⟩:=zdd h.bd.mp hx;exact lH h1
 ·rw[e];exact lH (h.bd.ls j hj).hc
 ·exact lH h.box
theorem Pol.c{w W lw x t}(h:Pol w W lw x t):W.cell? ⟨lw,0,none⟩=some (.pointer (some ⟨x.s,0,none⟩))∧W.cell? ⟨lw,1,none⟩=some (.pointer (some ⟨x.m,0,none⟩))∧W.cell? ⟨lw,2,none⟩=some (.pointer (some ⟨x.b,0,none⟩)):=by
 refine⟨?_,?_,?_⟩ <;> simp[World.cell?,h.box]
structure PO(w W:World)(lw:Nat)(x:Bx)(t:Bt)(fr:Nat→List Nat)(ls:List (Nat×Nat)):Prop where
 pl:Pol w W lw x t
 sf:Sf x t fr ls
 st:t.m.n*4096=x.n
 bm:x.base%4096=0
theorem PO.keep{w W W' lw x t fr ls}(h:PO w W lw x t fr ls)(k:Kt nO W W'):PO w W' lw x t fr ls:=⟨h.pl.keep k,h.sf,h.st,h.bm⟩
theorem PO.nums{w W lw x t fr ls}(h:PO w W lw x t fr ls):x.o≤8∧t.m.n≤1024∧1≤x.base∧x.base+x.n≤9223372036854775808∧(∃ r,t.m.n=r*2 ^ x.o∧r≤x.lim∧x.n=r*x.R)∧x.lim≤64∧x.lim*2 ^ x.o≤1024:=by
 obtain⟨n1,n2,n3⟩:=h.sf.sn.n;have hc:=h.pl.bd.sp.cfg;obtain⟨r,hr,hr2⟩:=h.pl.bd.sp.kn;have hR:=h.pl.bd.hR;have hst:=h.st;have hlr:=hc.lr;refine⟨h.pl.bd.o8,n1,hc.b1,n2,⟨r,?_,hr2,hr⟩,hc.l2,?_⟩
 ·rw[hr,hR] at hst;have e:r*(4096*2 ^ x.o)=(r*2 ^ x.o)*4096:=by rw[Nat.mul_comm 4096,Nat.mul_assoc]
  rw[e] at hst;exact Nat.eq_of_mul_eq_mul_right (by decide) hst
 ·rw[hR] at hlr;have e:x.lim*(4096*2 ^ x.o)=(x.lim*2 ^ x.o)*4096:=by rw[Nat.mul_comm 4096,Nat.mul_assoc]
  rw[e] at hlr;omega
theorem PO.top{w W lw x t fr ls}(h:PO w W lw x t fr ls):(t.m.n=0∧¬zbx x t)∨(2 ^ x.o≤t.m.n∧zbx x t∧topP x=t.m.n-2 ^ x.o):=by
 have hst:=h.st;by_cases h0:t.m.n=0
 ·exact .inl ⟨h0,fun e=>e.1 (by omega)⟩
 ·have ht:zbx x t:=⟨by omega,hst⟩;obtain⟨t1,_⟩:=h.sf.sn.top ht;exact .inr ⟨by omega,ht,by omega⟩
theorem PO.done{w W W' lw x t fr ls fr' ls'}(h:PO w W lw x t fr ls)(d:DF x t W W' fr' ls'):∃ t',PO w W' lw x t' fr' ls'∧t'.m.n=t.m.n∧Kt (bown x) W W':=by
 obtain⟨t',hb,hk,hs,hn⟩:=d;exact⟨t',⟨h.pl.call hb hk,hs,by rw[hn];exact h.st,h.bm⟩,hn,hk⟩
end Go.Proofs.YtgjdmkfpmokkaaaGreatDoor
