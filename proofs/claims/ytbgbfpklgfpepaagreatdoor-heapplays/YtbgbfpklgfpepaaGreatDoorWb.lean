import Derived.Test.YtbgbfpklgfpepaaGreatDoorXq
import Derived.Test.YtbgbfpklgfpepaaGreatDoorWa
import Derived.Maps.RangeWalk
set_option maxRecDepth 1000000
set_option maxHeartbeats 80000000
namespace Go.Proofs.YtbgbfpklgfpepaaGreatDoor
open Tryz
open Go.RowKit
open Go.MuLone
set_option linter.unusedVariables false
theorem GB.pushN{w0 W:World}{v:Value}{l:List (Nat×Nat)}(h:GB w0 W v l)(a s:Nat)(hn:l.length<=4000000):
  ∃ g cap w',(∀ t,(Builtin.append_ #[71,71] t #[v,.slice (some ⟨W.heap.size,0,none⟩) 1 1]).run prog (W.alloc (cJ a s))=.ok (.slice (some ⟨g,0,none⟩) (l.length + 1) cap) w')/\GB w0 w' (.slice (some ⟨g,0,none⟩) (l.length + 1) cap) (l ++ [(a,s)])/\Kt (fun b=>v.ownBlock=some b) W w'/\w0.heap.size<=g:=by
 obtain⟨i,hi,hzz⟩:=Option.map_eq_some_iff.1 xF;simp only[Prod.mk.injEq] at hzz;have ka:=(Kt.refl nO W).alloc (cJ a s);obtain⟨g,cap,w',h1,h2,h5,h6,h7⟩:=(GS.keep h ka).pushM 71 i (.agg #[.int .u64 0,.int .u64 0]) 16 Tryz.underlying71 hi hzz.1 hzz.2.1 hzz.2.2 rfl (by decide) ⟨W.heap.size,0,none⟩ 1 1 (by decide) [.int .u64 a,.int .u64 s] rfl (fun j u hj=>pX (cs:=#[.int .u64 a,.int .u64 s]) j u hj) (by simp[Value.oneCell']) (by simp only[maxLen];omega) (by omega);refine⟨g,cap,w',h1,?_,ka.trans h6 (fun _ _ e=>e.elim) (fun _ _ e=>e),h5⟩;show GS _ _ _ _ _ (l ++ [(a,s)]).length (dC (l ++ [(a,s)]))
 rw[nN,List.length_append];exact h2
theorem GB.pushLN{w0 W:World}{v u:Value}{l m:List (Nat×Nat)}(h:GB w0 W v l)(hu:W.ownsRow 0 74 2 u m.length (dC m))(hn:l.length<=4000000)(hm:m.length<=4000000):
  ∃ v' w',(∀ t,(Builtin.append_ #[71,71] t #[v,u]).run prog W=.ok v' w')/\GB w0 w' v' (l ++ m)/\∀ g,v'.ownBlock=some g->v.ownBlock=some g\/w0.heap.size<=g:=by
 obtain⟨i,hi,hzz⟩:=Option.map_eq_some_iff.1 xF;simp only[Prod.mk.injEq] at hzz;rcases hu.2 with ⟨rfl,h0⟩|⟨g,cap,cur,rfl,hb,hg,hnc,hcm,hcs,htake⟩
 ·obtain rfl:=List.eq_nil_of_length_eq_zero h0;refine⟨v,W,fun t=>?_,by rw[List.append_nil];exact h,fun g e=>.inl e⟩;exact run_append_owned_none W 0 71 t 74 i 2 Tryz.underlying71 hi v _ _ h.own
 ·rcases Nat.eq_zero_or_pos m.length with h0|h0
  ·obtain rfl:=List.eq_nil_of_length_eq_zero h0;refine⟨v,W,fun t=>?_,by rw[List.append_nil];exact h,fun g e=>.inl e⟩;obtain⟨va,vc,rfl⟩:=eR h.own;have hle:l.length<=vc:=by
    rcases h.own.2 with ⟨e,_⟩|⟨g',cap',cur',e,_,hg',hnc',_⟩
    ·simp at e;omega
    ·simp at e;omega
   exact run_append_nothing W 71 71 t 74 i Tryz.underlying71 hi va l.length vc hle _ (Src.ofSlice W Tryz.underlying71 ⟨g,0,none⟩ 0 cap [] (by simp) (fun j u hj=>by simp at hj) (fun u hu=>by simp at hu))
  ·obtain⟨g2,cap2,w',h1,h2,h5,h6,h7⟩:=GS.pushM h 71 i (.agg #[.int .u64 0,.int .u64 0]) 16 Tryz.underlying71 hi hzz.1 hzz.2.1 hzz.2.2 rfl (by decide) ⟨g,0,none⟩ cap m.length h0 (dC m) (CJ m) (fun j u hj=>by
     rw[Addr.add_lit,Nat.zero_add];rw[<-htake,List.getElem?_take] at hj;split at hj
     ·simp only[World.cell?,hg];rw[<-Array.getElem?_toList,hj];rfl
     ·cases hj) (CI m) (by simp only[maxLen];omega) (by omega)
   refine⟨_,w',h1,?_,fun g e=>.inr (by
    have e:g2=g:=(by simpa [Value.ownBlock] using e);omega)⟩
   show GS _ _ _ _ _ (l ++ m).length (dC (l ++ m))
   rw[nN,List.length_append];exact h2
theorem LP{a b gg n cap:Nat}(h:a=b)(hg:a<=gg):∀ g,(Value.slice (some ⟨gg,0,none⟩) n cap).ownBlock=some g->b<=g:=fun g e=>by
 have e:gg=g:=by simpa [Value.ownBlock] using e
 omega
section
variable {w W W':World} {hb sb lw:Nat} {x:Bx} {t:Bt} {fr:Nat->List Nat} {ls:List (Nat×Nat)} {S:Sb} {s:Int}
theorem LO(H:HW w W hb sb lw x t fr ls S 0):
  Calls prog 31 #[.pointer (some ⟨hb,0,none⟩)] W fun e w'=>∃ v,e=.returned v/\GB W w' v (hZ x t S t.m.n)/\∀ g,v.ownBlock=some g->W.heap.size<=g:=by
 have n2:=H.po.nums.2.1;have LK:=aA H.lock;have HI:=aA H.in;have SB:=aA (fun i (hi:i<=t.m.n)=>H.lvb i hi);have SK:=aA (fun i (hi:i<t.m.n)=>H.lk hi);have sL:=aA (fun i=>show hZ x t S (i + 1)=hZ x t S i ++ jL x t S i from rfl);have hsz:(cY W hb).heap.size=W.heap.size:=by simp
 obtain⟨n,hn⟩:=xe (t.m.n);have HH:=aA H;have HN:=aA hn;have z0:hZ x t S 0=[]:=rfl;rw[<-hn] at n2 SB SK ⊢;obtain⟨f,hf⟩:=xe (hZ x t S);rw[<-hf] at SB sL z0 ⊢;have AD:=aA (fun i (hi:i<n) W' (k:Kt nO (cY W hb) W')=>uJ (HI.out.keep k) i (by omega));have CH:=aA (fun i k (hc:S.c i=some k) (q:Pg) (hq:q.cl=(k:Int)) W' (kk:Kt nO (cY W hb) W')=>QZ (HI.out.keep kk) hc q hq);clear H hn hf;go_enter_defers func31,ntmps31;go_wp2_with fail;refine LK.out.mono ?_;rintro e w1 ⟨rfl,rfl⟩;have MP:=aA (bT HI.out.po.pl);have PGS:=aA (wA HI.out.po);rw[<-HN.out] at PGS;obtain⟨c0,c2,c3,c4,c5,c6⟩:=HI.out.c;go_wp2_with fail;refine MP.out.mono ?_;rintro e w4 ⟨rfl,h4⟩;replace h4:=h4.symm;subst h4;go_wp2_with fail;refine PGS.out.mono ?_;rintro e w4 ⟨rfl,h4⟩;replace h4:=h4.symm;subst h4;clear MP PGS c0 c2 c3 c4 c5 c6;go_wp2_with fail;go_loopw [3,22] (fun v c V=>∃ i:Nat,i<=n/\c=.int .i64 i/\Hid (GB (cY W hb) V v (f i)/\∀ g,v.ownBlock=some g->W.heap.size<=g)) (fun _ c _=>n-(intOf c).toNat)
 case atStart=>exact⟨0,Nat.zero_le _,rfl,aA ⟨by rw[z0];exact GS.nil _ _ _ _ (Kt.refl nO _),fun g e=>by simp[Value.ownBlock] at e⟩⟩
 case round=>
  rename_i v _;clear z0;obtain⟨i,hi,rfl,hG⟩:=hrel;have NW:=aA hG.out.2;replace hG:=aA hG.out.1;obtain⟨va,vc,rfl⟩:=eR hG.out.own;have hle:=SB.out i hi;by_cases hlt:i<n
  ·have hii:(i:Int)<n:=(by omega);have hin:i<t.m.n:=(by rw[<-HN.out];exact hlt);have HJ:=aA (HI.out.keep hG.out.kp);have MP:=aA (bT HJ.out.po.pl);have AT:=aA (jR x.m x.B t.m (i:Int) wr HJ.out.po.pl.bd.mp);rw[show cP t.m (i:Int)=t.m.pg i by unfold cP;rw[if_pos (dQ hin),Int.toNat_natCast]] at AT;obtain⟨c0,c2,c3,c4,c5,c6⟩:=HJ.out.c;have sk:=SK.out i hlt;have aL:=sL.out i;have ADi:=aA (AD.out i hlt);obtain⟨m,hm⟩:=xe (x.bS+4096*i);rw[<-hm] at ADi;generalize t.m.pg i=q at *;go_wp2_with fail;refine MP.out.mono ?_;rintro e w4 ⟨rfl,h4⟩;replace h4:=h4.symm;subst h4;go_wp2_with fail;refine AT.out.mono ?_;rintro e w5 ⟨rfl,hk5⟩;have G6:=aA (GS.keep hG.out (hk5.alloc (aT q)));have X5:=aA (nH w5 (aT q));clear MP AT hk5 c0 c2 c3 c4 c5 c6 hG HJ;go_upto_region 8 with fail;generalize w5.alloc (aT q)=w6 at *;generalize w5.heap.size=y5 at *;obtain⟨x0,x1,x2,x3,x4,x5,x6,x7,x8,x9,x10⟩:=lF X5.out
   cases sk with
   | none hq h1=>
    rw[h1,List.append_nil] at aL;have q2:(q.kd == 2)=false:=(by rw[beq_eq_false_iff_ne];omega);have q4:(q.kd == 4)=false:=(by rw[beq_eq_false_iff_ne];omega);clear hq;go_wp2_with fail;exact⟨⟨i+1,by omega,by simp,aA ⟨by rw[aL];exact G6.out,NW.out⟩⟩,by simp[intOf];omega⟩
   | head k hk hq ho h1=>
    have q2:(q.kd == 2)=true:=(by rw[beq_iff_eq];exact hq);have RN:=aA (fun W'=>vP k hk q ho W');obtain⟨z,hz⟩:=xe (4096*2 ^ k);rw[<-hz] at RN h1;rw[<-hm] at h1;rw[h1] at aL;have KD:=aA ((Kt.refl nO w6).drew);have AL:=aA aL;have HLE:=aA hle;have XC:=aA (fun W' (kk:Kt nO w6 W')=>lF ((kk.block _ (lH X5.out) id).trans X5.out));have XE:=aA (fun W7 W8 (k7:Kt nO w6 W7) (k8:Kt (fun b=>(Value.slice va (f i).length vc).ownBlock=some b) W7 W8)=>lF ((k8.block _ (Nat.lt_of_lt_of_le (lH X5.out) k7.size) (fun e=>by
     obtain⟨cs,hcs⟩:=cB G6.out.own e;rw[X5.out] at hcs;simp at hcs)).trans ((k7.block _ (lH X5.out) id).trans X5.out)))
    have HL6:=aA (show(f i).length<=4000000 by omega);have A6:=aA (ADi.out _ (nT G6.out.kp KD.out));clear hq ho hk hz h1 aL hm hle hin;go_wp2_with fail;refine wp_region_noPanic ?_;obtain⟨d0,d1,d2,d3,d4,d5,d6,d7,d8,d9,d10⟩:=XC.out _ KD.out;go_region_held3 (fun w'=>w'.cell? ⟨y5,0,none⟩=some (.int .i64 q.kd)/\w'.cell? ⟨y5,1,none⟩=some (.int .i64 q.od)/\w'.cell? ⟨y5,2,none⟩=some (.int .i64 q.cl)/\w'.cell? ⟨y5,3,none⟩=some (.int .i64 q.lv)/\w'.cell? ⟨y5,4,none⟩=some (.int .i64 q.nx)/\w'.cell? ⟨y5,5,none⟩=some (.int .i64 q.pv)/\w'.cell? ⟨y5,6,none⟩=some (.int .i64 q.fs)/\w'.cell? ⟨y5,7,none⟩=some (.int .u64 q.b0)/\w'.cell? ⟨y5,8,none⟩=some (.int .u64 q.b1)/\w'.cell? ⟨y5,9,none⟩=some (.int .u64 q.b2)/\w'.cell? ⟨y5,10,none⟩=some (.int .u64 q.b3)) ((refine⟨?_,?_,?_,?_,?_,?_,?_,?_,?_,?_,?_⟩ <;> with_reducible assumption)) (first
     | (go_at_call 68;(with_reducible refine A6.out.mono ?_);rintro e w7 ⟨rfl,h7⟩;replace h7:=h7.symm;subst h7)
     | (go_at_call 43;(with_reducible refine(RN.out _).mono ?_);rintro e w7 ⟨rfl,hk7⟩;have K7:=aA (nT KD.out hk7);obtain⟨v0,v1,v2,v3,v4,v5,v6,v7,v8,v9,v10⟩:=XC.out _ K7.out;obtain⟨b0,b1,b2,b3,b4,b5,b6,b7,b8,b9,b10⟩:=XC.out _ (K7.out.alloc (cJ m z));obtain⟨gg,cap,w8,HAP,G8,K8,N8⟩:=GB.pushN (GS.keep G6.out K7.out) m z (HL6.out);obtain⟨e0,e1,e2,e3,e4,e5,e6,e7,e8,e9,e10⟩:=XE.out _ _ K7.out K8;have NW8:=aA (show ∀ g,(Value.slice (some ⟨gg,0,none⟩) ((f i).length+1) cap).ownBlock=some g->W.heap.size<=g from LP hsz N8);clear hk7 K8 N8;have G8:=aA G8;replace HAP:=aA HAP)
     | (refine zhk rfl (.tmp 41) (.tmp 48) rfl rfl rfl HAP.out ?_)
     | fail)
    all_goals
     refine NoPanic.normal ?_;go_wp2_with fail;exact⟨⟨i+1,by omega,by simp,aA ⟨by rw[AL.out];exact G8.out,NW8.out⟩⟩,by simp[intOf];omega⟩
   | slab k hq hc hl h1=>
    have q2:(q.kd == 2)=false:=(by rw[beq_eq_false_iff_ne];omega);have q4:(q.kd == 4)=true:=(by rw[beq_iff_eq];exact hq);rw[h1] at aL;have AL:=aA aL;have HLE:=aA hle;have C6:=aA (CH.out i k hc q hl _ G6.out.kp);have hcl:(fZ x S i k (aH k)).length<=256:=by
     obtain⟨h,o⟩:=HI.out.so;exact Nat.le_trans (uA x S i k _) (dV (o.si.pg i k hc).1).2.2
    have HCL:=aA hcl;clear hq hc hl h1 aL hm hle hin hcl;go_wp2_with fail;refine C6.out.mono ?_;rintro e w7 ⟨u,rfl,hu⟩;have G7:=aA (GS.keep G6.out hu.kp);obtain⟨v8,w8,HAP,G8,N8⟩:=GB.pushLN G7.out hu.own (by have:=HLE.out;omega) (by have:=HCL.out;omega);have HAP:=aA HAP;have G8:=aA G8;have NW8:=aA (show ∀ g,v8.ownBlock=some g->W.heap.size<=g from fun g e=>(N8 g e).elim (NW.out g) (fun e2=>by rw[hsz] at e2;exact e2));clear hu N8;go_wp2_with (at_builtin;refine Lib.wpList_append_run _ rfl _ _ _ _ rfl _ _ rfl rfl _ _ (HAP.out _) ?_)
    exact⟨⟨i+1,by omega,by simp,aA ⟨by rw[AL.out];exact G8.out,NW8.out⟩⟩,by simp[intOf];omega⟩
  ·obtain rfl:i=n:=(by omega);have hii:¬(i:Int)<i:=(by omega);have H9:=aA (HI.out.keep hG.out.kp);go_wp2_with fail;have UL:=aA (H9.out.unlock .returning);have D:=aA (show GB W (dZ wr hb) (.slice va (f i).length vc) (f i)from by
    refine zis hG.out hsz (HH.out.round (K:=nO) id hG.out.kp H9.out rfl rfl rfl) (fun y hy=>(H9.out.set 0).2.block _ ?_ ?_)
    ·obtain⟨cs,hcs⟩:=cB hG.out.own hy;exact lH hcs
    ·intro e;subst e;obtain⟨cs,hcs⟩:=cB hG.out.own hy;rw[H9.out.bx] at hcs;simp at hcs)
   refine leaves_cons (f:=36) (args:=#[.pointer (some ⟨hb,0,none⟩)]) (by simp) (by simp[go_sem]) ?_;refine UL.out.mono ?_;rintro e u' w3 ⟨rfl,rfl,rfl⟩;exact⟨_,by simp[results,results31,go_sem],_,rfl,D.out,NW.out⟩
end
end Go.Proofs.YtbgbfpklgfpepaaGreatDoor
namespace Go.Proofs.YtbgbfpklgfpepaaGreatDoor.O
open Tryz
open Go.RowKit
open Go.Proofs.YtbgbfpklgfpepaaGreatDoor.M (RS gJ mayB bE)
set_option linter.unusedVariables false
theorem RS_le(k:Nat)(hk:k<=8) : 4096<=RS k/\RS k<=1048576:=by
 have:=bE k hk;unfold RS;omega
def szB(k x:Nat):Bool:=cL x && decide (16<=x) && decide (x<=RS k)
def dU(x:Nat):Nat:=if 4096/x<1 then 1 else 4096/x
def okB(bS k n p s:Nat):Bool:=szB k s && decide (p%s=0) && decide (bS<=p) && decide (p-bS<n*RS k)
abbrev oZ(p s:Nat):Value:=.agg #[.int .u64 p,.int .u64 s]
abbrev Un:=Nat×Nat×Nat
theorem tH(s:Nat)(hs : 16<=s) : 1<=dU s/\dU s<=256:=by
 unfold dU;have : 4096/s<=256:=by
  have:=Nat.div_le_div_left hs (by decide : 0<16) (a:=4096);omega
 split <;> omega
def yW(U:List Un)(n j s:Nat):Bool:=U.all (fun u=>u.1 != n || (u.2.2 == s && u.2.1 != j))
theorem DS(U:List Un)(n j s:Nat):yW U n j s=true↔∀ u∈U,u.1=n->u.2.2=s/\u.2.1≠j:=by
 simp only[yW,List.all_eq_true,Bool.or_eq_true,bne_iff_ne,Bool.and_eq_true,beq_iff_eq];constructor
 ·intro h u hu e;rcases h u hu with h1|h1
  ·exact absurd e h1
  ·exact h1
 ·intro h u hu;by_cases e:u.1=n
  ·exact Or.inr (h u hu e)
  ·exact Or.inl e
def npg(s:Nat):Nat:=(s+4095)/4096
def mD(o s i:Nat):Un:=(o/4096+i,o%4096/s,s)
def uns(o s k:Nat):List Un:=(List.range k).map (mD o s)
def units(o s:Nat):List Un:=uns o s (npg s)
def pE(U:List Un)(o s:Nat):Bool:=(units o s).all (fun u=>yW U u.1 u.2.1 u.2.2)
abbrev cD:=List (Nat×Nat)
def BL(w:World)(v:Value)(l:cD):Prop:=
 l.length<=9223372036854775807/\(∀ b∈l,b.1<2 ^ 64/\b.2<2 ^ 64)/\∃ oa oc,v=.slice oa l.length oc/\(l.length=0\/∃ bl o,oa=some ⟨bl,o,none⟩/\bl<w.heap.size/\
  ∀ k b,l[k]?=some b->w.cell? ⟨bl,o+k*2,none⟩=some (.int .u64 b.1)/\w.cell? ⟨bl,o+k*2+1,none⟩=some (.int .u64 b.2))
theorem BL.keep{w W:World}{v:Value}{l:cD}(h:BL w v l)(kp:Kt nO w W):BL W v l:=by
 obtain⟨h1,h2,oa,oc,h3,h4⟩:=h;refine⟨h1,h2,oa,oc,h3,?_⟩;rcases h4 with h4|⟨bl,o,e,hlt,hc⟩
 ·exact .inl h4
 ·exact .inr ⟨bl,o,e,Nat.lt_of_lt_of_le hlt kp.size,fun k b hb=>⟨kp.cell id (hc k b hb).1,kp.cell id (hc k b hb).2⟩⟩
theorem BL.at{w:World}{oa:Option Addr}{n oc:Nat}{l:cD}(h:BL w (.slice oa n oc) l)(k:Nat)(hk:k<l.length):
  ∃ bl o p s,oa=some ⟨bl,o,none⟩/\l[k]?=some (p,s)/\p<2 ^ 64/\s<2 ^ 64/\w.cell? ⟨bl,o+k*2,none⟩=some (.int .u64 p)/\w.cell? ⟨bl,o+k*2+1,none⟩=some (.int .u64 s):=by
 obtain⟨h1,h2,oa',oc',h3,h4⟩:=h;injection h3 with e1 e2 e3
 subst e1;rcases h4 with h4|⟨bl,o,e,hlt,hc⟩
 ·omega
 ·have hb:=List.getElem?_eq_getElem hk;have hm:=h2 _ (List.getElem_mem hk);exact⟨bl,o,l[k].1,l[k].2,e,hb,hm.1,hm.2,(hc k _ hb).1,(hc k _ hb).2⟩
theorem BL.len{w:World}{oa:Option Addr}{n oc:Nat}{l:cD}(h:BL w (.slice oa n oc) l):n=l.length/\l.length<=9223372036854775807:=by
 obtain⟨h1,h2,oa',oc',h3,h4⟩:=h;injection h3 with e1 e2 e3
 exact⟨e2,h1⟩
def allU(bS:Nat)(l:cD):List Un:=l.flatMap fun b=>units (b.1-bS) b.2
def fJ(bS k n:Nat)(l:cD)(i:Nat):Bool:=match l[i]? with
 | some b=>okB bS k n b.1 b.2 && pE (allU bS (l.take i)) (b.1-bS) b.2
 | none=>true
def sndI(bS k n:Nat)(l:cD):Int:=match (List.range l.length).find? (fun i=>!fJ bS k n l i)with
 | some i=>(i:Int)
 | none => -1
theorem ZN{bS k n:Nat}{l:cD}{i:Nat}(hi:i<l.length)(h:∀ a,a<i->fJ bS k n l a=true)(hb:fJ bS k n l i=false):sndI bS k n l=(i:Int):=by
 unfold sndI;have:(List.range l.length).find? (fun i=>!fJ bS k n l i)=some i:=by
  rw[List.find?_range_eq_some];refine⟨by simp[hb],List.mem_range.2 hi,fun a ha=>by simp[h a ha]⟩
 rw[this]
theorem sndI_ok{bS k n:Nat}{l:cD}(h:∀ a,a<l.length->fJ bS k n l a=true):sndI bS k n l = -1:=by
 unfold sndI;rw[List.find?_eq_none.2 (fun a ha=>by simp[h a (List.mem_range.1 ha)])]
theorem oI{s R:Nat}(hs:cL s=true)(hR:cL R=true)(h:s<=R):s ∣ R:=by
 obtain⟨a,rfl⟩:=(jZ s).1 hs;obtain⟨b,rfl⟩:=(jZ R).1 hR;exact Nat.pow_dvd_pow 2 ((Nat.pow_le_pow_iff_right (by decide)).1 h)
theorem AB(k:Nat):cL (RS k)=true:=(jZ _).2 ⟨12+k,by unfold RS;rw[Nat.pow_add]⟩
theorem rI:cL 4096=true:=(jZ _).2 ⟨12,rfl⟩
theorem GX{bS k n p s:Nat}(hb:bS%RS k=0)(hn:n*RS k<=4194304)(h:okB bS k n p s=true):
  cL s=true/\16<=s/\s<=RS k/\p%s=0/\bS<=p/\(p-bS)%s=0/\(p-bS)+s<=n*RS k/\(p-bS)%4096/s<dU s:=by
 simp only[okB,szB,Bool.and_eq_true,decide_eq_true_eq] at h;obtain⟨⟨⟨⟨⟨h1,h2⟩,h3⟩,h4⟩,h5⟩,h6⟩:=h;have d1:s ∣ RS k:=oI h1 (AB k) h3;have d2:s ∣ bS:=Nat.dvd_trans d1 (Nat.dvd_of_mod_eq_zero hb);have d3:s ∣ p-bS:=(Nat.dvd_sub (Nat.dvd_of_mod_eq_zero h4) d2);obtain⟨a,ha⟩:=d3;obtain⟨c,hc⟩:s ∣ n*RS k:=Nat.dvd_trans d1 (Nat.dvd_mul_left _ _);have hac:a<c:=by
  rw[ha,hc] at h6;exact Nat.lt_of_mul_lt_mul_left h6
 refine⟨h1,h2,h3,h4,h5,by rw[ha];exact Nat.mul_mod_right _ _,?_,?_⟩
 ·rw[ha,hc];have:s*(a+1)<=s*c:=Nat.mul_le_mul_left s hac;rw[Nat.mul_add,Nat.mul_one] at this;exact this
 ·unfold dU;by_cases h7:s<=4096
  ·obtain⟨q,hq⟩:=oI h1 rI h7;have hq1 : 4096/s=q:=(by rw[hq,Nat.mul_div_cancel_left _ (by omega)]);have hq0:¬q<1:=by
    intro hq0;have:q=0:=by omega
    rw[this] at hq;omega
   rw[hq1,if_neg hq0];rw[Nat.div_lt_iff_lt_mul (by omega),Nat.mul_comm,<-hq];exact Nat.mod_lt _ (by decide)
  ·have:(p-bS)%4096/s=0:=Nat.div_eq_of_lt (by have:=Nat.mod_lt (p-bS) (show 0<4096 by decide);omega);rw[this];split <;> omega
def mayR(bS:Nat)(lim ord n:Int):Bool:=mayB bS lim ord && decide (0<=n) && decide (n<=lim)
theorem JR{bS:Nat}{lim ord n:Int}(h:mayR bS lim ord n=true):∃ k r L:Nat,ord=(k:Int)/\n=(r:Int)/\lim=(L:Int)/\k<=8/\1<=L/\L<=64/\r<=L/\L*RS k<=4194304/\bS≠0/\bS%RS k=0/\bS+L*RS k<=9223372036854775808:=by
 simp only[mayR,mayB,Bool.and_eq_true,decide_eq_true_eq] at h;obtain⟨⟨⟨⟨hB,h1⟩,⟨h2,h3⟩,h4⟩,h5⟩,h6⟩:=h;unfold gJ at hB;obtain⟨k,rfl⟩:=Int.eq_ofNat_of_zero_le hB.1;obtain⟨r,rfl⟩:=Int.eq_ofNat_of_zero_le h5;obtain⟨L,rfl⟩:=Int.eq_ofNat_of_zero_le (by omega : 0<=lim);rw[Int.toNat_natCast,Int.toNat_natCast] at h1 h4;rw[Int.toNat_natCast] at h3;refine⟨k,r,L,rfl,rfl,rfl,by omega,by omega,by omega,by omega,?_,h2,h3,h4⟩;have:L*RS k=4096*(L*2 ^ k):=by rw[RS,Nat.mul_left_comm]
 omega
theorem JQ{l:cD}{i:Nat}{b:Nat×Nat}(h:l[i]?=some b):l.take (i + 1)=l.take i ++ [b]:=by
 rw[List.take_add_one,h];rfl
theorem ZM(bS:Nat)(l:cD)(b:Nat×Nat):allU bS (l ++ [b])=allU bS l ++ units (b.1-bS) b.2:=by simp[allU]
def sndV(bS:Nat)(lim ord n:Int)(l:cD):Int:=if mayR bS lim ord n=true then sndI bS ord.toNat n.toNat l else 0
def nA:List Nat->List Nat
 | []=>[]
 | x :: r=>if x∈r then nA r else x :: nA r
theorem nQ:∀ (l:List Nat) (x:Nat),x∈nA l↔x∈l
 | [],x=>by simp[nA]
 | a :: r,x=>by
  unfold nA;split
  ·rename_i h;rw[nQ r x,List.mem_cons];constructor
   ·exact .inr
   ·rintro (e|e)
    ·rw[e];exact h
    ·exact e
  ·rw[List.mem_cons,List.mem_cons,nQ r x]
theorem xS:∀ (l:List Nat),(nA l).Nodup
 | []=>List.nodup_nil
 | a :: r=>by
  unfold nA;split
  ·exact xS r
  ·rename_i h;exact List.nodup_cons.2 ⟨fun e=>h ((nQ r a).1 e),xS r⟩
theorem VB{l k:List Nat}(hl:l.Nodup)(hk:k.Nodup)(h:∀ x,x∈l↔x∈k):l.Perm k:=(List.perm_ext_iff_of_nodup hl hk).2 h
def stN(U:List Un)(long:Nat):Nat:=(nA (U.map fun u=>u.1/long)).length
def rmN(U:List Un)(s:Nat):Nat:=((nA ((U.filter fun u=>u.2.2 == s).map (·.1))).map fun n=>dU s-(U.filter fun u=>u.1 == n).length).sum
def lonN(r:Nat):Nat:=if r<4096 then 1 else r/4096
def fitU(U:List Un)(k n r:Nat):Bool:=(stN U (lonN r) == n*2 ^ k/lonN r) && (rmN U r == 0)
def nofV(bS:Nat)(lim ord n:Int)(l:cD)(r:Nat):Bool:=mayR bS lim ord n && (sndI bS ord.toNat n.toNat l == -1) && szB ord.toNat r && fitU (allU bS l) ord.toNat n.toNat r
def stkV(bS:Nat)(lim ord n:Int)(l:cD)(r:Nat)(dn:Bool):Bool:=(dn || n == lim) && nofV bS lim ord n l r
def askN(s a:Nat):Nat:=max (max s a) 16
def rdK(bS:Nat)(lim ord:Int)(s a:Nat):Bool:=mN 64 (askN s a) && decide (fR 64 (askN s a)<=RS ord.toNat)
def rdE(bS:Nat)(lim ord:Int)(s a:Nat):Int:=if mayB bS lim ord && cL a then (if rdK bS lim ord s a then 0 else 3) else 1
def rdV(bS:Nat)(lim ord:Int)(s a:Nat):Nat:=if mayB bS lim ord && cL a && rdK bS lim ord s a then fR 64 (askN s a) else 0
def prE(n s:Nat):Int:=if n≠0/\18446744073709551615/n<s then 3 else 0
def prV(n s:Nat):Nat:=if n≠0/\18446744073709551615/n<s then 0 else n*s%18446744073709551616
end Go.Proofs.YtbgbfpklgfpepaaGreatDoor.O
namespace Go.Proofs.YtbgbfpklgfpepaaGreatDoor.O
open Tryz
open Go.RowKit
open Go.Proofs.YtbgbfpklgfpepaaGreatDoor.M (RS gJ mayB bE)
set_option linter.unusedVariables false
def CR(W:World)(x bS:Nat)(lim ord:Int):Prop:=W.heap[x]?=some (.cells #[.int .u64 bS,.int .i64 lim,.int .i64 ord] 43)
theorem CR.cells{W:World}{x bS:Nat}{lim ord:Int}(h:CR W x bS lim ord):W.cell? ⟨x,0,none⟩=some (.int .u64 bS)/\W.cell? ⟨x,1,none⟩=some (.int .i64 lim)/\W.cell? ⟨x,2,none⟩=some (.int .i64 ord):=by
 unfold CR at h;refine⟨?_,?_,?_⟩ <;> simp[World.cell?,h]
theorem CR.keep{W W':World}{x bS:Nat}{lim ord:Int}(h:CR W x bS lim ord){S:Nat->Prop}(k:Kt S W W')(hS:¬S x):CR W' x bS lim ord:=(k.block _ (lH h) hS).trans h
theorem CR.all{W:World}{x bS:Nat}{lim ord:Int}(h:CR W x bS lim ord):(∀ y:KW W,y.v.cell? ⟨x,0,none⟩=some (.int .u64 bS))/\(∀ y:KW W,y.v.cell? ⟨x,1,none⟩=some (.int .i64 lim))/\(∀ y:KW W,y.v.cell? ⟨x,2,none⟩=some (.int .i64 ord)):=
 ⟨fun y=>(h.keep y.k id).cells.1,fun y=>(h.keep y.k id).cells.2.1,fun y=>(h.keep y.k id).cells.2.2⟩
def cM(i:Nat):Nat:=if i=60 then 0 else 2 ^ (4+i)
theorem tL(i:Nat)(hi:i<=60):cM i<2 ^ 64/\(i<60->16<=cM i):=by
 unfold cM;refine⟨?_,fun h=>?_⟩
 ·split
  ·decide
  ·exact Nat.pow_lt_pow_right (by decide) (by omega)
 ·rw[if_neg (by omega)];exact Nat.pow_le_pow_right (n:=2) (by decide) (show 4<=4+i by omega)
theorem GG(i:Nat)(hi:i+1<60):cM (i+1)=2*cM i:=by
 unfold cM;rw[if_neg (by omega),if_neg (by omega),show 4+(i+1)=(4+i)+1 by omega,Nat.pow_succ,Nat.mul_comm]
theorem zjL(i:Nat)(hi:i<60):cM i*2%18446744073709551616=cM (i+1):=by
 by_cases e:i+1=60
 ·have:i=59:=by omega
  subst this;rfl
 ·have h1:=GG i (by omega);have h2:=(tL (i+1) (by omega)).1;omega
theorem WS(i s a:Nat)(hi:i<=60)(hs:s<2 ^ 64)(ha:a<2 ^ 64)(hb:∀ j,j<i->cM j<max s a)(he:i=60\/max s a<=cM i):cM i=fR 64 (askN s a):=by
 obtain⟨x,hx⟩:=xe (askN s a);have hx2:x=max (max s a) 16:=hx;rw[<-hx];have hlow : 3+i<cl x:=by
  refine Nat.not_le.1 fun h=>?_
  have h1:=(nR x (3+i)).2 h
  cases i with
  | zero=>
   have:(2:Nat) ^ (3+0)=8:=rfl;omega
  | succ j=>
   have h2:=hb j (by omega);unfold cM at h2;rw[if_neg (by omega),show 4+j=3+(j+1)by omega] at h2;omega
 unfold fR;by_cases e:i=60
 ·rw[if_neg (by omega)];unfold cM;rw[if_pos e]
 ·have h1:max s a<=cM i:=by
   rcases he with h|h
   ·exact absurd h e
   ·exact h
  have h16:=(tL i hi).2 (by omega);have h2:cl x<=4+i:=(nR x (4+i)).1 (by
   unfold cM at h1 h16;rw[if_neg e] at h1 h16;omega)
  have h3:cl x=4+i:=by omega
  rw[h3,if_pos (by omega)];unfold cM;rw[if_neg e]
def gY(k s a:Nat):Nat:=if RS k<fR 64 (askN s a) then 0 else fR 64 (askN s a)
theorem RJ(bS:Nat)(lim:Int)(k:Nat)(hk:k<=8)(s a:Nat)(hs:s<2 ^ 64)(ha:a<2 ^ 64)(w:World):
  Calls prog 148 #[cA bS lim (k:Int),.int .u64 s,.int .u64 a] w fun e w'=>e=.returned (.int .u64 ((gY k s a:Nat):Int))/\Kt nO w w':=by
 have C0:=aA (show CR (w.alloc (.cells #[.int .u64 bS,.int .i64 lim,.int .i64 k] 43)) w.heap.size bS lim k from nH w _);have K0:=aA (show Kt nO w (w.alloc (.cells #[.int .u64 bS,.int .i64 lim,.int .i64 k] 43))from(Kt.refl _ w).alloc _);obtain⟨R,hR⟩:=xe (RS k);have HR:=aA (fun W=>jJ (bS:Int) lim k hk W);have hRl:=RS_le k hk;rw[<-hR] at HR hRl;have HV:=aA (show ∀ x,x=fR 64 (askN s a)->gY k s a=if R<x then 0 else x from fun x hx=>by rw[hx,hR];rfl);clear hR;go_enter func148,ntmps148;go_wp2_with fail;generalize w.alloc (.cells #[.int .u64 bS,.int .i64 lim,.int .i64 k] 43)=W1 at *;generalize w.heap.size=bx at *;go_loopw [7] (fun x W=>∃ i:Nat,i<=60/\x=.int .u64 ((cM i:Nat):Int)/\Hid (W=W1/\∀ j,j<i->cM j<max s a)) (fun x W=>if intOf x=0 then 0 else (18446744073709551616-intOf x).toNat)
 case atStart=>exact⟨0,by omega,rfl,aA ⟨rfl,fun j hj=>by omega⟩⟩
 case round=>
  obtain⟨i,hi,rfl,HI⟩:=hrel;obtain⟨x,hx⟩:=xe (cM i);have hxb:=tL i hi;rw[<-hx] at hxb ⊢;obtain rfl:=HI.out.1;have hfin:(i=60\/max s a<=x)->Hid (x=fR 64 (askN s a)):=fun h=>by
   show x=_
   rw[hx];exact WS i s a hi hs ha HI.out.2 (by rw[<-hx];exact h)
  by_cases h0:x=0
  ·have HF:=hfin (.inl (by
    refine Classical.byContradiction fun h=>?_
    have:=hxb.2 (by omega);omega))
   subst h0;clear hfin hx HI;obtain⟨c0,c1,c2⟩:=C0.out.cells;go_wp2_with fail;refine(HR.out _).mono ?_;rintro e w2 ⟨rfl,hk⟩;have K2:=aA (nT K0.out hk);clear hk;have E:=aA (show gY k s a=0 by rw[HV.out 0 HF.out,if_neg (by omega)]);go_wp2_with fail;go_ret;exact⟨eJ (by rw[E.out];rfl),K2.out⟩
  ·have hn0:((x:Int) != 0)=true:=(by rw[bne_iff_ne];omega);have hn1:¬(x:Int)=0:=(by omega);have hi60:i<60:=by
    refine Nat.lt_of_le_of_ne hi fun e=>h0 ?_
    rw[hx,e];rfl
   obtain⟨y,hy⟩:=xe (cM (i+1));have hyw:IntKind.u64.wrap ((x:Int)*2)=(y:Int):=by
    rw[wrap_u64,hy,<-zjL i hi60,<-hx];simp
   have hyb:y=0\/(x<y/\y<2 ^ 64):=by
    have:=hxb.2 hi60;have h2:=(tL (i+1) (by omega)).1;rw[<-hy] at h2;by_cases e:i+1=60
    ·left;rw[hy,e];rfl
    ·right
     have h1:=GG i (by omega);rw[<-hx,<-hy] at h1;omega
   have NX:x<max s a->Hid (∃ i',i'<=60/\Hid ((y:Nat)=cM i')/\Hid (True/\∀ j,j<i'->cM j<max s a)):=fun h=>aA ⟨i+1,by omega,aA hy,aA ⟨trivial,fun j hj=>by
    by_cases e:j=i
    ·rw[e,<-hx];exact h
    ·exact HI.out.2 j (by omega)⟩⟩
   by_cases h1:(x:Int)<s
   ·obtain⟨i',q1,q2,q3⟩:=(NX (by omega)).out;clear hfin hx HI hy NX;go_wp2_with fail;exact⟨⟨i',q1,by rw[q2.out],q3⟩,by simp[intOf];(repeat' split) <;> omega⟩
   ·by_cases h2:(x:Int)<a
    ·obtain⟨i',q1,q2,q3⟩:=(NX (by omega)).out;clear hfin hx HI hy NX;go_wp2_with fail;exact⟨⟨i',q1,by rw[q2.out],q3⟩,by simp[intOf];(repeat' split) <;> omega⟩
    ·have HF:=hfin (.inr (by omega));clear hfin hx HI hy NX;obtain⟨c0,c1,c2⟩:=C0.out.cells;go_wp2_with fail;refine(HR.out _).mono ?_;rintro e w2 ⟨rfl,hk⟩;have K2:=aA (nT K0.out hk);clear hk;by_cases hle:(R:Int)<x
     ·have E:=aA (show gY k s a=0 by rw[HV.out x HF.out,if_pos (by omega)]);go_wp2_with fail;go_ret;exact⟨eJ (by rw[E.out];rfl),K2.out⟩
     ·have E:=aA (show gY k s a=x by rw[HV.out x HF.out,if_neg (by omega)]);go_wp2_with fail;go_ret;exact⟨eJ (by rw[E.out]),K2.out⟩
theorem refRound(bS:Nat)(hb64:bS<18446744073709551616)(lim ord:Int)(hl1 : -9223372036854775808<=lim)(hl2:lim<=9223372036854775807)(ho1 : -9223372036854775808<=ord)(ho2:ord<=9223372036854775807)(s a:Nat)(hs:s<2 ^ 64)(ha:a<2 ^ 64)(w:World):
  Calls prog 97 #[cA bS lim ord,.int .u64 s,.int .u64 a] w fun e w'=>e=.returned (.tuple #[.int .u64 ((rdV bS lim ord s a:Nat):Int),.int .i64 (rdE bS lim ord s a)])/\Kt nO w w':=by
 have HM:=aA (fun W=>sX bS hb64 lim ord hl1 hl2 ho1 ho2 W);have HP:=aA (fun W=>wU a ha W);have C0:=aA (show CR (w.alloc (.cells #[.int .u64 bS,.int .i64 lim,.int .i64 ord] 43)) w.heap.size bS lim ord from nH w _);have K0:=aA (show Kt nO w (w.alloc (.cells #[.int .u64 bS,.int .i64 lim,.int .i64 ord] 43))from(Kt.refl _ w).alloc _);have FIN:=aA (show ∀ (v:Nat) (er:Int) w1,rdV bS lim ord s a=v->rdE bS lim ord s a=er->Kt nO w w1->(Ending.returned (.tuple #[.int .u64 v,.int .i64 er])=.returned (.tuple #[.int .u64 ((rdV bS lim ord s a:Nat):Int),.int .i64 (rdE bS lim ord s a)])/\Kt nO w w1)from fun v er w1 h1 h2 h3=>⟨by rw[h1,h2],h3⟩)
 cases hm:mayB bS lim ord with
 | false=>
  rw[hm] at HM;have E1:=aA (show rdV bS lim ord s a=0 by simp[rdV,hm]);have E2:=aA (show rdE bS lim ord s a=1 by simp[rdE,hm]);clear hm;go_enter func97,ntmps97;go_wp2_with fail;generalize w.alloc (.cells #[.int .u64 bS,.int .i64 lim,.int .i64 ord] 43)=W0 at *;refine(HM.out _).mono ?_;rintro e w1 ⟨rfl,hk⟩;have K1:=aA (nT K0.out hk);clear hk;go_wp2_with fail;exact⟨rfl,.tuple #[.int .u64 0,.int .i64 1],by simp[results,results97,go_sem],FIN.out 0 1 _ E1.out E2.out K1.out⟩
 | true=>
  rw[hm] at HM
  cases hp:cL a with
  | false=>
   rw[hp] at HP;have E1:=aA (show rdV bS lim ord s a=0 by simp[rdV,hp]);have E2:=aA (show rdE bS lim ord s a=1 by simp[rdE,hp]);clear hm hp;go_enter func97,ntmps97;go_wp2_with fail;generalize w.alloc (.cells #[.int .u64 bS,.int .i64 lim,.int .i64 ord] 43)=W0 at *;refine(HM.out _).mono ?_;rintro e w1 ⟨rfl,hk⟩;have K1:=aA (nT K0.out hk);clear hk;go_wp2_with (go_at_call 26;refine(HP.out _).mono ?_;rintro e w' ⟨rfl,rfl⟩)
   exact⟨rfl,.tuple #[.int .u64 0,.int .i64 1],by simp[results,results97,go_sem],FIN.out 0 1 _ E1.out E2.out K1.out⟩
  | true=>
   rw[hp] at HP;have hB : 0<=ord/\ord<=8:=by
    have h:=hm;simp only[mayB,Bool.and_eq_true] at h;have h2:=of_decide_eq_true h.1.1;unfold gJ at h2;exact⟨h2.1,h2.2.1⟩
   obtain⟨k,rfl⟩:=Int.eq_ofNat_of_zero_le hB.1;have HZ:=aA (fun W=>RJ bS lim k (by omega) s a hs ha W);obtain⟨z,hz⟩:=xe (gY k s a);rw[<-hz] at HZ;have hcv:mN 64 (askN s a)=true↔fR 64 (askN s a)≠0:=by
    have:=DH 64 (askN s a);rw[<-this,bne_iff_ne];omega
   have E0:rdK bS lim (k:Int) s a=decide (z≠0):=by
    unfold rdK;rw[Int.toNat_natCast,Bool.eq_iff_iff,Bool.and_eq_true,decide_eq_true_eq,decide_eq_true_eq,hcv,hz];unfold gY;split <;> omega
   have E1:=aA (show rdV bS lim (k:Int) s a=z by
    unfold rdV;rw[hm,hp,E0];by_cases e:z=0
    ·simp[e]
    ·rw[decide_eq_true e,Bool.and_true,Bool.and_true,if_pos rfl];rw[hz] at e ⊢;unfold gY at e ⊢;split at e
     ·exact absurd rfl e
     ·rename_i h;rw[if_neg h])
   have E2:=aA (show rdE bS lim (k:Int) s a=if z=0 then 3 else 0 by
    unfold rdE;rw[hm,hp,E0];by_cases e:z=0 <;> simp[e])
   have hzb:z<2 ^ 64:=by
    rw[hz];unfold gY;have:=YL 64 (askN s a);split <;> omega
   clear hm hp hz hcv E0;by_cases hz0:z=0
   ·subst hz0;go_enter func97,ntmps97;go_wp2_with fail;generalize w.alloc (.cells #[.int .u64 bS,.int .i64 lim,.int .i64 k] 43)=W0 at *;refine(HM.out _).mono ?_;rintro e w1 ⟨rfl,hk⟩;have K1:=aA (nT K0.out hk);obtain⟨c0,c1,c2⟩:=(C0.out.keep hk (fun x=>x)).cells;clear hk;go_wp2_with (go_at_call 26;refine(HP.out _).mono ?_;rintro e w' ⟨rfl,rfl⟩)
    refine(HZ.out _).mono ?_;rintro e w2 ⟨rfl,hk⟩;have K2:=aA (nT K1.out hk);clear hk;go_wp2_with fail;exact⟨rfl,.tuple #[.int .u64 0,.int .i64 3],by simp[results,results97,go_sem],FIN.out 0 3 _ E1.out E2.out K2.out⟩
   ·have hz1:((z:Int) == 0)=false:=(by rw[beq_eq_false_iff_ne];omega);have hz2:¬(z:Int)=0:=(by omega);rw[if_neg hz0] at E2;go_enter func97,ntmps97;go_wp2_with fail;generalize w.alloc (.cells #[.int .u64 bS,.int .i64 lim,.int .i64 k] 43)=W0 at *;refine(HM.out _).mono ?_;rintro e w1 ⟨rfl,hk⟩;have K1:=aA (nT K0.out hk);obtain⟨c0,c1,c2⟩:=(C0.out.keep hk (fun x=>x)).cells;clear hk;go_wp2_with (go_at_call 26;refine(HP.out _).mono ?_;rintro e w' ⟨rfl,rfl⟩)
    refine(HZ.out _).mono ?_;rintro e w2 ⟨rfl,hk⟩;have K2:=aA (nT K1.out hk);clear hk;go_wp2_with fail;exact⟨rfl,.tuple #[.int .u64 z,.int .i64 0],by simp[results,results97,go_sem],FIN.out z 0 _ E1.out E2.out K2.out⟩
theorem refProduct(n s:Nat)(hn:n<2 ^ 64)(hs:s<2 ^ 64)(w:World):
  Calls prog 98 #[.int .u64 n,.int .u64 s] w fun e w'=>e=.returned (.tuple #[.int .u64 ((prV n s:Nat):Int),.int .i64 (prE n s)])/\w'=w:=by
 obtain⟨p,hp⟩:=xe (n*s%18446744073709551616);have hpp:((n:Int)*(s:Int))%18446744073709551616=(p:Int):=by rw[hp];simp
 have hpw:IntKind.u64.wrap ((n:Int)*(s:Int))=(p:Int):=by rw[wrap_u64];exact hpp
 by_cases h0:n=0
 ·subst h0;have E1:=aA (show prV 0 s=0 by simp[prV]);have E2:=aA (show prE 0 s=0 by simp[prE]);clear hp hpp hpw;go_enter func98,ntmps98;go_wp2_with fail;exact⟨rfl,.tuple #[.int .u64 0,.int .i64 0],by simp[results,results98,go_sem],by rw[E1.out,E2.out];rfl,rfl⟩
 ·have hn0:((n:Int) != 0)=true:=by rw[bne_iff_ne];omega
  have hn1:¬(n:Int)=0:=by omega
  obtain⟨q,hq⟩:=xe (18446744073709551615/n);have hq1:(18446744073709551615:Int)/(n:Int)=q:=by rw[hq];simp
  have hqb:q<2 ^ 64:=by rw[hq];have:=Nat.div_le_self 18446744073709551615 n;omega
  by_cases h1:(q:Int)<s
  ·have E1:=aA (show prV n s=0 by unfold prV;rw[if_pos ⟨h0,by rw[<-hq];omega⟩]);have E2:=aA (show prE n s=3 by unfold prE;rw[if_pos ⟨h0,by rw[<-hq];omega⟩]);clear hp hpp hpw hq h0;go_enter func98,ntmps98;go_wp2_with fail;exact⟨rfl,.tuple #[.int .u64 0,.int .i64 3],by simp[results,results98,go_sem],by rw[E1.out,E2.out];rfl,rfl⟩
  ·have E1:=aA (show prV n s=p by unfold prV;rw[if_neg (by rw[<-hq];omega),hp]);have E2:=aA (show prE n s=0 by unfold prE;rw[if_neg (by rw[<-hq];omega)]);clear hp hq h0;go_enter func98,ntmps98;go_wp2_with fail;exact⟨rfl,.tuple #[.int .u64 p,.int .i64 0],by simp[results,results98,go_sem],by rw[E1.out,E2.out],rfl⟩
end Go.Proofs.YtbgbfpklgfpepaaGreatDoor.O
