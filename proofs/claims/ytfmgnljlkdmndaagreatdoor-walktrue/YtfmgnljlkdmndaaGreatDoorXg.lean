import Derived.Test.YtfmgnljlkdmndaaGreatDoorXf
import Derived.Test.YtfmgnljlkdmndaaGreatDoorXt
import Derived.Deep.DeepCutAuto
set_option maxRecDepth 1000000
set_option maxHeartbeats 80000000
namespace Go.Proofs.YtfmgnljlkdmndaaGreatDoor.M
open Tryz
open Go.RowKit Go.Shelf
set_option linter.unusedVariables false
attribute [local go_sem] Oper.semAt_some
theorem zeQ(kk c b ao bS R lim n f hd)(o:Nat)(ho:o<=8)(hR:R=4096*2 ^ o)(w:World)(h:LS w c b ao bS R lim n f hd)(t:PtrB w kk c):
  Calls prog 258 #[.slice none 0 0,.func (.func 259) #[] #[.pointer (some ⟨kk,0,none⟩)]] w fun e w'=>∃ v,e=.returned v/\Lst w' v (walkR bS n f (n/16) 0 hd)/\Kt nO w w'/\∀ r,v.ownBlock=some r->w.heap.size<=r:=by
 have H:=aA h;have c5:=aA t;have a0:=t.lt;have hn:n<=4194304:=an h.s.nle h.s.cfg.lr;have c9:=aA hR;clear h hR t;have g1:=mkf;have f3:=yY;refine LA func258 rfl ?_;simp only[ntmps258,List.size_toArray,List.length_cons,List.length_nil,Nat.reduceAdd,Nat.reduceSub,Array.replicate_succ,Array.replicate_zero,List.push_toArray,List.append_toArray,List.nil_append,List.cons_append];go_wp2_with fail;obtain⟨X,P⟩:=xe (w.alloc (.cells #[.slice none 0 0] 39));rw[<-P];have KW:=aA (show Kt nO w X by rw[P];exact(Kt.refl nO w).alloc _);have F1:=aA (show fA X w.heap.size (.slice none 0 0)by rw[P];exact nH _ _);have F2:=aA (c5.o.keep KW.o);have e8:=aA (show X.heap.size=w.heap.size+1 by rw[P];simp);have c8:=aA hn;clear P hn;have f4:=aA a0;refine EP (gf:=259) (lb:=#[.pointer (some ⟨kk,0,none⟩)]) rfl (enters_of func259 (by kernel_rfl) rfl) ?_;intro fn C c0;have c6:=aA c0;clear c0;have a5:=e8.o;rw[a5];obtain⟨W3,G⟩:=xe ((X.alloc (.deferred (some []))).alloc (.loop (C .ready none)));have a8:=aA (show Kt nO X W3 by rw[G];exact((Kt.refl nO X).alloc _).alloc _);have d3:W3.heap.size=w.heap.size+3:=by rw[G];simp;omega
 have G1:=aA (F1.o.kept a8.o (fun x=>x));have G2:=aA (F2.o.keep a8.o);have G3:=aA (show fM W3 (w.heap.size+2) (C .ready none)by
  rw[G];have:=mU X (.deferred (some [])) (.loop (C .ready none));rw[a5] at this;exact this)
 have G4:=aA (show jN W3 (w.heap.size+1)by
  rw[G];have:=(Below.heap_alloc (X.alloc (.deferred (some []))) (.loop (C .ready none)) X.heap.size (by simp)).trans (nH X _);rw[a5] at this;exact this)
 have K3:=aA (nT KW.o a8.o);rw[<-G];have g0:=aA d3;clear G;obtain⟨N,hN⟩:=xe (n/16);have f5:N<=262144:=by have:=c8.o;omega
 have HN:=aA hN;clear hN;refine(zkv kk (w.heap.size+2) c b ao bS R lim n o ho c9.o (w.heap.size+3)
  (Taking c b ao bS R lim n f hd kk w.heap.size (w.heap.size+1) (w.heap.size+2) w C N) (fun _ _=>False) ?hK1 ?hK2 (fun _ _ _ _ h=>h.elim) ?hY hd f
  (fun x=>x<w.heap.size\/x=kk\/x=w.heap.size\/x=w.heap.size+1\/x=w.heap.size+2\/Value.ownBlock (.slice none 0 0)=some x) W3 (by omega) (H.o.keep K3.o) ?h0).mono ?hend
 case h0=>
  exact⟨rfl,H.o.keep K3.o,G2.o,K3.o,H.o.l.h64,by decide,[],.slice none 0 0,rfl,az _,rfl,G1.o,Lst.nil _,G3.o,G4.o,fun r e=>(by cases e),rfl⟩
 case hK1=>
  rintro i q p f' S W ⟨hf,D,t,A,hp,hq,E,v,I,Z,B,z,a,d,j,u,rfl⟩;refine⟨hp,hq,⟨hd,D⟩,?_,t⟩;have:=A.size;have:=t.lt;have:=z.lt;have:=d.lt;have:=j.lt;rintro x (h|h|h|h|h|h)
  all_goals first|omega|exact a.wds.lt h
 case hK2=>
  rintro i q p f' S T W W' ⟨hf,D,t,A,hp,hq,E,v,I,Z,B,z,a,d,j,u,rfl⟩ hk hT;have F:∀ x,(x<w.heap.size\/x=kk\/x=w.heap.size\/x=w.heap.size+1\/x=w.heap.size+2\/v.ownBlock=some x)->¬T x:=fun x hx ht=>(hT x ht).2 hx
  exact⟨hf,D.kept hk (fun x hx=>F x (.inl (H.o.lt x hx))),t.kept hk (F _ (by simp)),A.trans hk (fun _ _ x=>x) (fun x hx ht=>F x (.inl hx) ht),hp,hq,
   E,v,I,Z,B,z.kept hk (F _ (by simp)),a.kept hk (fun r y=>F r (by simp[y])),d.kept hk (F _ (by simp)),j.kept hk (F _ (by simp)),u,rfl⟩
 case hend=>
  rintro e W' ⟨hv,⟨i,q,p,f',S,⟨hf,D,t,A,hp,hq,E,v,I,Z,B,z,a,d,j,u,d9⟩,hi,a4⟩|⟨_,h⟩⟩
  ·refine⟨hv,.ready,none,by simp,d,fun _=>?_,fun c hc=>by cases hc⟩;have c2:walkR bS n f (N-i) q p=[]:=by
    rcases Nat.eq_zero_or_pos (N-i)with e|e
    ·rw[e];rfl
    ·obtain⟨k,hk⟩:∃ k,N-i=k+1:=⟨N-i-1,by omega⟩;rw[hk];unfold walkR;rw[ac];rintro ⟨h1,h2,h3⟩;rw[hf] at a4;have:=HN.o;rcases a4 with h|h|h|h
     ·exact h1 h
     ·exact h h2
     ·exact h h3
     ·omega
   rw[c2,List.append_nil] at B;have V:Kt (fun x=>x=w.heap.size+1\/x=w.heap.size+2) W' ((W'.putObj (w.heap.size+2) (.loop (C .exhausted none))).putObj (w.heap.size+1) (.deferred none)):=((Kt.refl _ W').putObj (fun _=>.inr rfl) _).putObj (fun _=>.inl rfl) _;have d0:jN (W'.putObj (w.heap.size+2) (.loop (C .exhausted none))) (w.heap.size+1):=(World.putObj_heap_other (by omega)).trans j;have b5:fA (W'.putObj (w.heap.size+2) (.loop (C .exhausted none))) w.heap.size v:=(World.putObj_heap_other (by omega)).trans z;have hc:=lX b5;have J:∀ r,v.ownBlock=some r->¬(r=w.heap.size+1\/r=w.heap.size+2):=fun r y e=>by
    obtain⟨cs,m⟩:=a.blk y;rcases e with rfl|rfl
    ·rw[show W'.heap[w.heap.size+1]?=_ from j] at m;cases m
    ·rw[show W'.heap[w.heap.size+2]?=_ from d] at m;cases m
   have HL:=aA (a.kept V J);have HK:=aA (A.trans (U:=nO) V (fun _ _ x=>x) (fun x hx e=>by omega));have HW:=aA B;have HR:=aA u;clear a A B u J V b5 a4 d9 c2 D t z d j hf hi;go_wp2_with fail;refine⟨by simp,.inl ⟨_,_,rfl,run_takeDeferred d0,?_⟩⟩;refine⟨_,results_tmp rfl _ _ _,v,rfl,?_,HK.o,HR.o⟩;rw[<-HN.o,<-HW.o];exact HL.o
  ·exact h.elim
 case hY=>
  rintro i q p f' S W ⟨hf,D,t,A,hp,hq,E,v,I,Z,B,z,a,d,j,u,rfl⟩ hi e9 b9 a9;rw[<-HN.o] at hi;subst hf;have hL:=d;rw[c6.o] at hL;refine LB hL rfl ?_;rw[<-c6.o];have V:Kt (fun x=>x=w.heap.size+2) W (W.putObj (w.heap.size+2) (.loop (C .busy none))):=(Kt.refl (fun x=>x=w.heap.size+2) W).putObj (fun _=>rfl) _;have J:∀ r,v.ownBlock=some r->¬(r=w.heap.size+2):=fun r y e=>by obtain⟨cs,m⟩:=a.blk y;subst e;rw[show W.heap[w.heap.size+2]?=_ from d] at m;cases m
  have b1:∀ r,v.ownBlock=some r->¬(r=w.heap.size+1):=fun r y e=>by obtain⟨cs,m⟩:=a.blk y;subst e;rw[show W.heap[w.heap.size+1]?=_ from j] at m;cases m
  have b3:∀ r,v.ownBlock=some r->¬(r=kk):=fun r y e=>by obtain⟨cs,m⟩:=a.blk y;rw[e,show W.heap[kk]?=_ from t] at m;simp at m
  have a3:∀ r,v.ownBlock=some r->¬(r=w.heap.size):=fun r y e=>by obtain⟨cs,m⟩:=a.blk y;subst e;rw[show W.heap[w.heap.size]?=_ from z] at m;simp at m
  obtain⟨W2,K⟩:=xe (W.putObj (w.heap.size+2) (.loop (C .busy none)));rw[<-K] at V;have b7:W2.heap.size=W.heap.size:=by rw[K];simp
  have L2:=a.kept V J;have O2:=z.kept V (by omega);have R2:fM W2 (w.heap.size+2) (C .busy none):=by rw[K];exact d.put _
  have D2:=j.kept V (by omega);have P2:=t.kept V (by omega);have kt:Kt nO W2 (W2.alloc (.cells #[.int .u64 p] 22)):=(Kt.refl nO W2).alloc _;obtain⟨v',Y,d5,b2,a6,Q,g,cap,d2⟩:=zkl (W2.alloc (.cells #[.int .u64 p] 22)) v E p (L2.keep kt) hp (by omega) ⟨W2.heap.size,0,none⟩ 1 (by rw[Addr.add_lit];exact lX (nH _ _));subst d2;have kA:Kt (fun x=>x=w.heap.size+2\/v.ownBlock=some x) W Y:=(V.trans (U:=fun x=>x=w.heap.size+2\/v.ownBlock=some x) kt (fun _ _ h=>.inl h) (fun _ _ h=>h.elim)).trans a6 (fun _ _ h=>h) (fun _ _ h=>.inr h);have kB:Kt (fun x=>v.ownBlock=some x) W2 Y:=kt.trans a6 (fun _ _ h=>h.elim) (fun _ _ h=>h);have O4:=O2.kept kB (fun h=>a3 _ h rfl);have f6:=lX O2;have f2:=lX O4;have f7:=wY O4;have e0:=aA d5;have e2:=aA b7;have e3:=aA b2;have KA:=aA kA;have KB:=aA kB;have d7:=aA O4;have e7:=aA R2;have f8:=aA D2;have f9:=aA P2;have c4:=aA Q;have b8:=aA D;have f0:=aA A;have e4:=aA B;have L:=aA u;have HX:=aA I;have c7:=aA a9;have b6:=aA J;have d4:=aA b1;have d6:=aA b3;have e5:=aA a3;have b4:=aA b9;have a2:=aA d;have c3:=aA j;have d8:=aA t;clear b7 I V L2 O2 R2 D2 P2 kt b2 a6 Q kA kB O4 hL D A B u a9 J b1 b3 a3 b9 d j t z a;gi_wp2_with fail
  refine⟨a2.o,?_⟩;rw[<-K];clear K;gi_wp2_with (gi_at_builtin;refine zch _ rfl _ _ _ rfl v (.slice (some ⟨W2.heap.size,0,none⟩) 1 1) rfl rfl _ _ e0.o ?_)
  have e6:¬(v.ownBlock=some (w.heap.size+2)):=fun h=>b6.o _ h rfl
  have R4:=e7.o.kept KB.o e6;have kC:Kt (fun x=>x=w.heap.size+2\/x=w.heap.size\/v.ownBlock=some x) W ((Y.setCell ⟨w.heap.size,0,none⟩ (.slice (some ⟨g,0,none⟩) (E.length+1) cap)).putObj (w.heap.size+2) (.loop (C .ready none))):=
   ((KA.o.mono (fun x _ h=>by rcases h with h|h;exact .inl h;exact .inr (.inr h))).setCell (fun _=>.inr (.inl rfl)) _).putObj (fun _=>.inl rfl) _
  have kD:Kt (fun x=>x=w.heap.size+2\/x=w.heap.size) Y ((Y.setCell ⟨w.heap.size,0,none⟩ (.slice (some ⟨g,0,none⟩) (E.length+1) cap)).putObj (w.heap.size+2) (.loop (C .ready none))):=
   ((Kt.refl _ Y).setCell (fun _=>.inr rfl) _).putObj (fun _=>.inl rfl) _
  have a7:∀ r,Value.ownBlock (.slice (some ⟨g,0,none⟩) (E.length+1) cap)=some r->r≠w.heap.size+2/\r≠w.heap.size/\w.heap.size<=r/\(v.ownBlock=some r\/W.heap.size<=r):=fun r y=>by
   have f1:=a2.o.lt;rcases c4.o with e|⟨r',e,d1⟩
   ·rw[e] at y;exact⟨b6.o r y,e5.o r y,L.o r y,.inl y⟩
   ·rw[e] at y
    cases y
    simp at d1;have:=e2.o;exact⟨by omega,by omega,by omega,.inr (by omega)⟩
  obtain⟨W5,a1⟩:=xe ((Y.setCell ⟨w.heap.size,0,none⟩ (.slice (some ⟨g,0,none⟩) (E.length+1) cap)).putObj (w.heap.size+2) (.loop (C .ready none)));have R5:fM (Y.setCell ⟨w.heap.size,0,none⟩ (.slice (some ⟨g,0,none⟩) (E.length+1) cap)) (w.heap.size+2) (C .busy none):=R4.kept ((Kt.refl (fun x=>x=w.heap.size) Y).setCell (fun _=>rfl) _) (by omega);have R6:fM W5 (w.heap.size+2) (C .ready none):=by rw[a1];exact R5.put _
  have O6:fA W5 w.heap.size (.slice (some ⟨g,0,none⟩) (E.length+1) cap):=by rw[a1];exact(World.putObj_heap_other (by omega)).trans (d7.o.set _)
  rw[<-a1] at kC kD;have c1:Taking c b ao bS R lim n f' hd kk w.heap.size (w.heap.size+1) (w.heap.size+2) w C N (i+1) p (nx bS f' p) f'
    (fun x=>x<w.heap.size\/x=kk\/x=w.heap.size\/x=w.heap.size+1\/x=w.heap.size+2\/Value.ownBlock (.slice (some ⟨g,0,none⟩) (E.length+1) cap)=some x) W5:=by
   refine⟨rfl,?_,?_,?_,?_,hp,E ++ [p],.slice (some ⟨g,0,none⟩) (E.length + 1) cap,by simp[HX.o],by omega,?_,O6,?_,R6,?_,?_,rfl⟩
   ·refine b8.o.kept kC (fun x hx h=>?_);have:=H.o.lt x hx;rcases h with h|h|h
    ·omega
    ·omega
    ·have:=L.o x h;omega
   ·exact d8.o.kept kC (by rintro (h|h|h);omega;omega;exact d6.o _ h rfl)
   ·refine f0.o.trans kC (fun _ _ h=>h) (fun x hx h=>?_);rcases h with h|h|h
    ·omega
    ·omega
    ·have:=L.o x h;omega
   ·exact b8.o.s.nx_lt p b4.o
   ·have e1:N-i=(N-(i+1))+1:=(by omega);rw[<-e4.o,e1,walkR,ae ⟨e9,b4.o,c7.o⟩];simp
   ·exact e3.o.kept kD (fun r y h=>by have:=a7 r y;omega)
   ·exact(c3.o.kept kC (by rintro (h|h|h);omega;omega;exact d4.o _ h rfl))
   ·exact fun r y=>(a7 r y).2.2.1
  have a0:Kt (fun x=>x<w.heap.size\/x=kk\/x=w.heap.size\/x=w.heap.size+1\/x=w.heap.size+2\/v.ownBlock=some x) W W5:=by
   refine kC.mono (fun x _ h=>?_);rcases h with h|h|h
   ·exact .inr (.inr (.inr (.inr (.inl h))))
   ·exact .inr (.inr (.inl h))
   ·exact .inr (.inr (.inr (.inr (.inr h))))
  have b0:∀ x,(x<w.heap.size\/x=kk\/x=w.heap.size\/x=w.heap.size+1\/x=w.heap.size+2\/Value.ownBlock (.slice (some ⟨g,0,none⟩) (E.length+1) cap)=some x)->
    (x<w.heap.size\/x=kk\/x=w.heap.size\/x=w.heap.size+1\/x=w.heap.size+2\/v.ownBlock=some x)\/W.heap.size<=x:=by
   rintro x (h|h|h|h|h|h)
   ·exact .inl (.inl h)
   ·exact .inl (.inr (.inl h))
   ·exact .inl (.inr (.inr (.inl h)))
   ·exact .inl (.inr (.inr (.inr (.inl h))))
   ·exact .inl (.inr (.inr (.inr (.inr (.inl h)))))
   ·rcases (a7 x h).2.2.2 with h'|h'
    ·exact .inl (.inr (.inr (.inr (.inr (.inr h')))))
    ·exact .inr h'
  subst a1;first
   | exact⟨R5,.inl ⟨rfl,f',_,c1,a0,b0⟩⟩
   | exact⟨R5,rfl,f',_,c1,a0,b0⟩
theorem Collect_any(kk c b ao bS R lim n f hd)(o:Nat)(k:o<=8)(hR:R=4096*2 ^ o)(w:World)(h:LS w c b ao bS R lim n f hd)(a:PtrB w kk c):
  Calls prog 253 #[.func (.func 259) #[] #[.pointer (some ⟨kk,0,none⟩)]] w fun e d=>∃ v,e=.returned v/\Lst d v (walkR bS n f (n/16) 0 hd)/\Kt nO w d/\∀ r,v.ownBlock=some r->w.heap.size<=r:=by
 have j:=aA (zeQ kk c b ao bS R lim n f hd o k hR w h a);clear h a;go_enter func253,ntmps253;go_wp2_with fail;refine j.o.mono ?_;rintro e l ⟨v,rfl,g⟩;have i:=aA g;clear g;go_wp2_with fail;go_ret;exact⟨v,rfl,i.o⟩
end Go.Proofs.YtfmgnljlkdmndaaGreatDoor.M
namespace Go.Proofs.YtfmgnljlkdmndaaGreatDoor.W
open Tryz
open Go.RowKit
set_option linter.unusedVariables false
theorem FI(f:Nat->Bool):∀ (M j:Nat),j<M->f j=true->0<aH f M
 | 0,j,h,_=>by omega
 | M+1,j,h,hf=>by
  by_cases e:j=M
  ·rw[e] at hf;rw[mB f M hf];omega
  ·have:=FI f M j (by omega) hf
   cases h2:f M with
   | true=>rw[mB f M h2];omega
   | false=>rw[lM f M h2];exact this
theorem JE{w:World}{b c n:Nat}{ws:List Nat}(h:SetAt w b c n ws):aZ ws=0↔∀ j,j<n->aE ws j=false:=by
 have e:aZ ws=aH (aE ws) (64*ws.length):=uB ws h.lt64 ws.length;rw[e];have hl:=h.len;constructor
 ·intro h0 j a
  cases hb:aE ws j with
  | false=>rfl
  | true=>
   have:=FI (aE ws) (64*ws.length) j (by omega) hb;omega
 ·intro h0;exact ziT _ _ fun j _=>by
   by_cases a:j<n
   ·exact h0 j a
   ·exact h.bit_past j (by omega)
def cU(W:World)(sc:Nat):List Nat:=match W.heap[sc]? with
 | some (.cells cs _ _)=>cs.toList.map fun v=>(intOf v).toNat
 | _=>[]
theorem iX{W:World}{b c n:Nat}{ws:List Nat}(h:SetAt W b c n ws):cU W c=ws:=by
 unfold cU;rw[h.hc];simp[bU,intOf];conv=>rhs;rw[<-List.map_id ws]
 rfl
theorem wR{w f:World}{b c n:Nat}{ws:List Nat}{i:Nat}(h:SetAt w b c n ws)(d:SetAt f b c n (cJ n ws (i:Int) false))(hi:i<n)(hb:aE ws i=true):aZ (cJ n ws (i:Int) false)+1=aZ ws:=by
 have a:aD n (i:Int)=true:=by unfold aD;exact af (by omega)
 have hs:cT n ws (i:Int)=true:=by unfold cT;rw[a,aa,bf,hb]
 have e:cJ n ws (i:Int) false=kK ws i:=by unfold cJ gI;rw[hs,ac (by decide),ae a,aa]
 rw[e] at d ⊢;have hl:=h.len;exact ziU ws i h.lt64 d.lt64 (by omega) hb
def pgL(I:Img)(S:Pg->Bool):List Nat:=(List.range I.np).filter fun i=>S (I.pg i)
theorem pgL_nodup(I:Img)(S:Pg->Bool):(pgL I S).Nodup:=List.nodup_range.filter _
theorem pgL_mem{I:Img}{S:Pg->Bool}{i:Nat} : i∈pgL I S↔i<I.np/\S (I.pg i)=true:=by simp[pgL]
def ok8(I:Img)(j:Nat):Bool:=prgL (decP I) 0 (fun i=>M.word I.mem (4096*i)) (fun i=>M.word I.mem (4096*i+8)) ((pgL I fun p=>isF p (j:Int)).length+1) (pgL I fun p=>isF p (j:Int)) (I.hd.getD j 0) 0
section
variable {α : Type} [DecidableEq α] {dec : α->Option Nat} {nil : α} {nxt bk:Nat->α}
theorem FH{l:List Nat}{b : α} : prgL dec nil nxt bk (l.length+1) l nil b=l.isEmpty:=by rw[prgL,ae rfl]
theorem sV{l:List Nat}{p b : α}(hp:p≠nil)(h:∀ i,dec p=some i->i ∉ l\/bk i≠b):prgL dec nil nxt bk (l.length+1) l p b=false:=by
 rw[prgL,ac hp]
 cases hd:dec p with
 | none=>rfl
 | some i=>
  show(decide (i∈l) && _)=false
  rcases h i hd with a|a
  ·rw[ah a];rfl
  ·rw[ah a];simp
theorem EZ{l:List Nat}{p b : α}{i:Nat}(hp:p≠nil)(hd:dec p=some i)(hi:i∈l)(hb:bk i=b):prgL dec nil nxt bk (l.length+1) l p b=prgL dec nil nxt bk ((l.erase i).length+1) (l.erase i) (nxt i) p:=by
 rw[prgL,ac hp,hd];show(decide (i∈l) && (decide (bk i=b) && _))=_
 rw[af hi,af hb,List.length_erase_of_mem hi];have:l.length-1+1=l.length:=by have:=List.length_pos_of_mem hi;omega
 rw[this];rfl
end
structure L8(w W:World)(cb sb sc n a:Nat)(ws:List Nat)(l:List Nat):Prop where
 bx:W.heap[cb]?=some (.cells #[.int .i64 a] 3 (0,0))
 st:SetAt W sb sc n ws
 ge:w.heap.size<=sc
 ne:cb≠sc
 k:Kt nO w W
 nd:l.Nodup
 mem:∀ i,i<n->aE ws i=decide (i∈l)
 lt:∀ i,i∈l->i<n
theorem L8.keep{w W W':World}{d c sc n a:Nat}{ws l:List Nat}(h:L8 w W d c sc n a ws l)(b:Kt nO W W'):L8 w W' d c sc n a ws l:=
 ⟨(b.block _ (lH h.bx) (fun x=>x)).trans h.bx,h.st.kept b (fun x=>x) (fun x=>x),h.ge,h.ne,nT h.k b,h.nd,h.mem,h.lt⟩
theorem L8.met{w W W':World}{f d sc n a i:Nat}{ws l:List Nat}(h:L8 w W f d sc n a ws l)(g:Kt (fun x=>x=sc) W W')(hi:i∈l)(hs:SetAt W' d sc n (cJ n ws (i:Int) false)):L8 w W' f d sc n a (cJ n ws (i:Int) false) (l.erase i):=by
 refine⟨(g.block _ (lH h.bx) h.ne).trans h.bx,hs,h.ge,h.ne,h.k.trans g (fun _ _ x=>x) (fun x hx e=>by have:=h.ge;omega),h.nd.erase i,fun j c=>?_,fun j c=>h.lt j (List.mem_of_mem_erase c)⟩;rw[tL h.st.len i (h.lt i hi) false j];by_cases e:j=i
 ·rw[ae e,e];exact(ah (fun b=>((h.nd.mem_erase_iff).1 b).1 rfl)).symm
 ·rw[ac e,h.mem j c,decide_eq_decide,h.nd.mem_erase_iff];exact⟨fun b=>⟨e,b⟩,fun b=>b.2⟩
def oB(l:List Nat)(x:Option Nat):Bool:=match x with|some i=>decide (i∈l)|none=>false
theorem L8.ins{w W:World}{c b sc n a:Nat}{ws l:List Nat}(h:L8 w W c b sc n a ws l)(x:Option Nat)(hx:∀ i,x=some i->i<n):cT n ws (iA x)=oB l x:=by
 cases x with
 | none=>simp[iA,cT,aD,oB]
 | some i=>
  have:=hx i rfl;show cT n ws (i:Int)=decide (i∈l)
  unfold cT aD;rw[af (by omega),aa,bf,h.mem i this]
theorem L8.empty{w W:World}{d c sc n a:Nat}{ws l:List Nat}(h:L8 w W d c sc n a ws l):l.isEmpty=decide (aZ ws=0):=by
 rw[Bool.eq_iff_iff,List.isEmpty_iff,bW,JE h.st];constructor
 ·intro e j b;rw[h.mem j b,e];rfl
 ·intro hz
  cases l with
  | nil=>rfl
  | cons x t=>
   exfalso
   have hx:=h.lt x aw;have:=hz x hx;rw[h.mem x hx,af aw] at this
   cases this
theorem decP_lt{I:Img}{k r p i:Nat}(hS:Sn9 I k r)(h:decP I p=some i):i<I.np/\p=I.bS+4096*i/\p≠0:=by
 unfold decP at h;split at h
 ·rename_i hc;injection h with h
  have:=hS.nm;have hb:=hS.b0;omega
 ·cases h
theorem word_lt{w:World}{I:Img}{V:ImV}(h:ImD w I V)(q:Nat)(hq:q+8<=I.nm):M.word I.mem q<18446744073709551616:=by obtain⟨⟨d,c,b⟩,-⟩:=h.sl;have a:=h.mem;rw[b] at a;obtain⟨e,o,-,-,hc⟩:=a.at q (by omega);exact M.wordTo_lt (fun i=>I.mem (q+i)) 8 fun i hi=>(hc (q+i) (by omega)).1
theorem QB(b a:Nat)(p:Pg)(w:World)(h:w.heap[b]?=some (.cells #[.int .i64 a] 3 (0,0))):
  Calls prog 194 #[gX p,.pointer (some ⟨b,0,none⟩)] w fun e g=>e=.returned (.bool (isF p (a:Int)))/\Kt nO w g:=by
 have c0:w.cell? ⟨b,0,none⟩=some (.int .i64 a):=by simp[World.cell?,h]
 have d:=aA (fun W=>qP p (a:Int) W);have m:=aA h;have c1:(w.alloc (aW p)).cell? ⟨b,0,none⟩=some (.int .i64 a):=(show Kt nO w (w.alloc (aW p))from(Kt.refl _ _).alloc _).cell (fun x=>x) c0;have j:=aA (nH w (aW p));have f:=aA (show Kt nO w (w.alloc (aW p))from(Kt.refl _ _).alloc _);generalize isF p (a:Int)=l at *;clear h;go_enter func194,ntmps194;go_wp2_with fail;refine(d.o _).mono ?_;rintro e k ⟨rfl,c⟩;have i:=aA (nT f.o c);clear c c0 c1;go_wp2_with fail;go_ret;exact⟨rfl,i.o⟩
theorem zh4(a:Array Value)(w:World):Sem.run prog (callFunc 195 a) w=.ok (.enter 195 a) w:=by simp[callFunc,go_sem,func195];rfl
theorem zjs{Q:Exit->Act->World->Prop}{o:Oper}{a:Act}{w:World}{x y z:Operand}{c:Array TypeId}{b sc n:Nat}{ws:List Nat}{i p:Int}(d:o.op=.call { callee:=.value (.func 195),args:=#[x,y,z],argTypes:=c })
  (hx:a.eval x=.pointer (some ⟨b,0,none⟩)) (hy:a.eval y=.int .i64 i) (hz:a.eval z=.int .i64 p) (hs:SetAt w b sc n ws) (hb:cT n ws i=false) (h:∀ a',a'.defers=a.defers->Q (.panic [{ v:=.iface 189 (.int .i64 p),recovered:=false }]) a' w):gT prog Q o a w:=by
 refine JQ zh4 d ?_;have e:(#[x,y,z] : Array Operand).map a.eval=#[.pointer (some ⟨b,0,none⟩),.int .i64 i,.int .i64 p]:=by simp[hx,hy,hz]
 rw[e];refine(vO b sc n ws i p w hs hb).mono ?_;rintro e f ⟨rfl,rfl⟩;exact⟨_,rfl,h⟩
theorem zdk(b:Nat)(I:Img)(V:ImV)(k r:Nat)(hS:Sn9 I k r)(w:World)(hI:ImAt w b I V):
  Calls prog 144 #[.pointer (some ⟨b,0,none⟩)] w fun e w'=>e=bG (fst1 (k+1) (ok8 I))/\Kt nO w w':=by
 obtain⟨-,-,-,⟨ha,hc,hh⟩,-,-,-,-,-⟩:=hI.d.sl;obtain⟨c0,c1,c2,c3,c4,c5,c6,c7,c8⟩:=hI.cells;rw[hh] at c7;have N:=hI.d.hds;rw[hh] at N;obtain⟨bl,o,rfl,d7,R⟩:=N.at 0 (by rw[hS.hl];omega);obtain⟨EE,X⟩:=xe (bG (fst1 (k+1) (ok8 I)));rw[<-X];have HE:=aA X;have HI:=aA hI;have HS:=aA hS;rw[hS.hl] at c7 R;have d2:=aA R;have e1:=hS.k8;have d1:=hS.np1;have e3:∀ (fn:Fn) (first cap:Array Value) (w:World),(Instr.makeFunc fn first cap).run prog w=.ok (.func fn first cap) w:=fun _ _ _ _=>rfl
 obtain⟨K,hK⟩:=xe (k+1);rw[<-hK] at c7;have U:=aA hK;have e2:K<=9:=by omega
 clear X hI hS hh N R hK d7;go_enter func144,ntmps144;go_wp2_with fail;go_loopw [11] (fun i W=>∃ a:Nat,a<=K/\i=.int .i64 a/\Hd (Kt nO w W/\∀ x,x<a->ok8 I x=true)) (fun i _=>K-(intOf i).toNat)
 case atStart=>exact⟨0,az _,rfl,aA ⟨Kt.refl _ _,fun x hx=>by omega⟩⟩
 case round=>
  clear c0 c1 c2 c3 c4 c5 c6 c7 c8;obtain⟨a,e4,rfl,hR⟩:=hrel;by_cases b0:a<K
  ·have b9:(a:Int)<K:=(by omega);obtain⟨c,a8⟩:=d2.o a (by rw[<-U.o];exact b0);have d0:=hR.o.1.cell (fun x=>x) a8;obtain⟨p,hp⟩:=xe (I.hd.getD a 0);rw[<-hp] at d0 c;have FB:=aA (show ok8 I a=false->cG (a:Int)=EE from fun h=>by rw[HE.o,gA (by rw[<-U.o];exact b0) hR.o.2 h];rfl);have GA:=aA (show ok8 I a=true->∀ x,x<a+1->ok8 I x=true from fun h x hx=>by
    by_cases e:x=a
    ·rw[e];exact h
    ·exact hR.o.2 x (by omega))
   have L:=aA (show prgL (decP I) 0 (fun i=>M.word I.mem (4096*i)) (fun i=>M.word I.mem (4096*i+8)) ((pgL I fun p=>isF p (a:Int)).length+1) (pgL I fun p=>isF p (a:Int)) p 0=ok8 I a by rw[hp];rfl);generalize ok8 I a=z at *;have B1:=aA (show(wr.alloc (.cells #[.int .i64 a] 3 (0,0))).heap[wr.heap.size]?=some (.cells #[.int .i64 a] 3 (0,0))from nH _ _);have K1:=aA (show Kt nO w (wr.alloc (.cells #[.int .i64 a] 3 (0,0)))from hR.o.1.alloc _);have SZ:=aA (show wr.heap.size<(wr.alloc (.cells #[.int .i64 a] 3 (0,0))).heap.size by simp);clear hp a8;go_wp2_with fail;generalize wr.alloc (.cells #[.int .i64 a] 3 (0,0))=W1 at *;generalize wr.heap.size=u at *;refine(TM b u I V (fun p=>isF p (a:Int)) W1 (HI.o.keep K1.o) d1 (fun i W hi hk=>QB u a (I.pg i) W ((hk.block _ (lH B1.o) (fun x=>x)).trans B1.o))).mono ?_;rintro e w2 ⟨C,sc,ws,rfl,b6,b1,D,b4,a4⟩;have f:=aA (show L8 w w2 u C sc I.np a ws (pgL I fun p=>isF p (a:Int))from⟨(a4.block _ (lH B1.o) (fun x=>x)).trans B1.o,b6,an K1.o.size D,by have:=SZ.o;omega,nT K1.o a4,pgL_nodup _ _,fun i hi=>by rw[b4 i hi,Bool.eq_iff_iff,bW,pgL_mem];exact⟨fun h=>⟨hi,h⟩,fun h=>h.2⟩,fun i hi=>(pgL_mem.1 hi).1⟩)
   clear b6 b1 D b4 a4 d0 B1 K1 SZ;go_wp2_with fail;go_loopw [3,5] (fun pv bv W=>∃ p q:Nat,pv=.int .u64 p/\bv=.int .u64 q/\p<18446744073709551616/\q<18446744073709551616/\Hd (∃ ws l,L8 w W u C sc I.np a ws l/\prgL (decP I) 0 (fun i=>M.word I.mem (4096*i)) (fun i=>M.word I.mem (4096*i+8)) (l.length+1) l p q=z)) (fun _ _ W=>aZ (cU W sc))
   case atStart=>exact⟨p,0,rfl,rfl,c,by decide,aA ⟨_,_,f.o,L.o⟩⟩
   case round=>
    clear f L c;obtain⟨p,q,rfl,rfl,c,d9,hL⟩:=hrel;obtain⟨ws,l,hl,b3⟩:=hL.o;have f:=aA hl;have L:=aA b3;clear hL hl b3;by_cases t:p=0
    ·have a9:((p:Int) != 0)=false:=(by rw[t];rfl);have Y:=aA (show z=decide (aZ ws=0)by rw[<-L.o,t,FH,f.o.empty]);obtain⟨cw,b7⟩:=xe (aZ ws);have a3:=aA (fun (x:KW wr)=>tZ C sc I.np ws x.v (f.o.keep x.k).st);rw[<-b7] at a3 Y;have c0:∀ x:KW wr,x.v.cell? ⟨u,0,none⟩=some (.int .i64 a):=fun x=>by simp[World.cell?,(f.o.keep x.k).bx]
     clear t b7;by_cases g:cw=0
     case neg=>
      have A:=aA (FB.o (by rw[Y.o,ah g]));have f4:((cw:Int) == 0)=false:=(by rw[ag];omega);clear g;go_wp2_with fail;refine gQ (by kernel_rfl) (by kernel_rfl) (by exact da _ _) ?_;dsimp only[List.dropLast,List.getLast];repeat (go_big_quiet_step (first|(go_at_call 190;exact Calls.kept_of ((a3.o _).mono fun _ _ ⟨s,n⟩=>⟨s,n▸Kt.refl _ _⟩))))
      refine wpQuiet_nil ?_;refine⟨rfl,?_⟩;rintro _ ⟨x,rfl⟩;exact gP (p:=(a:Int)) rfl rfl rfl fun _ hd=>⟨hd,A.o,nT f.o.k x.k⟩
     have A:=aA (GA.o (by rw[Y.o,af g]));have f4:((cw:Int) == 0)=true:=(by rw[co];omega);have a1:=aA (fun W=>dD (a:Int) W);clear g;go_wp2_with fail;refine cS (by kernel_rfl) (by kernel_rfl) ?_;repeat (go_big_quiet_step (first|(go_at_call 190;exact Calls.kept_of ((a3.o _).mono fun _ _ ⟨s,n⟩=>⟨s,n▸Kt.refl _ _⟩))|(go_at_call 185;exact Calls.kept_of ((a1.o _).mono fun _ _ ⟨s,n⟩=>⟨s,n▸Kt.refl _ _⟩))))
     refine wpQuiet_nil ?_;intro x;have R3:=aA (show Kt nO w x.v/\_ from⟨nT f.o.k x.k,A.o⟩);clear c0;go_wp2_with fail;go_round
     case rel=>exact⟨a+1,by omega,by go_num,R3⟩
     case measure=>simp[intOf];omega
    ·have a9:((p:Int) != 0)=true:=(by rw[cu];omega);have IM:=aA (HI.o.keep f.o.k);have a2:=aA (fun (x:KW wr)=>zhI b I V p c x.v (IM.o.keep x.k) HS.o.be);have Q:=aA (f.o.ins (decP I p) (fun i h=>(decP_lt HS.o h).1));obtain⟨di,y⟩:=xe (iA (decP I p));rw[<-y] at a2 Q;have d8:=aA y;have c0:∀ x:KW wr,x.v.cell? ⟨u,0,none⟩=some (.int .i64 a):=fun x=>by simp[World.cell?,(f.o.keep x.k).bx]
     clear y
     cases hin:cT I.np ws di with
     | false=>
      have A:=aA (FB.o (by
       rw[<-L.o];refine sV t fun i hi=>.inl fun hm=>?_
       have:=Q.o;rw[hi,hin] at this;exact absurd hm (of_decide_eq_false this.symm)))
      have T:=aA hin;clear hin t;go_wp2_with fail;refine gQ (by kernel_rfl) (by kernel_rfl) (by exact da _ _) ?_;dsimp only[List.dropLast,List.getLast];repeat (go_big_quiet_step (first|(go_at_call 196;exact Calls.kept_of ((a2.o _).mono fun _ _ ⟨s,n⟩=>⟨s,n▸Kt.refl _ _⟩))))
      refine wpQuiet_nil ?_;refine⟨rfl,?_⟩;rintro _ ⟨x,rfl⟩;exact zjs (p:=(a:Int)) rfl rfl rfl rfl (f.o.keep x.k).st T.o fun _ hd=>⟨hd,A.o,nT f.o.k x.k⟩
     | true=>
      have b8:∃ i,decP I p=some i/\i∈l:=by
       have:=Q.o;rw[hin] at this
       cases hd:decP I p with
       | none=>rw[hd] at this;cases this
       | some i=>rw[hd] at this;exact⟨i,rfl,bw this.symm⟩
      obtain⟨i,hi,a5⟩:=b8;obtain⟨B,a6,-⟩:=decP_lt HS.o hi;have y:di=(i:Int):=(by rw[d8.o,hi];rfl);subst y;have T:=aA hin;have P:=aA a5;have HD:=aA (show decP I p=some i/\p≠0 from⟨hi,t⟩);have J:=aA a6;have a0:=aA B;clear hin a5 hi a6 B t;go_wp2_with fail;have G:=aA (show Calls prog 196 #[.pointer (some ⟨b,0,none⟩),.int .u64 p] wr.drew fun e w'=>e=.returned (.int .i64 i)/\w'=wr.drew from(a2.o ⟨wr.drew,(Kt.refl nO wr).drew⟩));have b2:=aA (wO C sc I.np ws (i:Int) (a:Int) wr.drew (f.o.keep (Kt.refl nO wr).drew).st T.o);have y0:wr.drew.cell? ⟨u,0,none⟩=some (.int .i64 a):=c0 ⟨wr.drew,(Kt.refl nO wr).drew⟩;clear c0;go_cut [26] (fun v W=>Hd (SetAt W C sc I.np (cJ I.np ws (i:Int) false)/\Kt (fun x=>x=sc) wr.drew W/\W.heap.size=wr.drew.heap.size))
      case first=>
       go_region_held3 (fun w'=>w'.cell? ⟨u,0,none⟩=some (.int .i64 a)) (first|with_reducible exact y0|with_reducible exact y1) (first|(go_at_call 196;with_reducible refine G.o.mono ?_;rintro e w1 ⟨rfl,rfl⟩)|(go_at_call 195;with_reducible refine b2.o.mono ?_;rintro e w1 ⟨rfl,s,n,h3⟩;have M1:=aA (show SetAt w1 C sc I.np (cJ I.np ws (i:Int) false)/\Kt (fun x=>x=sc) wr.drew w1/\w1.heap.size=wr.drew.heap.size from⟨s,n,h3⟩);have y1:w1.cell? ⟨u,0,none⟩=some (.int .i64 a):=n.cell f.o.ne y0;clear s n h3)|fail)
       all_goals (go_wp2_with fail;go_meet;exact M1)
      case rest=>
      rename_i wc _;have MC:=aA hcut.o;clear hcut;have F:=aA (show L8 w wc u C sc I.np a (cJ I.np ws (i:Int) false) (l.erase i)from(f.o.keep (Kt.refl nO wr).drew).met MC.o.2.1 P.o MC.o.1);have d6:=aA (show aZ (cU wc sc)<aZ (cU wr sc)by
       rw[iX F.o.st,iX f.o.st];have hb:aE ws i=true:=(by rw[f.o.mem i a0.o];exact af P.o);have:=wR f.o.st F.o.st a0.o hb;omega)
      have S:=aA (HI.o.keep F.o.k);have b5 : 4096*i+8+8<=I.nm:=(by have:=HS.o.nm;have:=a0.o;omega);have Z:=aA (fun (x:KW wc)=>wQ b I V (4096*i+8) x.v (S.o.keep x.k) b5 HS.o.be);have a7:=aA (fun (W:World) (hW:Kt nO wc W)=>wQ b I V (4096*i) W (S.o.keep hW) (by omega) HS.o.be);have e5:p<9223372036854775808:=(by have:=J.o;have:=HS.o.be;omega);have e8:((I.bS+(4096*i+8):Nat):Int)=(p:Int)+8:=(by have:=J.o;omega);have e0:((I.bS+4096*i:Nat):Int)=(p:Int):=(by have:=J.o;omega);rw[e8] at Z;rw[e0] at a7;have d3:=aA (show M.word I.mem (4096*i+8)=q->prgL (decP I) 0 (fun i=>M.word I.mem (4096*i)) (fun i=>M.word I.mem (4096*i+8)) ((l.erase i).length+1) (l.erase i) (M.word I.mem (4096*i)) p=z from fun h=>by rw[<-L.o];exact(EZ (nxt:=fun i=>M.word I.mem (4096*i)) (bk:=fun i=>M.word I.mem (4096*i+8)) HD.o.2 HD.o.1 P.o h).symm)
      have d4:=aA (show ¬M.word I.mem (4096*i+8)=q->cG (a:Int)=EE from fun h=>FB.o (by
       rw[<-L.o];refine sV HD.o.2 fun j hj=>.inr ?_
       rw[HD.o.1] at hj;injection hj with hj
       rw[<-hj];exact h))
      have c9:=aA (word_lt S.o.d (4096*i) (by omega));generalize M.word I.mem (4096*i+8)=wb at *;generalize M.word I.mem (4096*i)=wn at *;have c0:∀ x:KW wc,x.v.cell? ⟨u,0,none⟩=some (.int .i64 a):=fun x=>by simp[World.cell?,(F.o.keep x.k).bx]
      clear e8 e0 y0 G b2 b5;by_cases g:wb=q
      case neg=>
       have A:=aA (d4.o g);have f4:((wb:Int) == (q:Int))=false:=(by rw[ag];omega);clear g;go_wp2_with fail;refine gQ (by kernel_rfl) (by kernel_rfl) (by exact da _ _) ?_;dsimp only[List.dropLast,List.getLast];repeat (go_big_quiet_step (first|(go_at_call 197;exact Calls.kept_of ((Z.o _).mono fun _ _ ⟨s,m,n⟩=>⟨s,n▸(Kt.refl _ _).drewN m⟩))))
       refine wpQuiet_nil ?_;refine⟨rfl,?_⟩;rintro _ ⟨x,rfl⟩;exact gP (p:=(a:Int)) rfl rfl rfl fun _ hd=>⟨hd,A.o,nT F.o.k x.k⟩
      have A:=aA (d3.o g);have f4:((wb:Int) == (q:Int))=true:=(by rw[co];omega);have a1:=aA (fun W=>dD (a:Int) W);clear g;go_wp2_with fail;refine cS (by kernel_rfl) (by kernel_rfl) ?_;repeat (go_big_quiet_step (first|(go_at_call 197;exact Calls.kept_of ((Z.o _).mono fun _ _ ⟨s,m,n⟩=>⟨s,n▸(Kt.refl _ _).drewN m⟩))|(go_at_call 185;exact Calls.kept_of ((a1.o _).mono fun _ _ ⟨s,n⟩=>⟨s,n▸Kt.refl _ _⟩))))
      refine wpQuiet_nil ?_;intro x;clear c0;go_wp2_with fail;refine(a7.o x.v x.k).mono ?_;rintro e w5 ⟨rfl,m5,rfl⟩;have KF:=aA (nT x.k ((Kt.refl nO x.v).drewN m5));have R3:=aA (show ∃ ws l,L8 w (x.v.drewN m5) u C sc I.np a ws l/\prgL (decP I) 0 (fun i=>M.word I.mem (4096*i)) (fun i=>M.word I.mem (4096*i+8)) (l.length+1) l wn p=z from⟨_,_,F.o.keep KF.o,A.o⟩);have d5:=aA (show aZ (cU (x.v.drewN m5) sc)<aZ (cU wr sc)by
       rw[iX (F.o.keep KF.o).st,<-iX F.o.st];exact d6.o)
      go_wp2_with fail;go_round
      case rel=>exact⟨wn,p,rfl,rfl,c9.o,c,R3⟩
      case measure=>exact d5.o
  ·obtain rfl:a=K:=(by omega);have b9:¬(a:Int)<a:=(by omega);have E:=aA (show Ending.returned (.tuple #[])=EE by rw[HE.o,fst1_ok (fun x hx=>hR.o.2 x (by rw[U.o];exact hx))];rfl);go_wp2_with fail;first|go_end0|go_ret
   exact⟨E.o,hR.o.1⟩
def prS(c:Int)(p:Pg):Bool:=decide (p.kd=4) && (decide (p.cl=c) && !decide (p.lv=(celN9 p.cl.toNat:Int)))
def dec10(I:Img)(x:Int):Option Nat:=if 0<=x/\x<(I.np:Int) then some x.toNat else none
def ok10(I:Img)(j:Nat):Bool:=prgL (dec10 I) (-1) (fun i=>(I.pg i).nx) (fun i=>(I.pg i).pv) ((pgL I (prS (j:Int))).length+1) (pgL I (prS (j:Int))) (I.pt.getD j 0) (-1)
theorem PD(g a:Nat)(p:Pg)(c:Nat)(hc:p.cl=(c:Int))(s:c<=7)(w:World)(h:w.heap[g]?=some (.cells #[.int .i64 a] 3 (0,0))):
  Calls prog 199 #[gX p,.pointer (some ⟨g,0,none⟩)] w fun e o=>e=.returned (.bool (prS (a:Int) p))/\Kt nO w o:=by
 have c0:w.cell? ⟨g,0,none⟩=some (.int .i64 a):=by simp[World.cell?,h]
 have n:=aA (fun W=>IG p c hc s W);have c1:(w.alloc (aW p)).cell? ⟨g,0,none⟩=some (.int .i64 a):=(show Kt nO w (w.alloc (aW p))from(Kt.refl _ _).alloc _).cell (fun x=>x) c0;have i:=aA (show Kt nO w (w.alloc (aW p))from(Kt.refl _ _).alloc _);have E:=aA (show prS (a:Int) p=(decide (p.kd=4) && (decide (p.cl=(a:Int)) && !decide (p.lv=(celN9 c:Int))))by unfold prS;rw[hc,aa]);generalize decide (p.lv=(celN9 c:Int))=m at *;generalize prS (a:Int) p=k at *;clear h hc;obtain⟨kd,od,cl,lv,nx,pv,fs,b0,b1,b2,b3⟩:=p;dsimp only at E;by_cases j:kd=4
 ·subst j;by_cases b:cl=(a:Int)
  ·subst b;have d:=aA (show(!m)=k by rw[E.o];simp)
   cases m with
   | false=>
    go_enter func199,ntmps199;go_wp2_with fail;refine(n.o _).mono ?_;rintro e r ⟨rfl,f⟩;have l:=aA (nT i.o f);clear f c0 c1;go_wp2_with fail;go_ret;exact⟨cO d.o,l.o⟩
   | true=>
    go_enter func199,ntmps199;go_wp2_with fail;refine(n.o _).mono ?_;rintro e r ⟨rfl,f⟩;have l:=aA (nT i.o f);clear f c0 c1;go_wp2_with fail;go_ret;exact⟨cO d.o,l.o⟩
  ·have d:=aA (show false=k by rw[E.o];simp[b]);have q:(cl == (a:Int))=false:=(by rw[ag];exact b);clear b;go_enter func199,ntmps199;go_wp2_with fail;go_ret;exact⟨cO d.o,i.o⟩
 ·have d:=aA (show false=k by rw[E.o];simp[j]);have q:(kd == 4)=false:=by rw[ag];exact j
  clear j;go_enter func199,ntmps199;go_wp2_with fail;go_ret;exact⟨cO d.o,i.o⟩
theorem dec10_i{I:Img}{x:Int}{i:Nat}(h:dec10 I x=some i):i<I.np/\x=(i:Int)/\x ≠ -1:=by
 unfold dec10 at h;split at h
 ·injection h with h
  omega
 ·cases h
theorem zjF{w W:World}{c b sc a:Nat}{I:Img}{ws l:List Nat}(h:L8 w W c b sc I.np a ws l)(x:Int):cT I.np ws x=oB l (dec10 I x):=by
 unfold dec10;by_cases hx : 0<=x/\x<(I.np:Int)
 ·rw[ae hx];obtain⟨i,rfl⟩:=au hx.1;rw[aa];show cT I.np ws (i:Int)=decide (i∈l)
  unfold cT aD;rw[af (by omega),aa,bf,h.mem i (by omega)]
 ·rw[ac hx];show cT I.np ws x=false
  unfold cT aD;rw[ah hx];rfl
theorem zcq(b:Nat)(I:Img)(V:ImV)(k r:Nat)(hS:Sn9 I k r)(w:World)(hI:ImAt w b I V):
  Calls prog 146 #[.pointer (some ⟨b,0,none⟩)] w fun e w'=>e=bG (fst1 8 (ok10 I))/\Kt nO w w':=by
 obtain⟨-,⟨pa,pc,hp⟩,-,-,⟨ta,tc,ht⟩,-,-,-,-⟩:=hI.d.sl;obtain⟨c0,c1,c2,c3,c4,c5,c6,c7,Y⟩:=hI.cells;rw[ht] at Y;have P:=hI.d.pts;rw[ht] at P;obtain⟨bl,o,rfl,e7,N⟩:=P.at 0 (by rw[hS.tl];omega);obtain⟨EE,S⟩:=xe (bG (fst1 8 (ok10 I)));rw[<-S];have HE:=aA S;have HI:=aA hI;have HS:=aA hS;have SP:=aA hp;rw[hS.tl] at Y N;have c9:=aA N;have b9:=hS.np1;have f0:∀ (fn:Fn) (first cap:Array Value) (w:World),(Instr.makeFunc fn first cap).run prog w=.ok (.func fn first cap) w:=fun _ _ _ _=>rfl
 obtain⟨n,hn⟩:=xe (I.np);have HN:=aA hn;clear S hI hS ht P N e7 hp hn;go_enter func146,ntmps146;go_wp2_with fail;go_loopw [11] (fun i W=>∃ a:Nat,a<=8/\i=.int .i64 a/\Hd (Kt nO w W/\∀ x,x<a->ok10 I x=true)) (fun i _=>8-(intOf i).toNat)
 case atStart=>exact⟨0,az _,rfl,aA ⟨Kt.refl _ _,fun x hx=>by omega⟩⟩
 case round=>
  clear c0 c1 c2 c3 c4 c5 c6 c7 Y;obtain⟨a,f2,rfl,hR⟩:=hrel;by_cases a7:a<8
  ·have b8:(a:Int)<8:=(by omega);obtain⟨J,a5⟩:=c9.o a a7;have d0:=hR.o.1.cell (fun x=>x) a5;obtain⟨p,hp⟩:=xe (I.pt.getD a 0);rw[<-hp] at d0 J;have FB:=aA (show ok10 I a=false->cG (a:Int)=EE from fun h=>by rw[HE.o,gA a7 hR.o.2 h];rfl);have GA:=aA (show ok10 I a=true->∀ x,x<a+1->ok10 I x=true from fun h x hx=>by
    by_cases e:x=a
    ·rw[e];exact h
    ·exact hR.o.2 x (by omega))
   have K:=aA (show prgL (dec10 I) (-1) (fun i=>(I.pg i).nx) (fun i=>(I.pg i).pv) ((pgL I (prS (a:Int))).length+1) (pgL I (prS (a:Int))) p (-1)=ok10 I a by rw[hp];rfl);generalize ok10 I a=A at *;have B1:=aA (show(wr.alloc (.cells #[.int .i64 a] 3 (0,0))).heap[wr.heap.size]?=some (.cells #[.int .i64 a] 3 (0,0))from nH _ _);have K1:=aA (show Kt nO w (wr.alloc (.cells #[.int .i64 a] 3 (0,0)))from hR.o.1.alloc _);have SZ:=aA (show wr.heap.size<(wr.alloc (.cells #[.int .i64 a] 3 (0,0))).heap.size by simp);clear hp a5;go_wp2_with fail;generalize wr.alloc (.cells #[.int .i64 a] 3 (0,0))=W1 at *;generalize wr.heap.size=z at *;refine(TJ b z I V (prS (a:Int)) W1 (HI.o.keep K1.o) b9 (fun i W hi hk=>by obtain⟨_,_,c,_,-,-,-,-,y5,y6,-⟩:=HS.o.pg i hi;exact PD z a (I.pg i) c y5 y6 W ((hk.block _ (lH B1.o) (fun x=>x)).trans B1.o))).mono ?_
   rintro e w2 ⟨R,sc,ws,rfl,b4,a9,F,b3,a1⟩;have f:=aA (show L8 w w2 z R sc I.np a ws (pgL I (prS (a:Int)))from⟨(a1.block _ (lH B1.o) (fun x=>x)).trans B1.o,b4,an K1.o.size F,by have:=SZ.o;omega,nT K1.o a1,pgL_nodup _ _,fun i hi=>by rw[b3 i hi,Bool.eq_iff_iff,bW,pgL_mem];exact⟨fun h=>⟨hi,h⟩,fun h=>h.2⟩,fun i hi=>(pgL_mem.1 hi).1⟩)
   clear b4 a9 F b3 a1 d0 B1 K1 SZ;go_wp2_with fail;go_loopw [3,5] (fun pv bv W=>∃ p q:Int,pv=.int .i64 p/\bv=.int .i64 q/\Hd (∃ ws l,L8 w W z R sc I.np a ws l/\prgL (dec10 I) (-1) (fun i=>(I.pg i).nx) (fun i=>(I.pg i).pv) (l.length+1) l p q=A)) (fun _ _ W=>aZ (cU W sc))
   case atStart=>exact⟨p,-1,rfl,rfl,aA ⟨_,_,f.o,K.o⟩⟩
   case round=>
    clear f K J;obtain⟨p,q,rfl,rfl,hL⟩:=hrel;obtain⟨ws,l,hl,b2⟩:=hL.o;have f:=aA hl;have K:=aA b2;clear hL hl b2;by_cases m:p = -1
    ·have a6:(p != -1)=false:=(by rw[m];rfl);have T:=aA (show A=decide (aZ ws=0)by rw[<-K.o,m,FH,f.o.empty]);obtain⟨cw,b5⟩:=xe (aZ ws);have a0:=aA (fun (x:KW wr)=>tZ R sc I.np ws x.v (f.o.keep x.k).st);rw[<-b5] at a0 T;have c0:∀ x:KW wr,x.v.cell? ⟨z,0,none⟩=some (.int .i64 a):=fun x=>by simp[World.cell?,(f.o.keep x.k).bx]
     clear m b5;by_cases g:cw=0
     case neg=>
      have C:=aA (FB.o (by rw[T.o,ah g]));have f4:((cw:Int) == 0)=false:=(by rw[ag];omega);clear g;go_wp2_with fail;refine gQ (by kernel_rfl) (by kernel_rfl) (by exact da _ _) ?_;dsimp only[List.dropLast,List.getLast];repeat (go_big_quiet_step (first|(go_at_call 190;exact Calls.kept_of ((a0.o _).mono fun _ _ ⟨t,u⟩=>⟨t,u▸Kt.refl _ _⟩))))
      refine wpQuiet_nil ?_;refine⟨rfl,?_⟩;rintro _ ⟨x,rfl⟩;exact gP (p:=(a:Int)) rfl rfl rfl fun _ hd=>⟨hd,C.o,nT f.o.k x.k⟩
     have C:=aA (GA.o (by rw[T.o,af g]));have f4:((cw:Int) == 0)=true:=(by rw[co];omega);have X:=aA (fun W=>dD (a:Int) W);clear g;go_wp2_with fail;refine cS (by kernel_rfl) (by kernel_rfl) ?_;repeat (go_big_quiet_step (first|(go_at_call 190;exact Calls.kept_of ((a0.o _).mono fun _ _ ⟨t,u⟩=>⟨t,u▸Kt.refl _ _⟩))|(go_at_call 185;exact Calls.kept_of ((X.o _).mono fun _ _ ⟨t,u⟩=>⟨t,u▸Kt.refl _ _⟩))))
     refine wpQuiet_nil ?_;intro x;have R3:=aA (show Kt nO w x.v/\_ from⟨nT f.o.k x.k,C.o⟩);clear c0;go_wp2_with fail;go_round
     case rel=>exact⟨a+1,by omega,by go_num,R3⟩
     case measure=>simp[intOf];omega
    ·have a6:(p != -1)=true:=(by rw[cu];exact m);have IM:=aA (HI.o.keep f.o.k);have a3:=aA (zjF f.o p);have c0:wr.cell? ⟨z,0,none⟩=some (.int .i64 a):=by simp[World.cell?,f.o.bx]
     cases hin:cT I.np ws p with
     | false=>
      have C:=aA (FB.o (by
       rw[<-K.o];refine sV m fun i hi=>.inl fun hm=>?_
       have:=a3.o;rw[hi,hin] at this;exact absurd hm (of_decide_eq_false this.symm)))
      have B:=aA (vO R sc I.np ws p (a:Int) wr f.o.st hin);clear hin m;go_wp2_with fail;refine B.o.mono ?_;rintro e w3 ⟨rfl,rfl⟩;exact⟨rfl,C.o,f.o.k⟩
     | true=>
      have b6:∃ i,dec10 I p=some i/\i∈l:=by
       have:=a3.o;rw[hin] at this
       cases hd:dec10 I p with
       | none=>rw[hd] at this;cases this
       | some i=>rw[hd] at this;exact⟨i,rfl,bw this.symm⟩
      obtain⟨i,hi,a2⟩:=b6;obtain⟨D,b7,a4⟩:=dec10_i hi;subst b7;have HD:=aA (show dec10 I (i:Int)=some i/\(i:Int) ≠ -1 from⟨hi,a4⟩);have L:=aA a2;have s:=aA D;have B:=aA (wO R sc I.np ws (i:Int) (a:Int) wr f.o.st hin);clear hin a2 hi D a4 m;go_wp2_with fail;refine B.o.mono ?_;rintro e wc ⟨rfl,t,u,h3⟩;have G:=aA (show L8 w wc z R sc I.np a (cJ I.np ws (i:Int) false) (l.erase i)from f.o.met u L.o t);have e6:=aA (show aZ (cU wc sc)<aZ (cU wr sc)by
       rw[iX G.o.st,iX f.o.st];have hb:aE ws i=true:=(by rw[f.o.mem i s.o];exact af L.o);have:=wR f.o.st G.o.st s.o hb;omega)
      clear t u h3 B c0;have Q:=aA (HI.o.keep G.o.k);have e0:=aA (show(I.pg i).pv=q->prgL (dec10 I) (-1) (fun i=>(I.pg i).nx) (fun i=>(I.pg i).pv) ((l.erase i).length+1) (l.erase i) (I.pg i).nx (i:Int)=A from fun h=>by rw[<-K.o];exact(EZ (nxt:=fun i=>(I.pg i).nx) (bk:=fun i=>(I.pg i).pv) HD.o.2 HD.o.1 L.o h).symm)
      have e2:=aA (show ¬(I.pg i).pv=q->cG (a:Int)=EE from fun h=>FB.o (by
       rw[<-K.o];refine sV HD.o.2 fun j hj=>.inr ?_
       rw[HD.o.1] at hj;injection hj with hj
       rw[<-hj];exact h))
      have e4:∃ Z o',pa=some ⟨Z,o',none⟩:=by
       obtain⟨Z,o',e9,a8,_⟩:=Q.o.page i s.o;rw[SP.o] at a8;injection a8 with e1
       exact⟨Z,o',e1⟩
      obtain⟨pb,po,rfl⟩:=e4;obtain⟨d0,d1,d2,d3,d4,d5,d6,d7,d8,d9,U⟩:=iP (Q.o.pageK SP.o i s.o);obtain⟨c0,c1,c2,c3,c4,c5,c6,c7,Y⟩:=Q.o.all;rw[SP.o,<-HN.o] at c5;have b0:∀ x:KW wc,x.v.cell? ⟨z,0,none⟩=some (.int .i64 a):=fun x=>by simp[World.cell?,(G.o.keep x.k).bx]
      have e8:(i:Int)<n:=(by have:=s.o;rw[HN.o];omega);by_cases g:(I.pg i).pv=q
      case neg=>
       have C:=aA (e2.o g);have f4:((I.pg i).pv == q)=false:=(by rw[ag];exact g);clear g;go_wp2_with fail;refine gQ (by kernel_rfl) (by kernel_rfl) (by exact da _ _) ?_;dsimp only[List.dropLast,List.getLast];repeat (go_big_quiet_step (fail))
       refine wpQuiet_nil ?_;refine⟨rfl,?_⟩;rintro _ ⟨x,rfl⟩;exact gP (p:=(a:Int)) rfl rfl rfl fun _ hd=>⟨hd,C.o,nT G.o.k x.k⟩
      have C:=aA (e0.o g);have f4:((I.pg i).pv == q)=true:=(by rw[co];exact g);have X:=aA (fun W=>dD (a:Int) W);clear g;go_wp2_with fail;refine cS (by kernel_rfl) (by kernel_rfl) ?_;repeat (go_big_quiet_step (first|(go_at_call 185;exact Calls.kept_of ((X.o _).mono fun _ _ ⟨t,u⟩=>⟨t,u▸Kt.refl _ _⟩))))
      refine wpQuiet_nil ?_;intro x;have LX:=aA (G.o.keep x.k);clear d0 d1 d2 d3 d4 d5 d6 d7 d8 d9 U c0 c1 c2 c3 c4 c5 c6 c7 Y b0 f4;go_wp2_with fail;have f1:=aA (show cU x.v sc=cU wc sc by rw[iX LX.o.st,iX G.o.st]);generalize x.v=W3 at *;have b1:=aA (HI.o.keep LX.o.k);obtain⟨d0,d1,d2,d3,d4,d5,d6,d7,d8,d9,U⟩:=iP (b1.o.pageK SP.o i s.o);obtain⟨c0,c1,c2,c3,c4,c5,c6,c7,Y⟩:=b1.o.all;rw[SP.o,<-HN.o] at c5;refine cS (by kernel_rfl) (by kernel_rfl) ?_;repeat (go_big_quiet_step (fail))
      refine wpQuiet_nil ?_;intro y;have R3:=aA (show ∃ ws l,L8 w y.v z R sc I.np a ws l/\prgL (dec10 I) (-1) (fun i=>(I.pg i).nx) (fun i=>(I.pg i).pv) (l.length+1) l (I.pg i).nx (i:Int)=A from⟨_,_,LX.o.keep y.k,C.o⟩);have e5:=aA (show aZ (cU y.v sc)<aZ (cU wr sc)by
       rw[iX (LX.o.keep y.k).st,<-iX G.o.st];exact e6.o)
      clear d0 d1 d2 d3 d4 d5 d6 d7 d8 d9 U c0 c1 c2 c3 c4 c5 c6 c7 Y;go_wp2_with fail;go_round
      case rel=>exact⟨(I.pg i).nx,(i:Int),rfl,rfl,R3⟩
      case measure=>exact e5.o
  ·have e3:a=8:=(by omega);have b8:¬(a:Int)<8:=(by omega);have E:=aA (show Ending.returned (.tuple #[])=EE by rw[HE.o,fst1_ok (fun x hx=>hR.o.2 x (by omega))];rfl);clear e3;go_wp2_with fail;first|go_end0|go_ret
   exact⟨E.o,hR.o.1⟩
theorem LJ(p:Pg)(c:Nat)(hc:p.cl=(c:Int))(G:c<=7)(hp:PgIn p)(w:World):
  Calls prog 91 #[gX p] w (nA w (celN9 c) fun i=>aE (wsP p) i):=by
 have V:=nM c G;have N:=aA (fun W=>xI p c hc G W);have r:=aA (show(w.alloc (aW p)).heap[w.heap.size]?=some (aW p)from nH _ _);have K0:=aA (show Kt nO w (w.alloc (aW p))from(Kt.refl _ _).alloc _);have S:=aA hp;have j:=aA (fun (W:World) (h:W.heap[w.heap.size]?=some (aW p))=>pP (.slice (some ⟨w.heap.size,7,none⟩) 4 4) (wsP p) ((celN9 c:Nat):Int) (by omega) (by omega) W (wF h hp));have d:dX ((celN9 c:Nat):Int)=celN9 c:=by unfold dX;split <;> (try split) <;> omega
 rw[d] at j;have C:=aA (show ∀ i,i<celN9 c->aE (dA (wsP p) (celN9 c)) i=aE (wsP p) i from fun i hi=>wJ _ _ _ (wF r.o hp).1 hi);have q:=aA (show ∀ W a sc,Kt nO w W->SetAt W a sc (celN9 c) (dA (wsP p) (celN9 c))->w.heap.size<=a->w.heap.size<=sc->nA w (celN9 c) (fun i=>aE (wsP p) i) (.returned (.pointer (some ⟨a,0,none⟩))) W from fun W a sc u y l h4=>⟨a,sc,_,rfl,y,l,h4,C.o,u⟩);generalize celN9 c=n at *;clear hc hp d;go_enter func91,ntmps91;go_wp2_with fail;have I:=aA (show w.heap.size<(w.alloc (aW p)).heap.size by simp);generalize w.alloc (aW p)=f at *;have T:=aA (aj w.heap.size);obtain⟨g,hg⟩:=xe (w.heap.size);rw[<-hg] at r j I;have F:=aA hg;simp only[<-hg];clear hg;obtain⟨y0,y1,P,y3,U,y5,y6,Z,Q,X,D⟩:=dJ (show f.drew.heap[g]?=some (aW p)from r.o);have z:=aA (N.o f.drew);have E:=aA (show f.drew.heap[g]?=some (aW p)from r.o);have o:=aA (show g<f.drew.heap.size from I.o);go_cut [2] (fun v W=>∃ a sc:Nat,v=.pointer (some ⟨a,0,none⟩)/\Hd (SetAt W a sc n (dA (wsP p) n)/\g<=a/\g<=sc/\Kt nO f W))
 case first=>
  go_region_held3 (fun b=>b.cell? ⟨g,0,none⟩=some (.int .i64 p.kd)/\b.cell? ⟨g,1,none⟩=some (.int .i64 p.od)/\b.cell? ⟨g,2,none⟩=some (.int .i64 p.cl)/\b.cell? ⟨g,3,none⟩=some (.int .i64 p.lv)/\b.cell? ⟨g,4,none⟩=some (.int .i64 p.nx)/\b.cell? ⟨g,5,none⟩=some (.int .i64 p.pv)/\b.cell? ⟨g,6,none⟩=some (.int .i64 p.fs)/\b.cell? ⟨g,7,none⟩=some (.int .u64 p.b0)/\b.cell? ⟨g,8,none⟩=some (.int .u64 p.b1)/\b.cell? ⟨g,9,none⟩=some (.int .u64 p.b2)/\b.cell? ⟨g,10,none⟩=some (.int .u64 p.b3)) (first|with_reducible exact⟨y0,y1,P,y3,U,y5,y6,Z,Q,X,D⟩|with_reducible exact L|with_reducible exact Y) (first|(go_at_call 149;with_reducible refine z.o.mono ?_;rintro e m ⟨rfl,k⟩;have t:=aA ((k.block _ (lH E.o) (fun x=>x)).trans E.o);have L:=dJ t.o;have A:=aA k;have B:=aA (j.o m t.o);clear k)|(go_at_call 148;with_reducible refine B.o.mono ?_;rintro e J ⟨rfl,l⟩;have K:=aA l;have Y:=dJ ((l.2.1.block _ (lH t.o) (fun x=>x)).trans t.o);clear l)|fail)
  all_goals
   have R:=aA (show SetAt J (m.heap.size+1) m.heap.size n (dA (wsP p) n)/\g<=m.heap.size+1/\g<=m.heap.size/\Kt nO f J from⟨K.o.1,by have u:=A.o.size;have y:=o.o;omega,by have u:=A.o.size;have y:=o.o;omega,nT ((Kt.refl nO f).drew) (nT A.o K.o.2.1)⟩);go_wp2_with fail;go_meet
   exact⟨_,_,rfl,R⟩
 case rest=>
 obtain⟨a,sc,rfl,s⟩:=hcut;go_wp2_with fail;go_ret;exact q.o _ a sc (nT K0.o s.o.2.2.2) s.o.1 (by have:=F.o;have:=s.o.2.1;omega) (by have:=F.o;have:=s.o.2.2.1;omega)
theorem GP{n:Nat}{ws:List Nat}(hl:ws.length=(n+63)/64)(i:Nat)(hi:i<n)(j:Nat):aE (gI n ws (i:Int)) j=if j=i then !aE ws i else aE ws j:=by
 have a:aD n (i:Int)=true:=by unfold aD;exact af (by omega)
 unfold gI;rw[ae a,aa,qT ws i j (by omega)]
theorem zgH(p:Pg)(c:Nat)(hc:p.cl=(c:Int))(J:c<=7)(hp:PgIn p)(w:World):
  Calls prog 236 #[gX p] w (nA w (celN9 c) fun i=>!aE (wsP p) i):=by
 have R:=nM c J;have Q:=aA (fun W=>LJ p c hc J hp W);have C:=aA (show Kt nO w (w.alloc (aW p))from(Kt.refl _ _).alloc _);have m:=aA (show ∀ W d sc ws,Kt nO w W->SetAt W d sc (celN9 c) ws->w.heap.size<=d->w.heap.size<=sc->(∀ i,i<celN9 c->aE ws i=!aE (wsP p) i)->nA w (celN9 c) (fun i=>!aE (wsP p) i) (.returned (.pointer (some ⟨d,0,none⟩))) W from fun W d sc ws s u v V N=>⟨d,sc,_,rfl,u,v,V,N,s⟩);generalize celN9 c=n at *;clear hc hp;go_enter func236,ntmps236;go_wp2_with fail;generalize w.alloc (aW p)=L at *;refine(Q.o L).mono ?_;rintro e P ⟨d,sc,ws,rfl,b,l,h,r,o⟩;have I:=aA (nT C.o o);have G:=aA (show w.heap.size<=d/\w.heap.size<=sc from⟨an C.o.size l,an C.o.size h⟩);have E:=aA b;have K:=aA r;have k:=aA (DG d sc n ws P b);clear b l h r o;go_wp2_with fail;refine k.o.mono ?_;rintro e X ⟨rfl,rfl⟩;go_wp2_with fail;go_loopw [9] (fun i W=>∃ a:Nat,a<=n/\i=.int .i64 a/\Hd (Kt nO w W/\∃ ws,SetAt W d sc n ws/\(∀ j,j<a->aE ws j=!aE (wsP p) j)/\∀ j,a<=j->j<n->aE ws j=aE (wsP p) j)) (fun i _=>n-(intOf i).toNat)
 case atStart=>exact⟨0,az _,rfl,aA ⟨I.o,ws,E.o,fun j t=>by omega,fun j _ t=>K.o j t⟩⟩
 case round=>
  clear I E K k;obtain⟨a,ha,rfl,hR⟩:=hrel;obtain⟨B,ws,b,g,q⟩:=hR.o;by_cases f:a<n
  ·have A:(a:Int)<n:=(by omega);have S:=aA (wG d sc n ws (a:Int) wr b);have T:=aA B;have z:=aA (show(∀ j,j<a->aE ws j=!aE (wsP p) j)/\∀ j,a<=j->j<n->aE ws j=aE (wsP p) j from⟨g,q⟩);have D:=aA b.len;clear B b g q;go_wp2_with fail;refine S.o.mono ?_;rintro e F ⟨rfl,s,u,v⟩;have U:=aA (show Kt nO w F/\∃ ws,SetAt F d sc n ws/\(∀ j,j<a+1->aE ws j=!aE (wsP p) j)/\∀ j,a+1<=j->j<n->aE ws j=aE (wsP p) j from⟨T.o.trans u (fun _ _ x=>x) (fun x hx e=>by have:=G.o.2;omega),_,s,fun j t=>by
    rw[GP D.o a f j];by_cases e:j=a
    ·rw[ae e,e,z.o.2 a (aj _) f]
    ·rw[ac e];exact z.o.1 j (by omega),fun j t y=>by
    rw[GP D.o a f j,ac (by omega)];exact z.o.2 j (by omega) y⟩)
   clear s u v;go_wp2_with fail;go_round
   case rel=>exact⟨a+1,by omega,by go_num,U⟩
   case measure=>simp[intOf];omega
  ·obtain rfl:a=n:=(by omega);have A:¬(a:Int)<a:=(by omega);go_wp2_with fail;go_ret;exact m.o wr d sc ws B b G.o.1 G.o.2 g
def nx9(I:Img)(g c i:Nat):Option Int:=
 if M.word I.mem (4096*g+i*(16*2 ^ c))=0 then some (-1)
 else if I.bS+g*4096<=M.word I.mem (4096*g+i*(16*2 ^ c))/\M.word I.mem (4096*g+i*(16*2 ^ c))-(I.bS+g*4096)<4096/\(M.word I.mem (4096*g+i*(16*2 ^ c))-(I.bS+g*4096))%(16*2 ^ c)=0
  then some (((M.word I.mem (4096*g+i*(16*2 ^ c))-(I.bS+g*4096))/(16*2 ^ c):Nat):Int) else none
def yT(g:Nat):Option Int->Ending
 | none=>cG (g:Int)
 | some q=>.returned (.int .i64 q)
theorem sP(c:Nat)(h:c<=7):celN9 c*(16*2 ^ c)=4096/\16<=16*2 ^ c/\16*2 ^ c<=2048:=by
 match c,h with
 | 0,_=>decide
 | 1,_=>decide
 | 2,_=>decide
 | 3,_=>decide
 | 4,_=>decide
 | 5,_=>decide
 | 6,_=>decide
 | 7,_=>decide
theorem zgb(b:Nat)(I:Img)(V:ImV)(k r:Nat)(hS:Sn9 I k r)(g c i:Nat)(hg:g<I.np)(hc:(I.pg g).cl=(c:Int))(T:c<=7)(hi:i<celN9 c)(w:World)(p:ImAt w b I V):
  Calls prog 237 #[.pointer (some ⟨b,0,none⟩),.int .i64 g,.int .i64 i] w fun e w'=>e=yT g (nx9 I g c i)/\Kt nO w w':=by
 obtain⟨F,U,P⟩:=sP c T;obtain⟨sz,j⟩:=xe (16*2 ^ c);have N:=hS.nm;have z:=hS.be;have a2:=hS.np1;have X:i*sz+sz<=4096:=by rw[<-F,<-j];have:(i+1)*sz<=celN9 c*sz:=ak _ hi;rwa [av,aL] at this
 rw[<-j] at U P;obtain⟨fi,l⟩:=xe (I.bS+g*4096);have a0:fi+4096<=9223372036854775808:=by omega
 obtain⟨m,K⟩:=xe (i*sz);have D:=aA (fun (x:KW w)=>lY b I V g x.v (p.keep x.k) (by omega));rw[<-l] at D;have u:=aA (fun W=>LW (I.pg g) c hc T W);rw[<-j] at u;have hq : 4096*g+m+8<=I.nm:=by rw[K];omega
 have HW:=aA (fun (W:World) (hW:Kt nO w W)=>wQ b I V (4096*g+m) W (p.keep hW) hq z);have e1:((I.bS+(4096*g+m):Nat):Int)=(fi:Int)+(m:Int):=by rw[l];omega
 rw[e1] at HW;have a9:=word_lt p.d (4096*g+m) hq;have NX:nx9 I g c i=if M.word I.mem (4096*g+m)=0 then some (-1) else if fi<=M.word I.mem (4096*g+m)/\M.word I.mem (4096*g+m)-fi<4096/\(M.word I.mem (4096*g+m)-fi)%sz=0 then some (((M.word I.mem (4096*g+m)-fi)/sz:Nat):Int) else none:=by unfold nx9;rw[<-j,<-K,<-l]
 obtain⟨Q,f⟩:=xe (yT g (nx9 I g c i));rw[<-f];rw[NX] at f;generalize M.word I.mem (4096*g+m)=x at *;have E0:=aA (show x=0->Ending.returned (.int .i64 (-1))=Q from fun h=>by rw[f,ae h];rfl);have E1:=aA (show ∀ q,x≠0->fi<=x->x-fi<4096->(x-fi)%sz=0->q=(x-fi)/sz->Ending.returned (.int .i64 q)=Q from fun q h0 s t h3 h4=>by rw[f,ac h0,ae ⟨s,t,h3⟩,h4];rfl);have G:=aA (show x≠0->¬(fi<=x/\x-fi<4096/\(x-fi)%sz=0)->cG (g:Int)=Q from fun h0 s=>by rw[f,ac h0,ac s];rfl);have b1:(i:Int)*(sz:Int)=m:=by rw[K];simp
 have a5:m<=4096:=by omega
 have Z:¬(sz:Int)=0:=by omega
 have Y:i<256:=bg hi (nM c T).2;obtain⟨-,⟨pa,pc,hp⟩,-,-,-,-,bp,-,-⟩:=p.d.sl;obtain⟨c0,c1,c2,c3,c4,c5,c6,c7,c8⟩:=p.all;rw[hp] at c5;obtain⟨bl,o,a6,A,-,-⟩:=p.page g hg;rw[hp] at A;injection A with e3 e4 e5
 subst e3;obtain⟨d0,d1,d2,d3,d4,d5,d6,d7,d8,d9,S⟩:=iP (p.pageK hp g hg);obtain⟨n,hn⟩:=xe (I.np);rw[<-hn] at c5;have a4:(g:Int)<n:=by omega
 have b0:g<=1024:=by omega
 clear NX f j K l e1 hq F hc p hp hn e4 e5 X hS hi N z;go_enter func237,ntmps237;go_wp2_with fail;refine cS (by kernel_rfl) (by kernel_rfl) ?_;repeat (go_big_quiet_step (first|(go_at_call 42;exact Calls.kept_of ((D.o _).mono fun _ _ ⟨s,t⟩=>⟨s,t▸Kt.refl _ _⟩))|(go_at_call 93;exact Calls.kept_of (u.o _))))
 refine wpQuiet_nil ?_;intro y;clear c0 c1 c2 c3 c4 c5 c6 c7 c8 d0 d1 d2 d3 d4 d5 d6 d7 d8 d9 S;go_wp2_with fail;refine(HW.o y.v y.k).mono ?_;rintro e w2 ⟨rfl,m2,rfl⟩;have C:=aA (nT y.k ((Kt.refl nO y.v).drewN m2));generalize y.v.drewN m2=w2 at *;by_cases a:x=0
 ·have f0:((x:Int) == 0)=true:=by rw[co];omega
  have E:=aA (E0.o a);clear a;go_wp2_with fail;go_ret;exact⟨E.o,C.o⟩
 ·have f0:((x:Int) == 0)=false:=by rw[ag];omega
  by_cases B:fi<=x
  ·obtain⟨d,hd⟩:=xe (x-fi);have hw:(x:Int)-(fi:Int)=d:=(by omega);have a1:d<18446744073709551616:=(by omega);rw[<-hd] at E1 G;by_cases s:d<4096
   ·have J:(d:Int)<4096:=(by omega);by_cases t:d%sz=0
    ·have f2:((d:Int)%(sz:Int) == 0)=true:=(by rw[co];omega);obtain⟨q,hq⟩:=xe (d/sz);have f3:(d:Int)/(sz:Int)=q:=(by rw[hq];simp);have a3:q<=4096:=(by rw[hq];exact an (df _ _) (by omega));have E:=aA (E1.o q a B s t hq);clear a t hq hd;go_wp2_with fail;refine(dD _ _).mono ?_;rintro e R ⟨rfl,rfl⟩;go_wp2_with fail;go_ret;exact⟨E.o,C.o⟩
    ·have f2:((d:Int)%(sz:Int) == 0)=false:=(by rw[ag];omega);have E:=aA (G.o a (fun h=>t h.2.2));clear a t hd;go_wp2_with fail;refine(dY _ _).mono ?_;rintro e R ⟨rfl,rfl⟩;exact⟨rfl,E.o,C.o⟩
   ·have J:¬(d:Int)<4096:=(by omega);have L:decide ((d:Int)<4096)=false:=ah J;have E:=aA (G.o a (fun h=>s h.2.1));clear a hd;go_wp2_with fail;refine(dY _ _).mono ?_;rintro e R ⟨rfl,rfl⟩;exact⟨rfl,E.o,C.o⟩
  ·obtain⟨d,hd⟩:=xe (18446744073709551616-(fi-x));have hw:IntKind.u64.wrap ((x:Int)-(fi:Int))=(d:Int):=(by rw[wrap_u64];omega);have J:¬(d:Int)<4096:=(by omega);have a7:¬d<4096:=(by omega);have L:decide ((d:Int)<4096)=false:=ah J;have E:=aA (G.o a (fun h=>B h.1));have a8:(x:Int)<fi:=(by omega);clear hd a;go_wp2_with fail;refine(dY _ _).mono ?_;rintro e R ⟨rfl,rfl⟩;exact⟨rfl,E.o,C.o⟩
def prg9(nx:Nat->Option Int):Nat->List Nat->Int->Bool
 | 0,_,_=>false
 | n+1,l,p=>if p = -1 then l.isEmpty else if 0<=p/\p.toNat∈l then (match nx p.toNat with | none=>false | some q=>prg9 nx n (l.erase p.toNat) q) else false
theorem prg9_end{nx:Nat->Option Int}{l:List Nat} : prg9 nx (l.length+1) l (-1)=l.isEmpty:=by rw[prg9,ae rfl]
theorem CY{nx:Nat->Option Int}{l:List Nat}{p:Int}(hp:p ≠ -1)(h:¬(0<=p/\p.toNat∈l)):prg9 nx (l.length+1) l p=false:=by rw[prg9,ac hp,ac h]
theorem EY{nx:Nat->Option Int}{l:List Nat}{i:Nat}(h:i∈l)(a:nx i=none):prg9 nx (l.length+1) l (i:Int)=false:=by rw[prg9,ac (by omega),ae ⟨by omega,by rw[aa];exact h⟩,aa,a]
theorem prg9_yes{nx:Nat->Option Int}{l:List Nat}{i:Nat}{q:Int}(h:i∈l)(a:nx i=some q):prg9 nx (l.length+1) l (i:Int)=prg9 nx ((l.erase i).length+1) (l.erase i) q:=by
 rw[prg9,ac (by omega),ae ⟨by omega,by rw[aa];exact h⟩,aa,a,List.length_erase_of_mem h];have:l.length-1+1=l.length:=by have:=List.length_pos_of_mem h;omega
 rw[this]
def frL(p:Pg)(n:Nat):List Nat:=(List.range n).filter fun i=>!aE (wsP p) i
def ok9c(I:Img)(g c:Nat):Bool:=prg9 (nx9 I g c) ((frL (I.pg g) (celN9 c)).length+1) (frL (I.pg g) (celN9 c)) (I.pg g).fs
def ok9(I:Img)(g:Nat):Bool:=!decide ((I.pg g).kd=4) || ok9c I g (I.pg g).cl.toNat
structure L9(w W:World)(sb sc n:Nat)(ws:List Nat)(l:List Nat):Prop where
 st:SetAt W sb sc n ws
 ge:w.heap.size<=sc
 k:Kt nO w W
 nd:l.Nodup
 mem:∀ i,i<n->aE ws i=decide (i∈l)
 lt:∀ i,i∈l->i<n
theorem L9.keep{w W W':World}{a sc n:Nat}{ws l:List Nat}(h:L9 w W a sc n ws l)(b:Kt nO W W'):L9 w W' a sc n ws l:=
 ⟨h.st.kept b (fun x=>x) (fun x=>x),h.ge,nT h.k b,h.nd,h.mem,h.lt⟩
theorem L9.met{w W W':World}{c sc n i:Nat}{ws l:List Nat}(h:L9 w W c sc n ws l)(d:Kt (fun x=>x=sc) W W')(hi:i∈l)(hs:SetAt W' c sc n (cJ n ws (i:Int) false)):L9 w W' c sc n (cJ n ws (i:Int) false) (l.erase i):=by
 refine⟨hs,h.ge,h.k.trans d (fun _ _ x=>x) (fun x hx e=>by have:=h.ge;omega),h.nd.erase i,fun j b=>?_,fun j b=>h.lt j (List.mem_of_mem_erase b)⟩;rw[tL h.st.len i (h.lt i hi) false j];by_cases e:j=i
 ·rw[ae e,e];exact(ah (fun a=>((h.nd.mem_erase_iff).1 a).1 rfl)).symm
 ·rw[ac e,h.mem j b,decide_eq_decide,h.nd.mem_erase_iff];exact⟨fun a=>⟨e,a⟩,fun a=>a.2⟩
theorem L9.ins{w W:World}{b sc n:Nat}{ws l:List Nat}(h:L9 w W b sc n ws l)(p:Int):cT n ws p=decide (0<=p/\p.toNat∈l):=by
 unfold cT aD;by_cases hp : 0<=p/\p<(n:Int)
 ·rw[af hp,bf,h.mem p.toNat (by omega),decide_eq_decide];exact⟨fun a=>⟨hp.1,a⟩,fun a=>a.2⟩
 ·rw[ah hp,Bool.false_and];refine(ah fun a=>hp ⟨a.1,?_⟩).symm;have:=h.lt _ a.2;omega
theorem L9.empty{w W:World}{b sc n:Nat}{ws l:List Nat}(h:L9 w W b sc n ws l):l.isEmpty=decide (aZ ws=0):=by
 rw[Bool.eq_iff_iff,List.isEmpty_iff,bW,JE h.st];constructor
 ·intro e j a;rw[h.mem j a,e];rfl
 ·intro hz
  cases l with
  | nil=>rfl
  | cons x t=>
   exfalso
   have hx:=h.lt x aw;have:=hz x hx;rw[h.mem x hx,af aw] at this
   cases this
theorem zdV(b:Nat)(I:Img)(V:ImV)(k r:Nat)(hS:Sn9 I k r)(g c:Nat)(hg:g<I.np)(hc:(I.pg g).cl=(c:Int))(h7:c<=7)(w:World)(J:ImAt w b I V):
  Calls prog 198 #[.pointer (some ⟨b,0,none⟩),.int .i64 g] w fun e w'=>e=bG (if ok9c I g c=true then none else some g)/\Kt nO w w':=by
 obtain⟨-,⟨pa,pc,hp⟩,-,-,-,-,bp,-,-⟩:=J.d.sl;obtain⟨c0,c1,c2,c3,c4,c5,c6,c7,c8⟩:=J.cells;rw[hp] at c5;obtain⟨bl,o,b4,S,L,P⟩:=J.page g hg;rw[hp] at S;injection S with e1 e2 e3
 subst e1;obtain⟨EE,t⟩:=xe (bG (if ok9c I g c=true then none else some g));rw[<-t];have FB:=aA (show ok9c I g c=false->cG (g:Int)=EE from fun h=>by rw[t,ac (by rw[h];decide)];rfl);have FG:=aA (show ok9c I g c=true->Ending.returned (.tuple #[])=EE from fun h=>by rw[t,ae h];rfl);have y:=aA (show prg9 (nx9 I g c) ((frL (I.pg g) (celN9 c)).length+1) (frL (I.pg g) (celN9 c)) (I.pg g).fs=ok9c I g c from rfl);generalize ok9c I g c=m at *;have HI:=aA J;have a7:=aA (fun W=>zgH (I.pg g) c hc h7 L W);have a6:=aA (fun (i:Nat) (hi:i<celN9 c) (W:World) (hW:ImAt W b I V)=>zgb b I V k r hS g c i hg hc h7 hi W hW);have PB:=aA (PbI.mk' (w:=w) J (Kt.refl _ w) (I.pg g));obtain⟨d0,d1,d2,d3,d4,d5,d6,d7,d8,d9,a8⟩:=P.c;obtain⟨n,hn⟩:=xe (I.np);rw[<-hn] at c5;have b3:(g:Int)<n:=by omega
 have a3:=hS.np1;rw[<-hn] at a3;obtain⟨Y,A⟩:=xe (nx9 I g c);rw[<-A] at y;have a4:=aA (show ∀ i,nx9 I g c i=Y i from fun i=>by rw[A]);generalize celN9 c=j at *;generalize b1:I.pg g=p at *;clear t J hp L P e2 e3 hn hc bp b1 A;go_enter func198,ntmps198;go_wp2_with fail;have SZ:=aA (show w.heap.size<(w.alloc (aW p)).heap.size by simp);generalize w.alloc (aW p)=W1 at *;generalize a0:w.heap.size=gb at *;have a5:=aA a0;clear a0 d0 d1 d2 d3 d4 d5 d6 d7 d8 d9 a8 c0 c1 c2 c3 c4 c5 c6 c7 c8;refine(a7.o W1).mono ?_;rintro e w2 ⟨B,sc,ws,rfl,X,a1,a9,U,G⟩;have Q:=aA (PB.o.keep G);have a:=aA (show L9 w w2 B sc j ws (frL p j)from⟨X,by have:=SZ.o;have:=a5.o;omega,nT PB.o.k G,List.nodup_range.filter _,fun i hi=>by rw[U i hi,Bool.eq_iff_iff,bW];simp[frL,hi],fun i hi=>by simp[frL] at hi;exact hi.1⟩)
 obtain⟨q0,q1,q2,q3,q4,q5,q6,-⟩:=dJ Q.o.pb;clear X a1 a9 U G;go_wp2_with fail;clear q0 q1 q2 q3 q4 q5 q6;go_loopw [6] (fun pv W=>∃ x:Int,pv=.int .i64 x/\Hd (∃ ws l,L9 w W B sc j ws l/\prg9 Y (l.length+1) l x=m)) (fun _ W=>aZ (cU W sc))
 case atStart=>exact⟨p.fs,rfl,aA ⟨_,_,a.o,y.o⟩⟩
 case round=>
  clear a y Q PB SZ;obtain⟨x,rfl,hL⟩:=hrel;obtain⟨ws,l,hl,T⟩:=hL.o;have a:=aA hl;have y:=aA T;clear hL hl T;by_cases hx:x = -1
  ·have f0:(x != -1)=false:=(by rw[hx];rfl);have C:=aA (show m=decide (aZ ws=0)by rw[<-y.o,hx,prg9_end,a.o.empty]);obtain⟨cw,Z⟩:=xe (aZ ws);have F:=aA (tZ B sc j ws wr a.o.st);rw[<-Z] at F C;clear hx Z;by_cases g0:cw=0
   case neg=>
    have v:=aA (FB.o (by rw[C.o,ah g0]));have f4:((cw:Int) == 0)=false:=(by rw[ag];omega);clear g0;go_wp2_with fail;refine F.o.mono ?_;rintro e w3 ⟨rfl,rfl⟩;go_wp2_with fail;refine(dY _ _).mono ?_;rintro e K ⟨rfl,rfl⟩;exact⟨rfl,v.o,a.o.k⟩
   have v:=aA (FG.o (by rw[C.o,af g0]));have f4:((cw:Int) == 0)=true:=(by rw[co];omega);clear g0;go_wp2_with fail;refine F.o.mono ?_;rintro e w3 ⟨rfl,rfl⟩;go_wp2_with fail;refine(dD _ _).mono ?_;rintro e K ⟨rfl,rfl⟩;go_wp2_with fail;first|go_end0|go_ret
   exact⟨v.o,a.o.k⟩
  ·have f0:(x != -1)=true:=(by rw[cu];exact hx);have N:=aA (a.o.ins x)
   cases hin:cT j ws x with
   | false=>
    have v:=aA (FB.o (by rw[<-y.o];refine CY hx ?_;have:=N.o;rw[hin] at this;exact of_decide_eq_false this.symm))
    have u:=aA (vO B sc j ws x (g:Int) wr a.o.st hin);clear hin hx;go_wp2_with fail;refine u.o.mono ?_;rintro e w3 ⟨rfl,rfl⟩;exact⟨rfl,v.o,a.o.k⟩
   | true=>
    have hm : 0<=x/\x.toNat∈l:=by have:=N.o;rw[hin] at this;exact bw this.symm
    obtain⟨i,rfl⟩:=au hm.1;have z:i∈l:=(by have:=hm.2;rwa [aa] at this);have s:=aA z;have E:=aA (a.o.lt i z);have u:=aA (wO B sc j ws (i:Int) (g:Int) wr a.o.st hin);clear hin hm z hx;go_wp2_with fail;refine u.o.mono ?_;rintro e wc ⟨rfl,h1,h2,h3⟩;have D:=aA (show L9 w wc B sc j (cJ j ws (i:Int) false) (l.erase i)from a.o.met h2 s.o h1);have b2:=aA (show aZ (cU wc sc)<aZ (cU wr sc)by
     rw[iX D.o.st,iX a.o.st];have hb:aE ws i=true:=(by rw[a.o.mem i E.o];exact af s.o);have:=wR a.o.st D.o.st E.o hb;omega)
    have a2:=aA (HI.o.keep D.o.k);have R:=aA (a6.o i E.o wc a2.o);rw[a4.o i] at R;clear h1 h2 h3 u
    cases hq:Y i with
    | none=>
     have v:=aA (FB.o (by rw[<-y.o];exact EY s.o hq));rw[hq] at R;clear hq;go_wp2_with fail;refine R.o.mono ?_;rintro e K ⟨rfl,f⟩;exact⟨rfl,v.o,nT D.o.k f⟩
    | some q=>
     have v:=aA (show prg9 Y ((l.erase i).length+1) (l.erase i) q=m by rw[<-y.o];exact(prg9_yes s.o hq).symm);rw[hq] at R;clear hq;go_wp2_with fail;refine R.o.mono ?_;rintro e K ⟨rfl,f⟩;have R3:=aA (show ∃ ws l,L9 w K B sc j ws l/\prg9 Y (l.length+1) l q=m from⟨_,_,D.o.keep f,v.o⟩);have b0:=aA (show aZ (cU K sc)<aZ (cU wr sc)by
      rw[iX (D.o.keep f).st,<-iX D.o.st];exact b2.o)
     clear f;dsimp only[yT];go_wp2_with fail;go_round
     case rel=>exact⟨q,rfl,R3⟩
     case measure=>exact b0.o
theorem zdi(b:Nat)(I:Img)(V:ImV)(k r:Nat)(hS:Sn9 I k r)(w:World)(v:ImAt w b I V):
  Calls prog 145 #[.pointer (some ⟨b,0,none⟩)] w fun e w'=>e=bG (fst1 I.np (ok9 I))/\Kt nO w w':=by
 obtain⟨-,⟨pa,pc,hp⟩,-,-,-,-,bp,-,-⟩:=v.d.sl;obtain⟨c0,c1,c2,c3,c4,c5,c6,c7,c8⟩:=v.cells;rw[hp] at c5;obtain⟨P,m⟩:=xe (bG (fst1 I.np (ok9 I)));rw[<-m];have S:=aA m;have HI:=aA v;have T:=aA hS;have SP:=aA hp;have D:=hS.np1;obtain⟨n,B⟩:=xe (I.np);rw[<-B] at D c5;have N:=aA B;clear m v hp hS B bp;go_enter func145,ntmps145;go_wp2_with fail;go_loopw [9] (fun i W=>∃ a:Nat,a<=n/\i=.int .i64 a/\Hd (Kt nO w W/\∀ x,x<a->ok9 I x=true)) (fun i _=>n-(intOf i).toNat)
 case atStart=>exact⟨0,az _,rfl,aA ⟨Kt.refl _ _,fun x hx=>by omega⟩⟩
 case round=>
  clear c0 c1 c2 c3 c4 c5 c6 c7 c8;obtain⟨a,ha,rfl,hR⟩:=hrel;have L:=aA (HI.o.keep hR.o.1);by_cases C:a<n
  ·have A:(a:Int)<n:=(by omega);have f:a<I.np:=(by rw[<-N.o];exact C);obtain⟨bl,o,a0,s,z,q⟩:=L.o.page a f;rw[SP.o] at s;injection s with e1 e2 e3
   subst e1;obtain⟨kd,od,F,ll,y1,Y,y3,y4,J,U,y7,y8,-⟩:=T.o.pg a f;have Z:=aA (show ok9 I a=false->cG (a:Int)=P from fun h=>by rw[S.o,gA f hR.o.2 h];rfl);have X:=aA (show ok9 I a=true->∀ x,x<a+1->ok9 I x=true from fun h x hx=>by
    by_cases e:x=a
    ·rw[e];exact h
    ·exact hR.o.2 x (by omega))
   have K:=aA (show ok9 I a=(!decide ((I.pg a).kd=4) || ok9c I a F)by unfold ok9;rw[J,aa]);have G:=aA (PbI.mk' (w:=w) L.o hR.o.1 (I.pg a));have l:=aA (zdV b I V k r T.o a F f J U (wr.alloc (aW (I.pg a))) G.o.im);generalize ok9c I a F=Q at *;generalize ok9 I a=y at *;obtain⟨d0,d1,d2,d3,d4,d5,d6,d7,d8,d9,a1⟩:=q.c;generalize I.pg a=p at *;clear z q e2 e3 y1 Y y3 y4 J U y7 y8;by_cases g:p.kd=4
   case neg=>
    have u:=aA (show Kt nO w (wr.alloc (aW p))/\_ from⟨hR.o.1.alloc _,X.o (by rw[K.o];simp[g])⟩);have f2:(p.kd == 4)=false:=(by rw[ag];exact g);clear g;go_wp2_with fail;go_round
    case rel=>exact⟨a+1,by omega,by go_num,u⟩
    case measure=>simp[intOf];omega
   have f2:(p.kd == 4)=true:=(by rw[co];exact g);have t:=aA (show y=Q by rw[K.o,af g];rfl);clear g
   cases Q with
   | false=>
    have u:=aA (Z.o t.o);rw[ac (by decide)] at l;go_wp2_with fail;refine l.o.mono ?_;rintro e R ⟨rfl,j⟩;exact⟨rfl,u.o,nT G.o.k j⟩
   | true=>
    have u:=aA (X.o t.o);rw[ae rfl] at l;go_wp2_with fail;refine l.o.mono ?_;rintro e R ⟨rfl,j⟩;have R3:=aA (show Kt nO w R/\_ from⟨nT G.o.k j,u.o⟩);clear j;dsimp only[bG];go_wp2_with fail;go_round
    case rel=>exact⟨a+1,by omega,by go_num,R3⟩
    case measure=>simp[intOf];omega
  ·obtain rfl:a=n:=(by omega);have A:¬(a:Int)<a:=(by omega);have E:=aA (show Ending.returned (.tuple #[])=P by rw[S.o,fst1_ok (fun x hx=>hR.o.2 x (by rw[N.o];exact hx))];rfl);go_wp2_with fail;first|go_end0|go_ret
   exact⟨E.o,hR.o.1⟩
end Go.Proofs.YtfmgnljlkdmndaaGreatDoor.W
