import Derived.Test.YtfmgnljlkdmndaaGreatDoorZc
import Derived.ArgAppend
import Derived.Laws.OwnMore
import Derived.Maps.AppendAt
import Derived.Deep.RegionLaw
set_option maxRecDepth 1000000
set_option maxHeartbeats 80000000
namespace Go.Proofs.YtfmgnljlkdmndaaGreatDoor
open Tryz
open Go.RowKit
set_option linter.unusedVariables false
def dG(s:Nat):Value:=.pointer (some ⟨s,0,none⟩)
def PL(w:World)(v:Value)(xs:List Nat):Prop:=w.ownsRow 0 141 1 v xs.length (xs.map dG)
theorem ZB:(prog.info? 141).map (fun i=>(i.zero,i.size,i.bytes))=some (some (.pointer none),1,8):=by kernel_rfl
theorem zel:∃ i,prog.info? 141=some i/\i.zero=some (.pointer none)/\i.size=1/\i.bytes=8:=by obtain⟨i,hi,a⟩:=Option.map_eq_some_iff.1 ZB;simp only[Prod.mk.injEq] at a;exact⟨i,hi,a.1,a.2.1,a.2.2⟩
theorem lL{w a:World}{row:Option Nat}(h:w.grownBy a row):Kt (fun b=>row=some b) w a:=⟨h.os,h.tape,h.output,h.size,fun k d c=>h.block k d (fun e=>c e.symm)⟩
theorem PL.blk{w v xs r}(h:PL w v xs)(a:v.ownBlock=some r):∃ cs,w.heap[r]?=some (.cells cs 141 (0,0)):=by
 rcases h.2 with ⟨rfl,_⟩|⟨g,cap,b,rfl,hb,hg,c⟩
 ·simp[Value.ownBlock] at a
 ·simp[Value.ownBlock] at a;subst a;exact⟨_,hg⟩
theorem PL.kept{w w' v xs}{S:Nat->Prop}(h:PL w v xs)(k:Kt S w w')(hS:∀ r,v.ownBlock=some r->¬S r):PL w' v xs:=by
 refine⟨h.1,?_⟩;rcases h.2 with h0|⟨g,cap,a,rfl,hb,hg,b⟩
 ·exact .inl h0
 ·exact .inr ⟨g,cap,a,rfl,hb,(k.block g (lH hg) (hS g rfl)).trans hg,b⟩
theorem PL.push(w:World)(v:Value)(k:List Nat)(x:Nat)(h:PL w v k)(J:k.length+1<=8)(a:Addr)(c:Nat)(ha:w.cell? (a.add 0)=some (dG x)):
  ∃ n m,(∀ E,(Builtin.append_ #[138,138] E #[v,.slice (some a) 1 c]).run prog w=.ok n m)/\PL m n (k ++ [x])/\Kt (fun b=>v.ownBlock=some b) w m/\
   (n.ownBlock=v.ownBlock\/∃ r,n.ownBlock=some r/\w.heap.size<=r)/\∃ g cap,n=.slice (some ⟨g,0,none⟩) (k.length+1) cap:=by
 obtain⟨i,hi,A,y,D⟩:=zel;have s:k.length+1<=maxLen:=by simp only[maxLen];omega
 have l:∀ j u,[dG x][j]?=some u->w.cell? (a.add j)=some u:=by
  intro j u o;match j,o with
  | 0,o=>simp at o;subst o;exact ha
  | j+1,o=>simp at o
 have q:(k ++ [x]).map dG=k.map dG ++ [dG x]:=by simp
 have B:(k ++ [x]).length=k.length + 1:=by simp
 by_cases I:∃ g cap,v=.slice (some ⟨g,0,none⟩) k.length cap/\k.length+1<=cap
 ·obtain⟨g,cap,rfl,t⟩:=I;obtain⟨m,f,d,p⟩:=run_append_fits (P:=prog) w 0 138 0 141 i 1 Tryz.underlying138 hi y g k.length cap (k.map dG) h a 1 c [dG x] rfl l (by simp[Value.oneCell',dG]) t;refine⟨.slice (some ⟨g,0,none⟩) (k.length+1) cap,m,fun E=>?_,?_,lL p,.inl rfl,g,cap,rfl⟩
  ·rw[<-f];simp[Builtin.append_]
  ·unfold PL;rw[q,B];exact d
 ·have F:∃ n m,(Builtin.append_ #[138,138] 0 #[v,.slice (some a) 1 c]).run prog w=.ok n m/\m.ownsRow w.heap.size 141 1 n (k.length + 1) (k.map dG ++ [dG x])/\Kt (fun b=>v.ownBlock=some b) w m:=by
   have S:=h;rcases S.2 with ⟨rfl,h0⟩|⟨g,cap,C,rfl,hb,hg,Q,N,R,z⟩
   ·have:k=[]:=bq h0;subst this;obtain⟨n,m,f,d,p,_⟩:=run_append_own (P:=prog) w w.heap.size 138 0 141 i (.pointer none) 1 8 Tryz.underlying138 hi A y D rfl (by decide) (.slice none 0 0) 0 [] (World.ownsRow_nil _ _ _ _) a 1 c [dG x] rfl l (by simp[Value.oneCell',dG]) s (by simp) (aj _);exact⟨n,m,f,d,lL p⟩
   ·obtain⟨n,m,f,d,p⟩:=run_append_arg_grows (P:=prog) w 138 0 141 i (.pointer none) 1 8 Tryz.underlying138 hi A y D rfl (by decide) ⟨g,0,none⟩ k.length cap (k.map dG) (by simp) (fun j u o=>by
     rw[Addr.add_lit,Nat.zero_add];rw[<-z,List.getElem?_take] at o;split at o
     ·simp only[World.cell?,hg];rw[<-Array.getElem?_toList,o];rfl
     ·cases o) a 1 c [dG x] rfl l (Nat.lt_of_not_le fun G=>I ⟨g,cap,rfl,G⟩) s (by omega)
    exact⟨n,m,f,d,(lL p).mono (fun _ _ e=>by cases e)⟩
  obtain⟨n,m,f,d,L⟩:=F;rcases d.2 with ⟨_,h0⟩|⟨g,cap,C,rfl,hb,hg,K⟩
  ·omega
  ·refine⟨_,m,fun E=>?_,?_,L,.inr ⟨g,rfl,hb⟩,g,cap,rfl⟩
   ·rw[<-f];simp[Builtin.append_]
   ·unfold PL;rw[q,B];exact⟨d.1,.inr ⟨g,cap,C,rfl,az _,hg,K⟩⟩
theorem qJ(w:World)(v:Value)(t:TypeId):(w.alloc (.cells #[v] t)).cell? ⟨w.heap.size,0+0,none⟩=some v:=by have:=nH w (.cells #[v] t);simp only[World.cell?,this];rfl
structure Pushed(w w':World)(v v':Value)(xs:List Nat)(x:Nat):Prop where
 pl:PL w' v' (xs ++ [x])
 kp:Kt (fun b=>v.ownBlock=some b) w w'
 ob:v'.ownBlock=v.ownBlock\/∃ r,v'.ownBlock=some r/\w.heap.size<=r
 sl:∃ g cap,v'=.slice (some ⟨g,0,none⟩) (xs.length+1) cap
theorem xC{i:Array Oper}{o:Oper}{a:Act}{w:World}{K:Act->World->Prop}{Q:Exit->Act->World->Prop}{E:Prop}(p:o.guard=none)(s x:Operand)
  (m:o.op=Op.call { callee:=Callee.builtin Builtin.append,args:=#[s,x],argTypes:=#[138,138] }) (v:Value) (l:List Nat) (n y b:Nat) (c0 c1:Value) (h:PL w v l) (r:l.length=n) (hl:n+1<=8)
  (hb:w.heap[b]?=some (.cells #[c0,c1,v] 140 (0,0))) (ad:Addr) (c:Nat)
  (hs:a.eval s=v) (hx:a.eval x=.slice (some ad) 1 c) (ha:w.cell? (ad.add 0)=some (dG y))
  (hK:∀ j d g,Hd (Pushed w g v (.slice (some ⟨j,0,none⟩) (n+1) d) l y)->g.cell? ⟨b,2,none⟩=some v->g.frozen? ⟨b,2,none⟩=false->K (a.put o.dst (.slice (some ⟨j,0,none⟩) (n+1) d)) g):
  if Region.wanted o (yielded i a.tmps)=true then Oper.wp prog o a w K Q else E:=by
 have hw:Region.wanted o (yielded i a.tmps)=true:=by simp[Region.wanted,p]
 rw[ae hw];obtain⟨A,g,f,u,z,t,j,d,rfl⟩:=h.push w v l y (by omega) ad c ha;rw[r] at f u t;have f:=f o.type;have k:g.heap[b]?=some (.cells #[c0,c1,v] 140 (0,0)):=(z.block b (lH hb) (fun e=>by obtain⟨cs,q⟩:=h.blk e;exact bY hb q (by decide) rfl)).trans hb
 unfold Oper.wp;simp[execOp,m,resolve,invoke,builtin,hs,hx,f,Result.andThen];exact hK j d g ⟨u,z,t,j,d,by rw[r]⟩ (by simp[World.cell?,k]) (by simp[World.frozen?,k])
theorem xP{d:Array Oper}{o:Oper}{a:Act}{w:World}{K:Act->World->Prop}{Q:Exit->Act->World->Prop}{E:Prop}(g:o.guard=none)
  (f:o.op=Op.call { callee:=Callee.value (Operand.func 102),args:=#[Operand.const (Value.int .i64 0)],argTypes:=#[3] }) (b:Nat) (v:Value) (hc:w.cell? ⟨b,2,none⟩=some v)
  (hK:∀ c,Hd (SetAt c (w.heap.size+1) w.heap.size 0 [])->Hd (Kt nO w c)->c.cell? ⟨b,2,none⟩=some v->K (a.put o.dst (.pointer (some ⟨w.heap.size+1,0,none⟩))) c):
  if Region.wanted o (yielded d a.tmps)=true then Oper.wp prog o a w K Q else E:=by
 have hw:Region.wanted o (yielded d a.tmps)=true:=by simp[Region.wanted,g]
 rw[ae hw];unfold Oper.wp;simp[execOp,f,resolve,invoke,Deferred.ofValue,Act.eval,callFunc,Result.andThen,go_sem];rw[ac (by decide +kernel),ac (by decide +kernel)];show Calls prog 102 _ _ _
 refine(uA 0 (by decide) (by decide) w).mono ?_;rintro e c ⟨rfl,hS,h,j⟩;exact hK c (RawAt.set hS (fun i hi=>absurd hi (by simp))) h (h.cell (fun x=>x) hc)
structure Nw(w W:World)(b o k:Nat)(v:Value)(S C:Nat->Nat):Prop where
 hb:W.heap[b]?=some (.cells #[.int .i64 o,.slice none 0 0,v] 140 (0,0))
 pl:PL W v ((List.range k).map S)
 vs:v=.slice none 0 0/\k=0\/∃ g cap,v=.slice (some ⟨g,0,none⟩) k cap/\w.heap.size<=g
 st:∀ j,j<k->SetAt W (S j) (C j) 0 []
 iS:∀ i j,i<k->j<k->S i=S j->i=j
 iC:∀ i j,i<k->j<k->C i=C j->i=j
 hS:∀ j,j<k->w.heap.size<=S j/\w.heap.size<=C j
 hw:w.heap.size<=b
 kp:Kt nO w W
theorem Nw.next{w W W2 W3 b o k v v' S C}(h:Nw w W b o k v S C)(hS:SetAt W2 (W.heap.size+1) W.heap.size 0 [])(D:Kt nO W W2)(hp:Pushed W2 W3 v v' ((List.range k).map S) (W.heap.size+1)):
  Nw w (W3.setCell ⟨b,2,none⟩ v') b o (k+1) v' (fun j=>if j=k then W.heap.size+1 else S j) (fun j=>if j=k then W.heap.size else C j):=by
 have y:∀ r,v.ownBlock=some r->∃ cs,W.heap[r]?=some (.cells cs 141 (0,0)):=fun r t=>h.pl.blk t
 have K:Kt (fun x=>v.ownBlock=some x) W W3:=D.trans hp.kp (fun _ _ x=>x.elim) (fun _ _ x=>x);have d:W3.heap[b]?=some (.cells #[.int .i64 o,.slice none 0 0,v] 140 (0,0)):=(K.block b (lH h.hb) (fun e=>by obtain⟨cs,a⟩:=y _ e;exact bY h.hb a (by decide) rfl)).trans h.hb
 have J:Kt (fun x=>x=b) W3 (W3.setCell ⟨b,2,none⟩ v'):=(Kt.refl (fun x=>x=b) W3).setCell (p:=⟨b,2,none⟩) rfl _;have q:∀ {s c n ws},SetAt W2 s c n ws->SetAt (W3.setCell ⟨b,2,none⟩ v') s c n ws:=fun {s c n ws} hs=>by
  have m:∀ r,v.ownBlock=some r->∃ cs,W2.heap[r]?=some (.cells cs 141 (0,0)):=fun r t=>by obtain⟨cs,a⟩:=y r t;exact⟨cs,(D.block r (lH a) (fun x=>x)).trans a⟩
  have E:=hs.kept hp.kp (fun e=>by obtain⟨cs,a⟩:=m _ e;exact bY hs.hb a (by decide) rfl) (fun e=>by obtain⟨cs,a⟩:=m _ e;exact bY hs.hc a (by decide) rfl);exact E.kept J (bY E.hb d (by decide)) (bY E.hc d (by decide))
 have u:(List.range (k + 1)).map (fun j=>if j=k then W.heap.size + 1 else S j)=(List.range k).map S ++ [W.heap.size + 1]:=by
  rw[List.range_succ,List.map_append];congr 1
  ·exact List.map_congr_left (fun j l=>by rw[ac (by have:=List.mem_range.1 l;omega)])
  ·simp
 obtain⟨g,cap,f⟩:=hp.sl;rw[List.length_map,List.length_range] at f;have z:∀ j,j<k->S j<W.heap.size:=fun j l=>lH (h.st j l).hb
 have B:∀ j,j<k->C j<W.heap.size:=fun j l=>lH (h.st j l).hc
 refine⟨(cF d 2 _).trans (by simp),?_,.inr ⟨g,cap,f,?_⟩,fun j l=>?_,fun i j hi l e=>?_,fun i j hi l e=>?_,fun j l=>?_,h.hw,?_⟩
 ·rw[u];exact hp.pl.kept J (fun r t e=>by obtain⟨cs,a⟩:=hp.pl.blk t;exact bY a d (by decide) e)
 ·rcases hp.ob with e|⟨r,e,t⟩
  ·rw[f] at e;rcases h.vs with ⟨h0,_⟩|⟨L,A,h0,F⟩
   ·rw[h0] at e;simp[Value.ownBlock] at e
   ·rw[h0] at e;simp[Value.ownBlock] at e;omega
  ·rw[f] at e;simp[Value.ownBlock] at e;have:=h.kp.size;have:=D.size;omega
 ·by_cases e:j=k
  ·simp only[e,if_true];exact q hS
  ·simp only[e,if_false];exact q ((h.st j (by omega)).kept D (fun x=>x) (fun x=>x))
 ·by_cases G:i=k <;> by_cases I:j=k <;> simp only[G,I,if_true,if_false] at e
  ·omega
  ·have:=z j (by omega);omega
  ·have:=z i (by omega);omega
  ·exact h.iS i j (by omega) (by omega) e
 ·by_cases G:i=k <;> by_cases I:j=k <;> simp only[G,I,if_true,if_false] at e
  ·omega
  ·have:=B j (by omega);omega
  ·have:=B i (by omega);omega
  ·exact h.iC i j (by omega) (by omega) e
 ·have hz:=h.kp.size;by_cases e:j=k
  ·simp only[e,if_true];omega
  ·simp only[e,if_false];exact h.hS j (by omega)
 ·refine(h.kp.trans (U:=nO) K (fun _ _ x=>x) (fun x hx e=>?_)).setNew (p:=⟨b,2,none⟩) (fun e=>absurd e (Nat.not_lt.2 h.hw)) _;rcases h.vs with ⟨h0,_⟩|⟨L,A,h0,F⟩
  ·rw[h0] at e;simp[Value.ownBlock] at e
  ·rw[h0] at e;simp[Value.ownBlock] at e;omega
def aY(o:Nat):Mp:=⟨o,0,fun _=>aV,fun _=>[]⟩
def iF(w:World)(b:Nat)(B:Bs)(o:Nat):Prop:=∀ x,aO b B o x->w.heap.size<=x
theorem Nw.fin{w W b o v S C}(h:Nw w W b o o v S C)(m:o<=8):∃ B,MpA W b B (aY o)/\iF w b B o:=by
 have hs:∀ k,k<o->SetAt W (S k) (C k) (0/2 ^ (k+1)) []:=fun k a=>by rw[Nat.zero_div];exact h.st k a
 rcases h.vs with ⟨d,h0⟩|⟨g,cap,d,hg⟩
 ·refine⟨⟨none,none,S,C⟩,⟨m,az _,⟨0,by simp[aY]⟩,⟨0,?_,h0,rfl⟩,rfl,hs,h.iS,h.iC,fun i hi=>absurd hi (Nat.not_lt_zero _)⟩,?_⟩
  ·have:=h.hb;rw[d] at this;subst h0;exact this
  ·rintro x (rfl|e|e|⟨k,a,_⟩)
   ·exact h.hw
   ·cases e
   ·cases e
   ·omega
 ·have hp:=h.pl;rcases hp.2 with ⟨h0,_⟩|⟨t,l,c,h0,r,f,p,s,q,n⟩
  ·rw[d] at h0;cases h0
  ·rw[d] at h0;simp at h0;obtain⟨rfl,-,rfl⟩:=h0;refine⟨⟨none,some g,S,C⟩,⟨m,az _,⟨0,by simp[aY]⟩,⟨cap,?_,c,f,by have:=q;omega,by show o<=cap;have:=p;simp at this;omega,fun k a=>?_⟩,rfl,hs,h.iS,h.iC,fun i hi=>absurd hi (Nat.not_lt_zero _)⟩,?_⟩
   ·have:=h.hb;rw[d] at this;exact this
   ·have e:(c.toList.take (((List.range o).map S).length*1))[k]?=(((List.range o).map S).map dG)[k]?:=(by rw[n]);rw[List.getElem?_take,ae (by simp;exact a)] at e;have j:k<o:=a;simpa [j,dG] using e
   ·rintro x (rfl|e|e|⟨k,a,rfl|rfl⟩)
    ·exact h.hw
    ·cases e
    ·cases e;exact hg
    ·exact(h.hS k a).1
    ·exact(h.hS k a).2
theorem zV(o:Nat)(K:o<=8)(w:World):
  Calls prog 54 #[.int .i64 o] w fun e p=>∃ b B,e=.returned (.pointer (some ⟨b,0,none⟩))/\MpA p b B (aY o)/\Kt nO w p/\iF w b B o:=by
 have n:=aA (show o<=8 by omega);go_enter func54,ntmps54;go_wp2
 have q:=aA (show Nw w (w.alloc (.cells #[.int .i64 o,.slice none 0 0,.slice none 0 0] 140)) w.heap.size o 0 (.slice none 0 0) (fun _=>0) (fun _=>0)from
  ⟨nH w _,World.ownsRow_nil _ _ _ _,.inl ⟨rfl,rfl⟩,fun j m=>absurd m (by omega),fun i j hi=>absurd hi (by omega),fun i j hi=>absurd hi (by omega),fun j m=>absurd m (by omega),aj _,(Kt.refl nO w).alloc _⟩)
 go_loopw [13] (fun i W=>∃ k:Nat,k<=o/\i=.int .i64 k/\Hd (∃ v S C,Nw w W w.heap.size o k v S C)) (fun i _=>o-(intOf i).toNat)
 case atStart=>exact⟨0,by omega,rfl,⟨_,_,_,q.o⟩⟩
 case round=>
  clear q;obtain⟨k,I,rfl,hR⟩:=hrel;obtain⟨v,S,C,hR⟩:=hR.o;have a:=aA hR;have c2:wr.cell? ⟨w.heap.size,2,none⟩=some v:=by simp[World.cell?,hR.hb]
  clear hR;by_cases A:k<o
  ·have h:(k:Int)<o:=(by omega);go_wp2_with fail;go_region_law (first|(refine xP rfl rfl w.heap.size v c2 ?_;intro g y f c2;have f:=aA (nT (Kt.refl nO wr).drew f.o);have l:=((Kt.refl nO g).alloc (.cells #[.pointer (some ⟨wr.heap.size+1,0,none⟩)] 141)).cell (fun x=>x) c2)|(refine xC rfl (.tmp 19) (.tmp 21) rfl v _ k (wr.heap.size+1) w.heap.size _ _ ((a.o.pl.kept f.o (fun _ _ x=>x)).kept ((Kt.refl nO g).alloc _) (fun _ _ x=>x)) (by simp) (by have:=n.o;omega) (((f.o.alloc _).block w.heap.size (lH a.o.hb) (fun x=>x)).trans a.o.hb) ⟨g.heap.size,0,none⟩ 1 rfl rfl (by rw[Addr.add_lit];exact qJ _ _ _) ?_;intro D d u c F E))
   all_goals
    have s:=aA (a.o.next (y.o.kept ((Kt.refl nO g).alloc _) (fun x=>x) (fun x=>x)) (f.o.alloc _) c.o);generalize z:u.setCell ⟨w.heap.size,2,none⟩ (.slice (some ⟨D,0,none⟩) (k+1) d)=J at s;clear z c F E l c2;go_wp2_with fail;exact⟨⟨k+1,by omega,by simp,⟨_,_,_,s.o⟩⟩,by simp[intOf];omega⟩
  ·have h:¬(k:Int)<o:=(by omega);obtain⟨B,r,t⟩:=(show Nw w wr w.heap.size o o v S C from by
    have e:k=o:=(by omega);rw[e] at a;exact a.o).fin n.o
   have G:=aA (show MpA wr w.heap.size B (aY o)/\Kt nO w wr/\iF w w.heap.size B o from⟨r,a.o.kp,t⟩);clear r t;go_wp2_with fail;go_ret;exact⟨w.heap.size,rfl,B,G.o⟩
theorem PM(i:Int)(hi:i<0)(w:World):
  Calls prog 54 #[.int .i64 i] w fun e o=>∃ b B,e=.returned (.pointer (some ⟨b,0,none⟩))/\MpA o b B (aY 0)/\Kt nO w o/\iF w b B 0:=by
 have n:=aA (show 0<=8 by omega);go_enter func54,ntmps54;go_wp2
 have p:=aA (show Nw w (w.alloc (.cells #[.int .i64 0,.slice none 0 0,.slice none 0 0] 140)) w.heap.size 0 0 (.slice none 0 0) (fun _=>0) (fun _=>0)from
  ⟨nH w _,World.ownsRow_nil _ _ _ _,.inl ⟨rfl,rfl⟩,fun j m=>absurd m (by omega),fun i j hi=>absurd hi (by omega),fun i j hi=>absurd hi (by omega),fun j m=>absurd m (by omega),aj _,(Kt.refl nO w).alloc _⟩)
 go_loopw [13] (fun i W=>∃ k:Nat,k<=0/\i=.int .i64 k/\Hd (∃ v S C,Nw w W w.heap.size 0 k v S C)) (fun i _=>0-(intOf i).toNat)
 case atStart=>exact⟨0,by omega,rfl,⟨_,_,_,p.o⟩⟩
 case round=>
  clear p;obtain⟨k,G,rfl,hR⟩:=hrel;obtain⟨v,S,C,hR⟩:=hR.o;have a:=aA hR;have c2:wr.cell? ⟨w.heap.size,2,none⟩=some v:=by simp[World.cell?,hR.hb]
  clear hR;by_cases z:k<0
  ·have h:(k:Int)<0:=(by omega);go_wp2_with fail;go_region_law (first|(refine xP rfl rfl w.heap.size v c2 ?_;intro g u f c2;have f:=aA (nT (Kt.refl nO wr).drew f.o);have l:=((Kt.refl nO g).alloc (.cells #[.pointer (some ⟨wr.heap.size+1,0,none⟩)] 141)).cell (fun x=>x) c2)|(refine xC rfl (.tmp 19) (.tmp 21) rfl v _ k (wr.heap.size+1) w.heap.size _ _ ((a.o.pl.kept f.o (fun _ _ x=>x)).kept ((Kt.refl nO g).alloc _) (fun _ _ x=>x)) (by simp) (by have:=n.o;omega) (((f.o.alloc _).block w.heap.size (lH a.o.hb) (fun x=>x)).trans a.o.hb) ⟨g.heap.size,0,none⟩ 1 rfl rfl (by rw[Addr.add_lit];exact qJ _ _ _) ?_;intro A d t c E D))
   all_goals
    have r:=aA (a.o.next (u.o.kept ((Kt.refl nO g).alloc _) (fun x=>x) (fun x=>x)) (f.o.alloc _) c.o);generalize y:t.setCell ⟨w.heap.size,2,none⟩ (.slice (some ⟨A,0,none⟩) (k+1) d)=I at r;clear y c E D l c2;go_wp2_with fail;exact⟨⟨k+1,by omega,by simp,⟨_,_,_,r.o⟩⟩,by simp[intOf];omega⟩
  ·have h:¬(k:Int)<0:=(by omega);obtain⟨B,q,s⟩:=(show Nw w wr w.heap.size 0 0 v S C from by
    have e:k=0:=(by omega);rw[e] at a;exact a.o).fin n.o
   have F:=aA (show MpA wr w.heap.size B (aY 0)/\Kt nO w wr/\iF w w.heap.size B 0 from⟨q,a.o.kp,s⟩);clear q s;go_wp2_with fail;go_ret;exact⟨w.heap.size,rfl,B,F.o⟩
theorem PH(i:Int)(hi : 8<i)(w:World):
  Calls prog 54 #[.int .i64 i] w fun e o=>∃ b B,e=.returned (.pointer (some ⟨b,0,none⟩))/\MpA o b B (aY 8)/\Kt nO w o/\iF w b B 8:=by
 have n:=aA (show 8<=8 by omega);go_enter func54,ntmps54;go_wp2
 have p:=aA (show Nw w (w.alloc (.cells #[.int .i64 8,.slice none 0 0,.slice none 0 0] 140)) w.heap.size 8 0 (.slice none 0 0) (fun _=>0) (fun _=>0)from
  ⟨nH w _,World.ownsRow_nil _ _ _ _,.inl ⟨rfl,rfl⟩,fun j m=>absurd m (by omega),fun i j hi=>absurd hi (by omega),fun i j hi=>absurd hi (by omega),fun j m=>absurd m (by omega),aj _,(Kt.refl nO w).alloc _⟩)
 go_loopw [13] (fun i W=>∃ k:Nat,k<=8/\i=.int .i64 k/\Hd (∃ v S C,Nw w W w.heap.size 8 k v S C)) (fun i _=>8-(intOf i).toNat)
 case atStart=>exact⟨0,by omega,rfl,⟨_,_,_,p.o⟩⟩
 case round=>
  clear p;obtain⟨k,G,rfl,hR⟩:=hrel;obtain⟨v,S,C,hR⟩:=hR.o;have a:=aA hR;have c2:wr.cell? ⟨w.heap.size,2,none⟩=some v:=by simp[World.cell?,hR.hb]
  clear hR;by_cases z:k<8
  ·have h:(k:Int)<8:=(by omega);go_wp2_with fail;go_region_law (first|(refine xP rfl rfl w.heap.size v c2 ?_;intro g u f c2;have f:=aA (nT (Kt.refl nO wr).drew f.o);have l:=((Kt.refl nO g).alloc (.cells #[.pointer (some ⟨wr.heap.size+1,0,none⟩)] 141)).cell (fun x=>x) c2)|(refine xC rfl (.tmp 19) (.tmp 21) rfl v _ k (wr.heap.size+1) w.heap.size _ _ ((a.o.pl.kept f.o (fun _ _ x=>x)).kept ((Kt.refl nO g).alloc _) (fun _ _ x=>x)) (by simp) (by have:=n.o;omega) (((f.o.alloc _).block w.heap.size (lH a.o.hb) (fun x=>x)).trans a.o.hb) ⟨g.heap.size,0,none⟩ 1 rfl rfl (by rw[Addr.add_lit];exact qJ _ _ _) ?_;intro A d t c E D))
   all_goals
    have r:=aA (a.o.next (u.o.kept ((Kt.refl nO g).alloc _) (fun x=>x) (fun x=>x)) (f.o.alloc _) c.o);generalize y:t.setCell ⟨w.heap.size,2,none⟩ (.slice (some ⟨A,0,none⟩) (k+1) d)=I at r;clear y c E D l c2;go_wp2_with fail;exact⟨⟨k+1,by omega,by simp,⟨_,_,_,r.o⟩⟩,by simp[intOf];omega⟩
  ·have h:¬(k:Int)<8:=(by omega);obtain⟨B,q,s⟩:=(show Nw w wr w.heap.size 8 8 v S C from by
    have e:k=8:=(by omega);rw[e] at a;exact a.o).fin n.o
   have F:=aA (show MpA wr w.heap.size B (aY 8)/\Kt nO w wr/\iF w w.heap.size B 8 from⟨q,a.o.kp,s⟩);clear q s;go_wp2_with fail;go_ret;exact⟨w.heap.size,rfl,B,F.o⟩
def eY(i:Int):Nat:=if i<0 then 0 else if 8<i then 8 else i.toNat
theorem UG(i:Int)(w:World):
  Calls prog 54 #[.int .i64 i] w fun e a=>∃ b B,e=.returned (.pointer (some ⟨b,0,none⟩))/\MpA a b B (aY (eY i))/\Kt nO w a/\iF w b B (eY i):=by
 by_cases h:i<0
 ·rw[show eY i=0 by simp[eY,h]];exact PM i h w
 ·by_cases h8 : 8<i
  ·rw[show eY i=8 by simp[eY,h,h8]];exact PH i h8 w
  ·obtain⟨o,rfl⟩:=au (show 0<=i by omega);rw[show eY (o:Int)=o by unfold eY;rw[ac (by omega),ac (by omega)];rfl];exact zV o (by omega) w
end Go.Proofs.YtfmgnljlkdmndaaGreatDoor
