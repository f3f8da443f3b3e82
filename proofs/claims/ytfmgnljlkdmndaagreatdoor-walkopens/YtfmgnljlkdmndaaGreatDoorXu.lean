import Derived.Test.YtfmgnljlkdmndaaGreatDoorXo
import Derived.ArgAppend
import Derived.Laws.OwnMore
import Derived.Maps.AppendAt
import Derived.Deep.RegionLaw
set_option maxRecDepth 1000000
set_option maxHeartbeats 0
namespace Go.Proofs.YtfmgnljlkdmndaaGreatDoor
open Tryz RowKit
set_option linter.unusedVariables false
def dE(s:Nat):Vl:=.pointer (some ⟨s,0,none⟩)
def PL(w:Wd)(v:Vl)(xs:List Nat):Prop:=w.ownsRow 0 141 1 v xs.length (xs.map dE)
theorem zlD:(prog.info? 141).map (fun i=>(i.zero,i.size,i.bytes))=some (some (.pointer none),1,8):=by kernel_rfl
theorem zep:∃ i,prog.info? 141=some i/\i.zero=some (.pointer none)/\i.size=1/\i.bytes=8:=by obtain⟨i,hi,a⟩:=Option.map_eq_some_iff.1 zlD;simp only[Prod.mk.injEq] at a;exact⟨i,hi,a.1,a.2.1,a.2.2⟩
theorem lK{w a:Wd}{row:Option Nat}(h:w.grownBy a row):Kt (fun b=>row=some b) w a:=⟨h.os,h.tape,h.output,h.size,fun k c d=>h.block k c (fun e=>d e.symm)⟩
theorem PL.jd{w v xs r}(h:PL w v xs)(a:v.ownBlock=some r):∃ cs,w.heap[r]?=some (.cells cs 141 (0,0)):=by
 rcases h.2 with ⟨rfl,_⟩|⟨g,cap,b,rfl,hb,hg,c⟩
 ·simp[Value.ownBlock] at a
 ·simp[Value.ownBlock] at a;subst a;exact⟨_,hg⟩
theorem PL.kept{w w' v xs}{S:Nat->Prop}(h:PL w v xs)(k:Kt S w w')(hS:∀ r,v.ownBlock=some r->¬S r):PL w' v xs:=by
 refine⟨h.1,?_⟩;rcases h.2 with h0|⟨g,cap,a,rfl,hb,hg,b⟩
 ·exact .inl h0
 ·exact .inr ⟨g,cap,a,rfl,hb,(k.block g (lH hg) (hS g rfl)).trans hg,b⟩
theorem PL.push(w:Wd)(v:Vl)(k:List Nat)(x:Nat)(h:PL w v k)(J:k.length+1<=8)(a:Addr)(c:Nat)(ha:w.cell? (a.add 0)=some (dE x)):∃ n l,(∀ G,(Builtin.append_ #[138,138] G #[v,.slice (some a) 1 c]).run prog w=.ok n l)/\PL l n (k ++ [x])/\Kt (fun b=>v.ownBlock=some b) w l/\
   (n.ownBlock=v.ownBlock\/∃ r,n.ownBlock=some r/\w.heap.size<=r)/\∃ g cap,n=.slice (some ⟨g,0,none⟩) (k.length+1) cap:=by
 obtain⟨i,hi,B,y,C⟩:=zep;have q:k.length+1<=maxLen:=by simp only[maxLen];omega
 have m:∀ j u,[dE x][j]?=some u->w.cell? (a.add j)=some u:=by
  intro j u p;match j,p with
  | 0,p=>simp at p;subst p;exact ha
  | j+1,p=>simp at p
 have s:(k ++ [x]).map dE=k.map dE ++ [dE x]:=by simp
 have D:(k ++ [x]).length=k.length + 1:=by simp
 by_cases I:∃ g cap,v=.slice (some ⟨g,0,none⟩) k.length cap/\k.length+1<=cap
 ·obtain⟨g,cap,rfl,t⟩:=I;obtain⟨l,f,d,o⟩:=run_append_fits (P:=prog) w 0 138 0 141 i 1 Tryz.underlying138 hi y g k.length cap (k.map dE) h a 1 c [dE x] rfl m (by simp[Value.oneCell',dE]) t;refine⟨.slice (some ⟨g,0,none⟩) (k.length+1) cap,l,fun G=>?_,?_,lK o,.inl rfl,g,cap,rfl⟩
  ·rw[<-f];simp[Builtin.append_]
  ·unfold PL;rw[s,D];exact d
 ·have E:∃ n l,(Builtin.append_ #[138,138] 0 #[v,.slice (some a) 1 c]).run prog w=.ok n l/\l.ownsRow w.heap.size 141 1 n (k.length + 1) (k.map dE ++ [dE x])/\Kt (fun b=>v.ownBlock=some b) w l:=by
   have N:=h;rcases N.2 with ⟨rfl,h0⟩|⟨g,cap,A,rfl,hb,hg,Q,R,K,z⟩
   ·have:k=[]:=bq h0;subst this;obtain⟨n,l,f,d,o,_⟩:=run_append_own (P:=prog) w w.heap.size 138 0 141 i (.pointer none) 1 8 Tryz.underlying138 hi B y C rfl (by decide) (.slice none 0 0) 0 [] (World.ownsRow_nil _ _ _ _) a 1 c [dE x] rfl m (by simp[Value.oneCell',dE]) q (by simp) (aj _);exact⟨n,l,f,d,lK o⟩
   ·obtain⟨n,l,f,d,o⟩:=run_append_arg_grows (P:=prog) w 138 0 141 i (.pointer none) 1 8 Tryz.underlying138 hi B y C rfl (by decide) ⟨g,0,none⟩ k.length cap (k.map dE) (by simp) (fun j u p=>by
     rw[Addr.add_lit,dz];rw[<-z,dc] at p;split at p;·simp only[World.cell?,hg];rw[<-ef,p];rfl
     ·cases p) a 1 c [dE x] rfl m (Nat.lt_of_not_le fun F=>I ⟨g,cap,rfl,F⟩) q (by omega)
    exact⟨n,l,f,d,(lK o).mono (fun _ _ e=>by cases e)⟩
  obtain⟨n,l,f,d,S⟩:=E;rcases d.2 with ⟨_,h0⟩|⟨g,cap,A,rfl,hb,hg,L⟩
  ·omega
  ·refine⟨_,l,fun G=>?_,?_,S,.inr ⟨g,rfl,hb⟩,g,cap,rfl⟩
   ·rw[<-f];simp[Builtin.append_]
   ·unfold PL;rw[s,D];exact⟨d.1,.inr ⟨g,cap,A,rfl,az _,hg,L⟩⟩
theorem qL(w:Wd)(v:Vl)(t:TypeId):(w.alloc (.cells #[v] t)).cell? ⟨w.heap.size,0+0,none⟩=some v:=by have:=nH w (.cells #[v] t);simp only[World.cell?,this];rfl
structure Pushed(w w':Wd)(v v':Vl)(xs:List Nat)(x:Nat):Prop where
 pl:PL w' v' (xs ++ [x])
 kp:Kt (fun b=>v.ownBlock=some b) w w'
 ob:v'.ownBlock=v.ownBlock\/∃ r,v'.ownBlock=some r/\w.heap.size<=r
 sl:∃ g cap,v'=.slice (some ⟨g,0,none⟩) (xs.length+1) cap
theorem xR{i:Array Oper}{o:Oper}{a:Act}{w:Wd}{K:Act->Wd->Prop}{Q:Exit->Act->Wd->Prop}{E:Prop}(q:o.guard=none)(s x:Operand)(m:o.op=Op.call { callee:=Callee.builtin Builtin.append,args:=#[s,x],argTypes:=#[138,138] }) (v:Vl) (l:List Nat) (n y b:Nat) (c0 c1:Vl) (h:PL w v l) (t:l.length=n) (hl:n+1<=8)(hb:w.heap[b]?=some (.cells #[c0,c1,v] 140 (0,0))) (ad:Addr) (c:Nat)(hs:a.eval s=v) (hx:a.eval x=.slice (some ad) 1 c) (ha:w.cell? (ad.add 0)=some (dE y))(hK:∀ j d g,Hd (Pushed w g v (.slice (some ⟨j,0,none⟩) (n+1) d) l y)->g.cell? ⟨b,2,none⟩=some v->g.frozen? ⟨b,2,none⟩=false->K (a.put o.dst (.slice (some ⟨j,0,none⟩) (n+1) d)) g):if Region.wanted o (yielded i a.tmps)=true then Oper.wp prog o a w K Q else E:=by
 have hw:Region.wanted o (yielded i a.tmps)=true:=by simp[Region.wanted,q]
 rw[ae hw];obtain⟨A,g,f,r,u,z,j,d,rfl⟩:=h.push w v l y (by omega) ad c ha;rw[t] at f r z;have f:=f o.type;have k:g.heap[b]?=some (.cells #[c0,c1,v] 140 (0,0)):=(u.block b (lH hb) (fun e=>by obtain⟨cs,p⟩:=h.jd e;exact bX hb p (by decide) rfl)).trans hb
 unfold Oper.wp;simp[execOp,m,resolve,invoke,builtin,hs,hx,f,Result.andThen];exact hK j d g ⟨r,u,z,j,d,by rw[t]⟩ (by simp[World.cell?,k]) (by simp[World.frozen?,k])
theorem xT{d:Array Oper}{o:Oper}{a:Act}{w:Wd}{K:Act->Wd->Prop}{Q:Exit->Act->Wd->Prop}{E:Prop}(g:o.guard=none)(f:o.op=Op.call { callee:=Callee.value (Operand.func 102),args:=#[Operand.const (Value.int .i64 0)],argTypes:=#[3] }) (b:Nat) (v:Vl) (hc:w.cell? ⟨b,2,none⟩=some v)(hK:∀ c,Hd (SetAt c (w.heap.size+1) w.heap.size 0 [])->Hd (Kt nO w c)->c.cell? ⟨b,2,none⟩=some v->K (a.put o.dst (.pointer (some ⟨w.heap.size+1,0,none⟩))) c):if Region.wanted o (yielded d a.tmps)=true then Oper.wp prog o a w K Q else E:=by
 have hw:Region.wanted o (yielded d a.tmps)=true:=by simp[Region.wanted,g]
 rw[ae hw];unfold Oper.wp;simp[execOp,f,resolve,invoke,Deferred.ofValue,Act.eval,callFunc,Result.andThen,go_sem];rw[ac (by decide +kernel),ac (by decide +kernel)];show Calls prog 102 _ _ _
 refine(uD 0 (by decide) (by decide) w).mono ?_;rintro e c ⟨rfl,hS,h,j⟩;exact hK c (RawAt.set hS (fun i hi=>absurd hi (by simp))) h (h.cell (fun x=>x) hc)
structure Nw(w W:Wd)(b o k:Nat)(v:Vl)(S C:Nat->Nat):Prop where
 hb:W.heap[b]?=some (.cells #[.int .i64 o,.slice none 0 0,v] 140 (0,0))
 pl:PL W v ((List.range k).map S)
 vs:v=.slice none 0 0/\k=0\/∃ g cap,v=.slice (some ⟨g,0,none⟩) k cap/\w.heap.size<=g
 st:∀ j,j<k->SetAt W (S j) (C j) 0 []
 iS:∀ i j,i<k->j<k->S i=S j->i=j
 iC:∀ i j,i<k->j<k->C i=C j->i=j
 hS:∀ j,j<k->w.heap.size<=S j/\w.heap.size<=C j
 hw:w.heap.size<=b
 kp:Kt nO w W
theorem Nw.next{w W W2 W3 b o k v v' S C}(h:Nw w W b o k v S C)(hS:SetAt W2 (W.heap.size+1) W.heap.size 0 [])(D:Kt nO W W2)(hp:Pushed W2 W3 v v' ((List.range k).map S) (W.heap.size+1)):Nw w (W3.setCell ⟨b,2,none⟩ v') b o (k+1) v' (fun j=>if j=k then W.heap.size+1 else S j) (fun j=>if j=k then W.heap.size else C j):=by
 have y:∀ r,v.ownBlock=some r->∃ cs,W.heap[r]?=some (.cells cs 141 (0,0)):=fun r t=>h.pl.jd t
 have K:Kt (fun x=>v.ownBlock=some x) W W3:=D.trans hp.kp (fun _ _ x=>x.elim) (fun _ _ x=>x);have f:W3.heap[b]?=some (.cells #[.int .i64 o,.slice none 0 0,v] 140 (0,0)):=(K.block b (lH h.hb) (fun e=>by obtain⟨cs,a⟩:=y _ e;exact bX h.hb a (by decide) rfl)).trans h.hb
 have J:Kt (fun x=>x=b) W3 (W3.setCell ⟨b,2,none⟩ v'):=(Kt.refl (fun x=>x=b) W3).setCell (p:=⟨b,2,none⟩) rfl _;have m:∀ {s c n ws},SetAt W2 s c n ws->SetAt (W3.setCell ⟨b,2,none⟩ v') s c n ws:=fun {s c n ws} hs=>by
  have q:∀ r,v.ownBlock=some r->∃ cs,W2.heap[r]?=some (.cells cs 141 (0,0)):=fun r t=>by obtain⟨cs,a⟩:=y r t;exact⟨cs,(D.block r (lH a) (fun x=>x)).trans a⟩
  have G:=hs.kept hp.kp (fun e=>by obtain⟨cs,a⟩:=q _ e;exact bX hs.hb a (by decide) rfl) (fun e=>by obtain⟨cs,a⟩:=q _ e;exact bX hs.hc a (by decide) rfl);exact G.kept J (bX G.hb f (by decide)) (bX G.hc f (by decide))
 have A:(List.range (k + 1)).map (fun j=>if j=k then W.heap.size + 1 else S j)=(List.range k).map S ++ [W.heap.size + 1]:=by
  rw[List.range_succ,List.map_append];congr 1;·exact List.map_congr_left (fun j d=>by rw[ac (by have:=List.mem_range.1 d;omega)])
  ·simp
 obtain⟨g,cap,l⟩:=hp.sl;rw[List.length_map,List.length_range] at l;have u:∀ j,j<k->S j<W.heap.size:=fun j d=>lH (h.st j d).hb
 have B:∀ j,j<k->C j<W.heap.size:=fun j d=>lH (h.st j d).hc
 refine⟨(cD f 2 _).trans (by simp),?_,.inr ⟨g,cap,l,?_⟩,fun j d=>?_,fun i j hi d e=>?_,fun i j hi d e=>?_,fun j d=>?_,h.hw,?_⟩;·rw[A];exact hp.pl.kept J (fun r t e=>by obtain⟨cs,a⟩:=hp.pl.jd t;exact bX a f (by decide) e)
 ·rcases hp.ob with e|⟨r,e,t⟩
  ·rw[l] at e;rcases h.vs with ⟨h0,_⟩|⟨L,z,h0,F⟩
   ·rw[h0] at e;simp[Value.ownBlock] at e
   ·rw[h0] at e;simp[Value.ownBlock] at e;omega
  ·rw[l] at e;simp[Value.ownBlock] at e;have:=h.kp.size;have:=D.size;omega
 ·by_cases e:j=k
  ·simp only[e,if_true];exact m hS
  ·simp only[e,if_false];exact m ((h.st j (by omega)).kept D (fun x=>x) (fun x=>x))
 ·by_cases I:i=k <;> by_cases E:j=k <;> simp only[I,E,if_true,if_false] at e
  ·omega
  ·have:=u j (by omega);omega
  ·have:=u i (by omega);omega
  ·exact h.iS i j (by omega) (by omega) e
 ·by_cases I:i=k <;> by_cases E:j=k <;> simp only[I,E,if_true,if_false] at e
  ·omega
  ·have:=B j (by omega);omega
  ·have:=B i (by omega);omega
  ·exact h.iC i j (by omega) (by omega) e
 ·have hz:=h.kp.size;by_cases e:j=k
  ·simp only[e,if_true];omega
  ·simp only[e,if_false];exact h.hS j (by omega)
 ·refine(h.kp.trans (U:=nO) K (fun _ _ x=>x) (fun x hx e=>?_)).em (p:=⟨b,2,none⟩) (fun e=>absurd e (Nat.not_lt.2 h.hw)) _;rcases h.vs with ⟨h0,_⟩|⟨L,z,h0,F⟩
  ·rw[h0] at e;simp[Value.ownBlock] at e
  ·rw[h0] at e;simp[Value.ownBlock] at e;omega
def aX(o:Nat):Mp:=⟨o,0,fun _=>aU,fun _=>[]⟩
def iA(w:Wd)(b:Nat)(B:Bs)(o:Nat):Prop:=∀ x,aP b B o x->w.heap.size<=x
theorem Nw.fin{w W b o v S C}(h:Nw w W b o o v S C)(m:o<=8):∃ B,MpA W b B (aX o)/\iA w b B o:=by
 have hs:∀ k,k<o->SetAt W (S k) (C k) (0/2 ^ (k+1)) []:=fun k a=>by rw[Nat.zero_div];exact h.st k a
 rcases h.vs with ⟨c,h0⟩|⟨g,cap,c,hg⟩
 ·refine⟨⟨none,none,S,C⟩,⟨m,az _,⟨0,by simp[aX]⟩,⟨0,?_,h0,rfl⟩,rfl,hs,h.iS,h.iC,fun i hi=>absurd hi (Nat.not_lt_zero _)⟩,?_⟩
  ·have:=h.hb;rw[c] at this;subst h0;exact this
  ·rintro x (rfl|e|e|⟨k,a,_⟩)
   ·exact h.hw
   ·cases e
   ·cases e
   ·omega
 ·have hp:=h.pl;rcases hp.2 with ⟨h0,_⟩|⟨s,l,d,h0,p,f,n,t,q,r⟩
  ·rw[c] at h0;cases h0
  ·rw[c] at h0;simp at h0;obtain⟨rfl,-,rfl⟩:=h0;refine⟨⟨none,some g,S,C⟩,⟨m,az _,⟨0,by simp[aX]⟩,⟨cap,?_,d,f,by have:=q;omega,by show o<=cap;have:=n;simp at this;omega,fun k a=>?_⟩,rfl,hs,h.iS,h.iC,fun i hi=>absurd hi (Nat.not_lt_zero _)⟩,?_⟩
   ·have:=h.hb;rw[c] at this;exact this
   ·have e:(d.toList.take (((List.range o).map S).length*1))[k]?=(((List.range o).map S).map dE)[k]?:=(by rw[r]);rw[dc,ae (by simp;exact a)] at e;have j:k<o:=a;simpa [j,dE] using e
   ·rintro x (rfl|e|e|⟨k,a,rfl|rfl⟩)
    ·exact h.hw
    ·cases e
    ·cases e;exact hg
    ·exact(h.hS k a).1
    ·exact(h.hS k a).2
theorem zV(o:Nat)(J:o<=8)(w:Wd):Calls prog 54 #[.int .i64 o] w fun e n=>∃ b B,e=.returned (.pointer (some ⟨b,0,none⟩))/\MpA n b B (aX o)/\Kt nO w n/\iA w b B o:=by
 have t:=aA (show o<=8 by omega);go_enter func54,ntmps54;go_wp2
 have q:=aA (show Nw w (w.alloc (.cells #[.int .i64 o,.slice none 0 0,.slice none 0 0] 140)) w.heap.size o 0 (.slice none 0 0) (fun _=>0) (fun _=>0)from
  ⟨nH w _,World.ownsRow_nil _ _ _ _,.inl ⟨rfl,rfl⟩,fun j h=>absurd h (by omega),fun i j hi=>absurd hi (by omega),fun i j hi=>absurd hi (by omega),fun j h=>absurd h (by omega),aj _,(kz w).alloc _⟩)
 go_loopw [13] (fun i W=>∃ k:Nat,k<=o/\i=.int .i64 k/\Hd (∃ v S C,Nw w W w.heap.size o k v S C)) (fun i _=>o-(intOf i).toNat)
 case atStart=>exact⟨0,by omega,rfl,⟨_,_,_,q.o⟩⟩
 case round=>
  clear q;obtain⟨k,K,rfl,hR⟩:=hrel;obtain⟨v,S,C,hR⟩:=hR.o;have a:=aA hR;have c2:wr.cell? ⟨w.heap.size,2,none⟩=some v:=by simp[World.cell?,hR.hb]
  clear hR;by_cases G:k<o
  ·have l:(k:Int)<o:=(by omega);go_wp2_with fail;go_region_law (first|(refine xT rfl rfl w.heap.size v c2 ?_;intro g z c c2;have c:=aA (nT (kz wr).drew c.o);have m:=((kz g).alloc (.cells #[.pointer (some ⟨wr.heap.size+1,0,none⟩)] 141)).cell (fun x=>x) c2)|(refine xR rfl (.tmp 19) (.tmp 21) rfl v _ k (wr.heap.size+1) w.heap.size _ _ ((a.o.pl.kept c.o (fun _ _ x=>x)).kept ((kz g).alloc _) (fun _ _ x=>x)) (by simp) (by have:=t.o;omega) (((c.o.alloc _).block w.heap.size (lH a.o.hb) (fun x=>x)).trans a.o.hb) ⟨g.heap.size,0,none⟩ 1 rfl rfl (by rw[Addr.add_lit];exact qL _ _ _) ?_;intro D d y f u F))
   all_goals
    have p:=aA (a.o.next (z.o.kept ((kz g).alloc _) (fun x=>x) (fun x=>x)) (c.o.alloc _) f.o);generalize A:y.setCell ⟨w.heap.size,2,none⟩ (.slice (some ⟨D,0,none⟩) (k+1) d)=I at p;clear A f u F m c2;go_wp2_with fail;exact⟨⟨k+1,by omega,by simp,⟨_,_,_,p.o⟩⟩,by simp[intOf];omega⟩
  ·have l:¬(k:Int)<o:=(by omega);obtain⟨B,s,r⟩:=(show Nw w wr w.heap.size o o v S C from by
    have e:k=o:=(by omega);rw[e] at a;exact a.o).fin t.o
   have E:=aA (show MpA wr w.heap.size B (aX o)/\Kt nO w wr/\iA w w.heap.size B o from⟨s,a.o.kp,r⟩);clear s r;go_wp2_with fail;go_ret;exact⟨w.heap.size,rfl,B,E.o⟩
theorem PD(i:Int)(hi:i<0)(w:Wd):Calls prog 54 #[.int .i64 i] w fun e n=>∃ b B,e=.returned (.pointer (some ⟨b,0,none⟩))/\MpA n b B (aX 0)/\Kt nO w n/\iA w b B 0:=by
 have s:=aA (show 0<=8 by omega);go_enter func54,ntmps54;go_wp2
 have p:=aA (show Nw w (w.alloc (.cells #[.int .i64 0,.slice none 0 0,.slice none 0 0] 140)) w.heap.size 0 0 (.slice none 0 0) (fun _=>0) (fun _=>0)from
  ⟨nH w _,World.ownsRow_nil _ _ _ _,.inl ⟨rfl,rfl⟩,fun j h=>absurd h (by omega),fun i j hi=>absurd hi (by omega),fun i j hi=>absurd hi (by omega),fun j h=>absurd h (by omega),aj _,(kz w).alloc _⟩)
 go_loopw [13] (fun i W=>∃ k:Nat,k<=0/\i=.int .i64 k/\Hd (∃ v S C,Nw w W w.heap.size 0 k v S C)) (fun i _=>0-(intOf i).toNat)
 case atStart=>exact⟨0,by omega,rfl,⟨_,_,_,p.o⟩⟩
 case round=>
  clear p;obtain⟨k,I,rfl,hR⟩:=hrel;obtain⟨v,S,C,hR⟩:=hR.o;have a:=aA hR;have c2:wr.cell? ⟨w.heap.size,2,none⟩=some v:=by simp[World.cell?,hR.hb]
  clear hR;by_cases F:k<0
  ·have l:(k:Int)<0:=(by omega);go_wp2_with fail;go_region_law (first|(refine xT rfl rfl w.heap.size v c2 ?_;intro g y c c2;have c:=aA (nT (kz wr).drew c.o);have m:=((kz g).alloc (.cells #[.pointer (some ⟨wr.heap.size+1,0,none⟩)] 141)).cell (fun x=>x) c2)|(refine xR rfl (.tmp 19) (.tmp 21) rfl v _ k (wr.heap.size+1) w.heap.size _ _ ((a.o.pl.kept c.o (fun _ _ x=>x)).kept ((kz g).alloc _) (fun _ _ x=>x)) (by simp) (by have:=s.o;omega) (((c.o.alloc _).block w.heap.size (lH a.o.hb) (fun x=>x)).trans a.o.hb) ⟨g.heap.size,0,none⟩ 1 rfl rfl (by rw[Addr.add_lit];exact qL _ _ _) ?_;intro A d u f t E))
   all_goals
    have o:=aA (a.o.next (y.o.kept ((kz g).alloc _) (fun x=>x) (fun x=>x)) (c.o.alloc _) f.o);generalize z:u.setCell ⟨w.heap.size,2,none⟩ (.slice (some ⟨A,0,none⟩) (k+1) d)=G at o;clear z f t E m c2;go_wp2_with fail;exact⟨⟨k+1,by omega,by simp,⟨_,_,_,o.o⟩⟩,by simp[intOf];omega⟩
  ·have l:¬(k:Int)<0:=(by omega);obtain⟨B,r,q⟩:=(show Nw w wr w.heap.size 0 0 v S C from by
    have e:k=0:=(by omega);rw[e] at a;exact a.o).fin s.o
   have D:=aA (show MpA wr w.heap.size B (aX 0)/\Kt nO w wr/\iA w w.heap.size B 0 from⟨r,a.o.kp,q⟩);clear r q;go_wp2_with fail;go_ret;exact⟨w.heap.size,rfl,B,D.o⟩
theorem OY(i:Int)(hi : 8<i)(w:Wd):Calls prog 54 #[.int .i64 i] w fun e n=>∃ b B,e=.returned (.pointer (some ⟨b,0,none⟩))/\MpA n b B (aX 8)/\Kt nO w n/\iA w b B 8:=by
 have s:=aA (show 8<=8 by omega);go_enter func54,ntmps54;go_wp2
 have p:=aA (show Nw w (w.alloc (.cells #[.int .i64 8,.slice none 0 0,.slice none 0 0] 140)) w.heap.size 8 0 (.slice none 0 0) (fun _=>0) (fun _=>0)from
  ⟨nH w _,World.ownsRow_nil _ _ _ _,.inl ⟨rfl,rfl⟩,fun j h=>absurd h (by omega),fun i j hi=>absurd hi (by omega),fun i j hi=>absurd hi (by omega),fun j h=>absurd h (by omega),aj _,(kz w).alloc _⟩)
 go_loopw [13] (fun i W=>∃ k:Nat,k<=8/\i=.int .i64 k/\Hd (∃ v S C,Nw w W w.heap.size 8 k v S C)) (fun i _=>8-(intOf i).toNat)
 case atStart=>exact⟨0,by omega,rfl,⟨_,_,_,p.o⟩⟩
 case round=>
  clear p;obtain⟨k,I,rfl,hR⟩:=hrel;obtain⟨v,S,C,hR⟩:=hR.o;have a:=aA hR;have c2:wr.cell? ⟨w.heap.size,2,none⟩=some v:=by simp[World.cell?,hR.hb]
  clear hR;by_cases F:k<8
  ·have l:(k:Int)<8:=(by omega);go_wp2_with fail;go_region_law (first|(refine xT rfl rfl w.heap.size v c2 ?_;intro g y c c2;have c:=aA (nT (kz wr).drew c.o);have m:=((kz g).alloc (.cells #[.pointer (some ⟨wr.heap.size+1,0,none⟩)] 141)).cell (fun x=>x) c2)|(refine xR rfl (.tmp 19) (.tmp 21) rfl v _ k (wr.heap.size+1) w.heap.size _ _ ((a.o.pl.kept c.o (fun _ _ x=>x)).kept ((kz g).alloc _) (fun _ _ x=>x)) (by simp) (by have:=s.o;omega) (((c.o.alloc _).block w.heap.size (lH a.o.hb) (fun x=>x)).trans a.o.hb) ⟨g.heap.size,0,none⟩ 1 rfl rfl (by rw[Addr.add_lit];exact qL _ _ _) ?_;intro A d u f t E))
   all_goals
    have o:=aA (a.o.next (y.o.kept ((kz g).alloc _) (fun x=>x) (fun x=>x)) (c.o.alloc _) f.o);generalize z:u.setCell ⟨w.heap.size,2,none⟩ (.slice (some ⟨A,0,none⟩) (k+1) d)=G at o;clear z f t E m c2;go_wp2_with fail;exact⟨⟨k+1,by omega,by simp,⟨_,_,_,o.o⟩⟩,by simp[intOf];omega⟩
  ·have l:¬(k:Int)<8:=(by omega);obtain⟨B,r,q⟩:=(show Nw w wr w.heap.size 8 8 v S C from by
    have e:k=8:=(by omega);rw[e] at a;exact a.o).fin s.o
   have D:=aA (show MpA wr w.heap.size B (aX 8)/\Kt nO w wr/\iA w w.heap.size B 8 from⟨r,a.o.kp,q⟩);clear r q;go_wp2_with fail;go_ret;exact⟨w.heap.size,rfl,B,D.o⟩
def eV(i:Int):Nat:=if i<0 then 0 else if 8<i then 8 else i.toNat
theorem XA(i:Int)(w:Wd):Calls prog 54 #[.int .i64 i] w fun e a=>∃ b B,e=.returned (.pointer (some ⟨b,0,none⟩))/\MpA a b B (aX (eV i))/\Kt nO w a/\iA w b B (eV i):=by
 by_cases h:i<0;·rw[show eV i=0 by simp[eV,h]];exact PD i h w
 ·by_cases h8 : 8<i
  ·rw[show eV i=8 by simp[eV,h,h8]];exact OY i h8 w
  ·obtain⟨o,rfl⟩:=au (show 0<=i by omega);rw[show eV (o:Int)=o by unfold eV;rw[ac (by omega),ac (by omega)];rfl];exact zV o (by omega) w
end Go.Proofs.YtfmgnljlkdmndaaGreatDoor
