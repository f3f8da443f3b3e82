import Derived.Test.YtbgbfpklgfpepaaGreatDoorWn
import Derived.Test.YtbgbfpklgfpepaaGreatDoorWm
import Derived.Test.YtbgbfpklgfpepaaGreatDoorWk
import Derived.Test.YtbgbfpklgfpepaaGreatDoorWo
set_option maxRecDepth 1000000
set_option maxHeartbeats 80000000
namespace Go.Proofs.YtbgbfpklgfpepaaGreatDoor
open Tryz
open Go.RowKit
open Go.MuLone
open Go.Proofs.YtbgbfpklgfpepaaGreatDoor.M (RS gJ mayB bE)
set_option linter.unusedVariables false
def jE(v:Value)(l:List He8)(y:Nat):Prop:=v.ownBlock=some y\/∃ h∈l,h.v.ownBlock=some y
theorem RX:¬Go.Proofs.YtbgbfpklgfpepaaGreatDoor.pty 164/\164≠135/\164≠91:=by unfold Go.Proofs.YtbgbfpklgfpepaaGreatDoor.pty;decide
theorem BK8.byte{W:World}{v:Value}{l:List He8}(B:BK8 W v l){h:He8}(hh:h∈l){y:Nat}(e:h.v.ownBlock=some y):y<W.heap.size/\∃ q u,W.cell? ⟨y,q,none⟩=some (.int .u8 u):=by
 obtain⟨_,ao,cap,e2,hb⟩:=B.bt h hh;have h16:=(B.bd h hh).2.1;obtain⟨a,rfl,hlt,hc⟩:=hb.resolve_left (by omega);have h0:=hc 0 (by omega);obtain⟨ab,ao,rfl⟩:=M.addr_plain h0;rw[e2] at e;have e:ab=y:=by simpa [Value.ownBlock] using e
 subst e;rw[Addr.add_lit] at h0;exact⟨hlt,_,_,h0⟩
theorem BK8.lt{W:World}{v:Value}{l:List He8}(B:BK8 W v l){y:Nat}(h:jE v l y):y<W.heap.size:=by
 rcases h with h|⟨a,ha,h⟩
 ·obtain⟨cs,hcs⟩:=cB B.own h;exact lH hcs
 ·exact(B.byte ha h).1
theorem BK8.kept{W W':World}{v:Value}{l:List He8}(B:BK8 W v l){S:Nat->Prop}(k:Kt S W W')(hS:∀ y,jE v l y->¬S y):BK8 W' v l:=
 ⟨qC B.own k (fun y e=>hS y (.inl e)),fun h hh=>(B.bt h hh).kept (cH k) (fun y e=>hS y (.inr ⟨h,hh,e⟩)),B.bd,B.ln,B.cp⟩
theorem BK8.set5{W:World}{v:Value}{l:List He8}(B:BK8 W v l){y:Nat}(hy:W.heap[y]?=some cC)(u0 u1 u2 u3 u4:Value):BK8 (set5 W y u0 u1 u2 u3 u4) v l:=by
 refine B.kept (fA u0 u1 u2 u3 u4) fun z hz e=>?_
 subst e;rcases hz with h|⟨a,ha,h⟩
 ·obtain⟨cs,hcs⟩:=cB B.own h;exact absurd (bM hcs hy) (by decide)
 ·obtain⟨_,q,u,hc⟩:=B.byte ha h;simp only[World.cell?,hy] at hc;match q with
  | 0=>simp at hc
  | 1=>simp at hc
  | 2=>simp at hc
  | 3=>simp at hc
  | 4=>simp at hc
  | q+5=>simp at hc
structure BA8(E:Nat->Prop)(W0 W:World)(x:Bx)(sb hb:Nat)(v:Value)(l:List He8):Prop where
 B:BK8 W v l
 ap:∀ y,jE v l y->¬bG x sb y/\y≠hb
 ex:∀ y,E y->y<W.heap.size/\¬bG x sb y/\y≠hb/\W.heap[y]?=W0.heap[y]?
section
variable {E:Nat->Prop} {W0 w W W':World} {hb sb lw:Nat} {x x':Bx} {t t':Bt} {fr fr':Nat->List Nat} {ls ls':List (Nat×Nat)} {S S':Sb} {s:Int} {v:Value} {l:List He8}
theorem BA8.keep(h:BA8 E W0 W x sb hb v l)(k:Kt nO W W'):BA8 E W0 W' x sb hb v l:=⟨h.B.keep k,h.ap,fun y hy=>by
 obtain⟨a1,a2,a3,a4⟩:=h.ex y hy;exact⟨Nat.lt_of_lt_of_le a1 k.size,a2,a3,(k.block y a1 id).trans a4⟩⟩
theorem BA8.nx(h:BA8 E W0 W x sb hb v l)(nx:Nx w W W' hb sb lw x t ls S s x' t' fr' ls' S'):BA8 E W0 W' x' sb hb v l:=
 ⟨h.B.kept nx.kp (fun y hy=>(h.ap y hy).1),fun y hy=>⟨fun e=>(nx.ns y e).elim (h.ap y hy).1 (fun e2=>absurd (h.B.lt hy) (Nat.not_lt.2 e2)),(h.ap y hy).2⟩,fun y hy=>by
  obtain⟨a1,a2,a3,a4⟩:=h.ex y hy;exact⟨Nat.lt_of_lt_of_le a1 nx.kp.size,fun e=>(nx.ns y e).elim a2 (fun e2=>absurd a1 (Nat.not_lt.2 e2)),a3,(nx.kp.block y a1 a2).trans a4⟩⟩
theorem BA8.kw(h:BA8 E W0 W x sb hb v l)(k:Kt (bG x sb) W W'):BA8 E W0 W' x sb hb v l:=⟨h.B.kept k (fun y hy=>(h.ap y hy).1),h.ap,fun y hy=>by
 obtain⟨a1,a2,a3,a4⟩:=h.ex y hy;exact⟨Nat.lt_of_lt_of_le a1 k.size,a2,a3,(k.block y a1 a2).trans a4⟩⟩
theorem BA8.wr(h:BA8 E W0 W x sb hb v l){y0:Nat}(k:Kt (fun y=>y=y0) W W')(hn:¬jE v l y0)(hE:¬E y0):BA8 E W0 W' x sb hb v l:=⟨h.B.kept k (fun y hy e=>hn (e▸hy)),h.ap,fun y hy=>by
 obtain⟨a1,a2,a3,a4⟩:=h.ex y hy;exact⟨Nat.lt_of_lt_of_le a1 k.size,a2,a3,(k.block y a1 (fun e=>hE (e▸hy))).trans a4⟩⟩
theorem HW.slt(H:HW w W hb sb lw x t fr ls S s){y:Nat}(hy:bG x sb y):y<W.heap.size:=by
 obtain⟨h,o⟩:=H.so;rcases hy with e|e
 ·exact o.sw.pl.lt8 y (.inl e)
 ·rw[e];exact lH o.sw.bx
theorem HW.hdy(H:HW w W hb sb lw x t fr ls S s){y:Nat}{cs:Array Value}{z:Nat×Nat}(hy:W.heap[y]?=some (.cells cs 164 z)):¬bG x sb y/\y≠hb:=by
 obtain⟨h,o⟩:=H.so;refine⟨?_,fun e=>?_⟩
 ·rintro (e|e)
  ·exact RX.1 (o.sw.pl.pty hy (.inl e))
  ·subst e;exact absurd (bM hy o.sw.bx) (by decide)
 ·subst e;exact absurd (bM hy H.bx) (by decide)
theorem BA8.new(h:BA8 E W0 W x sb hb v l)(H:HW w W hb sb lw x t fr ls S s)(k:Kt nO W W'){u:Value}{l':List He8}(B:BK8 W' u l')(hn:∀ a∈l',∀ y,a.v.ownBlock=some y->(∃ b∈l,b.v.ownBlock=some y)\/W.heap.size<=y):BA8 E W0 W' x sb hb u l':=by
 refine⟨B,fun y hy=>?_,(h.keep k).ex⟩;rcases hy with e|⟨a,ha,e⟩
 ·obtain⟨cs,hcs⟩:=cB B.own e;exact(H.keep k).hdy hcs
 ·rcases hn a ha y e with e2|e2
  ·exact h.ap y (.inr e2)
  ·exact⟨fun e3=>absurd (H.slt e3) (Nat.not_lt.2 e2),fun e3=>by
    have:=lH H.bx;omega⟩
theorem BA8.beside{F:Nat->Prop}{W1:World}(h:BA8 E W0 W x sb hb v l)(hF:∀ y,F y->y<W.heap.size/\¬bG x sb y/\y≠hb/\W.heap[y]?=W1.heap[y]?):BA8 F W1 W x sb hb v l:=⟨h.B,h.ap,hF⟩
end
def Qb(bS:Nat)(x':Bx)(ls':List (Nat×Nat))(S':Sb)(f':Nat->Nat)(n':Nat)(l:List He8)(w:World):Nat->Value->World->Prop:=fun n u W=>n=n'/\∃ l',BK8 W u l'/\LL8 x' ls' S' (aR l')/\(∀ h∈l',∀ i,i<h.s->h.f i=f' (h.p-bS+i))/\∀ a∈l',∀ y,a.v.ownBlock=some y->(∃ b∈l,b.v.ownBlock=some y)\/w.heap.size<=y
theorem iN{bS:Nat}{x':Bx}{ls':List (Nat×Nat)}{S':Sb}{f':Nat->Nat}{n':Nat}{l:List He8}{w w2:World} : iY w2 (Qb bS x' ls' S' f' n' l w):=by
 rintro n u W y u0 u1 u2 u3 u4 ⟨h1,l',B,h3⟩ _ hy;exact⟨h1,l',B.set5 hy u0 u1 u2 u3 u4,h3⟩
section
variable {w W W':World} {bS n':Nat} {L o:Int} {x':Bx} {ls':List (Nat×Nat)} {S':Sb} {f':Nat->Nat} {l:List He8} {e:Ending}
theorem jT{va:Option Addr}{vm vc:Nat}(k:Kt nO w W)(B:BK8 w (.slice va vm vc) l)(L':LL8 x' ls' S' (aR l))(by':∀ h∈l,∀ i,i<h.s->h.f i=f' (h.p-bS+i))(h:e=.returned (.tuple #[aK bS L o ((n':Nat):Int) (.slice va vm vc),.bool true])/\Kt nO W W'):eI bS L o W (Qb bS x' ls' S' f' n' l w) e W':=
 ⟨n',va,vm,vc,h.1,h.2,rfl,l,B.keep (nT k h.2),L',by',fun a ha y e=>.inl ⟨a,ha,e⟩⟩
theorem vX{v:Value}{l0:List He8}{p r:Nat}{f:Nat->Nat}(k:Kt nO w W)(B:BK8 w v l)(hsub:∀ h∈l0,h∈l)(hlen:l0.length<300000)(hp:p + r<18446744073709551616)(hr1 : 16<=r)(hr2:r<=1048576)(hf:∀ i,i<r->f i<256)(L':LL8 x' ls' S' (aR l0 ++ [(p,r)]))(by0:∀ h∈l0,∀ i,i<h.s->h.f i=f' (h.p-bS + i))(byn:∀ i,i<r->f i=f' (p-bS + i)){m:Nat}(hm:m=l0.length + 1)
  (h:∃ u xa xc,e=.returned (.tuple #[aK bS L o ((n':Nat):Int) u,.bool true])/\GS W W' 164 3 u m (dT l0 ++ [.int .u64 p,.int .u64 r,.slice xa r xc])/\GS W W' 5 1 (.slice xa r xc) r (M.byteVs r f)/\∀ g,(Value.slice xa r xc).ownBlock=some g->W.heap.size<=g):eI bS L o W (Qb bS x' ls' S' f' n' l w) e W':=by
 obtain⟨u,xa,xc,rfl,g1,g2,g3⟩:=h;subst hm;obtain⟨ua,uc,rfl⟩:=eR g1.own;have kk:=nT k g1.kp;refine⟨n',ua,_,uc,rfl,g1.kp,rfl,l0 ++ [⟨p,r,.slice xa r xc,f⟩],⟨?_,?_,?_,?_,?_⟩,?_,?_,?_⟩
 ·rw[uD,List.length_append];exact g1.own
 ·intro h hh;rcases List.mem_append.1 hh with e|e
  ·exact(B.bt h (hsub h e)).keep (cH kk)
  ·rw[List.mem_singleton] at e;subst e;exact g2.bytes hf
 ·intro h hh;rcases List.mem_append.1 hh with e|e
  ·exact B.bd h (hsub h e)
  ·rw[List.mem_singleton] at e;subst e;exact⟨hp,hr1,hr2⟩
 ·rw[List.length_append];show l0.length+1<=300000
  omega
 ·intro h hh;rcases List.mem_append.1 hh with e|e
  ·exact B.cp h (hsub h e)
  ·rw[List.mem_singleton] at e;subst e;obtain⟨va,vc,e1,e2⟩:=BZ g2.own;exact⟨va,vc,e1,e2⟩
 ·unfold aR at L' ⊢;rw[List.map_append];exact L'
 ·intro h hh;rcases List.mem_append.1 hh with e|e
  ·exact by0 h e
  ·rw[List.mem_singleton] at e;subst e;exact byn
 ·intro h hh y e;rcases List.mem_append.1 hh with e2|e2
  ·exact .inl ⟨h,hsub h e2,e⟩
  ·rw[List.mem_singleton] at e2;subst e2;exact .inr (Nat.le_trans k.size (g3 y e))
theorem AF{v:Value}{d:Option Nat}(k:Kt nO w W)(B:BK8 w v l)(L':LL8 x' ls' S' (aR (aQ l d)))(by0:∀ h∈l,h∈aQ l d->∀ i,i<h.s->h.f i=f' (h.p-bS+i))
  (h:∃ u,e=.returned (.tuple #[aK bS L o ((n':Nat):Int) u,.bool true])/\GS W W' 164 3 u (aQ l d).length (dT (aQ l d))):eI bS L o W (Qb bS x' ls' S' f' n' l w) e W':=by
 obtain⟨u,rfl,g1⟩:=h;obtain⟨ua,uc,rfl⟩:=eR g1.own;exact⟨n',ua,_,uc,rfl,g1.kp,rfl,aQ l d,(B.keep k).del g1,L',fun h hh=>by0 h (nM hh) hh,fun a ha y e=>.inl ⟨a,nM ha,e⟩⟩
theorem rK{l:List He8}{i:Nat}{x h:He8}(hh:h∈l.set i x):h=x\/∃ j,j≠i/\l[j]?=some h:=by
 obtain⟨j,hj⟩:=List.getElem?_of_mem hh;rw[List.getElem?_set] at hj;by_cases e:i=j
 ·rw[if_pos e] at hj;split at hj
  ·injection hj with hj
   exact .inl hj.symm
  ·cases hj
 ·rw[if_neg e] at hj;exact .inr ⟨j,fun h=>e h.symm,hj⟩
theorem UU{l:List He8}{i:Nat}{x h:He8}(hi:l[i]?=some h)(hp:x.p=h.p)(hs:x.s=h.s):aR (l.set i x)=aR l:=by
 apply List.ext_getElem?
 intro j;unfold aR;rw[List.getElem?_map,List.getElem?_map,List.getElem?_set];by_cases e:i=j
 ·subst e;rw[if_pos rfl,hi];split
  ·simp[hp,hs]
  ·rename_i hn;exact absurd (List.getElem?_eq_some_iff.1 hi).1 hn
 ·rw[if_neg e]
theorem RV{v:Value}{i:Nat}{h:He8}{f:Nat->Nat}(hi:l[i]?=some h)(k:Kt nO w W)(B:BK8 w v l)(hf:∀ j,j<h.s->f j<256)(L':LL8 x' ls' S' (aR l))(by0:∀ j a,j≠i->l[j]?=some a->∀ i,i<a.s->a.f i=f' (a.p-bS+i))(byn:∀ j,j<h.s->f j=f' (h.p-bS+j))
  (hh:∃ u x,e=.returned (.tuple #[aK bS L o ((n':Nat):Int) u,.bool true])/\GS W W' 164 3 u l.length (dT (l.set i x))/\Pu8 W W' h f x):eI bS L o W (Qb bS x' ls' S' f' n' l w) e W':=by
 obtain⟨u,x,rfl,g1,P⟩:=hh;obtain⟨ua,uc,rfl⟩:=eR g1.own;have kk:=nT k g1.kp;have hm:=List.mem_of_getElem? hi;refine⟨n',ua,_,uc,rfl,g1.kp,rfl,l.set i x,⟨?_,?_,?_,?_,?_⟩,?_,?_,?_⟩
 ·rw[List.length_set];exact g1.own
 ·intro a ha;rcases rK ha with e|⟨j,_,e⟩
  ·subst e;rw[P.s,P.f];exact P.b.bytes hf
  ·exact(B.bt a (List.mem_of_getElem? e)).keep (cH kk)
 ·intro a ha;rcases rK ha with e|⟨j,_,e⟩
  ·subst e;rw[P.s,P.p];exact B.bd h hm
  ·exact B.bd a (List.mem_of_getElem? e)
 ·rw[List.length_set];exact B.ln
 ·intro a ha;rcases rK ha with e|⟨j,_,e⟩
  ·subst e;rw[P.s];exact BZ P.b.own
  ·exact B.cp a (List.mem_of_getElem? e)
 ·rw[UU hi P.p P.s];exact L'
 ·intro a ha;rcases rK ha with e|⟨j,hj,e⟩
  ·subst e;rw[P.s,P.f,P.p];exact byn
  ·exact by0 j a hj e
 ·intro a ha y e;rcases rK ha with e2|⟨j,_,e2⟩
  ·subst e2;exact .inr (Nat.le_trans k.size (P.nw y e))
  ·exact .inl ⟨a,List.mem_of_getElem? e2,e⟩
end
def bZ(op:Int):Bool:=op == 1 || op == 2 || op == 3 || op == 4
def eU(bS:Nat)(lim o:Int)(c:Cl8):Nat:=if c.op=1\/c.op=4 then O.rdV bS lim o c.a 1 else if c.op=3 then O.rdV bS lim o c.b c.a else if c.op=2/\O.prE c.a c.b=0 then O.rdV bS lim o (O.prV c.a c.b) 1 else 0
structure Cn8(bS lim o:Nat):Prop where
 m:mayB bS (lim:Int) (o:Int)=true
 b:bS+lim*RS o<=9223372036854775808
 l:lim<=64
 o:o<=8
 z:bS≠0
structure Sr8(s s':Sn8)(af:Nat):Prop where
 e:s'.e=s.e
 v:s'.v=s.v
 da:s'.da=s.da
 dn:s'.dn=s.dn
 dc:s'.dc=s.dc
 H:s'.H=s.H
 L:s'.L=s.L
 B:s'.B=s.B
 F:s'.F=s.F
 af:s'.af=af
def Jg(bS lim o n n':Nat)(x':Bx)(ls':List (Nat×Nat))(S':Sb)(f':Nat->Nat)(l:List He8)(c:Cl8)(s:Sn8)(gd:Nat->Nat)(cn:Nat)(gc:Nat->Nat):Prop:=
 ∀ v s' W2,Sr8 s s' (n'*RS o)->BK8 W2 v l->M.Bytes W2 (.slice s'.da s'.dn s'.dc) s'.dn gd->M.Bytes W2 c.v cn gc->
  (bZ c.op=true->s.e=0->s'.fn=eU bS (lim:Int) (o:Int) c/\s'.fc=s'.fn/\∃ fb,s'.fa=some ⟨fb,0,none⟩/\M.Bytes W2 (.slice s'.fa s'.fn s'.fc) s'.fn (fun i=>f' (s.v-bS+i)))->
  Calls prog 62 #[aK bS (lim:Int) (o:Int) (n:Int) v,bJ c,aU s'] W2 (eI bS (lim:Int) (o:Int) W2 (Qb bS x' ls' S' f' n' l W2))
def oC(bS:Nat)(L o:Int)(c:Cl8)(sz al:Nat):Prop:=∀ (w:World) (n:Int) (v:Value) (s:Sn8) (Q:Nat->Value->World->Prop),iY w Q->(∀ W,Kt nO w W->Calls prog 99 #[aK bS L o n v,bJ c,aU s,.int .u64 sz,.int .u64 al] W (eI bS L o W Q))->Calls prog 62 #[aK bS L o n v,bJ c,aU s] w (eI bS L o w Q)
theorem NC{bS:Nat}{L o:Int}{c:Cl8}(h:c.op=1):oC bS L o c c.a 1:=fun w n v s Q hQ hW=>uB (.inl ⟨h,rfl,rfl⟩) hQ hW
theorem MZ{bS:Nat}{L o:Int}{c:Cl8}(h:c.op=4)(hz:c.p=0):oC bS L o c c.a 1:=fun w n v s Q hQ hW=>uB (.inr (.inr (.inl ⟨h,hz,rfl,rfl⟩))) hQ hW
theorem zQ{bS:Nat}{L o:Int}{c:Cl8}(h:c.op=3):oC bS L o c c.b c.a:=fun w n v s Q hQ hW=>uB (.inr (.inl ⟨h,rfl,rfl⟩)) hQ hW
theorem MX{bS:Nat}{L o:Int}{c:Cl8}(h:c.op=2)(ha:c.a<18446744073709551616)(hb:c.b<18446744073709551616)(hp:O.prE c.a c.b=0):oC bS L o c (O.prV c.a c.b) 1:=fun w n v s Q hQ hW=>CK h ha hb _ rfl (.inl ⟨hp,rfl,rfl⟩) hQ hW
section
variable {bS lim o n n':Nat} {x':Bx} {ls':List (Nat×Nat)} {S':Sb} {f':Nat->Nat} {l:List He8} {c:Cl8} {s:Sn8} {gd:Nat->Nat} {cn:Nat} {gc:Nat->Nat}
theorem iY.mono{w W:World}{Q:Nat->Value->World->Prop}(h:iY w Q)(k:Kt nO w W):iY W Q:=fun n u W2 y u0 u1 u2 u3 u4 hq hy=>h n u W2 y u0 u1 u2 u3 u4 hq (Nat.le_trans k.size hy)
theorem Cn8.b64(C:Cn8 bS lim o):bS<18446744073709551616:=by
 have:=C.b;omega
theorem oO(C:Cn8 bS lim o)(hn:n<=lim){er:Int}
  (hJ:∀ (w:World) (v:Value) (s:Sn8) (Q:Nat->Value->World->Prop),BK8 w v l->iY w Q->(∀ W,Kt nO w W->Calls prog 100 #[aK bS (lim:Int) (o:Int) (n:Int) v,aU s,.int .i64 er] W (eI bS (lim:Int) (o:Int) W Q))->Calls prog 62 #[aK bS (lim:Int) (o:Int) (n:Int) v,bJ c,aU s] w (eI bS (lim:Int) (o:Int) w Q))
  (h0:s.e=er) (h1:s.v=0) (h2:s.dn=0) (L:LL8 x' ls' S' (aR l)) (by0:∀ h∈l,∀ i,i<h.s->h.f i=f' (h.p-bS+i)):Jg bS lim o n n x' ls' S' f' l c s gd cn gc:=by
 intro v s' W2 E B _ _ _;have hl:=C.l;obtain⟨va,vc,rfl⟩:=B.val;exact hJ W2 _ _ _ B iN fun W k=>(rD bS (lim:Int) o n C.o (by omega) va l.length vc s' er (E.e.trans h0) (E.v.trans h1) (E.dn.trans h2) E.af W).mono fun e w' h=>jT k B L by0 h
theorem AH{sz al:Nat}(C:Cn8 bS lim o)(hn:n<=lim)(J:oC bS (lim:Int) (o:Int) c sz al)(hsz:sz<18446744073709551616)(hal:al<18446744073709551616){er:Int}(hE:O.rdE bS (lim:Int) (o:Int) sz al=er)(he:er≠0)(h0:s.e=er)(h1:s.v=0)(h2:s.dn=0)(L:LL8 x' ls' S' (aR l))(by0:∀ h∈l,∀ i,i<h.s->h.f i=f' (h.p-bS+i)):Jg bS lim o n n x' ls' S' f' l c s gd cn gc:=by
 intro v s' W2 E B _ _ _;have hl:=C.l;obtain⟨va,vc,rfl⟩:=B.val;exact J W2 _ _ _ _ iN fun W k=>(zhi bS C.b64 lim o n C.l C.o (by omega) va l.length vc c s' sz al hsz hal er hE he (E.e.trans h0) (E.v.trans h1) (E.dn.trans h2) E.af W).mono fun e w' h=>jT k B L by0 h
theorem MU{sz al r:Nat}(C:Cn8 bS lim o)(hn:n<=lim)(J:oC bS (lim:Int) (o:Int) c sz al)(hsz:sz<18446744073709551616)(hal:al<18446744073709551616)(hE:O.rdE bS (lim:Int) (o:Int) sz al=0)(hR:O.rdV bS (lim:Int) (o:Int) sz al=r)(hr:r<18446744073709551616)(hS:O.stkV bS (lim:Int) (o:Int) (n:Int) (aR l) r c.d=true)(h0:s.e=2)(h1:s.v=0)(h2:s.dn=0)(L:LL8 x' ls' S' (aR l))(by0:∀ h∈l,∀ i,i<h.s->h.f i=f' (h.p-bS+i)):Jg bS lim o n n x' ls' S' f' l c s gd cn gc:=by
 intro v s' W2 E B _ _ _;have hl:=C.l;obtain⟨va,vc,rfl⟩:=B.val;exact J W2 _ _ _ _ iN fun W k=>(zim bS C.b64 lim o n C.l C.o (by omega) va l.length vc l c s' sz al hsz hal hE r hr hR (E.e.trans h0) (E.v.trans h1) (E.dn.trans h2) E.af W (B.keep k) hS).mono fun e w' h=>jT k B L by0 h
theorem SA{sz al r:Nat}(C:Cn8 bS lim o)(hn:n'<=lim)(J:oC bS (lim:Int) (o:Int) c sz al)(hg:bZ c.op=true)(hv:eU bS (lim:Int) (o:Int) c=r)(hsz:sz<18446744073709551616)(hal:al<18446744073709551616)(hE:O.rdE bS (lim:Int) (o:Int) sz al=0)(hR:O.rdV bS (lim:Int) (o:Int) sz al=r)(hr1 : 16<=r)(hr2:r<=1048576)(hlen:l.length<=262144)(hS:O.stkV bS (lim:Int) (o:Int) (n:Int) (aR l) r c.d=false){nb:Bool}(hN:O.nofV bS (lim:Int) (o:Int) (n:Int) (aR l) r=nb)(hn':n'=if nb=true then n + 1 else n)(hD:O.sndV bS (lim:Int) (o:Int) (n':Int) (aR l ++ [(s.v,r)]) = -1)(h0:s.e=0)(h1:s.v + r<18446744073709551616)(hz:c.op=2->∀ i,i<r->f' (s.v-bS + i)=0)(L:LL8 x' ls' S' (aR l ++ [(s.v,r)]))(by0:∀ h∈l,∀ i,i<h.s->h.f i=f' (h.p-bS + i)):Jg bS lim o n n' x' ls' S' f' l c s gd cn gc:=by
 intro v s' W2 E B _ _ F;have hl:=C.l;obtain⟨e1,e2,fb,e3,F⟩:=F hg h0;rw[hv] at e1;rw[e1] at F;obtain⟨va,vc,rfl⟩:=B.val;exact J W2 _ _ _ _ iN fun W k=>(zhj bS C.b64 lim o n n' C.l C.o (by omega) va l.length vc l (by omega) c s' sz al hsz hal hE r hr2 hR (E.e.trans h0) E.af e1 (by rw[E.v];omega) W (B.keep k) hS nb hN hn' (by rw[E.v];exact hD) _ (by rw[e1];exact F.keep (cH k)) hz).mono fun e w' h=>vX k B (fun h hh=>hh) (by omega) h1 hr1 hr2 F.1 L by0 (fun i _=>rfl) rfl (by rw[E.v] at h;exact h)
theorem zfc{i:Nat}{h:He8}(C:Cn8 bS lim o)(hn:n<=lim)(hop:c.op=4)(hz:c.p≠0)(hp:c.p<18446744073709551616)(hca:c.a<18446744073709551616)(hi:l[i]?=some h)(hI:bI (gD c.p) l 0=(i:Int)){er:Int}(hE:O.rdE bS (lim:Int) (o:Int) c.a 1=er)(he:er≠0)(h0:s.e=er)(h1:s.v=0)(h2:s.dn=0)(L:LL8 x' ls' S' (aR l))(by0:∀ h∈l,∀ i,i<h.s->h.f i=f' (h.p-bS+i)):Jg bS lim o n n x' ls' S' f' l c s gd cn gc:=by
 intro v s' W2 E B _ _ _;have hl:=C.l;obtain⟨va,vc,rfl⟩:=B.val;exact pQ l B hp hz (.inr ⟨hop,i,hI,rfl,rfl⟩) iN fun W k=>(zhQ bS C.b64 lim o n C.l C.o (by omega) _ l i h hi c hca s' er hE he (E.e.trans h0) (E.v.trans h1) (E.dn.trans h2) E.af W (B.keep k)).mono fun e w' h=>jT k B L by0 h
theorem zfF{i r:Nat}{h:He8}(C:Cn8 bS lim o)(hn:n<=lim)(hop:c.op=4)(hz:c.p≠0)(hp:c.p<18446744073709551616)(hca:c.a<18446744073709551616)(hi:l[i]?=some h)(hI:bI (gD c.p) l 0=(i:Int))(hE:O.rdE bS (lim:Int) (o:Int) c.a 1=0)(hR:O.rdV bS (lim:Int) (o:Int) c.a 1=r)(hr:r<=1048576)(hne:r≠h.s)(hnp:¬(4096<=r/\r<h.s))(hS:O.stkV bS (lim:Int) (o:Int) (n:Int) (aR l) r c.d=true)(h0:s.e=2)(h1:s.v=0)(h2:s.dn=0)(L:LL8 x' ls' S' (aR l))(by0:∀ h∈l,∀ i,i<h.s->h.f i=f' (h.p-bS+i)):Jg bS lim o n n x' ls' S' f' l c s gd cn gc:=by
 intro v s' W2 E B _ _ _;have hl:=C.l;obtain⟨va,vc,rfl⟩:=B.val;exact pQ l B hp hz (.inr ⟨hop,i,hI,rfl,rfl⟩) iN fun W k=>(ZS bS C.b64 lim o n C.l C.o (by omega) _ l i h hi c hca s' hE r hr hR hne hnp (E.e.trans h0) (E.v.trans h1) (E.dn.trans h2) E.af hS W (B.keep k)).mono fun e w' h=>jT k B L by0 h
theorem DZ{i:Nat}{h:He8}(hi:l[i]?=some h):l.length=(aQ l (some i)).length+1:=by
 have:=(List.getElem?_eq_some_iff.1 hi).1;have:(aQ l (some i)).length=l.length-1:=List.length_eraseIdx_of_lt this;omega
theorem JT{i r:Nat}{h:He8}(C:Cn8 bS lim o)(hn:n<=lim)(hop:c.op=4)(hz:c.p≠0)(hp:c.p<18446744073709551616)(hca:c.a<18446744073709551616)(hi:l[i]?=some h)(hI:bI (gD c.p) l 0=(i:Int))(hv:eU bS (lim:Int) (o:Int) c=r)(hE:O.rdE bS (lim:Int) (o:Int) c.a 1=0)(hR:O.rdV bS (lim:Int) (o:Int) c.a 1=r)(hr1 : 16<=r)(hr2:r<=1048576)(hne:r=h.s\/(4096<=r/\r<h.s))(h0:s.e=0)(h1:s.v=h.p)(hsum:h.p + r<18446744073709551616)(hfe:∀ j,j<r->f' (h.p-bS + j)=h.f j)(L:LL8 x' ls' S' (aR (aQ l (some i)) ++ [(h.p,r)]))(by0:∀ a∈aQ l (some i),∀ j,j<a.s->a.f j=f' (a.p-bS + j)):Jg bS lim o n n x' ls' S' f' l c s gd cn gc:=by
 intro v s' W2 E B _ _ F;have hl:=C.l;have hln:=B.ln;obtain⟨e1,e2,fb,e3,F⟩:=F (by unfold bZ;rw[hop];rfl) h0;rw[hv] at e1;rw[e1] at F;rw[h1] at F;obtain⟨va,vc,rfl⟩:=B.val;have hdl:=DZ hi;exact pQ l B hp hz (.inr ⟨hop,i,hI,rfl,rfl⟩) iN fun W k=>(zfB bS C.b64 lim o n C.l C.o (by omega) _ l i h hi c hca s' hE r (by omega) hr2 hR hne (E.e.trans h0) (E.v.trans h1) e1 E.af _ hfe W (by rw[e1];exact F.keep (cH k)) (B.keep k)).mono fun e w' h=>vX k B (fun h hh=>nM hh) (by omega) hsum hr1 hr2 F.1 L by0 (fun i _=>rfl) hdl h
theorem zfd{i r:Nat}{h:He8}(C:Cn8 bS lim o)(hn1:n<=lim)(hn:n'<=lim)(hop:c.op=4)(hz:c.p≠0)(hp:c.p<18446744073709551616)(hca:c.a<18446744073709551616)(hi:l[i]?=some h)(hI:bI (gD c.p) l 0=(i:Int))(hv:eU bS (lim:Int) (o:Int) c=r)(hE:O.rdE bS (lim:Int) (o:Int) c.a 1=0)(hR:O.rdV bS (lim:Int) (o:Int) c.a 1=r)(hr1 : 16<=r)(hr2:r<=1048576)(hne:r≠h.s)(hnp:¬(4096<=r/\r<h.s))(hS:O.stkV bS (lim:Int) (o:Int) (n:Int) (aR l) r c.d=false){nb:Bool}(hN:O.nofV bS (lim:Int) (o:Int) (n:Int) (aR l) r=nb)(hn':n'=if nb=true then n + 1 else n)(hD:O.sndV bS (lim:Int) (o:Int) (n':Int) (aR l ++ [(s.v,r)]) = -1)(h0:s.e=0)(h1:s.v + r<18446744073709551616)(hfe:∀ j,j<r->j<h.s->f' (s.v-bS + j)=h.f j)(L:LL8 x' ls' S' (aR (aQ l (some i)) ++ [(s.v,r)]))(by0:∀ a∈aQ l (some i),∀ j,j<a.s->a.f j=f' (a.p-bS + j)):Jg bS lim o n n' x' ls' S' f' l c s gd cn gc:=by
 intro v s' W2 E B _ _ F;have hl:=C.l;have hln:=B.ln;obtain⟨e1,e2,fb,e3,F⟩:=F (by unfold bZ;rw[hop];rfl) h0;rw[hv] at e1;rw[e1] at F;obtain⟨va,vc,rfl⟩:=B.val;have hdl:=DZ hi;exact pQ l B hp hz (.inr ⟨hop,i,hI,rfl,rfl⟩) iN fun W k=>(zhn bS C.b64 lim o n C.l C.o (by omega) _ l i h hi c hca s' n' (by omega) hE r (by omega) hr2 hR hne hnp (E.e.trans h0) e1 E.af (by rw[E.v];omega) hS nb hN hn' (by rw[E.v];exact hD) fb 0 e3 (by omega) _ hfe W (by rw[e1];exact F.keep (cH k)) (B.keep k)).mono fun e w' h=>vX k B (fun h hh=>nM hh) (by omega) h1 hr1 hr2 F.1 L by0 (fun i _=>rfl) hdl (by rw[E.v] at h;exact h)
end
def iZ(E:Nat->Prop)(w1 W:World)(hb bS lim o n:Nat)(v:Value)(l:List He8):Prop:=∃ sb lw x t fr ls S,HW w1 W hb sb lw x t fr ls S 0/\x.bS=bS/\x.lim=lim/\x.o=o/\x.n=n*RS o/\BA8 E W W x sb hb v l/\LL8 x ls S (aR l)/\∀ h∈l,∀ i,i<h.s->h.f i=t.f (h.p-bS+i)
def gG(E:Nat->Prop)(W0 w1 W':World)(hb bS lim o n:Nat)(v:Value)(l:List He8)(c:Cl8)(s:Sn8)(gd:Nat->Nat)(cn:Nat)(gc:Nat->Nat):Prop:=∃ sb lw x' t' fr' ls' S' n',HW w1 W' hb sb lw x' t' fr' ls' S' 0/\x'.bS=bS/\x'.lim=lim/\x'.o=o/\x'.n=n'*RS o/\BA8 E W0 W' x' sb hb v l/\(bZ c.op=true->s.e=0->aG x' ls' S' s.v (eU bS (lim:Int) (o:Int) c))/\Jg bS lim o n n' x' ls' S' t'.f l c s gd cn gc
inductive Ot8(w W:World)(hb sb lw:Nat)(x:Bx)(t:Bt)(fr:Nat->List Nat)(ls:List (Nat×Nat))(S:Sb)(m:Nat)(d:Bool)(z:Prop)(p:Nat)(er:Int)(w':World):Prop where
 | big (ho:cF x.o m=false) (hp:p=0) (he:er=3) (kp:Kt nO W w')
 | no (ho:cF x.o m=true) (hp:p=0) (he:er=2) (nf:NF x fr S (2 ^ cl m)) (hd:d=true\/x.n=x.lim*x.R) (kp:Kt nO W w')
 | yes (ho:cF x.o m=true) (x':Bx) (t':Bt) (fr':Nat->List Nat) (ls':List (Nat×Nat)) (S':Sb) (b:Bool) (he:er=0) (nx:Nx w W w' hb sb lw x t ls S 0 x' t' fr' ls' S') (hL:∀ a z,aG x' ls' S' a z↔aG x ls S a z\/(a=p/\z=2 ^ cl m)) (hN:∀ z,¬aG x ls S p z) (hn:x'.n=(if b=true then x.n+x.R else x.n)) (hb1:b=true->NF x fr S (2 ^ cl m)/\d=false/\x.n+x.R<=x.lim*x.R) (hb2:b=false->¬NF x fr S (2 ^ cl m)) (hz:z->∀ j,p<=x.bS+j->x.bS+j<p+2 ^ cl m->t'.f j=0)
section
variable {w1 W W':World} {hb sb lw:Nat} {x:Bx} {t:Bt} {fr:Nat->List Nat} {ls:List (Nat×Nat)} {S:Sb}
theorem Rq8.ot{m:Nat}{d:Bool}{p:Nat}{er:Int}(h:Rq8 w1 W hb sb lw x t fr ls S 0 m d p er W'):Ot8 w1 W hb sb lw x t fr ls S m d False p er W':=by
 cases h with
 | big ho hp he kp=>exact .big ho hp he kp
 | ok ho hT=>
  cases hT with
  | no hp he nf hd kp=>exact .no ho hp he nf hd kp
  | yes x' t' fr' ls' S' b he td nx hL hN hn hm hb1 hb2=>exact .yes ho x' t' fr' ls' S' b he nx hL hN hn hb1 hb2 (fun e=>e.elim)
theorem Cz.ot{m:Nat}{d:Bool}{p:Nat}{er:Int}(h:Cz w1 W hb sb lw x t fr ls S 0 m d p er W'):Ot8 w1 W hb sb lw x t fr ls S m d True p er W':=by
 cases h with
 | big ho hp he kp=>exact .big ho hp he kp
 | no ho hp he nf hd kp=>exact .no ho hp he nf hd kp
 | yes ho x' t' fr' ls' S' b he td nx hL hN hn hm hb1 hb2 hz=>exact .yes ho x' t' fr' ls' S' b he nx hL hN hn hb1 hb2 (fun _=>hz)
theorem HW.nle{s:Int}(H:HW w1 W hb sb lw x t fr ls S s){n:Nat}(hn:x.n=n*RS x.o):n<=x.lim:=by
 obtain⟨n',_,h2,h3,_⟩:=H.rgs;rw[hn] at h3;have : 0<RS x.o:=by unfold RS;exact Nat.mul_pos (by decide) (Nat.pow_pos (by decide))
 rw[Nat.eq_of_mul_eq_mul_right this h3];exact h2
theorem qM{x':Bx}{t':Bt}{fr':Nat->List Nat}{ls':List (Nat×Nat)}{S':Sb}(H:HW w1 W hb sb lw x t fr ls S 0)(nx:Nx w1 W W' hb sb lw x t ls S 0 x' t' fr' ls' S'){h:He8}(h1:aG x ls S h.p h.s)(h2:aG x' ls' S' h.p h.s)(hby:∀ i,i<h.s->h.f i=t.f (h.p-x.bS+i)):∀ i,i<h.s->h.f i=t'.f (h.p-x.bS+i):=by
 intro i hi;obtain⟨hh,o⟩:=H.so;have hin:=(o.inside h1).1;rw[hby i hi];refine(nx.ch.kb _ ⟨h.p,h.s,h1,by omega,by omega⟩ ⟨h.p,h.s,h2,?_,?_⟩).symm
 ·rw[nx.ch.bS];omega
 ·rw[nx.ch.bS];omega
theorem pT{l:List He8}{h:He8}(hh:h∈l):(h.p,h.s)∈aR l:=List.mem_map.2 ⟨h,hh,rfl⟩
theorem qV{o r:Nat}(ho:o<=8)(h:O.szB o r=true) : 16<=r/\r<=1048576:=by
 unfold O.szB at h;simp only[Bool.and_eq_true,decide_eq_true_eq] at h;have:=(O.RS_le o ho).2;omega
variable {E:Nat->Prop} {W0:World} {n:Nat} {v:Value} {l:List He8} {c:Cl8} {s:Sn8} {gd:Nat->Nat} {cn:Nat} {gc:Nat->Nat}
theorem gV(H:HW w1 W hb sb lw x t fr ls S 0)(hn:x.n=n*RS x.o)(A:BA8 E W0 W x sb hb v l)(k:Kt nO W W')(hg:bZ c.op=true->s.e=0->aG x ls S s.v (eU x.bS (x.lim:Int) (x.o:Int) c))(J:Jg x.bS x.lim x.o n n x ls S t.f l c s gd cn gc):gG E W0 w1 W' hb x.bS x.lim x.o n v l c s gd cn gc:=
 ⟨sb,lw,x,t,fr,ls,S,n,H.keep k,rfl,rfl,rfl,hn,A.keep k,hg,J⟩
theorem uN{sz al m:Nat}{z:Prop}{p:Nat}{er:Int}(C:Cn8 x.bS x.lim x.o)(H:HW w1 W hb sb lw x t fr ls S 0)(hn:x.n=n*RS x.o)(A:BA8 E W0 W x sb hb v l)(L:LL8 x ls S (aR l))(by0:∀ h∈l,∀ i,i<h.s->h.f i=t.f (h.p-x.bS+i))
  (J:oC x.bS (x.lim:Int) (x.o:Int) c sz al) (hg:bZ c.op=true) (hv:eU x.bS (x.lim:Int) (x.o:Int) c=O.rdV x.bS (x.lim:Int) (x.o:Int) sz al) (hsz:sz<18446744073709551616) (hal:al<18446744073709551616) (hp:cL al=true) (hm:m=max (max sz al) 16) (hcz:c.op=2->z) (R:Ot8 w1 W hb sb lw x t fr ls S m c.d z p er W') (h0:s.e=er) (h1:s.v=p) (h2:s.dn=0):gG E W0 w1 W' hb x.bS x.lim x.o n v l c s gd cn gc:=by
 have hnl:=H.nle hn;subst h1
 cases R with
 | big ho hp0 he kp=>
  refine gV H hn A kp (fun _ e=>?_) (AH C hnl J hsz hal (zV C.m hp hm ho) (by decide) (h0.trans he) hp0 h2 L by0);rw[h0,he] at e;exact absurd e (by decide)
 | no ho hp0 he nf hd kp=>
  obtain⟨r1,r2⟩:=qJ C.m C.o hp hm ho;have hs:=qR (o:=x.o) (m:=m) (by omega) ho;have hb2:=qV C.o hs;refine gV H hn A kp (fun _ e=>?_) (MU C hnl J hsz hal r1 r2 (by omega) ((L.stk H C.m hn hnl hs c.d).2 ⟨nf,hd⟩) (h0.trans he) hp0 h2 L by0);rw[h0,he] at e;exact absurd e (by decide)
 | yes ho x' t' fr' ls' S' b he nx hL hN hxn hb1 hb2 hz=>
  obtain⟨r1,r2⟩:=qJ C.m C.o hp hm ho;have hs:=qR (o:=x.o) (m:=m) (by omega) ho;have hb3:=qV C.o hs;obtain⟨f1,f2,f3,f4⟩:=L.found H C.m hn hnl hs hb1 hb2;have L':LL8 x' ls' S' (aR l ++ [(s.v,2 ^ cl m)]):=(L.lp.add hL hN).ll;obtain⟨c1,c2,c3,c4,c5⟩:=nx.ch;rw[f4] at hxn;have hD:=L'.snd nx.H (by rw[c1,c3,c4];exact C.m) (n:=if b=true then n+1 else n) (by rw[c4];exact hxn) (by rw[c3];exact f3);rw[c1,c3,c4] at hD;have hlt:aG x' ls' S' s.v (2 ^ cl m):=(hL _ _).2 (.inr ⟨rfl,rfl⟩);obtain⟨hh',o'⟩:=nx.H.so;have hin:=o'.inside hlt;rw[c1,hxn] at hin;have hle:(if b=true then n+1 else n)*RS x.o<=x.lim*RS x.o:=Nat.mul_le_mul_right _ f3;have hCb:=C.b;refine⟨sb,lw,x',t',fr',ls',S',_,nx.H,c1,c3,c4,hxn,A.nx nx,fun _ _=>by rw[hv,r2];exact hlt,SA C f3 J hg (hv.trans r2) hsz hal r1 r2 hb3.1 hb3.2 ?_ f1 f2 rfl hD (h0.trans he) (by omega) (fun e i hi=>hz (hcz e) _ (by omega) (by omega)) L' (fun a ha=>qM H nx ((L.ex _ _).2 (pT ha)) ((hL _ _).2 (.inl ((L.ex _ _).2 (pT ha)))) (by0 a ha))⟩;have:=L.len H hn;unfold aR at this;rwa [List.length_map] at this
end
section
variable {w1 W W':World} {hb sb lw:Nat} {x:Bx} {t:Bt} {fr:Nat->List Nat} {ls:List (Nat×Nat)} {S:Sb} {s:Int} {l:List He8}
theorem pS{i:Nat}{h:He8}(hi:l[i]?=some h):(aR l)[i]?=some (h.p,h.s):=by
 unfold aR;rw[List.getElem?_map,hi];rfl
theorem tP{i:Nat} : aR (aQ l (some i))=(aR l).eraseIdx i:=by
 show(l.eraseIdx i).map _=(l.map _).eraseIdx i
 induction l generalizing i with
 | nil=>rfl
 | cons a l ih=>
  cases i with
  | zero=>rfl
  | succ i=>
   show _ :: _=_ :: _
   rw[ih]
theorem LL8.inj(L:LL8 x ls S (aR l)){i j:Nat}{a b:He8}(hi:l[i]?=some a)(hj:l[j]?=some b)(e:a.p=b.p):i=j:=by
 have h1:((aR l).map (·.1))[i]?=some a.p:=by rw[List.getElem?_map,pS hi];rfl
 have h2:((aR l).map (·.1))[j]?=some b.p:=by rw[List.getElem?_map,pS hj];rfl
 rw[e] at h1;have hil:i<l.length:=(List.getElem?_eq_some_iff.1 hi).1;exact(List.getElem?_inj (by simpa [aR] using hil) L.nd).1 (h1.trans h2.symm)
theorem LL8.find(L:LL8 x ls S (aR l)){p z:Nat}(hl:aG x ls S p z):∃ (i:Nat) (h:He8),l[i]?=some h/\h.p=p/\h.s=z/\bI (gD p) l 0=(i:Int):=by
 obtain⟨h,hh,e⟩:=List.mem_map.1 ((L.ex _ _).1 hl);injection e with e1 e2
 obtain⟨i,hi⟩:=List.getElem?_of_mem hh;refine⟨i,h,hi,e1,e2,?_⟩;have:=rW (q:=gD p) l i h 0 hi (by unfold gD;rw[e1];simp) (fun j c hj hc=>by
  unfold gD;refine decide_eq_false fun e3=>?_
  have:=L.inj hc hi (e3.trans e1.symm);omega)
 rwa [Nat.zero_add] at this
theorem LL8.find_no(L:LL8 x ls S (aR l)){p:Nat}(hl:∀ z,¬aG x ls S p z):bI (gD p) l 0 = -1:=by
 refine rV l 0 fun h hh=>?_
 unfold gD;refine decide_eq_false fun e=>hl h.s ?_
 rw[<-e];exact(L.ex _ _).2 (pT hh)
theorem LL8.th(L:LL8 x ls S (aR l)){h:He8}(hh:h∈l):aG x ls S h.p h.s:=(L.ex _ _).2 (pT hh)
theorem DL(L:LL8 x ls S (aR l)){i:Nat}{h a:He8}(hi:l[i]?=some h)(ha:a∈aQ l (some i)):a∈l/\a.p≠h.p:=by
 obtain⟨j,hj,e⟩:=List.mem_eraseIdx_iff_getElem?.1 (show a∈l.eraseIdx i from ha);exact⟨List.mem_of_getElem? e,fun e2=>hj (L.inj e hi e2)⟩
variable {E:Nat->Prop} {W0:World} {n:Nat} {v:Value} {c:Cl8} {s:Sn8} {gd:Nat->Nat} {cn:Nat} {gc:Nat->Nat}
theorem zho{m p:Nat}{er:Int}(C:Cn8 x.bS x.lim x.o)(H:HW w1 W hb sb lw x t fr ls S 0)(hn:x.n=n*RS x.o)(A:BA8 E W0 W x sb hb v l)(L:LL8 x ls S (aR l))(by0:∀ h∈l,∀ i,i<h.s->h.f i=t.f (h.p-x.bS+i))
  (hop:c.op=4) (hca:c.a<18446744073709551616) (hcp:c.p<18446744073709551616) (hm:m=max c.a 16) (R:Rl w1 W hb sb lw x t fr ls S 0 c.p m c.d p er W') (h0:s.e=er) (h1:s.v=p) (h2:s.dn=0):gG E W0 w1 W' hb x.bS x.lim x.o n v l c s gd cn gc:=by
 have hnl:=H.nle hn;have hCb:=C.b;have hm2:m=max (max c.a 1) 16:=by omega
 have hp1:cL 1=true:=(jZ _).2 ⟨0,rfl⟩;have hg:bZ c.op=true:=by unfold bZ;rw[hop];rfl
 have hv:eU x.bS (x.lim:Int) (x.o:Int) c=O.rdV x.bS (x.lim:Int) (x.o:Int) c.a 1:=by unfold eU;rw[if_pos (.inr hop)]
 obtain⟨hh,o⟩:=H.so
 cases R with
 | nil hp R=>exact uN C H hn A L by0 (MZ hop hp) hg hv hca (by decide) hp1 hm2 (fun e=>by rw[hop] at e;exact absurd e (by decide)) R.ot h0 h1 h2
 | bad hp hl hp' he kp=>
  refine gV H hn A kp (fun _ e=>?_) (oO C hnl (er:=1) (fun w v s Q B hQ hW=>pQ l B hcp hp (.inl ⟨.inl hop,L.find_no hl,rfl,rfl⟩) hQ hW) (h0.trans he) (h1.trans hp') h2 L by0);rw[h0,he] at e;exact absurd e (by decide)
 | big z hp hl ho hp' he kp=>
  obtain⟨i,h,hi,e1,e2,hI⟩:=L.find hl;refine gV H hn A kp (fun _ e=>?_) (zfc C hnl hop hp hcp hca hi hI (zV C.m hp1 hm2 ho) (by decide) (h0.trans he) (h1.trans hp') h2 L by0);rw[h0,he] at e;exact absurd e (by decide)
 | same hp ho hl hp' he kp=>
  obtain⟨i,h,hi,e1,e2,hI⟩:=L.find hl;obtain⟨r1,r2⟩:=qJ C.m C.o hp1 hm2 ho;have hs:=qR (o:=x.o) (m:=m) (by omega) ho;have hb3:=qV C.o hs;have hin:=o.inside hl;rw[hn] at hin;have hle:n*RS x.o<=x.lim*RS x.o:=Nat.mul_le_mul_right _ hnl;refine gV H hn A kp (fun _ _=>?_) (JT C hnl hop hp hcp hca hi hI (hv.trans r2) r1 r2 hb3.1 hb3.2 (.inl e2.symm) (h0.trans he) ((h1.trans hp').trans e1.symm) (by omega) (fun j hj=>(by0 h (List.mem_of_getElem? hi) j (by omega)).symm) ?_ (fun a ha=>by0 a (nM ha)))
  ·rw[hv,r2,h1,hp'];exact hl
  ·rw[tP,e1];refine((L.lp.del (pS hi) (Q:=fun a c=>aG x ls S a c/\a≠h.p) (fun a c=>Iff.rfl)).add (fun a z=>?_) (fun z e=>e.2 e1.symm)).ll;rw[e1];constructor
   ·intro e;by_cases e3:a=c.p
    ·subst e3;rcases o.two e hl with ⟨_,e4⟩|e4|e4
     ·exact .inr ⟨rfl,e4⟩
     ·have:=(o.span e).1;omega
     ·omega
    ·exact .inl ⟨e,e3⟩
   ·rintro (e|⟨e3,e4⟩)
    ·exact e.1
    ·rw[e3,e4];exact hl
 | shr z hp ho hl g1 g2 hp' he hS=>
  obtain⟨i,h,hi,e1,e2,hI⟩:=L.find hl;obtain⟨r1,r2⟩:=qJ C.m C.o hp1 hm2 ho;have hs:=qR (o:=x.o) (m:=m) (by omega) ho;have hb3:=qV C.o hs;obtain⟨t',q,k,j,_,_,_,_,_,_,nx,hL,_⟩:=hS;have hin:=o.inside hl;rw[hn] at hin;have hle:n*RS x.o<=x.lim*RS x.o:=Nat.mul_le_mul_right _ hnl;have hlt:aG x (dW ls q ++ [(q,j)]) S c.p (2 ^ cl m):=(hL _ _).2 (.inr ⟨rfl,rfl⟩);have hhm:=List.mem_of_getElem? hi;refine⟨sb,lw,x,t',_,_,S,n,nx.H,rfl,rfl,rfl,hn,A.nx nx,fun _ _=>by rw[hv,r2,h1,hp'];exact hlt,JT C hnl hop hp hcp hca hi hI (hv.trans r2) r1 r2 hb3.1 hb3.2 (.inr ⟨g1,by omega⟩) (h0.trans he) ((h1.trans hp').trans e1.symm) (by omega) (fun j hj=>?_) ?_ (fun a ha=>?_)⟩
  ·rw[by0 h hhm j (by omega),e1];exact nx.ch.kb _ ⟨c.p,z,hl,by omega,by omega⟩ ⟨c.p,_,hlt,by omega,by omega⟩
  ·rw[tP,e1];exact((L.lp.del (pS hi) (Q:=fun a c=>aG x ls S a c/\a≠h.p) (fun a c=>Iff.rfl)).add (fun a z=>by rw[hL,e1]) (fun z e=>e.2 e1.symm)).ll
  ·obtain⟨a1,a2⟩:=DL L hi ha;exact qM H nx (L.th a1) ((hL _ _).2 (.inl ⟨L.th a1,by rw[<-e1];exact a2⟩)) (by0 a a1)
 | mov z hp ho hl hne g1 hM=>
  obtain⟨i,h,hi,e1,e2,hI⟩:=L.find hl;obtain⟨r1,r2⟩:=qJ C.m C.o hp1 hm2 ho;have hs:=qR (o:=x.o) (m:=m) (by omega) ho;have hb3:=qV C.o hs;have hhm:=List.mem_of_getElem? hi
  cases hM with
  | no hp' he nf hd kp=>
   refine gV H hn A kp (fun _ e=>?_) (zfF C hnl hop hp hcp hca hi hI r1 r2 hb3.2 (by omega) (by rw[e2];exact g1) ((L.stk H C.m hn hnl hs c.d).2 ⟨nf,hd⟩) (h0.trans he) (h1.trans hp') h2 L by0);rw[h0,he] at e;exact absurd e (by decide)
  | yes x' t' fr' ls' S' b he nx hL hN hxn hmm hb1 hb2 cp md=>
   obtain⟨f1,f2,f3,f4⟩:=L.found H C.m hn hnl hs hb1 hb2;obtain⟨c1,c2,c3,c4,c5⟩:=nx.ch;rw[f4] at hxn;obtain⟨W1,x1,t1,fr1,ls1,S1,s1,H1,d1,d2,d3,d4,hL1⟩:=md;have L1:LL8 x1 ls1 S1 (aR l ++ [(p,2 ^ cl m)]):=(L.lp.add hL1 hN).ll;have hD:=L1.snd H1 (by rw[d1,d2,d3];exact C.m) (n:=if b=true then n+1 else n) (by rw[d3,d4];exact hxn) (by rw[d2];exact f3);rw[d1,d2,d3] at hD;have hlt:aG x' ls' S' p (2 ^ cl m):=(hL _ _).2 (.inr ⟨rfl,rfl⟩);obtain⟨hh',o'⟩:=nx.H.so;have hin:=o'.inside hlt;rw[c1,hxn] at hin;have hle:(if b=true then n+1 else n)*RS x.o<=x.lim*RS x.o:=Nat.mul_le_mul_right _ f3;refine⟨sb,lw,x',t',fr',ls',S',_,nx.H,c1,c3,c4,hxn,A.nx nx,fun _ _=>by rw[hv,r2,h1];exact hlt,zfd C hnl f3 hop hp hcp hca hi hI (hv.trans r2) r1 r2 hb3.1 hb3.2 (by omega) (by rw[e2];exact g1) f1 f2 rfl (by rw[h1];exact hD) (h0.trans he) (by rw[h1];omega) (fun j j1 j2=>?_) ?_ (fun a ha=>?_)⟩
   ·rw[h1,cp j (by omega) j1,by0 h hhm j j2,e1]
   ·rw[tP,h1];exact((L.lp.del (pS hi) (Q:=fun a c=>aG x ls S a c/\a≠h.p) (fun a c=>Iff.rfl)).add (fun a z=>by rw[hL,e1]) (fun z e=>hN z e.1)).ll
   ·obtain⟨a1,a2⟩:=DL L hi ha;exact qM H nx (L.th a1) ((hL _ _).2 (.inl ⟨L.th a1,by rw[<-e1];exact a2⟩)) (by0 a a1)
end
theorem IW{f g:Nat->Nat} : ∀ k,(∀ i,i<k->f i=g i)->M.wordTo f k=M.wordTo g k
 | 0,_=>rfl
 | k+1,h=>by
  unfold M.wordTo;rw[IW k (fun i hi=>h i (by omega)),h k (by omega)]
theorem IP{w:World}{v:Value}{m:Nat}{f g:Nat->Nat}(h:M.Bytes w v m f)(e:∀ i,i<m->f i=g i):M.Bytes w v m g:=by
 obtain⟨h1,ao,cap,h2,h3⟩:=h;refine⟨fun i hi=>by rw[<-e i hi];exact h1 i hi,ao,cap,h2,?_⟩;rcases h3 with h3|⟨a,h4,h5,h6⟩
 ·exact .inl h3
 ·exact .inr ⟨a,h4,h5,fun j hj=>by rw[<-e j hj];exact h6 j hj⟩
section
variable {w1 W W':World} {hb sb lw:Nat} {x:Bx} {t:Bt} {fr:Nat->List Nat} {ls:List (Nat×Nat)} {S:Sb} {l:List He8} {h':Nat->Int}
theorem LL8.findIn(L:LL8 x ls S (aR l))(o:SO w1 W sb lw x t fr ls S h'){p k a z:Nat}(hk : 0<k)(hl:aG x ls S a z)(g1:a<=p)(g2:p+k<=a+z):∃ (i:Nat) (h:He8),l[i]?=some h/\h.p=a/\h.s=z/\bI (fG p k) l 0=(i:Int):=by
 obtain⟨i,h,hi,e1,e2,_⟩:=L.find hl;refine⟨i,h,hi,e1,e2,?_⟩;have:=rW (q:=fG p k) l i h 0 hi (by
  unfold fG;rw[decide_eq_true (show h.p<=p by omega),decide_eq_true (show p-h.p<h.s by omega),decide_eq_true (show k<=h.s-(p-h.p)by omega)];rfl) (fun j c hj hc=>by
  cases e:fG p k c with
  | false=>rfl
  | true=>
   exfalso
   unfold fG at e;simp only[Bool.and_eq_true,decide_eq_true_eq] at e;rcases o.two (L.th (List.mem_of_getElem? hc)) hl with ⟨e3,_⟩|e3|e3
   ·have:=L.inj hc hi (e3.trans e1.symm);omega
   ·omega
   ·omega)
 rwa [Nat.zero_add] at this
theorem LL8.findIn_no(L:LL8 x ls S (aR l)){p k:Nat}(hk : 0<k)(hl:∀ a z,aG x ls S a z->¬(a<=p/\p<a+z/\p+k<=a+z)):bI (fG p k) l 0 = -1:=by
 refine rV l 0 fun h hh=>?_
 cases e:fG p k h with
 | false=>rfl
 | true=>
  exfalso
  unfold fG at e;simp only[Bool.and_eq_true,decide_eq_true_eq] at e;exact hl h.p h.s (L.th hh) ⟨by omega,by omega,by omega⟩
theorem pN{p k:Nat}(hw:eL x ls S p k true):∃ a z,aG x ls S a z/\a<=p/\p+k<=a+z:=by
 rcases hw with ⟨_,a,z,g1,g2,g3,g4⟩|⟨e,_⟩
 ·exact⟨a,z,g1,g2,g4⟩
 ·cases e
theorem sW{p k:Nat}(hw:eL x ls S p k false):∀ a z,aG x ls S a z->¬(a<=p/\p<a+z/\p+k<=a+z):=by
 rcases hw with ⟨e,_⟩|⟨_,e⟩
 ·cases e
 ·exact e
variable {E:Nat->Prop} {W0:World} {n:Nat} {v:Value} {c:Cl8} {s:Sn8} {gd:Nat->Nat} {cn:Nat} {gc:Nat->Nat}
theorem VF{er:Int}(C:Cn8 x.bS x.lim x.o)(H:HW w1 W hb sb lw x t fr ls S 0)(hn:x.n=n*RS x.o)(A:BA8 E W0 W x sb hb v l)(L:LL8 x ls S (aR l))(by0:∀ h∈l,∀ i,i<h.s->h.f i=t.f (h.p-x.bS+i))
  (hop:c.op=5) (hcp:c.p<18446744073709551616) (R:Fq w1 W hb sb lw x t fr ls S 0 c.p er W') (h0:s.e=er) (h1:s.v=0) (h2:s.dn=0):gG E W0 w1 W' hb x.bS x.lim x.o n v l c s gd cn gc:=by
 have hnl:=H.nle hn;have hl:=C.l;have hg:bZ c.op=true->s.e=0->∀ P:Prop,P:=fun e=>by
  rw[hop] at e;exact absurd e (by decide)
 obtain⟨hh,o⟩:=H.so
 cases R with
 | nil hp he kp=>
  refine gV H hn A kp (fun e e2=>hg e e2 _) ?_;intro v s' W2 e9 B _ _ _;have hI:bI (gD c.p) l 0=qF none:=L.find_no fun z hz=>by
   have:=(o.inside hz).1;have:=C.z;omega
  exact(EO C.o (by omega) hop l B hcp none hI (.inl hp) (e9.e.trans (h0.trans he)) (e9.v.trans h1) e9.af).mono fun e w' h=>AF (d:=none) (Kt.refl _ _) B L (fun a ha _=>by0 a ha) h
 | bad hp hl2 he kp=>
  exact gV H hn A kp (fun e e2=>hg e e2 _) (oO C hnl (er:=1) (fun w v s Q B hQ hW=>pQ l B hcp hp (.inl ⟨.inr hop,L.find_no hl2,rfl,rfl⟩) hQ hW) (h0.trans he) h1 h2 L by0)
 | ok z hp hl2 he hG=>
  obtain⟨x',t',fr',ls',S',_,nx,hL,hxn⟩:=hG;obtain⟨i,h,hi,e1,e2,hI⟩:=L.find hl2;obtain⟨c1,c2,c3,c4,c5⟩:=nx.ch;refine⟨sb,lw,x',t',fr',ls',S',n,nx.H,c1,c3,c4,hxn.trans hn,A.nx nx,fun e e2=>hg e e2 _,?_⟩;intro v s' W2 e9 B _ _ _;have L':LL8 x' ls' S' (aR (aQ l (some i))):=by
   rw[tP];exact(L.lp.del (pS hi) (fun a c=>by rw[hL,e1])).ll
  exact(EO C.o (by omega) hop l B hcp (some i) hI (.inr (fun e=>by cases e)) (e9.e.trans (h0.trans he)) (e9.v.trans h1) e9.af).mono fun e w' h=>AF (d:=some i) (Kt.refl _ _) B L' (fun a ha hd=>qM H nx (L.th ha) ((L'.ex _ _).2 (pT hd)) (by0 a ha)) h
theorem ziZ{er:Int}{z:Nat}(C:Cn8 x.bS x.lim x.o)(H:HW w1 W hb sb lw x t fr ls S 0)(hn:x.n=n*RS x.o)(A:BA8 E W0 W x sb hb v l)(L:LL8 x ls S (aR l))(by0:∀ h∈l,∀ i,i<h.s->h.f i=t.f (h.p-x.bS+i))
  (hop:c.op=6) (hcp:c.p<18446744073709551616) (R:(er=0/\aG x ls S c.p z)\/(er=1/\z=0/\∀ a,¬aG x ls S c.p a)) (kp:Kt nO W W') (h0:s.e=er) (h1:s.v=z) (h2:s.dn=0):gG E W0 w1 W' hb x.bS x.lim x.o n v l c s gd cn gc:=by
 have hnl:=H.nle hn;have hl:=C.l;refine gV H hn A kp (fun e=>by rw[hop] at e;exact absurd e (by decide)) ?_;rcases R with ⟨he,hl2⟩|⟨he,hz,hl2⟩
 ·obtain⟨i,h,hi,e1,e2,hI⟩:=L.find hl2;intro v s' W2 e9 B _ _ _;obtain⟨va,vc,rfl⟩:=B.val;exact(VT C.o (by omega) hop l B hcp i h hi hI (e9.e.trans (h0.trans he)) (e9.v.trans (h1.trans e2.symm)) e9.af).mono fun e w' h=>jT (Kt.refl _ _) B L by0 h
 ·exact oO C hnl (er:=1) (fun w v s Q B hQ hW=>WW hop l B hcp (L.find_no hl2) hQ hW) (h0.trans he) (h1.trans hz) h2 L by0
theorem qO{h:He8}{p j:Nat}{f:Nat->Nat}{bS:Nat}(hb:bS<=h.p)(h1:h.p<=p)(h2:p-h.p+j<h.s)(hby:∀ i,i<h.s->h.f i=f (h.p-bS+i)):h.f (p-h.p+j)=f (p-bS+j):=by
 rw[hby _ h2];congr 1
 omega
theorem VE{er:Int}{z:Nat}(C:Cn8 x.bS x.lim x.o)(H:HW w1 W hb sb lw x t fr ls S 0)(hn:x.n=n*RS x.o)(A:BA8 E W0 W x sb hb v l)(L:LL8 x ls S (aR l))(by0:∀ h∈l,∀ i,i<h.s->h.f i=t.f (h.p-x.bS+i))
  (hop:c.op=7) (hcp:c.p<18446744073709551616) (R:(er=0/\eL x ls S c.p 1 true/\z=t.f (c.p-x.bS))\/(er=4/\eL x ls S c.p 1 false/\z=0)) (kp:Kt nO W W') (h0:s.e=er) (h1:s.v=z) (h2:s.dn=0):gG E W0 w1 W' hb x.bS x.lim x.o n v l c s gd cn gc:=by
 have hnl:=H.nle hn;have hl:=C.l;obtain⟨hh,o⟩:=H.so;refine gV H hn A kp (fun e=>by rw[hop] at e;exact absurd e (by decide)) ?_;rcases R with ⟨he,hw,hz⟩|⟨he,hw,hz⟩
 ·obtain⟨a,y,g1,g2,g3⟩:=pN hw;obtain⟨i,h,hi,e1,e2,hI⟩:=L.findIn o (by decide) g1 g2 g3;have hin:=(o.inside g1).1;intro v s' W2 e9 B _ _ _;obtain⟨va,vc,rfl⟩:=B.val;refine kV (by omega) iN fun W k=>(EM C.o (by omega) 1 (.inl ⟨hop,rfl⟩) l (B.keep k) hcp i h hi hI (by omega) (by omega) ?_ (e9.e.trans (h0.trans he)) e9.af).mono fun e w' h=>jT k B L by0 h
  rw[e9.v,h1,hz];unfold M.wordTo M.wordTo;have:=qO (p:=c.p) (j:=0) (by omega) (by omega) (by omega) (by0 h (List.mem_of_getElem? hi));rw[this];simp
 ·exact oO C hnl (er:=4) (fun w v s Q B hQ hW=>kV (by omega) hQ fun W k=>xG 1 l (B.keep k) hcp (L.findIn_no (by decide) (sW hw)) (.inl ⟨hop,rfl⟩) (hQ.mono k) fun W2 k2=>hW W2 (nT k k2)) (h0.trans he) (h1.trans hz) h2 L by0
theorem ZP{er:Int}{z:Nat}(C:Cn8 x.bS x.lim x.o)(H:HW w1 W hb sb lw x t fr ls S 0)(hn:x.n=n*RS x.o)(A:BA8 E W0 W x sb hb v l)(L:LL8 x ls S (aR l))(by0:∀ h∈l,∀ i,i<h.s->h.f i=t.f (h.p-x.bS+i))
  (hop:c.op=9) (hcp:c.p<18446744073709551616) (R:(er=0/\eL x ls S c.p 8 true/\z=M.word t.f (c.p-x.bS))\/(er=4/\eL x ls S c.p 8 false/\z=0)) (kp:Kt nO W W') (h0:s.e=er) (h1:s.v=z) (h2:s.dn=0):gG E W0 w1 W' hb x.bS x.lim x.o n v l c s gd cn gc:=by
 have hnl:=H.nle hn;have hl:=C.l;obtain⟨hh,o⟩:=H.so;refine gV H hn A kp (fun e=>by rw[hop] at e;exact absurd e (by decide)) ?_;rcases R with ⟨he,hw,hz⟩|⟨he,hw,hz⟩
 ·obtain⟨a,y,g1,g2,g3⟩:=pN hw;obtain⟨i,h,hi,e1,e2,hI⟩:=L.findIn o (by decide) g1 g2 g3;have hin:=(o.inside g1).1;intro v s' W2 e9 B _ _ _;obtain⟨va,vc,rfl⟩:=B.val;refine kV (by omega) iN fun W k=>(EM C.o (by omega) 8 (.inr ⟨hop,rfl⟩) l (B.keep k) hcp i h hi hI (by omega) (by omega) ?_ (e9.e.trans (h0.trans he)) e9.af).mono fun e w' h=>jT k B L by0 h
  rw[e9.v,h1,hz];unfold M.word;exact IW 8 fun j hj=>(qO (p:=c.p) (j:=j) (by omega) (by omega) (by omega) (by0 h (List.mem_of_getElem? hi))).symm
 ·exact oO C hnl (er:=4) (fun w v s Q B hQ hW=>kV (by omega) hQ fun W k=>xG 8 l (B.keep k) hcp (L.findIn_no (by decide) (sW hw)) (.inr (.inl ⟨hop,rfl⟩)) (hQ.mono k) fun W2 k2=>hW W2 (nT k k2)) (h0.trans he) (h1.trans hz) h2 L by0
theorem VD{er:Int}{u:Value}(C:Cn8 x.bS x.lim x.o)(H:HW w1 W hb sb lw x t fr ls S 0)(hn:x.n=n*RS x.o)(A:BA8 E W0 W x sb hb v l)(L:LL8 x ls S (aR l))(by0:∀ h∈l,∀ i,i<h.s->h.f i=t.f (h.p-x.bS+i))
  (hop:c.op=11) (hcp:c.p<18446744073709551616) (hca:c.a<18446744073709551616) (R:RdP W x t ls S c.p c.a u er W') (kp:Kt nO W W') (h0:s.e=er) (h1:s.v=0) (h2:u=.slice s.da s.dn s.dc) (hgd:gd=fun i=>t.f (c.p-x.bS+i)):gG E W0 w1 W' hb x.bS x.lim x.o n v l c s gd cn gc/\M.Bytes W' (.slice s.da s.dn s.dc) s.dn gd/\∀ y,(Value.slice s.da s.dn s.dc).ownBlock=some y->W.heap.size<=y:=by
 have hnl:=H.nle hn;have hl:=C.l;obtain⟨hh,o⟩:=H.so;have hg:bZ c.op=true->s.e=0->aG x ls S s.v (eU x.bS (x.lim:Int) (x.o:Int) c):=fun e=>by rw[hop] at e;exact absurd e (by decide)
 have zb:s.dn=0->M.Bytes W' (.slice s.da s.dn s.dc) s.dn gd:=fun e=>⟨fun i hi=>by omega,_,_,rfl,.inl e⟩
 cases R with
 | nil g hn0 hv he hg1 hg2=>
  rw[h2] at hv;injection hv with q1 q2 q3
  refine⟨gV H hn A kp hg ?_,zb q2,fun y e=>by
   rw[q1] at e;have e:g=y:=(by simpa [Value.ownBlock] using e);omega⟩
  intro v s' W2 e9 B _ _ _;obtain⟨va,vc,rfl⟩:=B.val;exact kV (by omega) iN fun W k=>(zhm C.o (by omega) hop hn0 (e9.e.trans (h0.trans he)) (e9.dn.trans q2) e9.af).mono fun e w' h=>jT k B L by0 h
 | ok g hn0 hw hv he hg1 hB=>
  rw[h2] at hv;injection hv with q1 q2 q3
  obtain⟨a,y,g1,g2,g3⟩:=pN hw;obtain⟨i,h,hi,e1,e2,hI⟩:=L.findIn o hn0 g1 g2 g3;have hin:=(o.inside g1).1;refine⟨gV H hn A kp hg ?_,by rw[q1,q2,q3,hgd];exact hB.bytes c.a,fun y e=>by
   rw[q1] at e;have e:g=y:=(by simpa [Value.ownBlock] using e);omega⟩
  intro v s' W2 e9 B D _ _;obtain⟨va,vc,rfl⟩:=B.val;refine kV (by omega) iN fun W k=>(zhx C.o (by omega) hop l (B.keep k) hcp i h hi hn0 hI (by omega) (by omega) (IP (f:=gd) (by rw[<-q2,<-e9.dn];exact D.keep (cH k)) fun j hj=>?_) (e9.e.trans (h0.trans he)) e9.af).mono fun e w' h=>jT k B L by0 h
  rw[hgd];exact(qO (p:=c.p) (j:=j) (by omega) (by omega) (by omega) (by0 h (List.mem_of_getElem? hi))).symm
 | bad hn0 hw hv he=>
  rw[h2] at hv;injection hv with q1 q2 q3
  refine⟨gV H hn A kp hg ?_,zb q2,fun y e=>by
   rw[q1] at e;simp[Value.ownBlock] at e⟩
  exact oO C hnl (er:=4) (fun w v s Q B hQ hW=>kV (by omega) hQ fun W k=>xG c.a l (B.keep k) hcp (L.findIn_no hn0 (sW hw)) (.inr (.inr ⟨hop,rfl,hn0,hca⟩)) (hQ.mono k) fun W2 k2=>hW W2 (nT k k2)) (h0.trans he) h1 q2 L by0
def nE(bS:Nat)(L o:Int)(c:Cl8)(k:Nat)(ga:Nat->Nat)(cn:Nat)(gc:Nat->Nat):Prop:=∀ (w:World) (n:Int) (v:Value) (s:Sn8) (Q:Nat->Value->World->Prop),iY w Q->M.Bytes w c.v cn gc->(∀ u W,Kt nO w W->M.Bytes W u k ga->Calls prog 155 #[aK bS L o n v,bJ c,aU s,u] W (eI bS L o W Q))->Calls prog 62 #[aK bS L o n v,bJ c,aU s] w (eI bS L o w Q)
theorem OI{bS:Nat}{L o:Int}(hop:c.op=8)(ha:c.a<18446744073709551616):nE bS L o c 1 (M.byteOf c.a) cn gc:=fun w n v s Q hQ _ hW=>kV (by omega) hQ fun W k=>YW hop ha (hQ.mono k) fun u W2 k2 hu=>hW u W2 (nT k k2) hu
theorem MC{bS:Nat}{L o:Int}(hop:c.op=10)(ha:c.a<18446744073709551616):nE bS L o c 8 (M.byteOf c.a) cn gc:=fun w n v s Q hQ _ hW=>kV (by omega) hQ fun W k=>ziy hop ha (hQ.mono k) fun u W2 k2 hu=>hW u W2 (nT k k2) hu
theorem MB{bS:Nat}{L o:Int}(hop:c.op=12):nE bS L o c cn gc cn gc:=fun w n v s Q hQ hC hW=>kV (by omega) hQ fun W k=>ziz hop (hQ.mono k) fun W2 k2=>hW c.v W2 (nT k k2) (hC.keep (cH (nT k k2)))
inductive So8(w W:World)(hb sb lw:Nat)(x:Bx)(t:Bt)(fr:Nat->List Nat)(ls:List (Nat×Nat))(S:Sb)(p k:Nat)(ga:Nat->Nat)(er:Int)(w':World):Prop where
 | nil (hk:k=0) (he:er=0) (kp:Kt nO W w')
 | ok (hk : 0<k) (hw:eL x ls S p k true) (he:er=0) (wr:Wr w W hb sb lw x t fr ls S 0 (M.upd t.f (p-x.bS) k ga) w')
 | bad (hk : 0<k) (hw:eL x ls S p k false) (he:er=4) (kp:Kt nO W w')
theorem xM{er:Int}{k:Nat}{ga:Nat->Nat}(C:Cn8 x.bS x.lim x.o)(H:HW w1 W hb sb lw x t fr ls S 0)(hn:x.n=n*RS x.o)(A:BA8 E W0 W x sb hb v l)(L:LL8 x ls S (aR l))(by0:∀ h∈l,∀ i,i<h.s->h.f i=t.f (h.p-x.bS+i))
  (hg:bZ c.op=false) (J:nE x.bS (x.lim:Int) (x.o:Int) c k ga cn gc) (hcp:c.p<18446744073709551616) (hk:k<=9223372036854775807) (R:So8 w1 W hb sb lw x t fr ls S c.p k ga er W') (h0:s.e=er) (h1:s.v=0) (h2:s.dn=0):gG E W0 w1 W' hb x.bS x.lim x.o n v l c s gd cn gc:=by
 have hnl:=H.nle hn;have hl:=C.l;obtain⟨hh,o⟩:=H.so;have hg:bZ c.op=true->s.e=0->aG x ls S s.v (eU x.bS (x.lim:Int) (x.o:Int) c):=fun e=>by rw[hg] at e;cases e
 cases R with
 | nil hk0 he kp=>
  refine gV H hn A kp hg ?_;intro v s' W2 e9 B _ Cv _;obtain⟨va,vc,rfl⟩:=B.val;refine J W2 _ _ _ _ iN Cv fun u W kk hu=>?_
  obtain⟨_,aa,ac,rfl,_⟩:=hu;rw[hk0];exact(zfD x.bS x.lim x.o n C.o (by omega) va l.length vc c s' aa ac (e9.e.trans (h0.trans he)) e9.af W).mono fun e w' h=>jT kk B L by0 h
 | ok hk0 hw he wr=>
  obtain⟨a,y,g1,g2,g3⟩:=pN hw;obtain⟨i,h,hi,e1,e2,hI⟩:=L.findIn o hk0 g1 g2 g3;have hin:=(o.inside g1).1;refine⟨sb,lw,x,_,fr,ls,S,n,wr.1,rfl,rfl,rfl,hn,A.kw wr.2,hg,?_⟩;intro v s' W2 e9 B _ Cv _;obtain⟨va,vc,rfl⟩:=B.val;refine J W2 _ _ _ _ iN Cv fun u W kk hu=>?_
  obtain⟨_,aa,ac,rfl,_⟩:=id hu;refine(zfP x.bS x.lim x.o n C.o (by omega) va l.length vc l c hcp s' aa k ac hk0 hk ga (e9.e.trans (h0.trans he)) e9.af i h hi (by omega) (by omega) W hu (B.keep kk) hI).mono fun e w' hq=>RV hi kk B (fun j hj=>?_) L (fun j b hj hb q hq=>?_) (fun j hj=>?_) hq
  ·unfold M.upd;split
   ·exact hu.1 _ (by omega)
   ·exact(B.bt h (List.mem_of_getElem? hi)).1 j hj
  ·have hbm:=List.mem_of_getElem? hb;rw[by0 b hbm q hq];show _=M.upd t.f (c.p-x.bS) k ga (b.p-x.bS+q)
   have hb2:=(o.inside (L.th hbm)).1;unfold M.upd;rw[if_neg];rcases o.two (L.th hbm) g1 with ⟨e3,_⟩|e3|e3
   ·exact absurd (L.inj hb hi (e3.trans e1.symm)) hj
   ·omega
   ·omega
  ·show M.upd h.f (c.p-h.p) k ga j=M.upd t.f (c.p-x.bS) k ga (h.p-x.bS+j)
   unfold M.upd;by_cases e:c.p-h.p<=j/\j<c.p-h.p+k
   ·rw[if_pos e,if_pos (by omega)];congr 1
    omega
   ·rw[if_neg e,if_neg (by omega)];exact by0 h (List.mem_of_getElem? hi) j hj
 | bad hk0 hw he kp=>
  refine gV H hn A kp hg ?_;intro v s' W2 e9 B _ Cv _;obtain⟨va,vc,rfl⟩:=B.val;refine J W2 _ _ _ _ iN Cv fun u W kk hu=>?_
  obtain⟨_,aa,ac,rfl,_⟩:=hu;exact(zhw x.bS x.lim x.o n C.o (by omega) va l.length vc l c hcp s' aa k ac hk0 hk (e9.e.trans (h0.trans he)) (e9.v.trans h1) (e9.dn.trans h2) e9.af W (B.keep kk) (L.findIn_no hk0 (sW hw))).mono fun e w' h=>jT kk B L by0 h
theorem VC{x':Bx}{t':Bt}{fr':Nat->List Nat}(C:Cn8 x.bS x.lim x.o)(H:HW w1 W hb sb lw x t fr ls S 0)(hn:x.n=n*RS x.o)(A:BA8 E W0 W x sb hb v l)(L:LL8 x ls S (aR l))(by0:∀ h∈l,∀ i,i<h.s->h.f i=t.f (h.p-x.bS+i))
  (hop:c.op=13) (nx:Nx w1 W W' hb sb lw x t ls S 0 x' t' fr' ls S) (htn:t'.m.n=(n-(eS x.o n fr).1)*2 ^ x.o) (h0:s.e=0) (h1:s.v=(eS x.o n fr).1):gG E W0 w1 W' hb x.bS x.lim x.o n v l c s gd cn gc:=by
 have hnl:=H.nle hn;have hl:=C.l;have hCb:=C.b;obtain⟨c1,c2,c3,c4,c5⟩:=nx.ch;have ht:=L.trim H hn;have hle:=AK l x.bS (RS x.o) n;have hr:n=(n-gS l x.bS (RS x.o) n)+gS l x.bS (RS x.o) n:=by omega
 have hxn:x'.n=(n-gS l x.bS (RS x.o) n)*RS x.o:=by
  obtain⟨n2,q1,_,q3,_⟩:=nx.H.rgs;rw[c4] at q1 q3;rw[q3];congr 1
  rw[htn,ht] at q1;exact(Nat.eq_of_mul_eq_mul_right (Nat.pow_pos (by decide)) q1).symm
 have L':LL8 x' ls S (aR l):=⟨fun a z=>by rw[qE c1];exact L.ex a z,L.nd⟩;have hle2:n*RS x.o<=x.lim*RS x.o:=Nat.mul_le_mul_right _ hnl;refine⟨sb,lw,x',t',fr',ls,S,_,nx.H,c1,c3,c4,hxn,A.nx nx,fun e=>by rw[hop] at e;exact absurd e (by decide),?_⟩;intro v s' W2 e9 B _ _ _;obtain⟨va,vc,rfl⟩:=B.val;exact kV (by omega) iN fun W k=>(zig C.o (by omega) (by omega) hop l (B.keep k) _ _ rfl hr (e9.e.trans h0) (e9.v.trans (h1.trans ht)) e9.af).mono fun e w' h=>jT k B L' (fun a ha=>qM H nx (L.th ha) (L'.th ha) (by0 a ha)) h
theorem ZO(C:Cn8 x.bS x.lim x.o)(H:HW w1 W hb sb lw x t fr ls S 0)(hn:x.n=n*RS x.o)(A:BA8 E W0 W x sb hb v l)(L:LL8 x ls S (aR l))(by0:∀ h∈l,∀ i,i<h.s->h.f i=t.f (h.p-x.bS+i))
  (hop:c.op=14) (kp:Kt nO W W') (h0:s.e=0) (h1:s.H=x.n) (h2:s.L=cT fV t.m t.m.n) (h3:s.B=cT fW t.m t.m.n) (h4:s.F=cT fM t.m t.m.n):gG E W0 w1 W' hb x.bS x.lim x.o n v l c s gd cn gc:=by
 have hnl:=H.nle hn;have hl:=C.l;have hCb:=C.b;have hle2:n*RS x.o<=x.lim*RS x.o:=Nat.mul_le_mul_right _ hnl;obtain⟨s1,s2⟩:=L.stats H;have s3:=L.free H t.m.n (Nat.le_refl _);have hpg:=H.pgs hn;have hb:=(H.stb t.m.n (Nat.le_refl _)).1;have hnp:t.m.n<=1024:=by
  obtain⟨n2,q1,_,q3,q4⟩:=H.rgs;rw[O.RS_pages,<-q1] at q4;omega
 refine gV H hn A kp (fun e=>by rw[hop] at e;exact absurd e (by decide)) ?_;intro v s' W2 e9 B _ _ _;obtain⟨va,vc,rfl⟩:=B.val;refine kV (by omega) iN fun W k=>(zin C.o (by omega) (by omega) hop l (B.keep k) (by rw[<-s1];omega) (e9.e.trans h0) (e9.H.trans (h1.trans hn)) (e9.L.trans (h2.trans s1)) (by rw[e9.B,h3,s2];unfold aR;rw[List.length_map]) (by rw[<-hpg];exact e9.F.trans (h4.trans s3)) e9.af).mono fun e w' h=>jT k B L by0 h
end
end Go.Proofs.YtbgbfpklgfpepaaGreatDoor
