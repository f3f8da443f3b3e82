import Derived.Test.YtbgbfpklgfpepaaGreatDoorWc
set_option maxRecDepth 1000000
set_option maxHeartbeats 80000000
namespace Go.Proofs.YtbgbfpklgfpepaaGreatDoor.K
open Tryz
open Go.RowKit
set_option linter.unusedVariables false
theorem Shrink_f(x:Bx)(t:Bt)(fr:Nat->List Nat)(ls:List (Nat×Nat))(s0:Sf x t fr ls)(p k o:Nat)(hl:(p,k)∈ls)(hv:x.P p=none)(ho:o<=k)(w:World)(h:BdAt w x t):
  Calls prog 49 #[.pointer (some ⟨x.b,0,none⟩),.int .u64 ((ad x p:Nat):Int),.int .i64 k,.int .i64 o] w fun e w'=>e=.returned (.int .i64 0)/\DF x t w w' ls (dA fr p k o) (dW ls p ++ [(p,o)]):=by
 obtain⟨n1,n2,n3⟩:=s0.sn.n;obtain⟨a1,a2,a3⟩:=s0.sn.al hl;have hz : 0<2 ^ k:=Nat.pow_pos (by decide);have hlv:=(s0.sn.live_iff p k (by omega)).2 ⟨hl,hv⟩;have hdr:=s0.drop_iff hl;have s00:=s0;obtain⟨B,s,hN,hL⟩:=s0;obtain⟨pg1,_⟩:=tT s p (by omega);obtain⟨c1,fr',B',c3,c4,c5,c6,c7⟩:=s.shrink hN ((hL p k).2 hl) hv ho;refine(zfX x t (ad x p) k o (by unfold ad;omega) hlv ho w h).mono ?_;rintro e w' ⟨rfl,h1,h2⟩;rw[pg1] at h1 ⊢;have hfr':fr'=dA fr p k o:=by
  funext i
  rw[c6];rfl
 subst hfr';have hs:Sf x (eZ x t p k o) (dA fr p k o) (dW ls p ++ [(p,o)]):=⟨B',c3,c4,fun q i=>by rw[c5,hL,qW,hdr]⟩;exact⟨by rw[c1];rfl,_,h1,h2,hs,BC _ _ _ _ _,BK.of h h1 s00 hs (c7.mono fun g hg=>hg.2)⟩
end Go.Proofs.YtbgbfpklgfpepaaGreatDoor.K
namespace Go.Proofs.YtbgbfpklgfpepaaGreatDoor
open Tryz
open Go.RowKit
open Go.MuLone
set_option linter.unusedVariables false
section
variable {w W W1 W2 W':World} {hb sb lw:Nat} {x:Bx} {t:Bt} {fr:Nat->List Nat} {ls:List (Nat×Nat)} {S:Sb} {s:Int}
theorem RB{W sb lw h}(o:SO w W sb lw x t fr ls S h){q k j:Nat}(hm:(q,k)∈ls)(hc:S.c q=none)(a z:Nat):aG x (dW ls q ++ [(q,j)]) S a z↔(aG x ls S a z/\a≠ad x q)\/(a=ad x q/\z=4096*2 ^ j):=by
 rw[FU hc,DQ o hm hc]
def Sq(w W:World)(hb sb lw:Nat)(x:Bx)(t:Bt)(fr:Nat->List Nat)(ls:List (Nat×Nat))(S:Sb)(s:Int)(p z r:Nat)(w':World):Prop:=∃ t' q k j,(q,k)∈ls/\S.c q=none/\p=ad x q/\z=4096*2 ^ k/\r=4096*2 ^ j/\j<=k/\Nx w W w' hb sb lw x t ls S s x t' (dA fr q k j) (dW ls q ++ [(q,j)]) S/\(∀ a c,aG x (dW ls q ++ [(q,j)]) S a c↔(aG x ls S a c/\a≠p)\/(a=p/\c=r))/\t'.m.n=t.m.n
theorem Sq.from{p z r:Nat}(k:Kt nO W W1)(h:Sq w W1 hb sb lw x t fr ls S s p z r W'):Sq w W hb sb lw x t fr ls S s p z r W':=by
 obtain⟨t',q,k',j,h1,h2,h3,h4,h5,h6,nx,h7⟩:=h;exact⟨t',q,k',j,h1,h2,h3,h4,h5,h6,nx.from k,h7⟩
theorem Sq.out{p z r:Nat}(H:HW w W hb sb lw x t fr ls S 0)(h:Sq w (cY W hb) hb sb lw x t fr ls S 1 p z r W'):Sq w W hb sb lw x t fr ls S 0 p z r (dZ W' hb):=by
 obtain⟨t',q,k',j,h1,h2,h3,h4,h5,h6,nx,h7⟩:=h;exact⟨t',q,k',j,h1,h2,h3,h4,h5,h6,nx.out H,h7⟩
theorem HW.shrink(H:HW w W hb sb lw x t fr ls S s){q k j:Nat}(hm:(q,k)∈ls)(hc:S.c q=none)(hj:j<=k)(p:Nat)(hp:p=ad x q):
  Calls prog 49 #[.pointer (some ⟨x.b,0,none⟩),.int .u64 p,.int .i64 k,.int .i64 j] W fun e w'=>e=.returned (.int .i64 0)/\Sq w W hb sb lw x t fr ls S s p (4096*2 ^ k) (4096*2 ^ j) w':=by
 subst hp;obtain⟨h,o⟩:=H.so;refine(K.Shrink_f x t fr ls o.sf q k j hm (o.pnone8 hc) hj W o.sw.pl.bd).mono ?_;rintro e w' ⟨rfl,t',hbd,hk,hsf,hn,bk⟩;have po':PO w w' lw x t' (dA fr q k j) (dW ls q ++ [(q,j)]):=⟨o.sw.pl.call hbd hk,hsf,by rw[hn];exact o.st,o.bm⟩;have o':=o.pool po' (Sm.refl x) bk (fun a c ha=>List.mem_append_left _ (List.mem_filter.2 ⟨(o.mem ha).1,decide_eq_true fun e=>by
  have e:a=q:=e;rw[e,hc] at ha
  cases ha⟩)) hk
 have ks:Kt (bG x sb) W w':=hk.mono (fun _ _ e=>.inl e);have ch:Ch x t ls S x t' (dW ls q ++ [(q,j)]) S:=⟨rfl,rfl,rfl,rfl,fun i h1 h2=>bk i (o.byte h1) (o'.byte h2)⟩;exact⟨rfl,t',q,k,j,hm,hc,rfl,rfl,rfl,hj,⟨H.call o' H.lv ch ks,ch,ks,fun y e=>.inl e⟩,RB o hm hc,hn⟩
theorem Nx.trans{x1:Bx}{t1:Bt}{fr1:Nat->List Nat}{ls1:List (Nat×Nat)}{S1:Sb}{x2:Bx}{t2:Bt}{fr2:Nat->List Nat}{ls2:List (Nat×Nat)}{S2:Sb}(n1:Nx w W W1 hb sb lw x t ls S s x1 t1 fr1 ls1 S1)(n2:Nx w W1 W2 hb sb lw x1 t1 ls1 S1 s x2 t2 fr2 ls2 S2)(hm:∀ j,oA x ls S j->oA x2 ls2 S2 j->oA x1 ls1 S1 j):Nx w W W2 hb sb lw x t ls S s x2 t2 fr2 ls2 S2:=
 ⟨n2.H,⟨n2.ch.bS.trans n1.ch.bS,n2.ch.R.trans n1.ch.R,n2.ch.lim.trans n1.ch.lim,n2.ch.o.trans n1.ch.o,fun j h1 h2=>(n2.ch.kb j (hm j h1 h2) h2).trans (n1.ch.kb j h1 (hm j h1 h2))⟩,n1.kp.trans n2.kp (fun _ _ e=>e) (fun y hy e=>(n1.ns y e).elim id (fun e2=>absurd hy (Nat.not_lt.2 e2))),fun y hy=>(n2.ns y hy).elim (n1.ns y) (fun e=>.inr (Nat.le_trans n1.kp.size e))⟩
theorem HW.copy(H:HW w W hb sb lw x t fr ls S s){p r q z k:Nat}(hl:aG x ls S p r)(hl2:aG x ls S q z)(hk : 0<k)(h1:k<=r)(h2:k<=z):
  Calls prog 85 #[.pointer (some ⟨x.s,0,none⟩),.int .u64 p,.int .u64 q,.int .u64 k] W fun e w'=>e=.returned (.int .i64 0)/\Wr w W hb sb lw x t fr ls S s (M.upd t.f (p-x.bS) k fun i=>t.f (q-x.bS+i)) w':=by
 obtain⟨h',o⟩:=H.so;have hi:=o.inside hl;have hi2:=o.inside hl2;obtain⟨g,hg,hs⟩:=H.space (by omega);refine(M.Copy_in x.s g x.bS x.R x.lim x.n t.f p q k W hs hk (by unfold M.In;omega) (by unfold M.In;omega)).mono ?_;rintro e w' ⟨rfl,h3,h4⟩;rw[<-hg] at h3 h4;exact⟨rfl,H.wrote hl (fun j hj=>M.upd_out _ _ _ _ _ (fun e=>hj (by omega))) h3 (dR h4)⟩
inductive Mq(w W:World)(hb sb lw:Nat)(x:Bx)(t:Bt)(fr:Nat->List Nat)(ls:List (Nat×Nat))(S:Sb)(s:Int)(p z r:Nat)(d:Bool)(p':Nat)(er:Int)(w':World):Prop where
 | no (hp:p'=0) (he:er=2) (nf:NF x fr S r) (hd:d=true\/x.n=x.lim*x.R) (kp:Kt nO W w')
 | yes (x':Bx) (t':Bt) (fr':Nat->List Nat) (ls':List (Nat×Nat)) (S':Sb) (b:Bool) (he:er=0) (nx:Nx w W w' hb sb lw x t ls S s x' t' fr' ls' S') (hL:∀ a c,aG x' ls' S' a c↔(aG x ls S a c/\a≠p)\/(a=p'/\c=r)) (hN:∀ c,¬aG x ls S p' c) (hn:x'.n=(if b=true then x.n+x.R else x.n)) (hm:p'%r=0) (hb1:b=true->NF x fr S r/\d=false/\x.n+x.R<=x.lim*x.R) (hb2:b=false->¬NF x fr S r) (cp:∀ i,i<z->i<r->t'.f (p'-x.bS+i)=t.f (p-x.bS+i)) (md:∃ W1 x1 t1 fr1 ls1 S1 s1,HW w W1 hb sb lw x1 t1 fr1 ls1 S1 s1/\x1.bS=x.bS/\x1.lim=x.lim/\x1.o=x.o/\x1.n=x'.n/\∀ a c,aG x1 ls1 S1 a c↔aG x ls S a c\/(a=p'/\c=r))
theorem Mq.from{p z r:Nat}{d:Bool}{p':Nat}{er:Int}(k:Kt nO W W1)(h:Mq w W1 hb sb lw x t fr ls S s p z r d p' er W'):Mq w W hb sb lw x t fr ls S s p z r d p' er W':=by
 cases h with
 | no hp he nf hd kp=>exact .no hp he nf hd (nT k kp)
 | yes x' t' fr' ls' S' b he nx hL hN hn hm hb1 hb2 cp md=>exact .yes x' t' fr' ls' S' b he (nx.from k) hL hN hn hm hb1 hb2 cp md
theorem Mq.out{p z r:Nat}{d:Bool}{p':Nat}{er:Int}(H:HW w W hb sb lw x t fr ls S 0)(h:Mq w (cY W hb) hb sb lw x t fr ls S 1 p z r d p' er W'):Mq w W hb sb lw x t fr ls S 0 p z r d p' er (dZ W' hb):=by
 cases h with
 | no hp he nf hd kp=>exact .no hp he nf hd (H.kout kp)
 | yes x' t' fr' ls' S' b he nx hL hN hn hm hb1 hb2 cp md=>exact .yes x' t' fr' ls' S' b he (nx.out H) hL hN hn hm hb1 hb2 cp md
theorem Mq.st{p z r:Nat}{d:Bool}{p':Nat}{er:Int}(H:HW w W hb sb lw x t fr ls S s)(h:Mq w W hb sb lw x t fr ls S s p z r d p' er W'):∃ x' t' fr' ls' S',HW w W' hb sb lw x' t' fr' ls' S' s:=by
 cases h with
 | no hp he nf hd kp=>exact⟨_,_,_,_,_,H.keep kp⟩
 | yes x' t' fr' ls' S' b he nx=>exact⟨_,_,_,_,_,nx.H⟩
theorem OG{x1:Bx}{t1:Bt}{fr1:Nat->List Nat}{ls1:List (Nat×Nat)}{S1:Sb}{b d:Bool}{p p' z r k:Nat}{w1 w2 w3:World}(hl:aG x ls S p z)(hk:k=min z r)(n1:Nx w W w1 hb sb lw x t ls S s x1 t1 fr1 ls1 S1)(hL:∀ a c,aG x1 ls1 S1 a c↔aG x ls S a c\/(a=p'/\c=r))(hN:∀ c,¬aG x ls S p' c)(hn:x1.n=(if b=true then x.n+x.R else x.n))(hm:p'%r=0)(hb1:b=true->NF x fr S r/\d=false/\x.n+x.R<=x.lim*x.R)(hb2:b=false->¬NF x fr S r)(wr:Wr w w1 hb sb lw x1 t1 fr1 ls1 S1 s (M.upd t1.f (p'-x1.bS) k fun i=>t1.f (p-x1.bS+i)) w2)(gq:Gq w w2 hb sb lw x1 { t1 with f:=M.upd t1.f (p'-x1.bS) k fun i=>t1.f (p-x1.bS+i) } fr1 ls1 S1 s p z w3):Mq w W hb sb lw x t fr ls S s p z r d p' 0 w3:=by
 obtain⟨x2,t2,fr2,ls2,S2,gd,n3,hL2,hn2⟩:=gq;obtain⟨h1,o1⟩:=n1.H.so;have hl1:aG x1 ls1 S1 p' r:=(hL _ _).2 (.inr ⟨rfl,rfl⟩);have hi1:=o1.inside hl1;have n2:=n1.fill (fun a c h=>(hL a c).2 (.inl h)) hl1 hN wr (fun j hj=>M.upd_out _ _ _ _ _ (fun e=>hj (by omega)));have hsub:∀ j,oA x ls S j->oA x1 ls1 S1 j:=fun j ⟨a,c,l1,l2,l3⟩=>⟨a,c,(hL a c).2 (.inl l1),by rw[n1.ch.bS];exact l2,by rw[n1.ch.bS];exact l3⟩
 have nn:=n2.trans n3 (fun j h1 _=>hsub j h1);have hpp:p'≠p:=fun e=>hN z (by rw[e];exact hl)
 have hL3:∀ a c,aG x2 ls2 S2 a c↔(aG x ls S a c/\a≠p)\/(a=p'/\c=r):=fun a c=>by
  rw[hL2,hL];constructor
  ·rintro ⟨e|e,e2⟩
   ·exact .inl ⟨e,e2⟩
   ·exact .inr e
  ·rintro (⟨e,e2⟩|e)
   ·exact⟨.inl e,e2⟩
   ·exact⟨.inr e,by rw[e.1];exact hpp⟩
 have hb1':=n1.ch.bS;refine .yes x2 t2 fr2 ls2 S2 b rfl nn hL3 hN (hn2.trans hn) hm hb1 hb2 (fun i i1 i2=>?_) ⟨w1,x1,t1,fr1,ls1,S1,s,n1.H,hb1',n1.ch.lim,n1.ch.o,hn2.symm,hL⟩;have hl3:aG x2 ls2 S2 p' r:=(hL3 _ _).2 (.inr ⟨rfl,rfl⟩);have k3:=n3.ch.kb (p'-x.bS+i) ⟨p',r,hl1,by omega,by omega⟩ ⟨p',r,hl3,by rw[n3.ch.bS];omega,by rw[n3.ch.bS];omega⟩;rw[k3];show M.upd t1.f (p'-x1.bS) k (fun i=>t1.f (p-x1.bS+i)) (p'-x.bS+i)=_
 unfold M.upd;rw[hb1',if_pos (by omega),show p'-x.bS+i-(p'-x.bS)=i by omega];have hi2:=o1.inside ((hL p z).2 (.inl hl));exact n1.ch.kb (p-x.bS+i) ⟨p,z,hl,by omega,by omega⟩ ⟨p,z,(hL p z).2 (.inl hl),by omega,by omega⟩
end
open Go.Proofs.YtbgbfpklgfpepaaGreatDoor.M (RS gJ mayB bE)
theorem KV{W W':World}{y:Nat}{c:Cl8}(h:W.heap[y]?=some (bP c))(k:Kt nO W W'):W'.heap[y]?=some (bP c):=(k.block _ (lH h) id).trans h
theorem sO(w:World)(bS:Nat)(lim o n:Int)(v:Value)(c:Cl8):Kt nO w ((w.alloc (aM bS lim o n v)).alloc (bP c))/\((w.alloc (aM bS lim o n v)).alloc (bP c)).heap[w.heap.size]?=some (aM bS lim o n v)/\((w.alloc (aM bS lim o n v)).alloc (bP c)).heap[w.heap.size+1]?=some (bP c):=by
 have K0:=(Kt.refl nO w).alloc (aM bS lim o n v);have X0:=nH w (aM bS lim o n v);obtain⟨w1,hw1⟩:=xe (w.alloc (aM bS lim o n v));have z1:w1.heap.size=w.heap.size+1:=by rw[hw1];simp
 rw[<-hw1] at K0 X0 ⊢;have K1:=(Kt.refl nO w1).alloc (bP c);have X1:=nH w1 (bP c);rw[z1] at X1;exact⟨nT K0 K1,bK X0 K1,X1⟩
theorem XM(bS:Nat)(lim o nr:Int)(v:Value)(l:List He8)(c:Cl8)(hp:c.p<18446744073709551616)(n:Nat)(hn:n<18446744073709551616)(w:World)(hB:BK8 w v l)(hI:bI (fG c.p n) l 0 = -1):
  Calls prog 153 #[aK bS lim o nr v,bJ c,.int .u64 n] w fun e w'=>e=.returned (.tuple #[.slice none 0 0,.bool false])/\Kt nO w w':=by
 have XX:=aA (sO w bS lim o nr v c);have IN:=aA (fun W (k:Kt nO w W)=>vH bS lim o nr v l c.p n hp hn W (hB.keep k));rw[hI] at IN;clear hB hI;go_enter func153,ntmps153;go_wp2_with fail;refine(IN.out _ XX.out.1).mono ?_;rintro e w2 ⟨rfl,hk⟩;have D:=aA (nT XX.out.1 hk);clear hk IN;go_wp2_with fail;exact⟨rfl,.tuple #[.slice none 0 0,.bool false],by simp[results,results153,go_sem],rfl,D.out⟩
theorem BK8.at{W:World}{v:Value}{l:List He8}(h:BK8 W v l){i:Nat}{b:He8}(hi:l[i]?=some b):∃ g vc ba bc,v=.slice (some ⟨g,0,none⟩) l.length vc/\b.v=.slice ba b.s bc/\W.cell? ⟨g,i*3,none⟩=some (.int .u64 b.p)/\W.cell? ⟨g,i*3+1,none⟩=some (.int .u64 b.s)/\W.cell? ⟨g,i*3+2,none⟩=some (.slice ba b.s bc):=by
 obtain⟨va,vc,rfl⟩:=h.val;obtain⟨g,rfl,c0,c1,c2⟩:=h.get rfl hi;obtain⟨_,ba,bc,hbv,_⟩:=h.bt b (List.mem_of_getElem? hi);rw[hbv] at c2;exact⟨g,vc,ba,bc,rfl,hbv,c0,c1,c2⟩
theorem rQ{W:World}{v:Value}{m:Nat}{f:Nat->Nat}{ba:Option Addr}{bc:Nat}(h:M.Bytes W v m f)(hv:v=.slice ba m bc){o n:Nat}(ho:o+n<=m)(hn : 0<n):∃ b q,ba=some ⟨b,q,none⟩/\∀ c,M.Bytes W (.slice (some ⟨b,q+o,none⟩) n c) n (fun j=>f (o+j)):=by
 obtain⟨hf,ao,ac,e,h2⟩:=h;rw[hv] at e;injection e with e1 e2 e3
 subst e1;obtain⟨a,rfl,hlt,hc⟩:=h2.resolve_left (by omega);obtain⟨b,q,rfl⟩:=M.addr_plain (hc 0 (by omega));refine⟨b,q,rfl,fun c=>⟨fun j hj=>hf _ (by omega),_,c,rfl,.inr ⟨⟨b,q+o,none⟩,rfl,hlt,fun j hj=>?_⟩⟩⟩;have:=hc (o+j) (by omega);rw[Addr.add_lit] at this ⊢;rw[Nat.add_assoc];exact this
theorem IC(bS:Nat)(lim o nr:Int)(v:Value)(l:List He8)(c:Cl8)(hp:c.p<18446744073709551616)(n:Nat)(hn0 : 0<n)(w:World)(hB:BK8 w v l)(i:Nat)(h:He8)(hi:l[i]?=some h)(hI:bI (fG c.p n) l 0=(i:Int))(h1:h.p<=c.p)(h2:c.p-h.p+n<=h.s):
  Calls prog 153 #[aK bS lim o nr v,bJ c,.int .u64 n] w fun e w'=>∃ va vc,e=.returned (.tuple #[.slice va n vc,.bool true])/\M.Bytes w' (.slice va n vc) n (fun j=>h.f (c.p-h.p+j))/\Kt nO w w':=by
 have hbd:=hB.bd h (List.mem_of_getElem? hi);have hln:=hB.ln;have XX:=aA (sO w bS lim o nr v c);have IN:=aA (fun W (k:Kt nO w W)=>vH bS lim o nr v l c.p n hp (by omega) W (hB.keep k));rw[hI] at IN;have hil:i<l.length:=(List.getElem?_eq_some_iff.1 hi).1;obtain⟨g,vc,ba,bc,rfl,hbv,_⟩:=hB.at hi;have HG:=aA (fun W (k:Kt nO w W)=>(hB.keep k).get rfl hi);obtain⟨bb,bq,rfl,hpart⟩:=rQ (hB.bt h (List.mem_of_getElem? hi)) hbv h2 hn0;have HP:=aA (fun c W (k:Kt nO w W)=>(hpart c).keep (cH k));have hcap:h.s<=bc:=by
  obtain⟨va',vc',e1,e2⟩:=hB.cp h (List.mem_of_getElem? hi);rw[hbv] at e1;injection e1 with _ _ e3
  omega
 clear hB hI hpart;obtain⟨d,hd⟩:=xe (c.p-h.p);rw[<-hd] at h2 HP ⊢;have hdi:(c.p:Int)-(h.p:Int)=d:=by omega
 have hdw:IntKind.u64.wrap (d:Int)=d:=by rw[wrap_u64];omega
 have hdv:IntKind.i64.wrap (d:Int)=d:=by rw[IntKind.wrap_i64];omega
 have hnv:IntKind.i64.wrap (n:Int)=n:=by rw[IntKind.wrap_i64];omega
 have hii:(i:Int)<l.length:=by omega
 have hi0:decide ((i:Int)<0)=false:=decide_eq_false (by omega);clear hd;obtain⟨m,hm⟩:=xe (l.length);rw[<-hm] at XX IN hii hln hil ⊢;clear hm;go_enter func153,ntmps153;go_wp2_with fail;refine(IN.out _ XX.out.1).mono ?_;rintro e w2 ⟨rfl,hk⟩;have D:=aA (nT XX.out.1 hk);obtain⟨g',e',c0,c1,c2⟩:=HG.out _ D.out;injection e' with e'
 injection e' with e'
 subst e';rw[hbv] at c2;obtain⟨b0,b1,b2,b3,b4,bf⟩:=aD (bK XX.out.2.1 hk);obtain⟨k0,k1,k2,k3,k4,k5⟩:=bO (KV XX.out.2.2 hk);clear hk IN;go_wp2_with fail;go_quiet (fail)
 go_wp2_with fail;rw[show d+n-d=n by omega];exact⟨rfl,.tuple #[.slice (some ⟨bb,bq+d,none⟩) n (bc-d),.bool true],by simp[results,results153,go_sem],_,_,rfl,HP.out _ _ (D.out.drewN _),D.out.drewN _⟩
theorem YN{W:World}{g n cap:Nat}{xs:List Value}{e:TypeId}(h:W.ownsRow 0 e 1 (.slice (some ⟨g,0,none⟩) n cap) n xs){i:Nat}(hi:i<n)(u:Value):(W.setCell ⟨g,i,none⟩ u).ownsRow 0 e 1 (.slice (some ⟨g,0,none⟩) n cap) n (xs.set i u):=by
 obtain⟨h1,h2⟩:=h;rcases h2 with ⟨e1,_⟩|⟨g',cap',cur,e1,hb,hg,hnc,hcm,hcs,htake⟩
 ·cases e1
 ·injection e1 with e1 e2 e3
  injection e1 with e1
  injection e1 with e1
  subst e1 e3;refine⟨by rw[List.length_set];exact h1,.inr ⟨g,cap,cur.setIfInBounds i u,rfl,hb,bB hg i u,hnc,hcm,by rw[Array.size_setIfInBounds];exact hcs,?_⟩⟩;rw[<-htake,Array.toList_setIfInBounds,List.take_set]
theorem zhp(m:Nat)(f:Nat->Nat)(i x:Nat):(M.byteVs m f).set i (.int .u8 x)=M.byteVs m (fun j=>if j=i then x else f j):=by
 apply List.ext_getElem?
 intro j;rw[List.getElem?_set];unfold M.byteVs;by_cases hj:j<m
 ·by_cases e:i=j
  ·subst e;simp[hj]
  ·rw[if_neg e];simp[hj,show ¬j=i from fun h=>e h.symm]
 ·simp[hj];omega
theorem GS.setU8{w0 W:World}{g n cap:Nat}{f:Nat->Nat}(h:GS w0 W 5 1 (.slice (some ⟨g,0,none⟩) n cap) n (M.byteVs n f))(hg:w0.heap.size<=g){i:Nat}(hi:i<n)(x:Nat):GS w0 (W.setCell ⟨g,i,none⟩ (.int .u8 x)) 5 1 (.slice (some ⟨g,0,none⟩) n cap) n (M.byteVs n (fun j=>if j=i then x else f j)):=by
 have k:Kt (fun z=>z=g) W (W.setCell ⟨g,i,none⟩ (.int .u8 x)):=(Kt.refl (fun z=>z=g) W).setCell (p:=⟨g,i,none⟩) rfl _;refine⟨by rw[<-zhp];exact YN h.own hi _,fun g' cap' e=>.inr (by injection e with e1 e2 e3;injection e1 with e1;injection e1 with e1;omega),h.kp.trans k (fun _ _ e=>e) (fun z hz e=>by omega)⟩
theorem Wo8.setU8{w W:World}{yb yr yn bS:Nat}{lim o n:Int}{ov:Value}{l':List He8}{v':Value}(h:Wo8 w W yb yr yn bS lim o n ov l' v'){g i:Nat}{cs:Array Value}{z:Nat×Nat}(hg:W.heap[g]?=some (.cells cs 5 z))(hw:w.heap.size<=g)(u:Value):Wo8 w (W.setCell ⟨g,i,none⟩ u) yb yr yn bS lim o n ov l' v':=by
 have k:Kt (fun z=>z=g) W (W.setCell ⟨g,i,none⟩ u):=(Kt.refl (fun z=>z=g) W).setCell (p:=⟨g,i,none⟩) rfl _;have key:∀ {y:Nat} {cs:Array Value} {z:Nat×Nat},W.heap[y]?=some (.cells cs 53 z)->(W.setCell ⟨g,i,none⟩ u).heap[y]?=some (.cells cs 53 z):=fun {y cs z} hy=>(k.block _ (lH hy) (fun e=>by
  subst e;exact absurd (bM hy hg) (by decide))).trans hy
 refine⟨h.gs.setBox u hw (fun e=>?_),key h.bx,key h.ob,key h.rb⟩;obtain⟨cs',hcs⟩:=cB h.gs.own e;exact absurd (bM hcs hg) (by decide)
theorem zfK{l:List He8}{i k:Nat}(hk:k<=i)(a b:He8):(l.set i a).take k=(l.set i b).take k:=by
 apply List.ext_getElem?
 intro j;rw[List.getElem?_take,List.getElem?_take];by_cases h:j<k
 ·rw[if_pos h,if_pos h,List.getElem?_set_ne (by omega),List.getElem?_set_ne (by omega)]
 ·rw[if_neg h,if_neg h]
theorem JA{l:List He8}{k:Nat}{b:He8}(h:l[k]?=some b):l.take (k + 1)=l.take k ++ [b]:=by
 have hk:k<l.length:=(List.getElem?_eq_some_iff.1 h).1;rw[List.take_succ_eq_append_getElem hk,(List.getElem?_eq_some_iff.1 h).2]
structure Pu8(w W:World)(h:He8)(f':Nat->Nat)(x:He8):Prop where
 p:x.p=h.p
 s:x.s=h.s
 f:x.f=f'
 b:GS w W 5 1 x.v h.s (M.byteVs h.s f')
 nw:∀ g,x.v.ownBlock=some g->w.heap.size<=g
theorem BZ{W:World}{b:Nat}{e:TypeId}{size:Nat}{v:Value}{n:Nat}{xs:List Value}(h:W.ownsRow b e size v n xs):∃ va vc,v=.slice va n vc/\n<=vc:=by
 rcases h.2 with ⟨rfl,rfl⟩|⟨g,cap,cur,rfl,_,_,hnc,_⟩
 ·exact⟨none,0,rfl,Nat.le_refl _⟩
 ·exact⟨_,cap,rfl,hnc⟩
theorem GS.u8_after{w W W9:World}{v hv:Value}{n m:Nat}{xs ys:List Value}(h:GS w W 5 1 v n xs)(hH:W.ownsRow 0 164 3 hv m ys)(hk:Kt (fun z=>hv.ownBlock=some z) W W9){yn i:Nat}{cs:Array Value}{z:Nat×Nat}(hb:W9.heap[yn]?=some (.cells cs 53 z))(u:Value)(kp:Kt nO w (W9.setCell ⟨yn,i,none⟩ u)):GS w (W9.setCell ⟨yn,i,none⟩ u) 5 1 v n xs:=by
 have h9:W9.ownsRow 0 5 1 v n xs:=qC h.own hk (fun y hy e=>by
  obtain⟨c1,e1⟩:=cB h.own hy;obtain⟨c2,e2⟩:=cB hH e;rw[e1] at e2;injection e2 with e2
  injection e2 with _ e2
  exact absurd e2 (by decide))
 have k:Kt (fun z=>z=yn) W9 (W9.setCell ⟨yn,i,none⟩ u):=(Kt.refl (fun z=>z=yn) W9).setCell (p:=⟨yn,i,none⟩) rfl _;exact⟨qC h9 k (fun y hy e=>by
  subst e;obtain⟨c1,e1⟩:=cB h9 hy;exact absurd (bM e1 hb) (by decide)),h.new,kp⟩
theorem Wo8.app{w W:World}{yb yr yn bS:Nat}{lim o n:Int}{ov:Value}{l':List He8}{ua:Option Addr}{k uc:Nat}(h:Wo8 w W yb yr yn bS lim o n ov l' (.slice ua k uc))(hl:k=l'.length)(hk:k<=300000)(hyn:w.heap.size<=yn)(hne:yb≠yn)(hne2:yr≠yn)(b:He8){ba:Option Addr}{bc:Nat}(hbv:b.v=.slice ba b.s bc):
  ∃ g cap w9,(∀ ty,(Builtin.append_ #[51,51] ty #[.slice ua k uc,.slice (some ⟨W.heap.size,0,none⟩) 1 1]).run prog (W.alloc (eY b.p b.s (.slice ba b.s bc)))=.ok (.slice (some ⟨g,0,none⟩) (k + 1) cap) w9)/\w9.heap[yn]?=some (aM bS lim o n (.slice ua k uc))/\Wo8 w (w9.setCell ⟨yn,4,none⟩ (.slice (some ⟨g,0,none⟩) (k + 1) cap)) yb yr yn bS lim o n ov (l' ++ [b]) (.slice (some ⟨g,0,none⟩) (k + 1) cap)/\∀ v m xs,GS w W 5 1 v m xs->GS w (w9.setCell ⟨yn,4,none⟩ (.slice (some ⟨g,0,none⟩) (k + 1) cap)) 5 1 v m xs:=by
 subst hl;obtain⟨gg,cap,w9,hap,hG9,hge,hK9,_⟩:=BQ h.gs b.p b.s (.slice ba b.s bc) rfl (by omega);obtain⟨hb9,hW9⟩:=h.put hyn hne hne2 (b:=b) rfl (by rw[hbv];exact hG9) hK9;exact⟨gg,cap,w9,hap,hb9,hW9,fun v m xs hg=>hg.u8_after h.gs.own hK9 hb9 _ hW9.gs.kp⟩
theorem Wo8.setNew{w W0 W:World}{yb yr yn bS:Nat}{lim o n:Int}{ov:Value}{l':List He8}{v':Value}(h0:Wo8 w W0 yb yr yn bS lim o n ov l' v')(h:Wo8 w W yb yr yn bS lim o n ov l' v'){y i:Nat}(hy:W0.heap.size<=y)(u:Value):Wo8 w (W.setCell ⟨y,i,none⟩ u) yb yr yn bS lim o n ov l' v':=by
 have k:Kt (fun z=>z=y) W (W.setCell ⟨y,i,none⟩ u):=(Kt.refl (fun z=>z=y) W).setCell (p:=⟨y,i,none⟩) rfl _;have e1:=lH h0.bx;have e2:=lH h0.ob;have e3:=lH h0.rb;refine⟨h.gs.setBox u (Nat.le_trans h0.gs.kp.size hy) (fun e=>?_),(k.block _ (lH h.bx) (by omega)).trans h.bx,(k.block _ (lH h.ob) (by omega)).trans h.ob,(k.block _ (lH h.rb) (by omega)).trans h.rb⟩;have:=(World.ownsRow.lt h0.gs.own y e).2;omega
theorem pV{W:World}{b y i j:Nat}{u v:Value}(h:W.cell? ⟨b,i,none⟩=some u)(hne:b≠y):(W.setCell ⟨y,j,none⟩ v).cell? ⟨b,i,none⟩=some u:=((Kt.refl (fun z=>z=y) W).setCell (p:=⟨y,j,none⟩) rfl v).cell (p:=⟨b,i,none⟩) hne h
theorem WQ(f:Nat->Nat)(d q:Nat)(g:Nat->Nat):(fun j=>if j=d+q then g q else M.upd f d q g j)=M.upd f d (q+1) g:=by
 funext j
 unfold M.upd;by_cases e:j=d+q
 ·subst e;rw[if_pos rfl,if_pos ⟨by omega,by omega⟩,show d+q-d=q by omega]
 ·rw[if_neg e];by_cases h:d<=j/\j<d+q
  ·rw[if_pos h,if_pos ⟨h.1,by omega⟩]
  ·rw[if_neg h,if_neg (fun h2=>h ⟨h2.1,by omega⟩)]
theorem yU(bS:Nat)(lim o nr:Int)(v:Value)(l:List He8)(i:Nat)(h:He8)(hi:l[i]?=some h)(p n:Nat)(hn0 : 0<n)(hp:p<18446744073709551616)(h1:h.p<=p)(h2:p-h.p+n<=h.s)(aa:Option Addr)(ac:Nat)(ga:Nat->Nat)(w:World)(hA:M.Bytes w (.slice aa n ac) n ga)(hB:BK8 w v l):
  Calls prog 205 #[aK bS lim o nr v,.int .i64 i,.int .u64 p,.slice aa n ac] w fun e w'=>∃ u x,e=.returned (aK bS lim o nr u)/\GS w w' 164 3 u l.length (dT (l.set i x))/\Pu8 w w' h (M.upd h.f (p-h.p) n ga) x:=by
 have hbd:=hB.bd h (List.mem_of_getElem? hi);have hln:=hB.ln;have hil:i<l.length:=(List.getElem?_eq_some_iff.1 hi).1;obtain⟨va,vc,rfl⟩:=hB.val;have K0:=((Kt.refl nO w).alloc (aM bS lim o nr (.slice va l.length vc)));have X0:=(nH w (aM bS lim o nr (.slice va l.length vc)));obtain⟨w1,hw1⟩:=xe (w.alloc (aM bS lim o nr (.slice va l.length vc)));have s1:w1.heap.size=w.heap.size+1:=by rw[hw1];simp
 rw[<-hw1] at K0 X0;have K1:=(Kt.refl nO w1).alloc cC;have X1:=nH w1 cC;obtain⟨w2,hw2⟩:=xe (w1.alloc cC);have s2:w2.heap.size=w.heap.size+1+1:=by rw[hw2];simp[s1]
 rw[<-hw2] at K1 X1;have K2:=(Kt.refl nO w2).alloc (aM bS lim o nr (.slice none 0 0));have X2:=nH w2 (aM bS lim o nr (.slice none 0 0));have L0:=aA (show Wo8 w (w2.alloc (aM bS lim o nr (.slice none 0 0))) w.heap.size w1.heap.size w2.heap.size bS lim o nr (.slice va l.length vc) [] (.slice none 0 0)from⟨GS.nil _ _ _ _ (nT (nT K0 K1) K2),X2,bK X0 (nT K1 K2),(K2.block _ (lH X1) id).trans X1⟩);rw[s1,s2,hw2,hw1] at L0;have HB:=aA hB;have HA:=aA hA;clear hB hA X0 X1 X2 K0 K1 K2 s1 s2 hw2 hw1 w2 w1;obtain⟨m,hm⟩:=xe (l.length);have HM:=aA hm;rw[<-hm] at L0 HB hln hil ⊢;clear hm;obtain⟨d,hd⟩:=xe (p-h.p);rw[<-hd] at h2 ⊢;have hdi:(p:Int)-(h.p:Int)=d:=by omega
 have hdw:IntKind.u64.wrap (d:Int)=d:=by rw[wrap_u64];omega
 have hdv:IntKind.i64.wrap (d:Int)=d:=by rw[IntKind.wrap_i64];omega
 clear hd;obtain⟨s0,s1,s2,s3,s4,sf⟩:=aD L0.out.bx;obtain⟨b0,b1,b2,b3,b4,bf⟩:=aD L0.out.ob;go_enter func205,ntmps205;go_wp2_with fail;obtain⟨yb,hyb⟩:∃ y,y=w.heap.size:=⟨_,rfl⟩;obtain⟨yr,hyr⟩:∃ y,y=w.heap.size+1:=⟨_,rfl⟩;obtain⟨yn,hyn⟩:∃ y,y=w.heap.size+1+1:=⟨_,rfl⟩;have HY:=aA (show w.heap.size<=yn/\yb≠yn/\yr≠yn/\w.heap.size<=yr from⟨by omega,by omega,by omega,by omega⟩);rw[<-hyn,<-hyr,<-hyb] at L0;rw[<-hyn,<-hyr,<-hyb];clear hyn hyr hyb s0 s1 s2 s3 s4 sf b0 b1 b2 b3 b4 bf;go_loopw [10] (fun j W=>∃ (k:Nat) (u:Value) (x:He8),k<=m/\j=.int .i64 k/\Hid (Wo8 w W yb yr yn bS lim o nr (.slice va m vc) ((l.set i x).take k) u/\(i<k->Pu8 w W h (M.upd h.f d n ga) x))) (fun j _=>m-(intOf j).toNat)
 case atStart=>exact⟨0,_,h,Nat.zero_le _,rfl,aA ⟨by rw[List.take_zero];exact L0.out,fun e=>by omega⟩⟩
 case round=>
  clear L0;obtain⟨k,u,x,hk,rfl,hQ⟩:=hrel;obtain⟨s0,s1,s2,s3,s4,sf⟩:=aD hQ.out.1.bx;obtain⟨b0,b1,b2,b3,b4,bf⟩:=aD hQ.out.1.ob;obtain⟨ua,uc,rfl⟩:=eR hQ.out.1.gs.own;have hlen:((l.set i x).take k).length=k:=by rw[List.length_take,List.length_set,<-HM.out];omega
  rw[hlen] at s4;by_cases hlt:k<m
  ·have hki:(k:Int)<m:=(by omega);have hkl:k<l.length:=(by rw[<-HM.out];exact hlt);obtain⟨b,hb⟩:∃ b,l[k]?=some b:=⟨_,List.getElem?_eq_getElem hkl⟩;obtain⟨g,rfl,c0,c1,c2⟩:=(HB.out.keep hQ.out.1.gs.kp).get HM.out hb;obtain⟨ba,bc,hbv,hbc⟩:=HB.out.cp b (List.mem_of_getElem? hb);rw[hbv] at c2;by_cases hki2:k=i
   ·subst hki2;have hbh:b=h:=by
     rw[hb] at hi;injection hi
    subst hbh;have KX:=(Kt.refl nO wr).alloc (eY b.p b.s (.slice ba b.s bc));have X1:=nH wr (eY b.p b.s (.slice ba b.s bc));obtain⟨x0,x1,x2⟩:=bQ X1;have CO:=aA (tZ (.slice ba b.s bc) b.s (by omega) b.f (wr.alloc (eY b.p b.s (.slice ba b.s bc))) (by
     have:=(HB.out.bt b (List.mem_of_getElem? hb)).keep (cH (nT hQ.out.1.gs.kp KX));rw[hbv] at this;exact this))
    rw[hlen] at hQ;have HQ:=aA (And.intro hQ.out.1 (And.intro hlen (And.intro hb hbv)));have X1:=aA X1;have KX:=aA KX;clear hQ hlen hb hbv hi;go_wp2_with fail;refine CO.out.mono ?_;rintro e w3 ⟨xa,xc,rfl,hG3,hnew3⟩;have hK3:=hG3.kp;have X3:=oV X1.out hK3;obtain⟨y0,y1,y2⟩:=bQ X3;have yf:∀ j,w3.frozen? ⟨wr.heap.size,j,none⟩=false:=fun j=>by simp[World.frozen?,X3]
    clear x0 x1 x2 s0 s1 s2 s3 s4 sf b0 b1 b2 b3 b4 bf c0 c1 c2;go_wp2_with fail;obtain⟨g',rfl,_⟩:=gW hG3.own (show(M.byteVs b.s b.f)[0]?=some (.int .u8 ((b.f 0:Nat):Int))by
     have : 0<b.s:=(by omega);simp[M.byteVs,this])
    have hw3:=HQ.out.1.setNew (HQ.out.1.keep (nT KX.out hK3)) (y:=wr.heap.size) (i:=2) (Nat.le_refl _) (.slice (some ⟨g',0,none⟩) b.s xc);have hX3:(w3.setCell ⟨wr.heap.size,2,none⟩ (.slice (some ⟨g',0,none⟩) b.s xc)).heap[wr.heap.size]?=some (eY b.p b.s (.slice (some ⟨g',0,none⟩) b.s xc)):=by
     have:=bB X3 2 (.slice (some ⟨g',0,none⟩) b.s xc);simpa using this
    have hkw:Kt nO w (wr.alloc (eY b.p b.s (.slice ba b.s bc))):=nT HQ.out.1.gs.kp KX.out;have hgn:w.heap.size<=g':=Nat.le_trans hkw.size (hnew3 g' rfl);have G0:=(hG3.old8 hkw).setBox (y:=wr.heap.size) (i:=2) (.slice (some ⟨g',0,none⟩) b.s xc) HQ.out.1.gs.kp.size (fun e=>by
     obtain⟨cs',hcs⟩:=cB hG3.own e;exact absurd (bM hcs X3) (by decide))
    have HGN:=aA hgn;have R0:=aA (And.intro hw3 (And.intro hX3 (show GS w _ 5 1 (.slice (some ⟨g',0,none⟩) b.s xc) b.s (M.byteVs b.s (M.upd b.f d 0 ga))from by
     have:M.upd b.f d 0 ga=b.f:=by
      funext j
      unfold M.upd;rw[if_neg (by omega)]
     rw[this];exact G0)))
    clear hw3 hX3 hkw hgn hnew3 G0 hG3 hK3 X3 y0 y1 y2 yf CO X1 KX;generalize wr.heap.size=yx at *;go_loopw [12] (fun j W=>∃ q:Nat,q<=n/\j=.int .i64 q/\Hid (Wo8 w W yb yr yn bS lim o nr (.slice (some ⟨g,0,none⟩) m vc) ((l.set k x).take k) (.slice ua k uc)/\W.heap[yx]?=some (eY b.p b.s (.slice (some ⟨g',0,none⟩) b.s xc))/\GS w W 5 1 (.slice (some ⟨g',0,none⟩) b.s xc) b.s (M.byteVs b.s (M.upd b.f d q ga)))) (fun j _=>n-(intOf j).toNat)
    case atStart=>exact⟨0,Nat.zero_le _,rfl,R0⟩
    case round=>
     clear R0;obtain⟨q,hq,rfl,hR⟩:=hrel;have hR2:=hR.out.2.2;by_cases hqn:q<n
     ·have hqi:(q:Int)<n:=(by omega);obtain⟨_,_,_,eaw,hAw⟩:=HA.out;obtain⟨_,aa',ac',ea,hA2⟩:=HA.out.keep (cH hR.out.1.gs.kp);injection ea with ea1 ea2 ea3
      subst ea1 ea3;obtain⟨aad,rfl,-,hac⟩:=hA2.resolve_left (by omega);obtain⟨ab,ao,rfl⟩:=M.addr_plain (hac 0 (by omega));have hag:ab≠g':=by
       injection eaw with eaw
       subst eaw;obtain⟨_,e2,hlt2,_⟩:=hAw.resolve_left (by omega);injection e2 with e2
       subst e2;have hlt3:ab<w.heap.size:=hlt2;have:=HGN.out;omega
      clear eaw hAw;have a1:=hac q hqn;rw[Addr.add_lit] at a1;obtain⟨ed,hed⟩:=xe (d+q);have hg2:(M.byteVs b.s (M.upd b.f d q ga))[ed]?=some (.int .u8 ((M.upd b.f d q ga ed:Nat):Int)):=by
       have:ed<b.s:=by omega
       simp[M.byteVs,this]
      obtain⟨g2,eg,o1⟩:=gW hR2.own hg2;injection eg with eg
      injection eg with eg
      subst eg;obtain⟨cs',hcs⟩:=cB hR2.own (y:=g') rfl;have of':wr.frozen? ⟨g',ed,none⟩=false:=(by simp[World.frozen?,hcs]);obtain⟨y0,y1,y2⟩:=bQ hR.out.2.1;have hyg:yx≠g':=fun e=>by
       subst e;exact absurd (bM hcs hR.out.2.1) (by decide)
      have E9:=aA (show Wo8 w (wr.setCell ⟨g',ed,none⟩ (.int .u8 ((ga q:Nat):Int))) yb yr yn bS lim o nr (.slice (some ⟨g,0,none⟩) m vc) ((l.set k x).take k) (.slice ua k uc)/\(wr.setCell ⟨g',ed,none⟩ (.int .u8 ((ga q:Nat):Int))).heap[yx]?=some (eY b.p b.s (.slice (some ⟨g',0,none⟩) b.s xc))/\GS w (wr.setCell ⟨g',ed,none⟩ (.int .u8 ((ga q:Nat):Int))) 5 1 (.slice (some ⟨g',0,none⟩) b.s xc) b.s (M.byteVs b.s (M.upd b.f d (q+1) ga))from⟨hR.out.1.setU8 hcs HGN.out _,?_,by rw[<-WQ,<-hed];exact hR2.setU8 HGN.out (by omega) (ga q)⟩)
      ·have hdq:(d:Int)+(q:Int)=ed:=(by omega);have hdq2:IntKind.i64.wrap (ed:Int)=ed:=(by rw[IntKind.wrap_i64];omega);have hdql:(ed:Int)<b.s:=(by omega);clear hR hR2 hA2 hac hg2 hcs HQ HB hed;go_upto_region 11 with fail;have y0s:(wr.setCell ⟨g',ed,none⟩ (.int .u8 ((ga q:Nat):Int))).drew.cell? ⟨yx,0,none⟩=some (.int .u64 b.p):=pV y0 hyg;have y2s:(wr.setCell ⟨g',ed,none⟩ (.int .u8 ((ga q:Nat):Int))).drew.cell? ⟨yx,2,none⟩=some (.slice (some ⟨g',0,none⟩) b.s xc):=pV y2 hyg;have a1s:(wr.setCell ⟨g',ed,none⟩ (.int .u8 ((ga q:Nat):Int))).drew.cell? ⟨ab,ao+q,none⟩=some (.int .u8 ((ga q:Nat):Int)):=pV a1 hag;have y0:wr.drew.cell? ⟨yx,0,none⟩=some (.int .u64 b.p):=y0;have y2:wr.drew.cell? ⟨yx,2,none⟩=some (.slice (some ⟨g',0,none⟩) b.s xc):=y2;have a1:wr.drew.cell? ⟨ab,ao+q,none⟩=some (.int .u8 ((ga q:Nat):Int)):=a1;have o1:wr.drew.cell? ⟨g',ed,none⟩=some (.int .u8 ((M.upd b.f d q ga ed:Nat):Int)):=o1;have of2:wr.drew.frozen? ⟨g',ed,none⟩=false:=of';go_region_held3 (fun w'=>w'.cell? ⟨yx,0,none⟩=some (.int .u64 b.p)/\w'.cell? ⟨yx,2,none⟩=some (.slice (some ⟨g',0,none⟩) b.s xc)/\w'.cell? ⟨ab,ao+q,none⟩=some (.int .u8 ((ga q:Nat):Int))) (((try dsimp only);(repeat' apply And.intro) <;> first|with_reducible assumption|with_reducible exact pV (by with_reducible assumption) (by with_reducible assumption))) (fail)
       all_goals (go_wp2_with fail;exact⟨⟨q+1,by omega,by simp,aA ⟨E9.out.1.keep ((Kt.refl nO _).drew),E9.out.2.1,E9.out.2.2.keep ((Kt.refl nO _).drew)⟩⟩,by simp[intOf];omega⟩)
      ·exact(((Kt.refl (fun z=>z=g') wr).setCell (p:=⟨g',ed,none⟩) rfl (.int .u8 ((ga q:Nat):Int))).block _ (lH hR.out.2.1) (fun e=>by
        subst e;exact absurd (bM hcs hR.out.2.1) (by decide))).trans hR.out.2.1
     ·obtain rfl:q=n:=(by omega);have hqq:¬(q:Int)<q:=(by omega);obtain⟨gg,cap,w9,hap,hb9,hW9,hu9⟩:=hR.out.1.app HQ.out.2.1.symm (by omega) HY.out.1 HY.out.2.1 HY.out.2.2.1 ⟨b.p,b.s,.slice (some ⟨g',0,none⟩) b.s xc,M.upd b.f d q ga⟩ rfl;have hset:(l.set k x).take k ++ [⟨b.p,b.s,.slice (some ⟨g',0,none⟩) b.s xc,M.upd b.f d q ga⟩]=(l.set k ⟨b.p,b.s,.slice (some ⟨g',0,none⟩) b.s xc,M.upd b.f d q ga⟩).take (k + 1):=by
       rw[zfK (Nat.le_refl k) x ⟨b.p,b.s,.slice (some ⟨g',0,none⟩) b.s xc,M.upd b.f d q ga⟩];exact(JA (by rw[List.getElem?_set_self hkl])).symm
      rw[hset] at hW9;have E9:=aA (And.intro hW9 (show k<k+1->Pu8 w _ b (M.upd b.f d q ga) ⟨b.p,b.s,.slice (some ⟨g',0,none⟩) b.s xc,M.upd b.f d q ga⟩from fun _=>⟨rfl,rfl,rfl,hu9 _ _ _ hR2,fun g e=>by
       have:=HGN.out;simp[Value.ownBlock] at e;omega⟩))
      have HAP:=aA hap;obtain⟨q0,q1,q2,q3,q4,qf⟩:=aD hR.out.1.bx;obtain⟨t0,t1,t2,t3,t4,tf⟩:=aD hb9;obtain⟨y0,y1,y2⟩:=bQ hR.out.2.1;clear hap hW9 hb9 hu9 hset hR hR2 HQ HB;go_wp2_with (at_builtin;refine Lib.wpList_append_run _ rfl _ _ _ _ rfl (.slice ua k uc) (.slice (some ⟨wr.heap.size,0,none⟩) 1 1) rfl rfl _ _ (HAP.out _) ?_)
      exact⟨⟨k+1,_,_,by omega,by simp,E9⟩,by simp[intOf];omega⟩
   ·have hkid:¬(k:Int)=i:=(by omega);have KX:=(Kt.refl nO wr).alloc (eY b.p b.s (.slice ba b.s bc));obtain⟨x0,x1,x2⟩:=bQ (nH wr (eY b.p b.s (.slice ba b.s bc)));have hbx:(l.set i x)[k]?=some b:=(by rw[List.getElem?_set_ne (by omega)];exact hb);rw[hlen] at hQ;obtain⟨gg,cap,w9,hap,hb9,hW9,hu9⟩:=(hQ.out.1.keep KX).app hlen.symm (by omega) HY.out.1 HY.out.2.1 HY.out.2.2.1 b hbv;rw[<-JA hbx] at hW9;have E9:=aA (And.intro hW9 (show i<k+1->Pu8 w _ h (M.upd h.f d n ga) x from fun e=>by
     have P:=hQ.out.2 (by omega);exact⟨P.p,P.s,P.f,hu9 _ _ _ (P.b.keep KX),P.nw⟩))
    rw[show(wr.alloc (eY b.p b.s (.slice ba b.s bc))).heap.size=wr.heap.size+1 by simp] at hap;have HAP:=aA hap;obtain⟨q0,q1,q2,q3,q4,qf⟩:=aD (hQ.out.1.keep KX).bx;obtain⟨t0,t1,t2,t3,t4,tf⟩:=aD hb9;clear hap hW9 hb9 hu9 hb hbv hbx hQ hlen;obtain⟨bp,bs,bv,bf'⟩:=b;dsimp only at *;go_wp2_with (at_builtin;refine Lib.wpList_append_run _ rfl _ _ _ _ rfl (.slice ua k uc) (.slice (some ⟨wr.heap.size+1,0,none⟩) 1 1) rfl rfl _ _ (HAP.out _) ?_)
    exact⟨⟨k+1,_,x,by omega,by simp,E9⟩,by simp[intOf];omega⟩
  ·obtain rfl:k=m:=(by omega);have hkk:¬(k:Int)<k:=(by omega);have hL:=hQ.out.1;have P:=hQ.out.2 hil;rw[List.take_of_length_le (by rw[List.length_set,<-HM.out];exact Nat.le_refl _)] at hL;rw[List.length_set,<-HM.out] at hL;obtain⟨z0,z1,z2,z3,z4,zf⟩:=dE hL.rb;have hgs:=hL.gs;rw[List.length_set,<-HM.out] at hgs;have D:=aA (And.intro (hgs.set5 (y:=yr) (.int .u64 bS) (.int .i64 lim) (.int .i64 o) (.int .i64 nr) (.slice ua k uc) HY.out.2.2.2 (fun e=>by
    obtain⟨cs',hcs⟩:=cB hgs.own e;exact absurd (bM hcs hL.rb) (by decide))) (show Pu8 w _ h (M.upd h.f d n ga) x from⟨P.p,P.s,P.f,P.b.set5 (y:=yr) (.int .u64 bS) (.int .i64 lim) (.int .i64 o) (.int .i64 nr) (.slice ua k uc) HY.out.2.2.2 (fun e=>by
     obtain⟨cs',hcs⟩:=cB P.b.own e;exact absurd (bM hcs hL.rb) (by decide)),P.nw⟩))
   obtain⟨r0,r1,r2,r3,r4,rf⟩:=aD (dM (bS:=bS) (lim:=lim) (o:=o) (n:=nr) (v:=.slice ua k uc) hL.rb);clear hQ hL P hgs hlen;go_wp2_with fail;exact⟨rfl,aK bS lim o nr (.slice ua k uc),by simp[results,results205,go_sem,r0,r1,r2,r3,r4],_,rfl,x,D.out⟩
end Go.Proofs.YtbgbfpklgfpepaaGreatDoor
