import Derived.Test.YtbgbfpklgfpepaaGreatDoorXk
set_option maxRecDepth 1000000
set_option maxHeartbeats 80000000
namespace Go.Proofs.YtbgbfpklgfpepaaGreatDoor
open Tryz
open Go.RowKit
set_option linter.unusedVariables false
def NF(x:Bx)(fr:Nat->List Nat)(S:Sb)(r:Nat):Prop:=(∃ k,k<8/\r=aC k/\S.pl k=[]/\∀ a,a<=x.o->fr a=[])\/(∃ k,k<=x.o/\r=4096*2 ^ k/\∀ a,k<=a->a<=x.o->fr a=[])
inductive Td(x:Bx)(t:Bt)(fr:Nat->List Nat)(ls:List (Nat×Nat))(S:Sb)(r:Nat)(d:Bool)(p:Nat)(b:Bool)(fr':Nat->List Nat)(ls':List (Nat×Nat))(S':Sb):Prop where
 | old (k g i:Nat) (l rr:List Nat) (hk:k<8) (hr:r=aC k) (hl:S.pl k=g :: l) (hf:S.fl g=i :: rr) (hp:p=aO x g k i) (hb:b=false) (e1:fr'=fr) (e2:ls'=ls) (e3:S'=bC S g k rr)
 | new (k g:Nat) (hk:k<8) (hr:r=aC k) (hl:S.pl k=[]) (hp:p=aO x g k 0) (nd:Ned x t fr d g b fr') (e2:ls'=ls ++ [(g,0)]) (e3:S'=bC (bL S g k) g k (List.range' 1 (aH k-1)))
 | here (k g j:Nat) (l:List Nat) (hk:k<=x.o) (hr:r=4096*2 ^ k) (hkj:k<=j) (hj:j<=x.o) (hz:∀ a,k<=a->a<j->fr a=[]) (hl:fr j=g :: l) (hp:p=ad x g) (hb:b=false) (e1:fr'=dA (cI fr j (M.dropL (fr j) g)) g j k) (e2:ls'=ls ++ [(g,k)]) (e3:S'=S)
 | grew (k:Nat) (hk:k<=x.o) (hr:r=4096*2 ^ k) (hz:∀ a,k<=a->a<=x.o->fr a=[]) (hp:p=ad x t.m.n) (hb:b=true) (e1:fr'=dA fr t.m.n x.o k) (e2:ls'=ls ++ [(t.m.n,k)]) (e3:S'=S)
structure Nx(w W W':World)(hb sb lw:Nat)(x:Bx)(t:Bt)(ls:List (Nat×Nat))(S:Sb)(s:Int)(x':Bx)(t':Bt)(fr':Nat->List Nat)(ls':List (Nat×Nat))(S':Sb):Prop where
 H:HW w W' hb sb lw x' t' fr' ls' S' s
 ch:Ch x t ls S x' t' ls' S'
 kp:Kt (bG x sb) W W'
 ns:∀ y,bG x' sb y->bG x sb y\/W.heap.size<=y
inductive Tq(w W:World)(hb sb lw:Nat)(x:Bx)(t:Bt)(fr:Nat->List Nat)(ls:List (Nat×Nat))(S:Sb)(s:Int)(r:Nat)(d:Bool)(p:Nat)(er:Int)(w':World):Prop where
 | no (hp:p=0) (he:er=2) (nf:NF x fr S r) (hd:d=true\/x.n=x.lim*x.R) (kp:Kt nO W w')
 | yes (x':Bx) (t':Bt) (fr':Nat->List Nat) (ls':List (Nat×Nat)) (S':Sb) (b:Bool) (he:er=0) (td:Td x t fr ls S r d p b fr' ls' S') (nx:Nx w W w' hb sb lw x t ls S s x' t' fr' ls' S') (hL:∀ a z,aG x' ls' S' a z↔aG x ls S a z\/(a=p/\z=r)) (hN:∀ z,¬aG x ls S p z) (hn:x'.n=(if b=true then x.n+x.R else x.n)) (hm:p%r=0) (hb1:b=true->NF x fr S r/\d=false/\x.n+x.R<=x.lim*x.R) (hb2:b=false->¬NF x fr S r)
abbrev sD(p:Nat)(g:Bool)(er:Int):Ending:=.returned (.tuple #[.int .u64 p,.bool g,.int .i64 er])
theorem rC{k j:Nat}(h:aC k=aC j):k=j:=by
 unfold aC at h;exact DJ _ _ (Nat.eq_of_mul_eq_mul_left (show 0<16 by decide) h)
theorem PV{k j:Nat}(h : 4096*2 ^ k=4096*2 ^ j):k=j:=DJ _ _ (Nat.eq_of_mul_eq_mul_left (show 0<4096 by decide) h)
theorem pM{k j:Nat}(hk:k<8):aC k≠4096*2 ^ j:=fun e=>by
 have:=(bU hk).2;have : 0<2 ^ j:=Nat.pow_pos (by decide);omega
theorem NF.cell{x fr S k}(hk:k<8):NF x fr S (aC k)↔S.pl k=[]/\∀ a,a<=x.o->fr a=[]:=by
 constructor
 ·rintro (⟨j,h1,h2,h3⟩|⟨j,h1,h2,h3⟩)
  ·obtain rfl:=rC h2;exact h3
  ·exact absurd h2 (pM hk)
 ·exact fun h=>.inl ⟨k,hk,rfl,h⟩
theorem NF.page{x:Bx}{fr S k}(hk:k<=x.o):NF x fr S (4096*2 ^ k)↔∀ a,k<=a->a<=x.o->fr a=[]:=by
 constructor
 ·rintro (⟨j,h1,h2,h3⟩|⟨j,h1,h2,h3⟩)
  ·exact absurd h2.symm (pM h1)
  ·obtain rfl:=PV h2;exact h3
 ·exact fun h=>.inr ⟨k,hk,rfl,h⟩
theorem yC{b k i p:Nat}(hk:k<8)(hb:b%4096=0):(b+4096*p+i*aC k)%aC k=0:=by
 have hc:=(dV hk).1;have h1:b=b/4096*(aH k*aC k):=by rw[hc];omega
 rw[h1,show 4096*p=p*(aH k*aC k)by rw[hc];omega,<-Nat.mul_assoc,<-Nat.mul_assoc,<-Nat.add_mul,<-Nat.add_mul];exact Nat.mul_mod_left _ _
theorem SO.pnone8{w W sb lw x t fr ls S h}(o:SO w W sb lw x t fr ls S h){q:Nat}(hc:S.c q=none):x.P q=none:=by
 rw[o.si.eP];exact lZ hc
section
variable {w W W':World} {hb sb lw:Nat} {x:Bx} {t:Bt} {fr:Nat->List Nat} {ls:List (Nat×Nat)} {S:Sb} {s:Int}
theorem HW.take_small(H:HW w W hb sb lw x t fr ls S s){k:Nat}(hk:k<8)(d:Bool):
  Calls prog 92 #[.pointer (some ⟨sb,0,none⟩),.int .i64 k,.bool d] W fun e w'=>∃ p g er,e=sD p g er/\Tq w W hb sb lw x t fr ls S s (aC k) d p er w':=by
 obtain⟨h,o⟩:=H.so;have hz:=bU hk;refine(ZE o (k:Int) d).mono fun e w' hT=>?_
 cases hT with
 | bad hc=>exact absurd ⟨by omega,by omega⟩ hc
 | stuck k2 hk2 hc hl hz2 hd he kp=>
  obtain rfl:k=k2:=by omega
  exact⟨0,false,2,he,.no rfl rfl ((NF.cell hk).2 ⟨hl,hz2⟩) hd kp⟩
 | old k2 p i l r hk2 hc hl hf he so kp=>
  obtain rfl:k=k2:=by omega
  obtain⟨P,m',h',so',hn⟩:=so;have hcp:=((o.si.pm k hk p).1 (by rw[hl];exact List.mem_cons_self)).1;have hL:∀ a z,aG { x with P:=P } ls (bC S p k r) a z↔aG x ls S a z\/(a=aO x p k i/\z=aC k):=fun a z=>by
   rw[qE (x:=x) (x':={ x with P:=P }) rfl];exact VA o hcp hf a z
  have ch:Ch x t ls S { x with P:=P } { t with m:=m' } ls (bC S p k r):=⟨rfl,rfl,rfl,rfl,fun j _ _=>rfl⟩;refine⟨aO x p k i,false,0,he,.yes _ _ _ _ _ false rfl (.old k p i l r hk rfl hl hf rfl rfl rfl rfl rfl) ⟨H.call so' (fI.old o H.lv hk hl hf) ch kp,ch,kp,fun y e=>.inl e⟩ hL (o.free_no hcp (by rw[hf];exact List.mem_cons_self)) rfl (yC hk o.bm) (fun e=>by cases e) (fun _ e=>?_)⟩;have:=((NF.cell hk).1 e).1;rw[hl] at this
  cases this
 | new k2 p b hk2 hc hl he so hcp nl kp=>
  obtain rfl:k=k2:=by omega
  obtain⟨x',t',fr',h',hN,so',sm,hfb,nb,htn,hxn'⟩:=so;have hL:∀ a z,aG x' (ls ++ [(p,0)]) (bC (bL S p k) p k (List.range' 1 (aH k-1))) a z↔aG x ls S a z\/(a=aO x p k 0/\z=aC k):=fun a z=>by
   rw[qE (x:=x) (x':=x') sm.bS];exact UZ hk hcp nl a z
  have hno:∀ z,¬aG x ls S (aO x p k 0) z:=fun z e=>by
   have h0 : 0<z:=(o.span e).1;obtain⟨_,q,j,q1,q2,q3⟩:=o.span e;have hz2 : 0<2 ^ j:=Nat.pow_pos (by decide);unfold aO at q2 q3;unfold ad at q2 q3;rcases so'.apart (List.mem_append_left _ q1) (List.mem_append_right ls (List.mem_singleton.2 rfl))with ⟨e3,e4⟩|e3|e3
   ·subst e3;exact nl _ q1
   ·omega
   ·rw[Nat.pow_zero] at e3;omega
  have ch:Ch x t ls S x' t' (ls ++ [(p,0)]) (bC (bL S p k) p k (List.range' 1 (aH k-1))):=⟨sm.bS,sm.R,sm.lim,sm.o,fun j h1 _=>hfb j (o.byte h1)⟩;refine⟨aO x p k 0,b,0,he,.yes _ _ _ _ _ b rfl (.new k p hk rfl hl rfl hN rfl rfl) ⟨H.call so' (H.lv.new hk) ch kp,ch,kp,fun y e=>e.elim (fun e=>(nb y e).imp (fun e=>.inl e) id) (fun e=>.inl (.inr e))⟩ hL hno hxn' (yC hk o.bm) (fun e=>?_) (fun e hf=>?_)⟩
  ·cases hN with
   | here j l2 hj hz2 hp hb=>rw[hb] at e;cases e
   | grew hz2 hd hle hb hp=>exact⟨(NF.cell hk).2 ⟨hl,hz2⟩,hd,hle⟩
  ·cases hN with
   | here j l2 hj hz2 hp hb=>
    have:=((NF.cell hk).1 hf).2 j hj;rw[hp] at this
    cases this
   | grew hz2 hd hle hb hp=>rw[hb] at e;cases e
theorem HW.need_big(H:HW w W hb sb lw x t fr ls S s){k:Nat}(hk:k<=x.o)(d:Bool):
  Calls prog 94 #[.pointer (some ⟨lw,0,none⟩),.int .i64 k,.bool d] W fun e w'=>∃ p g er,e=sD p g er/\Tq w W hb sb lw x t fr ls S s (4096*2 ^ k) d p er w':=by
 obtain⟨h,o⟩:=H.so;have hz : 0<2 ^ k:=Nat.pow_pos (by decide);have key:∀ (p:Nat) (b:Bool) (x':Bx) (t':Bt) (fr':Nat->List Nat) (e:Ending) (w':World),e=.returned (.tuple #[.int .u64 ((ad x p:Nat):Int),.bool b,.int .i64 0])->PO w w' lw x' t' fr' (ls ++ [(p,k)])->Sm x x'->BK t t' ls (ls ++ [(p,k)])->Nb W x x'->Kt (aE x) W w'->S.c p=none->(∀ i,(p,i) ∉ ls)->x'.n=(if b=true then x.n + x.R else x.n)->Td x t fr ls S (4096*2 ^ k) d (ad x p) b fr' (ls ++ [(p,k)]) S->(b=true->NF x fr S (4096*2 ^ k)/\d=false/\x.n + x.R<=x.lim*x.R)->(b=false->¬NF x fr S (4096*2 ^ k))->∃ p g er,e=sD p g er/\Tq w W hb sb lw x t fr ls S s (4096*2 ^ k) d p er w':=by
  rintro p b x' t' fr' e w' he po' sm bk nb kp hcp nl hxn td h1 h2;have o':=o.pool po' sm bk (fun a c ha=>List.mem_append_left _ (o.mem ha).1) kp;have hL:∀ a z,aG x' (ls ++ [(p,k)]) S a z↔aG x ls S a z\/(a=ad x p/\z=4096*2 ^ k):=fun a z=>by
   rw[qE (x:=x) (x':=x') sm.bS];exact FU hcp a z
  have hal:p%2 ^ k=0:=(o'.al (List.mem_append_right ls (List.mem_singleton.2 rfl))).2.1;have hno:∀ z,¬aG x ls S (ad x p) z:=fun z e=>by
   have h0 : 0<z:=(o.span e).1;obtain⟨_,q,j,q1,q2,q3⟩:=o.span e;have hz2 : 0<2 ^ j:=Nat.pow_pos (by decide);unfold ad at q2 q3;rcases o'.apart (List.mem_append_left _ q1) (List.mem_append_right ls (List.mem_singleton.2 rfl))with ⟨e3,e4⟩|e3|e3
   ·subst e3;exact nl _ q1
   ·omega
   ·omega
  have ch:Ch x t ls S x' t' (ls ++ [(p,k)]) S:=⟨sm.bS,sm.R,sm.lim,sm.o,fun j h1 h2=>bk j (o.byte h1) (o'.byte h2)⟩;have kp2:Kt (bG x sb) W w':=kp.mono (fun _ _ e=>.inl e);refine⟨ad x p,b,0,he,.yes x' t' fr' _ S b rfl td ⟨H.call o' H.lv ch kp2,ch,kp2,fun y e=>e.elim (fun e=>(nb y e).imp (fun e=>.inl e) id) (fun e=>.inl (.inr e))⟩ hL hno hxn ?_ h1 h2⟩;have hR:=o.sw.pl.bd.hR;have h1 : 4096*2 ^ k ∣ x.bS:=Nat.dvd_trans (by rw[hR];exact Nat.mul_dvd_mul_left _ (Nat.pow_dvd_pow 2 hk)) (Nat.dvd_of_mod_eq_zero H.br);have h2 : 4096*2 ^ k ∣ 4096*p:=Nat.mul_dvd_mul_left _ (Nat.dvd_of_mod_eq_zero hal);exact Nat.mod_eq_zero_of_dvd (Nat.dvd_add h1 h2)
 refine(K.Need_any o.po (k:Int) d).mono fun e w' hN=>?_
 cases hN with
 | bad hb he kp=>
  exfalso
  rw[SG hk] at hb
  cases hb
 | stuck i hi hi2 hz2 hd he kp=>
  obtain rfl:k=i:=by omega
  exact⟨0,false,2,he,.no rfl rfl ((NF.page hk).2 hz2) hd kp⟩
 | here i j p l hi hi2 hij hj hz2 hp he hs kp=>
  obtain rfl:k=i:=by omega
  obtain⟨t',po',hn,bk⟩:=hs;have hcp:S.c p=none:=by
   have h1:=o.sf.pfree hj (show p∈fr j by rw[hp];exact List.mem_cons_self)
   cases e:S.c p with
   | none=>rfl
   | some c=>
    rw[o.si.eP,lY e] at h1
    cases h1
  refine key p false x t' _ e w' he po' (Sm.refl x) bk (fun y e=>.inl e) kp hcp (fun i hm2=>?_) rfl (.here k p j l hk rfl hij hj hz2 hp rfl rfl rfl rfl rfl) (fun e=>by cases e) (fun _ e=>?_)
  ·have h0:=o.sf.apart0 hj (show p∈fr j by rw[hp];exact List.mem_cons_self) hm2;have hz1 : 0<2 ^ i:=Nat.pow_pos (by decide);have hz2 : 0<2 ^ j:=Nat.pow_pos (by decide);omega
  ·have:=(NF.page hk).1 e j hij hj;rw[hp] at this
   cases this
 | grew i hi hi2 hz2 hd hle he hs kp=>
  obtain rfl:k=i:=by omega
  obtain⟨x',t',po',sm,hn,htn,nb,bk⟩:=hs;have hcp:S.c t.m.n=none:=by
   have h1:=o.sf.pout (Nat.le_refl t.m.n)
   cases e:S.c t.m.n with
   | none=>rfl
   | some c=>
    rw[o.si.eP,lY e] at h1
    cases h1
  refine key t.m.n true x' t' _ e w' he po' sm bk nb kp hcp (fun i hm2=>?_) (by rw[if_pos rfl];exact hn) (.grew k hk rfl hz2 rfl rfl rfl rfl rfl) (fun _=>⟨(NF.page hk).2 hz2,hd,hle⟩) (fun e=>by cases e);have:=(o.al hm2).2.2;have hz1 : 0<2 ^ i:=Nat.pow_pos (by decide);omega
inductive Gd(x:Bx)(fr:Nat->List Nat)(ls:List (Nat×Nat))(S:Sb)(p z:Nat)(fr':Nat->List Nat)(ls':List (Nat×Nat))(S':Sb):Prop where
 | back (g k i:Nat) (hv:jB x S p g k i) (hz:z=aC k) (hl:(S.fl g).length+1<aH k) (e1:fr'=fr) (e2:ls'=ls) (e3:S'=bH S g k i)
 | rel (g k i:Nat) (hv:jB x S p g k i) (hz:z=aC k) (hl:(S.fl g).length+1=aH k) (e1:fr'=lT x.o fr g 0) (e2:ls'=dW ls g) (e3:S'=cK S g k)
 | pages (q k:Nat) (hm:(q,k)∈ls) (hc:S.c q=none) (hp:p=ad x q) (hz:z=4096*2 ^ k) (e1:fr'=lT x.o fr q k) (e2:ls'=dW ls q) (e3:S'=S)
def Gq(w W:World)(hb sb lw:Nat)(x:Bx)(t:Bt)(fr:Nat->List Nat)(ls:List (Nat×Nat))(S:Sb)(s:Int)(p z:Nat)(w':World):Prop:=∃ x' t' fr' ls' S',Gd x fr ls S p z fr' ls' S'/\Nx w W w' hb sb lw x t ls S s x' t' fr' ls' S'/\(∀ a c,aG x' ls' S' a c↔aG x ls S a c/\a≠p)/\x'.n=x.n
theorem HW.give_cell(H:HW w W hb sb lw x t fr ls S s){p g k i:Nat}(hv:jB x S p g k i):
  Calls prog 79 #[.pointer (some ⟨sb,0,none⟩),.int .u64 p] W fun e w'=>e=.returned (.int .i64 0)/\Gq w W hb sb lw x t fr ls S s p (aC k) w':=by
 obtain⟨h,o⟩:=H.so;have hk:=(o.si.pg g k hv.1).1;have hz:=bU hk;have hp:p=aO x g k i:=hv.2.2.2;have hv2:jB x S (aO x g k i) g k i:=by rw[<-hp];exact hv
 have hm:=o.mem hv.1;have n4:=o.po.nums.2.2.2.1;have hcc:=fQ (x:=x) (p:=g) hk hv.2.1 (by omega);refine(zhX o H.lv _ g k i hv).mono ?_;rintro e w' ⟨rfl,hG⟩;refine⟨rfl,?_⟩
 cases hG with
 | back hl so kp=>
  obtain⟨P,t',h',so',hf,hn⟩:=so;have hL:∀ a z,aG { x with P:=P } ls (bH S g k i) a z↔aG x ls S a z/\a≠p:=fun a z=>by
   rw[hp,qE (x:=x) (x':={ x with P:=P }) rfl];exact ZJ o hv2 a z
  have ch:Ch x t ls S { x with P:=P } t' ls (bH S g k i):=⟨rfl,rfl,rfl,rfl,fun j _ hj=>by
   refine hf j (fun hj8=>?_);obtain⟨a,z,h1,h2,h3⟩:=hj;obtain⟨h1,h4⟩:=(hL a z).1 h1;have h2:a<=x.bS+j:=h2;have h3:x.bS+j<a+z:=h3;rw[hp] at h4;have e:aO x g k i=x.bS+4096*g+i*aC k:=rfl;rcases o.two h1 (.inl ⟨g,k,i,hv2,rfl⟩)with ⟨e2,_⟩|e2|e2
   ·exact h4 e2
   ·omega
   ·omega⟩
  exact⟨_,_,_,_,_,.back g k i hv rfl hl rfl rfl rfl,⟨H.call so' (H.lv.back hv.1 hl) ch kp,ch,kp,fun y e=>.inl e⟩,hL,rfl⟩
 | rel hl so=>
  obtain⟨P,t',h',so',hn,bk,kp⟩:=so;have hL:∀ a z,aG { x with P:=P } (dW ls g) (cK S g k) a z↔aG x ls S a z/\a≠p:=fun a z=>by
   rw[hp,qE (x:=x) (x':={ x with P:=P }) rfl];exact UY o hv2 hl a z
  have ch:Ch x t ls S { x with P:=P } t' (dW ls g) (cK S g k):=⟨rfl,rfl,rfl,rfl,fun j h1 h2=>bk j (o.byte h1) (so'.byte h2)⟩;exact⟨_,_,_,_,_,.rel g k i hv rfl hl rfl rfl rfl,⟨H.call so' (H.lv.rel g k) ch kp,ch,kp,fun y e=>.inl e⟩,hL,rfl⟩
theorem HW.give_pages(H:HW w W hb sb lw x t fr ls S s){p q k:Nat}(hq:(q,k)∈ls)(hc:S.c q=none)(hp:p=ad x q):
  Calls prog 80 #[.pointer (some ⟨lw,0,none⟩),.int .u64 p,.int .i64 k] W fun e w'=>e=.returned (.int .i64 0)/\Gq w W hb sb lw x t fr ls S s p (4096*2 ^ k) w':=by
 obtain⟨h,o⟩:=H.so;refine(K.Give6_yes o.po q k hq (o.pnone8 hc) _ hp).mono ?_;rintro e w' ⟨rfl,t',po',hn,kk,bk⟩;have o':=o.pool po' (Sm.refl _) bk (fun a c ha=>List.mem_filter.2 ⟨(o.mem ha).1,decide_eq_true fun e=>by
  have e:a=q:=e;rw[e,hc] at ha
  cases ha⟩) kk
 have hL:∀ a z,aG x (dW ls q) S a z↔aG x ls S a z/\a≠p:=fun a z=>by
  rw[hp];exact DQ o hq hc a z
 have ch:Ch x t ls S x t' (dW ls q) S:=⟨rfl,rfl,rfl,rfl,fun j h1 h2=>bk j (o.byte h1) (o'.byte h2)⟩;have kp2:Kt (bG x sb) W w':=kk.mono (fun _ _ e=>.inl e);exact⟨rfl,_,_,_,_,_,.pages q k hq hc hp rfl rfl rfl rfl,⟨H.call o' H.lv ch kp2,ch,kp2,fun y e=>.inl e⟩,hL,rfl⟩
end
end Go.Proofs.YtbgbfpklgfpepaaGreatDoor
