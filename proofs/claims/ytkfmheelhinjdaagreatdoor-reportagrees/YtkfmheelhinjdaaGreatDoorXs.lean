import Derived.Test.YtkfmheelhinjdaaGreatDoorXp
import Derived.Test.YtkfmheelhinjdaaGreatDoorWm
set_option maxRecDepth 1000000
set_option maxHeartbeats 80000000
namespace Go.Proofs.YtkfmheelhinjdaaGreatDoor
open Tryz
open Go.RowKit
set_option linter.unusedVariables false
section
variable {w W W':World} {hb sb lw:Nat} {x:Bx} {t:Bt} {fr:Nat->List Nat} {ls:List (Nat×Nat)} {S:Sb} {s:Int}
end
def NF(x:Bx)(fr:Nat->List Nat)(S:Sb)(r:Nat):Prop:=(∃ k,k<8/\r=aH k/\S.pl k=[]/\∀ a,a<=x.o->fr a=[])\/(∃ k,k<=x.o/\r=4096*2 ^ k/\∀ a,k<=a->a<=x.o->fr a=[])
inductive Td(x:Bx)(t:Bt)(fr:Nat->List Nat)(ls:List (Nat×Nat))(S:Sb)(r:Nat)(d:Bool)(p:Nat)(b:Bool)(fr':Nat->List Nat)(ls':List (Nat×Nat))(S':Sb):Prop where
 | old (k g i:Nat) (l rr:List Nat) (hk:k<8) (hr:r=aH k) (hl:S.pl k=g :: l) (hf:S.fl g=i :: rr) (hp:p=aS x g k i) (hb:b=false) (e1:fr'=fr) (e2:ls'=ls) (e3:S'=aR S g k rr)
 | new (k g:Nat) (hk:k<8) (hr:r=aH k) (hl:S.pl k=[]) (hp:p=aS x g k 0) (nd:Ned x t fr d g b fr') (e2:ls'=ls ++ [(g,0)]) (e3:S'=aR (aW S g k) g k (List.range' 1 (aI k-1)))
 | here (k g j:Nat) (l:List Nat) (hk:k<=x.o) (hr:r=4096*2 ^ k) (hkj:k<=j) (hj:j<=x.o) (hz:∀ a,k<=a->a<j->fr a=[]) (hl:fr j=g :: l) (hp:p=ad x g) (hb:b=false) (e1:fr'=cN (cD fr j (M.dropL (fr j) g)) g j k) (e2:ls'=ls ++ [(g,k)]) (e3:S'=S)
 | grew (k:Nat) (hk:k<=x.o) (hr:r=4096*2 ^ k) (hz:∀ a,k<=a->a<=x.o->fr a=[]) (hp:p=ad x t.m.n) (hb:b=true) (e1:fr'=cN fr t.m.n x.o k) (e2:ls'=ls ++ [(t.m.n,k)]) (e3:S'=S)
structure Nx(w W W':World)(hb sb lw:Nat)(x:Bx)(t:Bt)(ls:List (Nat×Nat))(S:Sb)(s:Int)(x':Bx)(t':Bt)(fr':Nat->List Nat)(ls':List (Nat×Nat))(S':Sb):Prop where
 H:HW w W' hb sb lw x' t' fr' ls' S' s
 ch:Ch x t ls S x' t' ls' S'
 kp:Kt (dB x sb) W W'
 ns:∀ y,dB x' sb y->dB x sb y\/W.heap.size<=y
inductive Tq(w W:World)(hb sb lw:Nat)(x:Bx)(t:Bt)(fr:Nat->List Nat)(ls:List (Nat×Nat))(S:Sb)(s:Int)(r:Nat)(d:Bool)(p:Nat)(er:Int)(w':World):Prop where
 | no (hp:p=0) (he:er=2) (nf:NF x fr S r) (hd:d=true\/x.n=x.lim*x.R) (kp:Kt nO W w')
 | yes (x':Bx) (t':Bt) (fr':Nat->List Nat) (ls':List (Nat×Nat)) (S':Sb) (b:Bool) (he:er=0) (td:Td x t fr ls S r d p b fr' ls' S') (nx:Nx w W w' hb sb lw x t ls S s x' t' fr' ls' S') (hL:∀ a z,eK x' ls' S' a z↔eK x ls S a z\/(a=p/\z=r)) (hN:∀ z,¬eK x ls S p z) (hn:x'.n=(if b=true then x.n+x.R else x.n)) (hm:p%r=0) (hb1:b=true->NF x fr S r/\d=false/\x.n+x.R<=x.lim*x.R) (hb2:b=false->¬NF x fr S r)
abbrev qH(p:Nat)(g:Bool)(er:Int):Ending:=.returned (.tuple #[.int .u64 p,.bool g,.int .i64 er])
theorem pL{k j:Nat}(h:aH k=aH j):k=j:=by
 unfold aH at h;exact yQ _ _ (Nat.eq_of_mul_eq_mul_left (show 0<16 by decide) h)
theorem tV{k j:Nat}(h : 4096*2 ^ k=4096*2 ^ j):k=j:=yQ _ _ (Nat.eq_of_mul_eq_mul_left (show 0<4096 by decide) h)
theorem lV{k j:Nat}(hk:k<8):aH k≠4096*2 ^ j:=fun e=>by
 have:=(eA hk).2;have : 0<2 ^ j:=Nat.pow_pos (by decide);omega
theorem NF.cell{x fr S k}(hk:k<8):NF x fr S (aH k)↔S.pl k=[]/\∀ a,a<=x.o->fr a=[]:=by
 constructor
 ·rintro (⟨j,h1,h2,h3⟩|⟨j,h1,h2,h3⟩)
  ·obtain rfl:=pL h2;exact h3
  ·exact absurd h2 (lV hk)
 ·exact fun h=>.inl ⟨k,hk,rfl,h⟩
theorem NF.page{x:Bx}{fr S k}(hk:k<=x.o):NF x fr S (4096*2 ^ k)↔∀ a,k<=a->a<=x.o->fr a=[]:=by
 constructor
 ·rintro (⟨j,h1,h2,h3⟩|⟨j,h1,h2,h3⟩)
  ·exact absurd h2.symm (lV h1)
  ·obtain rfl:=tV h2;exact h3
 ·exact fun h=>.inr ⟨k,hk,rfl,h⟩
theorem BL{b k i p:Nat}(hk:k<8)(hb:b%4096=0):(b+4096*p+i*aH k)%aH k=0:=by
 have hc:=(dO hk).1;have h1:b=b/4096*(aI k*aH k):=by rw[hc];omega
 rw[h1,show 4096*p=p*(aI k*aH k)by rw[hc];omega,<-Nat.mul_assoc,<-Nat.mul_assoc,<-Nat.add_mul,<-Nat.add_mul];exact Nat.mul_mod_left _ _
section
variable {w W W':World} {hb sb lw:Nat} {x:Bx} {t:Bt} {fr:Nat->List Nat} {ls:List (Nat×Nat)} {S:Sb} {s:Int}
theorem HW.take_small(H:HW w W hb sb lw x t fr ls S s){k:Nat}(hk:k<8)(d:Bool):
  Calls prog 128 #[.pointer (some ⟨sb,0,none⟩),.int .i64 k,.bool d] W fun e w'=>∃ p g er,e=qH p g er/\Tq w W hb sb lw x t fr ls S s (aH k) d p er w':=by
 obtain⟨h,o⟩:=H.so;have hz:=eA hk;refine(VH o (k:Int) d).mono fun e w' hT=>?_
 cases hT with
 | bad hc=>exact absurd ⟨by omega,by omega⟩ hc
 | stuck k2 hk2 hc hl hz2 hd he kp=>
  obtain rfl:k=k2:=by omega
  exact⟨0,false,2,he,.no rfl rfl ((NF.cell hk).2 ⟨hl,hz2⟩) hd kp⟩
 | old k2 p i l r hk2 hc hl hf he so kp=>
  obtain rfl:k=k2:=by omega
  obtain⟨P,m',h',so',hn⟩:=so;have hcp:=((o.si.pm k hk p).1 (by rw[hl];exact List.mem_cons_self)).1;have hL:∀ a z,eK { x with P:=P } ls (aR S p k r) a z↔eK x ls S a z\/(a=aS x p k i/\z=aH k):=fun a z=>by
   rw[uB (x:=x) (x':={ x with P:=P }) rfl];exact QX o hcp hf a z
  have ch:Ch x t ls S { x with P:=P } { t with m:=m' } ls (aR S p k r):=⟨rfl,rfl,rfl,rfl,fun j _ _=>rfl⟩;refine⟨aS x p k i,false,0,he,.yes _ _ _ _ _ false rfl (.old k p i l r hk rfl hl hf rfl rfl rfl rfl rfl) ⟨H.call so' (gJ.old o H.lv hk hl hf) ch kp,ch,kp,fun y e=>.inl e⟩ hL (o.free_no hcp (by rw[hf];exact List.mem_cons_self)) rfl (BL hk o.bm) (fun e=>by cases e) (fun _ e=>?_)⟩;have:=((NF.cell hk).1 e).1;rw[hl] at this
  cases this
 | new k2 p b hk2 hc hl he so hcp nl kp=>
  obtain rfl:k=k2:=by omega
  obtain⟨x',t',fr',h',hN,so',sm,hfb,nb,htn,hxn'⟩:=so;have hL:∀ a z,eK x' (ls ++ [(p,0)]) (aR (aW S p k) p k (List.range' 1 (aI k-1))) a z↔eK x ls S a z\/(a=aS x p k 0/\z=aH k):=fun a z=>by
   rw[uB (x:=x) (x':=x') sm.bS];exact QW hk hcp nl a z
  have hno:∀ z,¬eK x ls S (aS x p k 0) z:=fun z e=>by
   have h0 : 0<z:=(o.span e).1;obtain⟨_,q,j,q1,q2,q3⟩:=o.span e;have hz2 : 0<2 ^ j:=Nat.pow_pos (by decide);unfold aS at q2 q3;unfold ad at q2 q3;rcases so'.apart (List.mem_append_left _ q1) (List.mem_append_right ls (List.mem_singleton.2 rfl))with ⟨e3,e4⟩|e3|e3
   ·subst e3;exact nl _ q1
   ·omega
   ·rw[Nat.pow_zero] at e3;omega
  have ch:Ch x t ls S x' t' (ls ++ [(p,0)]) (aR (aW S p k) p k (List.range' 1 (aI k-1))):=⟨sm.bS,sm.R,sm.lim,sm.o,fun j h1 _=>hfb j (o.byte h1)⟩;refine⟨aS x p k 0,b,0,he,.yes _ _ _ _ _ b rfl (.new k p hk rfl hl rfl hN rfl rfl) ⟨H.call so' (H.lv.new hk) ch kp,ch,kp,fun y e=>e.elim (fun e=>(nb y e).imp (fun e=>.inl e) id) (fun e=>.inl (.inr e))⟩ hL hno hxn' (BL hk o.bm) (fun e=>?_) (fun e hf=>?_)⟩
  ·cases hN with
   | here j l2 hj hz2 hp hb=>rw[hb] at e;cases e
   | grew hz2 hd hle hb hp=>exact⟨(NF.cell hk).2 ⟨hl,hz2⟩,hd,hle⟩
  ·cases hN with
   | here j l2 hj hz2 hp hb=>
    have:=((NF.cell hk).1 hf).2 j hj;rw[hp] at this
    cases this
   | grew hz2 hd hle hb hp=>rw[hb] at e;cases e
theorem HW.need_big(H:HW w W hb sb lw x t fr ls S s){k:Nat}(hk:k<=x.o)(d:Bool):
  Calls prog 130 #[.pointer (some ⟨lw,0,none⟩),.int .i64 k,.bool d] W fun e w'=>∃ p g er,e=qH p g er/\Tq w W hb sb lw x t fr ls S s (4096*2 ^ k) d p er w':=by
 obtain⟨h,o⟩:=H.so;have hz : 0<2 ^ k:=Nat.pow_pos (by decide);have key:∀ (p:Nat) (b:Bool) (x':Bx) (t':Bt) (fr':Nat->List Nat) (e:Ending) (w':World),e=.returned (.tuple #[.int .u64 ((ad x p:Nat):Int),.bool b,.int .i64 0])->PO w w' lw x' t' fr' (ls ++ [(p,k)])->Sm x x'->BK t t' ls (ls ++ [(p,k)])->Nb W x x'->Kt (aC x) W w'->S.c p=none->(∀ i,(p,i) ∉ ls)->x'.n=(if b=true then x.n + x.R else x.n)->Td x t fr ls S (4096*2 ^ k) d (ad x p) b fr' (ls ++ [(p,k)]) S->(b=true->NF x fr S (4096*2 ^ k)/\d=false/\x.n + x.R<=x.lim*x.R)->(b=false->¬NF x fr S (4096*2 ^ k))->∃ p g er,e=qH p g er/\Tq w W hb sb lw x t fr ls S s (4096*2 ^ k) d p er w':=by
  rintro p b x' t' fr' e w' he po' sm bk nb kp hcp nl hxn td h1 h2;have o':=o.pool po' sm bk (fun a c ha=>List.mem_append_left _ (o.mem ha).1) kp;have hL:∀ a z,eK x' (ls ++ [(p,k)]) S a z↔eK x ls S a z\/(a=ad x p/\z=4096*2 ^ k):=fun a z=>by
   rw[uB (x:=x) (x':=x') sm.bS];exact VO hcp a z
  have hal:p%2 ^ k=0:=(o'.al (List.mem_append_right ls (List.mem_singleton.2 rfl))).2.1;have hno:∀ z,¬eK x ls S (ad x p) z:=fun z e=>by
   have h0 : 0<z:=(o.span e).1;obtain⟨_,q,j,q1,q2,q3⟩:=o.span e;have hz2 : 0<2 ^ j:=Nat.pow_pos (by decide);unfold ad at q2 q3;rcases o'.apart (List.mem_append_left _ q1) (List.mem_append_right ls (List.mem_singleton.2 rfl))with ⟨e3,e4⟩|e3|e3
   ·subst e3;exact nl _ q1
   ·omega
   ·omega
  have ch:Ch x t ls S x' t' (ls ++ [(p,k)]) S:=⟨sm.bS,sm.R,sm.lim,sm.o,fun j h1 h2=>bk j (o.byte h1) (o'.byte h2)⟩;have kp2:Kt (dB x sb) W w':=kp.mono (fun _ _ e=>.inl e);refine⟨ad x p,b,0,he,.yes x' t' fr' _ S b rfl td ⟨H.call o' H.lv ch kp2,ch,kp2,fun y e=>e.elim (fun e=>(nb y e).imp (fun e=>.inl e) id) (fun e=>.inl (.inr e))⟩ hL hno hxn ?_ h1 h2⟩;have hR:=o.sw.pl.bd.hR;have h1 : 4096*2 ^ k ∣ x.bS:=Nat.dvd_trans (by rw[hR];exact Nat.mul_dvd_mul_left _ (Nat.pow_dvd_pow 2 hk)) (Nat.dvd_of_mod_eq_zero H.br);have h2 : 4096*2 ^ k ∣ 4096*p:=Nat.mul_dvd_mul_left _ (Nat.dvd_of_mod_eq_zero hal);exact Nat.mod_eq_zero_of_dvd (Nat.dvd_add h1 h2)
 refine(K.Need_any o.po (k:Int) d).mono fun e w' hN=>?_
 cases hN with
 | bad hb he kp=>
  exfalso
  rw[JX hk] at hb
  cases hb
 | stuck i hi hi2 hz2 hd he kp=>
  obtain rfl:k=i:=by omega
  exact⟨0,false,2,he,.no rfl rfl ((NF.page hk).2 hz2) hd kp⟩
 | here i j p l hi hi2 hij hj hz2 hp he hs kp=>
  obtain rfl:k=i:=by omega
  obtain⟨t',po',hn,bk⟩:=hs;have hcp:S.c p=none:=by
   have h1:=o.sf.pfree hj (show p∈fr j by rw[hp];exact List.mem_cons_self)
   cases e:S.c p with
   | none=>rfl
   | some c=>
    rw[o.si.eP,jF e] at h1
    cases h1
  refine key p false x t' _ e w' he po' (Sm.refl x) bk (fun y e=>.inl e) kp hcp (fun i hm2=>?_) rfl (.here k p j l hk rfl hij hj hz2 hp rfl rfl rfl rfl rfl) (fun e=>by cases e) (fun _ e=>?_)
  ·have h0:=o.sf.apart0 hj (show p∈fr j by rw[hp];exact List.mem_cons_self) hm2;have hz1 : 0<2 ^ i:=Nat.pow_pos (by decide);have hz2 : 0<2 ^ j:=Nat.pow_pos (by decide);omega
  ·have:=(NF.page hk).1 e j hij hj;rw[hp] at this
   cases this
 | grew i hi hi2 hz2 hd hle he hs kp=>
  obtain rfl:k=i:=by omega
  obtain⟨x',t',po',sm,hn,htn,nb,bk⟩:=hs;have hcp:S.c t.m.n=none:=by
   have h1:=o.sf.pout (Nat.le_refl t.m.n)
   cases e:S.c t.m.n with
   | none=>rfl
   | some c=>
    rw[o.si.eP,jF e] at h1
    cases h1
  refine key t.m.n true x' t' _ e w' he po' sm bk nb kp hcp (fun i hm2=>?_) (by rw[if_pos rfl];exact hn) (.grew k hk rfl hz2 rfl rfl rfl rfl rfl) (fun _=>⟨(NF.page hk).2 hz2,hd,hle⟩) (fun e=>by cases e);have:=(o.al hm2).2.2;have hz1 : 0<2 ^ i:=Nat.pow_pos (by decide);omega
end
theorem TN(n m k:Nat)(W:World)(e1:(n:Int)/16=(m:Int))(hn:n<=1048576)(LG:Calls prog 160 #[.int .u64 m] W fun e w'=>e=.returned (.int .i64 k)/\w'=W):Calls prog 129 #[.int .u64 n] W fun e w'=>e=.returned (.int .i64 k)/\w'=W:=by
 have L:=aA LG;clear LG;go_enter func129,ntmps129;go_wp2_with fail;refine L.out.mono ?_;rintro e w1 ⟨rfl,rfl⟩;go_wp2_with fail;go_ret;exact⟨rfl,rfl⟩
theorem TM(k:Nat)(hk:k<8)(W:World):Calls prog 129 #[.int .u64 ((aH k:Nat):Int)] W fun e w'=>e=.returned (.int .i64 k)/\w'=W:=by
 have hp : 2 ^ k<=2 ^ 8:=Nat.pow_le_pow_right (by decide) (by omega);have LG:=oX (2 ^ k) (by omega) W;rw[nY _ (Nat.ne_of_gt (Nat.pow_pos (by decide))),Nat.log2_two_pow] at LG;exact TN _ (2 ^ k) k W (by unfold aH;omega) (by unfold aH;omega) LG
theorem TJ(n m k:Nat)(W:World)(e1:(n:Int)/4096=(m:Int))(hn:n<=1048576)(LG:Calls prog 160 #[.int .u64 m] W fun e w'=>e=.returned (.int .i64 k)/\w'=W):Calls prog 131 #[.int .u64 n] W fun e w'=>e=.returned (.int .i64 k)/\w'=W:=by
 have L:=aA LG;clear LG;go_enter func131,ntmps131;go_wp2_with fail;refine L.out.mono ?_;rintro e w1 ⟨rfl,rfl⟩;go_wp2_with fail;go_ret;exact⟨rfl,rfl⟩
theorem UY(k:Nat)(hk:k<=8)(W:World):Calls prog 131 #[.int .u64 ((4096*2 ^ k:Nat):Int)] W fun e w'=>e=.returned (.int .i64 k)/\w'=W:=by
 have hp : 2 ^ k<=2 ^ 8:=Nat.pow_le_pow_right (by decide) (by omega);have LG:=oX (2 ^ k) (by omega) W;rw[nY _ (Nat.ne_of_gt (Nat.pow_pos (by decide))),Nat.log2_two_pow] at LG;exact TJ _ (2 ^ k) k W (by skip;omega) (by skip;omega) LG
section
variable {w W W':World} {hb sb lw:Nat} {x:Bx} {t:Bt} {fr:Nat->List Nat} {ls:List (Nat×Nat)} {S:Sb} {s:Int}
def gA(o m:Nat):Bool:=decide (cl m<=12+o)
theorem UW{o m:Nat}(hm : 16<=m)(h:gA o m=true):(∃ k,k<8/\2 ^ cl m=aH k)\/(∃ k,k<=o/\2 ^ cl m=4096*2 ^ k):=by
 have h:=of_decide_eq_true h;have h4 : 4<=cl m:=by
  refine Nat.le_of_not_lt fun hlt=>?_
  have:=(oZ m 3).2 (by omega);omega
 by_cases h12:cl m<12
 ·refine .inl ⟨cl m-4,by omega,?_⟩;unfold aH;rw[show(16:Nat)=2 ^ 4 from rfl,<-Nat.pow_add];congr 1
  omega
 ·refine .inr ⟨cl m-12,by omega,?_⟩;rw[show(4096:Nat)=2 ^ 12 from rfl,<-Nat.pow_add];congr 1
  omega
end
theorem vI(W:World)(hb sz al ov r L:Nat)(hs:sz<18446744073709551616)(ha:al<18446744073709551616)(m:Nat)(hm:m=max (max sz al) 16)(cv rv re:Int)(cb:Bool)(hz:(cv=(r:Int)/\cb=true/\r<18446744073709551616/\¬(L:Int)<r/\rv=(r:Int)/\re=0)\/(cv=(r:Int)/\cb=true/\r<18446744073709551616/\(L:Int)<r/\rv=0/\re=3)\/(cv=0/\cb=false/\rv=0/\re=3))(c4:W.cell? ⟨hb,4,none⟩=some (.int .i64 ov))(CE:Hid (Calls prog 127 #[.int .u64 m] W fun e w'=>e=.returned (.tuple #[.int .u64 cv,.bool cb])/\w'=W))(hov:ov<=8)(hL:(4096:Int)*2 ^ ov=(L:Int))(hLb:L<=1048576):
  Calls prog 82 #[.pointer (some ⟨hb,0,none⟩),.int .u64 sz,.int .u64 al] W fun e w'=>e=.returned (.tuple #[.int .u64 rv,.int .i64 re])/\w'=W:=by
 have ho:((sz:Int)<al/\(al:Int)<16/\(m:Int)=16)\/((sz:Int)<al/\¬(al:Int)<16/\(m:Int)=al)\/(¬(sz:Int)<al/\(sz:Int)<16/\(m:Int)=16)\/(¬(sz:Int)<al/\¬(sz:Int)<16/\(m:Int)=sz):=by omega
 rcases ho with ⟨h1,h2,h3⟩|⟨h1,h2,h3⟩|⟨h1,h2,h3⟩|⟨h1,h2,h3⟩
 all_goals
  rw[h3] at CE;clear h3 hm;rcases hz with ⟨rfl,rfl,hr,hle,rfl,rfl⟩|⟨rfl,rfl,hr,hle,rfl,rfl⟩|⟨rfl,rfl,rfl,rfl⟩
  all_goals
   go_enter func82,ntmps82;go_wp2_with fail;refine CE.out.mono ?_;rintro e w1 ⟨rfl,rfl⟩;go_wp2_with fail;go_ret2;exact⟨rfl,rfl⟩
section
variable {w W W':World} {hb sb lw:Nat} {x:Bx} {t:Bt} {fr:Nat->List Nat} {ls:List (Nat×Nat)} {S:Sb} {s:Int}
theorem zhJ(H:HW w W hb sb lw x t fr ls S s)(sz al:Nat)(hs:sz<18446744073709551616)(ha:al<18446744073709551616)(m:Nat)(hm:m=max (max sz al) 16):
  Calls prog 82 #[.pointer (some ⟨hb,0,none⟩),.int .u64 sz,.int .u64 al] W fun e w'=>e=.returned (.tuple #[.int .u64 ((if gA x.o m=true then 2 ^ cl m else 0:Nat):Int),.int .i64 (if gA x.o m=true then 0 else 3)])/\w'=W:=by
 have n1:=H.po.nums.1;have c4:=H.c.2.2.2.1;have hmb:m<18446744073709551616:=by omega
 have CE:=UT m hmb W;obtain⟨L,hL⟩:=xe (4096*2 ^ x.o);have hLi:(4096:Int)*2 ^ x.o=(L:Int):=by rw[hL];simp
 have hLb:L<=1048576:=by
  have : 2 ^ x.o<=2 ^ 8:=Nat.pow_le_pow_right (by decide) n1;omega
 have hLp:L=2 ^ (12+x.o):=by rw[hL,Nat.pow_add]
 by_cases h64:cl m<64
 ·have hv:kB 64 m=2 ^ cl m:=by unfold kB;rw[if_pos h64]
  have hbt:oO 64 m=true:=decide_eq_true h64;have hlt : 2 ^ cl m<18446744073709551616:=by
   have:=(jB (cl m) 64).2 h64;omega
  rw[hv,hbt] at CE;have hok:=mL (cl m) (12+x.o);rw[<-hLp] at hok
  cases ho:gA x.o m with
  | true=>
   have hle:=hok.2 (of_decide_eq_true ho);rw[if_pos rfl,if_pos rfl];obtain⟨r,hr⟩:=xe (2 ^ cl m);rw[<-hr] at CE hle hlt ⊢;clear hok hv hbt hLp hr ho h64;exact vI W hb sz al x.o r L hs ha m hm _ _ _ _ (.inl ⟨rfl,rfl,hlt,by omega,rfl,rfl⟩) c4 CE n1 hLi hLb
  | false=>
   have hle:=fun e=>of_decide_eq_false ho (hok.1 e)
   rw[if_neg (by decide),if_neg (by decide)];obtain⟨r,hr⟩:=xe (2 ^ cl m);rw[<-hr] at CE hle hlt;clear hok hv hbt hLp hr ho h64;exact vI W hb sz al x.o r L hs ha m hm _ _ _ _ (.inr (.inl ⟨rfl,rfl,hlt,by have:=Nat.lt_of_not_le hle;omega,rfl,rfl⟩)) c4 CE n1 hLi hLb
 ·have hv:kB 64 m=0:=by unfold kB;rw[if_neg h64]
  have hbt:oO 64 m=false:=decide_eq_false h64;rw[hv,hbt] at CE;have ho:gA x.o m=false:=decide_eq_false (by omega);rw[ho,if_neg (by decide),if_neg (by decide)];exact vI W hb sz al x.o 0 L hs ha m hm _ _ _ _ (.inr (.inr ⟨rfl,rfl,rfl,rfl⟩)) c4 CE n1 hLi hLb
end
section
variable {w W W1 W':World} {hb sb lw:Nat} {x:Bx} {t:Bt} {fr:Nat->List Nat} {ls:List (Nat×Nat)} {S:Sb} {s:Int}
theorem Nx.from{x' t' fr' ls' S'}(k:Kt nO W W1)(h:Nx w W1 W' hb sb lw x t ls S s x' t' fr' ls' S'):Nx w W W' hb sb lw x t ls S s x' t' fr' ls' S':=
 ⟨h.H,h.ch,(k.mono (fun _ _ e=>e.elim)).trans h.kp (fun _ _ e=>e) (fun _ _ e=>e),fun y hy=>(h.ns y hy).imp id (Nat.le_trans k.size)⟩
theorem Tq.from{r:Nat}{d:Bool}{p:Nat}{er:Int}(k:Kt nO W W1)(h:Tq w W1 hb sb lw x t fr ls S s r d p er W'):Tq w W hb sb lw x t fr ls S s r d p er W':=by
 cases h with
 | no hp he nf hd kp=>exact .no hp he nf hd (nT k kp)
 | yes x' t' fr' ls' S' b he td nx hL hN hn hm hb1 hb2=>exact .yes x' t' fr' ls' S' b he td (nx.from k) hL hN hn hm hb1 hb2
theorem Tq.st{r:Nat}{d:Bool}{p:Nat}{er:Int}(H:HW w W hb sb lw x t fr ls S s)(h:Tq w W hb sb lw x t fr ls S s r d p er W'):∃ x' t' fr' ls' S',HW w W' hb sb lw x' t' fr' ls' S' s:=by
 cases h with
 | no hp he nf hd kp=>exact⟨_,_,_,_,_,H.keep kp⟩
 | yes x' t' fr' ls' S' b he td nx=>exact⟨_,_,_,_,_,nx.H⟩
theorem Tq.c{r:Nat}{d:Bool}{p:Nat}{er:Int}(H:HW w W hb sb lw x t fr ls S s)(h:Tq w W hb sb lw x t fr ls S s r d p er W'):W'.cell? ⟨hb,5,none⟩=some (.pointer (some ⟨lw,0,none⟩))/\W'.cell? ⟨hb,6,none⟩=some (.pointer (some ⟨sb,0,none⟩)):=by
 obtain⟨x',t',fr',ls',S',H'⟩:=h.st H;exact⟨H'.c.2.2.2.2.1,H'.c.2.2.2.2.2⟩
theorem zfB(H:HW w W hb sb lw x t fr ls S s){k:Nat}(hk:k<8)(d:Bool):
  Calls prog 83 #[.pointer (some ⟨hb,0,none⟩),.int .u64 ((aH k:Nat):Int),.bool d] W fun e w'=>∃ p er,e=.returned (.tuple #[.int .u64 ((p:Nat):Int),.int .i64 er])/\Tq w W hb sb lw x t fr ls S s (aH k) d p er w':=by
 have hz:=eA hk;obtain⟨c0,c2,c3,c4,c5,c6⟩:=H.c;have KD:=aA ((Kt.refl nO W).drew);have CL:=aA (TM k hk);have TK:=aA (((H.keep KD.out).take_small hk d).mono fun e w' h=>(show ∃ p g er,e=qH p g er/\Tq w W hb sb lw x t fr ls S s (aH k) d p er w' from by
  obtain⟨p,g,er,he,hT⟩:=h;exact⟨p,g,er,he,hT.from KD.out⟩))
 have TC:=aA (fun (w':World) (p:Nat) (er:Int) (h:Tq w W hb sb lw x t fr ls S s (aH k) d p er w')=>h.c H);obtain⟨r,hr⟩:=xe (aH k);rw[<-hr] at hz CL TK TC ⊢;have hlt:(r:Int)<4096:=by omega
 have d5:W.drew.cell? ⟨hb,5,none⟩=some (.pointer (some ⟨lw,0,none⟩)):=c5;have d6:W.drew.cell? ⟨hb,6,none⟩=some (.pointer (some ⟨sb,0,none⟩)):=c6;clear H hr hk hz;go_enter func83,ntmps83;go_wp2_with fail;go_region_held3 (fun w'=>w'.cell? ⟨hb,6,none⟩=some (.pointer (some ⟨sb,0,none⟩))) (first|with_reducible exact d6|with_reducible exact e6) (first
  | (go_at_call 129;(with_reducible refine(CL.out _).mono ?_);rintro e w5 ⟨rfl,h5⟩;replace h5:=h5.symm;subst h5)
  | (go_at_call 128;(with_reducible refine(TK.out).mono ?_);rintro e w2 ⟨p,g,er,rfl,hT⟩;have e6:=(TC.out _ _ _ hT).2;have D:=aA hT;clear hT)
  | fail)
 all_goals
  go_wp2_with fail;exact⟨rfl,.tuple #[.int .u64 ((p:Nat):Int),.int .i64 er],by simp[results,results83,go_sem],p,er,rfl,D.out⟩
theorem zhB(H:HW w W hb sb lw x t fr ls S s){k:Nat}(hk:k<=x.o)(d:Bool):
  Calls prog 83 #[.pointer (some ⟨hb,0,none⟩),.int .u64 ((4096*2 ^ k:Nat):Int),.bool d] W fun e w'=>∃ p er,e=.returned (.tuple #[.int .u64 ((p:Nat):Int),.int .i64 er])/\Tq w W hb sb lw x t fr ls S s (4096*2 ^ k) d p er w':=by
 have hz : 0<2 ^ k:=Nat.pow_pos (by decide);have hk8:k<=8:=Nat.le_trans hk H.po.nums.1;obtain⟨c0,c2,c3,c4,c5,c6⟩:=H.c;have KD:=aA ((Kt.refl nO W).drew);have CL:=aA (UY k hk8);have TK:=aA (((H.keep KD.out).need_big hk d).mono fun e w' h=>(show ∃ p g er,e=qH p g er/\Tq w W hb sb lw x t fr ls S s (4096*2 ^ k) d p er w' from by
  obtain⟨p,g,er,he,hT⟩:=h;exact⟨p,g,er,he,hT.from KD.out⟩))
 have TC:=aA (fun (w':World) (p:Nat) (er:Int) (h:Tq w W hb sb lw x t fr ls S s (4096*2 ^ k) d p er w')=>h.c H);obtain⟨r,hr⟩:=xe (4096*2 ^ k);have hlr:¬r<4096:=by omega
 rw[<-hr] at CL TK TC ⊢;have hlt:¬(r:Int)<4096:=by omega
 have d5:W.drew.cell? ⟨hb,5,none⟩=some (.pointer (some ⟨lw,0,none⟩)):=c5;clear H hr hk hz hk8;go_enter func83,ntmps83;go_wp2_with fail;go_region_held3 (fun w'=>w'.cell? ⟨hb,5,none⟩=some (.pointer (some ⟨lw,0,none⟩))) (first|with_reducible exact d5|with_reducible exact e5) (first
  | (go_at_call 131;(with_reducible refine(CL.out _).mono ?_);rintro e w5 ⟨rfl,h5⟩;replace h5:=h5.symm;subst h5)
  | (go_at_call 130;(with_reducible refine(TK.out).mono ?_);rintro e w2 ⟨p,g,er,rfl,hT⟩;have e5:=(TC.out _ _ _ hT).1;have D:=aA hT;clear hT)
  | fail)
 all_goals
  go_wp2_with fail;exact⟨rfl,.tuple #[.int .u64 ((p:Nat):Int),.int .i64 er],by simp[results,results83,go_sem],p,er,rfl,D.out⟩
theorem JZ(H:HW w W hb sb lw x t fr ls S s)(r:Nat)(hr:(∃ k,k<8/\r=aH k)\/(∃ k,k<=x.o/\r=4096*2 ^ k))(d:Bool):
  Calls prog 83 #[.pointer (some ⟨hb,0,none⟩),.int .u64 r,.bool d] W fun e w'=>∃ p er,e=.returned (.tuple #[.int .u64 ((p:Nat):Int),.int .i64 er])/\Tq w W hb sb lw x t fr ls S s r d p er w':=by
 rcases hr with ⟨k,hk,rfl⟩|⟨k,hk,rfl⟩
 ·exact zfB H hk d
 ·exact zhB H hk d
inductive Rq8(w W:World)(hb sb lw:Nat)(x:Bx)(t:Bt)(fr:Nat->List Nat)(ls:List (Nat×Nat))(S:Sb)(s:Int)(m:Nat)(d:Bool)(p:Nat)(er:Int)(w':World):Prop where
 | big (ho:gA x.o m=false) (hp:p=0) (he:er=3) (kp:Kt nO W w')
 | ok (ho:gA x.o m=true) (hT:Tq w W hb sb lw x t fr ls S s (2 ^ cl m) d p er w')
theorem Rq8.st{m d p er}(H:HW w W hb sb lw x t fr ls S s)(h:Rq8 w W hb sb lw x t fr ls S s m d p er W'):∃ x' t' fr' ls' S',HW w W' hb sb lw x' t' fr' ls' S' s:=by
 cases h with
 | big ho hp he kp=>exact⟨_,_,_,_,_,H.keep kp⟩
 | ok ho hT=>exact hT.st H
theorem YQ(H:HW w W hb sb lw x t fr ls S s)(sz al:Nat)(hs:sz<18446744073709551616)(ha:al<18446744073709551616)(d:Bool)(m:Nat)(hm:m=max (max sz al) 16):
  Calls prog 37 #[.pointer (some ⟨hb,0,none⟩),.int .u64 sz,.int .u64 al,.bool d] W fun e w'=>∃ p er,e=.returned (.tuple #[.int .u64 ((p:Nat):Int),.int .i64 er])/\Rq8 w W hb sb lw x t fr ls S s m d p er w':=by
 have SF:=aA (zhJ H sz al hs ha m hm);have HH:=aA H
 cases ho:gA x.o m with
 | false=>
  rw[ho] at SF;rw[if_neg (by decide),if_neg (by decide)] at SF;have D:=aA (show Rq8 w W hb sb lw x t fr ls S s m d 0 3 W from .big ho rfl rfl (Kt.refl _ _));clear H ho hm;go_enter func37,ntmps37;go_wp2_with fail;refine SF.out.mono ?_;rintro e w1 ⟨rfl,h1⟩;replace h1:=h1.symm;subst h1;go_wp2_with fail;exact⟨rfl,.tuple #[.int .u64 ((0:Nat):Int),.int .i64 3],by simp[results,results37,go_sem],0,3,rfl,D.out⟩
 | true=>
  rw[ho] at SF;rw[if_pos rfl,if_pos rfl] at SF;have TK:=aA ((JZ H (2 ^ cl m) (UW (by omega) ho) d).mono fun e w' h=>(show ∃ p er,e=.returned (.tuple #[.int .u64 ((p:Nat):Int),.int .i64 er])/\Rq8 w W hb sb lw x t fr ls S s m d p er w' from by
   obtain⟨p,er,he,hT⟩:=h;exact⟨p,er,he,.ok ho hT⟩))
  generalize 2 ^ cl m=r at *;clear H ho hm;go_enter func37,ntmps37;go_wp2_with fail;refine SF.out.mono ?_;rintro e w1 ⟨rfl,h1⟩;replace h1:=h1.symm;subst h1;go_wp2_with fail;refine TK.out.mono ?_;rintro e w2 ⟨p,er,rfl,hT⟩;have D:=aA hT;clear hT;go_wp2_with fail;exact⟨rfl,.tuple #[.int .u64 ((p:Nat):Int),.int .i64 er],by simp[results,results37,go_sem],p,er,rfl,D.out⟩
end
open Go.MuLone
abbrev jK(W:World)(hb:Nat):World:=W.setCell ⟨hb,0,none⟩ (.int .i32 1)
abbrev mB(W:World)(hb:Nat):World:=W.setCell ⟨hb,0,none⟩ (.int .i32 0)
section
variable {w W W1 W':World} {hb sb lw:Nat} {x:Bx} {t:Bt} {fr:Nat->List Nat} {ls:List (Nat×Nat)} {S:Sb} {s:Int}
theorem HW.in(H:HW w W hb sb lw x t fr ls S 0):HW w (jK W hb) hb sb lw x t fr ls S 1:=(H.set 1).1
theorem HW.kout(H:HW w W hb sb lw x t fr ls S 0)(k:Kt nO (jK W hb) W'):Kt nO W (mB W' hb):=H.round id k (H.in.keep k) rfl rfl rfl
theorem Nx.out{x' t' fr' ls' S'}(H:HW w W hb sb lw x t fr ls S 0)(n:Nx w (jK W hb) W' hb sb lw x t ls S 1 x' t' fr' ls' S'):Nx w W (mB W' hb) hb sb lw x t ls S 0 x' t' fr' ls' S':=
 ⟨(n.H.set 0).1,n.ch,H.round H.nhb n.kp n.H n.ch.bS n.ch.lim n.ch.o,fun y hy=>(n.ns y hy).imp id (fun e=>by simpa using e)⟩
theorem Tq.out{r d p er}(H:HW w W hb sb lw x t fr ls S 0)(h:Tq w (jK W hb) hb sb lw x t fr ls S 1 r d p er W'):Tq w W hb sb lw x t fr ls S 0 r d p er (mB W' hb):=by
 cases h with
 | no hp he nf hd kp=>exact .no hp he nf hd (H.kout kp)
 | yes x' t' fr' ls' S' b he td nx hL hN hn hm hb1 hb2=>exact .yes x' t' fr' ls' S' b he td (nx.out H) hL hN hn hm hb1 hb2
theorem Rq8.out{m d p er}(H:HW w W hb sb lw x t fr ls S 0)(h:Rq8 w (jK W hb) hb sb lw x t fr ls S 1 m d p er W'):Rq8 w W hb sb lw x t fr ls S 0 m d p er (mB W' hb):=by
 cases h with
 | big ho hp he kp=>exact .big ho hp he (H.kout kp)
 | ok ho hT=>exact .ok ho (hT.out H)
theorem zj1(H:HW w W hb sb lw x t fr ls S 0)(sz:Nat)(hs:sz<18446744073709551616)(d:Bool)(m:Nat)(hm:m=max sz 16):
  Calls prog 12 #[.pointer (some ⟨hb,0,none⟩),.int .u64 sz,.bool d] W fun e w'=>∃ p er,e=.returned (.tuple #[.int .u64 ((p:Nat):Int),.int .i64 er])/\Rq8 w W hb sb lw x t fr ls S 0 m d p er w':=by
 have LK:=aA H.lock;have RQ:=aA (YQ H.in sz 1 hs (by decide) d m (by omega));have ST:=aA (fun (w2:World) (p:Nat) (er:Int) (h:Rq8 w (jK W hb) hb sb lw x t fr ls S 1 m d p er w2)=>And.intro (h.st H.in) (h.out H));clear H hm;go_enter_defers func12,ntmps12;go_wp2_with fail;refine LK.out.mono ?_;rintro e w1 ⟨rfl,rfl⟩;go_wp2_with fail;refine RQ.out.mono ?_;rintro e w2 ⟨p,er,rfl,hq⟩;obtain⟨⟨x',t',fr',ls',S',H2⟩,hD⟩:=ST.out _ _ _ hq;have UL:=aA (H2.unlock .returning);have D:=aA hD;clear hD H2 hq;go_wp2_with fail;refine leaves_cons (f:=36) (args:=#[.pointer (some ⟨hb,0,none⟩)]) (by simp) (by simp[go_sem]) ?_;refine UL.out.mono ?_;rintro e u' w3 ⟨rfl,rfl,rfl⟩;exact⟨_,results_tmp2 rfl _ _ _,p,er,rfl,D.out⟩
end
section
variable {w W:World} {wb sb lw:Nat} {x:Bx} {t:Bt} {fr:Nat->List Nat} {ls:List (Nat×Nat)} {S:Sb} {h:Nat->Int}
end
section
variable {w W W1 W':World} {hb sb lw:Nat} {x:Bx} {t:Bt} {fr:Nat->List Nat} {ls:List (Nat×Nat)} {S:Sb} {s:Int}
theorem HW.space(H:HW w W hb sb lw x t fr ls S s)(hn : 0<x.n):∃ g,x.a=some g/\M.SpA W x.s (some g) x.bS x.R x.lim x.n t.f:=by
 have hs:=H.po.pl.bd.sp;obtain⟨g,hg⟩:=vL hs hn;exact⟨g,hg,by rw[hg] at hs;exact hs⟩
end
end Go.Proofs.YtkfmheelhinjdaaGreatDoor
namespace Go.Proofs.YtkfmheelhinjdaaGreatDoor.W
open Tryz
open Go.RowKit
set_option linter.unusedVariables false
set_option maxHeartbeats 8000000
set_option maxRecDepth 6000
abbrev cG(F Z:Nat->Value)(a:Nat):Nat->Value:=fun j=>if j<a then F j else Z j
theorem QT{F Z:Nat->Value}{a:Nat} : (fun j=>if j=a then F a else cG F Z a j)=cG F Z (a+1):=by
 funext j
 unfold cG;by_cases e:j=a
 ·subst e;simp
 ·by_cases l:j<a
  ·rw[if_neg e,if_pos l,if_pos (by omega)]
  ·rw[if_neg e,if_neg l,if_neg (by omega)]
theorem rZ{w0 w:World}{b k:Nat}{x:Value}(h:Kt nO w0 w)(hb:w0.heap.size<=b):Kt nO w0 (w.setCell ⟨b,k,none⟩ x):=
 h.trans ((Kt.refl (fun y=>y=b) w).setCell (p:=⟨b,k,none⟩) rfl x) (fun _ _ y=>y) (fun y hy e=>by omega)
theorem XR.up{s n N:Nat}{w:World}{b:Nat}{T:TypeId}{F Z:Nat->Value}{m c a:Nat}(h:XR s w (.slice (some ⟨b,0,none⟩) m c) n T N (cG F Z a))(ha:a<N):XR s (w.setCell ⟨b,a,none⟩ (F a)) (.slice (some ⟨b,0,none⟩) m c) n T N (cG F Z (a+1)):=by
 have:=h.put ha (F a);rwa [QT] at this
theorem XR.done{s n N:Nat}{w:World}{v:Value}{T:TypeId}{F Z:Nat->Value}{a:Nat}(h:XR s w v n T N (cG F Z a))(ha:N<=a):XR s w v n T N F:=h.congr fun j hj=>if_pos (by omega)
structure PrC(s:Nat)(w0 w:World)(I:Img)(v:Value)(a:Nat)(xs:List Value):Prop where
 r:GS w0 w 35 1 v a xs
 u:∀ i,i<a->XR s w (xs.getD i (.slice none 0 0)) (I.pr i).length 27 (I.pr i).length fun j=>.int .u64 (((I.pr i).getD j 0:Nat):Int)
theorem PrC.keep{s:Nat}{w0 w W:World}{I:Img}{v:Value}{a:Nat}{xs:List Value}(h:PrC s w0 w I v a xs)(hk:Kt nO w W):PrC s w0 W I v a xs:=
 ⟨GS.keep h.r hk,fun i hi=>(h.u i hi).keep hk⟩
theorem PrC.push{s:Nat}{w0 w W:World}{I:Img}{v v':Value}{a b l c:Nat}{xs:List Value}(h:PrC s w0 w I v a xs)(hx:XR s w (.slice (some ⟨b,0,none⟩) l c) (I.pr a).length 27 (I.pr a).length fun j=>.int .u64 (((I.pr a).getD j 0:Nat):Int))(hg:GS w0 W 35 1 v' (a + 1) (xs ++ [.slice (some ⟨b,0,none⟩) l c]))(hk:Kt (fun b=>v.ownBlock=some b) w W):PrC s w0 W I v' (a + 1) (xs ++ [.slice (some ⟨b,0,none⟩) l c]):=by
 have hl:=h.r.own.1;have ap:∀ {n N:Nat} {u:Value} {F:Nat->Value},XR s w u n 27 N F->XR s W u n 27 N F:=fun hu=>hu.keepS hk fun y hy e=>by
  obtain⟨c1,e1⟩:=hu.ty hy;obtain⟨c2,e2⟩:=wR h.r e;rw[e1] at e2
  cases e2
 refine⟨hg,fun i hi=>?_⟩;by_cases e:i=a
 ·subst e;have:(xs ++ [Value.slice (some ⟨b,0,none⟩) l c]).getD i (.slice none 0 0)=.slice (some ⟨b,0,none⟩) l c:=by
   rw[List.getD,List.getElem?_append_right (by omega),show i-xs.length=0 by omega];rfl
  rw[this];exact ap hx
 ·have:(xs ++ [Value.slice (some ⟨b,0,none⟩) l c]).getD i (.slice none 0 0)=xs.getD i (.slice none 0 0):=by
   rw[List.getD,List.getD,List.getElem?_append_left (by omega)]
  rw[this];exact ap (h.u i (by omega))
theorem GS.moved{w w0 W W':World}{e:TypeId}{size:Nat}{v:Value}{n:Nat}{xs:List Value}{S:Nat->Prop}(h:GS w0 W e size v n xs)(kS:Kt S W W')(hS:∀ b,v.ownBlock=some b->¬S b)(hle:w.heap.size<=w0.heap.size)(kF:Kt nO w W'):GS w W' e size v n xs:=by
 refine⟨⟨h.own.1,?_⟩,fun g cap e=>Nat.le_trans hle (h.new g cap e),kF⟩;rcases h.own.2 with h0|⟨g,cap,cur,e,hb,hg,h3⟩
 ·exact .inl h0
 ·exact .inr ⟨g,cap,cur,e,hb,(kS.block g (lH hg) (hS g (by rw[e];rfl))).trans hg,h3⟩
theorem zhl(I:Img)(V:ImV)(w:World)(hI:ImD w I V)(hZ:ImZ I):
  Calls prog 23 #[imA I V] w fun e w'=>∃ V' xs,e=.returned (imA I V')/\CpD w.heap.size w w' I V' xs/\Kt nO w w':=by
 have OK:=aA hI.ok;obtain⟨⟨ma,mc,hm⟩,⟨pa,pc,hp⟩,⟨ra,rc,hr⟩,⟨ha,hc,hh⟩,⟨ta,tc,ht⟩,-⟩:=hI.sl;obtain⟨vm,vp,vr,vh,vt⟩:=V;dsimp only at hm hp hr hh ht;subst hm hp hr hh ht;obtain⟨nm,hnm⟩:∃ n,n=I.nm:=⟨_,rfl⟩;obtain⟨np,hnp⟩:∃ n,n=I.np:=⟨_,rfl⟩;obtain⟨no,hno⟩:∃ n,n=I.no:=⟨_,rfl⟩;obtain⟨nh,hnh⟩:∃ n,n=I.hd.length:=⟨_,rfl⟩;obtain⟨nt,hnt⟩:∃ n,n=I.pt.length:=⟨_,rfl⟩;have NM:=aA hnm;have NP:=aA hnp;have NO:=aA hno;have NH:=aA hnh;have NT:=aA hnt;have HZ:=aA hZ;have B1:=aA (show nm<=9223372036854775807 by rw[hnm];exact hI.ok.nm);have B2:=aA (show np<=9223372036854775807 by rw[hnp];exact hI.ok.np);have B3:=aA (show no<=9223372036854775807 by rw[hno];exact hI.ok.no);have B4:=aA (show nh<=9223372036854775807 by rw[hnh];exact hI.ok.nh);have B5:=aA (show nt<=9223372036854775807 by rw[hnt];exact hI.ok.nt);have ID:=aA hI;rw[<-hnm,<-hnp,<-hno,<-hnh,<-hnt] at ID;rw[<-hnm,<-hnp,<-hno,<-hnh,<-hnt];clear hI hZ hnm hnp hno hnh hnt;go_enter func23,ntmps23;go_upto_region 1 with fail;refine ziA (P:=fun W=>Code.wp prog _ _ _ W) _ ?_;intro W0 hW0;have IM0:=aA (show ImAt W0 w.heap.size I ⟨.slice ma nm mc,.slice pa np pc,.slice ra no rc,.slice ha nh hc,.slice ta nt tc⟩by
  subst hW0;refine⟨?_,ID.out.keep (((Kt.refl _ w).alloc _).alloc _)⟩;show((w.heap.push _).push _)[w.heap.size]?=_
  rw[Array.getElem?_push,if_neg (by simp),Array.getElem?_push,if_pos rfl])
 have RB0:=aA (show W0.heap[w.heap.size+1]?=some gX by subst hW0;exact vB w _ _);have K0:=aA (show Kt nO w W0 by subst hW0;exact((Kt.refl _ w).alloc _).alloc _);obtain⟨ib,hib⟩:=xe (w.heap.size);obtain⟨rb,hrb⟩:=xe (ib+1);have IB:=aA hib;have RBE:=aA hrb;rw[<-hib] at IM0 RB0 ⊢;rw[<-hrb] at RB0 ⊢;clear hW0 hib hrb ID;obtain⟨c0,c1,c2,c3,c4,c5,c6,c7,c8⟩:=IM0.out.cells;obtain⟨g1,hg1⟩:∃ g,g=W0.heap.size:=⟨_,rfl⟩;obtain⟨W1,mk1,x1,k1,-⟩:=oA 32 5 (.int .u8 0) 1 1 Tryz.underlying32 mW rfl nm (by have:=HZ.out.m;rw[<-NM.out] at this;omega) B1.out rb W0 (lH RB0.out);rw[<-hg1] at mk1 x1;have G1:=aA (show rb<g1/\g1=W0.heap.size from⟨by rw[hg1];exact lH RB0.out,hg1⟩);have X1:=aA (show XR rb W1 (.slice (some ⟨g1,0,none⟩) nm nm) nm 5 nm (cG (fun j=>.int .u8 (I.mem j:Int)) (fun j=>(Value.cells (.int .u8 0))[j%1]!) 0)by
  have:=x1.congr (G:=cG (fun j=>.int .u8 (I.mem j:Int)) (fun j=>(Value.cells (.int .u8 0))[j%1]!) 0) fun j hj=>(if_neg (by omega)).symm
  rwa [Nat.mul_one] at this)
 have Q1:=aA k1;clear x1 k1 hg1;go_wp2_with fail;clear c0 c1 c2 c3 c4 c5 c6 c7 c8 mk1;go_loopw [4] (fun iv W=>∃ a:Nat,a<=nm/\iv=.int .i64 a/\Hid (Kt nO W0 W/\XR rb W (.slice (some ⟨g1,0,none⟩) nm nm) nm 5 nm (cG (fun j=>.int .u8 (I.mem j:Int)) (fun j=>(Value.cells (.int .u8 0))[j%1]!) a))) (fun iv _=>nm-(intOf iv).toNat)
 case atStart=>exact⟨0,Nat.zero_le _,rfl,aA ⟨Q1.out,X1.out⟩⟩
 case round=>
  clear Q1 X1;obtain⟨a,ha',rfl,hG⟩:=hrel;have IMa:=aA (IM0.out.keep hG.out.1);obtain⟨c0,c1,c2,c3,c4,c5,c6,c7,c8⟩:=IMa.out.cells;by_cases hlt:a<nm
  ·have hai:(a:Int)<nm:=(by omega);obtain⟨bl,o,rfl,hs⟩:∃ bl o,ma=some ⟨bl,o,none⟩/\wr.cell? ⟨bl,o+a,none⟩=some (.int .u8 (I.mem a:Int)):=by
    obtain⟨-,oa,oc,e1,e2⟩:=IMa.out.d.mem
    cases e1
    rcases e2 with e2|⟨bl,o,rfl,-,hc'⟩
    ·rw[NM.out] at hlt;omega
    ·exact⟨bl,o,rfl,(hc' a (by rw[<-NM.out];exact hlt)).2⟩
   have t0:=hG.out.2.cell (j:=a) hlt;have z0:=hG.out.2.frz a;have R2:=aA (rZ (k:=a) (x:=(fun j=>.int .u8 (I.mem j:Int)) a) hG.out.1 (Nat.le_of_eq G1.out.2.symm));have R3:=aA (hG.out.2.up hlt);have HLT:=aA hlt;clear hG hlt;go_wp2_with fail;have hw:wrap64 ((a:Int)+1)=((a+1:Nat):Int):=(by have:=B1.out;have:=HLT.out;rw[wrap64];omega);rw[hw];exact⟨⟨a+1,by have:=HLT.out;omega,rfl,aA ⟨R2.out,R3.out⟩⟩,by have:=HLT.out;simp only[intOf,Int.toNat_natCast];omega⟩
  ·have hai:¬(a:Int)<nm:=(by omega);have K1:=aA hG.out.1;have D1:=aA (hG.out.2.done (by omega));have RB1:=aA ((hG.out.1.block _ (lH RB0.out) (fun x=>x)).trans RB0.out);clear hG;have ea:nm=a:=(by omega);subst ea;go_upto_region 6 with fail;clear c0 c1 c2 c3 c4 c5 c6 c7 c8;have IM1:=IMa;clear IMa;obtain⟨V1,hV1⟩:∃ W,W=wr:=⟨_,rfl⟩;rw[<-hV1] at K1 D1 RB1 IM1 ⊢;clear hV1 hai ha';obtain⟨c0,c1,c2,c3,c4,c5,c6,c7,c8⟩:=IM1.out.cells;obtain⟨g2,hg2⟩:∃ g,g=V1.heap.size:=⟨_,rfl⟩;obtain⟨W2,mk2,x2,k2,-⟩:=oA 33 99 (dS aP) 11 88 Tryz.underlying33 VN rfl np (by have:=HZ.out.p;rw[<-NP.out] at this;omega) B2.out rb V1 (lH RB1.out);rw[<-hg2] at mk2 x2;have G2:=aA (show rb<g2/\g2=V1.heap.size from⟨by rw[hg2];exact lH RB1.out,hg2⟩);have X2:=aA (show bG W2 g2 np (fun i=>if i<0 then I.pg i else aP)from x2.row fun i hi j hj=>by
    rw[if_neg (by omega)];rw[show(i*11+j)%11=j by omega];revert j
    exact gW rfl rfl rfl rfl rfl rfl rfl rfl rfl rfl rfl)
   have Q2:=aA k2;clear x2 k2 hg2;go_wp2_with fail;clear c0 c1 c2 c3 c4 c5 c6 c7 c8 mk2;go_loopw [6] (fun iv W=>∃ a:Nat,a<=np/\iv=.int .i64 a/\Hid (Kt nO V1 W/\bG W g2 np (fun i=>if i<a then I.pg i else aP))) (fun iv _=>np-(intOf iv).toNat)
   case atStart=>exact⟨0,Nat.zero_le _,rfl,aA ⟨Q2.out,X2.out⟩⟩
   case round=>
    clear Q2 X2;obtain⟨a,ha',rfl,hG⟩:=hrel;have IMa:=aA (IM1.out.keep hG.out.1);obtain⟨c0,c1,c2,c3,c4,c5,c6,c7,c8⟩:=IMa.out.cells;by_cases hlt:a<np
    ·have hai:(a:Int)<np:=(by omega);obtain⟨bl,o,oc,hv,hpi,hpc⟩:=IMa.out.page a (by rw[<-NP.out];exact hlt)
     cases hv
     obtain⟨d0,d1,d2,d3,d4,d5,d6,d7,d8,d9,d10⟩:=hpc.c;obtain⟨e0,e1,e2,e3,e4,e5,e6,e7,e8,e9,e10⟩:=hG.out.2.cell a hlt;have zz:=aV.froz hG.out.2;obtain⟨p,hp⟩:=xe (I.pg a);rw[<-hp] at d0 d1 d2 d3 d4 d5 d6 d7 d8 d9 d10;have HP:=aA hp;have R3:=aA (hG.out.2.put a hlt p);have R2:=aA (show Kt nO V1 (cU wr g2 a p)from hG.out.1.trans (oC wr g2 a _) (fun _ _ x=>x) (fun x hx e=>by have:=G2.out;omega));have HLT:=aA hlt;clear hG hpi hpc hp;go_wp2_with fail;have hw:wrap64 ((a:Int)+1)=((a+1:Nat):Int):=(by have:=B2.out;have:=HLT.out;rw[wrap64];omega);rw[hw];refine⟨⟨a+1,by have:=HLT.out;omega,rfl,aA ⟨R2.out,R3.out.congr fun i hi=>?_⟩⟩,by have:=HLT.out;simp only[intOf,Int.toNat_natCast];omega⟩;unfold aK;by_cases e:i=a
     ·rw[if_pos e,if_pos (by omega),e];exact HP.out
     ·rw[if_neg e];show(if i<a then I.pg i else aP)=_
      by_cases l:i<a
      ·rw[if_pos l,if_pos (by omega)]
      ·rw[if_neg l,if_neg (by omega)]
    ·have hai:¬(a:Int)<np:=(by omega);have K2:=aA hG.out.1;have D2:=aA (JB (hG.out.2.congr (pg':=I.pg) fun i hi=>if_pos (by omega)) G2.out.1);have RB2:=aA ((hG.out.1.block _ (lH RB1.out) (fun x=>x)).trans RB1.out);clear hG;have ea:np=a:=(by omega);subst ea;go_upto_region 12 with fail;clear c0 c1 c2 c3 c4 c5 c6 c7 c8;have IM2:=IMa;clear IMa;obtain⟨V2,hV2⟩:∃ W,W=wr:=⟨_,rfl⟩;rw[<-hV2] at K2 D2 RB2 IM2 ⊢;clear hV2 hai ha';go_wp2_with fail;go_loopw [7,8] (fun pv iv W=>∃ (a:Nat) (xs:List Value),a<=no/\iv=.int .i64 a/\Hid (PrC rb V2 W I pv a xs)) (fun _ iv _=>no-(intOf iv).toNat)
     case atStart=>exact⟨0,[],Nat.zero_le _,rfl,aA ⟨GS.nil _ _ _ _ (Kt.refl _ _),fun i hi=>by omega⟩⟩
     case round=>
      obtain⟨a,xs,ha',rfl,hG⟩:=hrel;have IMa:=aA (IM2.out.keep hG.out.r.kp);obtain⟨c0,c1,c2,c3,c4,c5,c6,c7,c8⟩:=IMa.out.cells;obtain⟨va,vc,hva⟩:=pD hG.out.r.own;subst hva;by_cases hlt:a<no
      ·have hai:(a:Int)<no:=(by omega);have hlt':a<I.no:=(by rw[<-NO.out];exact hlt);obtain⟨ws,hSL⟩:=IMa.out.d.prs;obtain⟨-,oa,oc,e1,e2⟩:=hSL
       cases e1
       obtain⟨bl,o,rfl,hcc,hsr⟩:∃ bl o,ra=some ⟨bl,o,none⟩/\wr.cell? ⟨bl,o+a,none⟩=some (ws a)/\Src wr (ws a) (I.pr a):=by
        rcases e2 with e2|⟨bl,o,rfl,-,hc'⟩
        ·omega
        ·exact⟨bl,o,rfl,(hc' a hlt').1,(hc' a hlt').2⟩
       clear e2;obtain⟨h64,so,sc,hws,hsc⟩:=hsr;rw[hws] at hcc;obtain⟨n,hn⟩:=xe ((I.pr a).length);rw[<-hn] at hcc;have HN:=aA hn;have BN:=aA (show n<=9223372036854775807 by have:=HZ.out.u a hlt';omega);have SRC:=aA (show ∀ W,Kt nO wr W->∀ j,j<n->∃ bb oo,so=some ⟨bb,oo,none⟩/\W.cell? ⟨bb,oo+j,none⟩=some (.int .u64 (((I.pr a).getD j 0:Nat):Int))from fun W hW j hj=>by
        rcases hsc with e|⟨ad,rfl,-,hc'⟩
        ·rw[hn,e] at hj;simp at hj
        ·have g0:=hc' 0 (by omega);have e0:ad.add 0=ad:=(by simp[Addr.add]);rw[e0] at g0;obtain⟨bb,oo,s⟩:=ad
         cases s with
         | some s=>simp[World.cell?] at g0;split at g0 <;> simp at g0
         | none=>
          have:=hc' j (by omega);rw[Addr.add_lit] at this;exact⟨bb,oo,rfl,hW.cell (fun x=>x) this⟩)
       have OUT:=aA (show ∀ W,Kt nO wr W->W.cell? ⟨bl,o+a,none⟩=some (.slice so n sc)from fun W hW=>hW.cell (fun x=>x) hcc);have HLT:=aA hlt;have rbl:=(hG.out.r.kp.block _ (lH RB2.out) (fun x=>x)).trans RB2.out;obtain⟨g3,hg3⟩:∃ g,g=wr.heap.size:=⟨_,rfl⟩;obtain⟨W3,mk3,x3,k3,-⟩:=oA 35 27 (.int .u64 0) 1 8 Tryz.underlying35 yU rfl n (by have:=HZ.out.u a hlt';omega) BN.out rb wr (lH rbl);rw[<-hg3] at mk3 x3;have G3:=aA (show rb<g3/\g3=wr.heap.size from⟨by rw[hg3];exact lH rbl,hg3⟩);have X3:=aA (show XR rb W3 (.slice (some ⟨g3,0,none⟩) n n) n 27 n (cG (fun j=>.int .u64 (((I.pr a).getD j 0:Nat):Int)) (fun j=>(Value.cells (.int .u64 0))[j%1]!) 0)by
        have:=x3.congr (G:=cG (fun j=>.int .u64 (((I.pr a).getD j 0:Nat):Int)) (fun j=>(Value.cells (.int .u64 0))[j%1]!) 0) fun j hj=>(if_neg (by omega)).symm
        rwa [Nat.mul_one] at this)
       have Q3:=aA k3;clear x3 k3 hg3 hws hsc h64 hn hlt hlt' rbl;go_wp2_with fail;clear c0 c1 c2 c3 c4 c5 c6 c7 c8 mk3 hcc;obtain⟨wq,hwq⟩:∃ W,W=wr:=⟨_,rfl⟩;rw[<-hwq] at hG IMa SRC OUT G3 Q3;clear hwq;go_loopw [10] (fun iv W=>∃ b:Nat,b<=n/\iv=.int .i64 b/\Hid (Kt nO wq W/\XR rb W (.slice (some ⟨g3,0,none⟩) n n) n 27 n (cG (fun j=>.int .u64 (((I.pr a).getD j 0:Nat):Int)) (fun j=>(Value.cells (.int .u64 0))[j%1]!) b))) (fun iv _=>n-(intOf iv).toNat)
       case atStart=>exact⟨0,Nat.zero_le _,rfl,aA ⟨Q3.out,X3.out⟩⟩
       case round=>
        clear Q3 X3;obtain⟨b,hb',rfl,hJ⟩:=hrel;have IMb:=aA (IMa.out.keep hJ.out.1);obtain⟨c0,c1,c2,c3,c4,c5,c6,c7,c8⟩:=IMb.out.cells;by_cases hlt:b<n
        ·have hbi:(b:Int)<n:=(by omega);have hcc:=OUT.out _ hJ.out.1;obtain⟨bb,oo,rfl,hs⟩:=SRC.out _ hJ.out.1 b hlt;have t0:=hJ.out.2.cell (j:=b) hlt;have z0:=hJ.out.2.frz b;have R2:=aA (rZ (k:=b) (x:=.int .u64 (((I.pr a).getD b 0:Nat):Int)) hJ.out.1 (Nat.le_of_eq G3.out.2.symm));have R3:=aA (hJ.out.2.up hlt);have HLB:=aA hlt;clear hJ hlt;go_wp2_with fail;have hw:wrap64 ((b:Int)+1)=((b+1:Nat):Int):=(by have:=BN.out;have:=HLB.out;rw[wrap64];omega);rw[hw];exact⟨⟨b+1,by have:=HLB.out;omega,rfl,aA ⟨R2.out,R3.out⟩⟩,by have:=HLB.out;simp only[intOf,Int.toNat_natCast];omega⟩
        ·have hbi:¬(b:Int)<n:=(by omega);have KJ:=aA hJ.out.1;have PX:=aA (hG.out.keep hJ.out.1);have XD:=aA (hJ.out.2.done (by omega));rw[HN.out] at XD;clear hJ;have eb:n=b:=(by omega);subst eb;obtain⟨gg,cap,W5,HAP,G5,K5⟩:=GS.pushW PX.out.r (some ⟨g3,0,none⟩) n n (by have h1:=HZ.out.r;have h2:=HLT.out;omega);have P5:=aA (show PrC rb V2 W5 I (.slice (some ⟨gg,0,none⟩) (a + 1) cap) (a + 1) (xs ++ [.slice (some ⟨g3,0,none⟩) n n])from PX.out.push (by rw[<-HN.out] at XD ⊢;exact XD.out) G5 K5);have HAP:=aA HAP;clear G5 K5 c0 c1 c2 c3 c4 c5 c6 c7 c8;go_wp2_with (at_builtin;refine Lib.wpList_append_run _ rfl _ _ _ _ rfl _ _ rfl rfl _ _ (HAP.out _) ?_)
         go_round
         case rel=>exact⟨a+1,_,by have:=HLT.out;omega,by have:wrap64 ((a:Int)+1)=((a+1:Nat):Int):=(by have:=B3.out;have:=HLT.out;rw[wrap64];omega);rw[this],P5⟩
         case measure=>have hw:wrap64 ((a:Int)+1)=((a+1:Nat):Int):=(by have:=B3.out;have:=HLT.out;rw[wrap64];omega);rw[hw];have:=HLT.out;simp only[intOf,Int.toNat_natCast];omega
      ·have hai:¬(a:Int)<no:=(by omega);have K3:=aA hG.out.r.kp;have ea:no=a:=(by omega);subst ea;have D3:=aA hG.out;have RB3:=aA ((hG.out.r.kp.block _ (lH RB2.out) (fun x=>x)).trans RB2.out);clear hG;go_upto_region 21 with fail;clear c0 c1 c2 c3 c4 c5 c6 c7 c8;have IM3:=IMa;clear IMa;obtain⟨V3,hV3⟩:∃ W,W=wr:=⟨_,rfl⟩;rw[<-hV3] at K3 D3 RB3 IM3 ⊢;clear hV3 hai ha';obtain⟨c0,c1,c2,c3,c4,c5,c6,c7,c8⟩:=IM3.out.cells;obtain⟨g4,hg4⟩:∃ g,g=V3.heap.size:=⟨_,rfl⟩;obtain⟨W4,mk4,x4,k4,-⟩:=oA 35 27 (.int .u64 0) 1 8 Tryz.underlying35 yU rfl nh (by have:=HZ.out.h;rw[<-NH.out] at this;omega) B4.out rb V3 (lH RB3.out);rw[<-hg4] at mk4 x4;have G4:=aA (show rb<g4/\g4=V3.heap.size from⟨by rw[hg4];exact lH RB3.out,hg4⟩);have X4:=aA (show XR rb W4 (.slice (some ⟨g4,0,none⟩) nh nh) nh 27 nh (cG (fun j=>.int .u64 ((I.hd.getD j 0:Nat):Int)) (fun j=>(Value.cells (.int .u64 0))[j%1]!) 0)by
        have:=x4.congr (G:=cG (fun j=>.int .u64 ((I.hd.getD j 0:Nat):Int)) (fun j=>(Value.cells (.int .u64 0))[j%1]!) 0) fun j hj=>(if_neg (by omega)).symm
        rwa [Nat.mul_one] at this)
       have Q4:=aA k4;clear x4 k4 hg4;go_wp2_with fail;clear c0 c1 c2 c3 c4 c5 c6 c7 c8 mk4;go_loopw [12] (fun iv W=>∃ a:Nat,a<=nh/\iv=.int .i64 a/\Hid (Kt nO V3 W/\XR rb W (.slice (some ⟨g4,0,none⟩) nh nh) nh 27 nh (cG (fun j=>.int .u64 ((I.hd.getD j 0:Nat):Int)) (fun j=>(Value.cells (.int .u64 0))[j%1]!) a))) (fun iv _=>nh-(intOf iv).toNat)
       case atStart=>exact⟨0,Nat.zero_le _,rfl,aA ⟨Q4.out,X4.out⟩⟩
       case round=>
        clear Q4 X4;obtain⟨a,ha',rfl,hG⟩:=hrel;have IMa:=aA (IM3.out.keep hG.out.1);obtain⟨c0,c1,c2,c3,c4,c5,c6,c7,c8⟩:=IMa.out.cells;by_cases hlt:a<nh
        ·have hai:(a:Int)<nh:=(by omega);obtain⟨bl,o,rfl,hs⟩:∃ bl o,ha=some ⟨bl,o,none⟩/\wr.cell? ⟨bl,o+a,none⟩=some (.int .u64 ((I.hd.getD a 0:Nat):Int)):=by
          obtain⟨-,oa,oc,e1,e2⟩:=IMa.out.d.hds
          cases e1
          rcases e2 with e2|⟨bl,o,rfl,-,hc'⟩
          ·rw[NH.out] at hlt;omega
          ·exact⟨bl,o,rfl,(hc' a (by rw[<-NH.out];exact hlt)).2⟩
         have t0:=hG.out.2.cell (j:=a) hlt;have z0:=hG.out.2.frz a;have R2:=aA (rZ (k:=a) (x:=(fun j=>.int .u64 ((I.hd.getD j 0:Nat):Int)) a) hG.out.1 (Nat.le_of_eq G4.out.2.symm));have R3:=aA (hG.out.2.up hlt);have HLT:=aA hlt;clear hG hlt;go_wp2_with fail;have hw:wrap64 ((a:Int)+1)=((a+1:Nat):Int):=(by have:=B4.out;have:=HLT.out;rw[wrap64];omega);rw[hw];exact⟨⟨a+1,by have:=HLT.out;omega,rfl,aA ⟨R2.out,R3.out⟩⟩,by have:=HLT.out;simp only[intOf,Int.toNat_natCast];omega⟩
        ·have hai:¬(a:Int)<nh:=(by omega);have K4:=aA hG.out.1;have D4:=aA (hG.out.2.done (by omega));have RB4:=aA ((hG.out.1.block _ (lH RB3.out) (fun x=>x)).trans RB3.out);clear hG;have ea:nh=a:=(by omega);subst ea;go_upto_region 26 with fail;clear c0 c1 c2 c3 c4 c5 c6 c7 c8;have IM4:=IMa;clear IMa;obtain⟨V4,hV4⟩:∃ W,W=wr:=⟨_,rfl⟩;rw[<-hV4] at K4 D4 RB4 IM4 ⊢;clear hV4 hai ha';obtain⟨c0,c1,c2,c3,c4,c5,c6,c7,c8⟩:=IM4.out.cells;obtain⟨g5,hg5⟩:∃ g,g=V4.heap.size:=⟨_,rfl⟩;obtain⟨W5,mk5,x5,k5,-⟩:=oA 36 3 (.int .i64 0) 1 8 Tryz.underlying36 QV rfl nt (by have:=HZ.out.t;rw[<-NT.out] at this;omega) B5.out rb V4 (lH RB4.out);rw[<-hg5] at mk5 x5;have G5:=aA (show rb<g5/\g5=V4.heap.size from⟨by rw[hg5];exact lH RB4.out,hg5⟩);have X5:=aA (show XR rb W5 (.slice (some ⟨g5,0,none⟩) nt nt) nt 3 nt (cG (fun j=>.int .i64 (I.pt.getD j 0)) (fun j=>(Value.cells (.int .i64 0))[j%1]!) 0)by
          have:=x5.congr (G:=cG (fun j=>.int .i64 (I.pt.getD j 0)) (fun j=>(Value.cells (.int .i64 0))[j%1]!) 0) fun j hj=>(if_neg (by omega)).symm
          rwa [Nat.mul_one] at this)
         have Q5:=aA k5;clear x5 k5 hg5;go_wp2_with fail;clear c0 c1 c2 c3 c4 c5 c6 c7 c8 mk5;go_loopw [14] (fun iv W=>∃ a:Nat,a<=nt/\iv=.int .i64 a/\Hid (Kt nO V4 W/\XR rb W (.slice (some ⟨g5,0,none⟩) nt nt) nt 3 nt (cG (fun j=>.int .i64 (I.pt.getD j 0)) (fun j=>(Value.cells (.int .i64 0))[j%1]!) a))) (fun iv _=>nt-(intOf iv).toNat)
         case atStart=>exact⟨0,Nat.zero_le _,rfl,aA ⟨Q5.out,X5.out⟩⟩
         case round=>
          clear Q5 X5;obtain⟨a,ha',rfl,hG⟩:=hrel;have IMa:=aA (IM4.out.keep hG.out.1);obtain⟨c0,c1,c2,c3,c4,c5,c6,c7,c8⟩:=IMa.out.cells;by_cases hlt:a<nt
          ·have hai:(a:Int)<nt:=(by omega);obtain⟨bl,o,rfl,hs⟩:∃ bl o,ta=some ⟨bl,o,none⟩/\wr.cell? ⟨bl,o+a,none⟩=some (.int .i64 (I.pt.getD a 0)):=by
            obtain⟨-,oa,oc,e1,e2⟩:=IMa.out.d.pts
            cases e1
            rcases e2 with e2|⟨bl,o,rfl,-,hc'⟩
            ·rw[NT.out] at hlt;omega
            ·exact⟨bl,o,rfl,(hc' a (by rw[<-NT.out];exact hlt)).2⟩
           have t0:=hG.out.2.cell (j:=a) hlt;have z0:=hG.out.2.frz a;have R2:=aA (rZ (k:=a) (x:=(fun j=>.int .i64 (I.pt.getD j 0)) a) hG.out.1 (Nat.le_of_eq G5.out.2.symm));have R3:=aA (hG.out.2.up hlt);have HLT:=aA hlt;clear hG hlt;go_wp2_with fail;have hw:wrap64 ((a:Int)+1)=((a+1:Nat):Int):=(by have:=B5.out;have:=HLT.out;rw[wrap64];omega);rw[hw];exact⟨⟨a+1,by have:=HLT.out;omega,rfl,aA ⟨R2.out,R3.out⟩⟩,by have:=HLT.out;simp only[intOf,Int.toNat_natCast];omega⟩
          ·have hai:¬(a:Int)<nt:=(by omega);have K5:=aA hG.out.1;have D5:=aA (hG.out.2.done (by omega));have RB5:=aA ((hG.out.1.block _ (lH RB4.out) (fun x=>x)).trans RB4.out);clear hG;have ea:nt=a:=(by omega);subst ea;go_upto_region 31 with fail;clear c0 c1 c2 c3 c4 c5 c6 c7 c8;have IM5:=IMa;clear IMa;obtain⟨V5,hV5⟩:∃ W,W=wr:=⟨_,rfl⟩;rw[<-hV5] at K5 D5 RB5 IM5 ⊢;clear hV5 hai ha';obtain⟨c0,c1,c2,c3,c4,c5,c6,c7,c8⟩:=IM5.out.cells;have B:=RB5.out;have f0:V5.cell? ⟨rb,0,none⟩=some (.int .u64 0):=(by simp[World.cell?,B]);have y0:V5.frozen? ⟨rb,0,none⟩=false:=(by simp[World.frozen?,B]);have f1:V5.cell? ⟨rb,1,none⟩=some (.int .i64 0):=(by simp[World.cell?,B]);have y1:V5.frozen? ⟨rb,1,none⟩=false:=(by simp[World.frozen?,B]);have f2:V5.cell? ⟨rb,2,none⟩=some (.int .i64 0):=(by simp[World.cell?,B]);have y2:V5.frozen? ⟨rb,2,none⟩=false:=(by simp[World.frozen?,B]);have f3:V5.cell? ⟨rb,3,none⟩=some (.int .i64 0):=(by simp[World.cell?,B]);have y3:V5.frozen? ⟨rb,3,none⟩=false:=(by simp[World.frozen?,B]);have f4:V5.cell? ⟨rb,4,none⟩=some (.slice none 0 0):=(by simp[World.cell?,B]);have y4:V5.frozen? ⟨rb,4,none⟩=false:=(by simp[World.frozen?,B]);have f5:V5.cell? ⟨rb,5,none⟩=some (.slice none 0 0):=(by simp[World.cell?,B]);have y5:V5.frozen? ⟨rb,5,none⟩=false:=(by simp[World.frozen?,B]);have f6:V5.cell? ⟨rb,6,none⟩=some (.slice none 0 0):=(by simp[World.cell?,B]);have y6:V5.frozen? ⟨rb,6,none⟩=false:=(by simp[World.frozen?,B]);have f7:V5.cell? ⟨rb,7,none⟩=some (.slice none 0 0):=(by simp[World.cell?,B]);have y7:V5.frozen? ⟨rb,7,none⟩=false:=(by simp[World.frozen?,B]);have f8:V5.cell? ⟨rb,8,none⟩=some (.slice none 0 0):=(by simp[World.cell?,B]);have y8:V5.frozen? ⟨rb,8,none⟩=false:=(by simp[World.frozen?,B]);clear B;go_wp2_with fail;have ez1:=NM.out;have ez2:=NP.out;have ez3:=NO.out;have ez4:=NH.out;have ez5:=NT.out;subst ez1 ez2 ez3 ez4 ez5;have kS:=((((((((((Kt.refl (fun b=>b=rb) V5).setCell (p:=⟨rb,0,none⟩) rfl (.int .u64 I.bS)).setCell (p:=⟨rb,1,none⟩) rfl (.int .i64 I.lim)).setCell (p:=⟨rb,2,none⟩) rfl (.int .i64 I.ord)).setCell (p:=⟨rb,3,none⟩) rfl (.int .i64 I.reg)).setCell (p:=⟨rb,4,none⟩) rfl (.slice (some ⟨g1,0,none⟩) I.nm I.nm)).setCell (p:=⟨rb,5,none⟩) rfl (.slice (some ⟨g2,0,none⟩) I.np I.np)).setCell (p:=⟨rb,6,none⟩) rfl (.slice va I.no vc)).setCell (p:=⟨rb,7,none⟩) rfl (.slice (some ⟨g4,0,none⟩) I.hd.length I.hd.length)).setCell (p:=⟨rb,8,none⟩) rfl (.slice (some ⟨g5,0,none⟩) I.pt.length I.pt.length));refine bodyPost_ret (results_cell_row rfl _ _ _ _ _ _ _ rfl (st9 RB5.out _ _ _ _ _ _ _ _ _) Tryz.underlying38 rfl (by kernel_rfl)) rfl ?_;have nf:∀ {n N:Nat} {V:World} {v:Value} {T:TypeId} {F:Nat->Value},XR rb V v n T N F->∀ b,v.ownBlock=some b->¬b=rb:=fun h b hb e=>by have:=h.own hb;omega
           have kE:Kt nO W0 V5:=nT K1.out (nT K2.out (nT K3.out (nT K4.out K5.out)));have k15:Kt nO V1 V5:=nT K2.out (nT K3.out (nT K4.out K5.out));have k25:Kt nO V2 V5:=nT K3.out (nT K4.out K5.out);have k35:Kt nO V3 V5:=nT K4.out K5.out;have d1:=D1.out.keep k15;have d2:=D2.out.keep k25;have d3:=D3.out.keep k35;have d4:=D4.out.keep K5.out;have d5:=D5.out;have hle:w.heap.size<=rb:=(by have:=IB.out;have:=RBE.out;omega);have kw:Kt nO w V2:=nT K0.out (nT K1.out K2.out);have hnr:∀ b,(Value.slice va I.no vc).ownBlock=some b->¬b=rb:=fun b hb e=>by
            obtain⟨c,hc⟩:=wR d3.r hb;rw[e,RB5.out] at hc
            cases hc
           have kF:=(nT K0.out kE).trans kS (fun _ _ x=>x) (fun x hx e=>absurd hx (by have:=IB.out;have:=RBE.out;omega));have hr:=GS.moved d3.r kS hnr kw.size kF;refine⟨⟨.slice (some ⟨g1,0,none⟩) I.nm I.nm,.slice (some ⟨g2,0,none⟩) I.np I.np,.slice va I.no vc,.slice (some ⟨g4,0,none⟩) I.hd.length I.hd.length,.slice (some ⟨g5,0,none⟩) I.pt.length I.pt.length⟩,rfl,⟨xs,?_⟩,kF⟩;exact⟨OK.out,(d1.keepS kS (nf d1)).le hle,(d2.keepS kS (nf d2)).le hle,hr,fun i hi=>((d3.u i hi).keepS kS (nf (d3.u i hi))).le hle,(d4.keepS kS (nf d4)).le hle,(d5.keepS kS (nf d5)).le hle⟩
end Go.Proofs.YtkfmheelhinjdaaGreatDoor.W
