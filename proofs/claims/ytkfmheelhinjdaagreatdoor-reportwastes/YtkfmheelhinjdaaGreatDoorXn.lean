import Derived.ProofKit
import Derived.OpenShut
import Derived.Deep.Slices
import Derived.Deep.Strs
import Derived.Test.YtkfmheelhinjdaaGreatDoorXs
import Derived.Test.YtkfmheelhinjdaaGreatDoorWb
set_option maxRecDepth 1000000
set_option maxHeartbeats 80000000
namespace Go.Proofs.YtkfmheelhinjdaaGreatDoor
open _root_.Go.Proofs.Tryz
open Go.ChangeShapes Go.WideShapes Go.ChangeAt Go.RowKit Go.Deep
set_option linter.unusedVariables false
theorem TS{a:Int}(h:(Lit.int .u64 a).wf=true):∃ n:Nat,a=(n:Int)/\n<2 ^ 64:=by
 have b0:=bounds_u64 h;obtain⟨n,rfl⟩:=Int.eq_ofNat_of_zero_le b0.1;exact⟨n,rfl,by omega⟩
open Go.RowKit
abbrev mV(a s:Nat):Obj:=.cells #[.int .u64 a,.int .u64 s] 45
theorem le8{P:Nat->Prop}(h0:P 0)(h1:P 1)(h2:P 2)(h3:P 3)(h4:P 4)(h5:P 5)(h6:P 6)(h7:P 7)(h8:P 8):∀ k,k<=8->P k:=fun k hk=>by
 rcases Nat.lt_or_ge k 8 with h|h
 ·exact tO h0 h1 h2 h3 h4 h5 h6 h7 k h
 ·obtain rfl:k=8:=by omega
  exact h8
theorem IK:∀ k:Nat,k<=8->∀ (q:Pg) (hq:q.od=(k:Int)) (W:World),
  Calls prog 74 #[cE q] W fun e w'=>e=.returned (.int .u64 ((4096*2 ^ k:Nat):Int))/\Kt nO W w':=by
 apply le8 <;>
 ·intro q hq W;have K0:=aA ((Kt.refl nO W).alloc (aM q));have X0:=aA (nH W (aM q));obtain⟨_,x1,_⟩:=lR X0.out;rw[hq] at x1;clear hq X0;go_enter func74,ntmps74;go_wp2_with fail;go_ret;exact⟨rfl,K0.out⟩
theorem OJ:∀ k:Nat,k<8->∀ (q:Pg) (hq:q.cl=(k:Int)) (W:World),
  Calls prog 112 #[cE q] W fun e w'=>e=.returned (.int .u64 ((aH k:Nat):Int))/\Kt nO W w':=by
 apply tO <;>
 ·intro q hq W;have K0:=aA ((Kt.refl nO W).alloc (aM q));have X0:=aA (nH W (aM q));obtain⟨_,_,x2,_⟩:=lR X0.out;rw[hq] at x2;clear hq X0;go_enter func112,ntmps112;go_wp2_with fail;go_ret;exact⟨rfl,K0.out⟩
section
variable {w W W':World} {hb sb lw:Nat} {x:Bx} {t:Bt} {fr:Nat->List Nat} {ls:List (Nat×Nat)} {S:Sb} {s:Int}
theorem vZ(H:HW w W hb sb lw x t fr ls S s)(n:Nat)(hn:n<=1024):
  Calls prog 73 #[.pointer (some ⟨hb,0,none⟩),.int .i64 n] W fun e w'=>e=.returned (.int .u64 ((x.bS+4096*n:Nat):Int))/\w'=W:=by
 obtain⟨c0,c2,c3,c4,c5,c6⟩:=H.c;have n4:=H.po.nums.2.2.2.1;have hbb:x.bS<=9223372036854775808:=by omega
 clear H;generalize x.bS=b at c2 n4 hbb ⊢;obtain⟨a,ha⟩:=xe (b+4096*n);rw[<-ha];have e1:IntKind.u64.wrap (n:Int)=n:=by rw[wrap_u64];omega
 have e2:IntKind.u64.wrap ((n:Int)*4096)=(n:Int)*4096:=by rw[wrap_u64];omega
 have e3:IntKind.u64.wrap ((b:Int)+(n:Int)*4096)=(a:Int):=by rw[wrap_u64];omega
 have e4:(b:Int)+(n:Int)*4096=(a:Int):=by omega
 clear n4;go_enter func73,ntmps73;go_wp2_with fail;go_ret;exact⟨dY (by omega),rfl⟩
theorem zf9(H:HW w W hb sb lw x t fr ls S s):
  Calls prog 44 #[.pointer (some ⟨hb,0,none⟩)] W fun e w'=>e=.returned (.int .u64 x.n)/\Kt nO W w':=by
 obtain⟨c0,c2,c3,c4,c5,c6⟩:=H.c;have n4:=H.po.nums.2.2.2.1;obtain⟨l0,l1,l2⟩:=H.po.pl.c;have SP:=aA (fun W' (k:Kt nO W W')=>mI (H.keep k).po.pl);have EN:=aA (fun W' (k:Kt nO W W')=>rF (H.keep k).po);obtain⟨b,hb2⟩:=xe (x.bS);obtain⟨en,hen⟩:=xe (x.bS+x.n);rw[<-hen] at EN;obtain⟨n,hn⟩:=xe (x.n);have hbb:b<=9223372036854775808:=by omega
 have e3:(en:Int)-(b:Int)=n:=by omega
 have hnb:n<=9223372036854775808:=by omega
 have heb:en<=9223372036854775808:=by omega
 rw[<-hb2] at c2;rw[<-hn];clear H n4 hb2 hen hn;have C5:=aA (fun W' (k:Kt nO W W')=>(k.cell id c5));have C2:=aA (fun W' (k:Kt nO W W')=>(k.cell id c2));go_enter func44,ntmps44;go_wp2_with fail;have c5':=fun y:KW W=>C5.out y.v y.k
 have c2':=fun y:KW W=>C2.out y.v y.k
 refine bT (by kernel_rfl) (by kernel_rfl) ?_;repeat (go_big_quiet_step (first|(go_at_call 38;exact Calls.kept_of ((SP.out _ (KW.k _)).mono fun e w' h=>⟨h.1,by rw[h.2];exact Kt.refl _ _⟩))|(go_at_call 88;exact Calls.kept_of (EN.out _ (KW.k _)))))
 refine wpQuiet_nil ?_;intro y;have D:=aA y.k;go_wp2_with fail;go_ret;exact⟨by simp,D.out⟩
end
section
variable {w W W':World} {hb sb lw:Nat} {x:Bx} {t:Bt} {fr:Nat->List Nat} {ls:List (Nat×Nat)} {S:Sb} {s:Int}
end
def NF(x:Bx)(fr:Nat->List Nat)(S:Sb)(r:Nat):Prop:=(∃ k,k<8/\r=aH k/\S.pl k=[]/\∀ a,a<=x.o->fr a=[])\/(∃ k,k<=x.o/\r=4096*2 ^ k/\∀ a,k<=a->a<=x.o->fr a=[])
inductive Td(x:Bx)(t:Bt)(fr:Nat->List Nat)(ls:List (Nat×Nat))(S:Sb)(r:Nat)(d:Bool)(p:Nat)(b:Bool)(fr':Nat->List Nat)(ls':List (Nat×Nat))(S':Sb):Prop where
 | old (k g i:Nat) (l rr:List Nat) (hk:k<8) (hr:r=aH k) (hl:S.pl k=g :: l) (hf:S.fl g=i :: rr) (hp:p=aS x g k i) (hb:b=false) (e1:fr'=fr) (e2:ls'=ls) (e3:S'=aR S g k rr)
 | new (k g:Nat) (hk:k<8) (hr:r=aH k) (hl:S.pl k=[]) (hp:p=aS x g k 0) (nd:Ned x t fr d g b fr') (e2:ls'=ls ++ [(g,0)]) (e3:S'=aR (aW S g k) g k (List.range' 1 (aI k-1)))
 | here (k g j:Nat) (l:List Nat) (hk:k<=x.o) (hr:r=4096*2 ^ k) (hkj:k<=j) (hj:j<=x.o) (hz:∀ a,k<=a->a<j->fr a=[]) (hl:fr j=g :: l) (hp:p=ad x g) (hb:b=false) (e1:fr'=cO (cF fr j (M.dropL (fr j) g)) g j k) (e2:ls'=ls ++ [(g,k)]) (e3:S'=S)
 | grew (k:Nat) (hk:k<=x.o) (hr:r=4096*2 ^ k) (hz:∀ a,k<=a->a<=x.o->fr a=[]) (hp:p=ad x t.m.n) (hb:b=true) (e1:fr'=cO fr t.m.n x.o k) (e2:ls'=ls ++ [(t.m.n,k)]) (e3:S'=S)
structure Nx(w W W':World)(hb sb lw:Nat)(x:Bx)(t:Bt)(ls:List (Nat×Nat))(S:Sb)(s:Int)(x':Bx)(t':Bt)(fr':Nat->List Nat)(ls':List (Nat×Nat))(S':Sb):Prop where
 H:HW w W' hb sb lw x' t' fr' ls' S' s
 ch:Ch x t ls S x' t' ls' S'
 kp:Kt (dD x sb) W W'
 ns:∀ y,dD x' sb y->dD x sb y\/W.heap.size<=y
inductive Tq(w W:World)(hb sb lw:Nat)(x:Bx)(t:Bt)(fr:Nat->List Nat)(ls:List (Nat×Nat))(S:Sb)(s:Int)(r:Nat)(d:Bool)(p:Nat)(er:Int)(w':World):Prop where
 | no (hp:p=0) (he:er=2) (nf:NF x fr S r) (hd:d=true\/x.n=x.lim*x.R) (kp:Kt nO W w')
 | yes (x':Bx) (t':Bt) (fr':Nat->List Nat) (ls':List (Nat×Nat)) (S':Sb) (b:Bool) (he:er=0) (td:Td x t fr ls S r d p b fr' ls' S') (nx:Nx w W w' hb sb lw x t ls S s x' t' fr' ls' S') (hL:∀ a z,eO x' ls' S' a z↔eO x ls S a z\/(a=p/\z=r)) (hN:∀ z,¬eO x ls S p z) (hn:x'.n=(if b=true then x.n+x.R else x.n)) (hm:p%r=0) (hb1:b=true->NF x fr S r/\d=false/\x.n+x.R<=x.lim*x.R) (hb2:b=false->¬NF x fr S r)
abbrev qZ(p:Nat)(g:Bool)(er:Int):Ending:=.returned (.tuple #[.int .u64 p,.bool g,.int .i64 er])
theorem qF{k j:Nat}(h:aH k=aH j):k=j:=by
 unfold aH at h;exact zR _ _ (Nat.eq_of_mul_eq_mul_left (show 0<16 by decide) h)
theorem uK{k j:Nat}(h : 4096*2 ^ k=4096*2 ^ j):k=j:=zR _ _ (Nat.eq_of_mul_eq_mul_left (show 0<4096 by decide) h)
theorem mK{k j:Nat}(hk:k<8):aH k≠4096*2 ^ j:=fun e=>by
 have:=(eH hk).2;have : 0<2 ^ j:=Nat.pow_pos (by decide);omega
theorem NF.cell{x fr S k}(hk:k<8):NF x fr S (aH k)↔S.pl k=[]/\∀ a,a<=x.o->fr a=[]:=by
 constructor
 ·rintro (⟨j,h1,h2,h3⟩|⟨j,h1,h2,h3⟩)
  ·obtain rfl:=qF h2;exact h3
  ·exact absurd h2 (mK hk)
 ·exact fun h=>.inl ⟨k,hk,rfl,h⟩
theorem NF.page{x:Bx}{fr S k}(hk:k<=x.o):NF x fr S (4096*2 ^ k)↔∀ a,k<=a->a<=x.o->fr a=[]:=by
 constructor
 ·rintro (⟨j,h1,h2,h3⟩|⟨j,h1,h2,h3⟩)
  ·exact absurd h2.symm (mK h1)
  ·obtain rfl:=uK h2;exact h3
 ·exact fun h=>.inr ⟨k,hk,rfl,h⟩
theorem EH{b k i p:Nat}(hk:k<8)(hb:b%4096=0):(b+4096*p+i*aH k)%aH k=0:=by
 have hc:=(dQ hk).1;have h1:b=b/4096*(aI k*aH k):=by rw[hc];omega
 rw[h1,show 4096*p=p*(aI k*aH k)by rw[hc];omega,<-Nat.mul_assoc,<-Nat.mul_assoc,<-Nat.add_mul,<-Nat.add_mul];exact Nat.mul_mod_left _ _
section
variable {w W W':World} {hb sb lw:Nat} {x:Bx} {t:Bt} {fr:Nat->List Nat} {ls:List (Nat×Nat)} {S:Sb} {s:Int}
theorem HW.take_small(H:HW w W hb sb lw x t fr ls S s){k:Nat}(hk:k<8)(d:Bool):
  Calls prog 128 #[.pointer (some ⟨sb,0,none⟩),.int .i64 k,.bool d] W fun e w'=>∃ p g er,e=qZ p g er/\Tq w W hb sb lw x t fr ls S s (aH k) d p er w':=by
 obtain⟨h,o⟩:=H.so;have hz:=eH hk;refine(ZH o (k:Int) d).mono fun e w' hT=>?_
 cases hT with
 | bad hc=>exact absurd ⟨by omega,by omega⟩ hc
 | stuck k2 hk2 hc hl hz2 hd he kp=>
  obtain rfl:k=k2:=by omega
  exact⟨0,false,2,he,.no rfl rfl ((NF.cell hk).2 ⟨hl,hz2⟩) hd kp⟩
 | old k2 p i l r hk2 hc hl hf he so kp=>
  obtain rfl:k=k2:=by omega
  obtain⟨P,m',h',so',hn⟩:=so;have hcp:=((o.si.pm k hk p).1 (by rw[hl];exact List.mem_cons_self)).1;have hL:∀ a z,eO { x with P:=P } ls (aR S p k r) a z↔eO x ls S a z\/(a=aS x p k i/\z=aH k):=fun a z=>by
   rw[vE (x:=x) (x':={ x with P:=P }) rfl];exact QB o hcp hf a z
  have ch:Ch x t ls S { x with P:=P } { t with m:=m' } ls (aR S p k r):=⟨rfl,rfl,rfl,rfl,fun j _ _=>rfl⟩;refine⟨aS x p k i,false,0,he,.yes _ _ _ _ _ false rfl (.old k p i l r hk rfl hl hf rfl rfl rfl rfl rfl) ⟨H.call so' (gQ.old o H.lv hk hl hf) ch kp,ch,kp,fun y e=>.inl e⟩ hL (o.free_no hcp (by rw[hf];exact List.mem_cons_self)) rfl (EH hk o.bm) (fun e=>by cases e) (fun _ e=>?_)⟩;have:=((NF.cell hk).1 e).1;rw[hl] at this
  cases this
 | new k2 p b hk2 hc hl he so hcp nl kp=>
  obtain rfl:k=k2:=by omega
  obtain⟨x',t',fr',h',hN,so',sm,hfb,nb,htn,hxn'⟩:=so;have hL:∀ a z,eO x' (ls ++ [(p,0)]) (aR (aW S p k) p k (List.range' 1 (aI k-1))) a z↔eO x ls S a z\/(a=aS x p k 0/\z=aH k):=fun a z=>by
   rw[vE (x:=x) (x':=x') sm.bS];exact QA hk hcp nl a z
  have hno:∀ z,¬eO x ls S (aS x p k 0) z:=fun z e=>by
   have h0 : 0<z:=(o.span e).1;obtain⟨_,q,j,q1,q2,q3⟩:=o.span e;have hz2 : 0<2 ^ j:=Nat.pow_pos (by decide);unfold aS at q2 q3;unfold ad at q2 q3;rcases so'.apart (List.mem_append_left _ q1) (List.mem_append_right ls (List.mem_singleton.2 rfl))with ⟨e3,e4⟩|e3|e3
   ·subst e3;exact nl _ q1
   ·omega
   ·rw[Nat.pow_zero] at e3;omega
  have ch:Ch x t ls S x' t' (ls ++ [(p,0)]) (aR (aW S p k) p k (List.range' 1 (aI k-1))):=⟨sm.bS,sm.R,sm.lim,sm.o,fun j h1 _=>hfb j (o.byte h1)⟩;refine⟨aS x p k 0,b,0,he,.yes _ _ _ _ _ b rfl (.new k p hk rfl hl rfl hN rfl rfl) ⟨H.call so' (H.lv.new hk) ch kp,ch,kp,fun y e=>e.elim (fun e=>(nb y e).imp (fun e=>.inl e) id) (fun e=>.inl (.inr e))⟩ hL hno hxn' (EH hk o.bm) (fun e=>?_) (fun e hf=>?_)⟩
  ·cases hN with
   | here j l2 hj hz2 hp hb=>rw[hb] at e;cases e
   | grew hz2 hd hle hb hp=>exact⟨(NF.cell hk).2 ⟨hl,hz2⟩,hd,hle⟩
  ·cases hN with
   | here j l2 hj hz2 hp hb=>
    have:=((NF.cell hk).1 hf).2 j hj;rw[hp] at this
    cases this
   | grew hz2 hd hle hb hp=>rw[hb] at e;cases e
theorem HW.need_big(H:HW w W hb sb lw x t fr ls S s){k:Nat}(hk:k<=x.o)(d:Bool):
  Calls prog 130 #[.pointer (some ⟨lw,0,none⟩),.int .i64 k,.bool d] W fun e w'=>∃ p g er,e=qZ p g er/\Tq w W hb sb lw x t fr ls S s (4096*2 ^ k) d p er w':=by
 obtain⟨h,o⟩:=H.so;have hz : 0<2 ^ k:=Nat.pow_pos (by decide);have key:∀ (p:Nat) (b:Bool) (x':Bx) (t':Bt) (fr':Nat->List Nat) (e:Ending) (w':World),e=.returned (.tuple #[.int .u64 ((ad x p:Nat):Int),.bool b,.int .i64 0])->PO w w' lw x' t' fr' (ls ++ [(p,k)])->Sm x x'->BK t t' ls (ls ++ [(p,k)])->Nb W x x'->Kt (aF x) W w'->S.c p=none->(∀ i,(p,i) ∉ ls)->x'.n=(if b=true then x.n + x.R else x.n)->Td x t fr ls S (4096*2 ^ k) d (ad x p) b fr' (ls ++ [(p,k)]) S->(b=true->NF x fr S (4096*2 ^ k)/\d=false/\x.n + x.R<=x.lim*x.R)->(b=false->¬NF x fr S (4096*2 ^ k))->∃ p g er,e=qZ p g er/\Tq w W hb sb lw x t fr ls S s (4096*2 ^ k) d p er w':=by
  rintro p b x' t' fr' e w' he po' sm bk nb kp hcp nl hxn td h1 h2;have o':=o.pool po' sm bk (fun a c ha=>List.mem_append_left _ (o.mem ha).1) kp;have hL:∀ a z,eO x' (ls ++ [(p,k)]) S a z↔eO x ls S a z\/(a=ad x p/\z=4096*2 ^ k):=fun a z=>by
   rw[vE (x:=x) (x':=x') sm.bS];exact ZN hcp a z
  have hal:p%2 ^ k=0:=(o'.al (List.mem_append_right ls (List.mem_singleton.2 rfl))).2.1;have hno:∀ z,¬eO x ls S (ad x p) z:=fun z e=>by
   have h0 : 0<z:=(o.span e).1;obtain⟨_,q,j,q1,q2,q3⟩:=o.span e;have hz2 : 0<2 ^ j:=Nat.pow_pos (by decide);unfold ad at q2 q3;rcases o'.apart (List.mem_append_left _ q1) (List.mem_append_right ls (List.mem_singleton.2 rfl))with ⟨e3,e4⟩|e3|e3
   ·subst e3;exact nl _ q1
   ·omega
   ·omega
  have ch:Ch x t ls S x' t' (ls ++ [(p,k)]) S:=⟨sm.bS,sm.R,sm.lim,sm.o,fun j h1 h2=>bk j (o.byte h1) (o'.byte h2)⟩;have kp2:Kt (dD x sb) W w':=kp.mono (fun _ _ e=>.inl e);refine⟨ad x p,b,0,he,.yes x' t' fr' _ S b rfl td ⟨H.call o' H.lv ch kp2,ch,kp2,fun y e=>e.elim (fun e=>(nb y e).imp (fun e=>.inl e) id) (fun e=>.inl (.inr e))⟩ hL hno hxn ?_ h1 h2⟩;have hR:=o.sw.pl.bd.hR;have h1 : 4096*2 ^ k ∣ x.bS:=Nat.dvd_trans (by rw[hR];exact Nat.mul_dvd_mul_left _ (Nat.pow_dvd_pow 2 hk)) (Nat.dvd_of_mod_eq_zero H.br);have h2 : 4096*2 ^ k ∣ 4096*p:=Nat.mul_dvd_mul_left _ (Nat.dvd_of_mod_eq_zero hal);exact Nat.mod_eq_zero_of_dvd (Nat.dvd_add h1 h2)
 refine(K.Need_any o.po (k:Int) d).mono fun e w' hN=>?_
 cases hN with
 | bad hb he kp=>
  exfalso
  rw[JQ hk] at hb
  cases hb
 | stuck i hi hi2 hz2 hd he kp=>
  obtain rfl:k=i:=by omega
  exact⟨0,false,2,he,.no rfl rfl ((NF.page hk).2 hz2) hd kp⟩
 | here i j p l hi hi2 hij hj hz2 hp he hs kp=>
  obtain rfl:k=i:=by omega
  obtain⟨t',po',hn,bk⟩:=hs;have hcp:S.c p=none:=by
   have h1:=o.sf.pfree hj (show p∈fr j by rw[hp];exact List.mem_cons_self)
   cases e:S.c p with
   | none=>rfl
   | some c=>
    rw[o.si.eP,jS e] at h1
    cases h1
  refine key p false x t' _ e w' he po' (Sm.refl x) bk (fun y e=>.inl e) kp hcp (fun i hm2=>?_) rfl (.here k p j l hk rfl hij hj hz2 hp rfl rfl rfl rfl rfl) (fun e=>by cases e) (fun _ e=>?_)
  ·have h0:=o.sf.apart0 hj (show p∈fr j by rw[hp];exact List.mem_cons_self) hm2;have hz1 : 0<2 ^ i:=Nat.pow_pos (by decide);have hz2 : 0<2 ^ j:=Nat.pow_pos (by decide);omega
  ·have:=(NF.page hk).1 e j hij hj;rw[hp] at this
   cases this
 | grew i hi hi2 hz2 hd hle he hs kp=>
  obtain rfl:k=i:=by omega
  obtain⟨x',t',po',sm,hn,htn,nb,bk⟩:=hs;have hcp:S.c t.m.n=none:=by
   have h1:=o.sf.pout (Nat.le_refl t.m.n)
   cases e:S.c t.m.n with
   | none=>rfl
   | some c=>
    rw[o.si.eP,jS e] at h1
    cases h1
  refine key t.m.n true x' t' _ e w' he po' sm bk nb kp hcp (fun i hm2=>?_) (by rw[if_pos rfl];exact hn) (.grew k hk rfl hz2 rfl rfl rfl rfl rfl) (fun _=>⟨(NF.page hk).2 hz2,hd,hle⟩) (fun e=>by cases e);have:=(o.al hm2).2.2;have hz1 : 0<2 ^ i:=Nat.pow_pos (by decide);omega
end
theorem TY(n m k:Nat)(W:World)(e1:(n:Int)/16=(m:Int))(hn:n<=1048576)(LG:Calls prog 160 #[.int .u64 m] W fun e w'=>e=.returned (.int .i64 k)/\w'=W):Calls prog 129 #[.int .u64 n] W fun e w'=>e=.returned (.int .i64 k)/\w'=W:=by
 have L:=aA LG;clear LG;go_enter func129,ntmps129;go_wp2_with fail;refine L.out.mono ?_;rintro e w1 ⟨rfl,rfl⟩;go_wp2_with fail;go_ret;exact⟨rfl,rfl⟩
theorem TW(k:Nat)(hk:k<8)(W:World):Calls prog 129 #[.int .u64 ((aH k:Nat):Int)] W fun e w'=>e=.returned (.int .i64 k)/\w'=W:=by
 have hp : 2 ^ k<=2 ^ 8:=Nat.pow_le_pow_right (by decide) (by omega);have LG:=pP (2 ^ k) (by omega) W;rw[oI _ (Nat.ne_of_gt (Nat.pow_pos (by decide))),Nat.log2_two_pow] at LG;exact TY _ (2 ^ k) k W (by unfold aH;omega) (by unfold aH;omega) LG
theorem TV(n m k:Nat)(W:World)(e1:(n:Int)/4096=(m:Int))(hn:n<=1048576)(LG:Calls prog 160 #[.int .u64 m] W fun e w'=>e=.returned (.int .i64 k)/\w'=W):Calls prog 131 #[.int .u64 n] W fun e w'=>e=.returned (.int .i64 k)/\w'=W:=by
 have L:=aA LG;clear LG;go_enter func131,ntmps131;go_wp2_with fail;refine L.out.mono ?_;rintro e w1 ⟨rfl,rfl⟩;go_wp2_with fail;go_ret;exact⟨rfl,rfl⟩
theorem TU(k:Nat)(hk:k<=8)(W:World):Calls prog 131 #[.int .u64 ((4096*2 ^ k:Nat):Int)] W fun e w'=>e=.returned (.int .i64 k)/\w'=W:=by
 have hp : 2 ^ k<=2 ^ 8:=Nat.pow_le_pow_right (by decide) (by omega);have LG:=pP (2 ^ k) (by omega) W;rw[oI _ (Nat.ne_of_gt (Nat.pow_pos (by decide))),Nat.log2_two_pow] at LG;exact TV _ (2 ^ k) k W (by skip;omega) (by skip;omega) LG
section
variable {w W W':World} {hb sb lw:Nat} {x:Bx} {t:Bt} {fr:Nat->List Nat} {ls:List (Nat×Nat)} {S:Sb} {s:Int}
def gF(o m:Nat):Bool:=decide (cl m<=12+o)
theorem TT{o m:Nat}(hm : 16<=m)(h:gF o m=true):(∃ k,k<8/\2 ^ cl m=aH k)\/(∃ k,k<=o/\2 ^ cl m=4096*2 ^ k):=by
 have h:=of_decide_eq_true h;have h4 : 4<=cl m:=by
  refine Nat.le_of_not_lt fun hlt=>?_
  have:=(qD m 3).2 (by omega);omega
 by_cases h12:cl m<12
 ·refine .inl ⟨cl m-4,by omega,?_⟩;unfold aH;rw[show(16:Nat)=2 ^ 4 from rfl,<-Nat.pow_add];congr 1
  omega
 ·refine .inr ⟨cl m-12,by omega,?_⟩;rw[show(4096:Nat)=2 ^ 12 from rfl,<-Nat.pow_add];congr 1
  omega
end
theorem wO(W:World)(hb sz al ov r L:Nat)(hs:sz<18446744073709551616)(ha:al<18446744073709551616)(m:Nat)(hm:m=max (max sz al) 16)(cv rv re:Int)(cb:Bool)(hz:(cv=(r:Int)/\cb=true/\r<18446744073709551616/\¬(L:Int)<r/\rv=(r:Int)/\re=0)\/(cv=(r:Int)/\cb=true/\r<18446744073709551616/\(L:Int)<r/\rv=0/\re=3)\/(cv=0/\cb=false/\rv=0/\re=3))(c4:W.cell? ⟨hb,4,none⟩=some (.int .i64 ov))(CE:Hid (Calls prog 127 #[.int .u64 m] W fun e w'=>e=.returned (.tuple #[.int .u64 cv,.bool cb])/\w'=W))(hov:ov<=8)(hL:(4096:Int)*2 ^ ov=(L:Int))(hLb:L<=1048576):
  Calls prog 82 #[.pointer (some ⟨hb,0,none⟩),.int .u64 sz,.int .u64 al] W fun e w'=>e=.returned (.tuple #[.int .u64 rv,.int .i64 re])/\w'=W:=by
 have ho:((sz:Int)<al/\(al:Int)<16/\(m:Int)=16)\/((sz:Int)<al/\¬(al:Int)<16/\(m:Int)=al)\/(¬(sz:Int)<al/\(sz:Int)<16/\(m:Int)=16)\/(¬(sz:Int)<al/\¬(sz:Int)<16/\(m:Int)=sz):=by omega
 rcases ho with ⟨h1,h2,h3⟩|⟨h1,h2,h3⟩|⟨h1,h2,h3⟩|⟨h1,h2,h3⟩
 all_goals
  rw[h3] at CE;clear h3 hm;rcases hz with ⟨rfl,rfl,hr,hle,rfl,rfl⟩|⟨rfl,rfl,hr,hle,rfl,rfl⟩|⟨rfl,rfl,rfl,rfl⟩
  all_goals
   go_enter func82,ntmps82;go_wp2_with fail;refine CE.out.mono ?_;rintro e w1 ⟨rfl,rfl⟩;go_wp2_with fail;go_ret2;exact⟨rfl,rfl⟩
section
variable {w W W':World} {hb sb lw:Nat} {x:Bx} {t:Bt} {fr:Nat->List Nat} {ls:List (Nat×Nat)} {S:Sb} {s:Int}
theorem zhY(H:HW w W hb sb lw x t fr ls S s)(sz al:Nat)(hs:sz<18446744073709551616)(ha:al<18446744073709551616)(m:Nat)(hm:m=max (max sz al) 16):
  Calls prog 82 #[.pointer (some ⟨hb,0,none⟩),.int .u64 sz,.int .u64 al] W fun e w'=>e=.returned (.tuple #[.int .u64 ((if gF x.o m=true then 2 ^ cl m else 0:Nat):Int),.int .i64 (if gF x.o m=true then 0 else 3)])/\w'=W:=by
 have n1:=H.po.nums.1;have c4:=H.c.2.2.2.1;have hmb:m<18446744073709551616:=by omega
 have CE:=TM m hmb W;obtain⟨L,hL⟩:=xe (4096*2 ^ x.o);have hLi:(4096:Int)*2 ^ x.o=(L:Int):=by rw[hL];simp
 have hLb:L<=1048576:=by
  have : 2 ^ x.o<=2 ^ 8:=Nat.pow_le_pow_right (by decide) n1;omega
 have hLp:L=2 ^ (12+x.o):=by rw[hL,Nat.pow_add]
 by_cases h64:cl m<64
 ·have hv:kU 64 m=2 ^ cl m:=by unfold kU;rw[if_pos h64]
  have hbt:pF 64 m=true:=decide_eq_true h64;have hlt : 2 ^ cl m<18446744073709551616:=by
   have:=(jN (cl m) 64).2 h64;omega
  rw[hv,hbt] at CE;have hok:=nE (cl m) (12+x.o);rw[<-hLp] at hok
  cases ho:gF x.o m with
  | true=>
   have hle:=hok.2 (of_decide_eq_true ho);rw[if_pos rfl,if_pos rfl];obtain⟨r,hr⟩:=xe (2 ^ cl m);rw[<-hr] at CE hle hlt ⊢;clear hok hv hbt hLp hr ho h64;exact wO W hb sz al x.o r L hs ha m hm _ _ _ _ (.inl ⟨rfl,rfl,hlt,by omega,rfl,rfl⟩) c4 CE n1 hLi hLb
  | false=>
   have hle:=fun e=>of_decide_eq_false ho (hok.1 e)
   rw[if_neg (by decide),if_neg (by decide)];obtain⟨r,hr⟩:=xe (2 ^ cl m);rw[<-hr] at CE hle hlt;clear hok hv hbt hLp hr ho h64;exact wO W hb sz al x.o r L hs ha m hm _ _ _ _ (.inr (.inl ⟨rfl,rfl,hlt,by have:=Nat.lt_of_not_le hle;omega,rfl,rfl⟩)) c4 CE n1 hLi hLb
 ·have hv:kU 64 m=0:=by unfold kU;rw[if_neg h64]
  have hbt:pF 64 m=false:=decide_eq_false h64;rw[hv,hbt] at CE;have ho:gF x.o m=false:=decide_eq_false (by omega);rw[ho,if_neg (by decide),if_neg (by decide)];exact wO W hb sz al x.o 0 L hs ha m hm _ _ _ _ (.inr (.inr ⟨rfl,rfl,rfl,rfl⟩)) c4 CE n1 hLi hLb
end
section
variable {w W W1 W':World} {hb sb lw:Nat} {x:Bx} {t:Bt} {fr:Nat->List Nat} {ls:List (Nat×Nat)} {S:Sb} {s:Int}
theorem Nx.from{x' t' fr' ls' S'}(k:Kt nO W W1)(h:Nx w W1 W' hb sb lw x t ls S s x' t' fr' ls' S'):Nx w W W' hb sb lw x t ls S s x' t' fr' ls' S':=
 ⟨h.H,h.ch,(k.mono (fun _ _ e=>e.elim)).trans h.kp (fun _ _ e=>e) (fun _ _ e=>e),fun y hy=>(h.ns y hy).imp id (Nat.le_trans k.size)⟩
theorem Tq.from{r:Nat}{d:Bool}{p:Nat}{er:Int}(k:Kt nO W W1)(h:Tq w W1 hb sb lw x t fr ls S s r d p er W'):Tq w W hb sb lw x t fr ls S s r d p er W':=by
 cases h with
 | no hp he nf hd kp=>exact .no hp he nf hd (nT k kp)
 | yes x' t' fr' ls' S' b he td nx hL hN hn hm hb1 hb2=>exact .yes x' t' fr' ls' S' b he td (nx.from k) hL hN hn hm hb1 hb2
theorem Tq.st{r:Nat}{d:Bool}{p:Nat}{er:Int}(H:HW w W hb sb lw x t fr ls S s)(h:Tq w W hb sb lw x t fr ls S s r d p er W'):∃ x' t' fr' ls' S',HW w W' hb sb lw x' t' fr' ls' S' s:=by
 cases h with
 | no hp he nf hd kp=>exact⟨_,_,_,_,_,H.keep kp⟩
 | yes x' t' fr' ls' S' b he td nx=>exact⟨_,_,_,_,_,nx.H⟩
theorem Tq.c{r:Nat}{d:Bool}{p:Nat}{er:Int}(H:HW w W hb sb lw x t fr ls S s)(h:Tq w W hb sb lw x t fr ls S s r d p er W'):W'.cell? ⟨hb,5,none⟩=some (.pointer (some ⟨lw,0,none⟩))/\W'.cell? ⟨hb,6,none⟩=some (.pointer (some ⟨sb,0,none⟩)):=by
 obtain⟨x',t',fr',ls',S',H'⟩:=h.st H;exact⟨H'.c.2.2.2.2.1,H'.c.2.2.2.2.2⟩
theorem zfN(H:HW w W hb sb lw x t fr ls S s){k:Nat}(hk:k<8)(d:Bool):
  Calls prog 83 #[.pointer (some ⟨hb,0,none⟩),.int .u64 ((aH k:Nat):Int),.bool d] W fun e w'=>∃ p er,e=.returned (.tuple #[.int .u64 ((p:Nat):Int),.int .i64 er])/\Tq w W hb sb lw x t fr ls S s (aH k) d p er w':=by
 have hz:=eH hk;obtain⟨c0,c2,c3,c4,c5,c6⟩:=H.c;have KD:=aA ((Kt.refl nO W).drew);have CL:=aA (TW k hk);have TK:=aA (((H.keep KD.out).take_small hk d).mono fun e w' h=>(show ∃ p g er,e=qZ p g er/\Tq w W hb sb lw x t fr ls S s (aH k) d p er w' from by
  obtain⟨p,g,er,he,hT⟩:=h;exact⟨p,g,er,he,hT.from KD.out⟩))
 have TC:=aA (fun (w':World) (p:Nat) (er:Int) (h:Tq w W hb sb lw x t fr ls S s (aH k) d p er w')=>h.c H);obtain⟨r,hr⟩:=xe (aH k);rw[<-hr] at hz CL TK TC ⊢;have hlt:(r:Int)<4096:=by omega
 have d5:W.drew.cell? ⟨hb,5,none⟩=some (.pointer (some ⟨lw,0,none⟩)):=c5;have d6:W.drew.cell? ⟨hb,6,none⟩=some (.pointer (some ⟨sb,0,none⟩)):=c6;clear H hr hk hz;go_enter func83,ntmps83;go_wp2_with fail;go_region_held3 (fun w'=>w'.cell? ⟨hb,6,none⟩=some (.pointer (some ⟨sb,0,none⟩))) (first|with_reducible exact d6|with_reducible exact e6) (first
  | (go_at_call 129;(with_reducible refine(CL.out _).mono ?_);rintro e w5 ⟨rfl,h5⟩;replace h5:=h5.symm;subst h5)
  | (go_at_call 128;(with_reducible refine(TK.out).mono ?_);rintro e w2 ⟨p,g,er,rfl,hT⟩;have e6:=(TC.out _ _ _ hT).2;have D:=aA hT;clear hT)
  | fail)
 all_goals
  go_wp2_with fail;exact⟨rfl,.tuple #[.int .u64 ((p:Nat):Int),.int .i64 er],by simp[results,results83,go_sem],p,er,rfl,D.out⟩
theorem zhQ(H:HW w W hb sb lw x t fr ls S s){k:Nat}(hk:k<=x.o)(d:Bool):
  Calls prog 83 #[.pointer (some ⟨hb,0,none⟩),.int .u64 ((4096*2 ^ k:Nat):Int),.bool d] W fun e w'=>∃ p er,e=.returned (.tuple #[.int .u64 ((p:Nat):Int),.int .i64 er])/\Tq w W hb sb lw x t fr ls S s (4096*2 ^ k) d p er w':=by
 have hz : 0<2 ^ k:=Nat.pow_pos (by decide);have hk8:k<=8:=Nat.le_trans hk H.po.nums.1;obtain⟨c0,c2,c3,c4,c5,c6⟩:=H.c;have KD:=aA ((Kt.refl nO W).drew);have CL:=aA (TU k hk8);have TK:=aA (((H.keep KD.out).need_big hk d).mono fun e w' h=>(show ∃ p g er,e=qZ p g er/\Tq w W hb sb lw x t fr ls S s (4096*2 ^ k) d p er w' from by
  obtain⟨p,g,er,he,hT⟩:=h;exact⟨p,g,er,he,hT.from KD.out⟩))
 have TC:=aA (fun (w':World) (p:Nat) (er:Int) (h:Tq w W hb sb lw x t fr ls S s (4096*2 ^ k) d p er w')=>h.c H);obtain⟨r,hr⟩:=xe (4096*2 ^ k);have hlr:¬r<4096:=by omega
 rw[<-hr] at CL TK TC ⊢;have hlt:¬(r:Int)<4096:=by omega
 have d5:W.drew.cell? ⟨hb,5,none⟩=some (.pointer (some ⟨lw,0,none⟩)):=c5;clear H hr hk hz hk8;go_enter func83,ntmps83;go_wp2_with fail;go_region_held3 (fun w'=>w'.cell? ⟨hb,5,none⟩=some (.pointer (some ⟨lw,0,none⟩))) (first|with_reducible exact d5|with_reducible exact e5) (first
  | (go_at_call 131;(with_reducible refine(CL.out _).mono ?_);rintro e w5 ⟨rfl,h5⟩;replace h5:=h5.symm;subst h5)
  | (go_at_call 130;(with_reducible refine(TK.out).mono ?_);rintro e w2 ⟨p,g,er,rfl,hT⟩;have e5:=(TC.out _ _ _ hT).1;have D:=aA hT;clear hT)
  | fail)
 all_goals
  go_wp2_with fail;exact⟨rfl,.tuple #[.int .u64 ((p:Nat):Int),.int .i64 er],by simp[results,results83,go_sem],p,er,rfl,D.out⟩
theorem ON(H:HW w W hb sb lw x t fr ls S s)(r:Nat)(hr:(∃ k,k<8/\r=aH k)\/(∃ k,k<=x.o/\r=4096*2 ^ k))(d:Bool):
  Calls prog 83 #[.pointer (some ⟨hb,0,none⟩),.int .u64 r,.bool d] W fun e w'=>∃ p er,e=.returned (.tuple #[.int .u64 ((p:Nat):Int),.int .i64 er])/\Tq w W hb sb lw x t fr ls S s r d p er w':=by
 rcases hr with ⟨k,hk,rfl⟩|⟨k,hk,rfl⟩
 ·exact zfN H hk d
 ·exact zhQ H hk d
inductive Rq8(w W:World)(hb sb lw:Nat)(x:Bx)(t:Bt)(fr:Nat->List Nat)(ls:List (Nat×Nat))(S:Sb)(s:Int)(m:Nat)(d:Bool)(p:Nat)(er:Int)(w':World):Prop where
 | big (ho:gF x.o m=false) (hp:p=0) (he:er=3) (kp:Kt nO W w')
 | ok (ho:gF x.o m=true) (hT:Tq w W hb sb lw x t fr ls S s (2 ^ cl m) d p er w')
theorem Rq8.st{m d p er}(H:HW w W hb sb lw x t fr ls S s)(h:Rq8 w W hb sb lw x t fr ls S s m d p er W'):∃ x' t' fr' ls' S',HW w W' hb sb lw x' t' fr' ls' S' s:=by
 cases h with
 | big ho hp he kp=>exact⟨_,_,_,_,_,H.keep kp⟩
 | ok ho hT=>exact hT.st H
theorem zjw(H:HW w W hb sb lw x t fr ls S s)(sz al:Nat)(hs:sz<18446744073709551616)(ha:al<18446744073709551616)(d:Bool)(m:Nat)(hm:m=max (max sz al) 16):
  Calls prog 37 #[.pointer (some ⟨hb,0,none⟩),.int .u64 sz,.int .u64 al,.bool d] W fun e w'=>∃ p er,e=.returned (.tuple #[.int .u64 ((p:Nat):Int),.int .i64 er])/\Rq8 w W hb sb lw x t fr ls S s m d p er w':=by
 have SF:=aA (zhY H sz al hs ha m hm);have HH:=aA H
 cases ho:gF x.o m with
 | false=>
  rw[ho] at SF;rw[if_neg (by decide),if_neg (by decide)] at SF;have D:=aA (show Rq8 w W hb sb lw x t fr ls S s m d 0 3 W from .big ho rfl rfl (Kt.refl _ _));clear H ho hm;go_enter func37,ntmps37;go_wp2_with fail;refine SF.out.mono ?_;rintro e w1 ⟨rfl,h1⟩;replace h1:=h1.symm;subst h1;go_wp2_with fail;exact⟨rfl,.tuple #[.int .u64 ((0:Nat):Int),.int .i64 3],by simp[results,results37,go_sem],0,3,rfl,D.out⟩
 | true=>
  rw[ho] at SF;rw[if_pos rfl,if_pos rfl] at SF;have TK:=aA ((ON H (2 ^ cl m) (TT (by omega) ho) d).mono fun e w' h=>(show ∃ p er,e=.returned (.tuple #[.int .u64 ((p:Nat):Int),.int .i64 er])/\Rq8 w W hb sb lw x t fr ls S s m d p er w' from by
   obtain⟨p,er,he,hT⟩:=h;exact⟨p,er,he,.ok ho hT⟩))
  generalize 2 ^ cl m=r at *;clear H ho hm;go_enter func37,ntmps37;go_wp2_with fail;refine SF.out.mono ?_;rintro e w1 ⟨rfl,h1⟩;replace h1:=h1.symm;subst h1;go_wp2_with fail;refine TK.out.mono ?_;rintro e w2 ⟨p,er,rfl,hT⟩;have D:=aA hT;clear hT;go_wp2_with fail;exact⟨rfl,.tuple #[.int .u64 ((p:Nat):Int),.int .i64 er],by simp[results,results37,go_sem],p,er,rfl,D.out⟩
end
open Go.MuLone
abbrev jY(W:World)(hb:Nat):World:=W.setCell ⟨hb,0,none⟩ (.int .i32 1)
abbrev mU(W:World)(hb:Nat):World:=W.setCell ⟨hb,0,none⟩ (.int .i32 0)
section
variable {w W W1 W':World} {hb sb lw:Nat} {x:Bx} {t:Bt} {fr:Nat->List Nat} {ls:List (Nat×Nat)} {S:Sb} {s:Int}
theorem HW.in(H:HW w W hb sb lw x t fr ls S 0):HW w (jY W hb) hb sb lw x t fr ls S 1:=(H.set 1).1
theorem HW.kout(H:HW w W hb sb lw x t fr ls S 0)(k:Kt nO (jY W hb) W'):Kt nO W (mU W' hb):=H.round id k (H.in.keep k) rfl rfl rfl
theorem Nx.out{x' t' fr' ls' S'}(H:HW w W hb sb lw x t fr ls S 0)(n:Nx w (jY W hb) W' hb sb lw x t ls S 1 x' t' fr' ls' S'):Nx w W (mU W' hb) hb sb lw x t ls S 0 x' t' fr' ls' S':=
 ⟨(n.H.set 0).1,n.ch,H.round H.nhb n.kp n.H n.ch.bS n.ch.lim n.ch.o,fun y hy=>(n.ns y hy).imp id (fun e=>by simpa using e)⟩
theorem Tq.out{r d p er}(H:HW w W hb sb lw x t fr ls S 0)(h:Tq w (jY W hb) hb sb lw x t fr ls S 1 r d p er W'):Tq w W hb sb lw x t fr ls S 0 r d p er (mU W' hb):=by
 cases h with
 | no hp he nf hd kp=>exact .no hp he nf hd (H.kout kp)
 | yes x' t' fr' ls' S' b he td nx hL hN hn hm hb1 hb2=>exact .yes x' t' fr' ls' S' b he td (nx.out H) hL hN hn hm hb1 hb2
theorem Rq8.out{m d p er}(H:HW w W hb sb lw x t fr ls S 0)(h:Rq8 w (jY W hb) hb sb lw x t fr ls S 1 m d p er W'):Rq8 w W hb sb lw x t fr ls S 0 m d p er (mU W' hb):=by
 cases h with
 | big ho hp he kp=>exact .big ho hp he (H.kout kp)
 | ok ho hT=>exact .ok ho (hT.out H)
theorem YG(H:HW w W hb sb lw x t fr ls S 0)(sz:Nat)(hs:sz<18446744073709551616)(d:Bool)(m:Nat)(hm:m=max sz 16):
  Calls prog 12 #[.pointer (some ⟨hb,0,none⟩),.int .u64 sz,.bool d] W fun e w'=>∃ p er,e=.returned (.tuple #[.int .u64 ((p:Nat):Int),.int .i64 er])/\Rq8 w W hb sb lw x t fr ls S 0 m d p er w':=by
 have LK:=aA H.lock;have RQ:=aA (zjw H.in sz 1 hs (by decide) d m (by omega));have ST:=aA (fun (w2:World) (p:Nat) (er:Int) (h:Rq8 w (jY W hb) hb sb lw x t fr ls S 1 m d p er w2)=>And.intro (h.st H.in) (h.out H));clear H hm;go_enter_defers func12,ntmps12;go_wp2_with fail;refine LK.out.mono ?_;rintro e w1 ⟨rfl,rfl⟩;go_wp2_with fail;refine RQ.out.mono ?_;rintro e w2 ⟨p,er,rfl,hq⟩;obtain⟨⟨x',t',fr',ls',S',H2⟩,hD⟩:=ST.out _ _ _ hq;have UL:=aA (H2.unlock .returning);have D:=aA hD;clear hD H2 hq;go_wp2_with fail;refine leaves_cons (f:=36) (args:=#[.pointer (some ⟨hb,0,none⟩)]) (by simp) (by simp[go_sem]) ?_;refine UL.out.mono ?_;rintro e u' w3 ⟨rfl,rfl,rfl⟩;exact⟨_,results_tmp2 rfl _ _ _,p,er,rfl,D.out⟩
end
theorem Pol.from8{w w1 W lw x t}(k:Kt nO w w1)(h:Pol w1 W lw x t):Pol w W lw x t:=⟨h.box,h.bd,fun y hy=>Nat.le_trans k.size (h.nw y hy),nT k h.kp⟩
theorem PO.from8{w w1 W lw x t fr ls}(k:Kt nO w w1)(h:PO w1 W lw x t fr ls):PO w W lw x t fr ls:=⟨h.pl.from8 k,h.sf,h.st,h.bm⟩
theorem lZ{w:World}{y b:Nat}{l o:Int}(h:w.heap[y]?=some (dO b l o)):w.cell? ⟨y,0,none⟩=some (.int .u64 b)/\w.cell? ⟨y,1,none⟩=some (.int .i64 l)/\w.cell? ⟨y,2,none⟩=some (.int .i64 o):=by
 refine⟨?_,?_,?_⟩ <;> simp[World.cell?,h]
theorem vW{w:World}{A:Obj}{a:Addr}{v:Value}(h:w.cell? a=some v):(w.alloc A).cell? a=some v:=((Kt.refl nO w).alloc A).cell id h
abbrev IG(o:Nat):Bt:=⟨fun _=>0,bX o,fun _=>0⟩
abbrev rH:Sb:=⟨fun _=>none,fun _=>[],fun _=>[]⟩
def KV(w:World)(bS lim o:Nat)(e:Ending)(w':World):Prop:=∃ hb sb lw x,e=.returned (.tuple #[.pointer (some ⟨hb,0,none⟩),.int .i64 0])/\HW w w' hb sb lw x (IG o) (fun _=>[]) [] rH 0/\x.bS=bS/\x.R=4096*2 ^ o/\x.lim=lim/\x.n=0/\x.o=o
theorem SM(bS:Nat)(hb64:bS<18446744073709551616)(lim o:Nat)(hl:lim<=64)(ho:o<=8)(hm:M.mayB bS (lim:Int) (o:Int)=true)(hbr:bS%(4096*2 ^ o)=0)(w:World)(hT:jI w):
  Calls prog 11 #[gL bS (lim:Int) (o:Int)] w fun e w'=>KV w bS lim o e w':=by
 have K0:=aA ((Kt.refl nO w).alloc (dO bS (lim:Int) (o:Int)));have X0:=aA (nH w (dO bS (lim:Int) (o:Int)));have NW:=aA (fun W=>QS bS hb64 lim o hl ho hm W);have hb4:bS%4096=0:=Nat.mod_eq_zero_of_dvd (Nat.dvd_trans (Nat.dvd_mul_right _ _) (Nat.dvd_of_mod_eq_zero hbr));have HT:=aA hT;have HB:=aA hbr;have HB4:=aA hb4;obtain⟨x0,x1,x2⟩:=lZ X0.out;clear hm hT hbr hb4;go_enter func11,ntmps11;go_wp2_with fail;refine(NW.out _).mono ?_;rintro e w2 ⟨lw,x,rfl,hP,e1,e2,e3,e4,e5,e6⟩;have P2:=aA (PO.from8 K0.out (QR o hP e4 e5 e6 (by rw[e1];exact HB4.out)));have X2:=aA ((hP.kp.block _ (lH X0.out) (fun x=>x)).trans X0.out);have EX:=aA (show x.bS=bS/\x.R=4096*2 ^ o/\x.lim=lim/\x.n=0/\x.o=o/\x.P=fun _=>none from⟨e1,e2,e3,e4,e5,e6⟩);clear hP e1 e2 e3 e4 e5 e6 x0 x1 x2 NW;have KD:=aA ((Kt.refl nO w2).drew);have NS:=aA (xN (P2.out.keep KD.out) HT.out);obtain⟨x0,x1,x2⟩:=lZ X2.out;go_wp2_with fail;obtain⟨y0,y1,y2⟩:=lZ ((KD.out.block _ (lH X2.out) (fun x=>x)).trans X2.out);go_region_held3 (fun w'=>w'.cell? ⟨w.heap.size,0,none⟩=some (.int .u64 bS)/\w'.cell? ⟨w.heap.size,1,none⟩=some (.int .i64 lim)/\w'.cell? ⟨w.heap.size,2,none⟩=some (.int .i64 o)) (first|with_reducible exact⟨y0,y1,y2⟩|with_reducible exact⟨z0,z1,z2⟩|with_reducible exact⟨vW z0,vW z1,vW z2⟩) (first
  | (go_at_call 34;(with_reducible refine NS.out.mono ?_);rintro e w3 ⟨sb,rfl,hs,hk,hz⟩;have K3:=aA (nT KD.out hk);have S3:=aA hs;obtain⟨z0,z1,z2⟩:=lZ ((K3.out.block _ (lH X2.out) (fun x=>x)).trans X2.out);clear hk hs hz)
  | fail)
 all_goals
  have D:=aA (show HW w (w3.alloc (xG 0 lw sb bS lim o)) w3.heap.size sb lw x (IG o) (fun _=>[]) [] rH 0 from by
   obtain⟨e1,e2,e3,e4,e5,e6⟩:=EX.out;have k:=(Kt.refl nO w3).alloc (xG 0 lw sb bS lim o);have o3:=SO.new (P2.out.keep K3.out) S3.out e6;have h5:=S3.out.pl.kp.size;refine⟨⟨_,o3.keep k⟩,gQ.none,?_,h5,by rw[e1,e2];exact HB.out⟩;rw[e1,e3,e5];exact nH w3 _)
  go_wp2_with fail;exact⟨rfl,.tuple #[.pointer (some ⟨w3.heap.size,0,none⟩),.int .i64 0],by simp[results,results11,go_sem],_,sb,lw,x,rfl,D.out,EX.out.1,EX.out.2.1,EX.out.2.2.1,EX.out.2.2.2.1,EX.out.2.2.2.2.1⟩
def KH(w W:World)(hb n:Nat)(f0 f1:List Nat)(ls:List (Nat×Nat))(S:Sb)(v:Bool):Prop:=∃ sb lw x t fr,HW w W hb sb lw x t fr ls S 0/\x.bS=65536/\x.lim=2/\x.o=1/\x.R=8192/\x.n=n/\fr 0=f0/\fr 1=f1/\(v=true->t.f 8=5)
abbrev tE(p e:Int):Ending:=.returned (.tuple #[.int .u64 p,.int .i64 e])
theorem NJ{m k:Nat}(h1:m<=2 ^ k)(h2:k=0\/2 ^ (k-1)<m):cl m=k:=by
 have a:=(qD m k).1 h1;rcases h2 with rfl|h2
 ·omega
 ·rcases Nat.lt_or_ge (cl m) k with e|e
  ·have b:=(qD m (k-1)).2 (by omega);omega
  ·omega
section
variable {w W W':World} {hb n:Nat} {f0 f1:List Nat} {ls:List (Nat×Nat)} {S:Sb} {v:Bool}
theorem KH.keep(s:KH w W hb n f0 f1 ls S v)(k:Kt nO W W'):KH w W' hb n f0 f1 ls S v:=by
 obtain⟨sb,lw,x,t,fr,H,r⟩:=s;exact⟨sb,lw,x,t,fr,H.keep k,r⟩
theorem KH.kp(s:KH w W hb n f0 f1 ls S v):Kt nO w W:=by
 obtain⟨sb,lw,x,t,fr,H,r⟩:=s;exact H.po.pl.kp
theorem NI{fr:Nat->List Nat}(h0:fr 0=[])(h1:fr 1=[])(k:Nat):∀ a,k<=a->a<=1->fr a=[]:=fun a _ ha=>by
 rcases (show a=0\/a=1 by omega)with rfl|rfl
 ·exact h0
 ·exact h1
theorem KH.mal{x:Bx}{t:Bt}{fr:Nat->List Nat}{sb lw:Nat}(H:HW w W hb sb lw x t fr ls S 0)(ho:x.o=1)(sz:Nat)(hs:sz<=8192)(d:Bool)(c:Nat)(hc:max sz 16<=2 ^ c)(hc2 : 2 ^ (c-1)<max sz 16):
  Calls prog 12 #[.pointer (some ⟨hb,0,none⟩),.int .u64 sz,.bool d] W fun e w'=>∃ p er,e=.returned (.tuple #[.int .u64 ((p:Nat):Int),.int .i64 er])/\Tq w W hb sb lw x t fr ls S 0 (2 ^ c) d p er w':=by
 have hcl:cl (max sz 16)=c:=NJ hc (.inr hc2);refine(YG H sz (by omega) d _ rfl).mono ?_;rintro e w' ⟨p,er,rfl,hR⟩
 cases hR with
 | ok h1 hT=>rw[hcl] at hT;exact⟨p,er,rfl,hT⟩
 | big h1 hp he kp=>
  exfalso
  have h2:=of_decide_eq_false h1;rw[ho] at h2;have:=(qD (max sz 16) 13).1 (by omega);omega
theorem KH.nx{x x':Bx}{t t':Bt}{fr':Nat->List Nat}{sb lw:Nat}{ls':List (Nat×Nat)}{S':Sb}{n':Nat}{f0' f1':List Nat}(hb0:x.bS=65536)(hl:x.lim=2)(ho:x.o=1)(hR:x.R=8192)(nx:Nx w W W' hb sb lw x t ls S 0 x' t' fr' ls' S')(hn:x'.n=n')(h0:fr' 0=f0')(h1:fr' 1=f1'):KH w W' hb n' f0' f1' ls' S' false:=
 ⟨sb,lw,x',t',fr',nx.H,nx.ch.bS.trans hb0,nx.ch.lim.trans hl,nx.ch.o.trans ho,nx.ch.R.trans hR,hn,h0,h1,fun e=>by cases e⟩
theorem KH.pages{x:Bx}{t:Bt}{fr:Nat->List Nat}{sb lw:Nat}(H:HW w W hb sb lw x t fr ls S 0)(hn:x.n=n):t.m.n*4096=n:=by
 obtain⟨h',o⟩:=H.so;rw[<-hn];exact o.st
theorem KH.mal_grow(s:KH w W hb n [] [] ls S v)(g:Nat)(hg:g*4096=n)(sz:Nat)(hs:sz<=8192)(c:Nat)(hc:max sz 16<=2 ^ c)(hc2 : 2 ^ (c-1)<max sz 16)(k:Nat)(hk:k<8)(hck : 2 ^ c=aH k)(hl:S.pl k=[])(hn:n+8192<=16384):
  Calls prog 12 #[.pointer (some ⟨hb,0,none⟩),.int .u64 sz,.bool false] W fun e w'=>e=tE ((65536 + 4096*g:Nat):Int) 0/\KH w w' hb (n + 8192) [g + 1] [] (ls ++ [(g,0)]) (aR (aW S g k) g k (List.range' 1 (aI k-1))) false:=by
 obtain⟨sb,lw,x,t,fr,H,hb0,hli,ho,hR,hxn,h0,h1,hv⟩:=s;have hpg:=KH.pages H hxn;refine(KH.mal H ho sz hs false c hc hc2).mono ?_;rintro e w' ⟨p,er,rfl,hT⟩;rw[hck] at hT;have hz:∀ a,a<=x.o->fr a=[]:=fun a ha=>NI h0 h1 0 a (Nat.zero_le _) (by omega)
 cases hT with
 | no hp he nf hd2 kp=>
  exfalso
  rcases hd2 with e|e
  ·cases e
  ·rw[hxn,hli,hR] at e;omega
 | yes x' t' fr' ls' S' b he td nx hL hN hn2 hm hb1 hb2=>
  subst he
  cases td with
  | old k2 g2 i l rr hk2 hr hl2=>
   obtain rfl:=qF hr;rw[hl] at hl2
   cases hl2
  | here k2 g2 j l hk2 hr=>exact absurd hr (mK hk)
  | grew k2 hk2 hr=>exact absurd hr (mK hk)
  | new k2 g2 hk2 hr hl2 hp nd e2 e3=>
   obtain rfl:=qF hr
   cases nd with
   | here j l hj hz2 hp2=>rw[hz j hj] at hp2;cases hp2
   | grew hz2 hd2 hle hbt hp2 hfr=>
    obtain rfl:g2=g:=(by omega);subst hbt e2 e3;rw[if_pos rfl] at hn2;refine⟨?_,KH.nx hb0 hli ho hR nx (by rw[hn2,hxn,hR]) ?_ ?_⟩
    ·rw[hp];unfold aS;rw[hb0,Nat.zero_mul,Nat.add_zero]
    ·rw[hfr,<-hp2,ho];unfold cO;rw[if_pos (by omega),h0]
    ·rw[hfr,ho];unfold cO;rw[if_neg (by omega),h1]
theorem KH.mal_here{g:Nat}{l:List Nat}(s:KH w W hb n (g :: l) f1 ls S v)(sz:Nat)(hs:sz<=8192)(d:Bool)(c:Nat)(hc:max sz 16<=2 ^ c)(hc2 : 2 ^ (c-1)<max sz 16)(k:Nat)(hk:k<8)(hck : 2 ^ c=aH k)(hl:S.pl k=[]):
  Calls prog 12 #[.pointer (some ⟨hb,0,none⟩),.int .u64 sz,.bool d] W fun e w'=>e=tE ((65536 + 4096*g:Nat):Int) 0/\KH w w' hb n (M.dropL (g :: l) g) f1 (ls ++ [(g,0)]) (aR (aW S g k) g k (List.range' 1 (aI k-1))) false:=by
 obtain⟨sb,lw,x,t,fr,H,hb0,hli,ho,hR,hxn,h0,h1,hv⟩:=s;refine(KH.mal H ho sz hs d c hc hc2).mono ?_;rintro e w' ⟨p,er,rfl,hT⟩;rw[hck] at hT;have hnf:¬NF x fr S (aH k):=fun e=>by
  have:=((NF.cell hk).1 e).2 0 (Nat.zero_le _);rw[h0] at this
  cases this
 cases hT with
 | no hp he nf hd2 kp=>exact absurd nf hnf
 | yes x' t' fr' ls' S' b he td nx hL hN hn2 hm hb1 hb2=>
  subst he
  cases td with
  | old k2 g2 i l2 rr hk2 hr hl2=>
   obtain rfl:=qF hr;rw[hl] at hl2
   cases hl2
  | here k2 g2 j l hk2 hr=>exact absurd hr (mK hk)
  | grew k2 hk2 hr=>exact absurd hr (mK hk)
  | new k2 g2 hk2 hr hl2 hp nd e2 e3=>
   obtain rfl:=qF hr
   cases nd with
   | grew hz2 hd2 hle hbt hp2 hfr=>
    have:=hz2 0 (Nat.zero_le _);rw[h0] at this
    cases this
   | here j l2 hj hz2 hp2 hbt hfr=>
    have hj0:j=0:=by
     rcases Nat.eq_zero_or_pos j with e|e
     ·exact e
     ·have:=hz2 0 e;rw[h0] at this
      cases this
    subst hj0 hbt e2 e3;rw[h0] at hp2;injection hp2 with hp2 hp3
    subst hp2;rw[if_neg (by decide)] at hn2;refine⟨?_,KH.nx hb0 hli ho hR nx (hn2.trans hxn) ?_ ?_⟩
    ·rw[hp];unfold aS;rw[hb0,Nat.zero_mul,Nat.add_zero]
    ·rw[hfr];unfold cO cF;rw[if_neg (by omega),if_pos rfl,h0]
    ·rw[hfr];unfold cO cF;rw[if_neg (by omega),if_neg (by decide)];exact h1
theorem KH.pg_grow(s:KH w W hb n f0 [] ls S v)(g:Nat)(hg:g*4096=n)(sz:Nat)(h1s : 4096<sz)(hs:sz<=8192)(hn:n+8192<=16384):
  Calls prog 12 #[.pointer (some ⟨hb,0,none⟩),.int .u64 sz,.bool false] W fun e w'=>e=tE ((65536 + 4096*g:Nat):Int) 0/\KH w w' hb (n + 8192) f0 [] (ls ++ [(g,1)]) S false:=by
 obtain⟨sb,lw,x,t,fr,H,hb0,hli,ho,hR,hxn,h0,h1,hv⟩:=s;have hpg:=KH.pages H hxn;refine(KH.mal H ho sz hs false 13 (by omega) (by omega)).mono ?_;rintro e w' ⟨p,er,rfl,hT⟩;rw[show(2:Nat) ^ 13=4096*2 ^ 1 from rfl] at hT
 cases hT with
 | no hp he nf hd2 kp=>
  exfalso
  rcases hd2 with e|e
  ·cases e
  ·rw[hxn,hli,hR] at e;omega
 | yes x' t' fr' ls' S' b he td nx hL hN hn2 hm hb1 hb2=>
  subst he
  cases td with
  | old k2 g2 i l rr hk2 hr hl2=>exact absurd hr.symm (mK hk2)
  | new k2 g2 hk2 hr=>exact absurd hr.symm (mK hk2)
  | here k2 g2 j l hk2 hr hkj hj hz hl=>
   obtain rfl:=uK hr;obtain rfl:j=1:=(by omega);rw[h1] at hl
   cases hl
  | grew k2 hk2 hr hz hp hbt e1 e2 e3=>
   obtain rfl:=uK hr;obtain rfl:t.m.n=g:=(by omega);subst hbt e1 e2 e3;rw[if_pos rfl] at hn2;refine⟨?_,KH.nx hb0 hli ho hR nx (by rw[hn2,hxn,hR]) ?_ ?_⟩
   ·rw[hp];unfold ad;rw[hb0]
   ·rw[ho];unfold cO;rw[if_neg (by omega),h0]
   ·rw[ho];unfold cO;rw[if_neg (by omega),h1]
end
def Q1:Sb:=aR (aW rH 0 0) 0 0 (List.range' 1 (aI 0-1))
def Q2:Sb:=aR (aW Q1 1 1) 1 1 (List.range' 1 (aI 1-1))
theorem rD:M.mayB 65536 ((2:Nat):Int) ((1:Nat):Int)=true:=by decide
theorem NE(w:World)(hT:jI w):
  Calls prog 11 #[.agg #[.int .u64 65536,.int .i64 2,.int .i64 1]] w fun e w'=>∃ hb,e=.returned (.tuple #[.pointer (some ⟨hb,0,none⟩),.int .i64 0])/\KH w w' hb 0 [] [] [] rH false:=by
 refine(SM 65536 (by decide) 2 1 (by decide) (by decide) rD (by decide) w hT).mono ?_;rintro e w' ⟨hb,sb,lw,x,rfl,H,e1,e2,e3,e4,e5⟩;exact⟨hb,rfl,sb,lw,x,_,_,H,e1,e3,e5,e2,e4,rfl,rfl,fun e=>by cases e⟩
section
variable {w W:World} {wb sb lw:Nat} {x:Bx} {t:Bt} {fr:Nat->List Nat} {ls:List (Nat×Nat)} {S:Sb} {h:Nat->Int}
end
section
variable {w W W1 W':World} {hb sb lw:Nat} {x:Bx} {t:Bt} {fr:Nat->List Nat} {ls:List (Nat×Nat)} {S:Sb} {s:Int}
theorem HW.space(H:HW w W hb sb lw x t fr ls S s)(hn : 0<x.n):∃ g,x.a=some g/\M.SpA W x.s (some g) x.bS x.R x.lim x.n t.f:=by
 have hs:=H.po.pl.bd.sp;obtain⟨g,hg⟩:=wJ hs hn;exact⟨g,hg,by rw[hg] at hs;exact hs⟩
end
section
variable {w W W1 W':World} {hb sb lw:Nat} {x:Bx} {t:Bt} {fr:Nat->List Nat} {ls:List (Nat×Nat)} {S:Sb} {s:Int}
theorem HW.read(H:HW w W hb sb lw x t fr ls S s){p n:Nat}(hn : 0<n)(hin:M.In x.bS x.n p n):
  Calls prog 43 #[.pointer (some ⟨x.s,0,none⟩),.int .u64 p,.int .u64 n] W fun e w'=>e=.returned (.tuple #[.slice (some ⟨W.heap.size+1,0,none⟩) n n,.int .i64 0])/\M.Blk w' (W.heap.size+1) n (fun i=>t.f (p-x.bS+i))/\Kt nO W w':=by
 obtain⟨g,hg,hs⟩:=H.space (by unfold M.In at hin;omega);refine(M.Read_in x.s g x.bS x.R x.lim x.n t.f p n W hs hn hin).mono ?_;rintro e w' ⟨rfl,h2,h3⟩;exact⟨rfl,h2,fX h3⟩
end
theorem GS.pushM{w0 W:World}{e:TypeId}{size:Nat}{v:Value}{n:Nat}{xs:List Value}(h:GS w0 W e size v n xs)(t:TypeId)(i:TypeInfo)(z:Value)(bytes:Nat)
  (ht:prog.underlying t=some (.slice e)) (hi:prog.info? e=some i) (hz:i.zero=some z) (hs:i.size=size) (hby:i.bytes=bytes) (hzs:z.cells.size=size) (hsz : 0<size)
  (a:Addr) (c m:Nat) (hm : 0<m) (news:List Value) (hl':news.length=m*size) (hnews:∀ j u,news[j]?=some u->W.cell? (a.add j)=some u) (h1:∀ u∈news,u.oneCell'=true) (h63:n+m<=maxLen) (hbb:(n+m)*bytes<=140737488355328):
  ∃ g cap w',(∀ ty,(Builtin.append_ #[t,t] ty #[v,.slice (some a) m c]).run prog W=.ok (.slice (some ⟨g,0,none⟩) (n + m) cap) w')/\GS w0 w' e size (.slice (some ⟨g,0,none⟩) (n + m) cap) (n + m) (xs ++ news)/\w0.heap.size<=g/\Kt (fun b=>v.ownBlock=some b) W w'/\(v.ownBlock=some g\/W.heap.size<=g):=by
 have ho:=h.own;by_cases hr:∃ g cap,v=.slice (some ⟨g,0,none⟩) n cap/\n+m<=cap
 ·obtain⟨g,cap,rfl,hroom⟩:=hr;obtain⟨w',hrun,hown,hgr⟩:=run_append_fits (P:=prog) W 0 t 0 e i size ht hi hs g n cap xs ho a m c news hl' hnews h1 hroom;have hg:=(h.new g cap rfl).resolve_left (by omega);have hk:=mQ hgr;refine⟨g,cap,w',fun ty=>?_,⟨hown,fun g' cap' e=>?_,h.kp.trans hk (fun _ _ x=>x) (fun x hx e=>?_)⟩,hg,hk,.inl (by simp[Value.ownBlock])⟩
  ·rw[<-hrun];simp[Builtin.append_]
  ·simp at e;exact .inr (by omega)
  ·cases e;omega
 ·have key:∃ v' w',(Builtin.append_ #[t,t] 0 #[v,.slice (some a) m c]).run prog W=.ok v' w'/\w'.ownsRow W.heap.size e size v' (n + m) (xs ++ news)/\Kt nO W w':=by
   rcases ho.2 with ⟨rfl,h0⟩|⟨g,cap,cur,rfl,hb,hg,hnc,hcm,hcs,htake⟩
   ·subst h0;have:xs=[]:=List.eq_nil_of_length_eq_zero (by rw[ho.1,Nat.zero_mul]);subst this;obtain⟨v',w',hrun,hown,hgr,_⟩:=run_append_own (P:=prog) W W.heap.size t 0 e i z size bytes ht hi hz hs hby hzs hsz (.slice none 0 0) 0 [] (World.ownsRow_nil _ _ _ _) a m c news hl' hnews h1 h63 hbb (Nat.le_refl _);exact⟨v',w',hrun,hown,(mQ hgr).mono (fun _ _ e=>by cases e)⟩
   ·obtain⟨v',w',hrun,hown,hgr⟩:=run_append_arg_grows (P:=prog) W t 0 e i z size bytes ht hi hz hs hby hzs hsz ⟨g,0,none⟩ n cap xs ho.1 (fun j u hj=>by
     rw[Addr.add_lit,Nat.zero_add];rw[<-htake,List.getElem?_take] at hj;split at hj
     ·simp only[World.cell?,hg];rw[<-Array.getElem?_toList,hj];rfl
     ·cases hj) a m c news hl' hnews (Nat.lt_of_not_le fun hle=>hr ⟨g,cap,rfl,hle⟩) h63 hbb
    exact⟨v',w',hrun,hown,(mQ hgr).mono (fun _ _ e=>by cases e)⟩
  obtain⟨v',w',hrun,hown,hk⟩:=key;rcases hown.2 with ⟨_,h0⟩|⟨g,cap,cur,rfl,hb,hg,h3⟩
  ·omega
  ·refine⟨g,cap,w',fun ty=>?_,⟨⟨hown.1,.inr ⟨g,cap,cur,rfl,Nat.zero_le _,hg,h3⟩⟩,fun g' cap' e=>?_,nT h.kp hk⟩,Nat.le_trans h.kp.size hb,hk.mono (fun _ _ e=>e.elim),.inr hb⟩
   ·rw[<-hrun];simp[Builtin.append_]
   ·simp at e;exact .inr (by have:=h.kp.size;omega)
def blV:List (Nat×Nat)->List Value
 | []=>[]
 | b :: l=>.int .u64 b.1 :: .int .u64 b.2 :: blV l
theorem oL:∀ l m:List (Nat×Nat),blV (l ++ m)=blV l ++ blV m
 | [],_=>rfl
 | b :: l,m=>by
  show _ :: _ :: blV (l ++ m)=_
  rw[oL l m];rfl
theorem AR:∀ l:List (Nat×Nat),(blV l).length=l.length*2
 | []=>rfl
 | b :: l=>by
  show(blV l).length+1+1=(l.length+1)*2
  rw[AR l];omega
theorem AP:∀ (l:List (Nat×Nat)) (u:Value),u∈blV l->u.oneCell'=true
 | b :: l,u,h=>by
  rcases List.mem_cons.1 h with rfl|h
  ·rfl
  ·rcases List.mem_cons.1 h with rfl|h
   ·rfl
   ·exact AP l u h
theorem sZ:(prog.info? 45).map (fun i=>(i.zero,i.size,i.bytes))=some (some (.agg #[.int .u64 0,.int .u64 0]),2,16):=by kernel_rfl
abbrev GB(w0 W:World)(v:Value)(l:List (Nat×Nat)):Prop:=GS w0 W 45 2 v l.length (blV l)
theorem GB.push{w0 W:World}{v:Value}{l:List (Nat×Nat)}(h:GB w0 W v l)(a s:Nat)(hn:l.length<=4000000):
  ∃ g cap w',(∀ t,(Builtin.append_ #[46,46] t #[v,.slice (some ⟨W.heap.size,0,none⟩) 1 1]).run prog (W.alloc (mV a s))=.ok (.slice (some ⟨g,0,none⟩) (l.length + 1) cap) w')/\GB w0 w' (.slice (some ⟨g,0,none⟩) (l.length + 1) cap) (l ++ [(a,s)])/\Kt (fun b=>v.ownBlock=some b) W w':=by
 obtain⟨i,hi,hzz⟩:=Option.map_eq_some_iff.1 sZ;simp only[Prod.mk.injEq] at hzz;have ka:=(Kt.refl nO W).alloc (mV a s);obtain⟨g,cap,w',h1,h2,h5,h6,h7⟩:=(GS.keep h ka).pushM 46 i (.agg #[.int .u64 0,.int .u64 0]) 16 Tryz.underlying46 hi hzz.1 hzz.2.1 hzz.2.2 rfl (by decide) ⟨W.heap.size,0,none⟩ 1 1 (by decide) [.int .u64 a,.int .u64 s] rfl (fun j u hj=>oP (cs:=#[.int .u64 a,.int .u64 s]) j u hj) (by simp[Value.oneCell']) (by simp only[maxLen];omega) (by omega);refine⟨g,cap,w',h1,?_,ka.trans h6 (fun _ _ e=>e.elim) (fun _ _ e=>e)⟩;show GS _ _ _ _ _ (l ++ [(a,s)]).length (blV (l ++ [(a,s)]))
 rw[oL,List.length_append];exact h2
theorem GB.pushL{w0 W:World}{v u:Value}{l m:List (Nat×Nat)}(h:GB w0 W v l)(hu:W.ownsRow 0 45 2 u m.length (blV m))(hn:l.length<=4000000)(hm:m.length<=4000000):
  ∃ v' w',(∀ t,(Builtin.append_ #[46,46] t #[v,u]).run prog W=.ok v' w')/\GB w0 w' v' (l ++ m)/\Kt (fun b=>v.ownBlock=some b) W w':=by
 obtain⟨i,hi,hzz⟩:=Option.map_eq_some_iff.1 sZ;simp only[Prod.mk.injEq] at hzz;rcases hu.2 with ⟨rfl,h0⟩|⟨g,cap,cur,rfl,hb,hg,hnc,hcm,hcs,htake⟩
 ·obtain rfl:=List.eq_nil_of_length_eq_zero h0;refine⟨v,W,fun t=>?_,by rw[List.append_nil];exact h,Kt.refl _ _⟩;exact run_append_owned_none W 0 46 t 45 i 2 Tryz.underlying46 hi v _ _ h.own
 ·rcases Nat.eq_zero_or_pos m.length with h0|h0
  ·obtain rfl:=List.eq_nil_of_length_eq_zero h0;refine⟨v,W,fun t=>?_,by rw[List.append_nil];exact h,Kt.refl _ _⟩;obtain⟨va,vc,rfl⟩:=nI h.own;have hle:l.length<=vc:=by
    rcases h.own.2 with ⟨e,_⟩|⟨g',cap',cur',e,_,hg',hnc',_⟩
    ·simp at e;omega
    ·simp at e;omega
   exact run_append_nothing W 46 46 t 45 i Tryz.underlying46 hi va l.length vc hle _ (Src.ofSlice W Tryz.underlying46 ⟨g,0,none⟩ 0 cap [] (by simp) (fun j u hj=>by simp at hj) (fun u hu=>by simp at hu))
  ·obtain⟨g2,cap2,w',h1,h2,h5,h6,h7⟩:=GS.pushM h 46 i (.agg #[.int .u64 0,.int .u64 0]) 16 Tryz.underlying46 hi hzz.1 hzz.2.1 hzz.2.2 rfl (by decide) ⟨g,0,none⟩ cap m.length h0 (blV m) (AR m) (fun j u hj=>by
     rw[Addr.add_lit,Nat.zero_add];rw[<-htake,List.getElem?_take] at hj;split at hj
     ·simp only[World.cell?,hg];rw[<-Array.getElem?_toList,hj];rfl
     ·cases hj) (AP m) (by simp only[maxLen];omega) (by omega)
   refine⟨_,w',h1,?_,h6⟩;show GS _ _ _ _ _ (l ++ m).length (blV (l ++ m))
   rw[oL,List.length_append];exact h2
theorem XH(b g:Nat):b+4096*(g+1)=b+4096*g+4096:=by omega
def gM(x:Bx)(S:Sb)(g k:Nat):Nat->List (Nat×Nat)
 | 0=>[]
 | j + 1=>if j∈S.fl g then gM x S g k j else gM x S g k j ++ [(aS x g k j,aH k)]
theorem sA(x:Bx)(S:Sb)(g k:Nat):∀ j,(gM x S g k j).length<=j
 | 0=>Nat.le_refl _
 | j+1=>by
  have:=sA x S g k j;unfold gM;split
  ·omega
  ·rw[List.length_append];exact Nat.succ_le_succ this
section
variable {w W W':World} {hb sb lw:Nat} {x:Bx} {t:Bt} {fr:Nat->List Nat} {ls:List (Nat×Nat)} {S:Sb} {s:Int}
theorem zhW(H:HW w W hb sb lw x t fr ls S s){g k j:Nat}(hc:S.c g=some k)(hj:j<aI k):∃ z:Nat,(j∈S.fl g->z=0)/\(j ∉ S.fl g->16<=z)/\z<=2048/\∀ W',Kt nO W W'->Calls prog 113 #[.pointer (some ⟨sb,0,none⟩),.int .u64 ((aS x g k j:Nat):Int)] W' fun e w'=>e=.returned (.int .u64 z)/\Kt nO W' w':=by
 obtain⟨h,o⟩:=H.so;have n4:=H.po.nums.2.2.2.1;obtain⟨hk,sp⟩:=o.si.pg _ k hc;have hm:=o.mem hc;have hof:=lF (x:=x) (p:=g) hk hj (by omega);have hz:=eH hk;have hlv:=o.cell_liv hc hj;by_cases hf:j∈S.fl g
 ·rw[decide_eq_false (fun e=>e hf)] at hlv;refine⟨0,fun _=>rfl,fun e=>absurd hf e,by omega,fun W' kp=>?_⟩;obtain⟨h',o'⟩:=(H.keep kp).so;exact VT o'.sw _ hof.2.2 hlv
 ·rw[decide_eq_true hf] at hlv;refine⟨aH k,fun e=>absurd e hf,fun _=>hz.1,hz.2,fun W' kp=>?_⟩;obtain⟨h',o'⟩:=(H.keep kp).so;have:=XX o'.sw _ hof.2.2 hlv;rw[show dH x t (aS x g k j)=t.m.pg g from(uT (x:=x) (t:=t) hk hj (by omega) hm.2.1 sp.kd sp.cl).2.2.1,sp.cl,Int.toNat_natCast] at this;exact this
theorem XG(H:HW w W hb sb lw x t fr ls S s){g k:Nat}(hc:S.c g=some k)(q:Pg)(hq:q.cl=(k:Int)):
  Calls prog 75 #[.pointer (some ⟨hb,0,none⟩),.int .i64 g,cE q] W fun e w'=>∃ v,e=.returned v/\GB W w' v (gM x S g k (aI k)):=by
 have n4:=H.po.nums.2.2.2.1;have n2:=H.po.nums.2.1;obtain⟨h,o⟩:=H.so;obtain⟨hk,sp⟩:=o.si.pg _ k hc;have hm:=o.mem hc;have hnb:=dQ hk;have hz:=eH hk;have hg:g+1<=1024:=by omega
 clear o h sp;have K0:=aA ((Kt.refl nO W).alloc (aM q));have X0:=aA (nH W (aM q));have CL:=aA (fun W'=>OJ k hk q hq W');have AD:=aA (fun W' (k:Kt nO W W')=>vZ (H.keep k) g (by omega));have AD1:=aA (fun W' (k:Kt nO W W')=>vZ (H.keep k) (g+1) hg);have SZ:=aA (fun j (hj:j<aI k)=>zhW H hc hj);have CB:=aA (fun W' (k:Kt nO W W')=>(H.keep k).c);have CE:=aA (fun j=>And.intro (sA x S g k j) (show gM x S g k (j + 1)=if j∈S.fl g then gM x S g k j else gM x S g k j ++ [(aS x g k j,aH k)] from rfl));have cj:∀ j,aS x g k j=x.bS+4096*g+j*aH k:=fun j=>rfl
 have jm:∀ j,j<=aI k->j*aH k<=4096:=fun j hj=>by
  rw[<-hnb.1];exact Nat.mul_le_mul_right _ hj
 have js:∀ j,(j+1)*aH k=j*aH k+aH k:=fun j=>by rw[Nat.add_mul,Nat.one_mul]
 have CF:=aA (fun j=>cj j);have JM:=aA (fun j (hj:j<=aI k)=>jm j hj);have JS:=aA js;obtain⟨a1,ha1⟩:∃ a,a=x.bS+4096*(g+1):=⟨_,rfl⟩;obtain⟨a0,ha0⟩:∃ a,a=x.bS+4096*g:=⟨_,rfl⟩;rw[<-ha1] at AD1;rw[<-ha0] at AD CF;have hA:a1=a0+4096:=by rw[ha1,ha0];exact XH x.bS g
 have hab:a1<=9223372036854775808:=by omega
 obtain⟨N,hN⟩:=xe (aI k);obtain⟨z,hzz⟩:=xe (aH k);have NZ:=aA (show N*z=4096 by rw[hN,hzz];exact hnb.1);rw[<-hN] at SZ JM hnb ⊢;rw[<-hzz] at CL CE CF JM JS hz hnb;have hNb:N<=256:=hnb.2.2;obtain⟨f,hf⟩:=xe (gM x S g k);rw[<-hf] at CE ⊢;have f0:f 0=[]:=by rw[hf];rfl
 have HH:=aA H;clear H n4 n2 hm hq hc cj jm js ha0 ha1 hN hzz hnb hf hk;go_enter func75,ntmps75;obtain⟨x0,x1,x2,x3,x4,x5,x6,x7,x8,x9,x10⟩:=lR X0.out;go_wp2_with fail;refine(CL.out _).mono ?_;rintro e w1 ⟨rfl,hk1⟩;have K1:=aA (nT K0.out hk1);clear hk1 x0 x1 x2 x3 x4 x5 x6 x7 x8 x9 x10 X0 K0;go_wp2_with fail;refine(AD.out _ K1.out).mono ?_;rintro e w2 ⟨rfl,h2⟩;replace h2:=h2.symm;subst h2;go_wp2_with fail;have HA:=aA hA;clear hA;obtain⟨g1,hg1⟩:=xe (g+1);rw[<-hg1] at AD1 hg;have ig2:(g:Int)+1=(g1:Int):=by omega
 clear hg1;go_loopw [7,9] (fun c p V=>∃ j:Nat,j<=N/\p=.int .u64 ((a0+j*z:Nat):Int)/\Hid (GB W V c (f j))) (fun _ p _=>a1-(intOf p).toNat)
 case atStart=>exact⟨0,Nat.zero_le _,by rw[Nat.zero_mul,Nat.add_zero],aA (by rw[f0];exact GS.nil _ _ _ _ K1.out)⟩
 case round=>
  clear K1 AD f0;obtain⟨j,hj,rfl,hG⟩:=hrel;have hle:=(CE.out j).1;have jm:=JM.out j hj;have A1:=aA (AD1.out _ hG.out.kp);have hA:=HA.out;by_cases hlt:j<N
  ·have js:=JS.out j;have jm1:=JM.out (j+1) hlt;obtain⟨zz,z1,z2,z3,SZj⟩:=SZ.out j hlt;have SZj:=aA SZj;rw[CF.out j] at SZj;have ce:=(CE.out j).2;rw[CF.out j] at ce;obtain⟨c0,c2,c3,c4,c5,c6⟩:=CB.out _ hG.out.kp;rw[js] at jm1;obtain⟨p,hp⟩:=xe (a0+j*z);obtain⟨p1,hp1⟩:∃ p,p=a0+(j+1)*z:=⟨_,rfl⟩;rw[<-hp] at SZj ce ⊢;have hpa:(p:Int)<a1:=(by omega);have hpp:(p:Int)+(z:Int)=p1:=(by omega);have hp1b:p1<=a1:=(by omega);have hpd:p<p1:=(by omega);have PP:=aA (show p1=a0+(j+1)*z from hp1);clear jm jm1 js hp hp1 JM JS hA HA;go_wp2_with fail;refine A1.out.mono ?_;rintro e w3 ⟨rfl,h3⟩;replace h3:=h3.symm;subst h3;go_wp2_with fail;refine(SZj.out _ hG.out.kp).mono ?_;rintro e w4 ⟨rfl,hk4⟩;have G4:=aA (GS.keep hG.out hk4);clear hk4 c0 c2 c3 c4 c5 c6;by_cases hf:j∈S.fl g
   ·rw[if_pos hf] at ce;obtain rfl:=z1 hf;have zn:(((0:Nat):Int) != 0)=false:=rfl;go_wp2_with fail;exact⟨⟨j+1,hlt,by rw[<-PP.out],aA (by rw[ce];exact G4.out)⟩,by simp[intOf];omega⟩
   ·rw[if_neg hf] at ce;have zp:=z2 hf;have zn:((zz:Int) != 0)=true:=(by rw[bne_iff_ne];omega);obtain⟨gg,cap,w5,PU,G5,_⟩:=GB.push G4.out p z (by omega);have G5:=aA G5;have HAP:=aA PU;clear PU;go_wp2_with (at_builtin;refine Lib.wpList_append_run _ rfl _ _ _ _ rfl _ (.slice (some ⟨w4.heap.size,0,none⟩) 1 1) rfl rfl _ _ (HAP.out _) ?_)
    exact⟨⟨j+1,hlt,by rw[<-PP.out],aA (by rw[ce];exact G5.out)⟩,by simp[intOf];omega⟩
  ·obtain rfl:j=N:=(by omega);rw[NZ.out] at jm ⊢;obtain⟨p,hp⟩:=xe (a0+4096);rw[<-hp];have hpa:¬(p:Int)<a1:=(by omega);clear hp hA HA jm NZ JM JS CF;go_wp2_with fail;refine A1.out.mono ?_;rintro e w3 ⟨rfl,h3⟩;replace h3:=h3.symm;subst h3;go_wp2_with fail;go_ret;exact⟨_,rfl,hG.out⟩
end
section
variable {I:W.Img} {fr:Nat->List Nat} {S:Sb} {x:Bx} {t:Bt}
end
section
variable {I:W.Img} {fr:Nat->List Nat} {S:Sb} {x:Bx} {t:Bt}
end
end Go.Proofs.YtkfmheelhinjdaaGreatDoor
