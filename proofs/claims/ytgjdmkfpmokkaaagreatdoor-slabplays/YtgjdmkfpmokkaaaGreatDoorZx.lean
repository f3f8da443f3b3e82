import Derived.Test.YtgjdmkfpmokkaaaGreatDoorZu
set_option maxRecDepth 1000000
set_option maxHeartbeats 80000000
namespace Go.Proofs.YtgjdmkfpmokkaaaGreatDoor
open Go.RowKit
set_option linter.unusedVariables false
theorem K7P.same{w W:World}{b l o P:Nat}{fa:Option Addr}{fc:Nat}{va:Option Addr}{m vc:Nat}{ca:Option Addr}{n cc:Nat}{pa:Option Addr}{pc:Nat}{fr:Nat→List Nat}{ls:List (Nat×Nat)}{al:List Cl}{pl:Nat→List Nat}(K:Kt nO w W)(Z:W.heap[w.heap.size+1]?=some s7Z)(d:D7 W o fa fc va vc ca cc pa pc fr ls al pl)(f v c q:Value):Kt nO w (fin9 W (w.heap.size+1) b (l:Int) (o:Int) (o:Int) (P:Int) f v c q)∧D7 (fin9 W (w.heap.size+1) b (l:Int) (o:Int) (o:Int) (P:Int) f v c q) o fa fc va vc ca cc pa pc fr ls al pl:=by
 have kf:=zad W (w.heap.size+1) b (l:Int) (o:Int) (o:Int) (P:Int) f v c q;exact⟨K.trans kf (fun _ _ e=>e) (fun y hy e=>by omega),d.box Z zaR kf⟩
theorem zjj(b l o P:Nat)(fa:Option Addr)(fc:Nat)(va:Option Addr)(vc:Nat)(ca:Option Addr)(cc:Nat)(pa:Option Addr)(pc:Nat)(fr:Nat→List Nat)(ls:List (Nat×Nat))(al:List Cl)(pl:Nat→List Nat)(k:Int)(hk:¬(0≤k∧k<8))(dn:Bool)(w:World)(h:D7 w o fa fc va vc ca cc pa pc fr ls al pl):
  Calls Tryz.prog 17 #[s7V b (l:Int) (o:Int) (o:Int) (P:Int) (.slice fa (o+1) fc) (.slice va ls.length vc) (.slice ca al.length cc) (.slice pa 8 pc),.int .i64 k,.bool dn] w fun e w'=>K7P w b l o P fr ls al pl 0 false 1 e w':=by
 obtain⟨m,hm⟩:=xe (ls.length);obtain⟨n,hn⟩:=xe (al.length);unfold K7P;rw[←hm,←hn];have T2:=two5 w (s7O b (l:Int) (o:Int) (o:Int) (P:Int) (.slice fa (o+1) fc) (.slice va m vc) (.slice ca n cc) (.slice pa 8 pc)) s7Z;have K0:=hid T2.1;have X0:=hid T2.2.1;have Z0:=hid T2.2.2;have D0:=hid (h.keep T2.1);clear T2 h hm hn;by_cases h0:k<0
 ·go_enter Tryz.func17,Tryz.ntmps17;go_upto_region 1 with fail;generalize (w.alloc (s7O b (l:Int) (o:Int) (o:Int) (P:Int) (.slice fa (o+1) fc) (.slice va m vc) (.slice ca n cc) (.slice pa 8 pc))).alloc s7Z=W0 at *;obtain⟨x0,x1,x2,x3,x4,x5,x6,x7,x8,xf⟩:=s7c X0.out;obtain⟨z0,z1,z2,z3,z4,z5,z6,z7,z8,zf⟩:=s7z Z0.out;have FIN:=hid (K7P.same (b:=b) (l:=l) (P:=P) (m:=m) (n:=n) K0.out Z0.out D0.out (.slice fa (o+1) fc) (.slice va m vc) (.slice ca n cc) (.slice pa 8 pc));go_wp2_with fail;exact⟨rfl,.tuple #[s7V b (l:Int) (o:Int) (o:Int) (P:Int) (.slice fa (o+1) fc) (.slice va m vc) (.slice ca n cc) (.slice pa 8 pc),.int .u64 0,.bool false,.int .i64 1],by simp[results,Tryz.results17,go_sem,z0,z1,z2,z3,z4,z5,z6,z7,z8],fa,fc,va,vc,ca,cc,pa,pc,rfl,FIN.out⟩
 ·have h7:(7:Int)<k:=by omega
  clear hk;go_enter Tryz.func17,Tryz.ntmps17;go_upto_region 1 with fail;generalize (w.alloc (s7O b (l:Int) (o:Int) (o:Int) (P:Int) (.slice fa (o+1) fc) (.slice va m vc) (.slice ca n cc) (.slice pa 8 pc))).alloc s7Z=W0 at *;obtain⟨x0,x1,x2,x3,x4,x5,x6,x7,x8,xf⟩:=s7c X0.out;obtain⟨z0,z1,z2,z3,z4,z5,z6,z7,z8,zf⟩:=s7z Z0.out;have FIN:=hid (K7P.same (b:=b) (l:=l) (P:=P) (m:=m) (n:=n) K0.out Z0.out D0.out (.slice fa (o+1) fc) (.slice va m vc) (.slice ca n cc) (.slice pa 8 pc));have h0':¬k<0:=h0;go_wp2_with fail;exact⟨rfl,.tuple #[s7V b (l:Int) (o:Int) (o:Int) (P:Int) (.slice fa (o+1) fc) (.slice va m vc) (.slice ca n cc) (.slice pa 8 pc),.int .u64 0,.bool false,.int .i64 1],by simp[results,Tryz.results17,go_sem,z0,z1,z2,z3,z4,z5,z6,z7,z8],fa,fc,va,vc,ca,cc,pa,pc,rfl,FIN.out⟩
theorem zfD(b l o P:Nat)(fa:Option Addr)(fc:Nat)(va:Option Addr)(vc:Nat)(ca:Option Addr)(cc:Nat)(pa:Option Addr)(pc:Nat)(fr:Nat→List Nat)(ls:List (Nat×Nat))(al:List Cl)(pl:Nat→List Nat)(k:Nat)(hk:k<8)(dn:Bool)(hpl0:pl k=[])(w:World)(h:D7 w o fa fc va vc ca cc pa pc fr ls al pl)
  (HNEED:∀ W,Kt nO w W→Calls Tryz.prog 18 #[s7V b (l:Int) (o:Int) (o:Int) (P:Int) (.slice fa (o+1) fc) (.slice va ls.length vc) (.slice ca al.length cc) (.slice pa 8 pc),.int .i64 0,.bool dn] W fun e w'=>N7P W b (l:Int) (o:Int) o P fr ls (.slice ca al.length cc) (.slice pa 8 pc) 0 false 2 e w'):
  Calls Tryz.prog 17 #[s7V b (l:Int) (o:Int) (o:Int) (P:Int) (.slice fa (o+1) fc) (.slice va ls.length vc) (.slice ca al.length cc) (.slice pa 8 pc),.int .i64 (k:Int),.bool dn] w fun e w'=>K7P w b l o P fr ls al pl 0 false 2 e w':=by
 obtain⟨m,hm⟩:=xe (ls.length);obtain⟨n,hn⟩:=xe (al.length);have NE:=hid HNEED;clear HNEED;unfold N7P at NE;unfold K7P;rw[←hm,←hn] at NE ⊢;have T2:=two5 w (s7O b (l:Int) (o:Int) (o:Int) (P:Int) (.slice fa (o+1) fc) (.slice va m vc) (.slice ca n cc) (.slice pa 8 pc)) s7Z;have K0:=hid T2.1;have X0:=hid T2.2.1;have Z0:=hid T2.2.2;have D0:=hid (h.keep T2.1);have hkl0:(pl k).length=0:=by rw[hpl0];rfl
 have hki:¬(k:Int)<0:=by omega
 have hki2:¬(7:Int)<(k:Int):=by omega
 have hki3:(k:Int)<8:=by omega
 clear T2 h hm hn hpl0;go_enter Tryz.func17,Tryz.ntmps17;go_upto_region 1 with fail;generalize (w.alloc (s7O b (l:Int) (o:Int) (o:Int) (P:Int) (.slice fa (o+1) fc) (.slice va m vc) (.slice ca n cc) (.slice pa 8 pc))).alloc s7Z=W0 at *;obtain⟨x0,x1,x2,x3,x4,x5,x6,x7,x8,xf⟩:=s7c X0.out;obtain⟨gp,A,C,hpa,p0,_⟩:=D0.out.pr.get k (by omega);subst hpa;rw[hkl0] at p0;have NE0:=hid (NE.out _ K0.out);go_upto_region 6 with (go_at_call 18;refine NE0.out.mono ?_;rintro e w1 ⟨fa1,fc1,va1,vc1,rfl,hk1,hf1,hr1⟩);have ka:=(Kt.refl nO w1).alloc (s7O b (l:Int) (o:Int) (o:Int) (P:Int) (.slice fa1 (o+1) fc1) (.slice va1 m vc1) (.slice ca n cc) (.slice (some ⟨gp,0,none⟩) 8 pc));have k1:=nT hk1 ka;have K1:=hid (nT K0.out k1);have X1:=hid (s7b X0.out k1);have Z1:=hid (s7b Z0.out k1);have D1:=hid (D0.out.keep k1);clear ka k1 hk1 hf1 hr1 NE NE0 x0 x1 x2 x3 x4 x5 x6 x7 x8 xf p0 K0 X0 Z0 D0;generalize w1.heap.size=yt at *;generalize w1.alloc (s7O b (l:Int) (o:Int) (o:Int) (P:Int) (.slice fa1 (o+1) fc1) (.slice va1 m vc1) (.slice ca n cc) (.slice (some ⟨gp,0,none⟩) 8 pc))=w2 at *;obtain⟨x0,x1,x2,x3,x4,x5,x6,x7,x8,xf⟩:=s7c X1.out;obtain⟨z0,z1,z2,z3,z4,z5,z6,z7,z8,zf⟩:=s7z Z1.out;have FIN:=hid (K7P.same (b:=b) (l:=l) (P:=P) (m:=m) (n:=n) K1.out Z1.out D1.out (.slice fa (o+1) fc) (.slice va m vc) (.slice ca n cc) (.slice (some ⟨gp,0,none⟩) 8 pc));go_wp2_with fail;exact⟨rfl,.tuple #[s7V b (l:Int) (o:Int) (o:Int) (P:Int) (.slice fa (o+1) fc) (.slice va m vc) (.slice ca n cc) (.slice (some ⟨gp,0,none⟩) 8 pc),.int .u64 0,.bool false,.int .i64 2],by simp[results,Tryz.results17,go_sem,z0,z1,z2,z3,z4,z5,z6,z7,z8],fa,fc,va,vc,ca,cc,some ⟨gp,0,none⟩,pc,rfl,FIN.out⟩
def Lth(x:Bx)(ls:List (Nat×Nat))(S:Sb)(p s:Nat):Prop:=(∃ g k i,Liv x S p g k i∧s=szC k)∨(∃ q k,(q,k)∈ls∧S.c q=none∧p=ad x q∧s=4096*2 ^ k)
section
variable {w W:World} {sb lw:Nat} {x:Bx} {t:Bt} {fr:Nat→List Nat} {ls:List (Nat×Nat)} {S:Sb} {h:Nat→Int}
theorem SO.apart(o:SO w W sb lw x t fr ls S h){p k q j:Nat}(hp:(p,k)∈ls)(hq:(q,j)∈ls):(p=q∧k=j)∨p+2 ^ k≤q∨q+2 ^ j≤p:=by
 obtain⟨B,s,hN,hL⟩:=o.sf;rcases s.ds _ _ _ _ _ _ ((hL p k).2 hp) ((hL q j).2 hq)with ⟨_,e1,e2⟩|e|e
 ·exact .inl ⟨e1,e2⟩
 ·exact .inr (.inl e)
 ·exact .inr (.inr e)
theorem SO.al(o:SO w W sb lw x t fr ls S h){p k:Nat}(hp:(p,k)∈ls):k≤x.o∧p%2 ^ k=0∧p+2 ^ k≤t.m.n:=o.sf.sn.al hp
theorem SO.span(o:SO w W sb lw x t fr ls S h){p s:Nat}(hl:Lth x ls S p s) : 0<s∧∃ q k,(q,k)∈ls∧ad x q≤p∧p+s≤ad x q+4096*2 ^ k:=by
 rcases hl with ⟨g,k,i,⟨h1,h2,h3,rfl⟩,rfl⟩|⟨q,k,h1,h2,rfl,rfl⟩
 ·have hk:=(o.si.pg g k h1).1;have hz:=zay hk;have hm:=o.mem h1;have n4:=o.po.nums.2.2.2.1;have hc:=zaA (x:=x) (p:=g) hk h2 (by omega);refine⟨by omega,g,0,hm.1,?_,?_⟩
  ·unfold caN ad;omega
  ·unfold caN ad;rw[Nat.pow_zero];omega
 ·have : 0<2 ^ k:=Nat.pow_pos (by decide);exact⟨by omega,q,k,h1,Nat.le_refl _,Nat.le_refl _⟩
theorem SO.inside(o:SO w W sb lw x t fr ls S h){p s:Nat}(hl:Lth x ls S p s):x.base≤p∧p+s≤x.base+x.n:=by
 obtain⟨_,q,k,h1,h2,h3⟩:=o.span hl;have h4:=(o.al h1).2.2;have hst:=o.st;have:(q+2 ^ k)*4096≤t.m.n*4096:=Nat.mul_le_mul_right _ h4;unfold ad at h2 h3;omega
end
def KS7(w W:World)(E:Nat→Prop)(sb lw n:Nat)(f0 f1:List Nat)(ls:List (Nat×Nat))(S:Sb):Prop:=∃ x t fr h,SO w W sb lw x t fr ls S h∧Lve S∧(∀ y,E y→y<W.heap.size∧¬sown x sb y)∧x.base=65536∧x.lim=1∧x.o=1∧x.R=8192∧x.n=n∧fr 0=f0∧fr 1=f1
theorem KS7.keep{w W W' E sb lw n f0 f1 ls S}(s:KS7 w W E sb lw n f0 f1 ls S)(k:Kt nO W W'):KS7 w W' E sb lw n f0 f1 ls S:=by
 obtain⟨x,t,fr,h,o,v,hE,r⟩:=s;exact⟨x,t,fr,h,o.keep k,v,fun y hy=>⟨Nat.lt_of_lt_of_le (hE y hy).1 k.size,(hE y hy).2⟩,r⟩
theorem KS7.stuck{w W E sb lw n ls S}(s:KS7 w W E sb lw n [] [] ls S)(k:Nat)(hk:k<8)(hl:S.pl k=[])(d:Bool)(hd:d=true∨n=8192):
  Calls Tryz.prog 9 #[.pointer (some ⟨sb,0,none⟩),.int .i64 (k:Int),.bool d] W fun e w'=>e=.returned (.tuple #[.int .u64 0,.bool false,.int .i64 2])∧KS7 w w' E sb lw n [] [] ls S∧Kt nO W w':=by
 obtain⟨x,t,fr,h,o,v,hE,hb,hli,ho,hR,hn,h0,h1⟩:=s;have hf:∀ a,a≤x.o→fr a=[]:=fun a ha=>by
  rw[ho] at ha;rcases (show a=0∨a=1 by omega)with rfl|rfl
  ·exact h0
  ·exact h1
 refine(zec o (k:Int) d).mono fun e w' hT=>?_
 cases hT with
 | bad hc=>exact absurd ⟨by omega,by omega⟩ hc
 | stuck k2 hk2 hc hl2 hz hd2 he kp=>exact⟨he,⟨x,t,fr,h,o.keep kp,v,fun y hy=>⟨Nat.lt_of_lt_of_le (hE y hy).1 kp.size,(hE y hy).2⟩,hb,hli,ho,hR,hn,h0,h1⟩,kp⟩
 | old k2 p i l r hk2 hc hl2=>
  obtain rfl:k=k2:=by omega
  rw[hl] at hl2
  cases hl2
 | new k2 p b hk2 hc hl2 he so=>
  obtain⟨x',t',fr',h',hN,_⟩:=so
  cases hN with
  | here j l hj hz hp=>rw[hf j hj] at hp;cases hp
  | grew hz hd2 hle=>
   exfalso
   rcases hd with rfl|rfl
   ·cases hd2
   ·rw[hn,hR,hli] at hle;omega
theorem KS7.grow{w W E sb lw ls S}(s:KS7 w W E sb lw 0 [] [] ls S)(k:Nat)(hk:k<8)(hl:S.pl k=[]):
  Calls Tryz.prog 9 #[.pointer (some ⟨sb,0,none⟩),.int .i64 (k:Int),.bool false] W fun e w'=>e=.returned (.tuple #[.int .u64 65536,.bool true,.int .i64 0])∧KS7 w w' E sb lw 8192 [1] [] (ls ++ [(0,0)]) (takS (freS S 0 k) 0 k (List.range' 1 (ncl k-1)))∧Kt (fun y=>¬E y∧w.heap.size≤y) W w':=by
 obtain⟨x,t,fr,h,o,v,hE,hb,hli,ho,hR,hn,h0,h1⟩:=s;have hf:∀ a,a≤x.o→fr a=[]:=fun a ha=>by
  rw[ho] at ha;rcases (show a=0∨a=1 by omega)with rfl|rfl
  ·exact h0
  ·exact h1
 have hst:=o.st;refine(zec o (k:Int) false).mono fun e w' hT=>?_
 cases hT with
 | bad hc=>exact absurd ⟨by omega,by omega⟩ hc
 | stuck k2 hk2 hc hl2 hz hd2 he kp=>
  exfalso
  rcases hd2 with hd2|hd2
  ·cases hd2
  ·rw[hn,hR,hli] at hd2;omega
 | old k2 p i l r hk2 hc hl2=>
  obtain rfl:k=k2:=by omega
  rw[hl] at hl2
  cases hl2
 | new k2 p b hk2 hc hl2 he so hcp nl kp=>
  obtain rfl:k=k2:=by omega
  obtain⟨x',t',fr',h',hN,so',sm,hfb,nb,htn,hxn⟩:=so
  cases hN with
  | here j l hj hz hp=>rw[hf j hj] at hp;cases hp
  | grew hz hd2 hle hbt hp hfr=>
   subst hbt;have hp0:p=0:=(by rw[hp];omega);subst hp0;rw[if_pos rfl] at hxn;refine⟨?_,⟨x',t',fr',h',so',v.new hk,fun y hy=>⟨Nat.lt_of_lt_of_le (hE y hy).1 kp.size,fun e=>e.elim (fun e=>(nb y e).elim (fun e=>(hE y hy).2 (.inl e)) (fun e=>absurd (hE y hy).1 (Nat.not_lt.2 e))) (fun e=>(hE y hy).2 (.inr e))⟩,?_,?_,?_,?_,?_,?_,?_⟩,kp.mono (fun y _ hy=>⟨fun e=>(hE y e).2 hy,?_⟩)⟩
   ·rw[he,show caN x 0 k 0=65536 by unfold caN;rw[hb];omega];rfl
   ·exact sm.base.trans hb
   ·exact sm.lim.trans hli
   ·exact sm.o.trans ho
   ·exact sm.R.trans hR
   ·rw[hxn,hn,hR]
   ·rw[hfr,←hp];unfold cutF;rw[if_pos (by omega),h0]
   ·rw[hfr];unfold cutF;rw[if_neg (by omega),h1]
   ·rcases hy with hy|rfl
    ·exact o.sw.pl.nw y (.inl hy)
    ·exact o.sw.nw
theorem KS7.old{w W E sb lw n f0 f1 ls S}(s:KS7 w W E sb lw n f0 f1 ls S)(k:Nat)(hk:k<8){p i:Nat}{l r:List Nat}(hl:S.pl k=p :: l)(hf:S.fl p=i :: r)(d:Bool):
  Calls Tryz.prog 9 #[.pointer (some ⟨sb,0,none⟩),.int .i64 (k:Int),.bool d] W fun e w'=>e=.returned (.tuple #[.int .u64 ((65536+4096*p+i*szC k:Nat):Int),.bool false,.int .i64 0])∧KS7 w w' E sb lw n f0 f1 ls (takS S p k r)∧Kt (fun y=>¬E y∧w.heap.size≤y) W w':=by
 obtain⟨x,t,fr,h,o,v,hE,hb,hli,ho,hR,hn,h0,h1⟩:=s;refine(zec o (k:Int) d).mono fun e w' hT=>?_
 cases hT with
 | bad hc=>exact absurd ⟨by omega,by omega⟩ hc
 | stuck k2 hk2 hc hl2=>
  obtain rfl:k=k2:=by omega
  rw[hl] at hl2
  cases hl2
 | new k2 q b hk2 hc hl2=>
  obtain rfl:k=k2:=by omega
  rw[hl] at hl2
  cases hl2
 | old k2 q j l2 r2 hk2 hc hl2 hf2 he so kp=>
  obtain rfl:k=k2:=by omega
  rw[hl] at hl2;injection hl2 with e1 e2
  subst e1;rw[hf] at hf2;injection hf2 with e3 e4
  subst e3 e4;obtain⟨P,m',h',so',hm⟩:=so;refine⟨?_,⟨_,_,fr,h',so',Lve.old o v hk hl hf,fun y hy=>⟨Nat.lt_of_lt_of_le (hE y hy).1 kp.size,(hE y hy).2⟩,hb,hli,ho,hR,hn,h0,h1⟩,kp.mono (fun y _ hy=>⟨fun e=>(hE y e).2 hy,?_⟩)⟩
  ·rw[he,show caN x p k i=65536+4096*p+i*szC k by unfold caN;rw[hb]]
  ·rcases hy with hy|rfl
   ·exact o.sw.pl.nw y (.inl hy)
   ·exact o.sw.nw
def Lv7(S:Sb)(a g k i:Nat):Prop:=S.c g=some k∧i<ncl k∧i ∉ S.fl g∧a=65536+4096*g+i*szC k
theorem KS7.size_no{w W E sb lw n f0 f1 ls S}(s:KS7 w W E sb lw n f0 f1 ls S)(a:Nat)(ha:a<18446744073709551616)(hn:∀ g k i,¬Lv7 S a g k i):
  Calls Tryz.prog 12 #[.pointer (some ⟨sb,0,none⟩),.int .u64 (a:Int)] W fun e w'=>e=.returned (.int .u64 0)∧KS7 w w' E sb lw n f0 f1 ls S∧Kt nO W w':=by
 obtain⟨x,t,fr,h,o,v,hE,r⟩:=s;have hv:livS x t a=false:=by
  cases e:livS x t a with
  | false=>rfl
  | true=>
   obtain⟨g,k,i,h1,h2,h3,h4⟩:=o.liv_of ha e;exact absurd ⟨h1,h2,h3,by rw[h4];unfold caN;rw[r.1]⟩ (hn g k i)
 refine(zhY o.sw a ha hv).mono ?_;rintro e w' ⟨rfl,kp⟩;exact⟨rfl,⟨x,t,fr,h,o.keep kp,v,fun y hy=>⟨Nat.lt_of_lt_of_le (hE y hy).1 kp.size,(hE y hy).2⟩,r⟩,kp⟩
theorem KS7.size_yes{w W E sb lw n f0 f1 ls S}(s:KS7 w W E sb lw n f0 f1 ls S){a g k i:Nat}(hl:Lv7 S a g k i):
  Calls Tryz.prog 12 #[.pointer (some ⟨sb,0,none⟩),.int .u64 (a:Int)] W fun e w'=>e=.returned (.int .u64 ((szC k:Nat):Int))∧KS7 w w' E sb lw n f0 f1 ls S∧Kt nO W w':=by
 obtain⟨x,t,fr,h,o,v,hE,r⟩:=s;obtain⟨h1,h2,h3,h4⟩:=hl;obtain⟨v1,v2,v3,v4,v5,v6⟩:=o.of_liv (p:=a) (g:=g) (k:=k) (i:=i) ⟨h1,h2,h3,by rw[h4];unfold caN;rw[r.1]⟩;have hcl:=(o.si.pg g k h1).2.cl;refine(zf6 o.sw a v6 v1).mono ?_;rintro e w' ⟨rfl,kp⟩;refine⟨?_,⟨x,t,fr,h,o.keep kp,v,fun y hy=>⟨Nat.lt_of_lt_of_le (hE y hy).1 kp.size,(hE y hy).2⟩,r⟩,kp⟩;rw[v4,hcl];rfl
abbrev w7O(base lim o lw sb:Nat)(fv lv pv qv:Value)(po pp:Int):Obj:=.cells #[.int .u64 (base:Int),.int .i64 (lim:Int),.int .i64 (o:Int),.pointer (some ⟨lw,0,none⟩),.pointer (some ⟨sb,0,none⟩),.int .u64 (base:Int),.int .i64 (lim:Int),.int .i64 (o:Int),.int .i64 po,.int .i64 pp,fv,lv,pv,qv] 40
def S0:Sb:=⟨fun _=>none,fun _=>[],fun _=>[]⟩
def Beg7(w:World)(base lim o:Nat)(e:Ending)(w':World):Prop:=∃ wb lw sb x fv lv pv qv,e=.returned (.pointer (some ⟨wb,0,none⟩))∧w'.heap[wb]?=some (w7O base lim o lw sb fv lv pv qv (o:Int) 0)∧w.heap.size≤wb∧SO w w' sb lw x ⟨fun _=>0,newM o,fun _=>0⟩ (fun _=>[]) [] S0 (fun _ => -1)∧x.base=base∧x.R=4096*2 ^ o∧x.lim=lim∧x.n=0∧x.o=o∧Kt nO w w'∧¬sown x sb wb
theorem PO.from{w w1 W lw x t fr ls}(k:Kt nO w w1)(h:PO w1 W lw x t fr ls):PO w W lw x t fr ls:=⟨h.pl.from k,h.sf,h.st,h.bm⟩
theorem zi4(base:Nat)(hb64:base<18446744073709551616)(lim o:Nat)(hl:lim≤64)(ho:o≤8)(hm:M.mayB base (lim:Int) (o:Int)=true)(hb4:base%4096=0)(w:World)(hT:Tab w):
  Calls Tryz.prog 7 #[cfgV base (lim:Int) (o:Int)] w fun e w'=>Beg7 w base lim o e w':=by
 have K0:=hid ((Kt.refl nO w).alloc (cfgO base (lim:Int) (o:Int)));have X0:=hid (nH w (cfgO base (lim:Int) (o:Int)));have MY:=hid (fun W=>M.May_any base hb64 (lim:Int) (o:Int) (by omega) (by omega) (by omega) (by omega) W);rw[hm] at MY;have NW:=hid (fun W=>ze9 base hb64 lim o hl ho hm W);have HT:=hid hT;clear hm hT;go_enter Tryz.func7,Tryz.ntmps7;obtain⟨x0,x1,x2⟩:=cfg3 X0.out;go_wp2_with fail;refine(MY.out _).mono ?_;rintro e w1 ⟨rfl,hk⟩;have X1:=hid (((toK hk).block _ (lH X0.out) (fun x=>x)).trans X0.out);have K1:=hid (nT K0.out (toK hk));clear x0 x1 x2 hk X0 K0 MY;obtain⟨x0,x1,x2⟩:=cfg3 X1.out;go_wp2_with fail;refine(NW.out _).mono ?_;rintro e w2 ⟨lw,x,rfl,hP,e1,e2,e3,e4,e5,e6⟩;have P2:=hid (PO.from K1.out (zfa o hP e4 e5 e6 (by rw[e1];exact hb4)));have X2:=hid ((hP.kp.block _ (lH X1.out) (fun x=>x)).trans X1.out);have EX:=hid (show x.base=base∧x.R=4096*2 ^ o∧x.lim=lim∧x.n=0∧x.o=o∧x.P=fun _=>none from⟨e1,e2,e3,e4,e5,e6⟩);clear hP e1 e2 e3 e4 e5 e6 x0 x1 x2 X1 NW;have NS:=hid (New7 P2.out HT.out);go_wp2_with fail;refine NS.out.mono ?_;rintro e w3 ⟨sb,rfl,hs,hk,hz⟩;have S3:=hid hs;have P3:=hid (P2.out.keep hk);have X3:=hid ((hk.block _ (lH X2.out) (fun x=>x)).trans X2.out);have O3:=hid (SO.new P3.out hs EX.out.2.2.2.2.2);clear hs hk hz NS X2 P2;obtain⟨x0,x1,x2⟩:=cfg3 X3.out;have SP:=hid (zbl P3.out.pl);have MP:=hid (Map6 P3.out.pl);have BP:=hid (zfJ P3.out.pl);go_wp2_with fail;refine SP.out.mono ?_;rintro e w4 ⟨rfl,h4⟩;replace h4:=h4.symm;subst h4;go_wp2_with fail;refine MP.out.mono ?_;rintro e w4 ⟨rfl,h4⟩;replace h4:=h4.symm;subst h4;go_wp2_with fail;refine BP.out.mono ?_;rintro e w4 ⟨rfl,h4⟩;replace h4:=h4.symm;subst h4;go_upto_region 9 with fail;have KD:=hid ((Kt.refl nO w3).drew);have X4:=hid ((KD.out.block _ (lH X3.out) (fun x=>x)).trans X3.out);have NR:=hid (znw base lim o ho w3.drew);clear x0 x1 x2 SP MP BP;obtain⟨x0,x1,x2⟩:=cfg3 X4.out;go_region_held3 (fun w'=>w'.cell? ⟨w.heap.size,0,none⟩=some (.int .u64 (base:Int))∧w'.cell? ⟨w.heap.size,1,none⟩=some (.int .i64 (lim:Int))∧w'.cell? ⟨w.heap.size,2,none⟩=some (.int .i64 (o:Int))) (first|with_reducible exact⟨x0,x1,x2⟩|with_reducible exact⟨y0,y1,y2⟩|with_reducible exact⟨aCL y0,aCL y1,aCL y2⟩) (first
  | (go_at_call 35;(with_reducible refine NR.out.mono ?_);rintro e w5 ⟨ga,gc,qa,qc,rfl,hk⟩;have K5:=hid (nT KD.out hk);obtain⟨y0,y1,y2⟩:=cfg3 ((hk.block _ (lH X4.out) (fun x=>x)).trans X4.out);clear hk)
  | fail)
 all_goals
  have D:=hid (show(w5.alloc (w7O base lim o lw sb (.slice ga (o+1) gc) (.slice none 0 0) (.slice none 0 0) (.slice qa 8 qc) (o:Int) 0)).heap[w5.heap.size]?=some (w7O base lim o lw sb (.slice ga (o+1) gc) (.slice none 0 0) (.slice none 0 0) (.slice qa 8 qc) (o:Int) 0)∧w.heap.size≤w5.heap.size∧SO w (w5.alloc (w7O base lim o lw sb (.slice ga (o+1) gc) (.slice none 0 0) (.slice none 0 0) (.slice qa 8 qc) (o:Int) 0)) sb lw x ⟨fun _=>0,newM o,fun _=>0⟩ (fun _=>[]) [] S0 (fun _ => -1)∧x.base=base∧x.R=4096*2 ^ o∧x.lim=lim∧x.n=0∧x.o=o∧Kt nO w (w5.alloc (w7O base lim o lw sb (.slice ga (o+1) gc) (.slice none 0 0) (.slice none 0 0) (.slice qa 8 qc) (o:Int) 0))∧¬sown x sb w5.heap.size from by
   obtain⟨e1,e2,e3,e4,e5,e6⟩:=EX.out;have k:=K5.out.alloc (w7O base lim o lw sb (.slice ga (o+1) gc) (.slice none 0 0) (.slice none 0 0) (.slice qa 8 qc) (o:Int) 0);have hs:=lH O3.out.sw.bx;have h5:=K5.out.size;have hz:=P3.out.pl.kp.size;exact⟨nH w5 _,by omega,O3.out.keep k,e1,e2,e3,e4,e5,nT P3.out.pl.kp k,fun e=>e.elim (fun e=>by have:=P3.out.pl.lt _ (.inl e);omega) (fun e=>by omega)⟩)
  clear x0 x1 x2 y0 y1 y2;go_wp2_with fail;go_ret;exact⟨_,lw,sb,x,_,_,_,_,rfl,D.out⟩
theorem zc6{w:World}{k:Nat}{cs:Array Value}{t:TypeId}{z:Nat×Nat}(h:w.heap[k]?=some (.cells cs t z))(i:Nat)(u:Value):(w.setCell ⟨k,i,none⟩ u).heap[k]?=some (.cells (cs.setIfInBounds i u) t z):=by
 obtain⟨hlt,hk⟩:=Array.getElem?_eq_some_iff.1 h;show(w.heap.modify k _)[k]?=_
 rw[Array.getElem?_eq_getElem (by rw[Array.size_modify];exact hlt),Array.getElem_modify_self,hk];rfl
end Go.Proofs.YtgjdmkfpmokkaaaGreatDoor
