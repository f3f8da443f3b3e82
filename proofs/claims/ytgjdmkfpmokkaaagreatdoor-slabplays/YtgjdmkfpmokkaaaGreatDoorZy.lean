import Derived.Test.YtgjdmkfpmokkaaaGreatDoorZw
import Derived.Test.YtgjdmkfpmokkaaaGreatDoorZx
set_option maxRecDepth 1000000
set_option maxHeartbeats 80000000
namespace Go.Proofs.YtgjdmkfpmokkaaaGreatDoor
open Go.RowKit
set_option linter.unusedVariables false
theorem zdE(fr:Nat→List Nat)(o:Nat):∀ m i,i+m=o+1→(∀ a,i≤a→a≤o→fr a=[])∨∃ j p l,i≤j∧j≤o∧(∀ a,i≤a→a<j→fr a=[])∧fr j=p :: l
 | 0,i,h=>.inl fun a h1 h2=>by omega
 | m+1,i,h=>by
  cases e:fr i with
  | cons p l=>exact .inr ⟨i,p,l,Nat.le_refl _,by omega,fun a h1 h2=>by omega,e⟩
  | nil=>
   rcases zdE fr o m (i+1) (by omega)with h1|⟨j,p,l,h1,h2,h3,h4⟩
   ·refine .inl fun a h2 h3=>?_
    by_cases e2:a=i
    ·rw[e2];exact e
    ·exact h1 a (by omega) h3
   ·refine .inr ⟨j,p,l,by omega,h2,fun a h5 h6=>?_,h4⟩;by_cases e2:a=i
    ·rw[e2];exact e
    ·exact h3 a (by omega) h6
theorem zcU{fr:Nat→List Nat}{i j j' p p':Nat}{l l':List Nat}(h1:i≤j)(h2:∀ a,i≤a→a<j→fr a=[])(h3:fr j=p :: l)(h1':i≤j')(h2':∀ a,i≤a→a<j'→fr a=[])(h3':fr j'=p' :: l'):j'=j∧p'=p:=by
 have e:j'=j:=by
  rcases Nat.lt_trichotomy j' j with h|h|h
  ·rw[h2 j' h1' h] at h3';cases h3'
  ·exact h
  ·rw[h2' j h1 h] at h3;cases h3
 rw[e,h3] at h3';injection h3' with h4 _
 exact⟨e,h4.symm⟩
theorem zgJ(o:Nat)(ho:o≤8)(P:Int)(fa:Option Addr)(fc:Nat)(va:Option Addr)(vc:Nat)(fr:Nat→List Nat)(hf:∀ j,j≤o→(fr j).length≤1024)(hq:∀ j,j≤o→∀ q∈fr j,q≤1024)(ls:List (Nat×Nat))(hn:ls.length≤1000)(k j p:Nat)(l:List Nat)(hkj:k≤j)(hj:j≤o)(hz:∀ a,k≤a→a<j→fr a=[])(hp:fr j=p :: l)(w:World)(h:FL w fa fc o fr)(hr:RN w (.slice va ls.length vc) ls):
  Calls Tryz.prog 52 #[r5V (o:Int) P (.slice fa (o + 1) fc) (.slice va ls.length vc),.int .i64 (k:Int)] w fun e w'=>T5P w (o:Int) P o (cutF (frU fr j (M.dropL (fr j) p)) p j k) (ls ++ [(p,k)]) p 0 e w':=by
 refine(zj5 o ho P fa fc va vc fr hf hq ls hn k (Nat.le_trans hkj hj) w h hr).mono fun e w' hv=>?_
 rcases hv with ⟨h1,_⟩|⟨j',p',l',h1,h2,h3,h4,h5⟩
 ·rw[h1 j hkj hj] at hp;cases hp
 ·obtain⟨rfl,rfl⟩:=zcU hkj hz hp h1 h3 h4;exact h5
theorem zgK(o:Nat)(ho:o≤8)(P:Int)(fa:Option Addr)(fc:Nat)(va:Option Addr)(vc:Nat)(fr:Nat→List Nat)(hf:∀ j,j≤o→(fr j).length≤1024)(hq:∀ j,j≤o→∀ q∈fr j,q≤1024)(ls:List (Nat×Nat))(hn:ls.length≤1000)(k:Nat)(hk:k≤o)(hz:∀ a,k≤a→a≤o→fr a=[])(w:World)(h:FL w fa fc o fr)(hr:RN w (.slice va ls.length vc) ls):
  Calls Tryz.prog 52 #[r5V (o:Int) P (.slice fa (o+1) fc) (.slice va ls.length vc),.int .i64 (k:Int)] w fun e w'=>T5P w (o:Int) P o fr ls 0 2 e w':=by
 refine(zj5 o ho P fa fc va vc fr hf hq ls hn k hk w h hr).mono fun e w' hv=>?_
 rcases hv with ⟨_,h2⟩|⟨j',p',l',h1,h2,h3,h4,h5⟩
 ·exact h2
 ·rw[hz j' h1 h2] at h4;cases h4
structure L7(w W:World)(wb lw sb:Nat)(x:Bx)(t:Bt)(fr:Nat→List Nat)(ls:List (Nat×Nat))(S:Sb)(al:List Cl)(c:Nat)(fa:Option Addr)(fc:Nat)(va:Option Addr)(vc:Nat)(ca:Option Addr)(cc:Nat)(pa:Option Addr)(pc:Nat):Prop where
 so:∃ h,SO w W sb lw x t fr ls S h
 lv:Lve S
 ae:AL al S.c S.fl
 d:D7 W x.o fa fc va vc ca cc pa pc fr ls al S.pl
 bx:W.heap[wb]?=some (w7O x.base x.lim x.o lw sb (.slice fa (x.o+1) fc) (.slice va ls.length vc) (.slice ca al.length cc) (.slice pa 8 pc) (x.o:Int) (t.m.n:Int))
 nw:w.heap.size≤wb
 nd:(ls.map Prod.fst).Nodup
 lc:ls.length≤c
theorem L7.keep{w W W' wb lw sb x t fr ls S al c fa fc va vc ca cc pa pc}(h:L7 w W wb lw sb x t fr ls S al c fa fc va vc ca cc pa pc)(k:Kt nO W W'):L7 w W' wb lw sb x t fr ls S al c fa fc va vc ca cc pa pc:=by
 obtain⟨hh,o⟩:=h.so;exact⟨⟨hh,o.keep k⟩,h.lv,h.ae,h.d.keep k,s7b h.bx k,h.nw,h.nd,h.lc⟩
structure F7(x:Bx)(t:Bt)(fr:Nat→List Nat)(ls:List (Nat×Nat))(S:Sb)(al:List Cl):Prop where
 o8:x.o≤8
 n1:t.m.n≤1024
 lm:x.lim≤64
 lo:x.lim*2 ^ x.o≤1024
 b63:x.base+x.n≤9223372036854775808
 st:t.m.n*4096=x.n
 rg:∃ r,t.m.n=r*2 ^ x.o∧r≤x.lim∧x.n=r*x.R∧0<x.R
 fl:∀ j,j≤x.o→(fr j).length≤1024
 fb:∀ j,j≤x.o→∀ q∈fr j,q+2 ^ j≤t.m.n
 fn:∀ j,j≤x.o→(fr j).length≤t.m.n
 lb:∀ p k,(p,k)∈ls→k≤x.o∧p+2 ^ k≤t.m.n
 fq:∀ j p,j≤x.o→p∈fr j→S.c p=none∧∀ q i,(q,i)∈ls→q≠p
 na:al.length≤t.m.n
 row:∀ i,i<al.length→(fnC al i).cl<8∧(fnC al i).fl.length≤256∧(∀ q∈(fnC al i).fl,q≤256)∧(fnC al i).pg<t.m.n
 pb:∀ k,k<8→(S.pl k).length≤1024
 cl:∀ p k,S.c p=some k→k<8∧(p,0)∈ls∧p<t.m.n
theorem SO.f7{w W sb lw x t fr ls S h al}(o:SO w W sb lw x t fr ls S h)(a:AL al S.c S.fl):F7 x t fr ls S al:=by
 obtain⟨n1,n2,n3,n4,⟨r,n5,n6,n7⟩,n8,n9⟩:=o.po.nums;have hR:=o.sw.pl.bd.hR;have hfb:∀ j,j≤x.o→∀ q∈fr j,q+2 ^ j≤t.m.n:=fun j hj q hq=>o.sf.lt hj hq
 have hcl:∀ p k,S.c p=some k→k<8∧(p,0)∈ls∧p<t.m.n:=fun p k hp=>⟨(o.si.pg p k hp).1,(o.mem hp).1,(o.mem hp).2.1⟩
 refine⟨n1,n2,n8,n9,n4,o.st,⟨r,n5,n6,n7,by rw[hR];exact Nat.mul_pos (by decide) (Nat.two_pow_pos _)⟩,fun j hj=>o.sf.len hj,hfb,fun j hj=>?_,fun p k hm=>?_,fun j p hj hp=>⟨?_,fun q i hq e=>?_⟩,?_,fun i hi=>?_,fun k hk=>?_,hcl⟩
 ·refine M.nodup_len t.m.n (fr j) (o.sf.nd hj) (fun q hq=>?_);have:=hfb j hj q hq;have hz:=Nat.two_pow_pos j;omega
 ·obtain⟨a1,a2,a3⟩:=o.sf.sn.al hm;exact⟨a1,a3⟩
 ·have h1:=o.sf.pfree hj hp
  cases e:S.c p with
  | none=>rfl
  | some c=>
   rw[o.si.eP,zaQ e] at h1
   cases h1
 ·have h0:=o.sf.apart0 hj hp hq;have hz1:=Nat.two_pow_pos i;have hz2:=Nat.two_pow_pos j;omega
 ·have h1:=M.nodup_len t.m.n (al.map Cl.pg) a.nd (fun q hq=>by
   obtain⟨b,hb,rfl⟩:=List.mem_map.1 hq;exact(hcl _ _ (a.ok b hb).1).2.2)
  rwa [List.length_map] at h1
 ·obtain⟨h1,h2⟩:=a.ok _ (zbH hi);obtain⟨h3,h4,h5⟩:=hcl _ _ h1;have h6:=(zaI h3).2.2;have h7:=o.si.lv _ _ h1;obtain⟨_,h8,_⟩:=o.si.fl _ _ h1;rw[h2] at h7 h8;exact⟨h3,by omega,fun q hq=>by have:=h8 q hq;omega,h5⟩
 ·have h1:=M.nodup_len t.m.n (S.pl k) (o.si.pn k hk) (fun q hq=>(hcl q k ((o.si.pm k hk q).1 hq).1).2.2);omega
structure A7(w V w':World)(sb lw:Nat)(x:Bx)(fr':Nat→List Nat)(ls':List (Nat×Nat))(al':List Cl)(pl':Nat→List Nat)(P':Nat):Prop where
 ex:∃ x' t' S' h',SO w w' sb lw x' t' fr' ls' S' h'∧Lve S'∧AL al' S'.c S'.fl∧S'.pl=pl'∧t'.m.n=P'∧x'.base=x.base∧x'.lim=x.lim∧x'.o=x.o∧(∀ y,sown x' sb y→sown x sb y∨V.heap.size≤y)
 kp:Kt (sown x sb) V w'
theorem zhp{ls:List (Nat×Nat)}(h:(ls.map Prod.fst).Nodup){p k:Nat}(hp:∀ q i,(q,i)∈ls→q≠p):((ls ++ [(p,k)]).map Prod.fst).Nodup:=by
 rw[List.map_append,List.nodup_append];refine⟨h,by simp,fun a ha c hc e=>?_⟩;obtain⟨⟨q,i⟩,hm,rfl⟩:=List.mem_map.1 ha;have hc:c=p:=by simpa using hc
 exact hp q i hm (by rw[←hc];exact e)
inductive NdR(x:Bx)(t:Bt)(fr:Nat→List Nat)(ls:List (Nat×Nat))(k:Nat)(dn:Bool):(Nat→List Nat)→List (Nat×Nat)→Nat→Nat→Bool→Nat→Prop where
 | here (j p:Nat) (l:List Nat) (h1:k≤j) (h2:j≤x.o) (h3:∀ a,k≤a→a<j→fr a=[]) (h4:fr j=p :: l):NdR x t fr ls k dn (cutF (frU fr j (M.dropL (fr j) p)) p j k) (ls ++ [(p,k)]) t.m.n p false 0
 | stuck (h1:∀ a,k≤a→a≤x.o→fr a=[]) (h2:dn=true∨x.n=x.lim*x.R):NdR x t fr ls k dn fr ls t.m.n 0 false 2
 | grew (h1:∀ a,k≤a→a≤x.o→fr a=[]) (h2:dn=false) (h3:x.n + x.R≤x.lim*x.R):NdR x t fr ls k dn (cutF fr t.m.n x.o k) (ls ++ [(t.m.n,k)]) (t.m.n + 2 ^ x.o) t.m.n true 0
theorem zhq{x t fr ls S al}(f:F7 x t fr ls S al)(k:Nat)(hk:k≤x.o)(dn:Bool):∃ fr' ls' P' p g er,NdR x t fr ls k dn fr' ls' P' p g er:=by
 obtain⟨r,h1,h2,h3,h4⟩:=f.rg;rcases zdE fr x.o (x.o+1-k) k (by omega)with hz|⟨j,p,l,a1,a2,a3,a4⟩
 ·by_cases hd:dn=true∨x.n=x.lim*x.R
  ·exact⟨_,_,_,_,_,_,.stuck hz hd⟩
  ·refine⟨_,_,_,_,_,_,.grew hz ?_ ?_⟩
   ·cases dn with
    | true=>exact absurd (.inl rfl) hd
    | false=>rfl
   ·have h5:r≠x.lim:=fun e=>hd (.inr (by rw[h3,e]))
    have h6:(r+1)*x.R≤x.lim*x.R:=Nat.mul_le_mul_right _ (by omega);rw[h3];rw[Nat.succ_mul] at h6;exact h6
 ·exact⟨_,_,_,_,_,_,.here j p l a1 a2 a3 a4⟩
theorem zmj{x t fr ls S al}(f:F7 x t fr ls S al)(hls:ls.length≤900){k:Nat}(hk:k≤x.o){dn:Bool}{fr':Nat→List Nat}{ls':List (Nat×Nat)}{P' p:Nat}{g:Bool}{er:Nat}(h:NdR x t fr ls k dn fr' ls' P' p g er)(fa:Option Addr)(fc:Nat)(va:Option Addr)(vc:Nat)(ca:Option Addr)(cn cc:Nat)(pa:Option Addr)(pn pc:Nat)(w:World)(hf:FL w fa fc x.o fr)(hr:RN w (.slice va ls.length vc) ls):
  Calls Tryz.prog 18 #[s7V x.base (x.lim:Int) (x.o:Int) (x.o:Int) (t.m.n:Int) (.slice fa (x.o+1) fc) (.slice va ls.length vc) (.slice ca cn cc) (.slice pa pn pc),.int .i64 (k:Int),.bool dn] w fun e w'=>N7P w x.base (x.lim:Int) (x.o:Int) x.o P' fr' ls' (.slice ca cn cc) (.slice pa pn pc) p g er e w':=by
 have hq:∀ j,j≤x.o→∀ q∈fr j,q≤1024:=fun j hj q hq=>Nat.le_trans (Nat.le_trans (Nat.le_add_right _ _) (f.fb j hj q hq)) f.n1
 obtain⟨r,h1,h2,h3,h4⟩:=f.rg
 cases h with
 | here j p l a1 a2 a3 a4=>
  have:=zdQ x.base (x.lim:Int) (x.o:Int) x.o t.m.n fa fc va ls.length vc ca cn cc pa pn pc (k:Int) dn _ _ p 0 (.inl rfl) w (fun W kk=>zgJ x.o f.o8 (t.m.n:Int) fa fc va vc fr f.fl hq ls (by omega) k j p l a1 a2 a3 a4 W (hf.keep kk) (hr.keep kk));exact this
 | stuck a1 a2=>
  have hd:dn=true∨x.lim≤r:=a2.imp id fun e=>by
   rw[h3] at e;exact Nat.le_of_eq (Nat.eq_of_mul_eq_mul_right h4 e).symm
  have hTK:=fun W (kk:Kt nO w W)=>zgK x.o f.o8 (t.m.n:Int) fa fc va vc fr f.fl hq ls (by omega) k hk a1 W (hf.keep kk) (hr.keep kk)
  have hn1:=f.n1;rw[h1] at hTK hn1 ⊢;exact zfu x.base x.lim x.o r f.o8 f.lm hn1 fa fc va vc ca cn cc pa pn pc (k:Int) dn fr ls hd w hf hr hTK
 | grew a1 a2 a3=>
  subst a2;have hrl:r<x.lim:=by
   rw[h3] at a3;have h5:(r+1)*x.R≤x.lim*x.R:=(by rw[Nat.succ_mul];exact a3);exact Nat.le_of_mul_le_mul_right h5 h4
  have h6:(r+1)*2 ^ x.o≤x.lim*2 ^ x.o:=Nat.mul_le_mul_right _ hrl;have h7:(r+1)*2 ^ x.o≤1024:=Nat.le_trans h6 f.lo;have h8:∀ j,j≤x.o→(fr j).length≤1023:=fun j hj=>by
   have a:=f.fn j hj;have hz:=Nat.two_pow_pos x.o;rw[Nat.succ_mul,←h1] at h7;omega
  have h9:∀ y∈ls,y.1≠r*2 ^ x.o:=fun y hy e=>by
   have a:=(f.lb y.1 y.2 hy).2;have hz:=Nat.two_pow_pos y.2;rw[←h1] at e;omega
  have:=zha x.base x.lim x.o r f.o8 f.lm h7 hrl fa fc va vc ca cn cc pa pn pc k hk fr h8 hq a1 ls (by omega) h9 w hf hr;rw[Nat.succ_mul,←h1] at this;exact this
theorem zhV{x:Bx}{P:Nat→Option Pg}{sb y:Nat}(e:sown { x with P:=P } sb y):sown x sb y:=e
structure TB7(w:World)(sb lw:Nat)(x:Bx)(t:Bt)(fr:Nat→List Nat)(ls:List (Nat×Nat))(S:Sb)(al:List Cl)(fa:Option Addr)(fc:Nat)(va:Option Addr)(vc:Nat)(ca:Option Addr)(cc:Nat)(pa:Option Addr)(pc:Nat)(cl:Int)(dn:Bool)(q:Nat)(gw:Bool)(er:Nat)(fr':Nat→List Nat)(ls':List (Nat×Nat))(al':List Cl)(pl':Nat→List Nat)(P':Nat):Prop where
 ref:∀ V,D7 V x.o fa fc va vc ca cc pa pc fr ls al S.pl→Calls Tryz.prog 17 #[s7V x.base (x.lim:Int) (x.o:Int) (x.o:Int) (t.m.n:Int) (.slice fa (x.o+1) fc) (.slice va ls.length vc) (.slice ca al.length cc) (.slice pa 8 pc),.int .i64 cl,.bool dn] V fun e w'=>K7P V x.base x.lim x.o P' fr' ls' al' pl' q gw er e w'
 prog:∀ V h,SO w V sb lw x t fr ls S h→Calls Tryz.prog 9 #[.pointer (some ⟨sb,0,none⟩),.int .i64 cl,.bool dn] V fun e w'=>e=.returned (.tuple #[.int .u64 (q:Int),.bool gw,.int .i64 (er:Int)])∧A7 w V w' sb lw x fr' ls' al' pl' P'
 er3:er=0∨er=1∨er=2
 q64:q<18446744073709551616
 nd:(ls'.map Prod.fst).Nodup
 lc:ls'.length≤ls.length+1
theorem zf5{w W sb lw x t fr ls S h al fa fc va vc ca cc pa pc}(o:SO w W sb lw x t fr ls S h)(lv:Lve S)(a:AL al S.c S.fl)(nd:(ls.map Prod.fst).Nodup){k:Nat}(hk:k<8){dn:Bool}(hpl:S.pl k=[]){p P':Nat}{g:Bool}{fr':Nat→List Nat}
  (hcp:S.c p=none) (hnp:∀ q i,(q,i)∈ls→q≠p) (hpb:p≤1024) (ha:al.length≤1023) (h63:x.base+4096*p+4096≤9223372036854775808)
  (hNed:∀ p2 b2 fr2,Ned x t fr dn p2 b2 fr2→p2=p∧b2=g∧fr2=fr') (hst:(∀ a,a≤x.o→fr a=[])→(dn=true∨x.n=x.lim*x.R)→False) (hP:(if g=true then t.m.n+2 ^ x.o else t.m.n)=P')
  (HNR:∀ V,D7 V x.o fa fc va vc ca cc pa pc fr ls al S.pl→∀ W',Kt nO V W'→Calls Tryz.prog 18 #[s7V x.base (x.lim:Int) (x.o:Int) (x.o:Int) (t.m.n:Int) (.slice fa (x.o + 1) fc) (.slice va ls.length vc) (.slice ca al.length cc) (.slice pa 8 pc),.int .i64 0,.bool dn] W' fun e w'=>N7P W' x.base (x.lim:Int) (x.o:Int) x.o P' fr' (ls ++ [(p,0)]) (.slice ca al.length cc) (.slice pa 8 pc) p g 0 e w'):
  TB7 w sb lw x t fr ls S al fa fc va vc ca cc pa pc (k:Int) dn (x.base + 4096*p) g 0 fr' (ls ++ [(p,0)]) (putL ⟨p,k,List.range' 1 (256/2 ^ k-1)⟩ false (putL ⟨p,k,List.range' 0 (256/2 ^ k)⟩ false al)) (updF S.pl k [p]) P':=by
 refine⟨fun V d=>zhr x.base x.lim x.o t.m.n P' (by omega) fa fc va vc ca cc pa pc fr fr' ls (ls ++ [(p,0)]) al S.pl k hk dn p g hpb hpl (a.none_of hcp).2 ha V d (HNR V d),fun V h' o'=>?_,.inl rfl,by omega,zhp nd hnp,by rw[List.length_append,List.length_singleton];omega⟩;refine(zge o' k hk dn).mono fun e w' hT=>?_
 cases hT with
 | bad hb2=>exact absurd ⟨by omega,by omega⟩ hb2
 | old k2 p2 i2 l2 r2 hk2 hc2 hl2=>
  obtain rfl:k=k2:=by omega
  rw[hpl] at hl2
  cases hl2
 | stuck k2 hk2 hc2 hl2 hz hd=>exact(hst hz hd).elim
 | new k2 p2 b2 hk2 hc2 hl2 he so hcp2 nl kp=>
  obtain rfl:k=k2:=by omega
  obtain⟨x',t',fr2,h2,hN,o2,sm,hby,nb,hmn,hxn⟩:=so;obtain⟨rfl,rfl,rfl⟩:=hNed _ _ _ hN;have e0:caN x p2 k 0=x.base+4096*p2:=by unfold caN;omega
  rw[e0] at he;have hnc : 256/2 ^ k=ncl k:=rfl;have hn2:=(zaI hk).2.1;have hr0:List.range' 1 (ncl k-1)≠[]:=fun e=>by
   have:=congrArg List.length e;rw[List.length_range'] at this;simp at this;omega
  refine⟨he,⟨x',t',_,h2,o2,Lve.new lv hk,?_,?_,by rw[hmn];exact hP,sm.base,sm.lim,sm.o,fun y e=>e.elim (fun e=>(nb y e).imp (fun e=>.inl e) id) (fun e=>.inl (.inr e))⟩,kp⟩
  ·rw[hnc];have h1:=(a.add hcp2 k (List.range' 0 (ncl k))).1;exact(h1.put (uFs ..) (List.range' 1 (ncl k-1))).1
  ·show(takS (freS S p2 k) p2 k (List.range' 1 (ncl k-1))).pl=_
   unfold takS;simp only
   rw[if_neg hr0];show updF S.pl k (p2 :: S.pl k)=_
   rw[hpl]
theorem zhW{w W sb lw x t fr ls S h al fa fc va vc ca cc pa pc}(o:SO w W sb lw x t fr ls S h)(lv:Lve S)(a:AL al S.c S.fl)(nd:(ls.map Prod.fst).Nodup)(hls:ls.length≤900)(cl:Int)(dn:Bool):∃ q gw er fr' ls' al' pl' P',TB7 w sb lw x t fr ls S al fa fc va vc ca cc pa pc cl dn q gw er fr' ls' al' pl' P':=by
 have f:=o.f7 a;have hb:x.base≤9223372036854775808:=by have:=f.b63;omega
 by_cases hcl : 0≤cl∧cl<8
 ·obtain⟨k,rfl⟩:∃ k:Nat,cl=(k:Int):=⟨cl.toNat,by omega⟩;have hk:k<8:=by omega
  cases hpl:S.pl k with
  | cons p l=>
   -- a page has a free cell
   have hp:=(o.si.pm k hk p).1 (by rw[hpl];exact List.mem_cons_self);obtain⟨hc,hf⟩:=hp
   cases hfl:S.fl p with
   | nil=>exact absurd hfl hf
   | cons i r=>
    obtain⟨j,hj,hfd,hx⟩:=a.find hc;rw[hfl] at hx;obtain⟨_,hm0,hpn⟩:=f.cl p k hc;have hil:i<ncl k:=(o.si.fl p k hc).2.1 i (by rw[hfl];exact List.mem_cons_self);have hlen:=o.si.lv p k hc;rw[hfl,List.length_cons] at hlen;have hn256:=(zaI hk).2.2;have hn1:=f.n1;have e1:x.base+4096*p+i*(16*2 ^ k)=caN x p k i:=rfl;have h64:caN x p k i<18446744073709551616:=(zaA hk hil (by have h1:=f.st;have h2:=f.b63;omega)).2.2;refine⟨caN x p k i,false,0,fr,ls,putL ⟨p,k,r⟩ false al,(if r=[] then updF S.pl k (parL (S.pl k) p false) else S.pl),t.m.n,fun V d=>?_,fun V h' o'=>?_,.inl rfl,h64,nd,by omega⟩
    ·have hT:=zjm x.base x.lim x.o t.m.n hb fa fc va vc ca cc pa pc fr ls al S.pl k hk dn p i r l j (by omega) (by omega) hpl hfd hx (by have:=f.na;omega) (f.pb k hk) (by omega) V d;rw[e1] at hT;exact hT
    ·refine(zge o' k hk dn).mono fun e w' hT=>?_
     cases hT with
     | bad hb2=>exact absurd hcl hb2
     | stuck k2 hk2 hc2 hl2=>
      obtain rfl:k=k2:=(by omega);rw[hpl] at hl2
      cases hl2
     | new k2 p2 b2 hk2 hc2 hl2=>
      obtain rfl:k=k2:=(by omega);rw[hpl] at hl2
      cases hl2
     | old k2 p2 i2 l2 r2 hk2 hc2 hl2 hf2 he so kp=>
      obtain rfl:k=k2:=(by omega);rw[hpl] at hl2;injection hl2 with e2 _
      subst e2;rw[hfl] at hf2;injection hf2 with e3 e4
      subst e3 e4;obtain⟨P,m',h2,o2,hmn⟩:=so;refine⟨he,⟨_,_,_,_,o2,Lve.old o' lv hk hpl hfl,?_,?_,hmn,rfl,rfl,rfl,fun y e=>.inl (zhV e)⟩,kp⟩
      ·exact(a.put hc r).1
      ·show(takS S p k r).pl=_
       unfold takS;simp only
       by_cases e:r=[]
       ·rw[if_pos e,if_pos e,hpl];rfl
       ·rw[if_neg e,if_neg e]
  | nil=>
   obtain⟨fr',ls',P',p,g,er,hN⟩:=zhq f 0 (Nat.zero_le _) dn;have HNR:=fun V (d:D7 V x.o fa fc va vc ca cc pa pc fr ls al S.pl)=>fun W' (kk:Kt nO V W')=>zmj f hls (Nat.zero_le _) hN fa fc va vc ca al.length cc pa 8 pc W' (d.keep kk).fl (d.keep kk).rn
   cases hN with
   | stuck a1 a2=>
    refine⟨0,false,2,fr,ls,al,S.pl,t.m.n,fun V d=>zfD x.base x.lim x.o t.m.n fa fc va vc ca cc pa pc fr ls al S.pl k hk dn hpl V d (HNR V d),fun V h' o'=>?_,.inr (.inr rfl),by decide,nd,by omega⟩;refine(zge o' k hk dn).mono fun e w' hT=>?_
    cases hT with
    | bad hb2=>exact absurd hcl hb2
    | old k2 p2 i2 l2 r2 hk2 hc2 hl2=>
     obtain rfl:k=k2:=(by omega);rw[hpl] at hl2
     cases hl2
    | stuck k2 hk2 hc2 hl2 hz hd he kp=>
     exact⟨he,⟨x,t,S,h',o'.keep kp,lv,a,rfl,rfl,rfl,rfl,rfl,fun y e=>.inl e⟩,kp.mono (fun _ _ e=>e.elim)⟩
    | new k2 p2 b2 hk2 hc2 hl2 he so=>
     exfalso
     obtain⟨x',t',fr2,h2,hNed,_⟩:=so
     cases hNed with
     | here j l hj hz hp=>rw[a1 j (Nat.zero_le _) hj] at hp;cases hp
     | grew hz hd hl=>
      rcases a2 with e|e
      ·rw[hd] at e;cases e
      ·obtain⟨r,_,_,_,h4⟩:=f.rg;omega
   | here j p l a1 a2 a3 a4=>
    obtain⟨hcp,hnp⟩:=f.fq j p a2 (by rw[a4];exact List.mem_cons_self);have hpn:p+2 ^ j≤t.m.n:=f.fb j a2 p (by rw[a4];exact List.mem_cons_self);have hz:=Nat.two_pow_pos j;have hn1:=f.n1;have hst:=f.st;have h63:=f.b63;have ha:al.length+1≤t.m.n:=by
     have h1:=M.nodup_len t.m.n (p :: al.map Cl.pg) (List.nodup_cons.2 ⟨(a.none_of hcp).2,a.nd⟩) (fun q hq=>by
      rcases List.mem_cons.1 hq with e|e
      ·omega
      ·obtain⟨b,hb2,rfl⟩:=List.mem_map.1 e;exact(f.cl _ _ (a.ok b hb2).1).2.2)
     rw[List.length_cons,List.length_map] at h1;exact h1
    refine⟨_,_,_,_,_,_,_,_,zf5 o lv a nd hk hpl hcp hnp (by omega) (by omega) (by omega) (fun p2 b2 fr2 hN=>?_) (fun hz2 _=>?_) (by rw[if_neg (by decide)]) HNR⟩
    ·cases hN with
     | here j2 l2 hj2 hz2 hp2 hb2 hf2=>
      obtain⟨rfl,rfl⟩:=zcU (Nat.zero_le _) a3 a4 (Nat.zero_le _) (fun a _ h=>hz2 a h) hp2;exact⟨rfl,hb2,hf2⟩
     | grew hz2=>rw[hz2 j a2] at a4;cases a4
    ·rw[hz2 j a2] at a4;cases a4
   | grew a1 a2 a3=>
    have hn1:=f.n1;have hst:=f.st;have h63:=f.b63;obtain⟨r,h1,h2,h3,h4⟩:=f.rg;have hcp:S.c t.m.n=none:=by
     cases e:S.c t.m.n with
     | none=>rfl
     | some c=>have:=(f.cl _ _ e).2.2;omega
    have hnp:∀ q i,(q,i)∈ls→q≠t.m.n:=fun q i hq e=>by
     have h5:=(f.lb q i hq).2;have hz:=Nat.two_pow_pos i;omega
    have hg:t.m.n+2 ^ x.o≤1024:=by
     have hrl:r+1≤x.lim:=by
      rw[h3] at a3;have h5:(r+1)*x.R≤x.lim*x.R:=(by rw[Nat.succ_mul];exact a3);exact Nat.le_of_mul_le_mul_right h5 h4
     have h6:(r+1)*2 ^ x.o≤x.lim*2 ^ x.o:=Nat.mul_le_mul_right _ hrl;rw[Nat.succ_mul,←h1] at h6;exact Nat.le_trans h6 f.lo
    have hz:=Nat.two_pow_pos x.o;have hna:=f.na;have hbe:=o.sw.pl.bd.sp.cfg;refine⟨_,_,_,_,_,_,_,_,zf5 o lv a nd hk hpl hcp hnp hn1 (by omega) ?_ (fun p2 b2 fr2 hN=>?_) (fun _ hd=>?_) (by rw[if_pos rfl]) HNR⟩
    ·have h8:=hbe.be;have h9:=hbe.r1;omega
    ·cases hN with
     | here j2 l2 hj2 hz2 hp2 hb2 hf2=>rw[a1 j2 (Nat.zero_le _) hj2] at hp2;cases hp2
     | grew hz2 hd2 hl2 hb2 hp2 hf2=>exact⟨hp2,hb2,hf2⟩
    ·rcases hd with e|e
     ·rw[a2] at e;cases e
     ·omega
 ·refine⟨0,false,1,fr,ls,al,S.pl,t.m.n,fun V d=>zjj x.base x.lim x.o t.m.n fa fc va vc ca cc pa pc fr ls al S.pl cl hcl dn V d,fun V h' o'=>?_,.inr (.inl rfl),by decide,nd,by omega⟩;refine(zgd o' cl hcl dn).mono fun e w' hT=>?_
  cases hT with
  | bad hb2 he kp=>exact⟨he,⟨x,t,S,h',o'.keep kp,lv,a,rfl,rfl,rfl,rfl,rfl,fun y e=>.inl e⟩,kp.mono (fun _ _ e=>e.elim)⟩
  | stuck k2 hk2 hc2=>exact absurd ⟨by omega,by omega⟩ hcl
  | old k2 p2 i2 l2 r2 hk2 hc2=>exact absurd ⟨by omega,by omega⟩ hcl
  | new k2 p2 b2 hk2 hc2=>exact absurd ⟨by omega,by omega⟩ hcl
structure NB7(w:World)(sb lw:Nat)(x:Bx)(t:Bt)(fr:Nat→List Nat)(ls:List (Nat×Nat))(S:Sb)(al:List Cl)(fa:Option Addr)(fc:Nat)(va:Option Addr)(vc:Nat)(ca:Option Addr)(cc:Nat)(pa:Option Addr)(pc:Nat)(od:Int)(dn:Bool)(p:Nat)(gw:Bool)(er:Nat)(fr':Nat→List Nat)(ls':List (Nat×Nat))(P':Nat):Prop where
 ref:∀ V,D7 V x.o fa fc va vc ca cc pa pc fr ls al S.pl→Calls Tryz.prog 18 #[s7V x.base (x.lim:Int) (x.o:Int) (x.o:Int) (t.m.n:Int) (.slice fa (x.o+1) fc) (.slice va ls.length vc) (.slice ca al.length cc) (.slice pa 8 pc),.int .i64 od,.bool dn] V fun e w'=>N7P V x.base (x.lim:Int) (x.o:Int) x.o P' fr' ls' (.slice ca al.length cc) (.slice pa 8 pc) p gw er e w'
 prog:∀ V h,SO w V sb lw x t fr ls S h→Calls Tryz.prog 19 #[.pointer (some ⟨lw,0,none⟩),.int .i64 od,.bool dn] V fun e w'=>e=.returned (.tuple #[.int .u64 ((if er=0 then x.base+4096*p else 0:Nat):Int),.bool gw,.int .i64 (er:Int)])∧A7 w V w' sb lw x fr' ls' al S.pl P'
 er3:er=0∨er=1∨er=2
 p1:p≤1024
 nd:(ls'.map Prod.fst).Nodup
 lc:ls'.length≤ls.length+1
theorem zhX{w W sb lw x t fr ls S h al fa fc va vc ca cc pa pc}(o:SO w W sb lw x t fr ls S h)(lv:Lve S)(a:AL al S.c S.fl)(nd:(ls.map Prod.fst).Nodup)(hls:ls.length≤900)(od:Int)(dn:Bool):∃ p gw er fr' ls' P',NB7 w sb lw x t fr ls S al fa fc va vc ca cc pa pc od dn p gw er fr' ls' P':=by
 have f:=o.f7 a;have hn1:=f.n1
 cases hin:inR (x.o+1) od with
 | false=>
  have hod:od<0∨(x.o:Int)<od:=by
   have h1:=of_decide_eq_false hin;omega
  refine⟨0,false,1,fr,ls,t.m.n,fun V d=>?_,fun V h' o'=>?_,.inr (.inl rfl),by decide,nd,by omega⟩
  ·exact zdQ x.base (x.lim:Int) (x.o:Int) x.o t.m.n fa fc va ls.length vc ca al.length cc pa 8 pc od dn fr ls 0 1 (.inr rfl) V (fun W kk=>zj4 x.o f.o8 (t.m.n:Int) fa fc va vc fr ls (by omega) od hod W (d.keep kk).fl (d.keep kk).rn)
  ·refine(zke o'.po od hin dn).mono fun e w' hT=>?_
   exact⟨hT.1,⟨x,t,S,h',o'.keep hT.2,lv,a,rfl,rfl,rfl,rfl,rfl,fun y e=>.inl e⟩,hT.2.mono (fun _ _ e=>e.elim)⟩
 | true=>
  obtain⟨k,rfl,hk'⟩:=zav hin;have hk:k≤x.o:=by omega
  obtain⟨fr',ls',P',p,g,er,hN⟩:=zhq f k hk dn;have HNR:=fun V (d:D7 V x.o fa fc va vc ca cc pa pc fr ls al S.pl)=>zmj f hls hk hN fa fc va vc ca al.length cc pa 8 pc V d.fl d.rn
  cases hN with
  | stuck a1 a2=>
   refine⟨0,false,2,fr,ls,t.m.n,HNR,fun V h' o'=>?_,.inr (.inr rfl),by decide,nd,by omega⟩;refine(zhc o'.po k hk a1 dn a2).mono fun e w' hT=>?_
   exact⟨hT.1,⟨x,t,S,h',o'.keep hT.2,lv,a,rfl,rfl,rfl,rfl,rfl,fun y e=>.inl e⟩,hT.2.mono (fun _ _ e=>e.elim)⟩
  | here j p l a1 a2 a3 a4=>
   obtain⟨hcp,hnp⟩:=f.fq j p a2 (by rw[a4];exact List.mem_cons_self);have hpn:p+2 ^ j≤t.m.n:=f.fb j a2 p (by rw[a4];exact List.mem_cons_self);have hz:=Nat.two_pow_pos j;refine⟨p,false,0,_,ls ++ [(p,k)],t.m.n,HNR,fun V h' o'=>?_,.inl rfl,by omega,zhp nd hnp,by rw[List.length_append,List.length_singleton];omega⟩;refine(K.Need_any o'.po (k:Int) dn).mono fun e w' hT=>?_
   cases hT with
   | bad hb=>rw[hin] at hb;cases hb
   | stuck i hi hi2 hz=>
              obtain rfl:k=i:=(by omega);rw[hz j a1 a2] at a4
              cases a4
   | grew i hi hi2 hz=>
              obtain rfl:k=i:=(by omega);rw[hz j a1 a2] at a4
              cases a4
   | here i j2 p2 l2 hi hi2 hij hj2 hz hp2 he hs kp=>
    obtain rfl:k=i:=(by omega);obtain⟨rfl,rfl⟩:=zcU a1 a3 a4 hij hz hp2;obtain⟨t',po',hn,bk⟩:=hs;have o2:=o'.pool po' (Sm.refl x) bk (fun b c hb=>List.mem_append_left _ (o'.mem hb).1) kp;exact⟨he,⟨x,t',S,h',o2,lv,a,rfl,hn,rfl,rfl,rfl,fun y e=>.inl e⟩,kp.mono (fun _ _ e=>.inl e)⟩
  | grew a1 a2 a3=>
   have hnp:∀ q i,(q,i)∈ls→q≠t.m.n:=fun q i hq e=>by
    have h5:=(f.lb q i hq).2;have hz:=Nat.two_pow_pos i;omega
   refine⟨t.m.n,true,0,_,ls ++ [(t.m.n,k)],t.m.n + 2 ^ x.o,HNR,fun V h' o'=>?_,.inl rfl,hn1,zhp nd hnp,by rw[List.length_append,List.length_singleton];omega⟩;refine(K.Need_any o'.po (k:Int) dn).mono fun e w' hT=>?_
   cases hT with
   | bad hb=>rw[hin] at hb;cases hb
   | stuck i hi hi2 hz hd=>
    exfalso
    obtain⟨r,_,_,_,h4⟩:=f.rg;rcases hd with e|e
    ·rw[a2] at e;cases e
    ·omega
   | here i j2 p2 l2 hi hi2 hij hj2 hz hp2=>
    obtain rfl:k=i:=(by omega);rw[a1 j2 hij hj2] at hp2
    cases hp2
   | grew i hi hi2 hz hd hl he hs kp=>
    obtain rfl:k=i:=(by omega);obtain⟨x',t',po',sm,hn,htn,nb,bk⟩:=hs;have o2:=o'.pool po' sm bk (fun b c hb=>List.mem_append_left _ (o'.mem hb).1) kp;exact⟨he,⟨x',t',S,h',o2,lv,a,rfl,htn,sm.base,sm.lim,sm.o,fun y e=>e.elim (fun e=>(nb y e).imp (fun e=>.inl e) id) (fun e=>.inl (.inr e))⟩,kp.mono (fun _ _ e=>.inl e)⟩
end Go.Proofs.YtgjdmkfpmokkaaaGreatDoor
