import Derived.Test.YtgjdmkfpmokkaaaGreatDoorYi
set_option maxRecDepth 1000000
set_option maxHeartbeats 80000000
namespace Go.Proofs.YtgjdmkfpmokkaaaGreatDoor
open Go.RowKit
set_option linter.unusedVariables false
def KW(w:World):Type:={ W:World // Kt nO w W }
def KW.v{w:World}(x:KW w):World:=x.1
theorem KW.k{w:World}(x:KW w):Kt nO w x.v:=x.2
instance (w:World):Nonempty (KW w):=⟨⟨w,Kt.refl _ _⟩⟩
theorem zbk{P:Program}{id:Nat}{Q:Exit→Act→World→Prop}{a:Act}{w:World}{l:List Oper}(hm:P.follows .mixedOrders=true)(hB:Region.lexB .any l.toArray=true)
  (h:wpQuiet P l.toArray (fun w'=>∃ x:KW w,w'=x.v) (fun a'=>∀ x:KW w,Q .normal a' x.v) l a):(Code.region id l.toArray true).wp P Q a w:=by
 refine wp_region_quiet (C:=fun w'=>∃ x:KW w,w'=x.v) hm hB ⟨⟨w.drew,(Kt.refl _ w).drew⟩,rfl⟩ ?_;have e:(fun a'=>∀ w',(∃ x:KW w,w'=x.v)→Q .normal a' w')=(fun a'=>∀ x:KW w,Q .normal a' x.v):=by
  funext a'
  exact propext ⟨fun h x=>h _ ⟨x,rfl⟩,fun h w' ⟨x,hx⟩=>hx▸h x⟩
 rw[e];simpa using h
theorem Calls.kept_of{P:Program}{f:FuncId}{args:Array Value}{w:World}{x:KW w}{v:Value}
  (h:Calls P f args x.v fun e w'=>e=.returned v∧Kt nO x.v w'):Calls P f args x.v fun e w''=>e=.returned v∧∃ y:KW w,w''=y.v:=
 h.mono fun _ w1 ⟨he,hk⟩=>⟨he,⟨w1,nT x.k hk⟩,rfl⟩
section
variable {w W:World} {wb sb lw:Nat} {x:Bx} {t:Bt} {fr:Nat→List Nat} {ls:List (Nat×Nat)} {S:Sb} {h:Nat→Int}
theorem SO.cell_neP(o:SO w W sb lw x t fr ls S h){g k i g' k' i':Nat}(h1:S.c g=some k)(h2:i<ncl k)(h3:S.c g'=some k')(h4:i'<ncl k')(e:caN x g k i=caN x g' k' i'):g=g'∧k=k'∧i=i':=by
 have hk:=(o.si.pg g k h1).1;have hk':=(o.si.pg g' k' h3).1;have hm:=o.mem h1;have hm':=o.mem h3;have n4:=o.po.nums.2.2.2.1;have hc:=zaA (x:=x) (p:=g) hk h2 (by omega);have hc':=zaA (x:=x) (p:=g') hk' h4 (by omega);have hz:=zay hk;have hz':=zay hk';unfold caN at e;have e1:g=g':=by omega
 subst e1;rw[h1] at h3;injection h3 with h3
 subst h3;refine⟨rfl,rfl,?_⟩;have:i*szC k=i'*szC k:=by omega
 exact Nat.eq_of_mul_eq_mul_right (by omega) this
theorem SO.wroteP{W':World}(o:SO w W sb lw x t fr ls S h){p s:Nat}(hl:Lth x ls S p s){f':Nat→Nat}(hf:∀ j,¬(p≤x.base+j∧x.base+j<p+s)→f' j=t.f j)(hs:M.SpA W' x.s x.a x.base x.R x.lim x.n f')(k:Kt (M.own x.s x.a) W W'):SO w W' sb lw x { t with f:=f' } fr ls S h:=by
 have kb:Kt (bown x) W W':=k.mono (fun _ _ e=>.inl e);obtain⟨_,q,j,h1,h2,h3⟩:=o.span hl;unfold ad at h2 h3;refine⟨⟨o.sw.pl.space0 k hs,(kb.block _ (lH o.sw.bx) (fun e=>o.sw.nsb (.inl e))).trans o.sw.bx,o.sw.nw,o.sw.tb⟩,o.sf.fill h1 (fun i hi=>hf i (fun e=>?_)),o.st,o.bm,⟨o.si.eP,o.si.pg,fun g c hg=>?_,o.si.lv,o.si.pn,o.si.pm⟩,o.hd⟩
 ·omega
 ·obtain⟨n1,n2,n3⟩:=o.si.fl g c hg;have hk:=(o.si.pg g c hg).1;have hz:=zay hk;have hm:=o.mem hg;have n4:=o.po.nums.2.2.2.1;refine⟨n1,n2,zbO rfl (fun i hi=>zcw fun b hb=>hf _ (fun e=>?_)) n3⟩;have hib:=n2 i hi;have hcc:=zaA (x:=x) (p:=g) hk hib (by omega)
  have hca:caN x g c i=x.base+4096*g+i*szC c:=rfl;rcases hl with ⟨g',c',i',⟨l1,l2,l3,rfl⟩,rfl⟩|⟨q',j',l1,l2,rfl,rfl⟩
  ·have hk':=(o.si.pg g' c' l1).1;have hm':=o.mem l1;have hcc':=zaA (x:=x) (p:=g') hk' l2 (by omega);have hca':caN x g' c' i'=x.base+4096*g'+i'*szC c':=rfl;have eg:g'=g:=(by omega);subst eg;rw[hg] at l1;injection l1 with l1
   subst l1;rcases Nat.lt_trichotomy i i' with e2|rfl|e2
   ·have:(i+1)*szC c≤i'*szC c:=Nat.mul_le_mul_right _ e2;rw[Nat.add_mul,Nat.one_mul] at this;omega
   ·exact l3 hi
   ·have:(i'+1)*szC c≤i*szC c:=Nat.mul_le_mul_right _ e2;rw[Nat.add_mul,Nat.one_mul] at this;omega
  ·have had:ad x q'=x.base+4096*q':=rfl;rcases o.apart hm.1 l1 with ⟨e2,_⟩|e2|e2
   ·rw[←e2,hg] at l2;cases l2
   ·rw[Nat.pow_zero] at e2;omega
   ·omega
end
section
variable {w W W1 W2:World} {wb sb lw c:Nat} {x:Bx} {t:Bt} {fr:Nat→List Nat} {ls:List (Nat×Nat)} {S:Sb} {al:List Cl} {fa va ca pa:Option Addr} {fc vc cc pc:Nat}
theorem L7.fill(L:L7 w W wb lw sb x t fr ls S al c fa fc va vc ca cc pa pc){p s v:Nat}(hl:Lth x ls S p s)(hv:v<256):
  Calls Tryz.prog 29 #[.pointer (some ⟨x.s,0,none⟩),.int .u64 (p:Int),.int .u64 (s:Int),.int .u8 (v:Int)] W fun e w'=>e=.returned (.int .i64 0)∧∃ f',L7 w w' wb lw sb x { t with f:=f' } fr ls S al c fa fc va vc ca cc pa pc∧Kt (sown x sb) W w':=by
 obtain⟨h,o⟩:=L.so;have h0:=(o.span hl).1;have hi:=o.inside hl;have hin:M.In x.base x.n p s:=by unfold M.In;omega
 obtain⟨g,hg⟩:=zb5 o.sw.pl.bd.sp (by omega);have hs:=o.sw.pl.bd.sp;rw[hg] at hs;refine(M.Fill_in x.s g x.base x.R x.lim x.n t.f p s v hv W hs h0 hin).mono ?_;rintro e w' ⟨rfl,h1,h2⟩;rw[←hg] at h1 h2;have k:=toK h2;have o':=o.wroteP hl (f':=M.upd t.f (p-x.base) s fun _=>v) (fun j hj=>M.upd_out _ _ _ _ _ (fun e=>hj (by omega))) h1 k;have ks:Kt (sown x sb) W w':=k.mono (fun _ _ e=>.inl (.inl e));refine⟨rfl,_,⟨⟨h,o'⟩,L.lv,L.ae,L.d.call o ks,(ks.block _ (lH L.bx) (o.nty L.bx zah.1 zah.2)).trans L.bx,L.nw,L.nd,L.lc⟩,ks⟩
def FI7(w W:World)(wb lw sb:Nat)(x:Bx)(t:Bt)(fr:Nat→List Nat)(ls:List (Nat×Nat))(S:Sb)(al:List Cl)(c:Nat)(fa:Option Addr)(fc:Nat)(va:Option Addr)(vc:Nat)(ca:Option Addr)(cc:Nat)(pa:Option Addr)(pc:Nat)(W1:World):Prop:=∃ f',L7 w W1 wb lw sb x { t with f:=f' } fr ls S al c fa fc va vc ca cc pa pc∧Kt (sown x sb) W W1
theorem FI7.keep(h:FI7 w W wb lw sb x t fr ls S al c fa fc va vc ca cc pa pc W1)(k:Kt nO W1 W2):FI7 w W wb lw sb x t fr ls S al c fa fc va vc ca cc pa pc W2:=by
 obtain⟨f',h1,h2⟩:=h;exact⟨f',h1.keep k,h2.trans k (fun _ _ e=>e) (fun y hy e=>e.elim)⟩
theorem FI7.bx(h:FI7 w W wb lw sb x t fr ls S al c fa fc va vc ca cc pa pc W1):W1.heap[wb]?=some (w7O x.base x.lim x.o lw sb (.slice fa (x.o+1) fc) (.slice va ls.length vc) (.slice ca al.length cc) (.slice pa 8 pc) (x.o:Int) (t.m.n:Int)):=by
 obtain⟨f',h1,h2⟩:=h;exact h1.bx
theorem FI7.d(h:FI7 w W wb lw sb x t fr ls S al c fa fc va vc ca cc pa pc W1):D7 W1 x.o fa fc va vc ca cc pa pc fr ls al S.pl:=by
 obtain⟨f',h1,h2⟩:=h;exact h1.d
theorem FI7.sp(h:FI7 w W wb lw sb x t fr ls S al c fa fc va vc ca cc pa pc W1):Calls Tryz.prog 27 #[.pointer (some ⟨lw,0,none⟩)] W1 fun e w'=>e=.returned (.pointer (some ⟨x.s,0,none⟩))∧w'=W1:=by
 obtain⟨f',h1,h2⟩:=h;obtain⟨hh,o⟩:=h1.so;exact zbl o.sw.pl
theorem FI7.fill(h:FI7 w W wb lw sb x t fr ls S al c fa fc va vc ca cc pa pc W1){p s v:Nat}(hl:Lth x ls S p s)(hv:v<256):
  Calls Tryz.prog 29 #[.pointer (some ⟨x.s,0,none⟩),.int .u64 (p:Int),.int .u64 (s:Int),.int .u8 (v:Int)] W1 fun e w'=>e=.returned (.int .i64 0)∧FI7 w W wb lw sb x t fr ls S al c fa fc va vc ca cc pa pc w'∧(∀ (y:Nat) (cs:Array Value) (e:TypeId) (z:Nat×Nat),W1.heap[y]?=some (.cells cs e z)→rty e→w'.heap[y]?=some (.cells cs e z)):=by
 obtain⟨f',h1,h2⟩:=h;refine(h1.fill hl hv).mono ?_;rintro e w' ⟨rfl,f2,h3,h4⟩;obtain⟨hh,o⟩:=h1.so;exact⟨rfl,⟨f2,h3,h2.trans h4 (fun _ _ e=>e) (fun y hy e=>e)⟩,fun y cs e z hy he=>(h4.block _ (lH hy) (o.nty hy (zd0 he).1 (zd0 he).2)).trans hy⟩
end
abbrev rnO(q j:Nat):Obj:=.cells #[.int .i64 (q:Int),.int .i64 (j:Int)] 189
theorem rnc{W:World}{y q j:Nat}(h:W.heap[y]?=some (rnO q j)):W.cell? ⟨y,0,none⟩=some (.int .i64 (q:Int))∧W.cell? ⟨y,1,none⟩=some (.int .i64 (j:Int)):=by
 refine⟨?_,?_⟩ <;> simp[World.cell?,h]
theorem zma(k:Nat)(hk:k<8)(w:World):Calls Tryz.prog 51 #[.int .i64 (k:Int)] w fun e w'=>e=.returned (.int .i64 ((16*2 ^ k:Nat):Int))∧Kt nO w w':=
 (zcG k hk w).mono fun e w' h=>⟨h.1,h.2▸Kt.refl nO w⟩
theorem znz{w W wb lw sb x t fr ls S al c fa fc va vc ca cc pa pc}(L0:L7 w W wb lw sb x t fr ls S al c fa fc va vc ca cc pa pc)(hls:ls.length≤900)(v:Nat)(hv:v<256):
  Calls Tryz.prog 65 #[.pointer (some ⟨wb,0,none⟩),.int .u8 (v:Int)] W fun e w'=>e=.returned (.bool true)∧FI7 w W wb lw sb x t fr ls S al c fa fc va vc ca cc pa pc w':=by
 obtain⟨h0,o0⟩:=L0.so;have f:=o0.f7 L0.ae;have ho8:=f.o8;have hn1:=f.n1;have hna:al.length≤1024:=Nat.le_trans f.na f.n1;have hb63:x.base≤9223372036854775808:=by have:=f.b63;omega
 have E0:=hid (show FI7 w W wb lw sb x t fr ls S al c fa fc va vc ca cc pa pc W from⟨t.f,L0,Kt.refl _ W⟩);have FB:=hid (fun W1 (h:FI7 w W wb lw sb x t fr ls S al c fa fc va vc ca cc pa pc W1)=>h.bx);have FD:=hid (fun W1 (h:FI7 w W wb lw sb x t fr ls S al c fa fc va vc ca cc pa pc W1) (g:Int)=>zh6 x.base (x.lim:Int) (x.o:Int) (x.o:Int) (t.m.n:Int) (.slice fa (x.o+1) fc) (.slice va ls.length vc) ca al.length cc (.slice pa 8 pc) (fnC al) (by omega) g W1 h.d.cr);have SPC:=hid (fun W1 (h:FI7 w W wb lw sb x t fr ls S al c fa fc va vc ca cc pa pc W1)=>h.sp);have FIL:=hid (fun W1 (h:FI7 w W wb lw sb x t fr ls S al c fa fc va vc ca cc pa pc W1) p s (hl:Lth x ls S p s)=>h.fill hl hv);have SZ:=hid (fun p (hp:p<18446744073709551616)=>zeT (fa:=fa) (fc:=fc) (va:=va) (vc:=vc) (ca:=ca) (cc:=cc) (pa:=pa) (pc:=pc) o0 L0.ae p hp);have CNE:=hid (fun g k i g' k' i' (h1:S.c g=some k) (h2:i<ncl k) (h3:S.c g'=some k') (h4:i'<ncl k') (e:caN x g k i=caN x g' k' i')=>o0.cell_neP h1 h2 h3 h4 e);have ISA:=hid (fun g=>L0.ae.is g);have LB:=hid f.lb;have ROW:=hid f.row;have ALO:=hid (fun i (hi:i<al.length)=>L0.ae.ok _ (zbH hi));have hx63:=f.b63;have hst:=f.st;obtain⟨m,hm⟩:=xe (ls.length);obtain⟨n,hn⟩:=xe (al.length);obtain⟨b,hb⟩:=xe (x.base);obtain⟨l,hl⟩:=xe (x.lim);obtain⟨oo,hoo⟩:=xe (x.o);obtain⟨Pn,hPn⟩:=xe (t.m.n);obtain⟨nn,hnn⟩:=xe (x.n);have CAN:=hid (fun g k i=>show caN x g k i=b+4096*g+i*(16*2 ^ k)from by rw[hb];rfl);have ADX:=hid (fun q=>show ad x q=b+4096*q from by rw[hb];rfl);rw[←hm,←hn,←hb,←hl,←hoo,←hPn] at FB FD SZ;rw[←hoo] at ho8 LB;rw[←hb] at hb63 hx63;rw[←hPn] at hn1 LB ROW hst;rw[←hn] at hna ISA ROW ALO;rw[←hm] at hls;rw[←hnn] at hx63 hst;have HM:=hid hm;have HN:=hid hn;have DK:=hid (fun W1 (h:FI7 w W wb lw sb x t fr ls S al c fa fc va vc ca cc pa pc W1)=>h.d);rw[←hoo] at DK;have RNW:=hid (fun W1 (h:FI7 w W wb lw sb x t fr ls S al c fa fc va vc ca cc pa pc W1)=>h.d.rn);have CRW:=hid (fun W1 (h:FI7 w W wb lw sb x t fr ls S al c fa fc va vc ca cc pa pc W1)=>h.d.cr);rw[←hn] at CRW;generalize x.s=xs at *;clear L0 o0 f hm hn hb hl hoo hPn hnn;go_enter Tryz.func65,Tryz.ntmps65;go_wp2_with fail;go_loopw [5,6] (fun s5 s6 W'=>∃ i:Nat,i≤m∧s5=.int .i64 i∧Hid (FI7 w W wb lw sb x t fr ls S al c fa fc va vc ca cc pa pc W')) (fun s _ _=>m-(intOf s).toNat)
 case atStart=>exact⟨0,Nat.zero_le _,rfl,E0⟩
 case round=>
  clear E0;obtain⟨i,hi,rfl,hE⟩:=hrel;have E1:=hE;clear hE;obtain⟨c0,c1,c2,c3,c4,c5,c6,c7,c8,c9,c10,c11,c12,c13,cf⟩:=wc7 (FB.out _ E1.out);by_cases hlt:i<m
  ·as_aux_lemma=>
   have hii:(i:Int)<(m:Int):=(by omega);have hil:i<ls.length:=(by rw[←HM.out];exact hlt);obtain⟨gv,hgv,r0,r1⟩:=(RNW.out _ E1.out).get hil;subst hgv;have hmem:ls.getD i (0,0)∈ls:=by
    rw[List.getD_eq_getElem?_getD,List.getElem?_eq_getElem hil];exact List.getElem_mem hil
   obtain⟨q,j,hqj⟩:∃ q j,ls.getD i (0,0)=(q,j):=⟨_,_,rfl⟩;rw[hqj] at r0 r1 hmem;simp only at r0 r1
   have hlb:=LB.out q j hmem;have HMEM:=hid hmem;clear hqj hmem hil;go_upto_region 5 with fail;have ka:=(Kt.refl nO wr).alloc (rnO q j);have E2:=hid (E1.out.keep ka);have Y2:=hid (nH wr (rnO q j));clear ka c0 c1 c2 c3 c4 c5 c6 c7 c8 c9 c10 c11 c12 c13 cf r0 r1 E1;generalize wr.heap.size=y2 at *;generalize wr.alloc (rnO q j)=w2 at *;have hz:=Nat.two_pow_pos j;have hqP:q≤1024:=(by omega);have AT:=hid (fun W'=>At7 b (l:Int) (oo:Int) (oo:Int) (Pn:Int) (.slice fa (oo+1) fc) (.slice (some ⟨gv,0,none⟩) m vc) (.slice ca n cc) (.slice pa 8 pc) q hqP hb63 W');obtain⟨vf,hvf⟩:=xe (fndI (fnd (fnC al) ((q:Nat):Int) n));have F1:=hid (fun W1 h=>FD.out W1 h (q:Int));have hIS:=ISA.out q;rw[←hvf] at hIS F1;have KD:=hid ((Kt.refl nO w2).drew)
   cases hcq:S.c q with
   | some kq=>
    have hv0 : 0≤vf:=hIS.2 (by rw[hcq];rfl);have hv1:decide (vf<0)=false:=decide_eq_false (by omega);have YA:=hid (fun x:KW w2=>show x.v.heap[y2]?=some (rnO q j)from(x.k.block _ (lH Y2.out) (fun e=>e)).trans Y2.out);have EA:=hid (fun x:KW w2=>E2.out.keep x.k);have z0:∀ x:KW w2,x.v.cell? ⟨y2,0,none⟩=some (.int .i64 (q:Int)):=fun x=>(rnc (YA.out x)).1
    have z1:∀ x:KW w2,x.v.cell? ⟨y2,1,none⟩=some (.int .i64 (j:Int)):=fun x=>(rnc (YA.out x)).2
    have k3:∀ x:KW w2,x.v.cell? ⟨wb,3,none⟩=some (.pointer (some ⟨lw,0,none⟩)):=fun x=>by obtain⟨c0,c1,c2,c3,c4,c5,c6,c7,c8,c9,c10,c11,c12,c13,cf⟩:=wc7 (FB.out _ (EA.out x));exact c3
    have k5:∀ x:KW w2,x.v.cell? ⟨wb,5,none⟩=some (.int .u64 (b:Int)):=fun x=>by obtain⟨c0,c1,c2,c3,c4,c5,c6,c7,c8,c9,c10,c11,c12,c13,cf⟩:=wc7 (FB.out _ (EA.out x));exact c5
    have k6:∀ x:KW w2,x.v.cell? ⟨wb,6,none⟩=some (.int .i64 (l:Int)):=fun x=>by obtain⟨c0,c1,c2,c3,c4,c5,c6,c7,c8,c9,c10,c11,c12,c13,cf⟩:=wc7 (FB.out _ (EA.out x));exact c6
    have k7:∀ x:KW w2,x.v.cell? ⟨wb,7,none⟩=some (.int .i64 (oo:Int)):=fun x=>by obtain⟨c0,c1,c2,c3,c4,c5,c6,c7,c8,c9,c10,c11,c12,c13,cf⟩:=wc7 (FB.out _ (EA.out x));exact c7
    have k8:∀ x:KW w2,x.v.cell? ⟨wb,8,none⟩=some (.int .i64 (oo:Int)):=fun x=>by obtain⟨c0,c1,c2,c3,c4,c5,c6,c7,c8,c9,c10,c11,c12,c13,cf⟩:=wc7 (FB.out _ (EA.out x));exact c8
    have k9:∀ x:KW w2,x.v.cell? ⟨wb,9,none⟩=some (.int .i64 (Pn:Int)):=fun x=>by obtain⟨c0,c1,c2,c3,c4,c5,c6,c7,c8,c9,c10,c11,c12,c13,cf⟩:=wc7 (FB.out _ (EA.out x));exact c9
    have k10:∀ x:KW w2,x.v.cell? ⟨wb,10,none⟩=some (.slice fa (oo+1) fc):=fun x=>by obtain⟨c0,c1,c2,c3,c4,c5,c6,c7,c8,c9,c10,c11,c12,c13,cf⟩:=wc7 (FB.out _ (EA.out x));exact c10
    have k11:∀ x:KW w2,x.v.cell? ⟨wb,11,none⟩=some (.slice (some ⟨gv,0,none⟩) m vc):=fun x=>by obtain⟨c0,c1,c2,c3,c4,c5,c6,c7,c8,c9,c10,c11,c12,c13,cf⟩:=wc7 (FB.out _ (EA.out x));exact c11
    have k12:∀ x:KW w2,x.v.cell? ⟨wb,12,none⟩=some (.slice ca n cc):=fun x=>by obtain⟨c0,c1,c2,c3,c4,c5,c6,c7,c8,c9,c10,c11,c12,c13,cf⟩:=wc7 (FB.out _ (EA.out x));exact c12
    have k13:∀ x:KW w2,x.v.cell? ⟨wb,13,none⟩=some (.slice pa 8 pc):=fun x=>by obtain⟨c0,c1,c2,c3,c4,c5,c6,c7,c8,c9,c10,c11,c12,c13,cf⟩:=wc7 (FB.out _ (EA.out x));exact c13
    clear hIS hvf hcq;refine zbk (by kernel_rfl) (by kernel_rfl) ?_;repeat (go_big_quiet_step (first|(go_at_call 50;exact Calls.kept_of (F1.out _ (EA.out _)))))
    refine wpQuiet_nil ?_;intro x;have E9:=hid (EA.out x);clear z0 z1 k3 k5 k6 k7 k8 k9 k10 k11 k12 k13;go_wp2_with fail;exact⟨⟨i+1,by omega,by simp,E9⟩,by simp[intOf];omega⟩
   | none=>
    have hv0:vf<0:=by
     rcases Int.lt_or_le vf 0 with e|e
     ·exact e
     ·have:=hIS.1 e;rw[hcq] at this
      cases this
    have hv1:decide (vf<0)=true:=decide_eq_true hv0;obtain⟨sz,hsz⟩:=xe (4096*2 ^ j);obtain⟨aq,haq⟩:=xe (b+4096*q);have hj8:j≤8:=(by omega);have hsb:sz≤1048576:=by
     rw[hsz];have : 2 ^ j≤2 ^ 8:=Nat.pow_le_pow_right (by decide) hj8;omega
    have FL1:=hid (fun W1 h=>FIL.out W1 h aq sz (.inr ⟨q,j,HMEM.out,hcq,by rw[ADX.out,haq],hsz⟩));have hszi:(4096:Int)*2 ^ j=(sz:Int):=(by rw[hsz];simp);have hjw:IntKind.u64.wrap (j:Int)=(j:Int):=(by rw[wrap_u64];omega);have hmin:min j 64=j:=Nat.min_eq_left (by omega);have hszw:IntKind.u64.wrap (sz:Int)=(sz:Int):=(by rw[wrap_u64];omega);rw[←haq] at AT;have ED:=hid (E2.out.keep KD.out);have YD:=hid ((KD.out.block _ (lH Y2.out) (fun e=>e)).trans Y2.out);clear hsz haq hIS hvf hcq E2 Y2;obtain⟨c0,c1,c2,c3,c4,c5,c6,c7,c8,c9,c10,c11,c12,c13,cf⟩:=wc7 (FB.out _ ED.out);obtain⟨z0,z1⟩:=rnc YD.out;go_region_held3 (fun w'=>w'.cell? ⟨wb,3,none⟩=some (.pointer (some ⟨lw,0,none⟩))∧w'.cell? ⟨wb,5,none⟩=some (.int .u64 (b:Int))∧w'.cell? ⟨wb,6,none⟩=some (.int .i64 (l:Int))∧w'.cell? ⟨wb,7,none⟩=some (.int .i64 (oo:Int))∧w'.cell? ⟨wb,8,none⟩=some (.int .i64 (oo:Int))∧w'.cell? ⟨wb,9,none⟩=some (.int .i64 (Pn:Int))∧w'.cell? ⟨wb,10,none⟩=some (.slice fa (oo+1) fc)∧w'.cell? ⟨wb,11,none⟩=some (.slice (some ⟨gv,0,none⟩) m vc)∧w'.cell? ⟨wb,12,none⟩=some (.slice ca n cc)∧w'.cell? ⟨wb,13,none⟩=some (.slice pa 8 pc)∧w'.cell? ⟨y2,0,none⟩=some (.int .i64 (q:Int))∧w'.cell? ⟨y2,1,none⟩=some (.int .i64 (j:Int))) ((refine⟨?_,?_,?_,?_,?_,?_,?_,?_,?_,?_,?_,?_⟩ <;> with_reducible assumption)) (first
     | (go_at_call 50;(with_reducible refine(F1.out _ ED.out).mono ?_);rintro e w5 ⟨rfl,hk5⟩;have E5:=hid (ED.out.keep hk5);have Y5:=hid ((hk5.block _ (lH YD.out) (fun e=>e)).trans YD.out);obtain⟨d0,d1,d2,d3,d4,d5,d6,d7,d8,d9,d10,d11,d12,d13,df⟩:=wc7 (FB.out _ E5.out);obtain⟨t0,t1⟩:=rnc Y5.out;clear hk5)
     | (go_at_call 27;(with_reducible refine(SPC.out _ E5.out).mono ?_);rintro e w9 ⟨rfl,h9⟩;replace h9:=h9.symm;subst h9)
     | (go_at_call 20;(with_reducible refine(AT.out _).mono ?_);rintro e w6 ⟨rfl,hk6⟩;have E6:=hid (E5.out.keep hk6);have Y6:=hid ((hk6.block _ (lH Y5.out) (fun e=>e)).trans Y5.out);obtain⟨e0,e1,e2,e3,e4,e5,e6,e7,e8,e9,e10,e11,e12,e13,ef⟩:=wc7 (FB.out _ E6.out);obtain⟨u0,u1⟩:=rnc Y6.out;clear hk6)
     | (go_at_call 29;(with_reducible refine(FL1.out _ E6.out).mono ?_);rintro e w7 ⟨rfl,hE7,hY7⟩;have E7:=hid hE7;obtain⟨f0,f1,f2,f3,f4,f5,f6,f7,f8,f9,f10,f11,f12,f13,ff⟩:=wc7 (FB.out _ E7.out);obtain⟨v0,v1⟩:=rnc (hY7 _ _ _ _ Y6.out (.inr (.inr (.inl rfl))));clear hE7 hY7)
     | fail)
    all_goals
     clear c0 c1 c2 c3 c4 c5 c6 c7 c8 c9 c10 c11 c12 c13 cf d0 d1 d2 d3 d4 d5 d6 d7 d8 d9 d10 d11 d12 d13 df e0 e1 e2 e3 e4 e5 e6 e7 e8 e9 e10 e11 e12 e13 ef f0 f1 f2 f3 f4 f5 f6 f7 f8 f9 f10 f11 f12 f13 ff z0 z1 t0 t1 u0 u1 v0 v1;go_wp2_with fail;exact⟨⟨i+1,by omega,by simp,E7⟩,by simp[intOf];omega⟩
  ·obtain rfl:i=m:=(by omega);have hii:¬(i:Int)<(i:Int):=(by omega);go_wp2_with fail;clear hi hlt hii c0 c1 c2 c3 c4 c5 c6 c7 c8 c9 c10 c11 c12 c13 cf HM RNW LB;go_loopw [7,8,9,10] (fun s7 s8 s9 s10 W'=>∃ k:Nat,k≤n∧s7=.int .i64 k∧Hid (FI7 w W wb lw sb x t fr ls S al c fa fc va vc ca cc pa pc W')) (fun s _ _ _ _=>n-(intOf s).toNat)
   case atStart=>exact⟨0,Nat.zero_le _,rfl,E1⟩
   case round=>
    clear E1;obtain⟨k,hk,rfl,hE⟩:=hrel;have E1:=hE;clear hE;obtain⟨c0,c1,c2,c3,c4,c5,c6,c7,c8,c9,c10,c11,c12,c13,cf⟩:=wc7 (FB.out _ E1.out);by_cases hlt:k<n
    ·as_aux_lemma=>
     have hki:(k:Int)<(n:Int):=(by omega);obtain⟨gc,xa,xc,hca,r0,r1,r2,hNS⟩:=(CRW.out _ E1.out).get k hlt;subst hca;obtain⟨hk8,hl256,hq256,hpP⟩:=ROW.out k hlt;obtain⟨hSc,hSf⟩:=ALO.out k hlt;obtain⟨pg,cl,fl,hx⟩:∃ pg cl fl,fnC al k=⟨pg,cl,fl⟩:=⟨_,_,_,rfl⟩;rw[hx] at r0 r1 r2 hk8 hl256 hq256 hpP hSc hSf;simp only at r0 r1 r2 hk8 hl256 hq256 hpP hSc hSf
     obtain⟨L,hL⟩:=xe (fl.length);rw[←hL] at r2;have HSC:=hid hSc;clear hx hNS hSf hq256 hl256 hL hSc;go_upto_region 11 with fail;have ka:=(Kt.refl nO wr).alloc (clO pg cl (.slice xa L xc));have E2:=hid (E1.out.keep ka);have Y2:=hid (nH wr (clO pg cl (.slice xa L xc)));clear ka c0 c1 c2 c3 c4 c5 c6 c7 c8 c9 c10 c11 c12 c13 cf r0 r1 r2 E1;generalize wr.heap.size=y2 at *;generalize wr.alloc (clO pg cl (.slice xa L xc))=w2 at *;have hwb:=zbI hk8;have hNCb:=(zaI hk8).2.2;obtain⟨NC,hNC⟩:=xe (ncl cl);obtain⟨wd,hwd⟩:=xe (16*2 ^ cl);obtain⟨ap,hap⟩:=xe (b+4096*pg);have CT:=hid (fun W'=>zeO cl hk8 W');rw[show 256/2 ^ cl=NC from hNC.symm] at CT;have WD:=hid (fun W'=>zcG cl hk8 W');have WDK:=hid (fun W'=>zma cl hk8 W');have AT:=hid (fun W'=>At7 b (l:Int) (oo:Int) (oo:Int) (Pn:Int) (.slice fa (oo+1) fc) (.slice va i vc) (.slice (some ⟨gc,0,none⟩) n cc) (.slice pa 8 pc) pg (by omega) hb63 W');rw[←hwd] at WD WDK hwb;rw[←hap] at AT;rw[←hNC] at hNCb;have HNC:=hid hNC;have HWD:=hid hwd;have HAP:=hid hap;have hapb:ap≤9223372036854775808+8388608:=(by rw[hap];omega);have hpg63:b+4096*pg+4096≤9223372036854775808:=(by omega);have E3:=hid (show FI7 w W wb lw sb x t fr ls S al c fa fc va vc (some ⟨gc,0,none⟩) cc pa pc w2∧w2.heap[y2]?=some (clO pg cl (.slice xa L xc))from⟨E2.out,Y2.out⟩);clear hNC hwd hap E2 Y2;go_wp2_with fail;go_loopw [9,10] (fun s9 s10 W'=>∃ q:Nat,q≤NC∧s9=.int .i64 q∧Hid (FI7 w W wb lw sb x t fr ls S al c fa fc va vc (some ⟨gc,0,none⟩) cc pa pc W'∧W'.heap[y2]?=some (clO pg cl (.slice xa L xc)))) (fun s _ _=>NC-(intOf s).toNat)
     case atStart=>exact⟨0,Nat.zero_le _,rfl,E3⟩
     case round=>
      clear E3;obtain⟨q,hq,rfl,hE⟩:=hrel;have E3:=hE;clear hE;obtain⟨y0,y1,yz⟩:=clc E3.out.2;by_cases hlt2:q<NC
      ·as_aux_lemma=>
       have hqi:(q:Int)<(NC:Int):=(by omega);have hq256:q≤256:=(by omega);obtain⟨ic,hic⟩:=xe (q*wd);obtain⟨aq,haq⟩:=xe (ap+ic);have hic2:(q:Int)*(wd:Int)=(ic:Int):=(by rw[hic];simp);have hicb:ic≤1048576:=by
        rw[hic];exact Nat.le_trans (Nat.mul_le_mul hq256 hwb.2) (by decide)
       have hicw:IntKind.i64.wrap (ic:Int)=(ic:Int):=(by rw[IntKind.wrap_i64];omega);have hicu:IntKind.u64.wrap (ic:Int)=(ic:Int):=(by rw[wrap_u64];omega);have haqi:(ap:Int)+(ic:Int)=(aq:Int):=(by rw[haq];simp);have haqw:IntKind.u64.wrap (aq:Int)=(aq:Int):=(by rw[wrap_u64];omega);have hq64:aq<18446744073709551616:=(by omega);have HAQ:=hid (show aq=caN x pg cl q from by rw[CAN.out,haq,HAP.out,hic,HWD.out]);have HQN:=hid (show q<ncl cl from by rw[←HNC.out];exact hlt2);clear hic haq;go_wp2_with fail;refine(CT.out _).mono ?_;rintro e w4 ⟨rfl,h4⟩;replace h4:=h4.symm;subst h4;go_wp2_with fail;have YA:=hid (fun x:KW wr=>show x.v.heap[y2]?=some (clO pg cl (.slice xa L xc))from(x.k.block _ (lH E3.out.2) (fun e=>e)).trans E3.out.2);have EA:=hid (fun x:KW wr=>E3.out.1.keep x.k);have k3:∀ x:KW wr,x.v.cell? ⟨wb,3,none⟩=some (.pointer (some ⟨lw,0,none⟩)):=fun x=>by obtain⟨c0,c1,c2,c3,c4,c5,c6,c7,c8,c9,c10,c11,c12,c13,cf⟩:=wc7 (FB.out _ (EA.out x));exact c3
       have k5:∀ x:KW wr,x.v.cell? ⟨wb,5,none⟩=some (.int .u64 (b:Int)):=fun x=>by obtain⟨c0,c1,c2,c3,c4,c5,c6,c7,c8,c9,c10,c11,c12,c13,cf⟩:=wc7 (FB.out _ (EA.out x));exact c5
       have k6:∀ x:KW wr,x.v.cell? ⟨wb,6,none⟩=some (.int .i64 (l:Int)):=fun x=>by obtain⟨c0,c1,c2,c3,c4,c5,c6,c7,c8,c9,c10,c11,c12,c13,cf⟩:=wc7 (FB.out _ (EA.out x));exact c6
       have k7:∀ x:KW wr,x.v.cell? ⟨wb,7,none⟩=some (.int .i64 (oo:Int)):=fun x=>by obtain⟨c0,c1,c2,c3,c4,c5,c6,c7,c8,c9,c10,c11,c12,c13,cf⟩:=wc7 (FB.out _ (EA.out x));exact c7
       have k8:∀ x:KW wr,x.v.cell? ⟨wb,8,none⟩=some (.int .i64 (oo:Int)):=fun x=>by obtain⟨c0,c1,c2,c3,c4,c5,c6,c7,c8,c9,c10,c11,c12,c13,cf⟩:=wc7 (FB.out _ (EA.out x));exact c8
       have k9:∀ x:KW wr,x.v.cell? ⟨wb,9,none⟩=some (.int .i64 (Pn:Int)):=fun x=>by obtain⟨c0,c1,c2,c3,c4,c5,c6,c7,c8,c9,c10,c11,c12,c13,cf⟩:=wc7 (FB.out _ (EA.out x));exact c9
       have k10:∀ x:KW wr,x.v.cell? ⟨wb,10,none⟩=some (.slice fa (oo+1) fc):=fun x=>by obtain⟨c0,c1,c2,c3,c4,c5,c6,c7,c8,c9,c10,c11,c12,c13,cf⟩:=wc7 (FB.out _ (EA.out x));exact c10
       have k11:∀ x:KW wr,x.v.cell? ⟨wb,11,none⟩=some (.slice va i vc):=fun x=>by obtain⟨c0,c1,c2,c3,c4,c5,c6,c7,c8,c9,c10,c11,c12,c13,cf⟩:=wc7 (FB.out _ (EA.out x));exact c11
       have k12:∀ x:KW wr,x.v.cell? ⟨wb,12,none⟩=some (.slice (some ⟨gc,0,none⟩) n cc):=fun x=>by obtain⟨c0,c1,c2,c3,c4,c5,c6,c7,c8,c9,c10,c11,c12,c13,cf⟩:=wc7 (FB.out _ (EA.out x));exact c12
       have k13:∀ x:KW wr,x.v.cell? ⟨wb,13,none⟩=some (.slice pa 8 pc):=fun x=>by obtain⟨c0,c1,c2,c3,c4,c5,c6,c7,c8,c9,c10,c11,c12,c13,cf⟩:=wc7 (FB.out _ (EA.out x));exact c13
       have z0:∀ x:KW wr,x.v.cell? ⟨y2,0,none⟩=some (.int .i64 (pg:Int)):=fun x=>(clc (YA.out x)).1
       have z1:∀ x:KW wr,x.v.cell? ⟨y2,1,none⟩=some (.int .i64 (cl:Int)):=fun x=>(clc (YA.out x)).2.1
       clear y0 y1 yz;refine zbk (by kernel_rfl) (by kernel_rfl) ?_;repeat (go_big_quiet_step (first|(go_at_call 20;exact Calls.kept_of (AT.out _))|(go_at_call 51;exact Calls.kept_of (WDK.out _))))
       refine wpQuiet_nil ?_;intro xk;have E5:=hid (EA.out xk);have Y5:=hid (YA.out xk);clear k3 k5 k6 k7 k8 k9 k10 k11 k12 k13 z0 z1 EA YA E3;go_wp2_with fail;generalize xk.v=w5 at *;obtain⟨z,hz4,hz1,-,hz3⟩:=SZ.out aq hq64;have SZ1:=hid (fun W1 (h:FI7 w W wb lw sb x t fr ls S al c fa fc va vc (some ⟨gc,0,none⟩) cc pa pc W1)=>hz1 W1 (DK.out W1 h));clear hz1;rcases hz3 with ⟨g',k',i',hLv,hzk⟩|⟨hz0,-⟩
       ·obtain⟨l1,l2,l3,l4⟩:=hLv;obtain⟨e1,e2,e3⟩:=CNE.out _ _ _ _ _ _ l1 l2 HSC.out HQN.out (l4.symm.trans HAQ.out);have hzw:z=(wd:Int):=(by rw[hzk,e2,HWD.out];rfl);have FL1:=hid (fun W1 h=>FIL.out W1 h aq wd (.inl ⟨g',k',i',⟨l1,l2,l3,l4⟩,by rw[e2,HWD.out];rfl⟩));subst hzw;have hz0:(0:Int)<(wd:Int):=(by omega);have hz5:decide ((0:Int)<(wd:Int))=true:=decide_eq_true hz0;have hz6:decide (0<wd)=true:=decide_eq_true (by omega);have hzu:IntKind.u64.wrap (wd:Int)=(wd:Int):=(by rw[wrap_u64];omega);have KD:=hid ((Kt.refl nO w5).drew);have ED:=hid (E5.out.keep KD.out);have YD:=hid ((KD.out.block _ (lH Y5.out) (fun e=>e)).trans Y5.out);clear l1 l2 l3 l4 e1 e2 e3 hzk E5 Y5 hic2 hicw hicu haqi haqw;obtain⟨c0,c1,c2,c3,c4,c5,c6,c7,c8,c9,c10,c11,c12,c13,cf⟩:=wc7 (FB.out _ ED.out);obtain⟨z0,z1,z2⟩:=clc YD.out;go_region_held3 (fun w'=>w'.cell? ⟨wb,3,none⟩=some (.pointer (some ⟨lw,0,none⟩))∧w'.cell? ⟨wb,5,none⟩=some (.int .u64 (b:Int))∧w'.cell? ⟨wb,6,none⟩=some (.int .i64 (l:Int))∧w'.cell? ⟨wb,7,none⟩=some (.int .i64 (oo:Int))∧w'.cell? ⟨wb,8,none⟩=some (.int .i64 (oo:Int))∧w'.cell? ⟨wb,9,none⟩=some (.int .i64 (Pn:Int))∧w'.cell? ⟨wb,10,none⟩=some (.slice fa (oo+1) fc)∧w'.cell? ⟨wb,11,none⟩=some (.slice va i vc)∧w'.cell? ⟨wb,12,none⟩=some (.slice (some ⟨gc,0,none⟩) n cc)∧w'.cell? ⟨wb,13,none⟩=some (.slice pa 8 pc)∧w'.cell? ⟨y2,1,none⟩=some (.int .i64 (cl:Int))) ((refine⟨?_,?_,?_,?_,?_,?_,?_,?_,?_,?_,?_⟩ <;> with_reducible assumption)) (first
         | (go_at_call 58;(with_reducible refine(SZ1.out _ ED.out).mono ?_);rintro e w6 ⟨rfl,hk6⟩;have E6:=hid (ED.out.keep hk6);have Y6:=hid ((hk6.block _ (lH YD.out) (fun e=>e)).trans YD.out);obtain⟨d0,d1,d2,d3,d4,d5,d6,d7,d8,d9,d10,d11,d12,d13,df⟩:=wc7 (FB.out _ E6.out);obtain⟨t0,t1,t2⟩:=clc Y6.out;clear hk6)
         | (go_at_call 27;(with_reducible refine(SPC.out _ E6.out).mono ?_);rintro e w9 ⟨rfl,h9⟩;replace h9:=h9.symm;subst h9)
         | (go_at_call 51;(with_reducible refine(WD.out _).mono ?_);rintro e w9 ⟨rfl,h9⟩;replace h9:=h9.symm;subst h9)
         | (go_at_call 29;(with_reducible refine(FL1.out _ E6.out).mono ?_);rintro e w7 ⟨rfl,hE7,hY7⟩;have Y7:=hid (hY7 _ _ _ _ Y6.out (.inr (.inr (.inr rfl))));have E7:=hid (show _∧_ from⟨hE7,Y7.out⟩);obtain⟨f0,f1,f2,f3,f4,f5,f6,f7,f8,f9,f10,f11,f12,f13,ff⟩:=wc7 (FB.out _ hE7);obtain⟨v0,v1,v2⟩:=clc Y7.out;clear hE7 hY7)
         | fail)
        all_goals
         clear c0 c1 c2 c3 c4 c5 c6 c7 c8 c9 c10 c11 c12 c13 cf d0 d1 d2 d3 d4 d5 d6 d7 d8 d9 d10 d11 d12 d13 df f0 f1 f2 f3 f4 f5 f6 f7 f8 f9 f10 f11 f12 f13 ff z0 z1 z2 t0 t1 t2 v0 v1 v2;go_wp2_with fail;exact⟨⟨q+1,by omega,by simp,E7⟩,by simp[intOf];omega⟩
       ·subst hz0;have YA:=hid (fun x:KW w5=>show x.v.heap[y2]?=some (clO pg cl (.slice xa L xc))from(x.k.block _ (lH Y5.out) (fun e=>e)).trans Y5.out);have EA:=hid (fun x:KW w5=>E5.out.keep x.k);have k3:∀ x:KW w5,x.v.cell? ⟨wb,3,none⟩=some (.pointer (some ⟨lw,0,none⟩)):=fun x=>by obtain⟨c0,c1,c2,c3,c4,c5,c6,c7,c8,c9,c10,c11,c12,c13,cf⟩:=wc7 (FB.out _ (EA.out x));exact c3
        have k5:∀ x:KW w5,x.v.cell? ⟨wb,5,none⟩=some (.int .u64 (b:Int)):=fun x=>by obtain⟨c0,c1,c2,c3,c4,c5,c6,c7,c8,c9,c10,c11,c12,c13,cf⟩:=wc7 (FB.out _ (EA.out x));exact c5
        have k6:∀ x:KW w5,x.v.cell? ⟨wb,6,none⟩=some (.int .i64 (l:Int)):=fun x=>by obtain⟨c0,c1,c2,c3,c4,c5,c6,c7,c8,c9,c10,c11,c12,c13,cf⟩:=wc7 (FB.out _ (EA.out x));exact c6
        have k7:∀ x:KW w5,x.v.cell? ⟨wb,7,none⟩=some (.int .i64 (oo:Int)):=fun x=>by obtain⟨c0,c1,c2,c3,c4,c5,c6,c7,c8,c9,c10,c11,c12,c13,cf⟩:=wc7 (FB.out _ (EA.out x));exact c7
        have k8:∀ x:KW w5,x.v.cell? ⟨wb,8,none⟩=some (.int .i64 (oo:Int)):=fun x=>by obtain⟨c0,c1,c2,c3,c4,c5,c6,c7,c8,c9,c10,c11,c12,c13,cf⟩:=wc7 (FB.out _ (EA.out x));exact c8
        have k9:∀ x:KW w5,x.v.cell? ⟨wb,9,none⟩=some (.int .i64 (Pn:Int)):=fun x=>by obtain⟨c0,c1,c2,c3,c4,c5,c6,c7,c8,c9,c10,c11,c12,c13,cf⟩:=wc7 (FB.out _ (EA.out x));exact c9
        have k10:∀ x:KW w5,x.v.cell? ⟨wb,10,none⟩=some (.slice fa (oo+1) fc):=fun x=>by obtain⟨c0,c1,c2,c3,c4,c5,c6,c7,c8,c9,c10,c11,c12,c13,cf⟩:=wc7 (FB.out _ (EA.out x));exact c10
        have k11:∀ x:KW w5,x.v.cell? ⟨wb,11,none⟩=some (.slice va i vc):=fun x=>by obtain⟨c0,c1,c2,c3,c4,c5,c6,c7,c8,c9,c10,c11,c12,c13,cf⟩:=wc7 (FB.out _ (EA.out x));exact c11
        have k12:∀ x:KW w5,x.v.cell? ⟨wb,12,none⟩=some (.slice (some ⟨gc,0,none⟩) n cc):=fun x=>by obtain⟨c0,c1,c2,c3,c4,c5,c6,c7,c8,c9,c10,c11,c12,c13,cf⟩:=wc7 (FB.out _ (EA.out x));exact c12
        have k13:∀ x:KW w5,x.v.cell? ⟨wb,13,none⟩=some (.slice pa 8 pc):=fun x=>by obtain⟨c0,c1,c2,c3,c4,c5,c6,c7,c8,c9,c10,c11,c12,c13,cf⟩:=wc7 (FB.out _ (EA.out x));exact c13
        have z0:∀ x:KW w5,x.v.cell? ⟨y2,0,none⟩=some (.int .i64 (pg:Int)):=fun x=>(clc (YA.out x)).1
        have z1:∀ x:KW w5,x.v.cell? ⟨y2,1,none⟩=some (.int .i64 (cl:Int)):=fun x=>(clc (YA.out x)).2.1
        clear hic2 hicw hicu haqi haqw;refine zbk (by kernel_rfl) (by kernel_rfl) ?_;repeat (go_big_quiet_step (first|(go_at_call 58;exact Calls.kept_of (SZ1.out _ (EA.out _)))))
        refine wpQuiet_nil ?_;intro xk;have E7:=hid (show _∧_ from⟨EA.out xk,YA.out xk⟩);clear k3 k5 k6 k7 k8 k9 k10 k11 k12 k13 z0 z1 EA YA E5 Y5;go_wp2_with fail;exact⟨⟨q+1,by omega,by simp,E7⟩,by simp[intOf];omega⟩
      ·obtain rfl:q=NC:=(by omega);have hqi:¬(q:Int)<(q:Int):=(by omega);have E9:=hid E3.out.1;go_wp2_with fail;refine(CT.out _).mono ?_;rintro e w4 ⟨rfl,h4⟩;replace h4:=h4.symm;subst h4;go_wp2_with fail;exact⟨⟨k+1,by omega,by simp,E9⟩,by simp[intOf];omega⟩
    ·obtain rfl:k=n:=(by omega);have hki:¬(k:Int)<(k:Int):=(by omega);go_wp2_with fail;go_ret;exact⟨rfl,E1.out⟩
end Go.Proofs.YtgjdmkfpmokkaaaGreatDoor
