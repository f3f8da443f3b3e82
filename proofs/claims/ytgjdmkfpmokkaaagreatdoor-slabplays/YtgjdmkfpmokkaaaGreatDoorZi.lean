import Derived.Test.YtgjdmkfpmokkaaaGreatDoorZh
set_option maxRecDepth 1000000
set_option maxHeartbeats 80000000
namespace Go.Proofs.YtgjdmkfpmokkaaaGreatDoor
open Go.RowKit
set_option linter.unusedVariables false
theorem zbl{w W lw x t}(h:Pol w W lw x t):Calls Tryz.prog 27 #[.pointer (some ⟨lw,0,none⟩)] W fun e w'=>e=.returned (.pointer (some ⟨x.s,0,none⟩))∧w'=W:=by
 obtain⟨c0,c1,c2⟩:=h.c;clear h;go_enter Tryz.func27,Tryz.ntmps27;go_wp2_with fail;go_ret;exact⟨rfl,rfl⟩
theorem Map6{w W lw x t}(h:Pol w W lw x t):Calls Tryz.prog 15 #[.pointer (some ⟨lw,0,none⟩)] W fun e w'=>e=.returned (.pointer (some ⟨x.m,0,none⟩))∧w'=W:=by
 obtain⟨c0,c1,c2⟩:=h.c;clear h;go_enter Tryz.func15,Tryz.ntmps15;go_wp2_with fail;go_ret;exact⟨rfl,rfl⟩
theorem zfJ{w W lw x t}(h:Pol w W lw x t):Calls Tryz.prog 34 #[.pointer (some ⟨lw,0,none⟩)] W fun e w'=>e=.returned (.pointer (some ⟨x.b,0,none⟩))∧w'=W:=by
 obtain⟨c0,c1,c2⟩:=h.c;clear h;go_enter Tryz.func34,Tryz.ntmps34;go_wp2_with fail;go_ret;exact⟨rfl,rfl⟩
def zm7(w:World)(base lim o:Nat)(e:Ending)(w':World):Prop:=∃ lw x,e=.returned (.tuple #[.pointer (some ⟨lw,0,none⟩),.int .i64 0])∧Pol w w' lw x ⟨fun _=>0,newM o,fun _=>0⟩∧x.base=base∧x.R=4096*2 ^ o∧x.lim=lim∧x.n=0∧x.o=o∧x.P=fun _=>none
theorem ze9(base:Nat)(hb64:base<18446744073709551616)(lim o:Nat)(hl:lim≤64)(ho:o≤8)(hm:M.mayB base (lim:Int) (o:Int)=true)(w:World):
  Calls Tryz.prog 32 #[cfgV base (lim:Int) (o:Int)] w fun e w'=>zm7 w base lim o e w':=by
 have K3:=hid ((Kt.refl nO w).alloc (cfgO base (lim:Int) (o:Int)));have X3:=hid (nH w (cfgO base (lim:Int) (o:Int)));have NW:=hid (fun W=>M.New_ok base hb64 (lim:Int) (o:Int) (by omega) (by omega) (by omega) (by omega) hm (fun _=>0) W);clear hm;go_enter Tryz.func32,Tryz.ntmps32;obtain⟨x0,x1,x2⟩:=cfg3 X3.out;go_wp2_with fail;generalize w.alloc (cfgO base (lim:Int) (o:Int))=W3 at *;refine(NW.out _).mono ?_;rintro e w4 ⟨s,rfl,hS,hk',hs⟩;have hk:Kt nO W3 w4:=toK hk';have S4:=hid (show M.SpA w4 s none base (M.RS o) lim 0 (fun _=>0)from by simpa using hS);have HS4:=hid (show w.heap.size≤s from Nat.le_trans K3.out.size hs);have X4:=hid ((hk.block _ (lH X3.out) (fun x=>x)).trans X3.out);have K4:=hid (nT K3.out hk);clear x0 x1 x2 hk hk' hS hs X3 K3 NW;obtain⟨x0,x1,x2⟩:=cfg3 X4.out;go_wp2_with fail;refine(zl3 (o:Int) _).mono ?_;rintro e w5 ⟨m,B,rfl,hM,hk,hN⟩;have M5:=hid (show MpA w5 m B (newM o)from by rw[show ordN (o:Int)=o by unfold ordN;rw[if_neg (by omega),if_neg (by omega)];simp] at hM;exact hM);have N5':=hid (show ∀ y,mown m B o y→w.heap.size≤y from fun y hy=>by rw[show ordN (o:Int)=o by unfold ordN;rw[if_neg (by omega),if_neg (by omega)];simp] at hN;exact Nat.le_trans K4.out.size (hN y hy));have S5:=hid (S4.out.keep (ofK hk));have X5:=hid ((hk.block _ (lH X4.out) (fun x=>x)).trans X4.out);have K5:=hid (nT K4.out hk);clear x0 x1 x2 hk hM hN X4 K4 S4;obtain⟨x0,x1,x2⟩:=cfg3 X5.out;go_wp2_with fail;refine(zkh base s m o (lim:Int) ho _).mono ?_;rintro e w6 ⟨b,rfl,hO⟩;have k6:Kt nO w5 w6:=by obtain⟨_,_,_,h,_⟩:=hO;exact h.kp
 have D:=hid (show ∃ x:Bx,Pol w (w6.alloc (plO x)) w6.heap.size x ⟨fun _=>0,newM o,fun _=>0⟩∧x.base=base∧x.R=4096*2 ^ o∧x.lim=lim∧x.n=0∧(x.o=o∧x.P=fun _=>none)∧x.s=s∧x.m=m∧x.b=b from by
  obtain⟨l,c,L,hB,h1,h2,h3,h4⟩:=hO.bd rfl (S5.out.keep (ofK k6)) (M5.out.keep k6) rfl rfl;have hz:=K5.out.size;have hz6:=(nT K5.out k6).size;refine⟨_,⟨nH _ _,hB.keep ((Kt.refl nO w6).alloc _),?_,(nT K5.out k6).alloc _⟩,rfl,rfl,rfl,rfl,⟨rfl,rfl⟩,rfl,rfl,rfl⟩;rintro y (hy|rfl|rfl|rfl)
  ·rcases hy with hy|hy|⟨k,hk,rfl⟩
   ·rcases hy with rfl|hy
    ·exact HS4.out
    ·cases hy
   ·exact N5'.out y hy
   ·exact Nat.le_trans hz (h3 k hk)
  ·exact Nat.le_trans hz h1
  ·exact Nat.le_trans hz h2
  ·exact hz6)
 clear x0 x1 x2 k6 hO X5 S5 M5;go_wp2_with fail;obtain⟨x,hL,e1,e2,e3,e4,e5,e6,e7,e8⟩:=D.out;refine⟨rfl,.tuple #[.pointer (some ⟨w6.heap.size,0,none⟩),.int .i64 0],by simp[results,Tryz.results32,go_sem],_,x,rfl,?_,e1,e2,e3,e4,e5⟩;rw[plO,e6,e7,e8] at hL;exact hL
theorem zfa{w W lw x}(o:Nat)(h:Pol w W lw x ⟨fun _=>0,newM o,fun _=>0⟩)(hn:x.n=0)(ho:x.o=o)(hP:x.P=fun _=>none)(hb:x.base%4096=0):PO w W lw x ⟨fun _=>0,newM o,fun _=>0⟩ (fun _=>[]) []:=by
 subst ho;have hc:=h.bd.sp.cfg;have hbe:=hc.be;have h63:x.base+x.n≤9223372036854775808:=by
  rw[hn,Nat.add_zero];exact Nat.le_trans (Nat.le_add_right _ _) hbe
 exact⟨h,Sf.new x _ hP h.bd.o8 hc.b1 h63,by rw[hn];exact Nat.zero_mul 4096,hb⟩
theorem zeK(o:Nat)(fr:Nat→List Nat)(n:Nat):zbt o fr n o=frU fr o (n :: fr o):=by
 unfold zbt;rw[Nat.sub_self];rfl
theorem zeL{x t fr ls}(s:Sf x t fr ls):zam (ls ++ [(t.m.n,x.o)]) t.m.n=ls:=by
 unfold zam;rw[List.filter_append];have h1:ls.filter (fun r=>decide (r.1≠t.m.n))=ls:=List.filter_eq_self.2 fun r hr=>by
  obtain⟨q,i⟩:=r;obtain⟨_,_,h3⟩:=s.sn.al hr;have hz : 0<2 ^ i:=Nat.pow_pos (by decide);simp
  omega
 rw[h1];simp
structure Sm(x x':Bx):Prop where
 base:x'.base=x.base
 R:x'.R=x.R
 lim:x'.lim=x.lim
 o:x'.o=x.o
 b:x'.b=x.b
 s:x'.s=x.s
 m:x'.m=x.m
 l:x'.l=x.l
 P:x'.P=x.P
theorem Sm.refl(x:Bx):Sm x x:=⟨rfl,rfl,rfl,rfl,rfl,rfl,rfl,rfl,rfl⟩
theorem Sm.trans{x y z:Bx}(h:Sm x y)(k:Sm y z):Sm x z:=⟨k.base.trans h.base,k.R.trans h.R,k.lim.trans h.lim,k.o.trans h.o,k.b.trans h.b,k.s.trans h.s,k.m.trans h.m,k.l.trans h.l,k.P.trans h.P⟩
def Nb(W:World)(x x':Bx):Prop:=∀ y,bown x' y→bown x y∨W.heap.size≤y
theorem zh4{w W lw x t}(h:Pol w W lw x t)(d:Bool)(hd:d=true∨x.n=x.lim*x.R):
  Calls Tryz.prog 56 #[.pointer (some ⟨lw,0,none⟩),.bool d] W fun e w'=>e=.returned (.int .i64 2)∧Kt nO W w':=by
 have CM:=hid (show Calls Tryz.prog 115 #[.pointer (some ⟨x.s,0,none⟩),.bool d] W fun e w'=>e=.returned (.tuple #[.int .u64 0,.int .i64 2])∧Kt nO W w' from by
  rcases hd with rfl|hd
  ·exact(M.Commit_deny x.s x.a x.base x.R x.lim x.n t.f W h.bd.sp).mono fun e w' h=>⟨h.1,toK h.2⟩
  ·cases d with
   | true=>exact(M.Commit_deny x.s x.a x.base x.R x.lim x.n t.f W h.bd.sp).mono fun e w' h=>⟨h.1,toK h.2⟩
   | false=>exact(M.Commit_full x.s x.a x.base x.R x.lim x.n t.f W h.bd.sp hd).mono fun e w' h=>⟨h.1,toK h.2⟩)
 obtain⟨c0,c1,c2⟩:=h.c;clear h hd;go_enter Tryz.func56,Tryz.ntmps56;go_wp2_with fail;refine CM.out.mono ?_;rintro e w1 ⟨rfl,hk⟩;have K1:=hid hk;clear hk CM c0 c1 c2;go_wp2_with fail;go_ret;exact⟨rfl,K1.out⟩
def GrP(w W:World)(lw:Nat)(x:Bx)(t:Bt)(fr:Nat→List Nat)(ls:List (Nat×Nat))(w':World):Prop:=∃ x' t',PO w w' lw x' t' (frU fr x.o (t.m.n :: fr x.o)) ls∧Sm x x'∧x'.n=x.n+x.R∧t'.m.n=t.m.n+2 ^ x.o∧Kt (bown x) W w'∧Nb W x x'
theorem zfl{w W lw x t fr ls}(h:PO w W lw x t fr ls)(hl:x.n+x.R≤x.lim*x.R):
  Calls Tryz.prog 56 #[.pointer (some ⟨lw,0,none⟩),.bool false] W fun e w'=>e=.returned (.int .i64 0)∧GrP w W lw x t fr ls w':=by
 obtain⟨n1,n2,n3,n4,⟨r,n5,n6,n7⟩,n8,n9⟩:=h.nums;have hcf:=h.pl.bd.sp.cfg;have hR:=h.pl.bd.hR;have hR1:=hcf.r1;have hbe:=hcf.be;have hlr:=hcf.lr;have hst:=h.st;have hmo:=h.pl.bd.mo;have hr1:r+1≤x.lim:=by
  rw[n7,←Nat.succ_mul] at hl;exact Nat.le_of_mul_le_mul_right hl (by omega)
 have hR2:x.R=2 ^ x.o*4096:=by rw[hR,Nat.mul_comm]
 have hg:t.m.n+2 ^ x.o≤1024:=by
  have:(t.m.n+2 ^ x.o)*4096≤1024*4096:=by
   rw[Nat.add_mul,hst,←hR2];omega
  exact Nat.le_of_mul_le_mul_right this (by decide)
 have CM:=hid (M.Commit_ok x.s x.a x.base x.R x.lim x.n t.f W h.pl.bd.sp ⟨r,n7,hr1⟩);have GW:=hid (show ∀ W1,MpA W1 x.m x.B t.m→Calls Tryz.prog 116 #[.pointer (some ⟨x.m,0,none⟩)] W1 fun e w'=>e=.returned (.tuple #[])∧∃ B',MpA w' x.m B' (zak t.m)∧Kt (mown x.m x.B t.m.o) W1 w'∧From W1 x.m x.B B' t.m.o from fun W1 hW=>zgy x.m x.B t.m W1 hW);have HN:=hid (show(zak t.m).n=t.m.n+2 ^ x.o from zjd hmo hg);have HH:=hid h;have HG:=hid hg;have HR2:=hid hR2;have H63:=hid (show x.base+(x.n+x.R)≤9223372036854775808 from by omega);obtain⟨c0,c1,c2⟩:=h.pl.c;clear h n1 n2 n3 n4 n5 n6 n7 n8 n9 hcf hR hR1 hbe hlr hst hmo hr1 hR2 hg hl;go_enter Tryz.func56,Tryz.ntmps56;go_wp2_with fail;refine CM.out.mono ?_;rintro e w1 ⟨rfl,g',hS,hk,hgg⟩;have P1:=hid (HH.out.pl.space (toK hk) hS hgg);have K1:=hid (toK hk);have NG:=hid hgg;clear hS hk hgg CM c0 c1 c2;obtain⟨c0,c1,c2⟩:=P1.out.c;go_wp2_with fail;refine(GW.out _ P1.out.bd.mp).mono ?_;rintro e w2 ⟨rfl,B',hM,hk,hF⟩;have P2:=hid (P1.out.grow hk hM (zjc _) hF);have K2:=hid hk;have NF:=hid hF;clear hM hk hF GW c0 c1 c2;have FD:=hid (show Calls Tryz.prog 117 #[.pointer (some ⟨x.b,0,none⟩)] w2 fun e w'=>e=.returned (.int .i64 0)∧DF { x with a:=some g',n:=x.n+x.R,B:=B' } ⟨M.more t.f x.n,zak t.m,t.hd⟩ w2 w' (frU fr x.o (t.m.n :: fr x.o)) ls from by
  have s2:=HH.out.sf.grow HH.out.pl.bd { x with a:=some g',n:=x.n+x.R,B:=B' } rfl rfl rfl rfl H63.out HG.out;have e1:(zak t.m).n*4096=x.n+x.R:=by rw[HN.out,Nat.add_mul,HH.out.st,←HR2.out]
  have hz : 0<2 ^ x.o:=Nat.pow_pos (by decide);have htop:topP { x with a:=some g',n:=x.n+x.R,B:=B' }=t.m.n:=by
   unfold topP;show(x.n+x.R)/4096-2 ^ x.o=t.m.n
   rw[←HH.out.st,HR2.out,←Nat.add_mul,Nat.mul_div_cancel _ (by decide)];omega
  have hok:zbx { x with a:=some g',n:=x.n+x.R,B:=B' } ⟨M.more t.f x.n,zak t.m,t.hd⟩:=⟨by have:=HR2.out;show x.n+x.R≠0;omega,e1⟩;have:=zif { x with a:=some g',n:=x.n+x.R,B:=B' } ⟨M.more t.f x.n,zak t.m,t.hd⟩ fr _ s2 hok (by rw[htop];exact List.mem_append_right _ (List.mem_singleton.2 rfl)) (by rw[htop];exact HH.out.sf.pout (Nat.le_refl _)) w2 P2.out.bd;rw[htop,zeK,zeL HH.out.sf] at this;exact this)
 obtain⟨c0,c1,c2⟩:=P2.out.c;go_wp2_with fail;refine FD.out.mono ?_;rintro e w3 ⟨rfl,hd⟩;have D:=hid (show GrP w W lw x t fr ls w3 from by
  obtain⟨t',hb,hk,hs,hn⟩:=hd;have hz1:=K1.out.size;have nb:Nb W x { x with a:=some g',n:=x.n+x.R,B:=B' }:=by
   rintro y (hy|hy|⟨k,hk,rfl⟩)
   ·rcases hy with rfl|hy
    ·exact .inl (.inl (.inl rfl))
    ·have hy:some g'=some y:=hy
     cases hy
     rcases NG.out with e|e
     ·exact .inl (.inl (.inr e))
     ·exact .inr e
   ·have hy:mown x.m B' x.o y:=hy;rw[←HH.out.pl.bd.mo] at hy;rcases NF.out y hy with e|e
    ·exact .inl (.inr (.inl (HH.out.pl.bd.mo▸e)))
    ·exact .inr (Nat.le_trans hz1 e)
   ·exact .inl (.inr (.inr ⟨k,hk,rfl⟩))
  have k12:Kt (bown x) W w2:=K1.out.trans K2.out (fun _ _ e=>.inl e) (fun _ _ e=>.inr (.inl (HH.out.pl.bd.mo▸e)));refine⟨{ x with a:=some g',n:=x.n+x.R,B:=B' },t',⟨P2.out.call hb hk,hs,?_,HH.out.bm⟩,⟨rfl,rfl,rfl,rfl,rfl,rfl,rfl,rfl,rfl⟩,rfl,hn.trans HN.out,k12.trans hk (fun _ _ e=>e) (fun y hy e=>?_),nb⟩
  ·rw[hn];show(zak t.m).n*4096=x.n+x.R
   rw[HN.out,Nat.add_mul,HH.out.st,←HR2.out]
  ·rcases nb y e with e|e
   ·exact e
   ·omega)
 clear hd FD c0 c1 c2;go_wp2_with fail;go_ret;exact⟨rfl,D.out⟩
inductive NdP(w W:World)(lw:Nat)(x:Bx)(t:Bt)(fr:Nat→List Nat)(ls:List (Nat×Nat))(k:Int)(d:Bool)(e:Ending)(w':World):Prop where
 | bad (hk:inR (x.o+1) k=false) (he:e=.returned (.tuple #[.int .u64 0,.bool false,.int .i64 1])) (kp:Kt nO W w')
 | here (i j p:Nat) (l:List Nat) (hk:k=(i:Int)) (hi:i≤x.o) (hij:i≤j) (hj:j≤x.o) (hz:∀ a,i≤a→a<j→fr a=[]) (hp:fr j=p :: l) (he:e=.returned (.tuple #[.int .u64 ((ad x p:Nat):Int),.bool false,.int .i64 0])) (hs:∃ t',PO w w' lw x t' (cutF (frU fr j (M.dropL (fr j) p)) p j i) (ls ++ [(p,i)])∧t'.m.n=t.m.n) (kp:Kt (bown x) W w')
 | stuck (i:Nat) (hk:k=(i:Int)) (hi:i≤x.o) (hz:∀ a,i≤a→a≤x.o→fr a=[]) (hd:d=true∨x.n=x.lim*x.R) (he:e=.returned (.tuple #[.int .u64 0,.bool false,.int .i64 2])) (kp:Kt nO W w')
 | grew (i:Nat) (hk:k=(i:Int)) (hi:i≤x.o) (hz:∀ a,i≤a→a≤x.o→fr a=[]) (hd:d=false) (hl:x.n + x.R≤x.lim*x.R) (he:e=.returned (.tuple #[.int .u64 ((ad x t.m.n:Nat):Int),.bool true,.int .i64 0])) (hs:∃ x' t',PO w w' lw x' t' (cutF fr t.m.n x.o i) (ls ++ [(t.m.n,i)])∧Sm x x'∧x'.n=x.n + x.R∧t'.m.n=t.m.n + 2 ^ x.o∧Nb W x x') (kp:Kt (bown x) W w')
theorem Need_any{w W lw x t fr ls}(h:PO w W lw x t fr ls)(k:Int)(d:Bool):
  Calls Tryz.prog 19 #[.pointer (some ⟨lw,0,none⟩),.int .i64 k,.bool d] W fun e w'=>NdP w W lw x t fr ls k d e w':=by
 obtain⟨c0,c1,c2⟩:=h.pl.c;have HH:=hid h
 cases hr:inR (x.o+1) k with
 | false=>
  have TK:=hid (zeJ x t k hr W h.pl.bd);have HR:=hid hr;clear h hr;go_enter Tryz.func19,Tryz.ntmps19;go_wp2_with fail;refine TK.out.mono ?_;rintro e w1 ⟨rfl,h1⟩;subst h1;go_wp2_with fail;exact⟨rfl,.tuple #[.int .u64 0,.bool false,.int .i64 1],by simp[results,Tryz.results19,go_sem],.bad HR.out rfl (Kt.refl nO _)⟩
 | true=>
  obtain⟨i,rfl,hi'⟩:=zav hr;have hi:i≤x.o:=by omega
  have TK:=hid (zeR x t fr ls h.sf i hi W h.pl.bd);clear h hr hi';go_enter Tryz.func19,Tryz.ntmps19;go_wp2_with fail;refine TK.out.mono ?_;rintro e w1 (⟨rfl,h1,hz⟩|⟨j,p,l,hij,hj,hz,hp,rfl,hd⟩)
  ·subst h1;have HZ:=hid hz;clear hz TK;by_cases hd:d=true∨x.n=x.lim*x.R
   ·as_aux_lemma=>
    have GR:=hid (zh4 HH.out.pl d hd);have HD:=hid hd;clear hd;go_wp2_with fail;refine GR.out.mono ?_;rintro e w2 ⟨rfl,hk⟩;have K2:=hid hk;clear hk;go_wp2_with fail;exact⟨rfl,.tuple #[.int .u64 0,.bool false,.int .i64 2],by simp[results,Tryz.results19,go_sem],.stuck i rfl hi HZ.out HD.out rfl K2.out⟩
   ·as_aux_lemma=>
    obtain rfl:d=false:=by
     cases d with
     | true=>exact absurd (.inl rfl) hd
     | false=>rfl
    have hl:x.n+x.R≤x.lim*x.R:=by
     obtain⟨_,_,_,_,⟨r,_,n6,n7⟩,_,_⟩:=HH.out.nums;have h1:r≠x.lim:=fun e=>hd (.inr (by rw[n7,e]))
     have h2:(r+1)*x.R≤x.lim*x.R:=Nat.mul_le_mul_right _ (by omega);rw[Nat.add_mul,Nat.one_mul,←n7] at h2;exact h2
    have HL:=hid hl;have GR:=hid (zfl HH.out hl);clear hd hl;go_wp2_with fail;refine GR.out.mono ?_;rintro e w2 ⟨rfl,x2,t2,hP2,hs2,hx2,ht2,hk2,hn2⟩;have P2:=hid hP2;have S2:=hid hs2;have E2:=hid (And.intro hx2 (And.intro ht2 (And.intro hk2 hn2)));have hfo:=HZ.out x.o hi (Nat.le_refl _);have TK2:=hid (zeR x2 t2 _ ls hP2.sf i (by rw[hs2.o];exact hi) w2 hP2.pl.bd);obtain⟨c0,c1,c2⟩:=hP2.pl.c;rw[hs2.b] at c2 TK2;clear hP2 hs2 hx2 ht2 hk2 hn2 GR;go_wp2_with fail;refine TK2.out.mono ?_;rintro e w3 (⟨_,_,hz3⟩|⟨j,p,l,hij,hj,hz3,hp,rfl,hd⟩)
    ·exfalso
     have:=hz3 x.o hi (by rw[S2.out.o];exact Nat.le_refl _);simp[frU] at this
    ·have hjo:j=x.o:=by
      rcases Nat.lt_or_ge j x.o with e|e
      ·have h1:=HZ.out j hij (Nat.le_of_lt e);unfold frU at hp;rw[if_neg (by omega),h1] at hp
       cases hp
      ·rw[S2.out.o] at hj;omega
     subst hjo;have hpn:p=t.m.n:=by
      unfold frU at hp;rw[if_pos rfl] at hp;injection hp with e _
      exact e.symm
     subst hpn;have D:=hid (show ∃ x' t',PO w w3 lw x' t' (cutF fr t.m.n x.o i) (ls ++ [(t.m.n,i)])∧Sm x x'∧x'.n=x.n + x.R∧t'.m.n=t.m.n + 2 ^ x.o∧Nb w1 x x' from by
      obtain⟨t3,hP3,hn3,hk3⟩:=P2.out.done hd;refine⟨x2,t3,⟨hP3.pl,hP3.sf.congr (fun a ha=>?_),hP3.st,hP3.bm⟩,S2.out,E2.out.1,hn3.trans E2.out.2.1,E2.out.2.2.2⟩;unfold cutF;by_cases ea:i≤a∧a<x.o
      ·rw[if_pos ea,if_pos ea];unfold frU;rw[if_neg (by omega),if_neg (by omega)]
      ·rw[if_neg ea,if_neg ea];unfold frU;by_cases eo:a=x.o
       ·rw[if_pos eo,if_pos rfl,eo,hfo];simp[M.dropL]
       ·rw[if_neg eo,if_neg eo])
     have KF:=hid (show Kt (bown x) w1 w3 from by
      obtain⟨t3,hP3,hn3,hk3⟩:=P2.out.done hd;refine E2.out.2.2.1.trans hk3 (fun _ _ e=>e) (fun y hy e=>?_);rcases E2.out.2.2.2 y e with e|e
      ·exact e
      ·omega)
     have had:ad x2 t.m.n=ad x t.m.n:=(by unfold ad;rw[S2.out.base]);rw[had];clear hd hz3 hij hj hp TK2 c0 c1 c2;go_wp2_with fail;exact⟨rfl,.tuple #[.int .u64 ((ad x t.m.n:Nat):Int),.bool true,.int .i64 0],by simp[results,Tryz.results19,go_sem],.grew i rfl hi HZ.out rfl HL.out rfl D.out KF.out⟩
  ·as_aux_lemma=>
   obtain⟨t1,hP1,hn1,hk1⟩:=HH.out.done hd;have D:=hid (show NdP w W lw x t fr ls (i:Int) d (.returned (.tuple #[.int .u64 ((ad x p:Nat):Int),.bool false,.int .i64 0])) w1 from .here i j p l rfl hi hij hj hz hp rfl ⟨t1,hP1,hn1⟩ hk1);clear hd hP1 hn1 hk1 hz hp hij hj TK;generalize ad x p=q at *;go_wp2_with fail;exact⟨rfl,.tuple #[.int .u64 (q:Int),.bool false,.int .i64 0],by simp[results,Tryz.results19,go_sem],D.out⟩
theorem Sf.apart0{x t fr ls}(s:Sf x t fr ls){k p q i:Nat}(hk:k≤x.o)(hp:p∈fr k)(hq:(q,i)∈ls):p+2 ^ k≤q∨q+2 ^ i≤p:=by
 obtain⟨B,s,_,hL⟩:=s;rcases s.ds _ _ _ _ _ _ ((s.fi p k).2 ⟨hk,hp⟩) ((hL q i).2 hq)with ⟨e,_⟩|e
 ·omega
 ·exact e
theorem ziC{x t fr ls}(s:Sf x t fr ls){p:Nat}(hp:p∈fr x.o):zam (ls ++ [(p,x.o)]) p=ls:=by
 unfold zam;rw[List.filter_append];have h1:ls.filter (fun r=>decide (r.1≠p))=ls:=List.filter_eq_self.2 fun r hr=>by
  obtain⟨q,i⟩:=r;have hz : 0<2 ^ i:=Nat.pow_pos (by decide);have hz2 : 0<2 ^ x.o:=Nat.pow_pos (by decide);rcases s.apart0 (Nat.le_refl _) hp hr with e|e <;> simp <;> omega
 rw[h1];simp
theorem ziD{w W lw x t fr ls}(h:PO w W lw x t fr ls)(hm:t.m.n=0∨t.m.n-2 ^ x.o ∉ fr x.o):
  Calls Tryz.prog 75 #[.pointer (some ⟨lw,0,none⟩)] W fun e w'=>e=.returned (.bool false)∧Kt nO W w':=by
 have PN:=hid (zjh x t fr ls h.sf (fun ht=>by
  rcases h.top with ⟨_,h1⟩|⟨h0,h1,h2⟩
  ·exact absurd ht h1
  ·rw[h2];rcases hm with e|e
   ·have hz : 0<2 ^ x.o:=Nat.pow_pos (by decide);omega
   ·exact e) W h.pl.bd)
 obtain⟨c0,c1,c2⟩:=h.pl.c;clear h hm;go_enter Tryz.func75,Tryz.ntmps75;go_wp2_with fail;refine PN.out.mono ?_;rintro e w1 ⟨rfl,hk⟩;have K1:=hid hk;clear hk PN c0 c1 c2;go_wp2_with fail;go_ret;exact⟨rfl,K1.out⟩
def trF(o:Nat):Nat→(Nat→List Nat)→Nat×(Nat→List Nat)
 | 0,fr=>(0,fr)
 | r+1,fr=>if r*2 ^ o∈fr o then ((trF o r (frU fr o (M.dropL (fr o) (r*2 ^ o)))).1+1,(trF o r (frU fr o (M.dropL (fr o) (r*2 ^ o)))).2) else (0,fr)
theorem ziE{o r:Nat}{fr:Nat→List Nat}(h:r*2 ^ o∈fr o):trF o (r+1) fr=((trF o r (frU fr o (M.dropL (fr o) (r*2 ^ o)))).1+1,(trF o r (frU fr o (M.dropL (fr o) (r*2 ^ o)))).2):=by
 show(if r*2 ^ o∈fr o then _ else _)=_
 rw[if_pos h]
theorem zkZ{o r:Nat}{fr:Nat→List Nat}(h:¬r*2 ^ o∈fr o):trF o (r+1) fr=(0,fr):=by
 show(if r*2 ^ o∈fr o then _ else _)=_
 rw[if_neg h]
theorem zk0(o:Nat):∀ r fr,(trF o r fr).1≤r
 | 0,_=>Nat.le_refl _
 | r+1,fr=>by
  unfold trF;split
  ·exact Nat.succ_le_succ (zk0 o r _)
  ·exact Nat.zero_le _
theorem PO.liv{w W lw x t fr ls}(h:PO w W lw x t fr ls)(a:Nat)(ha:a<18446744073709551616)(od:Int):zb4 x t a od=zbh (bigL x ls) (pgV x.base t.m.n a) od∧(zbh (bigL x ls) (pgV x.base t.m.n a) od=true→∃ p k:Nat,pgV x.base t.m.n a=(p:Int)∧od=(k:Int)∧a=ad x p∧(p,k)∈ls∧k≤x.o∧p≤1024∧x.P p=none):=by
 refine⟨h.sf.live_all h.bm h.st a ha od,fun hl=>?_⟩;obtain⟨⟨p,k⟩,hmb,h2⟩:=List.any_eq_true.1 hl;obtain⟨hm,hv⟩:=zfC.1 hmb;rw[Bool.and_eq_true,decide_eq_true_iff,decide_eq_true_iff] at h2;obtain⟨a1,_,a3⟩:=h.sf.sn.al hm;have hn:=h.nums.2.1;refine⟨p,k,h2.1.symm,h2.2.symm,?_,hm,a1,by omega,hv⟩;have h3:=h2.1;unfold pgV at h3;unfold ad;split at h3
 ·have:=Int.ofNat.inj h3;have h4:p=(a-x.base)/4096:=this;have hb:=h.bm;omega
 ·omega
theorem zgo{w W lw x t fr ls}(h:PO w W lw x t fr ls)(a:Nat)(ha:a<18446744073709551616)(od:Int)(hl:zbh (bigL x ls) (pgV x.base t.m.n a) od=false):
  Calls Tryz.prog 60 #[.pointer (some ⟨lw,0,none⟩),.int .u64 (a:Int),.int .i64 od] W fun e w'=>e=.returned (.int .i64 1)∧Kt nO W w':=by
 have GN:=hid (zlh x t a od ha ((h.liv a ha od).1.trans hl) W h.pl.bd);obtain⟨c0,c1,c2⟩:=h.pl.c;clear h hl;go_enter Tryz.func60,Tryz.ntmps60;go_wp2_with fail;refine GN.out.mono ?_;rintro e w1 ⟨rfl,hk⟩;have K1:=hid hk;clear hk;go_wp2_with fail;go_ret;exact⟨rfl,K1.out⟩
theorem zke{w W lw x t fr ls}(h:PO w W lw x t fr ls)(k:Int)(hk:inR (x.o+1) k=false)(d:Bool):
  Calls Tryz.prog 19 #[.pointer (some ⟨lw,0,none⟩),.int .i64 k,.bool d] W fun e w'=>e=.returned (.tuple #[.int .u64 0,.bool false,.int .i64 1])∧Kt nO W w':=by
 have out:∀ i:Nat,k=(i:Int)→i≤x.o→False:=fun i h1 h2=>by
  subst h1;unfold inR at hk;have:=of_decide_eq_false hk;omega
 refine(Need_any h k d).mono fun e w' hn=>?_
 cases hn with
 | bad _ he kp=>exact⟨he,kp⟩
 | here i j p l h1 h2=>exact(out i h1 h2).elim
 | stuck i h1 h2=>exact(out i h1 h2).elim
 | grew i h1 h2=>exact(out i h1 h2).elim
theorem zmG{o i:Nat}(h:i≤o):inR (o+1) (i:Int)=true:=by
 unfold inR;exact decide_eq_true (by omega)
theorem zhc{w W lw x t fr ls}(h:PO w W lw x t fr ls)(i:Nat)(hi:i≤x.o)(hz:∀ a,i≤a→a≤x.o→fr a=[])(d:Bool)(hd:d=true∨x.n=x.lim*x.R):
  Calls Tryz.prog 19 #[.pointer (some ⟨lw,0,none⟩),.int .i64 (i:Int),.bool d] W fun e w'=>e=.returned (.tuple #[.int .u64 0,.bool false,.int .i64 2])∧Kt nO W w':=by
 have hR1:=h.pl.bd.sp.cfg.r1;refine(Need_any h (i:Int) d).mono fun e w' hn=>?_
 cases hn with
 | bad h1=>rw[zmG hi] at h1;cases h1
 | here i' j' p' l' h1 h2 h3 h4 h5 h6=>rw[hz j' (by omega) h4] at h6;cases h6
 | stuck i' h1 h2 h3 h4 he kp=>exact⟨he,kp⟩
 | grew i' h1 h2 h3 h4 h5=>
  rcases hd with e|e
  ·rw[e] at h4;cases h4
  ·omega
theorem zkf{w W lw x t fr ls}(h:PO w W lw x t fr ls)(r:Nat)(hr:t.m.n=r*2 ^ x.o):Calls Tryz.prog 28 #[.pointer (some ⟨x.s,0,none⟩)] W fun e w'=>e=.returned (.int .i64 (r:Int))∧Kt nO W w':=by
 have hR:=h.pl.bd.hR;have hR1:=h.pl.bd.sp.cfg.r1;have hx:x.n/x.R=r:=by
  have h1:=h.st;have h2:x.n=r*x.R:=by rw[←h1,hr,hR,Nat.mul_comm 4096,Nat.mul_assoc]
  rw[h2];exact Nat.mul_div_cancel _ (by omega)
 refine(M.regions_any x.s x.a x.base x.R x.lim x.n t.f W h.pl.bd.sp).mono ?_;rintro e w' ⟨rfl,m,rfl⟩;exact⟨by rw[hx],(Kt.refl nO W).drewN m⟩
theorem end6{w W lw x t fr ls}(h:PO w W lw x t fr ls):Calls Tryz.prog 74 #[.pointer (some ⟨x.s,0,none⟩)] W fun e w'=>e=.returned (.int .u64 ((x.base+x.n:Nat):Int))∧Kt nO W w':=by
 refine(M.end_any x.s x.a x.base x.R x.lim x.n t.f W h.pl.bd.sp).mono ?_;rintro e w' ⟨rfl,hk⟩;first
  | exact⟨rfl,toK hk⟩
  | (obtain⟨m,rfl⟩:=hk;exact⟨rfl,(Kt.refl nO W).drewN m⟩)
  | (subst hk;exact⟨rfl,Kt.refl nO _⟩)
theorem zmH{w W lw x t fr ls}(h:PO w W lw x t fr ls):Calls Tryz.prog 139 #[.pointer (some ⟨x.m,0,none⟩)] W fun e w'=>e=.returned (.int .i64 (t.m.n:Int))∧w'=W:=zce x.m x.B t.m W h.pl.bd.mp
theorem zdD(f g:Nat→Nat):∀ k,(∀ i,i<k→f i<256)→(∀ i,i<k→g i<256)→M.wordTo f k=M.wordTo g k→∀ i,i<k→f i=g i
 | 0,_,_,_,i,hi=>absurd hi (Nat.not_lt_zero _)
 | k+1,hf,hg,h,i,hi=>by
  have hf':=M.wordTo_lt f k (fun i hi=>hf i (by omega));have hg':=M.wordTo_lt g k (fun i hi=>hg i (by omega));rw[M.wordTo,M.wordTo] at h;have hz : 0<256 ^ k:=Nat.pow_pos (by decide);have e1:(M.wordTo f k+f k*256 ^ k)/256 ^ k=f k:=by
   rw[Nat.add_mul_div_right _ _ hz,Nat.div_eq_of_lt hf',Nat.zero_add]
  have e2:(M.wordTo g k+g k*256 ^ k)/256 ^ k=g k:=by
   rw[Nat.add_mul_div_right _ _ hz,Nat.div_eq_of_lt hg',Nat.zero_add]
  have e3:f k=g k:=by rw[←e1,h,e2]
  by_cases e:i=k
  ·rw[e];exact e3
  ·rw[e3] at h;exact zdD f g k (fun i hi=>hf i (by omega)) (fun i hi=>hg i (by omega)) (Nat.add_right_cancel h) i (by omega)
theorem zcC{w s a base R lim n f}(h:M.SpA w s a base R lim n f){i:Nat}(hi:i<n):f i<256:=by
 obtain⟨cap,hb,hr⟩:=h.ex
 cases a with
 | none=>
  obtain⟨e,_⟩:=hr;omega
 | some g=>
  obtain⟨_,rs,_,_,h1,h2,h3⟩:=hr;rw[←h2 i hi];exact h3 i
theorem zeu{f g:Nat→Nat}{o:Nat}(hf:∀ i,i<8→f (o+i)<256)(hg:∀ i,i<8→g (o+i)<256)(h:M.word f o=M.word g o)(j:Nat)(hj:j<8):f (o+j)=g (o+j):=
 zdD (fun i=>f (o+i)) (fun i=>g (o+i)) 8 hf hg h j hj
theorem Kp.byte{w w' x t t'}{G:Nat→Prop}(h:Kp x t t' G)(hb:BdAt w x t)(hb':BdAt w' x t'){i:Nat}(hi:i/4096*4096+4096≤x.n)(hG:G (i/4096)):t'.f i=t.f i:=by
 have hc:=hb.sp.cfg;have hn:=hb.sp.nle;have hbe:=hc.be;have hb1:=hc.b1;have hcell:M.IsCell x.base x.n (x.base+i/16*16):=by unfold M.IsCell;omega
 obtain⟨h1,h2⟩:=h _ hcell (by rw[show(x.base+i/16*16-x.base)/4096=i/4096 by omega];exact hG);unfold M.nx at h1;unfold M.pv at h2;rw[show x.base+i/16*16-x.base=i/16*16 by omega] at h1;rw[show x.base+i/16*16+8-x.base=i/16*16+8 by omega] at h2;have f1:∀ j,j<16→t.f (i/16*16+j)<256:=fun j hj=>zcC hb.sp (by omega)
 have f2:∀ j,j<16→t'.f (i/16*16+j)<256:=fun j hj=>zcC hb'.sp (by omega)
 by_cases e:i%16<8
 ·have:=zeu (fun j hj=>f2 j (by omega)) (fun j hj=>f1 j (by omega)) h1 (i%16) e;rw[show i/16*16+i%16=i by omega] at this;exact this
 ·have:=zeu (o:=i/16*16+8) (fun j hj=>by have:=f2 (8+j) (by omega);rw[←Nat.add_assoc] at this;exact this) (fun j hj=>by have:=f1 (8+j) (by omega);rw[←Nat.add_assoc] at this;exact this) h2 (i%16-8) (by omega);rw[show i/16*16+8+(i%16-8)=i by omega] at this;exact this
def Lv(ls:List (Nat×Nat))(g:Nat):Prop:=∃ q k,(q,k)∈ls∧q≤g∧g<q+2 ^ k
def BK(t t':Bt)(ls ls':List (Nat×Nat)):Prop:=∀ i,Lv ls (i/4096)→Lv ls' (i/4096)→t'.f i=t.f i
theorem Sf.nfree{x t fr ls}(s:Sf x t fr ls){g:Nat}(h:Lv ls g)(j:Nat)(hj:j≤x.o):g ∉ fr j:=fun hg=>by
 obtain⟨q,k,hm,h1,h2⟩:=h;obtain⟨B,s,_,hL⟩:=s;have hz : 0<2 ^ j:=Nat.pow_pos (by decide);rcases s.ds _ _ _ _ _ _ ((s.fi g j).2 ⟨hj,hg⟩) ((hL q k).2 hm)with ⟨e,_⟩|e|e
 ·exact absurd e (by decide)
 ·omega
 ·omega
theorem Sf.lv_in{x t fr ls}(s:Sf x t fr ls){g:Nat}(h:Lv ls g):g*4096+4096≤x.n:=by
 obtain⟨q,k',hm,h3,h4⟩:=h;obtain⟨_,_,a3⟩:=s.sn.al hm;obtain⟨B,s,_,hL⟩:=s;have h5:g+1≤t.m.n:=Nat.le_trans h4 a3;have h6:=Nat.mul_le_mul_right 4096 h5;rw[Nat.add_mul,Nat.one_mul] at h6;exact Nat.le_trans h6 s.nb
theorem BK.of{w w':World}{x:Bx}{t t':Bt}{fr fr':Nat→List Nat}{ls ls':List (Nat×Nat)}(h:BdAt w x t)(h':BdAt w' x t')(s:Sf x t fr ls)(s':Sf x t' fr' ls')(k:Kp x t t' (fun g=>(∀ i,i≤x.o→g ∉ fr i)∧∀ i,i≤x.o→g ∉ fr' i)):BK t t' ls ls':=fun i h1 h2=>by
 have n1:=fun j hj=>s.nfree h1 j hj
 have n2:=fun j hj=>s'.nfree h2 j hj
 have hi:=s.lv_in h1;exact Kp.byte (G:=fun g=>(∀ i,i≤x.o→g ∉ fr i)∧∀ i,i≤x.o→g ∉ fr' i) k h h' (i:=i) hi (And.intro n1 n2)
theorem BK.refl(t:Bt)(ls ls':List (Nat×Nat)):BK t t ls ls':=fun _ _ _=>rfl
theorem BK.trans{t t1 t2:Bt}{ls ls1 ls2:List (Nat×Nat)}(h:BK t t1 ls ls1)(h':BK t1 t2 ls1 ls2)(hm:∀ g,Lv ls g→Lv ls2 g→Lv ls1 g):BK t t2 ls ls2:=fun i h1 h2=>(h' i (hm _ h1 h2) h2).trans (h i h1 (hm _ h1 h2))
end Go.Proofs.YtgjdmkfpmokkaaaGreatDoor
namespace Go.Proofs.YtgjdmkfpmokkaaaGreatDoor.K
open Go.RowKit
set_option linter.unusedVariables false
def DF(x:Bx)(t:Bt)(w w':World)(ls0:List (Nat×Nat))(fr:Nat→List Nat)(ls:List (Nat×Nat)):Prop:=∃ t',BdAt w' x t'∧Kt (bown x) w w'∧Sf x t' fr ls∧t'.m.n=t.m.n∧BK t t' ls0 ls
theorem zeR(x:Bx)(t:Bt)(fr:Nat→List Nat)(ls:List (Nat×Nat))(s:Sf x t fr ls)(k:Nat)(hk:k≤x.o)(w:World)(h:BdAt w x t):
  Calls Tryz.prog 55 #[.pointer (some ⟨x.b,0,none⟩),.int .i64 (k:Int)] w fun e w'=>
   (e=.returned (.tuple #[.int .u64 0,.int .i64 2])∧w'=w∧∀ j,k≤j→j≤x.o→fr j=[])∨
   (∃ j p l,k≤j∧j≤x.o∧(∀ i,k≤i→i<j→fr i=[])∧fr j=p :: l∧e=.returned (.tuple #[.int .u64 ((ad x p:Nat):Int),.int .i64 0])∧DF x t w w' ls (cutF (frU fr j (M.dropL (fr j) p)) p j k) (ls ++ [(p,k)])):=by
 have s00:=s;obtain⟨B,s,hN,hL⟩:=s;rcases zgF x t k with hz|⟨j,hj,hl⟩
 ·refine(zdI x t k hk hz w h).mono ?_;rintro e w' ⟨rfl,rfl⟩;exact .inl ⟨rfl,rfl,fun j h1 h2=>(s.head j h2).1 (hz j h1 h2)⟩
 ·obtain⟨p,l,hfr⟩:∃ p l,fr j=p :: l:=by
   cases e:fr j with
   | nil=>exact absurd ((s.head j hj).2 e) (hl.lh hj)
   | cons p l=>exact⟨p,l,rfl⟩
  obtain⟨c1,c2,c3,c4,c5,c6,fr',B',c7,c8,c9,c10,c11⟩:=s.take hN hl.lk hj hfr;refine(zga x t k j p hk hl hj c1 c2 c3 c4 c5 c6 w h).mono ?_;rintro e w' ⟨rfl,h1,h2⟩;have hfr':fr'=cutF (frU fr j (M.dropL (fr j) p)) p j k:=by
   funext i
   rw[c10];unfold cutF frU;by_cases e:k≤i∧i<j
   ·rw[if_pos e,if_pos e,if_neg (by omega)]
   ·rw[if_neg e,if_neg e]
  subst hfr';exact .inr ⟨j,p,l,hl.lk,hj,fun i h3 h4=>(s.head i (by omega)).1 (hl.lz i h3 h4),hfr,rfl,_,h1,h2,⟨B',c7,c8,fun q i=>by rw[c9,hL,zdx]⟩,zja _ _ _ _ _,BK.of h h1 s00 ⟨B',c7,c8,fun q i=>by rw[c9,hL,zdx]⟩ c11⟩
theorem zmw(x:Bx)(t:Bt)(fr:Nat→List Nat)(ls:List (Nat×Nat))(s0:Sf x t fr ls)(p k:Nat)(hl:(p,k)∈ls)(hv:x.P p=none)(w:World)(h:BdAt w x t):
  Calls Tryz.prog 120 #[.pointer (some ⟨x.b,0,none⟩),.int .u64 ((ad x p:Nat):Int),.int .i64 (k:Int)] w fun e w'=>e=.returned (.int .i64 0)∧DF x t w w' ls (zbt x.o fr p k) (zam ls p):=by
 obtain⟨n1,n2,n3⟩:=s0.sn.n;obtain⟨a1,a2,a3⟩:=s0.sn.al hl;have hz : 0<2 ^ k:=Nat.pow_pos (by decide);have hlv:=(s0.sn.live_iff p k (by omega)).2 ⟨hl,hv⟩;have hdr:=s0.drop_iff hl;have s00:=s0;obtain⟨B,s,hN,hL⟩:=s0;obtain⟨pg1,_⟩:=zd6 s p (by omega);obtain⟨t',p',k',c1,c2,B',c3,c4,c5,e1,e2,e3⟩:=s.give hN ((hL p k).2 hl) hv;refine(zf0 x t (ad x p) k (by unfold ad;omega) hlv w h).mono ?_;rintro e w' ⟨tr,pr,kr,hj,rfl,h1,h2⟩;rw[pg1,c1] at hj
 cases hj
 have hn2:(zaw x t' p' k').m.n=t.m.n:=by
  rw[zcp];have:=zjb x (x.o-k) t p k;rw[c1] at this;exact this
 subst e1 e2;exact⟨by rw[c2];rfl,_,h1,h2,⟨B',c3,c4,fun q i=>by rw[c5,hL];exact hdr q i⟩,hn2,BK.of h h1 s00 ⟨B',c3,c4,fun q i=>by rw[c5,hL];exact hdr q i⟩ (e3.mono fun g hg=>⟨hg.1,fun j hb=>hg.2 j ((c3.fi g j).1 hb).1 ((c3.fi g j).1 hb).2⟩)⟩
theorem zif(x:Bx)(t:Bt)(fr:Nat→List Nat)(ls:List (Nat×Nat))(s0:Sf x t fr ls)(hn:zbx x t)(hl:(topP x,x.o)∈ls)(hv:x.P (topP x)=none)(w:World)(h:BdAt w x t):
  Calls Tryz.prog 117 #[.pointer (some ⟨x.b,0,none⟩)] w fun e w'=>e=.returned (.int .i64 0)∧DF x t w w' ls (zbt x.o fr (topP x) x.o) (zam ls (topP x)):=by
 obtain⟨t1,t2⟩:=s0.sn.top hn;have hz : 0<2 ^ x.o:=Nat.pow_pos (by decide);have hlv:=(s0.sn.live_iff (topP x) x.o (by omega)).2 ⟨hl,hv⟩;have hdr:=s0.drop_iff hl;have s00:=s0;obtain⟨B,s,hN,hL⟩:=s0;obtain⟨pg1,_⟩:=zd6 s (topP x) (by omega);obtain⟨t',p',k',c1,c2,B',c3,c4,c5,e1,e2,e3⟩:=s.give hN ((hL (topP x) x.o).2 hl) hv;subst e1 e2;rw[Nat.sub_self,zbB] at c1;have c1a:t'=t:=(congrArg Prod.fst c1).symm;have c1b:(zap x.o (x.o-x.o) fr (topP x) x.o).2.1=topP x:=by rw[Nat.sub_self];rfl
 have c1c:(zap x.o (x.o-x.o) fr (topP x) x.o).2.2=x.o:=by rw[Nat.sub_self];rfl
 subst c1a;rw[c1b,c1c] at c2 e3;refine(zf1 x t' hn hlv (by rw[pg1];exact c2) w h).mono ?_;rintro e w' ⟨rfl,h1,h2⟩;rw[pg1] at h1;have c3':Sd x (zaw x t' (topP x) x.o) (zbt x.o fr (topP x) x.o) B':=by
  have:=c3;rw[c1b,c1c] at this;unfold zbt;rw[c1b,c1c];exact this
 exact⟨rfl,_,h1,h2,⟨B',c3',c4,fun q i=>by rw[c5,hL];exact hdr q i⟩,zcp _ _ _ _,BK.of h h1 s00 ⟨B',c3',c4,fun q i=>by rw[c5,hL];exact hdr q i⟩ (e3.mono fun g hg=>⟨hg.1,fun j hb=>hg.2 j ((c3'.fi g j).1 hb).1 ((c3'.fi g j).1 hb).2⟩)⟩
theorem zmx(x:Bx)(t:Bt)(fr:Nat→List Nat)(ls:List (Nat×Nat))(s0:Sf x t fr ls)(hn:zbx x t)(hm:topP x∈fr x.o)(w:World)(h:BdAt w x t):
  Calls Tryz.prog 131 #[.pointer (some ⟨x.b,0,none⟩)] w fun e w'=>e=.returned (.int .i64 0)∧DF x t w w' ls (frU fr x.o (M.dropL (fr x.o) (topP x))) (ls ++ [(topP x,x.o)]):=by
 obtain⟨t1,t2⟩:=s0.sn.top hn;have hz : 0<2 ^ x.o:=Nat.pow_pos (by decide);have s00:=s0;obtain⟨B,s,hN,hL⟩:=s0;have hb:=(s.fi _ _).2 ⟨Nat.le_refl _,hm⟩;have hfb:=(s.free_iff hN _ _ (Nat.le_refl _)).2 hb;obtain⟨c1,c2⟩:=s.leave (Nat.le_refl _) hm (q:=topP x) (by omega) rfl;have et:zbp (remT x t (topP x) x.o) (topP x:Int) (x.o:Int)=remT x t (topP x) x.o:=by
  unfold zbp;rw[zfY _ _ _ (by show ¬x.o<t.m.o;rw[s.mo];exact Nat.lt_irrefl _)]
 rw[et] at c2;have c3:=c2.live (p:=topP x) (k:=x.o) (.inr ⟨rfl,rfl,rfl⟩);refine(zjJ x t hn hfb c1 w h).mono ?_;rintro e w' ⟨rfl,h1,h2⟩;have hsf:Sf x (runT (remT x t (topP x) x.o) (topP x) x.o 2) (frU fr x.o (M.dropL (fr x.o) (topP x))) (ls ++ [(topP x,x.o)]):=by
  refine⟨_,c3,?_,?_⟩
  ·rintro q i (⟨⟨h3,_⟩|⟨_,h3,h4⟩,h5⟩|⟨h3,_⟩)
   ·exact hN q i h3
   ·exact h5 ⟨rfl,h3,h4⟩
   ·omega
  ·intro q i;show rep (rep B 0 (topP x) x.o 9) 9 (topP x) x.o 2 2 q i↔(q,i)∈ls ++ [(topP x,x.o)]
   rw[zdx,←hL q i];constructor
   ·rintro (⟨⟨h3,_⟩|⟨h3,_⟩,_⟩|⟨_,h3⟩)
    ·exact .inl h3
    ·omega
    ·exact .inr h3
   ·rintro (h3|h3)
    ·exact .inl ⟨.inl ⟨h3,fun e=>by omega⟩,fun e=>by omega⟩
    ·exact .inr ⟨rfl,h3⟩
 exact⟨rfl,_,h1,h2,hsf,zi9 _ _ _ _,BK.of h h1 s00 hsf (((s.leaveK (Nat.le_refl _) hm).to (t'':=zlj x t) rfl).mono fun g hg=>hg.1 x.o (Nat.le_refl _))⟩
theorem zh5{w W W' lw x t fr ls fr' ls'}(h:PO w W lw x t fr ls)(d:DF x t W W' ls fr' ls'):∃ t',PO w W' lw x t' fr' ls'∧t'.m.n=t.m.n∧Kt (bown x) W W'∧BK t t' ls ls':=by
 obtain⟨t',hb,hk,hs,hn,hbk⟩:=d;exact⟨t',⟨h.pl.call hb hk,hs,by rw[hn];exact h.st,h.bm⟩,hn,hk,hbk⟩
theorem Lv.more{ls l:List (Nat×Nat)}{g:Nat}(h:Lv ls g):Lv (ls ++ l) g:=by
 obtain⟨q,k,h1,h2⟩:=h;exact⟨q,k,List.mem_append_left _ h1,h2⟩
theorem zlp{i n:Nat}(h:i/4096*4096+4096≤n):i<n:=by
 have:=Nat.div_add_mod i 4096;have h2:=Nat.mod_lt i (show 0<4096 by decide);omega
theorem zlq(f:Nat→Nat)(n i:Nat)(h:i<n):M.more f n i=f i:=by
 unfold M.more;rw[if_pos h]
def GrP(w W:World)(lw:Nat)(x:Bx)(t:Bt)(fr:Nat→List Nat)(ls:List (Nat×Nat))(w':World):Prop:=∃ x' t',PO w w' lw x' t' (frU fr x.o (t.m.n :: fr x.o)) ls∧Sm x x'∧x'.n=x.n+x.R∧t'.m.n=t.m.n+2 ^ x.o∧Kt (bown x) W w'∧Nb W x x'∧BK t t' ls ls
theorem zfl{w W lw x t fr ls}(h:PO w W lw x t fr ls)(hl:x.n+x.R≤x.lim*x.R):
  Calls Tryz.prog 56 #[.pointer (some ⟨lw,0,none⟩),.bool false] W fun e w'=>e=.returned (.int .i64 0)∧GrP w W lw x t fr ls w':=by
 obtain⟨n1,n2,n3,n4,⟨r,n5,n6,n7⟩,n8,n9⟩:=h.nums;have hcf:=h.pl.bd.sp.cfg;have hR:=h.pl.bd.hR;have hR1:=hcf.r1;have hbe:=hcf.be;have hlr:=hcf.lr;have hst:=h.st;have hmo:=h.pl.bd.mo;have hr1:r+1≤x.lim:=by
  rw[n7,←Nat.succ_mul] at hl;exact Nat.le_of_mul_le_mul_right hl (by omega)
 have hR2:x.R=2 ^ x.o*4096:=by rw[hR,Nat.mul_comm]
 have hg:t.m.n+2 ^ x.o≤1024:=by
  have:(t.m.n+2 ^ x.o)*4096≤1024*4096:=by
   rw[Nat.add_mul,hst,←hR2];omega
  exact Nat.le_of_mul_le_mul_right this (by decide)
 have CM:=hid (M.Commit_ok x.s x.a x.base x.R x.lim x.n t.f W h.pl.bd.sp ⟨r,n7,hr1⟩);have GW:=hid (show ∀ W1,MpA W1 x.m x.B t.m→Calls Tryz.prog 116 #[.pointer (some ⟨x.m,0,none⟩)] W1 fun e w'=>e=.returned (.tuple #[])∧∃ B',MpA w' x.m B' (zak t.m)∧Kt (mown x.m x.B t.m.o) W1 w'∧From W1 x.m x.B B' t.m.o from fun W1 hW=>zgy x.m x.B t.m W1 hW);have HN:=hid (show(zak t.m).n=t.m.n+2 ^ x.o from zjd hmo hg);have HH:=hid h;have HG:=hid hg;have HR2:=hid hR2;have H63:=hid (show x.base+(x.n+x.R)≤9223372036854775808 from by omega);obtain⟨c0,c1,c2⟩:=h.pl.c;clear h n1 n2 n3 n4 n5 n6 n7 n8 n9 hcf hR hR1 hbe hlr hst hmo hr1 hR2 hg hl;go_enter Tryz.func56,Tryz.ntmps56;go_wp2_with fail;refine CM.out.mono ?_;rintro e w1 ⟨rfl,g',hS,hk,hgg⟩;have P1:=hid (HH.out.pl.space (toK hk) hS hgg);have K1:=hid (toK hk);have NG:=hid hgg;clear hS hk hgg CM c0 c1 c2;obtain⟨c0,c1,c2⟩:=P1.out.c;go_wp2_with fail;refine(GW.out _ P1.out.bd.mp).mono ?_;rintro e w2 ⟨rfl,B',hM,hk,hF⟩;have P2:=hid (P1.out.grow hk hM (zjc _) hF);have K2:=hid hk;have NF:=hid hF;clear hM hk hF GW c0 c1 c2;have FD:=hid (show Calls Tryz.prog 117 #[.pointer (some ⟨x.b,0,none⟩)] w2 fun e w'=>e=.returned (.int .i64 0)∧DF { x with a:=some g',n:=x.n + x.R,B:=B' } ⟨M.more t.f x.n,zak t.m,t.hd⟩ w2 w' (ls ++ [(t.m.n,x.o)]) (frU fr x.o (t.m.n :: fr x.o)) ls from by
  have s2:=HH.out.sf.grow HH.out.pl.bd { x with a:=some g',n:=x.n+x.R,B:=B' } rfl rfl rfl rfl H63.out HG.out;have e1:(zak t.m).n*4096=x.n+x.R:=by rw[HN.out,Nat.add_mul,HH.out.st,←HR2.out]
  have hz : 0<2 ^ x.o:=Nat.pow_pos (by decide);have htop:topP { x with a:=some g',n:=x.n+x.R,B:=B' }=t.m.n:=by
   unfold topP;show(x.n+x.R)/4096-2 ^ x.o=t.m.n
   rw[←HH.out.st,HR2.out,←Nat.add_mul,Nat.mul_div_cancel _ (by decide)];omega
  have hok:zbx { x with a:=some g',n:=x.n+x.R,B:=B' } ⟨M.more t.f x.n,zak t.m,t.hd⟩:=⟨by have:=HR2.out;show x.n+x.R≠0;omega,e1⟩;have:=zif { x with a:=some g',n:=x.n+x.R,B:=B' } ⟨M.more t.f x.n,zak t.m,t.hd⟩ fr _ s2 hok (by rw[htop];exact List.mem_append_right _ (List.mem_singleton.2 rfl)) (by rw[htop];exact HH.out.sf.pout (Nat.le_refl _)) w2 P2.out.bd;rw[htop,zeK,zeL HH.out.sf] at this;exact this)
 obtain⟨c0,c1,c2⟩:=P2.out.c;go_wp2_with fail;refine FD.out.mono ?_;rintro e w3 ⟨rfl,hd⟩;have D:=hid (show GrP w W lw x t fr ls w3 from by
  obtain⟨t',hb,hk,hs,hn,hbk⟩:=hd;have hz1:=K1.out.size;have nb:Nb W x { x with a:=some g',n:=x.n+x.R,B:=B' }:=by
   rintro y (hy|hy|⟨k,hk,rfl⟩)
   ·rcases hy with rfl|hy
    ·exact .inl (.inl (.inl rfl))
    ·have hy:some g'=some y:=hy
     cases hy
     rcases NG.out with e|e
     ·exact .inl (.inl (.inr e))
     ·exact .inr e
   ·have hy:mown x.m B' x.o y:=hy;rw[←HH.out.pl.bd.mo] at hy;rcases NF.out y hy with e|e
    ·exact .inl (.inr (.inl (HH.out.pl.bd.mo▸e)))
    ·exact .inr (Nat.le_trans hz1 e)
   ·exact .inl (.inr (.inr ⟨k,hk,rfl⟩))
  have k12:Kt (bown x) W w2:=K1.out.trans K2.out (fun _ _ e=>.inl e) (fun _ _ e=>.inr (.inl (HH.out.pl.bd.mo▸e)));refine⟨{ x with a:=some g',n:=x.n+x.R,B:=B' },t',⟨P2.out.call hb hk,hs,?_,HH.out.bm⟩,⟨rfl,rfl,rfl,rfl,rfl,rfl,rfl,rfl,rfl⟩,rfl,hn.trans HN.out,k12.trans hk (fun _ _ e=>e) (fun y hy e=>?_),nb,fun i h1 h2=>?_⟩
  ·rw[hn];show(zak t.m).n*4096=x.n+x.R
   rw[HN.out,Nat.add_mul,HH.out.st,←HR2.out]
  ·rcases nb y e with e|e
   ·exact e
   ·omega
  ·refine(hbk i (Lv.more h1) h2).trans ?_;have h3:=HH.out.sf.lv_in h1;exact zlq t.f x.n i (zlp h3))
 clear hd FD c0 c1 c2;go_wp2_with fail;go_ret;exact⟨rfl,D.out⟩
inductive NdP(w W:World)(lw:Nat)(x:Bx)(t:Bt)(fr:Nat→List Nat)(ls:List (Nat×Nat))(k:Int)(d:Bool)(e:Ending)(w':World):Prop where
 | bad (hk:inR (x.o+1) k=false) (he:e=.returned (.tuple #[.int .u64 0,.bool false,.int .i64 1])) (kp:Kt nO W w')
 | here (i j p:Nat) (l:List Nat) (hk:k=(i:Int)) (hi:i≤x.o) (hij:i≤j) (hj:j≤x.o) (hz:∀ a,i≤a→a<j→fr a=[]) (hp:fr j=p :: l) (he:e=.returned (.tuple #[.int .u64 ((ad x p:Nat):Int),.bool false,.int .i64 0])) (hs:∃ t',PO w w' lw x t' (cutF (frU fr j (M.dropL (fr j) p)) p j i) (ls ++ [(p,i)])∧t'.m.n=t.m.n∧BK t t' ls (ls ++ [(p,i)])) (kp:Kt (bown x) W w')
 | stuck (i:Nat) (hk:k=(i:Int)) (hi:i≤x.o) (hz:∀ a,i≤a→a≤x.o→fr a=[]) (hd:d=true∨x.n=x.lim*x.R) (he:e=.returned (.tuple #[.int .u64 0,.bool false,.int .i64 2])) (kp:Kt nO W w')
 | grew (i:Nat) (hk:k=(i:Int)) (hi:i≤x.o) (hz:∀ a,i≤a→a≤x.o→fr a=[]) (hd:d=false) (hl:x.n + x.R≤x.lim*x.R) (he:e=.returned (.tuple #[.int .u64 ((ad x t.m.n:Nat):Int),.bool true,.int .i64 0])) (hs:∃ x' t',PO w w' lw x' t' (cutF fr t.m.n x.o i) (ls ++ [(t.m.n,i)])∧Sm x x'∧x'.n=x.n + x.R∧t'.m.n=t.m.n + 2 ^ x.o∧Nb W x x'∧BK t t' ls (ls ++ [(t.m.n,i)])) (kp:Kt (bown x) W w')
theorem Need_any{w W lw x t fr ls}(h:PO w W lw x t fr ls)(k:Int)(d:Bool):
  Calls Tryz.prog 19 #[.pointer (some ⟨lw,0,none⟩),.int .i64 k,.bool d] W fun e w'=>NdP w W lw x t fr ls k d e w':=by
 obtain⟨c0,c1,c2⟩:=h.pl.c;have HH:=hid h
 cases hr:inR (x.o+1) k with
 | false=>
  have TK:=hid (zeJ x t k hr W h.pl.bd);have HR:=hid hr;clear h hr;go_enter Tryz.func19,Tryz.ntmps19;go_wp2_with fail;refine TK.out.mono ?_;rintro e w1 ⟨rfl,h1⟩;subst h1;go_wp2_with fail;exact⟨rfl,.tuple #[.int .u64 0,.bool false,.int .i64 1],by simp[results,Tryz.results19,go_sem],.bad HR.out rfl (Kt.refl nO _)⟩
 | true=>
  obtain⟨i,rfl,hi'⟩:=zav hr;have hi:i≤x.o:=by omega
  have TK:=hid (zeR x t fr ls h.sf i hi W h.pl.bd);clear h hr hi';go_enter Tryz.func19,Tryz.ntmps19;go_wp2_with fail;refine TK.out.mono ?_;rintro e w1 (⟨rfl,h1,hz⟩|⟨j,p,l,hij,hj,hz,hp,rfl,hd⟩)
  ·subst h1;have HZ:=hid hz;clear hz TK;by_cases hd:d=true∨x.n=x.lim*x.R
   ·as_aux_lemma=>
    have GR:=hid (zh4 HH.out.pl d hd);have HD:=hid hd;clear hd;go_wp2_with fail;refine GR.out.mono ?_;rintro e w2 ⟨rfl,hk⟩;have K2:=hid hk;clear hk;go_wp2_with fail;exact⟨rfl,.tuple #[.int .u64 0,.bool false,.int .i64 2],by simp[results,Tryz.results19,go_sem],.stuck i rfl hi HZ.out HD.out rfl K2.out⟩
   ·as_aux_lemma=>
    obtain rfl:d=false:=by
     cases d with
     | true=>exact absurd (.inl rfl) hd
     | false=>rfl
    have hl:x.n+x.R≤x.lim*x.R:=by
     obtain⟨_,_,_,_,⟨r,_,n6,n7⟩,_,_⟩:=HH.out.nums;have h1:r≠x.lim:=fun e=>hd (.inr (by rw[n7,e]))
     have h2:(r+1)*x.R≤x.lim*x.R:=Nat.mul_le_mul_right _ (by omega);rw[Nat.add_mul,Nat.one_mul,←n7] at h2;exact h2
    have HL:=hid hl;have GR:=hid (zfl HH.out hl);clear hd hl;go_wp2_with fail;refine GR.out.mono ?_;rintro e w2 ⟨rfl,x2,t2,hP2,hs2,hx2,ht2,hk2,hn2,hbk2⟩;have BK2:=hid hbk2;have P2:=hid hP2;have S2:=hid hs2;have E2:=hid (And.intro hx2 (And.intro ht2 (And.intro hk2 hn2)));have hfo:=HZ.out x.o hi (Nat.le_refl _);have TK2:=hid (zeR x2 t2 _ ls hP2.sf i (by rw[hs2.o];exact hi) w2 hP2.pl.bd);obtain⟨c0,c1,c2⟩:=hP2.pl.c;rw[hs2.b] at c2 TK2;clear hP2 hs2 hx2 ht2 hk2 hn2 hbk2 GR;go_wp2_with fail;refine TK2.out.mono ?_;rintro e w3 (⟨_,_,hz3⟩|⟨j,p,l,hij,hj,hz3,hp,rfl,hd⟩)
    ·exfalso
     have:=hz3 x.o hi (by rw[S2.out.o];exact Nat.le_refl _);simp[frU] at this
    ·have hjo:j=x.o:=by
      rcases Nat.lt_or_ge j x.o with e|e
      ·have h1:=HZ.out j hij (Nat.le_of_lt e);unfold frU at hp;rw[if_neg (by omega),h1] at hp
       cases hp
      ·rw[S2.out.o] at hj;omega
     subst hjo;have hpn:p=t.m.n:=by
      unfold frU at hp;rw[if_pos rfl] at hp;injection hp with e _
      exact e.symm
     subst hpn;have D:=hid (show ∃ x' t',PO w w3 lw x' t' (cutF fr t.m.n x.o i) (ls ++ [(t.m.n,i)])∧Sm x x'∧x'.n=x.n + x.R∧t'.m.n=t.m.n + 2 ^ x.o∧Nb w1 x x'∧BK t t' ls (ls ++ [(t.m.n,i)])from by
      obtain⟨t3,hP3,hn3,hk3,hbk3⟩:=zh5 P2.out hd;refine⟨x2,t3,⟨hP3.pl,hP3.sf.congr (fun a ha=>?_),hP3.st,hP3.bm⟩,S2.out,E2.out.1,hn3.trans E2.out.2.1,E2.out.2.2.2,BK2.out.trans hbk3 (fun _ h _=>h)⟩;unfold cutF;by_cases ea:i≤a∧a<x.o
      ·rw[if_pos ea,if_pos ea];unfold frU;rw[if_neg (by omega),if_neg (by omega)]
      ·rw[if_neg ea,if_neg ea];unfold frU;by_cases eo:a=x.o
       ·rw[if_pos eo,if_pos rfl,eo,hfo];simp[M.dropL]
       ·rw[if_neg eo,if_neg eo])
     have KF:=hid (show Kt (bown x) w1 w3 from by
      obtain⟨t3,hP3,hn3,hk3,_⟩:=zh5 P2.out hd;refine E2.out.2.2.1.trans hk3 (fun _ _ e=>e) (fun y hy e=>?_);rcases E2.out.2.2.2 y e with e|e
      ·exact e
      ·omega)
     have had:ad x2 t.m.n=ad x t.m.n:=(by unfold ad;rw[S2.out.base]);rw[had];clear hd hz3 hij hj hp TK2 c0 c1 c2;go_wp2_with fail;exact⟨rfl,.tuple #[.int .u64 ((ad x t.m.n:Nat):Int),.bool true,.int .i64 0],by simp[results,Tryz.results19,go_sem],.grew i rfl hi HZ.out rfl HL.out rfl D.out KF.out⟩
  ·as_aux_lemma=>
   obtain⟨t1,hP1,hn1,hk1,hbk1⟩:=zh5 HH.out hd;have D:=hid (show NdP w W lw x t fr ls (i:Int) d (.returned (.tuple #[.int .u64 ((ad x p:Nat):Int),.bool false,.int .i64 0])) w1 from .here i j p l rfl hi hij hj hz hp rfl ⟨t1,hP1,hn1,hbk1⟩ hk1);clear hd hP1 hn1 hk1 hbk1 hz hp hij hj TK;generalize ad x p=q at *;go_wp2_with fail;exact⟨rfl,.tuple #[.int .u64 (q:Int),.bool false,.int .i64 0],by simp[results,Tryz.results19,go_sem],D.out⟩
def ShP(w W:World)(lw:Nat)(x:Bx)(t:Bt)(fr:Nat→List Nat)(ls:List (Nat×Nat))(w':World):Prop:=∃ x' t',PO w w' lw x' t' (frU fr x.o (M.dropL (fr x.o) (t.m.n-2 ^ x.o))) ls∧Sm x x'∧x'.n=x.n-x.R∧t'.m.n=t.m.n-2 ^ x.o∧Kt (bown x) W w'∧Nb W x x'∧BK t t' ls ls
theorem zgN{w W lw x t fr ls}(h:PO w W lw x t fr ls)(h0:t.m.n≠0)(hm:t.m.n-2 ^ x.o∈fr x.o):
  Calls Tryz.prog 75 #[.pointer (some ⟨lw,0,none⟩)] W fun e w'=>e=.returned (.bool true)∧ShP w W lw x t fr ls w':=by
 obtain⟨hz2,ht,htp⟩ : 2 ^ x.o≤t.m.n∧zbx x t∧topP x=t.m.n-2 ^ x.o:=by
  rcases h.top with ⟨h1,_⟩|h1
  ·exact absurd h1 h0
  ·exact h1
 have PL1:=hid (zmx x t fr ls h.sf ht (by rw[htp];exact hm) W h.pl.bd);rw[htp] at PL1;have hR:=h.pl.bd.hR;have hR1:=h.pl.bd.sp.cfg.r1;have hst:=h.st;have hmo:=h.pl.bd.mo;have HH:=hid h;have hR2:x.R=2 ^ x.o*4096:=by rw[hR,Nat.mul_comm]
 have HR2:=hid hR2;have hRn:x.R≤x.n:=by rw[hR2,←hst];exact Nat.mul_le_mul_right _ hz2
 have HRN:=hid hRn;have HZ2:=hid hz2;have HM:=hid hm;obtain⟨c0,c1,c2⟩:=h.pl.c;clear h hR hst hRn hR2 hm h0 ht htp;go_enter Tryz.func75,Tryz.ntmps75;go_wp2_with fail;refine PL1.out.mono ?_;rintro e w1 ⟨rfl,hd⟩;obtain⟨t1,hP1,hn1,hk1,hbk1⟩:=zh5 HH.out hd;have BK1:=hid hbk1;have P1:=hid hP1;have K1:=hid hk1;have N1:=hid hn1;clear hd hP1 hk1 hbk1 c0 c1 c2 PL1;obtain⟨c0,c1,c2⟩:=P1.out.pl.c;have SH:=hid (show Calls Tryz.prog 132 #[.pointer (some ⟨x.m,0,none⟩),.int .i64 1] w1 fun e w'=>e=.returned (.int .i64 0)∧∃ B',MpA w' x.m B' (zaq t1.m (t1.m.n-2 ^ x.o))∧Kt (mown x.m x.B t1.m.o) w1 w'∧From w1 x.m x.B B' t1.m.o from by
  have hm1:=P1.out.pl.bd.mo;have:=ziY x.m x.B t1.m 1 w1 P1.out.pl.bd.mp (by rw[hm1,hn1];exact Nat.div_pos hz2 (Nat.pow_pos (by decide)));rw[Nat.one_mul,hm1] at this;rw[hm1];exact this)
 clear hn1 hz2;go_wp2_with fail;refine SH.out.mono ?_;rintro e w2 ⟨rfl,B',hM,hk,hF⟩;have P2:=hid (P1.out.pl.grow hk hM rfl hF);have K2:=hid hk;have NF:=hid hF;clear hM hk hF SH c0 c1 c2;obtain⟨c0,c1,c2⟩:=P2.out.c;have DC:=hid (show Calls Tryz.prog 133 #[.pointer (some ⟨x.s,0,none⟩),.int .i64 1] w2 fun e w'=>e=.returned (.int .i64 0)∧M.SpA w' x.s x.a x.base x.R x.lim (x.n-1*x.R) t1.f∧M.Kt (M.own x.s x.a) w2 w' from M.Decommit_ok x.s x.a x.base x.R x.lim x.n t1.f 1 w2 P2.out.bd.sp (Nat.div_pos HRN.out (by omega)));go_wp2_with fail;refine DC.out.mono ?_;rintro e w3 ⟨rfl,hS,hk⟩;have D:=hid (show ShP w W lw x t fr ls w3 from by
  have k3:Kt (M.own x.s x.a) w2 w3:=toK hk;have P3:=P2.out.space0 k3 hS;have hz1:=K1.out.size;have e1:x.n-1*x.R=x.n-x.R:=by rw[Nat.one_mul]
  have hst':(t1.m.n-2 ^ x.o)*4096=x.n-x.R:=by rw[N1.out,Nat.mul_sub_right_distrib,HH.out.st,←HR2.out]
  have hsf:=P1.out.sf.dropT P1.out.pl.bd (t1.m.n-2 ^ x.o) (by have:=HZ2.out;have:=N1.out;omega) (by rw[N1.out];exact List.mem_append_right _ (List.mem_singleton.2 rfl)) (by rw[N1.out];exact HH.out.sf.pfree (Nat.le_refl _) HM.out) { x with n:=x.n-1*x.R,B:=B' } rfl rfl rfl (by rw[hst'];show x.n-x.R≤x.n-1*x.R;omega) (by show x.n-1*x.R≤x.n;omega);rw[N1.out,ziC HH.out.sf HM.out] at hsf;have nb:Nb W x { x with n:=x.n-1*x.R,B:=B' }:=by
   rintro y (hy|hy|⟨k,hk,rfl⟩)
   ·exact .inl (.inl hy)
   ·have hy:mown x.m B' x.o y:=hy;rw[←P1.out.pl.bd.mo] at hy;rcases NF.out y hy with e|e
    ·exact .inl (.inr (.inl (P1.out.pl.bd.mo▸e)))
    ·exact .inr (Nat.le_trans hz1 e)
   ·exact .inl (.inr (.inr ⟨k,hk,rfl⟩))
  refine⟨{ x with n:=x.n-1*x.R,B:=B' },⟨t1.f,zaq t1.m (t1.m.n-2 ^ x.o),t1.hd⟩,⟨P3,?_,?_,HH.out.bm⟩,⟨rfl,rfl,rfl,rfl,rfl,rfl,rfl,rfl,rfl⟩,e1,?_,?_,nb,fun i h1 h2=>BK1.out i h1 (Lv.more h2)⟩
  ·rw[N1.out];exact hsf
  ·show(t1.m.n-2 ^ x.o)*4096=x.n-1*x.R
   rw[hst',e1]
  ·show t1.m.n-2 ^ x.o=t.m.n-2 ^ x.o
   rw[N1.out]
  ·exact(K1.out.trans K2.out (fun _ _ e=>e) (fun _ _ e=>.inr (.inl (P1.out.pl.bd.mo▸e)))).trans k3 (fun _ _ e=>e) (fun _ _ e=>.inl e))
 clear hS hk DC c0 c1 c2;go_wp2_with fail;go_ret;exact⟨rfl,D.out⟩
def TrP(w W:World)(lw:Nat)(x:Bx)(t:Bt)(fr:Nat→List Nat)(ls:List (Nat×Nat))(r c:Nat)(w':World):Prop:=∃ x' t' fr',PO w w' lw x' t' fr' ls∧Sm x x'∧t'.m.n=(r-c)*2 ^ x.o∧c≤r∧trF x.o r fr=(c+(trF x.o (r-c) fr').1,(trF x.o (r-c) fr').2)∧Kt (bown x) W w'∧Nb W x x'∧BK t t' ls ls
theorem Trim_any{w W lw x t fr ls}(h:PO w W lw x t fr ls)(r:Nat)(hr:t.m.n=r*2 ^ x.o):
  Calls Tryz.prog 26 #[.pointer (some ⟨lw,0,none⟩)] W fun e w'=>e=.returned (.int .i64 ((trF x.o r fr).1:Int))∧∃ x' t',PO w w' lw x' t' (trF x.o r fr).2 ls∧Sm x x'∧t'.m.n=(r-(trF x.o r fr).1)*2 ^ x.o∧Kt (bown x) W w'∧Nb W x x'∧BK t t' ls ls:=by
 have hr64:r≤1024:=by
  have h1:=h.nums.2.1;have hz : 0<2 ^ x.o:=Nat.pow_pos (by decide);have:r*1≤r*2 ^ x.o:=Nat.mul_le_mul_left _ hz;omega
 have I0:=hid (show TrP w W lw x t fr ls r 0 W from⟨x,t,fr,h,Sm.refl x,hr,Nat.zero_le _,by rw[Nat.sub_zero,Nat.zero_add],Kt.refl _ W,fun y e=>.inl e,BK.refl _ _ _⟩);clear h hr;go_enter Tryz.func26,Tryz.ntmps26;go_wp2_with fail;go_loopw [3] (fun i W'=>∃ c:Nat,c≤r∧i=.int .i64 c∧Hid (TrP w W lw x t fr ls r c W')) (fun i _=>r-(intOf i).toNat)
 case atStart=>exact⟨0,Nat.zero_le _,rfl,I0⟩
 case round=>
  clear I0;obtain⟨c,hc,rfl,hI⟩:=hrel;obtain⟨x1,t1,fr1,hP,hS,hn,_,hT,hK,hN,hBK⟩:=hI.out;have BK1:=hid hBK;have P1:=hid hP;have S1:=hid hS;have N1:=hid hn;have T1:=hid hT;have K1:=hid hK;have B1:=hid hN;clear hI hP hS hn hT hK hN hBK;have hz : 0<2 ^ x.o:=Nat.pow_pos (by decide);by_cases hgo:t1.m.n≠0∧t1.m.n-2 ^ x1.o∈fr1 x1.o
  ·have SH:=hid (zgN P1.out hgo.1 hgo.2);have hcr:c<r:=by
    rcases Nat.lt_or_ge c r with e|e
    ·exact e
    ·exfalso
     apply hgo.1
     rw[N1.out,show r-c=0 by omega,Nat.zero_mul]
   have HGO:=hid hgo.2;clear hgo;go_wp2_with fail;refine SH.out.mono ?_;rintro e w2 ⟨rfl,x2,t2,hP2,hS2,_,hn2,hk2,hb2,hbk2⟩;have D:=hid (show TrP w W lw x t fr ls r (c+1) w2 from by
    obtain⟨d,hd⟩:∃ d,r-c=d+1:=⟨r-c-1,by omega⟩;have e1:t1.m.n-2 ^ x1.o=d*2 ^ x.o:=by
     rw[N1.out,hd,S1.out.o,Nat.add_mul,Nat.one_mul,Nat.add_sub_cancel]
    refine⟨x2,t2,_,hP2,S1.out.trans hS2,?_,hcr,?_,K1.out.trans hk2 (fun _ _ e=>e) (fun y hy e=>?_),fun y hy=>?_,BK1.out.trans hbk2 (fun _ h _=>h)⟩
    ·rw[hn2,e1,show r-(c+1)=d by omega]
    ·have hT:=T1.out;have hm:=HGO.out;rw[e1,S1.out.o] at hm;rw[hd] at hT;rw[ziE hm] at hT;rw[hT,show r-(c+1)=d by omega,e1,S1.out.o];simp only[Prod.mk.injEq,and_true];omega
    ·rcases B1.out y e with e|e
     ·exact e
     ·omega
    ·rcases hb2 y hy with e|e
     ·exact B1.out y e
     ·exact .inr (Nat.le_trans K1.out.size e))
   clear hP2 hS2 hn2 hk2 hb2 hbk2 SH;go_wp2_with fail;exact⟨⟨c+1,by omega,by simp,D⟩,by simp[intOf];omega⟩
  ·have SN:=hid (ziD P1.out (by
    by_cases e:t1.m.n=0
    ·exact .inl e
    ·exact .inr fun e2=>hgo ⟨e,e2⟩))
   have hT:trF x.o r fr=(c,fr1):=by
    rw[T1.out]
    cases hd:r-c with
    | zero=>rfl
    | succ d=>
     have e1:t1.m.n-2 ^ x1.o=d*2 ^ x.o:=by
      rw[N1.out,hd,S1.out.o,Nat.add_mul,Nat.one_mul,Nat.add_sub_cancel]
     have h0:t1.m.n≠0:=by
      rw[N1.out,hd,Nat.add_mul,Nat.one_mul];omega
     have hm:¬d*2 ^ x.o∈fr1 x.o:=fun e=>hgo ⟨h0,by rw[e1,S1.out.o];exact e⟩
     rw[zkZ hm];rfl
   have HT:=hid hT;clear hgo hT;go_wp2_with fail;refine SN.out.mono ?_;rintro e w2 ⟨rfl,hk⟩;have D:=hid (show ∃ x' t',PO w w2 lw x' t' fr1 ls∧Sm x x'∧t'.m.n=(r-c)*2 ^ x.o∧Kt (bown x) W w2∧Nb W x x'∧BK t t' ls ls from⟨x1,t1,P1.out.keep hk,S1.out,N1.out,K1.out.trans hk (fun _ _ e=>e) (fun _ _ e=>e.elim),B1.out,BK1.out⟩);clear hk SN;go_wp2_with fail;go_ret;rw[HT.out];exact⟨rfl,D.out⟩
theorem Give6_yes{w W lw x t fr ls}(h:PO w W lw x t fr ls)(p k:Nat)(hm:(p,k)∈ls)(hv:x.P p=none)(a:Nat)(hap:a=ad x p):
  Calls Tryz.prog 60 #[.pointer (some ⟨lw,0,none⟩),.int .u64 (a:Int),.int .i64 (k:Int)] W fun e w'=>e=.returned (.int .i64 0)∧∃ t',PO w w' lw x t' (zbt x.o fr p k) (zam ls p)∧t'.m.n=t.m.n∧Kt (bown x) W w'∧BK t t' ls (zam ls p):=by
 have GY:=hid (zmw x t fr ls h.sf p k hm hv W h.pl.bd);rw[←hap] at GY;have HH:=hid h;obtain⟨c0,c1,c2⟩:=h.pl.c;clear h hm hv hap;go_enter Tryz.func60,Tryz.ntmps60;go_wp2_with fail;refine GY.out.mono ?_;rintro e w1 ⟨rfl,hd⟩;have D:=hid (zh5 HH.out hd);clear hd GY;go_wp2_with fail;go_ret;exact⟨rfl,D.out⟩
end Go.Proofs.YtgjdmkfpmokkaaaGreatDoor.K
