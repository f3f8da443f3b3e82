import Derived.Test.YtbgbfpklgfpepaaGreatDoorXx
import Derived.Test.YtbgbfpklgfpepaaGreatDoorXu
import Derived.Test.YtbgbfpklgfpepaaGreatDoorWi
set_option maxRecDepth 1000000
set_option maxHeartbeats 80000000
namespace Go.Proofs.YtbgbfpklgfpepaaGreatDoor
open Tryz
open Go.ChangeShapes Go.WideShapes Go.ChangeAt Go.RowKit Go.Deep
set_option linter.unusedVariables false
structure CallIn(w:World)(bl o k:Nat)(c:Ac8)(g:Nat->Nat):Prop where
 hp:c.p<18446744073709551616
 ha:c.a<18446744073709551616
 hb:c.b<18446744073709551616
 hs:c.sn<=c.sc
 hc:c.sc<=9223372036854775807
 by':M.Bytes w (.slice c.sa c.sn c.sc) c.sn g
 c0:w.cell? ⟨bl,o+k*7+0,none⟩=some (.int .i64 c.op)
 c1:w.cell? ⟨bl,o+k*7+1,none⟩=some (.int .i64 c.ref)
 c2:w.cell? ⟨bl,o+k*7+2,none⟩=some (.int .u64 c.p)
 c3:w.cell? ⟨bl,o+k*7+3,none⟩=some (.int .u64 c.a)
 c4:w.cell? ⟨bl,o+k*7+4,none⟩=some (.int .u64 c.b)
 c5:w.cell? ⟨bl,o+k*7+5,none⟩=some (.bool c.d)
 c6:w.cell? ⟨bl,o+k*7+6,none⟩=some (.slice c.sa c.sn c.sc)
def mR(w:World)(v:Value)(m:Nat):Prop:=
 m<=9223372036854775807/\∃ oa oc,v=.slice oa m oc/\(m=0\/∃ bl o,oa=some ⟨bl,o,none⟩/\bl<w.heap.size/\∀ k,k<m->∃ c g,CallIn w bl o k c g)
theorem CallIn.keep{w W:World}{bl o k:Nat}{c:Ac8}{g:Nat->Nat}(h:CallIn w bl o k c g)(kp:Kt nO w W):CallIn W bl o k c g:=
 ⟨h.hp,h.ha,h.hb,h.hs,h.hc,h.by'.keep (cH kp),kp.cell id h.c0,kp.cell id h.c1,kp.cell id h.c2,kp.cell id h.c3,kp.cell id h.c4,kp.cell id h.c5,kp.cell id h.c6⟩
theorem ZH:prog.cellsOf 66=7:=by kernel_rfl
theorem zhz:prog.cellsOf 27=1:=by kernel_rfl
theorem zhA:prog.cellsOf 3=1:=by kernel_rfl
theorem zfV:prog.cellsOf 4=1:=by kernel_rfl
theorem KC:prog.cellsOf 61=1:=by kernel_rfl
theorem GT{w:World}{a:Addr}{v:Value}(h:w.cell? a=some v):∃ b o,a=⟨b,o,none⟩/\b<w.heap.size:=by
 obtain⟨b,o,s⟩:=a;unfold World.cell? at h;split at h
 ·rename_i hh;have hb:=(Array.getElem?_eq_some_iff.1 hh).1
  cases s with
  | none=>exact⟨b,o,rfl,hb⟩
  | some s=>simp at h
 ·cases h
theorem wG{x:Int}(h:(Lit.int .u64 x).wf=true) : 0<=x/\x<18446744073709551616:=by
 simp[Lit.wf,show IntKind.u64.min=0 from rfl,show IntKind.u64.max=18446744073709551615 from rfl] at h;omega
theorem LF{x:Int}(h:(Lit.int .u8 x).wf=true) : 0<=x/\x<256:=by
 simp[Lit.wf,show IntKind.u8.min=0 from rfl,show IntKind.u8.max=255 from rfl] at h;omega
theorem WG{w:World}{x:Addr}{l c:Nat}{zs:List Int}(hl:l<=c)(hz:zs.length=c)(hcell:∀ i,i<zs.length->w.cell? (x.add i)=some (.int .u8 (zs.getD i 0)))(hwz:∀ n∈zs,(Lit.int .u8 n).wf=true):∃ g,M.Bytes w (.slice (some x) l c) l g:=by
 have hb:∀ i,i<zs.length->0<=zs.getD i 0/\zs.getD i 0<256:=fun i hi=>by
  rw[List.getD_eq_getElem?_getD,List.getElem?_eq_getElem hi];exact LF (hwz _ (List.getElem_mem hi))
 refine⟨fun i=>(zs.getD i 0).toNat,fun i hi=>?_,some x,c,rfl,?_⟩
 ·have:=hb i (by omega);show(zs.getD i 0).toNat<256
  omega
 ·rcases Nat.eq_zero_or_pos l with h0|h0
  ·exact .inl h0
  ·have c0:=hcell 0 (by omega);obtain⟨b,o,e,hlt⟩:=GT c0;have hxb:x.block=b:=by
    have:=congrArg Addr.block e;rw[M.addr_add_block] at this;exact this
   refine .inr ⟨x,rfl,by rw[hxb];exact hlt,fun j hj=>?_⟩;have:=hb j (by omega);rw[hcell j (by omega),Int.toNat_of_nonneg this.1]
theorem FQ{H:Type}{enc:TypeId×Value->H}{W:World}{a:Option Addr}{len cap:Nat}{d:DataW H}{p:List MemPlace}
  {fuel:Nat} (hf:DataW.trod enc prog W 0 (fun _=>true) true fuel 44 [.slice a len cap]=some (d,p)):mR W (.slice a len cap) len:=by
 rcases open_slice Tryz.underlying44 hf with ⟨hcs,_⟩|⟨x,l,c,m,n,D,Pl,hcs,_,hl,hm,hmm,_,hx⟩
 ·simp at hcs;obtain⟨rfl,rfl,rfl⟩:=hcs;exact⟨by omega,none,0,rfl,Or.inl rfl⟩
 ·simp at hcs;obtain⟨rfl,rfl,rfl⟩:=hcs;simp only[if_true] at hmm;subst hmm;have hml:m<=9223372036854775807:=by unfold maxLen at hm;omega
  refine⟨by omega,some x,m,rfl,?_⟩;by_cases h0:len=0
  ·exact Or.inl h0
  ·right
   rw[ZH] at hx;have key:∀ k,k<len->∃ (op rf:Int) (P A B:Nat) (dn:Bool) (ao:Option Addr) (dm dc:Nat) (g:Nat->Nat),P<18446744073709551616/\A<18446744073709551616/\B<18446744073709551616/\dm<=dc/\dc<=9223372036854775807/\M.Bytes W (.slice ao dm dc) dm g/\
     W.cell? ((x.add (k*7)).add 0)=some (.int .i64 op)/\W.cell? ((x.add (k*7)).add 1)=some (.int .i64 rf)/\W.cell? ((x.add (k*7)).add 2)=some (.int .u64 P)/\W.cell? ((x.add (k*7)).add 3)=some (.int .u64 A)/\W.cell? ((x.add (k*7)).add 4)=some (.int .u64 B)/\W.cell? ((x.add (k*7)).add 5)=some (.bool dn)/\W.cell? ((x.add (k*7)).add 6)=some (.slice ao dm dc):=by
    intro k hk;obtain⟨cs,h1,h2⟩:=hx k (by omega);obtain⟨_,hlen,hcell⟩:=World.cells?_some h1;obtain⟨xs,nn,_,_,_,hxl,hfld⟩:=DataW.trod_struct Tryz.underlying66 h2;match cs,hlen,xs,hxl with
    | [c0,c1,c2,c3,c4,c5,c6],_,[y0,y1,y2,y3,y4,y5,y6],_=>
     have g0:=hfld 0 _ rfl;have g1:=hfld 1 _ rfl;have g2:=hfld 2 _ rfl;have g3:=hfld 3 _ rfl;have g4:=hfld 4 _ rfl;have g5:=hfld 5 _ rfl;have g6:=hfld 6 _ rfl;obtain⟨x0,e0,_,_⟩:=DataW.trod_int Tryz.underlying3 g0;obtain⟨x1,e1,_,_⟩:=DataW.trod_int Tryz.underlying3 g1;obtain⟨x2,e2,_,w2⟩:=DataW.trod_int Tryz.underlying27 g2;obtain⟨x3,e3,_,w3⟩:=DataW.trod_int Tryz.underlying27 g3;obtain⟨x4,e4,_,w4⟩:=DataW.trod_int Tryz.underlying27 g4;obtain⟨x5,e5,_⟩:=DataW.trod_bool Tryz.underlying4 g5;simp[zhz,zhA,zfV] at e0 e1 e2 e3 e4 e5;subst e0 e1 e2 e3 e4 e5;have b2:=wG w2;have b3:=wG w3;have b4:=wG w4;obtain⟨P,rfl⟩:=Int.eq_ofNat_of_zero_le b2.1;obtain⟨A,rfl⟩:=Int.eq_ofNat_of_zero_le b3.1;obtain⟨B,rfl⟩:=Int.eq_ofNat_of_zero_le b4.1;have hrow:∃ da dm dc gg,c6=.slice da dm dc/\dm<=dc/\dc<=maxLen/\M.Bytes W (.slice da dm dc) dm gg:=by
      rcases open_ints Tryz.underlying61 Tryz.underlying5 (by kernel_rfl) g6 with ⟨hcs,_⟩|⟨x,l,c,zs,hcs,_,hl,hm,hz,_,hcell,hwz⟩
      ·simp[KC] at hcs;exact⟨none,0,0,fun _=>0,hcs,Nat.le_refl _,Nat.zero_le _,fun i hi=>by omega,none,0,rfl,.inl rfl⟩
      ·simp[KC] at hcs;obtain⟨gg,h3⟩:=WG (w:=W) (x:=x) (l:=l) (c:=c) (zs:=zs) hl (by simpa using hz) hcell hwz;exact⟨some x,l,c,gg,hcs,hl,hm,h3⟩
     obtain⟨da,dm,dc,gg,rfl,hdm,hdc,hbt⟩:=hrow;unfold maxLen at hdc;exact⟨x0,x1,P,A,B,x5,da,dm,dc,gg,by omega,by omega,by omega,hdm,by omega,hbt,hcell 0 (by simp),hcell 1 (by simp),hcell 2 (by simp),hcell 3 (by simp),hcell 4 (by simp),hcell 5 (by simp),hcell 6 (by simp)⟩
   obtain⟨op,rf,P,A,B,dn,ao,dm,dc,g,_,_,_,_,_,_,g0,_⟩:=key 0 (by omega);have e0:(x.add (0*7)).add 0=x:=(by simp[Addr.add]);rw[e0] at g0;obtain⟨b,o,rfl,hb⟩:=GT g0;refine⟨b,o,rfl,hb,fun k hk=>?_⟩;obtain⟨op,rf,P,A,B,dn,ao,dm,dc,g,h1,h2,h3,h4,h5,h6,g0,g1,g2,g3,g4,g5,g6⟩:=key k hk;rw[Addr.add_lit,Addr.add_lit] at g0 g1 g2 g3 g4 g5 g6;exact⟨⟨op,rf,P,A,B,dn,ao,dm,dc⟩,g,⟨h1,h2,h3,h4,h5,h6,g0,g1,g2,g3,g4,g5,g6⟩⟩
theorem zhB:prog.cellsOf 43=3:=by kernel_rfl
theorem zfW:prog.cellsOf 44=1:=by kernel_rfl
theorem zi8{H:Type}{enc:TypeId×Value->H}{W:World}{bS:Nat}{v:Value}{d:DataW H}{p:List MemPlace}(hok:Value.okWide prog W .any bS 46 v)
  (h:DataW.Trod enc prog W 0 (fun _=>true) true 46 v d p):
  ∃ (b:Nat) (lim ord:Int) (sv:Value) (m:Nat),v=.agg #[.int .u64 b,.int .i64 lim,.int .i64 ord,sv]/\b<18446744073709551616 /\ -9223372036854775808<=lim/\lim<=9223372036854775807 /\ -9223372036854775808<=ord/\ord<=9223372036854775807/\mR W sv m:=by
 obtain⟨cs,rfl,_⟩:=okWide_struct Tryz.underlying46 hok;obtain⟨fuel,hf⟩:=h;obtain⟨y0,y1,nn,_,hlen,g0,g1⟩:=trod_struct2 Tryz.underlying46 hf;obtain⟨l⟩:=cs;simp only[Value.cells] at hlen g0 g1;have hl4:l.length=4:=hlen.trans (by kernel_rfl);match l,hl4 with
 | [c0,c1,c2,c3],_=>
  rw[zhB] at g0;rw[zfW] at g1;obtain⟨z0,z1,z2,nn',_,hlen',f0,f1,f2⟩:=trod_struct3 Tryz.underlying43 g0;rw[zj3] at f0;rw[zj4] at f1 f2;obtain⟨x,e0,_,w0⟩:=DataW.trod_int Tryz.underlying27 f0;obtain⟨y,e1,_,w1⟩:=DataW.trod_int Tryz.underlying3 f1;obtain⟨z,e2,_,w2⟩:=DataW.trod_int Tryz.underlying3 f2;simp at e0 e1 e2;subst e0 e1 e2;have b0:=bounds_u64 w0;have b1:=bounds_i64 w1;have b2:=bounds_i64 w2;obtain⟨b,rfl⟩:=Int.eq_ofNat_of_zero_le b0.1;rcases open_slice Tryz.underlying44 g1 with ⟨hcs,_⟩|⟨x,l,c,m,n,D,Pl,hcs,_,hl,hm,hmm,_,hx⟩
  ·simp at hcs;subst hcs;exact⟨b,y,z,_,_,rfl,by omega,b1.1,b1.2,b2.1,b2.2,FQ g1⟩
  ·simp at hcs;subst hcs;exact⟨b,y,z,_,_,rfl,by omega,b1.1,b1.2,b2.1,b2.2,FQ g1⟩
open Go.RowKit
def KH(w W:World)(hb n:Nat)(f0 f1:List Nat)(ls:List (Nat×Nat))(S:Sb)(v:Bool):Prop:=∃ sb lw x t fr,HW w W hb sb lw x t fr ls S 0/\x.bS=65536/\x.lim=2/\x.o=1/\x.R=8192/\x.n=n/\fr 0=f0/\fr 1=f1/\(v=true->t.f 8=5)
abbrev tE(p e:Int):Ending:=.returned (.tuple #[.int .u64 p,.int .i64 e])
theorem RU{m k:Nat}(h1:m<=2 ^ k)(h2:k=0\/2 ^ (k-1)<m):cl m=k:=by
 have a:=(nR m k).1 h1;rcases h2 with rfl|h2
 ·omega
 ·rcases Nat.lt_or_ge (cl m) k with e|e
  ·have b:=(nR m (k-1)).2 (by omega);omega
  ·omega
section
variable {w W W':World} {hb n:Nat} {f0 f1:List Nat} {ls:List (Nat×Nat)} {S:Sb} {v:Bool}
theorem KH.keep(s:KH w W hb n f0 f1 ls S v)(k:Kt nO W W'):KH w W' hb n f0 f1 ls S v:=by
 obtain⟨sb,lw,x,t,fr,H,r⟩:=s;exact⟨sb,lw,x,t,fr,H.keep k,r⟩
theorem KH.kp(s:KH w W hb n f0 f1 ls S v):Kt nO w W:=by
 obtain⟨sb,lw,x,t,fr,H,r⟩:=s;exact H.po.pl.kp
theorem vW{fr:Nat->List Nat}(h0:fr 0=[])(h1:fr 1=[])(k:Nat):∀ a,k<=a->a<=1->fr a=[]:=fun a _ ha=>by
 rcases (show a=0\/a=1 by omega)with rfl|rfl
 ·exact h0
 ·exact h1
theorem KH.mal{x:Bx}{t:Bt}{fr:Nat->List Nat}{sb lw:Nat}(H:HW w W hb sb lw x t fr ls S 0)(ho:x.o=1)(sz:Nat)(hs:sz<=8192)(d:Bool)(c:Nat)(hc:max sz 16<=2 ^ c)(hc2 : 2 ^ (c-1)<max sz 16):
  Calls prog 10 #[.pointer (some ⟨hb,0,none⟩),.int .u64 sz,.bool d] W fun e w'=>∃ p er,e=.returned (.tuple #[.int .u64 ((p:Nat):Int),.int .i64 er])/\Tq w W hb sb lw x t fr ls S 0 (2 ^ c) d p er w':=by
 have hcl:cl (max sz 16)=c:=RU hc (.inr hc2);refine(FS H sz (by omega) d _ rfl).mono ?_;rintro e w' ⟨p,er,rfl,hR⟩
 cases hR with
 | ok h1 hT=>rw[hcl] at hT;exact⟨p,er,rfl,hT⟩
 | big h1 hp he kp=>
  exfalso
  have h2:=of_decide_eq_false h1;rw[ho] at h2;have:=(nR (max sz 16) 13).1 (by omega);omega
theorem KH.mal_stuck(s:KH w W hb n [] [] ls S v)(sz:Nat)(hs:sz<=8192)(d:Bool)(c:Nat)(hc:max sz 16<=2 ^ c)(hc2 : 2 ^ (c-1)<max sz 16)(hd:d=true\/n=16384)(hk:(∃ k,k<8/\2 ^ c=aC k/\S.pl k=[])\/(∃ k,k<=1/\2 ^ c=4096*2 ^ k)):
  Calls prog 10 #[.pointer (some ⟨hb,0,none⟩),.int .u64 sz,.bool d] W fun e w'=>e=tE 0 2/\KH w w' hb n [] [] ls S v:=by
 have s0:=s;obtain⟨sb,lw,x,t,fr,H,hb0,hl,ho,hR,hn,h0,h1,hv⟩:=s;refine(KH.mal H ho sz hs d c hc hc2).mono ?_;rintro e w' ⟨p,er,rfl,hT⟩;have hnf:NF x fr S (2 ^ c):=by
  rcases hk with ⟨k,k1,k2,k3⟩|⟨k,k1,k2⟩
  ·exact .inl ⟨k,k1,k2,k3,fun a ha=>vW h0 h1 0 a (Nat.zero_le _) (by omega)⟩
  ·exact .inr ⟨k,by omega,k2,fun a h2 ha=>vW h0 h1 k a h2 (by omega)⟩
 cases hT with
 | no hp he nf hd2 kp=>subst hp he;exact⟨rfl,s0.keep kp⟩
 | yes x' t' fr' ls' S' b he td nx hL hN hn2 hm hb1 hb2=>
  exfalso
  cases b with
  | false=>exact hb2 rfl hnf
  | true=>
   obtain⟨_,e1,e2⟩:=hb1 rfl;rcases hd with hd|hd
   ·rw[hd] at e1;cases e1
   ·rw[hn,hR,hl,hd] at e2;omega
theorem KH.nx{x x':Bx}{t t':Bt}{fr':Nat->List Nat}{sb lw:Nat}{ls':List (Nat×Nat)}{S':Sb}{n':Nat}{f0' f1':List Nat}(hb0:x.bS=65536)(hl:x.lim=2)(ho:x.o=1)(hR:x.R=8192)(nx:Nx w W W' hb sb lw x t ls S 0 x' t' fr' ls' S')(hn:x'.n=n')(h0:fr' 0=f0')(h1:fr' 1=f1'):KH w W' hb n' f0' f1' ls' S' false:=
 ⟨sb,lw,x',t',fr',nx.H,nx.ch.bS.trans hb0,nx.ch.lim.trans hl,nx.ch.o.trans ho,nx.ch.R.trans hR,hn,h0,h1,fun e=>by cases e⟩
theorem KH.pages{x:Bx}{t:Bt}{fr:Nat->List Nat}{sb lw:Nat}(H:HW w W hb sb lw x t fr ls S 0)(hn:x.n=n):t.m.n*4096=n:=by
 obtain⟨h',o⟩:=H.so;rw[<-hn];exact o.st
theorem KH.mal_grow(s:KH w W hb n [] [] ls S v)(g:Nat)(hg:g*4096=n)(sz:Nat)(hs:sz<=8192)(c:Nat)(hc:max sz 16<=2 ^ c)(hc2 : 2 ^ (c-1)<max sz 16)(k:Nat)(hk:k<8)(hck : 2 ^ c=aC k)(hl:S.pl k=[])(hn:n+8192<=16384):
  Calls prog 10 #[.pointer (some ⟨hb,0,none⟩),.int .u64 sz,.bool false] W fun e w'=>e=tE ((65536 + 4096*g:Nat):Int) 0/\KH w w' hb (n + 8192) [g + 1] [] (ls ++ [(g,0)]) (bC (bL S g k) g k (List.range' 1 (aH k-1))) false:=by
 obtain⟨sb,lw,x,t,fr,H,hb0,hli,ho,hR,hxn,h0,h1,hv⟩:=s;have hpg:=KH.pages H hxn;refine(KH.mal H ho sz hs false c hc hc2).mono ?_;rintro e w' ⟨p,er,rfl,hT⟩;rw[hck] at hT;have hz:∀ a,a<=x.o->fr a=[]:=fun a ha=>vW h0 h1 0 a (Nat.zero_le _) (by omega)
 cases hT with
 | no hp he nf hd2 kp=>
  exfalso
  rcases hd2 with e|e
  ·cases e
  ·rw[hxn,hli,hR] at e;omega
 | yes x' t' fr' ls' S' b he td nx hL hN hn2 hm hb1 hb2=>
  subst he
  cases td with
  | old k2 g2 i l rr hk2 hr hl2=>
   obtain rfl:=rC hr;rw[hl] at hl2
   cases hl2
  | here k2 g2 j l hk2 hr=>exact absurd hr (pM hk)
  | grew k2 hk2 hr=>exact absurd hr (pM hk)
  | new k2 g2 hk2 hr hl2 hp nd e2 e3=>
   obtain rfl:=rC hr
   cases nd with
   | here j l hj hz2 hp2=>rw[hz j hj] at hp2;cases hp2
   | grew hz2 hd2 hle hbt hp2 hfr=>
    obtain rfl:g2=g:=(by omega);subst hbt e2 e3;rw[if_pos rfl] at hn2;refine⟨?_,KH.nx hb0 hli ho hR nx (by rw[hn2,hxn,hR]) ?_ ?_⟩
    ·rw[hp];unfold aO;rw[hb0,Nat.zero_mul,Nat.add_zero]
    ·rw[hfr,<-hp2,ho];unfold dA;rw[if_pos (by omega),h0]
    ·rw[hfr,ho];unfold dA;rw[if_neg (by omega),h1]
theorem KH.mal_here{g:Nat}{l:List Nat}(s:KH w W hb n (g :: l) f1 ls S v)(sz:Nat)(hs:sz<=8192)(d:Bool)(c:Nat)(hc:max sz 16<=2 ^ c)(hc2 : 2 ^ (c-1)<max sz 16)(k:Nat)(hk:k<8)(hck : 2 ^ c=aC k)(hl:S.pl k=[]):
  Calls prog 10 #[.pointer (some ⟨hb,0,none⟩),.int .u64 sz,.bool d] W fun e w'=>e=tE ((65536 + 4096*g:Nat):Int) 0/\KH w w' hb n (M.dropL (g :: l) g) f1 (ls ++ [(g,0)]) (bC (bL S g k) g k (List.range' 1 (aH k-1))) false:=by
 obtain⟨sb,lw,x,t,fr,H,hb0,hli,ho,hR,hxn,h0,h1,hv⟩:=s;refine(KH.mal H ho sz hs d c hc hc2).mono ?_;rintro e w' ⟨p,er,rfl,hT⟩;rw[hck] at hT;have hnf:¬NF x fr S (aC k):=fun e=>by
  have:=((NF.cell hk).1 e).2 0 (Nat.zero_le _);rw[h0] at this
  cases this
 cases hT with
 | no hp he nf hd2 kp=>exact absurd nf hnf
 | yes x' t' fr' ls' S' b he td nx hL hN hn2 hm hb1 hb2=>
  subst he
  cases td with
  | old k2 g2 i l2 rr hk2 hr hl2=>
   obtain rfl:=rC hr;rw[hl] at hl2
   cases hl2
  | here k2 g2 j l hk2 hr=>exact absurd hr (pM hk)
  | grew k2 hk2 hr=>exact absurd hr (pM hk)
  | new k2 g2 hk2 hr hl2 hp nd e2 e3=>
   obtain rfl:=rC hr
   cases nd with
   | grew hz2 hd2 hle hbt hp2 hfr=>
    have:=hz2 0 (Nat.zero_le _);rw[h0] at this
    cases this
   | here j l2 hj hz2 hp2 hbt hfr=>
    have hj0:j=0:=by
     rcases Nat.eq_zero_or_pos j with e|e
     ·exact e
     ·have:=hz2 0 e;rw[h0] at this
      cases this
    subst hj0 hbt e2 e3;rw[h0] at hp2;injection hp2 with hp2 hp3
    subst hp2;rw[if_neg (by decide)] at hn2;refine⟨?_,KH.nx hb0 hli ho hR nx (hn2.trans hxn) ?_ ?_⟩
    ·rw[hp];unfold aO;rw[hb0,Nat.zero_mul,Nat.add_zero]
    ·rw[hfr];unfold dA cI;rw[if_neg (by omega),if_pos rfl,h0]
    ·rw[hfr];unfold dA cI;rw[if_neg (by omega),if_neg (by decide)];exact h1
end
open Go.MuLone
abbrev zC(b:Nat)(l o:Int):Obj:=.cells #[.int .u64 b,.int .i64 l,.int .i64 o] 29
abbrev nB:Obj:=.cells #[.int .u64 0,.int .i64 0,.int .i64 0] 29
theorem vU:¬Go.Proofs.YtbgbfpklgfpepaaGreatDoor.pty 29/\29≠135/\29≠91:=by unfold Go.Proofs.YtbgbfpklgfpepaaGreatDoor.pty;decide
theorem VI{W:World}{y b:Nat}{l o:Int}(e:W.heap[y]?=some nB):(((W.setCell ⟨y,0,none⟩ (.int .u64 b)).setCell ⟨y,1,none⟩ (.int .i64 l)).setCell ⟨y,2,none⟩ (.int .i64 o)).heap[y]?=some (zC b l o):=by
 have:=bB (bB (bB e 0 (.int .u64 b)) 1 (.int .i64 l)) 2 (.int .i64 o);simpa using this
theorem cgc{W:World}{y b:Nat}{l o:Int}(h:W.heap[y]?=some (zC b l o)):W.cell? ⟨y,0,none⟩=some (.int .u64 b)/\W.cell? ⟨y,1,none⟩=some (.int .i64 l)/\W.cell? ⟨y,2,none⟩=some (.int .i64 o)/\∀ j,W.frozen? ⟨y,j,none⟩=false:=by
 refine⟨?_,?_,?_,fun j=>?_⟩ <;> simp[World.cell?,World.frozen?,h]
theorem cgz{W:World}{y:Nat}(h:W.heap[y]?=some nB):W.cell? ⟨y,0,none⟩=some (.int .u64 0)/\W.cell? ⟨y,1,none⟩=some (.int .i64 0)/\W.cell? ⟨y,2,none⟩=some (.int .i64 0)/\∀ j,W.frozen? ⟨y,j,none⟩=false:=by
 refine⟨?_,?_,?_,fun j=>?_⟩ <;> simp[World.cell?,World.frozen?,h]
section
variable {w W:World} {hb sb lw:Nat} {x:Bx} {t:Bt} {fr:Nat->List Nat} {ls:List (Nat×Nat)} {S:Sb}
theorem VH(H:HW w W hb sb lw x t fr ls S 0):
  Calls prog 23 #[.pointer (some ⟨hb,0,none⟩)] W fun e w'=>e=.returned (.agg #[.int .u64 x.bS,.int .i64 x.lim,.int .i64 x.o])/\Kt nO W w':=by
 have KA:=aA ((Kt.refl nO W).alloc nB);have HA:=aA (H.keep KA.out);have XA:=aA (show(W.alloc nB).heap[W.heap.size]?=some nB from nH W nB);have hwW:w.heap.size<=W.heap.size:=H.po.pl.kp.size;have LK:=aA HA.out.lock;have hnb:W.heap.size≠hb:=fun e=>by
  have:=lH H.bx;omega
 have XL:=aA (show(cY (W.alloc nB) hb).heap[W.heap.size]?=some nB from((HA.out.set 1).2.block _ (lH XA.out) hnb).trans XA.out);have HI:=aA HA.out.in;clear H;go_enter_defers func23,ntmps23;go_wp2_with fail;refine LK.out.mono ?_;rintro e w1 ⟨rfl,hw1⟩;have H1:=aA (show HW w w1 hb sb lw x t fr ls S 1 from by rw[hw1];exact HI.out);have X1:=aA (show w1.heap[W.heap.size]?=some nB from by rw[hw1];exact XL.out);have E1:=aA hw1;clear hw1 LK;obtain⟨c0,c2,c3,c4,c5,c6⟩:=H1.out.c;obtain⟨r0,r1,r2,r3⟩:=cgz X1.out;have k9:=(((Kt.refl (fun y=>y=W.heap.size) w1).setCell (p:=⟨W.heap.size,0,none⟩) rfl (.int .u64 x.bS)).setCell (p:=⟨W.heap.size,1,none⟩) rfl (.int .i64 x.lim)).setCell (p:=⟨W.heap.size,2,none⟩) rfl (.int .i64 x.o);have X9:=aA (VI X1.out (b:=x.bS) (l:=(x.lim:Int)) (o:=(x.o:Int)));have K9:=aA k9;have H9:=aA (H1.out.other X1.out hwW vU.1 vU.2.1 vU.2.2 k9);clear k9;go_wp2_with fail;generalize ((w1.setCell ⟨W.heap.size,0,none⟩ (.int .u64 x.bS)).setCell ⟨W.heap.size,1,none⟩ (.int .i64 x.lim)).setCell ⟨W.heap.size,2,none⟩ (.int .i64 x.o)=w9 at *;have UL:=aA (H9.out.unlock .returning);have D:=aA (show Kt nO W (dZ w9 hb)from KA.out.trans (HA.out.round (K:=fun y=>y=W.heap.size) (fun e=>hnb e.symm) (by have:=K9.out;rw[E1.out] at this;exact this) H9.out rfl rfl rfl) (fun _ _ e=>e) (fun y hy e=>absurd hy (by rw[e];exact Nat.lt_irrefl _)));have X10:=aA (show(dZ w9 hb).heap[W.heap.size]?=some (zC x.bS (x.lim:Int) (x.o:Int))from((H9.out.set 0).2.block _ (lH X9.out) hnb).trans X9.out);obtain⟨u0,u1,u2,u3⟩:=cgc X10.out;refine leaves_cons (f:=36) (args:=#[.pointer (some ⟨hb,0,none⟩)]) (by simp) (by simp[go_sem]) ?_;refine UL.out.mono ?_;rintro e u' w3 ⟨rfl,rfl,rfl⟩;exact⟨.agg #[.int .u64 x.bS,.int .i64 x.lim,.int .i64 x.o],by simp[results,results23,go_sem,u0,u1,u2],rfl,D.out⟩
end
def jN(x y:Nat×Nat):Bool:=decide (x.1<y.1) || (decide (x.1=y.1) && decide (x.2<y.2))
theorem AE{x y:Nat×Nat}(h:jN x y=true):jN y x=false:=by
 unfold jN at *;simp at *;omega
theorem MO{x y z:Nat×Nat}(h:jN y x=false)(h2:jN z y=false):jN z x=false:=by
 unfold jN at *;simp at *;omega
abbrev nF(l:List (Nat×Nat)):Prop:=l.Pairwise fun a b=>jN b a=false
def lB(x:Nat×Nat)(S:List (Nat×Nat))(k:Nat)(T:List (Nat×Nat)):Prop:=∃ A B,S=A ++ B/\A.length=k/\T=A ++ x :: B/\∀ b∈B,jN x b=true
theorem lB.start(x:Nat×Nat)(S:List (Nat×Nat)):lB x S S.length (S ++ [x]):=⟨S,[],by simp,rfl,rfl,fun _ h=>by cases h⟩
theorem lB.perm{x S k T}(h:lB x S k T):T.Perm (S ++ [x]):=by
 obtain⟨A,B,rfl,rfl,rfl,_⟩:=h;rw[List.append_assoc];exact List.Perm.append_left A (List.perm_append_singleton x B).symm
theorem lB.at{x S k T}(h:lB x S (k+1) T):T[k+1]?=some x/\∃ a,T[k]?=some a/\(jN x a=true->lB x S k ((T.set (k+1) a).set k x))/\(jN x a=false->nF S->nF T):=by
 obtain⟨A,B,rfl,hA,rfl,hB⟩:=h;obtain⟨A',a,rfl⟩:∃ A' a,A=A' ++ [a]:=by
  refine⟨A.dropLast,A.getLast (by intro e;rw[e] at hA;cases hA),?_⟩;rw[List.dropLast_concat_getLast]
 have hk:A'.length=k:=by simpa using hA
 subst hk;refine⟨by simp,a,by simp,fun hx=>⟨A',a :: B,by simp,rfl,?_,?_⟩,fun hx hS=>?_⟩
 ·rw[List.append_assoc,List.set_append_right _ _ (by omega),List.set_append_right _ _ (by omega)];simp
 ·intro b hb;rcases List.mem_cons.1 hb with rfl|hb
  ·exact hx
  ·exact hB b hb
 ·have hS':=List.pairwise_append.1 hS;refine List.pairwise_append.2 ⟨hS'.1,List.pairwise_cons.2 ⟨fun b hb=>AE (hB b hb),hS'.2.1⟩,?_⟩;intro c hc d hd;rcases List.mem_cons.1 hd with rfl|hd
  ·rcases List.mem_append.1 hc with hc|hc
   ·have h1:=(List.pairwise_append.1 hS'.1).2.2 c hc a (by simp);exact MO h1 hx
   ·obtain rfl:c=a:=(by simpa using hc);exact hx
  ·exact hS'.2.2 c hc d hd
theorem lB.zero{x S T}(h:lB x S 0 T)(hS:nF S):nF T:=by
 obtain⟨A,B,rfl,hA,rfl,hB⟩:=h;obtain rfl:=List.eq_nil_of_length_eq_zero hA;exact List.pairwise_cons.2 ⟨fun b hb=>AE (hB b hb),hS⟩
theorem DX:∀ (l:List (Nat×Nat)) (i:Nat) (b:Nat×Nat),dC (l.set i b)=((dC l).set (i*2) (.int .u64 b.1)).set (i*2+1) (.int .u64 b.2)
 | [],i,b=>rfl
 | x :: l,0,b=>rfl
 | x :: l,i+1,b=>by
  rw[List.set_cons_succ];show _ :: _ :: dC (l.set i b)=_
  rw[DX l i b,show(i+1)*2=i*2+1+1 by omega];rfl
theorem YX{W:World}{g n cap:Nat}{xs:List Value}{e:TypeId}{z:Nat}(h:W.ownsRow 0 e z (.slice (some ⟨g,0,none⟩) n cap) n xs)(i:Nat)(u:Value):(W.setCell ⟨g,i,none⟩ u).ownsRow 0 e z (.slice (some ⟨g,0,none⟩) n cap) n (xs.set i u):=by
 obtain⟨h1,h2⟩:=h;rcases h2 with ⟨e1,_⟩|⟨g',cap',cur,e1,hb,hg,hnc,hcm,hcs,htake⟩
 ·cases e1
 ·injection e1 with e1 e2 e3
  injection e1 with e1
  injection e1 with e1
  subst e1 e3;refine⟨by rw[List.length_set];exact h1,.inr ⟨g,cap,cur.setIfInBounds i u,rfl,hb,bB hg i u,hnc,hcm,by rw[Array.size_setIfInBounds];exact hcs,?_⟩⟩;rw[<-htake,Array.toList_setIfInBounds,List.take_set]
theorem GS.set1{w0 W:World}{e:TypeId}{z g n cap:Nat}{xs:List Value}(h:GS w0 W e z (.slice (some ⟨g,0,none⟩) n cap) n xs)(hg:w0.heap.size<=g)(i:Nat)(u:Value):GS w0 (W.setCell ⟨g,i,none⟩ u) e z (.slice (some ⟨g,0,none⟩) n cap) n (xs.set i u):=
 ⟨YX h.own i u,h.new,h.kp.trans ((Kt.refl (fun y=>y=g) W).setCell (p:=⟨g,i,none⟩) rfl u) (U:=nO) (fun _ _ e=>e) (fun y hy e=>by omega)⟩
theorem GS.setB{w0 W:World}{g n cap:Nat}{l:List (Nat×Nat)}{e:TypeId}(h:GS w0 W e 2 (.slice (some ⟨g,0,none⟩) n cap) n (dC l))(hg:w0.heap.size<=g)(i:Nat)(b:Nat×Nat):GS w0 ((W.setCell ⟨g,i*2,none⟩ (.int .u64 b.1)).setCell ⟨g,i*2+1,none⟩ (.int .u64 b.2)) e 2 (.slice (some ⟨g,0,none⟩) n cap) n (dC (l.set i b)):=by
 rw[DX];exact(h.set1 hg _ _).set1 hg _ _
theorem KM{w wr:World}{gg n cap q r p s a1 a2:Nat}{xs:List Value}(h:GS w wr 162 2 (.slice (some ⟨gg,0,none⟩) n cap) n xs)(c0:wr.cell? ⟨gg,q*2,none⟩=some (.int .u64 p))(c1:wr.cell? ⟨gg,q*2+1,none⟩=some (.int .u64 s))(c2:wr.cell? ⟨gg,r*2,none⟩=some (.int .u64 a1))(c3:wr.cell? ⟨gg,r*2+1,none⟩=some (.int .u64 a2)):
  GS w wr 162 2 (.slice (some ⟨gg,0,none⟩) n cap) n xs/\((∀ ob:Obj,(wr.alloc ob).cell? ⟨gg,q*2,none⟩=some (.int .u64 p))/\(∀ ob:Obj,(wr.alloc ob).cell? ⟨gg,q*2+1,none⟩=some (.int .u64 s))/\(∀ ob:Obj,(wr.alloc ob).cell? ⟨gg,r*2,none⟩=some (.int .u64 a1))/\(∀ ob:Obj,(wr.alloc ob).cell? ⟨gg,r*2+1,none⟩=some (.int .u64 a2))/\(∀ ob j,(wr.alloc ob).frozen? ⟨gg,j,none⟩=false)/\(wr.alloc (dL 0 0)).cell? ⟨wr.heap.size,0,none⟩=some (.int .u64 0)/\(wr.alloc (dL 0 0)).cell? ⟨wr.heap.size,1,none⟩=some (.int .u64 0)/\(∀ j,(wr.alloc (dL 0 0)).frozen? ⟨wr.heap.size,j,none⟩=false))/\gg<wr.heap.size:=by
 have ka:∀ ob:Obj,Kt nO wr (wr.alloc ob):=fun ob=>(Kt.refl nO wr).alloc ob
 have hG:=h;obtain⟨cs,hcs⟩:=cB hG.own (y:=gg) (by simp[Value.ownBlock]);have hn:=nH wr (dL 0 0);refine⟨hG,⟨fun ob=>(ka ob).cell id c0,fun ob=>(ka ob).cell id c1,fun ob=>(ka ob).cell id c2,fun ob=>(ka ob).cell id c3,fun ob j=>?_,?_,?_,fun j=>?_⟩,lH hcs⟩
 ·have:=((Kt.refl nO wr).alloc ob).block _ (lH hcs) id;rw[World.frozen?,this,hcs];simp
 ·rw[World.cell?,hn];rfl
 ·rw[World.cell?,hn];rfl
 ·rw[World.frozen?,hn];simp
theorem yZ{W:World}{gg:Nat}{cs:Array Value}{t:TypeId}(h:W.heap[gg]?=some (.cells cs t))(ob:Obj)(j:Nat):(W.alloc ob).frozen? ⟨gg,j,none⟩=false:=by
 have:=((Kt.refl nO W).alloc ob).block _ (lH h) id;rw[World.frozen?,this,h];simp
theorem KO{W:World}{gg n cap q r:Nat}{xs:List Value}(h:W.ownsRow 0 162 2 (.slice (some ⟨gg,0,none⟩) n cap) n xs):
  (∀ u ob j,((W.setCell ⟨gg,q*2,none⟩ u).alloc ob).frozen? ⟨gg,j,none⟩=false)/\(∀ u u2 ob j,(((W.setCell ⟨gg,q*2,none⟩ u).setCell ⟨gg,q*2+1,none⟩ u2).alloc ob).frozen? ⟨gg,j,none⟩=false)/\(∀ u u2 u3 ob j,((((W.setCell ⟨gg,q*2,none⟩ u).setCell ⟨gg,q*2+1,none⟩ u2).setCell ⟨gg,r*2,none⟩ u3).alloc ob).frozen? ⟨gg,j,none⟩=false):=by
 obtain⟨cs,hcs⟩:=cB h (y:=gg) (by simp[Value.ownBlock]);exact⟨fun u ob j=>yZ (bB hcs _ _) ob j,fun u u2 ob j=>yZ (bB (bB hcs _ _) _ _) ob j,fun u u2 u3 ob j=>yZ (bB (bB (bB hcs _ _) _ _) _ _) ob j⟩
theorem ZQ(v:Value)(l:List (Nat×Nat))(hl:l.length<=300000)(w:World)(hB:O.BL w v l):
  Calls prog 106 #[v] w fun e w'=>∃ u l',e=.returned u/\GS w w' 162 2 u l.length (dC l')/\l'.Perm l/\nF l'/\∀ g,u.ownBlock=some g->w.heap.size<=g:=by
 obtain⟨va,vc,rfl⟩:∃ oa oc,v=.slice oa l.length oc:=by
  obtain⟨_,_,oa,oc,hv,_⟩:=hB;exact⟨oa,oc,hv⟩
 have HB:=aA hB;clear hB;obtain⟨m,hm⟩:=xe (l.length);have HM:=aA hm;rw[<-hm] at HB hl ⊢;clear hm;have K0:=aA (Kt.refl nO w);go_enter func106,ntmps106;go_wp2_with fail;go_loopw [3,4] (fun u i W=>∃ k:Nat,k<=m/\i=.int .i64 k/\∃ S,Hid (GS w W 162 2 u k (dC S)/\S.Perm (l.take k)/\nF S/\∀ g,u.ownBlock=some g->w.heap.size<=g)) (fun _ i _=>m-(intOf i).toNat)
 case atStart=>exact⟨0,by omega,rfl,[],aA ⟨GS.nil _ _ _ _ K0.out,by simp,List.Pairwise.nil,fun g e=>by simp[Value.ownBlock] at e⟩⟩
 case round=>
  obtain⟨k,hk,rfl,S,hQ⟩:=hrel;obtain⟨ua,uc,rfl⟩:=eR hQ.out.1.own;by_cases hlt:k<m
  ·have hki:(k:Int)<m:=(by omega);have hkl:k<l.length:=(by rw[<-HM.out];exact hlt);obtain⟨bl,bo,p,s,rfl,hla,hp,hs,q0,q1⟩:=(HB.out.keep hQ.out.1.kp).at k hkl;obtain⟨gg,cap,w9,hap,hG9,hge,hK9,_⟩:=EG hQ.out.1 p s (by omega);have HSL:=aA (show S.length=k by rw[hQ.out.2.1.length_eq,List.length_take];omega);have E9:=aA (show GS w w9 162 2 (.slice (some ⟨gg,0,none⟩) (k + 1) cap) (k + 1) (dC (S ++ [(p,s)]))from by rw[nN];exact hG9);have HGE:=aA hge;have HAP:=aA hap;have HT:=aA (show(S ++ [(p,s)]).Perm (l.take (k + 1))by
    rw[List.take_succ_eq_append_getElem hkl,(List.getElem?_eq_some_iff.1 hla).2];exact hQ.out.2.1.append_right _)
   have HR:=aA hQ.out.2.2.1;clear hap hG9 hge hK9 hla hQ hkl;obtain⟨k1,hk1⟩:=xe (k+1);have HK1:=aA hk1;rw[<-hk1] at E9 HAP HT;clear hk1;go_wp2_with (at_builtin;refine Lib.wpList_append_run _ rfl _ _ _ _ rfl (.slice ua k uc) (.slice (some ⟨wr.heap.size,0,none⟩) 1 1) rfl rfl _ _ (HAP.out _) ?_)
   go_loopw [5] (fun j W=>∃ q:Nat,q<=k/\j=.int .i64 q/\∃ T,Hid (GS w W 162 2 (.slice (some ⟨gg,0,none⟩) k1 cap) k1 (dC T)/\lB (p,s) S q T)) (fun j _=>(intOf j).toNat)
   case atStart=>exact⟨k,Nat.le_refl _,rfl,_,aA ⟨E9.out,by
    have:=lB.start (p,s) S;rw[HSL.out] at this;exact this⟩⟩
   case round=>
    clear E9 HAP q0 q1;obtain⟨q,hq,rfl,T,hT⟩:=hrel;rcases Nat.eq_zero_or_pos q with h0|h0
    ·subst h0;have D:=aA (fun d=>show GS w (wr.drewN d) 162 2 (.slice (some ⟨gg,0,none⟩) k1 cap) k1 (dC T)/\T.Perm (l.take k1)/\nF T from⟨hT.out.1.keep ((Kt.refl nO wr).drewN d),hT.out.2.perm.trans HT.out,hT.out.2.zero HR.out⟩);clear hT;go_wp2_with fail;go_quiet (fail)
     go_wp2_with fail;exact⟨⟨k1,by have:=HK1.out;omega,by rw[HK1.out];simp,T,aA ⟨(D.out _).1,(D.out 0).2.1,(D.out 0).2.2,fun g e=>by have:=HGE.out;simp[Value.ownBlock] at e;omega⟩⟩,by have:=HK1.out;simp[intOf];omega⟩
    ·obtain⟨r,hr⟩:∃ r,q=r+1:=⟨q-1,by omega⟩;have HT2:=aA (show lB (p,s) S (r+1) T by rw[<-hr];exact hT.out.2);obtain⟨hx,a,ha,hst,hsp⟩:=HT2.out.at
     rw[<-hr] at hx hst;obtain⟨a1,a2⟩:=a;obtain⟨x1,x2⟩:=oL T q _ hx;obtain⟨y1,y2⟩:=oL T r _ ha;have c0:wr.cell? ⟨gg,q*2,none⟩=some (.int .u64 p):=by
      obtain⟨_,e,c⟩:=gW hT.out.1.own x1
      cases e
      exact c
     have c1:wr.cell? ⟨gg,q*2+1,none⟩=some (.int .u64 s):=by
      obtain⟨_,e,c⟩:=gW hT.out.1.own x2
      cases e
      exact c
     have c2:wr.cell? ⟨gg,r*2,none⟩=some (.int .u64 a1):=by
      obtain⟨_,e,c⟩:=gW hT.out.1.own y1
      cases e
      exact c
     have c3:wr.cell? ⟨gg,r*2+1,none⟩=some (.int .u64 a2):=by
      obtain⟨_,e,c⟩:=gW hT.out.1.own y2
      cases e
      exact c
     have e1:(q:Int)-1=(r:Int):=(by omega);have hq0:(0:Int)<(q:Int):=(by omega);have hq1:(q:Int)<k1:=(by have:=HK1.out;omega);have hr1:(r:Int)<k1:=(by have:=HK1.out;omega);have hr0:r<k1:=(by have:=HK1.out;omega);have hq2:q<k1:=(by have:=HK1.out;omega);have e2:IntKind.i64.wrap (r:Int)=r:=(by rw[IntKind.wrap_i64];omega);have hne:¬q=r:=(by omega);have HRR:=aA hr;have HST:=aA hst;have HSP:=aA hsp;clear x1 x2 y1 y2 hx ha hr HT2 hst hsp;by_cases hlt1:p<a1
     ·have hi1:(p:Int)<a1:=(by omega);have hi2:decide ((p:Int)<a1)=true:=decide_eq_true hi1;have G1:=aA (HST.out (by simp[jN,hlt1]));go_wp2_with fail;go_quiet (fail)
      have Z:=aA (KM (hT.out.1.keep ((Kt.refl nO wr).drewN nq)) (((Kt.refl nO wr).drewN nq).cell id c0) (((Kt.refl nO wr).drewN nq).cell id c1) (((Kt.refl nO wr).drewN nq).cell id c2) (((Kt.refl nO wr).drewN nq).cell id c3));have d0:=((Kt.refl nO wr).drewN nq).cell id c0;have d1:=((Kt.refl nO wr).drewN nq).cell id c1;have d2:=((Kt.refl nO wr).drewN nq).cell id c2;have d3:=((Kt.refl nO wr).drewN nq).cell id c3;generalize wr.drewN nq=wz at *;clear c0 c1 c2 c3 hT;obtain⟨⟨f0,f1,f2,f3,f4,f5,f6,f7⟩,f8⟩:=Z.out.2;have hgn:gg≠wz.heap.size:=(by omega);have hgn':wz.heap.size≠gg:=(by omega);obtain⟨g1,g2,g3⟩:=KO (q:=q) (r:=r) Z.out.1.own;have E:=aA (((Z.out.1.setB HGE.out q (a1,a2)).setB HGE.out r (p,s)).keep ((Kt.refl nO _).alloc (dL p s)));go_wp2_with fail;exact⟨⟨r,by omega,by simp,_,aA ⟨E.out,G1.out⟩⟩,by have:=HRR.out;simp[intOf];omega⟩
     ·have hi1:¬(p:Int)<a1:=(by omega);have hi2:decide ((p:Int)<a1)=false:=decide_eq_false hi1;by_cases hlt2:p=a1/\s<a2
      ·obtain⟨hpa,hs2⟩:=hlt2;have G1:=aA (HST.out (by simp[jN,hpa,hs2]));have hi3:(s:Int)<a2:=(by omega);have hi4:decide ((s:Int)<a2)=true:=decide_eq_true hi3;subst hpa;go_wp2_with fail;go_quiet (fail)
       have Z:=aA (KM (hT.out.1.keep ((Kt.refl nO wr).drewN nq)) (((Kt.refl nO wr).drewN nq).cell id c0) (((Kt.refl nO wr).drewN nq).cell id c1) (((Kt.refl nO wr).drewN nq).cell id c2) (((Kt.refl nO wr).drewN nq).cell id c3));have d0:=((Kt.refl nO wr).drewN nq).cell id c0;have d1:=((Kt.refl nO wr).drewN nq).cell id c1;have d2:=((Kt.refl nO wr).drewN nq).cell id c2;have d3:=((Kt.refl nO wr).drewN nq).cell id c3;generalize wr.drewN nq=wz at *;clear c0 c1 c2 c3 hT;obtain⟨⟨f0,f1,f2,f3,f4,f5,f6,f7⟩,f8⟩:=Z.out.2;have hgn:gg≠wz.heap.size:=(by omega);have hgn':wz.heap.size≠gg:=(by omega);obtain⟨g1,g2,g3⟩:=KO (q:=q) (r:=r) Z.out.1.own;have E:=aA (((Z.out.1.setB HGE.out q (p,a2)).setB HGE.out r (p,s)).keep ((Kt.refl nO _).alloc (dL p s)));go_wp2_with fail;exact⟨⟨r,by omega,by simp,_,aA ⟨E.out,G1.out⟩⟩,by have:=HRR.out;simp[intOf];omega⟩
      ·have D:=aA (fun d=>show GS w (wr.drewN d) 162 2 (.slice (some ⟨gg,0,none⟩) k1 cap) k1 (dC T)/\T.Perm (l.take k1)/\nF T from⟨hT.out.1.keep ((Kt.refl nO wr).drewN d),hT.out.2.perm.trans HT.out,HSP.out (by
        unfold jN;rw[decide_eq_false hlt1,Bool.false_or,Bool.and_eq_false_iff];rcases Decidable.not_and_iff_or_not.1 hlt2 with h|h
        ·exact .inl (decide_eq_false h)
        ·exact .inr (decide_eq_false h)) HR.out⟩)
       clear hT;by_cases hpa:p=a1
       ·subst hpa;have hi3:¬(s:Int)<a2:=(by omega);have hi4:decide ((s:Int)<a2)=false:=decide_eq_false hi3;go_wp2_with fail;go_quiet (fail)
        go_wp2_with fail;exact⟨⟨k1,by have:=HK1.out;omega,by rw[HK1.out];simp,T,aA ⟨(D.out _).1,(D.out 0).2.1,(D.out 0).2.2,fun g e=>by have:=HGE.out;simp[Value.ownBlock] at e;omega⟩⟩,by have:=HK1.out;simp[intOf];omega⟩
       ·have hi3:¬(p:Int)=a1:=(by omega);have hi4:((p:Int) == (a1:Int))=false:=(by rw[beq_eq_false_iff_ne];exact hi3);go_wp2_with fail;go_quiet (fail)
        go_wp2_with fail;exact⟨⟨k1,by have:=HK1.out;omega,by rw[HK1.out];simp,T,aA ⟨(D.out _).1,(D.out 0).2.1,(D.out 0).2.2,fun g e=>by have:=HGE.out;simp[Value.ownBlock] at e;omega⟩⟩,by have:=HK1.out;simp[intOf];omega⟩
  ·obtain rfl:k=m:=(by omega);have D:=aA (show _/\_/\_/\_ from⟨hQ.out.1,(show S.Perm l from by
    have:=hQ.out.2.1;rw[List.take_of_length_le (by rw[<-HM.out];exact Nat.le_refl _)] at this;exact this),hQ.out.2.2.1,hQ.out.2.2.2⟩)
   clear hQ;go_wp2_with fail;go_ret;exact⟨_,_,rfl,D.out⟩
theorem CA:∀ {l m:List (Nat×Nat)},nF l->m.Pairwise (fun a b=>a.1<b.1)->l.Perm m->l=m
 | [],m,_,_,h=>h.nil_eq
 | a :: l,[],_,_,h=>absurd h.length_eq (by simp)
 | a :: l,b :: m,h1,h2,h=>by
  have h1':=List.pairwise_cons.1 h1;have h2':=List.pairwise_cons.1 h2;have e:a=b:=by
   refine Decidable.byContradiction fun hne=>?_
   have ha:a∈m:=(List.mem_cons.1 (h.mem_iff.1 (List.mem_cons_self ..))).resolve_left hne;have hb:b∈l:=(List.mem_cons.1 (h.mem_iff.2 (List.mem_cons_self ..))).resolve_left (fun e=>hne e.symm);have:=h1'.1 b hb;rw[jN,decide_eq_true (h2'.1 a ha)] at this;simp at this
  subst e;rw[CA h1'.2 h2'.2 h.cons_inv]
end Go.Proofs.YtbgbfpklgfpepaaGreatDoor
namespace Go.Proofs.YtbgbfpklgfpepaaGreatDoor.O
open Tryz
open Go.RowKit
open Go.Proofs.YtbgbfpklgfpepaaGreatDoor.M (RS gJ mayB bE)
set_option linter.unusedVariables false
def totN(l:cD):Nat:=(l.map (·.2)).sum
theorem SU.len{U:List Un}{np:Nat}(h:SU U np)(hn:np<=1024):U.length<=262144:=by
 have h1:(U.map fun u=>u.1*256+u.2.1).Nodup:=by
  rw[List.Nodup,List.pairwise_map];refine h.p.imp_of_mem fun {u v} hu hv huv e=>?_
  have hu':=h.b u hu;have hv':=h.b v hv;have cu:=(tH u.2.2 hu'.1).2;have cv:=(tH v.2.2 hv'.1).2;have e1:u.1=v.1:=by omega
  exact(huv e1).2 (by omega)
 have h2:=oJ 262144 _ h1 fun x hx=>by
  obtain⟨u,hu,rfl⟩:=List.mem_map.1 hx;have hu':=h.b u hu;have cu:=(tH u.2.2 hu'.1).2;omega
 rw[List.length_map] at h2;exact h2
theorem zh9(l:cD)(a:Nat){p s:Nat}(h:l[a]?=some (p,s)):totN (l.take (a+1))=totN (l.take a)+s:=by
 rw[List.take_add_one,h];simp[totN]
theorem ze3(l:cD)(a:Nat):totN (l.take a)<=totN l:=by
 have:totN l=totN (l.take a)+totN (l.drop a):=by
  have h:=congrArg totN (List.take_append_drop a l);rw[<-h];simp only[totN,List.map_append,List.sum_append]
 omega
theorem refTotal(v:Value)(l:cD)(w:World)(hbl:BL w v l)(ht:totN l<=1073741824):
  Calls prog 158 #[v] w fun e w'=>e=.returned (.int .u64 ((totN l:Nat):Int))/\Kt nO w w':=by
 obtain⟨oa,oc,rfl⟩:∃ oa oc,v=.slice oa l.length oc:=by
  obtain⟨_,_,oa,oc,hv,_⟩:=hbl;exact⟨oa,oc,hv⟩
 have BL0:=aA hbl;have hlen:=hbl.len.2;have HT:=aA ht;clear hbl ht;go_enter func158,ntmps158;go_wp2_with fail;go_loop [3,4] (fun t i=>∃ a:Nat,a<=l.length/\i=.int .i64 a/\∃ z:Nat,t=.int .u64 z/\Hid (z=totN (l.take a))) (fun _ i=>l.length-(intOf i).toNat)
 case atStart=>exact⟨0,Nat.zero_le _,rfl,0,rfl,aA (by simp[totN])⟩
 case round=>
  obtain⟨a,ha,rfl,z,rfl,HI⟩:=hrel;by_cases hlt:a<l.length
  ·have hai:(a:Int)<l.length:=(by omega);obtain⟨bl,o,p,s,rfl,hla,hp,hs,q0,q1⟩:=BL0.out.at a hlt;have HN:=aA (show z+s=totN (l.take (a+1))by rw[zh9 l a hla,HI.out]);have hb:z+s<=1073741824:=by
    rw[HN.out];exact Nat.le_trans (ze3 l _) HT.out
   clear hla;go_wp2_with fail;go_round
   case rel=>exact⟨a+1,by omega,by go_num,z+s,by go_num,HN⟩
   case measure=>simp[intOf];omega
  ·have hge:¬(a:Int)<l.length:=(by omega);have:a=l.length:=by omega
   have E:=aA (show z=totN l by rw[HI.out,this,List.take_length]);clear this;go_wp2_with fail;go_ret;rw[<-E.out];exact⟨rfl,Kt.refl _ _⟩
end Go.Proofs.YtbgbfpklgfpepaaGreatDoor.O
namespace Go.Proofs.YtbgbfpklgfpepaaGreatDoor
open Tryz
open Go.RowKit
open Go.MuLone
open Go.Proofs.YtbgbfpklgfpepaaGreatDoor.M (RS gJ mayB bE)
set_option linter.unusedVariables false
def mZ(l:List (Nat×Nat))(bS:Nat):Nat->Nat
 | 0=>0
 | k+1=>mZ l bS k+(if O.takB (bS+4096*k) 4096 l=true then 0 else 1)
theorem ze2(bS:Nat)(lim:Int)(o n:Nat)(ho:o<=8)(hn:n<=64)(hb:bS+n*RS o<=9223372036854775808)(v:Value)(l:List (Nat×Nat))(hl:∀ b∈l,b.1+b.2<2 ^ 64)(w:World)(hB:O.BL w v l):
  Calls prog 159 #[cA bS lim (o:Int),.int .i64 n,v] w fun e w'=>e=.returned (.int .i64 ((mZ l bS (n*2 ^ o):Nat):Int))/\Kt nO w w':=by
 have K0:=aA ((Kt.refl nO w).alloc (.cells #[.int .u64 bS,.int .i64 lim,.int .i64 o] 43));have C0:=aA (show mK (w.alloc (.cells #[.int .u64 bS,.int .i64 lim,.int .i64 o] 43)) w.heap.size bS lim (o:Int)from nH w _);have RR:=aA (fun W=>jJ (bS:Int) lim o ho W);obtain⟨m,hm⟩:=xe (n*2 ^ o);obtain⟨H,hH⟩:=xe (n*RS o);have hHm:H=4096*m:=by
  rw[hH,hm];unfold RS;rw[Nat.mul_left_comm]
 have hRb:RS o<=1048576:=by
  have:=bE o ho;unfold RS;omega
 have hHb:H<=67108864:=by
  rw[hH];exact Nat.le_trans (Nat.mul_le_mul hn hRb) (by decide)
 have TK:=aA (fun q W (k:Kt nO w W) (hq:q+4096<2 ^ 64)=>O.refTaken q 4096 v l W (hB.keep k) hq hl);rw[<-hm];rw[<-hH] at hb;obtain⟨R,hR⟩:=xe (RS o);rw[<-hR] at RR;have hw1:IntKind.u64.wrap (n:Int)=n:=by rw[wrap_u64];omega
 have hw2:(n:Int)*(R:Int)=H:=by rw[hH,hR];simp
 have hw3:IntKind.u64.wrap (H:Int)=H:=by rw[wrap_u64];omega
 have HHm:=aA hHm;clear hH hm hR hRb hB hl hHm;go_enter func159,ntmps159;go_wp2_with fail;obtain⟨y,hy⟩:=xe (w.heap.size);rw[<-hy] at C0 ⊢;clear hy;go_loopw [7,8] (fun a b W=>∃ j z q:Nat,j<=m/\z<=j/\q<=H/\a=.int .i64 z/\b=.int .u64 q/\Hid (z=mZ l bS j/\q=4096*j/\Kt nO w W/\mK W y bS lim (o:Int))) (fun _ b _=>H-(intOf b).toNat)
 case atStart=>exact⟨0,0,0,Nat.zero_le _,Nat.le_refl _,Nat.zero_le _,rfl,rfl,aA ⟨rfl,rfl,K0.out,C0.out⟩⟩
 case round=>
  clear K0 C0;obtain⟨j,z,q,hj,hzj,hqH,rfl,rfl,hQ⟩:=hrel;obtain⟨x0,x1,x2⟩:=hQ.out.2.2.2.cells;by_cases hlt:q<H
  ·have hqi:(q:Int)<H:=(by omega);have hj2:j+1<=m:=(by have:=hQ.out.2.1;have:=HHm.out;omega);have hq4:q+4096<=H:=(by have:=hQ.out.2.1;have:=HHm.out;omega);obtain⟨ad,had⟩:=xe (bS+q);have e1:(bS:Int)+(q:Int)=ad:=(by omega);have e2:IntKind.u64.wrap (ad:Int)=ad:=(by rw[wrap_u64];omega);have HB:=aA (show mZ l bS (j+1)=z+(if O.takB ad 4096 l=true then 0 else 1)by rw[mZ,hQ.out.1,had,hQ.out.2.1]);have HA4:=aA (show ad+4096<2 ^ 64 by omega);clear had;go_wp2_with fail;refine(RR.out _).mono ?_;rintro e3 w3 ⟨rfl,hk3⟩;have Q3:=aA (And.intro (nT hQ.out.2.2.1 hk3) (hQ.out.2.2.2.keep hk3 id));clear hk3 x0 x1 x2;obtain⟨x0,x1,x2⟩:=Q3.out.2.cells;have TT:=aA (TK.out ad w3 Q3.out.1 HA4.out);generalize O.takB ad 4096 l=bt at *;go_wp2_with fail;refine TT.out.mono ?_;rintro e4 w4 ⟨rfl,hk4⟩;have Q4:=aA (And.intro (nT Q3.out.1 hk4) (Q3.out.2.keep hk4 id));have HQ:=aA hQ.out.2.1;clear hk4 x0 x1 x2 hQ Q3 TT
   cases bt with
   | true=>
    go_wp2_with fail;exact⟨⟨j+1,z,q+4096,hj2,by omega,hq4,rfl,by simp,aA ⟨by rw[HB.out];rfl,by have:=HQ.out;omega,Q4.out.1,Q4.out.2⟩⟩,by simp[intOf];omega⟩
   | false=>
    go_wp2_with fail;exact⟨⟨j+1,z+1,q+4096,hj2,by omega,hq4,by rw[show wrap64 ((z:Int)+1)=((z+1:Nat):Int)by rw[wrap64];have:=HHm.out;omega],by simp,aA ⟨by rw[HB.out];rfl,by have:=HQ.out;omega,Q4.out.1,Q4.out.2⟩⟩,by simp[intOf];omega⟩
  ·have hqi:¬(q:Int)<H:=(by omega);have D:=aA (show z=mZ l bS m/\Kt nO w wr from⟨by
    have h1:=hQ.out.1;have h2:=hQ.out.2.1;have h3:=HHm.out;rw[show j=m by omega] at h1;exact h1,hQ.out.2.2.1⟩)
   go_wp2_with fail;refine(RR.out _).mono ?_;rintro e3 w3 ⟨rfl,hk3⟩;have D3:=aA (nT D.out.2 hk3);go_wp2_with fail;go_ret;exact⟨by rw[<-D.out.1];rfl,D3.out⟩
theorem zfD(bS:Nat)(L o n:Nat)(ho:o<=8)(hn:n<=64)(va:Option Addr)(vm vc:Nat)(c:Cl8)(s:Sn8)(aa:Option Addr)(ac:Nat)(h0:s.e=0)(h3:s.af=n*RS o)(w:World):
  Calls prog 155 #[aK bS (L:Int) (o:Int) (n:Int) (.slice va vm vc),bJ c,aU s,.slice aa 0 ac] w fun e w'=>e=.returned (.tuple #[aK bS (L:Int) (o:Int) (n:Int) (.slice va vm vc),.bool true])/\Kt nO w w':=by
 have X:=aA (eX w bS (L:Int) (o:Int) (n:Int) (.slice va vm vc) c s);have QU:=aA (fun W=>mQ bS (L:Int) o n ho hn (.slice va vm vc) s h0 h3 W);clear h0 h3;go_enter func155,ntmps155;go_upto_region 2 with fail;have kd:∀ W:World,Kt nO W W.drew:=fun W=>(Kt.refl nO W).drew
 have XD:=aA (X.out.2.keep (kd _));have KD:=aA (nT X.out.1 (kd _));clear kd X;generalize hW0:((((w.alloc (aM bS (L:Int) (o:Int) (n:Int) (.slice va vm vc))).alloc (bP c)).alloc (bA s)).alloc cC)=W0 at *;clear hW0;obtain⟨b0,b1,b2,b3,b4,bf⟩:=aD XD.out.b;obtain⟨s0,s1,s2,s3,s4,s5,s6,s7,s8⟩:=aZ XD.out.s;clear bf;have n1:w.heap.size≠w.heap.size+1+1+1:=by omega
 have n2:w.heap.size+1+1≠w.heap.size+1+1+1:=by omega
 go_region_held3 (fun w'=>w'.cell? ⟨w.heap.size,0,none⟩=some (.int .u64 bS)/\w'.cell? ⟨w.heap.size,1,none⟩=some (.int .i64 L)/\w'.cell? ⟨w.heap.size,2,none⟩=some (.int .i64 o)/\w'.cell? ⟨w.heap.size,3,none⟩=some (.int .i64 n)/\w'.cell? ⟨w.heap.size,4,none⟩=some (.slice va vm vc)/\w'.cell? ⟨w.heap.size+1+1,0,none⟩=some (.int .i64 s.e)/\w'.cell? ⟨w.heap.size+1+1,1,none⟩=some (.int .u64 s.v)/\w'.cell? ⟨w.heap.size+1+1,2,none⟩=some (.slice s.da s.dn s.dc)/\w'.cell? ⟨w.heap.size+1+1,3,none⟩=some (.int .u64 s.H)/\w'.cell? ⟨w.heap.size+1+1,4,none⟩=some (.int .u64 s.L)/\w'.cell? ⟨w.heap.size+1+1,5,none⟩=some (.int .i64 s.B)/\w'.cell? ⟨w.heap.size+1+1,6,none⟩=some (.int .i64 s.F)/\w'.cell? ⟨w.heap.size+1+1,7,none⟩=some (.int .u64 s.af)/\w'.cell? ⟨w.heap.size+1+1,8,none⟩=some (.slice s.fa s.fn s.fc)) (((try dsimp only);(repeat' apply And.intro) <;> first|with_reducible assumption|with_reducible exact gC (by with_reducible assumption) (by with_reducible assumption))) (first
  | (go_at_call 104;(with_reducible refine(QU.out _).mono ?_);rintro e5 w5 ⟨rfl,hk5⟩;have X5:=aA (XD.out.keep hk5);have K5:=aA (nT KD.out hk5);obtain⟨p0,p1,p2,p3,p4,p5,p6,p7,p8⟩:=aZ X5.out.s;obtain⟨k0,k1,k2,k3,k4,kf⟩:=aD X5.out.b;obtain⟨z0,z1,z2,z3,z4,zf⟩:=dE X5.out.rb;clear hk5 kf)
  | fail)
 all_goals
  obtain⟨r0,r1,r2,r3,r4,rf⟩:=aD (dM (bS:=bS) (lim:=(L:Int)) (o:=(o:Int)) (n:=(n:Int)) (v:=.slice va vm vc) X5.out.rb);have D:=aA (K5.out.trans (fA (W:=w5) (y:=w.heap.size+1+1+1) (.int .u64 bS) (.int .i64 L) (.int .i64 o) (.int .i64 n) (.slice va vm vc)) (U:=nO) (fun _ _ e=>e) (fun y hy e=>by omega));clear z0 z1 z2 z3 z4 zf;go_wp2_with fail;exact⟨rfl,.tuple #[aK bS (L:Int) (o:Int) (n:Int) (.slice va vm vc),.bool true],by simp[results,results155,go_sem,r0,r1,r2,r3,r4],rfl,D.out⟩
def sP(w W W':World)(hb sb lw:Nat)(x:Bx)(t:Bt)(ls:List (Nat×Nat))(S:Sb):Prop:=∃ x' t' fr' ls' S',Nx w W W' hb sb lw x t ls S 0 x' t' fr' ls' S'
section
variable {w W W':World} {hb sb lw:Nat} {x:Bx} {t:Bt} {fr:Nat->List Nat} {ls:List (Nat×Nat)} {S:Sb}
theorem HW.go0(H:HW w W hb sb lw x t fr ls S 0)(k:Kt nO W W'):sP w W W' hb sb lw x t ls S:=
 ⟨x,t,fr,ls,S,⟨H.keep k,⟨rfl,rfl,rfl,rfl,fun _ _ _=>rfl⟩,k.mono (fun _ _ e=>e.elim),fun y hy=>.inl hy⟩⟩
theorem Nx.plt{x':Bx}{t':Bt}{fr':Nat->List Nat}{ls':List (Nat×Nat)}{S':Sb}(n:Nx w W W' hb sb lw x t ls S 0 x' t' fr' ls' S'){p z:Nat}(hl:aG x' ls' S' p z):p<18446744073709551616:=by
 obtain⟨h,o⟩:=n.H.so;have h1:=o.inside hl;have n4:=o.po.nums.2.2.2.1;omega
theorem Tq.go{r:Nat}{d:Bool}{p:Nat}{er:Int}(H:HW w W hb sb lw x t fr ls S 0)(h:Tq w W hb sb lw x t fr ls S 0 r d p er W'):sP w W W' hb sb lw x t ls S/\p<18446744073709551616:=by
 cases h with
 | no hp he nf hd kp=>exact⟨H.go0 kp,by omega⟩
 | yes x' t' fr' ls' S' b he td nx hL hN hn hm hb1 hb2=>exact⟨⟨x',t',fr',ls',S',nx⟩,nx.plt ((hL _ _).2 (.inr ⟨rfl,rfl⟩))⟩
theorem Rq8.go{m:Nat}{d:Bool}{p:Nat}{er:Int}(H:HW w W hb sb lw x t fr ls S 0)(h:Rq8 w W hb sb lw x t fr ls S 0 m d p er W'):sP w W W' hb sb lw x t ls S/\p<18446744073709551616:=by
 cases h with
 | big ho hp he kp=>exact⟨H.go0 kp,by omega⟩
 | ok ho hT=>exact hT.go H
theorem Cz.go{m:Nat}{d:Bool}{p:Nat}{er:Int}(H:HW w W hb sb lw x t fr ls S 0)(h:Cz w W hb sb lw x t fr ls S 0 m d p er W'):sP w W W' hb sb lw x t ls S/\p<18446744073709551616:=by
 cases h with
 | big ho hp he kp=>exact⟨H.go0 kp,by omega⟩
 | no ho hp he nf hd kp=>exact⟨H.go0 kp,by omega⟩
 | yes ho x' t' fr' ls' S' b he td nx hL hN hn hm hb1 hb2 hz=>exact⟨⟨x',t',fr',ls',S',nx⟩,nx.plt ((hL _ _).2 (.inr ⟨rfl,rfl⟩))⟩
theorem Rl.go{p m:Nat}{d:Bool}{p':Nat}{er:Int}(hp64:p<18446744073709551616)(H:HW w W hb sb lw x t fr ls S 0)(h:Rl w W hb sb lw x t fr ls S 0 p m d p' er W'):sP w W W' hb sb lw x t ls S/\p'<18446744073709551616:=by
 cases h with
 | nil hp h=>exact h.go H
 | bad hp hl hp' he kp=>exact⟨H.go0 kp,by omega⟩
 | big z hp hl ho hp' he kp=>exact⟨H.go0 kp,by omega⟩
 | same hp ho hl hp' he kp=>exact⟨H.go0 kp,by omega⟩
 | shr z hp ho hl h1 h2 hp' he hS=>
  obtain⟨t',q,k,j,_,_,_,_,_,_,nx,_⟩:=hS;exact⟨⟨_,_,_,_,_,nx⟩,by omega⟩
 | mov z hp ho hl hne h1 hM=>
  cases hM with
  | no hp he nf hd kp=>exact⟨H.go0 kp,by omega⟩
  | yes x' t' fr' ls' S' b he nx hL hN hn hm hb1 hb2 cp md=>exact⟨⟨x',t',fr',ls',S',nx⟩,nx.plt ((hL _ _).2 (.inr ⟨rfl,rfl⟩))⟩
theorem pH:¬Go.Proofs.YtbgbfpklgfpepaaGreatDoor.pty 69/\69≠135/\69≠91:=by unfold Go.Proofs.YtbgbfpklgfpepaaGreatDoor.pty;decide
end
theorem GS.kept8{w W W':World}{e:TypeId}{v:Value}{n:Nat}{xs:List Value}(h:GS w W e 1 v n xs)(k:Kt nO w W')(hE:∀ y,v.ownBlock=some y->W'.heap[y]?=W.heap[y]?):GS w W' e 1 v n xs:=by
 refine⟨⟨h.own.1,?_⟩,h.new,k⟩;rcases h.own.2 with h0|⟨g,cap,cur,rfl,hb,hg,h3⟩
 ·exact .inl h0
 ·exact .inr ⟨g,cap,cur,rfl,hb,(hE g (by simp[Value.ownBlock])).trans hg,h3⟩
section
variable {w1 W W':World} {hb bS lim o R:Nat} {lr:List Nat} {v:Value}
end
theorem tR{x:Bx}{S:Sb}{g k:Nat}{a z:Nat} : ∀ j,(a,z)∈fZ x S g k j↔∃ i,i<j/\i ∉ S.fl g/\a=aO x g k i/\z=aC k
 | 0=>by
  unfold fZ;simp
 | j+1=>by
  have ih:=tR (x:=x) (S:=S) (g:=g) (k:=k) (a:=a) (z:=z) j;unfold fZ;split
  ·rename_i hf;rw[ih];constructor
   ·rintro ⟨i,h1,h2⟩;exact⟨i,by omega,h2⟩
   ·rintro ⟨i,h1,h2,h3⟩;refine⟨i,?_,h2,h3⟩;rcases Nat.lt_or_ge i j with h|h
    ·exact h
    ·obtain rfl:i=j:=(by omega);exact absurd hf h2
  ·rename_i hf;rw[List.mem_append,ih,List.mem_singleton];constructor
   ·rintro (⟨i,h1,h2⟩|e)
    ·exact⟨i,by omega,h2⟩
    ·injection e with e1 e2
     exact⟨j,Nat.lt_succ_self _,hf,e1,e2⟩
   ·rintro ⟨i,h1,h2,h3,h4⟩;rcases Nat.lt_or_ge i j with h|h
    ·exact .inl ⟨i,h,h2,h3,h4⟩
    ·obtain rfl:i=j:=(by omega);exact .inr (by rw[h3,h4])
theorem wQ{x:Bx}{t:Bt}{S:Sb}{b:Nat×Nat} : ∀ i,b∈hZ x t S i↔∃ g,g<i/\b∈jL x t S g
 | 0=>by
  unfold hZ;simp
 | i+1=>by
  have ih:=wQ (x:=x) (t:=t) (S:=S) (b:=b) i;unfold hZ;rw[List.mem_append,ih];constructor
  ·rintro (⟨g,h1,h2⟩|h)
   ·exact⟨g,by omega,h2⟩
   ·exact⟨i,Nat.lt_succ_self _,h⟩
  ·rintro ⟨g,h1,h2⟩;rcases Nat.lt_or_ge g i with h|h
   ·exact .inl ⟨g,h,h2⟩
   ·obtain rfl:g=i:=(by omega);exact .inr h2
theorem EA{x:Bx}{S:Sb}{g k:Nat}(hk:k<8):∀ j,(fZ x S g k j).Pairwise (fun b c=>b.1<c.1)
 | 0=>List.Pairwise.nil
 | j+1=>by
  have ih:=EA (x:=x) (S:=S) (g:=g) hk j;unfold fZ;split
  ·exact ih
  ·rw[List.pairwise_append];refine⟨ih,List.pairwise_singleton _ _,fun b hb c hc=>?_⟩;rw[List.mem_singleton] at hc;subst hc;obtain⟨a,z⟩:=b;obtain⟨i,h1,_,h3,_⟩:=(tR j).1 hb;show a<aO x g k j
   rw[h3];unfold aO;have hz:=(bU hk).1;have:(i+1)*aC k<=j*aC k:=Nat.mul_le_mul_right _ h1;rw[Nat.add_mul,Nat.one_mul] at this;omega
section
variable {w W W':World} {hb sb lw:Nat} {x:Bx} {t:Bt} {fr:Nat->List Nat} {ls:List (Nat×Nat)} {S:Sb} {s:Int}
theorem HW.pg_in(H:HW w W hb sb lw x t fr ls S s){g:Nat}(hg:g<t.m.n){a z:Nat}(h:(a,z)∈jL x t S g):aG x ls S a z/\x.bS+4096*g<=a/\a<x.bS+4096*(g+1):=by
 obtain⟨hh,o⟩:=H.so
 cases H.lk hg with
 | none hq h1=>rw[h1] at h;cases h
 | head k hk hq ho h1=>
  rw[h1,List.mem_singleton] at h;injection h with e1 e2
  subst e1 e2;refine⟨?_,Nat.le_refl _,by omega⟩
  cases o.kind hg with
  | slab k' hc=>
   obtain⟨_,sp⟩:=o.si.pg g k' hc;rw[sp.kd] at hq;exact absurd hq (by decide)
  | big q k' hm hc hgn a1 a2 hp=>
   have:g=q:=by
    refine Decidable.byContradiction fun e=>?_
    rw[if_neg e] at hp;rw[hp] at hq;exact absurd hq (by show ¬(3:Int)=2;decide)
   subst this;rw[hp] at ho;have:(k':Int)=k:=ho;obtain rfl:k'=k:=(by omega);exact .inr ⟨g,k',hm,hgn,rfl,rfl⟩
  | free q j hm hj hgn a1 a2 hp=>
   rw[hp] at hq;have:(if g=q then (0:Int) else 1)=2:=hq;split at this <;> exact absurd this (by decide)
 | slab k hq hc hl h1=>
  rw[h1] at h;obtain⟨i,i1,i2,i3,i4⟩:=(tR _).1 h;have hk:=(o.si.pg g k hc).1;have hme:=o.mem hc;have n4:=o.po.nums.2.2.2.1;have hof:=fQ (x:=x) (p:=g) hk i1 (by omega);have hz:=(bU hk).1;have e:aO x g k i=x.bS+4096*g+i*aC k:=rfl;exact⟨.inl ⟨g,k,i,⟨hc,i1,i2,i3⟩,i4⟩,by omega,by omega⟩
theorem HW.live_iff(H:HW w W hb sb lw x t fr ls S s){a z:Nat} : (a,z)∈hZ x t S t.m.n↔aG x ls S a z:=by
 rw[wQ];constructor
 ·rintro ⟨g,hg,h⟩;exact(H.pg_in hg h).1
 ·obtain⟨hh,o⟩:=H.so;rintro (⟨g,k,i,⟨hc,i1,i2,i3⟩,i4⟩|⟨q,k,hm,hc,ha,hz⟩)
  ·refine⟨g,(o.mem hc).2.1,?_⟩;unfold jL;rw[hc];exact(tR _).2 ⟨i,i1,i2,i3,i4⟩
  ·obtain⟨a1,a2,a3⟩:=o.al hm;have hz0 : 0<2 ^ k:=Nat.pow_pos (by decide);have hq:q<t.m.n:=(by omega);refine⟨q,hq,?_⟩
   cases o.kind hq with
   | slab k' hc'=>rw[hc] at hc';cases hc'
   | big q' k' hm' hc' hgn b1 b2 hp=>
    rcases o.apart hm hm' with ⟨e1,e2⟩|e|e
    ·subst e1 e2;unfold jL;rw[hc,hp,if_pos rfl];show(a,z)∈[(x.bS+4096*q,4096*2 ^ (k:Int).toNat)]
     rw[List.mem_singleton,ha,hz,Int.toNat_natCast];rfl
    ·omega
    ·omega
   | free q' j hm' hj hgn b1 b2 hp=>
    exfalso
    have hd:=o.sf;obtain⟨B,s',hN,hL⟩:=hd;have hb1:=(s'.fi q' j).2 ⟨hj,hm'⟩;have hb2:=(hL q k).2 hm;rcases s'.ds _ _ _ _ _ _ hb1 hb2 with ⟨e,_⟩|e|e
    ·cases e
    ·omega
    ·omega
theorem HW.rise(H:HW w W hb sb lw x t fr ls S s):∀ i,i<=t.m.n->(hZ x t S i).Pairwise (fun b c=>b.1<c.1)
 | 0,_=>List.Pairwise.nil
 | i+1,hi=>by
  have ih:=H.rise i (by omega);unfold hZ;rw[List.pairwise_append];refine⟨ih,?_,fun b hb c hc=>?_⟩
  ·cases H.lk (i:=i) (by omega)with
   | none hq h1=>rw[h1];exact List.Pairwise.nil
   | head k hk hq ho h1=>rw[h1];exact List.pairwise_singleton _ _
   | slab k hq hc hl h1=>
    obtain⟨hh,o⟩:=H.so;rw[h1];exact EA (o.si.pg i k hc).1 _
  ·obtain⟨g,hg,hbg⟩:=(wQ _).1 hb;obtain⟨a,z⟩:=b;obtain⟨a',z'⟩:=c;have h1:=(H.pg_in (by omega) hbg).2.2;have h2:=(H.pg_in (by omega) hc).2.1;show a<a'
   omega
end
structure LL8(x:Bx)(ls:List (Nat×Nat))(S:Sb)(l:List (Nat×Nat)):Prop where
 ex:∀ a z,aG x ls S a z↔(a,z)∈l
 nd:(l.map (·.1)).Nodup
theorem DO(k:Nat):aC k=2 ^ (4+k):=by
 unfold aC;rw[Nat.pow_add]
theorem DM(k:Nat):cL (aC k)=true:=(jZ _).2 ⟨4+k,DO k⟩
theorem MH(k:Nat):cL (4096*2 ^ k)=true:=(jZ _).2 ⟨12+k,by rw[Nat.pow_add]⟩
section
variable {w W:World} {hb sb lw:Nat} {x:Bx} {t:Bt} {fr:Nat->List Nat} {ls:List (Nat×Nat)} {S:Sb} {s:Int} {l:List (Nat×Nat)}
theorem HW.hR(H:HW w W hb sb lw x t fr ls S s):x.R=RS x.o:=H.po.pl.bd.hR
theorem HW.bm(H:HW w W hb sb lw x t fr ls S s):x.bS%RS x.o=0:=by rw[<-H.hR];exact H.br
theorem HW.b4(H:HW w W hb sb lw x t fr ls S s):x.bS%4096=0:=by
 have:=H.bm;unfold RS at this;obtain⟨c,hc⟩:=Nat.dvd_of_mod_eq_zero this;rw[hc,Nat.mul_assoc];exact Nat.mul_mod_right _ _
theorem HW.rgs(H:HW w W hb sb lw x t fr ls S s):∃ n,t.m.n=n*2 ^ x.o/\n<=x.lim/\x.n=n*RS x.o/\n*RS x.o<=4194304:=by
 obtain⟨n,h1,h2,h3⟩:=H.rg;rw[H.hR] at h3;refine⟨n,h1,h2,h3,?_⟩;have h4:=H.po.nums.2.1;have h5:=H.po.st;rw[<-h3];omega
theorem HW.okB(H:HW w W hb sb lw x t fr ls S s){a z n:Nat}(hn:x.n=n*RS x.o)(hl:aG x ls S a z):O.okB x.bS x.o n a z=true:=by
 obtain⟨h,o⟩:=H.so;have hin:=o.inside hl;have hs:=(o.span hl).1;have h8:=H.po.nums.1;have hP:=bE x.o h8;have key:cL z=true/\16<=z/\z<=RS x.o/\a%z=0:=by
  rcases hl with ⟨g,k,i,hv,rfl⟩|⟨q,k,hm,hc,rfl,rfl⟩
  ·have hk:=(o.si.pg g k hv.1).1;have:=bU hk;refine⟨DM k,this.1,by unfold RS;omega,?_⟩;rw[hv.2.2.2];exact yC hk H.b4
  ·obtain⟨hk,hq,_⟩:=o.al hm;have h1 : 2 ^ k<=2 ^ x.o:=Nat.pow_le_pow_right (by decide) hk;have h0 : 0<2 ^ k:=Nat.pow_pos (by decide);refine⟨MH k,by omega,by unfold RS;omega,?_⟩;obtain⟨c,hc2⟩:=Nat.dvd_of_mod_eq_zero hq;obtain⟨e,he⟩:=Nat.dvd_of_mod_eq_zero H.bm;unfold RS at he;obtain⟨d,hd⟩:=Nat.pow_dvd_pow 2 hk;unfold ad;rw[he,hc2,hd];have : 4096*(2 ^ k*d)*e+4096*(2 ^ k*c)=4096*2 ^ k*(d*e+c):=by
    rw[Nat.mul_add,Nat.mul_assoc 4096 (2 ^ k) (d*e),Nat.mul_assoc 4096,Nat.mul_assoc (2 ^ k) d e,Nat.mul_assoc 4096 (2 ^ k) c]
   rw[this,Nat.mul_mod_right]
 unfold O.okB O.szB;simp only[Bool.and_eq_true,decide_eq_true_eq];exact⟨⟨⟨⟨⟨key.1,key.2.1⟩,key.2.2.1⟩,key.2.2.2⟩,hin.1⟩,by omega⟩
theorem HW.conf(H:HW w W hb sb lw x t fr ls S s){a z a' z':Nat}(h1:aG x ls S a z)(h2:aG x ls S a' z')(hne:a≠a'):O.confB x.bS a z a' z'=false:=by
 obtain⟨h,o⟩:=H.so;have hd:a+z<=a'\/a'+z'<=a:=by
  rcases o.two h1 h2 with ⟨e,_⟩|e
  ·exact absurd e hne
  ·exact e
 have n4:=o.po.nums.2.2.2.1;have i1:=o.inside h1;have i2:=o.inside h2;unfold O.confB O.meetB;have hm:(decide (a<a'+z') && decide (a'<a+z))=false:=by
  rw[Bool.and_eq_false_iff,decide_eq_false_iff_not,decide_eq_false_iff_not];omega
 rw[hm,Bool.false_or]
 cases hc:(decide (z<4096) && decide (z'<4096) && decide (z≠z') && decide ((a-x.bS)/4096=(a'-x.bS)/4096))with
 | false=>rfl
 | true=>
  exfalso
  simp only[Bool.and_eq_true,decide_eq_true_eq] at hc;obtain⟨⟨⟨c1,c2⟩,c3⟩,c4⟩:=hc;have cell:∀ {b y:Nat},aG x ls S b y->y<4096->x.bS<=b->∃ g k,S.c g=some k/\y=aC k/\(b-x.bS)/4096=g:=by
   rintro b y (⟨g,k,i,hv,rfl⟩|⟨q,k,hm,hc,rfl,rfl⟩) hy hb
   ·have hk:=(o.si.pg g k hv.1).1;have h3:=(dV hk).1;have h4:=(bU hk).1;have h5:(i+1)*aC k<=aH k*aC k:=Nat.mul_le_mul_right _ hv.2.1;rw[Nat.add_mul,Nat.one_mul] at h5;refine⟨g,k,hv.1,rfl,?_⟩;rw[hv.2.2.2];unfold aO;generalize i*aC k=y at *;omega
   ·have : 0<2 ^ k:=Nat.pow_pos (by decide);omega
  obtain⟨g,k,e1,e2,e3⟩:=cell h1 c1 i1.1;obtain⟨g',k',e1',e2',e3'⟩:=cell h2 c2 i2.1;rw[e3,e3'] at c4;subst c4;rw[e1] at e1';injection e1' with e1'
  subst e1';exact c3 (e2.trans e2'.symm)
theorem LL8.snl(L:LL8 x ls S l)(H:HW w W hb sb lw x t fr ls S s){n:Nat}(hn:x.n=n*RS x.o):O.Snl x.bS x.o n l:=by
 have hnr:n*RS x.o<=4194304:=by
  obtain⟨n',_,_,h3,h4⟩:=H.rgs;rw[<-hn,h3];exact h4
 refine⟨H.bm,hnr,fun a=>?_⟩;induction a using Nat.strongRecOn with
 | _ a ih=>
  intro ha;obtain⟨b,hb⟩:∃ b,l[a]?=some b:=⟨_,List.getElem?_eq_getElem ha⟩;obtain⟨p,z⟩:=b;have hl:aG x ls S p z:=(L.ex p z).2 (List.mem_of_getElem? hb);refine(O.good_conf H.bm hnr hb (fun a' ha'=>ih a' ha' (by omega)) (H.okB hn hl)).2 fun j c hj hc=>?_
  obtain⟨p',z'⟩:=c;have hl':aG x ls S p' z':=(L.ex p' z').2 (List.mem_of_getElem? hc);refine H.conf hl hl' fun e=>?_
  have h1:(l.map (·.1))[a]?=some p:=by rw[List.getElem?_map,hb];rfl
  have h2:(l.map (·.1))[j]?=some p:=by rw[List.getElem?_map,hc];simp[e]
  have:=(List.getElem?_inj (by simpa using ha) L.nd).1 (h1.trans h2.symm);omega
theorem LL8.snd(L:LL8 x ls S l)(H:HW w W hb sb lw x t fr ls S s)(hm:mayB x.bS (x.lim:Int) (x.o:Int)=true){n:Nat}(hn:x.n=n*RS x.o)(hl:n<=x.lim):O.sndV x.bS (x.lim:Int) (x.o:Int) (n:Int) l = -1:=by
 have h1:O.mayR x.bS (x.lim:Int) (x.o:Int) (n:Int)=true:=by
  unfold O.mayR;rw[hm,decide_eq_true (show(0:Int)<=(n:Int)by omega),decide_eq_true (show(n:Int)<=x.lim by omega)];rfl
 unfold O.sndV;rw[if_pos h1];exact O.sndI_ok (L.snl H hn).gd
end
def mY(l:List (Nat×Nat)):Nat->Bk:=fun i=>⟨(l.getD i (0,0)).1,(l.getD i (0,0)).2,0⟩
theorem zhe(l:List (Nat×Nat)):(List.range l.length).map (fun i=>l.getD i (0,0))=l:=by
 apply List.ext_getElem
 ·simp
 ·intro i h1 h2;simp[List.getD_eq_getElem?_getD,List.getElem?_eq_getElem h2]
theorem ze4(l:List (Nat×Nat))(P:Nat×Nat->Bool):((List.range l.length).filter fun i=>P (l.getD i (0,0))).length=(l.filter P).length:=by
 conv=>rhs;rw[<-zhe l,List.filter_map,List.length_map]
 rfl
section
variable {w W:World} {hb sb lw:Nat} {x:Bx} {t:Bt} {fr:Nat->List Nat} {ls:List (Nat×Nat)} {S:Sb} {s:Int} {l:List (Nat×Nat)}
theorem LL8.bi(L:LL8 x ls S l):BI x ls S (mY l) l.length:=by
 refine⟨fun i hi=>?_,fun p z h=>?_,fun i j hi hj e=>?_⟩
 ·refine(L.ex _ _).2 ?_;unfold mY;rw[List.getD_eq_getElem?_getD,List.getElem?_eq_getElem hi];exact List.getElem_mem hi
 ·obtain⟨i,hi,e⟩:=List.mem_iff_getElem.1 ((L.ex _ _).1 h);refine⟨i,hi,?_⟩;unfold mY;rw[List.getD_eq_getElem?_getD,List.getElem?_eq_getElem hi,e];exact⟨rfl,rfl⟩
 ·unfold mY at e;rw[List.getD_eq_getElem?_getD,List.getD_eq_getElem?_getD,List.getElem?_eq_getElem hi,List.getElem?_eq_getElem hj] at e;have e:(l[i]).1=(l[j]).1:=e;refine(List.getElem?_inj (by simpa using hi) L.nd).1 ?_;rw[List.getElem?_map,List.getElem?_map,List.getElem?_eq_getElem hi,List.getElem?_eq_getElem hj];simp[e]
theorem HW.pgs(H:HW w W hb sb lw x t fr ls S s){n:Nat}(hn:x.n=n*RS x.o):t.m.n=n*2 ^ x.o:=by
 obtain⟨n',h1,_,h3,_⟩:=H.rgs;rw[hn] at h3;have : 0<RS x.o:=by unfold RS;exact Nat.mul_pos (by decide) (Nat.pow_pos (by decide))
 rw[Nat.eq_of_mul_eq_mul_right this h3];exact h1
theorem LL8.taken(L:LL8 x ls S l)(H:HW w W hb sb lw x t fr ls S s){g q:Nat}{j:Nat}(hg:g=2 ^ j):O.takB (x.bS+4096*(g*q)) (4096*g) l=true↔jV ls (q*2 ^ j) j=true:=by
 obtain⟨h,o⟩:=H.so;rw[<-o.meets_iff H.lv];unfold O.takB;rw[List.any_eq_true];unfold ad O.meetB;subst hg;rw[Nat.mul_comm q];constructor
 ·rintro ⟨⟨p,z⟩,hb,hm⟩;rw[Bool.and_eq_true,decide_eq_true_eq,decide_eq_true_eq] at hm;exact⟨p,z,(L.ex _ _).2 hb,hm.2,hm.1⟩
 ·rintro ⟨p,z,h1,h2,h3⟩;refine⟨(p,z),(L.ex _ _).1 h1,?_⟩;rw[Bool.and_eq_true,decide_eq_true_eq,decide_eq_true_eq];exact⟨h3,h2⟩
theorem LL8.full(L:LL8 x ls S l)(H:HW w W hb sb lw x t fr ls S s){n:Nat}(hn:x.n=n*RS x.o){j m:Nat}(hj:j<=x.o)(hm:n*2 ^ x.o=2 ^ j*m):O.stN (O.allU x.bS l) (2 ^ j)=m↔∀ a,j<=a->a<=x.o->fr a=[]:=by
 obtain⟨h,o⟩:=H.so;have hg : 0<2 ^ j:=Nat.pow_pos (by decide);have hs:=L.snl H hn;rw[<-o.sf.full_iff hj (m:=m) (by rw[H.pgs hn,hm,Nat.mul_comm]),O.stN_iff (hs.su H.po.nums.1) hg hm,yI];constructor
 ·intro h1 i hi;exact(L.taken H rfl).1 ((O.takB_iff hs hg).2 (h1 i hi))
 ·intro h1 i hi;exact(O.takB_iff hs hg).1 ((L.taken H rfl).2 (h1 i hi))
theorem LL8.rooms(L:LL8 x ls S l)(H:HW w W hb sb lw x t fr ls S s){n:Nat}(hn:x.n=n*RS x.o){k:Nat}(hk:k<8):O.rmN (O.allU x.bS l) (aC k)=0↔S.pl k=[]:=by
 obtain⟨h,o⟩:=H.so;have hs:=L.snl H hn;have ho:=H.po.nums.1;have hz:=bU hk;have hsu:=hs.su ho;rw[hs.room ho (DM k) hz.1 (by omega),<-L.bi.pg o H.lv hk,wS,H.pgs hn];have key:∀ g,g<n*2 ^ x.o->((O.soP x.bS l g (aC k)=true/\O.smP x.bS l g<4096)↔(0<kJ (mY l) (x.bS+4096*g) (aC k) l.length*aC k/\kJ (mY l) (x.bS+4096*g) (aC k) l.length*aC k<4096)):=by
  intro g hg;have hc:kJ (mY l) (x.bS+4096*g) (aC k) l.length=(l.filter fun b=>decide (b.2=aC k/\x.bS+4096*g<=b.1/\b.1<x.bS+4096*g+4096)).length:=by
   rw[wK];exact ze4 l (fun b=>decide (b.2=aC k/\x.bS+4096*g<=b.1/\b.1<x.bS+4096*g+4096))
  have me:∀ b,b∈l->b.2=aC k->(O.meetB (x.bS+4096*g) 4096 b.1 b.2=true↔x.bS+4096*g<=b.1/\b.1<x.bS+4096*g+4096):=by
   intro b hb e;obtain⟨q1,q2,_⟩:=O.okO_of hs.bm hs.nr (hs.ok hb);rw[O.meet_page q2 q1];unfold O.npg;rw[e,show(aC k+4095)/4096=1 by omega];omega
  have so:O.soP x.bS l g (aC k)=true↔0<kJ (mY l) (x.bS+4096*g) (aC k) l.length:=by
   rw[hc,List.length_pos_iff_exists_mem];unfold O.soP;rw[List.any_eq_true];constructor
   ·rintro ⟨b,hb,e⟩;have e:b.2=aC k:=(by simpa using e);obtain⟨b1,b2⟩:=List.mem_filter.1 hb;exact⟨b,List.mem_filter.2 ⟨b1,decide_eq_true ⟨e,(me b b1 e).1 b2⟩⟩⟩
   ·rintro ⟨b,hb⟩;obtain⟨b1,b2⟩:=List.mem_filter.1 hb;have b2:=of_decide_eq_true b2;exact⟨b,List.mem_filter.2 ⟨b1,(me b b1 b2.1).2 b2.2⟩,by simp[b2.1]⟩
  have sm:O.soP x.bS l g (aC k)=true->O.smP x.bS l g=kJ (mY l) (x.bS+4096*g) (aC k) l.length*aC k:=by
   intro hx;obtain⟨b,hb,e⟩:=List.any_eq_true.1 hx;have e:b.2=aC k:=(by simpa using e);obtain⟨u,hu,e1,e2⟩:=O.onP_size hs ho hb;have all:∀ c,c∈O.onP x.bS l g->c.2=aC k:=fun c hc=>by
    obtain⟨u',hu',e1',e2'⟩:=O.onP_size hs ho hc;rw[<-e,<-e2,<-e2'];exact hsu.same hu' hu (by rw[e1',e1])
   unfold O.smP;rw[O.sum_same (aC k) _ all,Nat.mul_comm,hc];congr 2
   unfold O.onP;refine List.filter_congr fun c hc=>?_
   rw[Bool.eq_iff_iff,decide_eq_true_eq];constructor
   ·intro h1;have h2:=all c (List.mem_filter.2 ⟨hc,h1⟩);exact⟨h2,(me c hc h2).1 h1⟩
   ·rintro ⟨h2,h3⟩;exact(me c hc h2).2 h3
  constructor
  ·rintro ⟨h1,h2⟩;rw[sm h1] at h2;exact⟨Nat.mul_pos (so.1 h1) (by omega),h2⟩
  ·rintro ⟨h1,h2⟩;have h3:=so.2 (Nat.pos_of_mul_pos_right h1);rw[<-sm h3] at h2;exact⟨h3,h2⟩
 constructor
 ·intro h1 g hg e;exact h1 g hg ((key g hg).2 e)
 ·intro h1 g hg e;exact h1 g hg ((key g hg).1 e)
theorem XB{k r:Nat}(h:O.szB k r=true):(∃ j,j<8/\r=aC j)\/(∃ j,j<=k/\r=4096*2 ^ j):=by
 unfold O.szB at h;rw[Bool.and_eq_true,Bool.and_eq_true,decide_eq_true_eq,decide_eq_true_eq] at h;obtain⟨⟨h1,h2⟩,h3⟩:=h;obtain⟨j,rfl⟩:=(jZ _).1 h1;have h4 : 4<=j:=Nat.le_of_not_lt fun hj=>by
  have:=Nat.pow_le_pow_right (show 0<2 by decide) (show j<=3 by omega);have:(2:Nat) ^ 3=8:=by decide
  omega
 by_cases h5:j<12
 ·refine .inl ⟨j-4,by omega,?_⟩;rw[DO];congr 1
  omega
 ·refine .inr ⟨j-12,?_,?_⟩
  ·unfold RS at h3;rw[show(4096:Nat)=2 ^ 12 by decide,<-Nat.pow_add] at h3;have:=(Nat.pow_le_pow_iff_right (show 1<2 by decide)).1 h3;omega
  ·rw[show(4096:Nat)=2 ^ 12 by decide,<-Nat.pow_add];congr 1
   omega
theorem LL8.nof(L:LL8 x ls S l)(H:HW w W hb sb lw x t fr ls S s)(hm:mayB x.bS (x.lim:Int) (x.o:Int)=true){n:Nat}(hn:x.n=n*RS x.o)(hl:n<=x.lim){r:Nat}(hr:O.szB x.o r=true):O.nofV x.bS (x.lim:Int) (x.o:Int) (n:Int) l r=true↔NF x fr S r:=by
 have ho:=H.po.nums.1;have hs:=L.snl H hn;have h1:O.mayR x.bS (x.lim:Int) (x.o:Int) (n:Int)=true:=by
  unfold O.mayR;rw[hm,decide_eq_true (show(0:Int)<=(n:Int)by omega),decide_eq_true (show(n:Int)<=x.lim by omega)];rfl
 have h2:O.sndI x.bS x.o n l = -1:=O.sndI_ok hs.gd;unfold O.nofV;rw[h1,Int.toNat_natCast,Int.toNat_natCast,h2,hr];rw[show((-1:Int) == -1)=true from rfl,Bool.true_and,Bool.true_and,Bool.true_and];unfold O.fitU;rw[Bool.and_eq_true,beq_iff_eq,beq_iff_eq];rcases XB hr with ⟨k,hk,rfl⟩|⟨k,hk,rfl⟩
 ·have hz:=bU hk;have e1:O.lonN (aC k)=2 ^ 0:=by unfold O.lonN;rw[if_pos (by omega),Nat.pow_zero]
  rw[e1,NF.cell hk,L.rooms H hn hk,L.full H hn (Nat.zero_le _) (m:=n*2 ^ x.o/2 ^ 0) (by simp),and_comm];simp
 ·have hz : 0<2 ^ k:=Nat.pow_pos (by decide);have e1:O.lonN (4096*2 ^ k)=2 ^ k:=by unfold O.lonN;rw[if_neg (by omega),Nat.mul_div_cancel_left _ (by decide)]
  have e2:n*2 ^ x.o=2 ^ k*(n*2 ^ x.o/2 ^ k):=(Nat.mul_div_cancel' (Nat.dvd_trans (Nat.pow_dvd_pow 2 hk) (Nat.dvd_mul_left _ _))).symm;rw[e1,NF.page hk,L.full H hn hk e2];exact⟨fun h=>h.1,fun h=>⟨h,O.rm_big (by omega)⟩⟩
theorem LL8.stk(L:LL8 x ls S l)(H:HW w W hb sb lw x t fr ls S s)(hm:mayB x.bS (x.lim:Int) (x.o:Int)=true){n:Nat}(hn:x.n=n*RS x.o)(hl:n<=x.lim){r:Nat}(hr:O.szB x.o r=true)(d:Bool):O.stkV x.bS (x.lim:Int) (x.o:Int) (n:Int) l r d=true↔NF x fr S r/\(d=true\/x.n=x.lim*x.R):=by
 unfold O.stkV;rw[Bool.and_eq_true,L.nof H hm hn hl hr,Bool.or_eq_true,beq_iff_eq,H.hR,hn,and_comm];have h0 : 0<RS x.o:=by unfold RS;exact Nat.mul_pos (by decide) (Nat.pow_pos (by decide))
 have:(n:Int)=x.lim↔n*RS x.o=x.lim*RS x.o:=by
  constructor
  ·intro e;rw[show n=x.lim by omega]
  ·intro e;rw[Nat.eq_of_mul_eq_mul_right h0 e]
 rw[this]
end
theorem DK{w0 W:World}{v:Value}{n:Nat}{xs:List Value}(h:GS w0 W 27 1 v n xs)(y:Int)(hn:n<=5000):
  ∃ g cap w',(∀ t,(Builtin.append_ #[59,59] t #[v,.slice (some ⟨W.heap.size,0,none⟩) 1 1]).run prog (W.alloc (.cells #[.int .u64 y] 27))=.ok (.slice (some ⟨g,0,none⟩) (n + 1) cap) w')/\GS w0 w' 27 1 (.slice (some ⟨g,0,none⟩) (n + 1) cap) (n + 1) (xs ++ [.int .u64 y])/\w0.heap.size<=g/\g<w'.heap.size/\Kt (fun b=>v.ownBlock=some b) W w'/\(v.ownBlock=some g\/W.heap.size<=g):=by
 obtain⟨i,hi,hzz⟩:=Option.map_eq_some_iff.1 YP;simp only[Prod.mk.injEq] at hzz;have ka:=(Kt.refl nO W).alloc (.cells #[.int .u64 y] 27);obtain⟨g,cap,w',h1,h2,h5,h6,h7⟩:=(h.keep ka).pushM 59 i (.int .u64 0) 8 Tryz.underlying59 hi hzz.1 hzz.2.1 hzz.2.2 rfl (by decide) ⟨W.heap.size,0,none⟩ 1 1 (by decide) [.int .u64 y] rfl (fun j u hj=>pX (cs:=#[.int .u64 y]) j u hj) (by simp[Value.oneCell']) (by simp only[maxLen];omega) (by omega);obtain⟨cs,hc⟩:=cB h2.own (y:=g) (by simp[Value.ownBlock]);refine⟨g,cap,w',h1,h2,h5,lH hc,ka.trans h6 (fun _ _ e=>e.elim) (fun _ _ e=>e),h7.imp id (fun e=>Nat.le_trans ka.size e)⟩
theorem HW.apart8{w W W':World}{hb sb lw:Nat}{x:Bx}{t:Bt}{fr:Nat->List Nat}{ls:List (Nat×Nat)}{S:Sb}{s:Int}(H:HW w W hb sb lw x t fr ls S s){y0:Nat}{cs:Array Value}{z:Nat×Nat}(hy:W.heap[y0]?=some (.cells cs 27 z))(h1:¬bG x sb y0)(k:Kt (fun y=>y=y0) W W')(kp:Kt nO w W'):HW w W' hb sb lw x t fr ls S s:=by
 obtain⟨h,o⟩:=H.so;have hpty:∀ y,(aE x y\/y=x.b\/y=x.l\/y=lw)->y≠y0:=by
  rintro y (hy2|rfl|rfl|rfl) e
  ·exact h1 (.inl (e▸hy2))
  ·exact absurd (bM (e▸o.sw.pl.bd.bs) hy) (by decide)
  ·obtain⟨cs',hl,_⟩:=o.sw.pl.bd.lr;exact absurd (bM (e▸hl) hy) (by decide)
  ·exact absurd (bM (e▸o.sw.pl.box) hy) (by decide)
 have hsb:sb≠y0:=fun e=>h1 (.inr e.symm)
 have hhb:hb≠y0:=fun e=>absurd (bM (e▸H.bx) hy) (by decide)
 refine⟨⟨h,⟨⟨⟨(k.block _ (lH o.sw.pl.box) (hpty _ (.inr (.inr (.inr rfl))))).trans o.sw.pl.box,o.sw.pl.bd.kept k (fun y hy2=>hpty y ?_),o.sw.pl.nw,kp⟩,(k.block _ (lH o.sw.bx) hsb).trans o.sw.bx,o.sw.nw,o.sw.tb⟩,o.sf,o.st,o.bm,o.si,o.hd⟩⟩,H.lv,(k.block _ (lH H.bx) hhb).trans H.bx,H.nw,H.br⟩;rcases hy2 with hy2|hy2|hy2
 ·exact .inl hy2
 ·exact .inr (.inl hy2)
 ·exact .inr (.inr (.inl hy2))
section
variable {w1 W W':World} {hb bS lim o R:Nat} {lr:List Nat} {v:Value}
end
end Go.Proofs.YtbgbfpklgfpepaaGreatDoor
