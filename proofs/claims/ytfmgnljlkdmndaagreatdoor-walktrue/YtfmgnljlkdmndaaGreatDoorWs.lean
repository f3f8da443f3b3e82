import Derived.Test.YtfmgnljlkdmndaaGreatDoorXo
import Derived.Test.YtfmgnljlkdmndaaGreatDoorWj
import Derived.Test.YtfmgnljlkdmndaaGreatDoorWo
set_option maxRecDepth 1000000
set_option maxHeartbeats 80000000
namespace Go.Proofs.YtfmgnljlkdmndaaGreatDoor
open Tryz
open Go.ChangeShapes Go.WideShapes Go.ChangeAt Go.RowKit Go.Deep
set_option linter.unusedVariables false
theorem tF{w a:World}(h:iT w)(k:Kt nO w a):iT a:=fun i hi=>k.cell (fun x=>x) (h i hi)
theorem AF(w:World)(f:iT w):Calls prog 5 #[] w fun e b=>e=.returned (.bool true)/\Kt nO w b:=by
 refine W.awake_of (fun _ _ h k=>tF h k) (fun V a=>?_) (fun V U s a c=>?_) w f
 ·refine(EG 65536 (by decide) 2 1 (by decide) (by decide) (by decide) (by decide) V a).mono ?_;rintro e b ⟨hb,g,i,x,rfl,H,-⟩;exact⟨hb,rfl,H.po.pl.kp⟩
 ·refine(OY c.d (by rw[W.chk_vo]) a).mono ?_;rintro e b ⟨hb,g,i,x,t,fr,ls,S,rfl,H,-⟩;exact⟨hb,rfl,H.po.pl.kp⟩
structure OpIn9(w:World)(bl o k:Nat)(c:Op9)(g:Nat->Nat):Prop where
 hw : -9223372036854775808<=c.w/\c.w<=9223372036854775807
 ha:c.a<18446744073709551616
 hb:c.b<18446744073709551616
 hs:c.sn<=c.sc
 hc:c.sc<=9223372036854775807
 by':M.Bytes w (.slice c.sa c.sn c.sc) c.sn g
 c0:w.cell? ⟨bl,o+k*6,none⟩=some (.int .i64 c.k)
 c1:w.cell? ⟨bl,o+k*6+1,none⟩=some (.int .i64 c.w)
 c2:w.cell? ⟨bl,o+k*6+2,none⟩=some (.int .u64 c.a)
 c3:w.cell? ⟨bl,o+k*6+3,none⟩=some (.int .u64 c.b)
 c4:w.cell? ⟨bl,o+k*6+4,none⟩=some (.bool c.d)
 c5:w.cell? ⟨bl,o+k*6+5,none⟩=some (.slice c.sa c.sn c.sc)
def oF(w:World)(v:Value)(m:Nat):Prop:=
 m<=9223372036854775807/\∃ oa oc,v=.slice oa m oc/\(m=0\/∃ bl o,oa=some ⟨bl,o,none⟩/\bl<w.heap.size/\∀ k,k<m->∃ c g,OpIn9 w bl o k c g)
theorem OpIn9.keep{w W:World}{a o k:Nat}{c:Op9}{g:Nat->Nat}(h:OpIn9 w a o k c g)(kp:Kt nO w W):OpIn9 W a o k c g:=
 ⟨h.hw,h.ha,h.hb,h.hs,h.hc,h.by'.keep (fL kp),kp.cell id h.c0,kp.cell id h.c1,kp.cell id h.c2,kp.cell id h.c3,kp.cell id h.c4,kp.cell id h.c5⟩
theorem zj7:prog.cellsOf 36=6:=by kernel_rfl
theorem zii:prog.cellsOf 22=1:=by kernel_rfl
theorem zij:prog.cellsOf 3=1:=by kernel_rfl
theorem zgJ:prog.cellsOf 4=1:=by kernel_rfl
theorem KU:prog.cellsOf 34=1:=by kernel_rfl
theorem GM{w:World}{a:Addr}{v:Value}(h:w.cell? a=some v):∃ b o,a=⟨b,o,none⟩/\b<w.heap.size:=by
 obtain⟨b,o,s⟩:=a;unfold World.cell? at h;split at h
 ·rename_i c;have hb:=(Array.getElem?_eq_some_iff.1 c).1
  cases s with
  | none=>exact⟨b,o,rfl,hb⟩
  | some s=>simp at h
 ·cases h
theorem AB{x:Int}(h:(Lit.int .u64 x).wf=true) : 0<=x/\x<18446744073709551616:=by simp[Lit.wf,show IntKind.u64.min=0 from rfl,show IntKind.u64.max=18446744073709551615 from rfl] at h;omega
theorem QN{x:Int}(h:(Lit.int .u8 x).wf=true) : 0<=x/\x<256:=by simp[Lit.wf,show IntKind.u8.min=0 from rfl,show IntKind.u8.max=255 from rfl] at h;omega
theorem ZW{w:World}{x:Addr}{l c:Nat}{zs:List Int}(hl:l<=c)(hz:zs.length=c)(a:∀ i,i<zs.length->w.cell? (x.add i)=some (.int .u8 (zs.getD i 0)))(h:∀ n∈zs,(Lit.int .u8 n).wf=true):∃ g,M.Bytes w (.slice (some x) l c) l g:=by
 have hb:∀ i,i<zs.length->0<=zs.getD i 0/\zs.getD i 0<256:=fun i hi=>by rw[ai,bo hi];exact QN (h _ (List.getElem_mem hi))
 refine⟨fun i=>(zs.getD i 0).toNat,fun i hi=>?_,some x,c,rfl,?_⟩
 ·have:=hb i (by omega);show(zs.getD i 0).toNat<256
  omega
 ·rcases Nat.eq_zero_or_pos l with h0|h0
  ·exact .inl h0
  ·have c0:=a 0 (by omega);obtain⟨b,o,e,f⟩:=GM c0;have d:x.block=b:=by
    have:=congrArg Addr.block e;rw[M.addr_add_block] at this;exact this
   refine .inr ⟨x,rfl,by rw[d];exact f,fun j k=>?_⟩;have:=hb j (by omega);rw[a j (by omega),Int.toNat_of_nonneg this.1]
theorem TW{x:Int}(h:(Lit.int .i64 x).wf=true) : -9223372036854775808<=x/\x<=9223372036854775807:=by simp[Lit.wf,show IntKind.i64.min = -9223372036854775808 from rfl,show IntKind.i64.max=9223372036854775807 from rfl] at h;omega
theorem WQ{H:Type}{enc:TypeId×Value->H}{W:World}{a:Option Addr}{len cap:Nat}{d:DataW H}{p:List MemPlace}
  {fuel:Nat} (hf:DataW.trod enc prog W 0 (fun _=>true) true fuel 25 [.slice a len cap]=some (d,p)):oF W (.slice a len cap) len:=by
 rcases open_slice Tryz.underlying25 hf with ⟨f,_⟩|⟨x,l,c,m,n,D,Pl,f,_,hl,Q,y,_,hx⟩
 ·simp at f;obtain⟨rfl,rfl,rfl⟩:=f;exact⟨by omega,none,0,rfl,Or.inl rfl⟩
 ·simp at f;obtain⟨rfl,rfl,rfl⟩:=f;simp only[if_true] at y;subst y;have a0:m<=9223372036854775807:=by unfold maxLen at Q;omega
  refine⟨by omega,some x,m,rfl,?_⟩;by_cases h0:len=0
  ·exact Or.inl h0
  ·right
   rw[zj7] at hx;have v:∀ k,k<len->∃ (C s:Int) (A B:Nat) (K:Bool) (ao:Option Addr) (j q:Nat) (g:Nat->Nat),(-9223372036854775808<=s/\s<=9223372036854775807)/\A<18446744073709551616/\B<18446744073709551616/\j<=q/\q<=9223372036854775807/\M.Bytes W (.slice ao j q) j g/\
     W.cell? ((x.add (k*6)).add 0)=some (.int .i64 C)/\W.cell? ((x.add (k*6)).add 1)=some (.int .i64 s)/\W.cell? ((x.add (k*6)).add 2)=some (.int .u64 A)/\W.cell? ((x.add (k*6)).add 3)=some (.int .u64 B)/\W.cell? ((x.add (k*6)).add 4)=some (.bool K)/\W.cell? ((x.add (k*6)).add 5)=some (.slice ao j q):=by
    intro k Z;obtain⟨cs,X,T⟩:=hx k (by omega);obtain⟨_,u,e⟩:=World.cells?_some X;obtain⟨xs,nn,_,_,_,R,h⟩:=DataW.trod_struct Tryz.underlying36 T;match cs,u,xs,R with
    | [c0,c1,c2,c3,c4,c5],_,[y0,y1,y2,y3,y4,y5],_=>
     have r:=h 0 _ rfl;have I:=h 1 _ rfl;have E:=h 2 _ rfl;have G:=h 3 _ rfl;have L:=h 4 _ rfl;have F:=h 5 _ rfl;obtain⟨x0,J,_,_⟩:=DataW.trod_int Tryz.underlying3 r;obtain⟨x1,e1,_,w1⟩:=DataW.trod_int Tryz.underlying3 I;obtain⟨x2,e2,_,w2⟩:=DataW.trod_int Tryz.underlying22 E;obtain⟨x3,e3,_,w3⟩:=DataW.trod_int Tryz.underlying22 G;obtain⟨x4,e4,_⟩:=DataW.trod_bool Tryz.underlying4 L;simp[zii,zij,zgJ] at J e1 e2 e3 e4;subst J e1 e2 e3 e4;have b1:=TW w1;have b2:=AB w2;have b3:=AB w3;obtain⟨A,rfl⟩:=au b2.1;obtain⟨B,rfl⟩:=au b3.1;have z:∃ N j q t,c5=.slice N j q/\j<=q/\q<=maxLen/\M.Bytes W (.slice N j q) j t:=by
      rcases open_ints Tryz.underlying34 Tryz.underlying5 (by kernel_rfl) F with ⟨f,_⟩|⟨x,l,c,zs,f,_,hl,Q,hz,_,e,P⟩
      ·simp[KU] at f;exact⟨none,0,0,fun _=>0,f,aj _,az _,fun i hi=>by omega,none,0,rfl,.inl rfl⟩
      ·simp[KU] at f;obtain⟨t,Y⟩:=ZW (w:=W) (x:=x) (l:=l) (c:=c) (zs:=zs) hl (by simpa using hz) e P;exact⟨some x,l,c,t,f,hl,Q,Y⟩
     obtain⟨N,j,q,t,rfl,U,V,S⟩:=z;unfold maxLen at V;exact⟨x0,x1,A,B,x4,N,j,q,t,b1,by omega,by omega,U,by omega,S,e 0 (by simp),e 1 (by simp),e 2 (by simp),e 3 (by simp),e 4 (by simp),e 5 (by simp)⟩
   obtain⟨C,s,A,B,K,ao,j,q,g,_,_,_,_,_,_,r,_⟩:=v 0 (by omega);have J:(x.add (0*6)).add 0=x:=(by simp[Addr.add]);rw[J] at r;obtain⟨b,o,rfl,hb⟩:=GM r;refine⟨b,o,rfl,hb,fun k Z=>?_⟩;obtain⟨C,s,A,B,K,ao,j,q,g,X,T,Y,h4,h5,h6,r,I,E,G,L,F⟩:=v k Z;rw[Addr.add_lit,Addr.add_lit] at r I E G L F;exact⟨⟨C,s,A,B,K,ao,j,q⟩,g,⟨X,T,Y,h4,h5,h6,by simpa using r,I,E,G,L,F⟩⟩
open Go.RowKit
def rU(w:World)(e:Ending)(w':World):Prop:=e=.returned (.bool true)/\Kt nO w w'
theorem zkq(b:Nat)(a:b<18446744073709551616)(lim ord:Int)(c : -9223372036854775808<=lim)(f:lim<=9223372036854775807)(g : -9223372036854775808<=ord)(d:ord<=9223372036854775807)(u:Value)(w:World)(s:iT w)(h:M.mayB b lim ord=false):
  Calls prog 3 #[dM b lim ord,u] w (rU w):=by
 have n:=aA ((Kt.refl nO w).alloc (bJ b lim ord));have p:=aA (nH w (bJ b lim ord));have G:=aA s;have q:=aA (AF _ (tF s n.o));have A:=aA (fun W=>zkA b a lim ord c f g d h W);have m:=aA (fun W=>M.May_any b a lim ord c f g d W);rw[h] at m;clear h;go_enter func3,ntmps3;go_wp2_with fail;refine q.o.mono ?_;rintro e C ⟨rfl,j⟩;have B:=aA (nT n.o j);have i:=aA ((j.block _ (lH p.o) (fun x=>x)).trans p.o);obtain⟨t,l,o⟩:=dI i.o;clear j q;generalize w.heap.size=D at *;go_wp2_with fail;refine(A.o _).mono ?_;rintro e F ⟨rfl,k⟩;have y:=aA (nT B.o k);have z:=aA ((k.block _ (lH i.o) (fun x=>x)).trans i.o);clear t l o k;obtain⟨t,l,o⟩:=dI z.o;go_wp2_with fail;refine(m.o _).mono ?_;rintro e E ⟨rfl,r⟩;have v:=aA (nT y.o (dF r));clear r;go_wp2_with fail;go_ret;exact⟨rfl,v.o⟩
theorem WS(b L k:Nat)(r:b<18446744073709551616)(hL:L<=64)(hk:k<=8)(u:M.mayB b (L:Int) (k:Int)=true)(b4:b%(4096*2 ^ k)=0)(sa:Option Addr)(sc m:Nat)(b5:m<=9223372036854775807)(w:World)(hT:iT w)(ho:m=0\/∃ bl o,sa=some ⟨bl,o,none⟩/\bl<w.heap.size/\∀ k,k<m->∃ c g,OpIn9 w bl o k c g):
  Calls prog 3 #[dM b (L:Int) (k:Int),.slice sa m sc] w (rU w):=by
 have K0:=aA ((Kt.refl nO w).alloc (bJ b (L:Int) (k:Int)));have X0:=aA (nH w (bJ b (L:Int) (k:Int)));have HT:=aA hT;have HO:=aA ho;have A:=aA u;have AW:=aA (AF _ (tF hT K0.o));have NW:=aA (fun W hW=>EG b r L k hL hk u b4 W hW);have MY:=aA (fun W=>M.May_any b r (L:Int) (k:Int) (by omega) (by omega) (by omega) (by omega) W);rw[u] at MY;clear u ho;go_enter func3,ntmps3;go_wp2_with fail;refine AW.o.mono ?_;rintro e w1 ⟨rfl,k1⟩;have K1:=aA (nT K0.o k1);have Z:=aA ((k1.block _ (lH X0.o) (fun x=>x)).trans X0.o);obtain⟨x0,x1,x2⟩:=dI Z.o;clear k1 AW;generalize w.heap.size=cb at *;go_wp2_with fail;refine(NW.o _ (tF HT.o K1.o)).mono ?_;rintro e w2 ⟨hb,sb,lw,x,rfl,H,n,v,q,e4,e5⟩;have h9:=aA (show H9 w1 w2 hb b L k from H.h9 ⟨n,q,e5⟩);have b2:=aA (show w1.heap.size<=hb from H.nw);clear x0 x1 x2 H n v q e4 e5 NW;have X2:=aA ((h9.o.kp.block _ (lH Z.o) (fun x=>x)).trans Z.o);obtain⟨x0,x1,x2⟩:=dI X2.o;go_wp2_with fail;refine(MY.o _).mono ?_;rintro e w3 ⟨rfl,k3⟩;have b1:=aA (h9.o.keep (dF k3));clear k3 h9 X2 x0 x1 x2 MY;go_wp2_with fail;go_loopw [7] (fun i W=>∃ a:Nat,a<=m/\i=.int .i64 a/\Hd (H9 w1 W hb b L k)) (fun i _=>m-(intOf i).toNat)
 case atStart=>exact⟨0,az _,rfl,b1⟩
 case round=>
  obtain⟨a,ha,rfl,hR⟩:=hrel;by_cases a9:a<m
  ·have b3:(a:Int)<m:=(by omega);obtain⟨bl,o,rfl,T,N⟩:=HO.o.resolve_left (by omega);obtain⟨c,g,l⟩:=N a a9;have hc:=l.keep (nT K1.o hR.o.kp);have HC:=aA hc;have d1:=aA T;have b6:=aA l;obtain⟨c0,c1,c2,c3,c4,c5⟩:_/\_/\_/\_/\_/\_:=⟨hc.c0,hc.c1,hc.c2,hc.c3,hc.c4,hc.c5⟩;have AC:=aA (show Calls prog 8 #[.pointer (some ⟨hb,0,none⟩),oA c] wr (zK (fun W=>H9 w1 W hb b L k))from by
    by_cases a4:c.k=1\/c.k=2\/c.k=5\/c.k=7
    ·exact QJ (H9.ht A.o) c hR.o hc.ha hc.hb a4
    ·refine TN (H9.ht A.o) c hR.o a4 hc.hw.1 hc.hw.2 hc.ha g hc.by' hc.hs hc.hc (fun h0 y hy=>?_)
     obtain⟨-,ao,cap,q1,q2⟩:=l.by'
     cases q1
     rcases q2 with q2|⟨a',q3,q4,-⟩
     ·omega
     ·rw[q3] at hy;have hy:a'.block=y:=(by simpa [Value.ownBlock] using hy);have:=K1.o.size;have:=b2.o;omega)
   clear hc l N T;obtain⟨ck,cw,ca,b9,cd,b8,c9,d0⟩:=c;dsimp only at c0 c1 c2 c3 c4 c5;go_wp2_with fail;refine AC.o.mono ?_;rintro e G ⟨⟨p,er,rfl⟩,h4⟩;have H4:=aA h4;clear h4 c0 c1 c2 c3 c4 c5 AC;go_wp2_with fail;exact⟨⟨a+1,by omega,by simp,H4⟩,by simp[intOf];omega⟩
  ·obtain rfl:a=m:=(by omega);have b3:¬(a:Int)<a:=(by omega);obtain⟨sb,lw,x,t,fr,ls,S,H,n,v,q⟩:=hR.o;have may:M.mayB x.bS (x.lim:Int) (x.o:Int)=true:=(by rw[n,v,q];exact A.o);have IM:=aA (WU H may);have EX:=aA (And.intro n (And.intro v q));have HH:=aA H;have E:=aA may;clear H n v q may;go_wp2_with fail;refine IM.o.mono ?_;rintro e G ⟨V,rfl,hD,k4⟩;obtain⟨B,st⟩:=HH.o.st0 E.o;have D:=st.sound;have s:=st.blks;obtain⟨I,hI⟩:=xe (bO x t S x.lim);have EI:=aA (show I.bS=b/\I.lim=(L:Int)/\I.ord=(k:Int)from by
    obtain⟨n,v,q⟩:=EX.o;rw[hI];exact⟨n,by rw[<-v];rfl,by rw[<-q];rfl⟩)
   rw[<-hI] at D s hD ⊢;have CK:=aA D;have BK:=aA s;have HD:=aA hD;have H4:=aA (HH.o.keep k4);have LV:=aA (HH.o.lv9 E.o).1;have z:=aA (nT hR.o.kp k4);have KW:=aA (nT K1.o z.o);obtain⟨⟨ma,mc,u⟩,⟨pa,pc,hp⟩,⟨ra,rc,hr⟩,⟨b0,hc,hh⟩,⟨ta,tc,ht⟩,-⟩:=hD.sl;clear hI D s hD k4 st IM hR HH E EX;obtain⟨vm,vp,vr,vh,vt⟩:=V;dsimp only at u hp hr hh ht;subst u hp hr hh ht;go_upto_region 13 with fail;refine W.gen_world (P:=fun W=>Code.wp prog _ _ _ W) _ ?_;intro W5 C;have IA:W.ImAt W5 G.heap.size I ⟨.slice ma I.nm mc,.slice pa I.np pc,.slice ra I.no rc,.slice b0 I.hd.length hc,.slice ta I.pt.length tc⟩:=by subst C;exact⟨nH _ _,HD.o.keep ((Kt.refl _ G).alloc _)⟩
   have K:Kt nO G W5:=by subst C;exact(Kt.refl nO G).alloc _
   have a7:=aA K;have a2:=aA IA;have H5:=aA (H4.o.keep K);have X5:=aA (((nT z.o K).block _ (lH Z.o) (fun x=>x)).trans Z.o);have KZ:=aA (nT KW.o K);obtain⟨c0,c1,c2,c3,c4,c5,F,c7,J⟩:=IA.cells;have CH:=aA (W.Check9 I _ W5 IA.d);rw[CK.o] at CH;clear C IA K H4 HD z KW;generalize G.heap.size=ib at *;go_wp2_with fail;refine CH.o.mono ?_;rintro e w6 ⟨rfl,k6⟩;have j:=aA (a2.o.keep k6);have U:=aA (nT KZ.o k6);have H6:=aA (H5.o.keep k6);have X6:=aA ((k6.block _ (lH X5.o) (fun x=>x)).trans X5.o);have IS:=aA (W.is_any I _ 0 0 w6 j.o.d true (by rw[CK.o];rfl));clear c0 c1 c2 c3 c4 c5 F c7 J k6 CH a2 KZ H5 X5 a7;obtain⟨c0,c1,c2,c3,c4,c5,F,c7,J⟩:=j.o.cells;go_wp2_with fail;refine IS.o.mono ?_;rintro e w7 ⟨rfl,Q⟩;have f:=aA (j.o.keep Q);have X:=aA (nT U.o Q);have H7:=aA (H6.o.keep Q);have X7:=aA ((Q.block _ (lH X6.o) (fun x=>x)).trans X6.o);have BL:=aA (W.Blocks_any I _ w7 f.o.d);clear c0 c1 c2 c3 c4 c5 F c7 J Q IS j U H6 X6;obtain⟨c0,c1,c2,c3,c4,c5,F,c7,J⟩:=f.o.cells;go_wp2_with fail;refine BL.o.mono ?_;rintro e w8 ⟨v8,rfl,hB⟩;have k8:=hB.kp;have Y:=aA (f.o.keep k8);have a6:=aA (nT X.o k8);have H8:=aA (H7.o.keep k8);have X8:=aA ((k8.block _ (lH X7.o) (fun x=>x)).trans X7.o);have a5:=aA (show mH w8 v8 (W.blks I)from W.GB.rb hB);have LH:=aA (BN H8.o);clear c0 c1 c2 c3 c4 c5 F c7 J k8 hB BL f X H7 X7;go_wp2_with fail;refine LH.o.mono ?_;rintro e w9 ⟨v9,rfl,hG⟩;have k9:=hG.kp;have a0:=aA (Y.o.keep k9);have R:=aA (nT a6.o k9);have X9:=aA ((k9.block _ (lH X8.o) (fun x=>x)).trans X8.o);have SM:=aA (W.Same9_yes v8 v9 (W.blks I) w9 (by rw[BK.o];exact LV.o) (a5.o.keep k9) (by rw[BK.o];exact MG hG));clear k9 hG LH Y a6 H8 X8 a5;go_wp2_with fail;refine SM.o.mono ?_;rintro e b7 ⟨rfl,h⟩;have a3:=aA (a0.o.keep h);have a1:=aA (nT R.o h);have a8:=aA ((h.block _ (lH X9.o) (fun x=>x)).trans X9.o);clear h SM a0 R X9;obtain⟨c0,c1,c2,c3,c4,c5,F,c7,J⟩:=a3.o.cells;obtain⟨x0,x1,x2⟩:=dI a8.o;obtain⟨q1,q2,q3⟩:=EI.o;rw[q1] at c0;rw[q2] at c1;rw[q3] at c2;clear q1 q2 q3;go_wp2_with fail;go_ret;exact⟨rfl,a1.o⟩
theorem zfs(b:Nat)(a:b<18446744073709551616)(lim ord:Int)(c : -9223372036854775808<=lim)(h:lim<=9223372036854775807)(i : -9223372036854775808<=ord)(g:ord<=9223372036854775807)(d:Value)(m:Nat)(w:World)(j:iT w)(f:oF w d m):
  Calls prog 3 #[dM b lim ord,d] w fun e p=>e=.returned (.bool true)/\Kt nO w p:=by
 cases hm:M.mayB b lim ord with
 | false=>exact zkq b a lim ord c h i g d w j hm
 | true=>
  obtain⟨k,o,rfl,rfl,q,r,u,t,n,s⟩:=W.may_facts hm;obtain⟨l,sa,sc,rfl,f⟩:=f;exact WS b o k a r q hm n sa sc m l w j f
end Go.Proofs.YtfmgnljlkdmndaaGreatDoor
