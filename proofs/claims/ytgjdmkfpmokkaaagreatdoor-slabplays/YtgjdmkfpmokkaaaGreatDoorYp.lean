import Derived.Test.YtgjdmkfpmokkaaaGreatDoorYl
import Derived.Test.YtgjdmkfpmokkaaaGreatDoorYn
import Derived.Test.YtgjdmkfpmokkaaaGreatDoorYo
import Derived.ProofKit
import Derived.OpenShut
import Derived.Deep.Slices
import Derived.Deep.Strs
set_option maxRecDepth 1000000
set_option maxHeartbeats 80000000
namespace Go.Proofs.YtgjdmkfpmokkaaaGreatDoor
open Go.RowKit
set_option linter.unusedVariables false
theorem FI7.st{w W wb lw sb x t fr ls S al c fa fc va vc ca cc pa pc W1}(h:FI7 w W wb lw sb x t fr ls S al c fa fc va vc ca cc pa pc W1):St7 w W wb lw (c+1) x sb W1:=by
 obtain⟨f',h1,h2⟩:=h;exact⟨sb,x,_,fr,ls,S,al,fa,fc,va,vc,ca,cc,pa,pc,h1.up (Nat.le_succ _),h2.mono (fun _ _ e=>.inl e),fun y e=>.inl e⟩
theorem znd(N:Int):∃ v:Nat,v<256∧IntKind.u8.wrap N=(v:Int)∧N%256=(v:Int):=by
 have h1:IntKind.u8.wrap N=N%256:=rfl;have h2:=Int.emod_nonneg N (show(256:Int)≠0 by decide);have h3:=Int.emod_lt_of_pos N (show(0:Int)<256 by decide);exact⟨(N%256).toNat,by omega,by rw[h1];omega,by omega⟩
theorem zhT{w W wb lw sb x t fr ls S al c fa fc va vc ca cc pa pc}(L:L7 w W wb lw sb x t fr ls S al c fa fc va vc ca cc pa pc)(hls:ls.length≤900)(N rf:Int)(dn:Bool)(P p:Int):
  Calls Tryz.prog 21 #[.pointer (some ⟨wb,0,none⟩),stV 8 N rf dn P,.int .u64 p] W fun e w'=>e=.returned (.bool true)∧St7 w W wb lw (c+1) x sb w':=by
 have ka:=(Kt.refl nO W).alloc (stO 8 N rf dn P);have K0:=hid ka;have Y0:=hid (nH W (stO 8 N rf dn P));obtain⟨v,hv,hw1,hw2⟩:=znd N;have FI:=hid (znz (L.keep ka) hls v hv);clear L ka;go_enter Tryz.func21,Tryz.ntmps21;go_upto_region 1 with fail;generalize W.alloc (stO 8 N rf dn P)=W0 at *;obtain⟨y0,y1,y2,y3,y4⟩:=stc Y0.out;go_wp2_with fail;refine FI.out.mono ?_;rintro e w1 ⟨rfl,h1⟩;have D:=hid (St7.from K0.out h1.st);clear h1;go_wp2_with fail;go_ret;exact⟨rfl,D.out⟩
theorem zhU{w W wb lw sb x t fr ls S al c fa fc va vc ca cc pa pc}(L:L7 w W wb lw sb x t fr ls S al c fa fc va vc ca cc pa pc)(hls:ls.length≤900)(N rf:Int)(dn:Bool)(P p:Int):
  Calls Tryz.prog 21 #[.pointer (some ⟨wb,0,none⟩),stV 9 N rf dn P,.int .u64 p] W fun e w'=>e=.returned (.bool true)∧St7 w W wb lw (c+1) x sb w':=by
 have ka:=(Kt.refl nO W).alloc (stO 9 N rf dn P);have K0:=hid ka;have Y0:=hid (nH W (stO 9 N rf dn P));have LK:=hid (zkY (L.keep ka) hls);have HST:=hid (fun W' (kk:Kt nO W W')=>L.st kk);clear L ka;go_enter Tryz.func21,Tryz.ntmps21;go_upto_region 1 with fail;generalize W.alloc (stO 9 N rf dn P)=W0 at *;obtain⟨y0,y1,y2,y3,y4⟩:=stc Y0.out;go_wp2_with fail;refine LK.out.mono ?_;rintro e w1 ⟨rfl,h1⟩;have D:=hid (HST.out _ (nT K0.out h1));clear h1;go_wp2_with fail;go_ret;exact⟨rfl,D.out⟩
theorem zjK{w W wb lw sb x t fr ls S al c fa fc va vc ca cc pa pc}(L:L7 w W wb lw sb x t fr ls S al c fa fc va vc ca cc pa pc)(hc:c≤800)(op N rf:Int)(dn:Bool)(P:Int)(p:Nat)(hp:p<18446744073709551616):
  Calls Tryz.prog 21 #[.pointer (some ⟨wb,0,none⟩),stV op N rf dn P,.int .u64 (p:Int)] W fun e w'=>e=.returned (.bool true)∧St7 w W wb lw (c+1) x sb w':=by
 have hlc:=L.lc;by_cases h1:op=1
 ·subst h1;exact zib L hc N rf dn P p hp
 by_cases h2:op=2
 ·subst h2;exact zhu L N rf dn P p hp
 by_cases h4:op=4
 ·subst h4;exact ziu L hc N rf dn P p hp
 by_cases h5:op=5
 ·subst h5;exact zic L hc N rf dn P p hp
 by_cases h6:op=6
 ·subst h6;exact ze7 L N rf dn P p
 by_cases h7:op=7
 ·subst h7;exact zhn L N rf dn P _
 by_cases h8:op=8
 ·subst h8;exact zhT L (by omega) N rf dn P _
 by_cases h9:op=9
 ·subst h9;exact zhU L (by omega) N rf dn P _
 exact zhv L op N rf ⟨h1,h2,h4,h5,h6,h7,h8,h9⟩ dn P _
end Go.Proofs.YtgjdmkfpmokkaaaGreatDoor
namespace Go.Proofs.YtgjdmkfpmokkaaaGreatDoor
open Go.ChangeShapes Go.WideShapes Go.ChangeAt Go.RowKit Go.Deep
set_option linter.unusedVariables false
def N64s(z:Int):Prop := -9223372036854775808≤z∧z≤9223372036854775807
def zgp(w:World)(bl o j:Nat):Prop:=∃ (a b c:Int) (f:Bool) (p:Nat),N64s a∧N64s b∧N64s c∧p<18446744073709551616∧w.cell? ⟨bl,o+j*5,none⟩=some (.int .i64 a)∧w.cell? ⟨bl,o+j*5+1,none⟩=some (.int .i64 b)∧w.cell? ⟨bl,o+j*5+2,none⟩=some (.int .i64 c)∧w.cell? ⟨bl,o+j*5+3,none⟩=some (.bool f)∧w.cell? ⟨bl,o+j*5+4,none⟩=some (.int .u64 (p:Int))
def zel(w:World)(v:Value)(n:Nat):Prop:=
 n≤9223372036854775807∧∃ oa oc,v=.slice oa n oc∧(n=0∨∃ bl o,oa=some ⟨bl,o,none⟩∧bl<w.heap.size∧∀ j,j<n→zgp w bl o j)
theorem ziG:Tryz.prog.cellsOf 63=5:=by kernel_rfl
theorem zfv:Tryz.prog.cellsOf 3=1:=by kernel_rfl
theorem zeX:Tryz.prog.cellsOf 4=1:=by kernel_rfl
theorem zfw:Tryz.prog.cellsOf 24=1:=by kernel_rfl
theorem zgp.keep{w W:World}{bl o j:Nat}(h:zgp w bl o j)(k:Kt nO w W):zgp W bl o j:=by
 obtain⟨a,b,c,f,p,h1,h2,h3,h4,g0,g1,g2,g3,g4⟩:=h;exact⟨a,b,c,f,p,h1,h2,h3,h4,k.cell (fun e=>e) g0,k.cell (fun e=>e) g1,k.cell (fun e=>e) g2,k.cell (fun e=>e) g3,k.cell (fun e=>e) g4⟩
theorem zki{w:World}{a:Addr}{v:Value}(h:w.cell? a=some v):∃ b o,a=⟨b,o,none⟩∧b<w.heap.size:=by
 obtain⟨b,o,s⟩:=a;unfold World.cell? at h;split at h
 ·rename_i hh;have hb:=(Array.getElem?_eq_some_iff.1 hh).1
  cases s with
  | none=>exact⟨b,o,rfl,hb⟩
  | some s=>simp at h
 ·cases h
theorem zkj{H:Type}{enc:TypeId×Value→H}{W:World}{a:Option Addr}{len cap:Nat}{d:DataW H}{p:List MemPlace}
  (h:DataW.Trod enc Tryz.prog W 0 (fun _=>true) true 60 (.slice a len cap) d p):zel W (.slice a len cap) len:=by
 obtain⟨fuel,hf⟩:=h;rcases open_slice Tryz.underlying60 hf with ⟨hcs,_⟩|⟨x,l,c,m,n,D,Pl,hcs,_,hl,hm,hmm,_,hx⟩
 ·simp[Value.cells] at hcs;obtain⟨rfl,rfl,rfl⟩:=hcs;exact⟨by omega,none,0,rfl,Or.inl rfl⟩
 ·simp[Value.cells] at hcs;obtain⟨rfl,rfl,rfl⟩:=hcs;simp only[if_true] at hmm;subst hmm;have hml:m≤9223372036854775807:=by unfold maxLen at hm;omega
  refine⟨by omega,some x,m,rfl,?_⟩;by_cases h0:len=0
  ·exact Or.inl h0
  ·right
   rw[ziG] at hx;have key:∀ k,k<len→∃ (a b c:Int) (f:Bool) (p:Nat),N64s a∧N64s b∧N64s c∧p<18446744073709551616∧W.cell? ((x.add (k*5)).add 0)=some (.int .i64 a)∧W.cell? ((x.add (k*5)).add 1)=some (.int .i64 b)∧W.cell? ((x.add (k*5)).add 2)=some (.int .i64 c)∧W.cell? ((x.add (k*5)).add 3)=some (.bool f)∧W.cell? ((x.add (k*5)).add 4)=some (.int .u64 (p:Int)):=by
    intro k hk;obtain⟨cs,h1,h2⟩:=hx k (by omega);obtain⟨_,hlen,hcell⟩:=World.cells?_some h1;obtain⟨xs,nn,_,_,_,hxl,hfld⟩:=DataW.trod_struct Tryz.underlying63 h2;match cs,hlen,xs,hxl with
    | [c0,c1,c2,c3,c4],_,[y0,y1,y2,y3,y4],_=>
     have g0:=hfld 0 _ rfl;have g1:=hfld 1 _ rfl;have g2:=hfld 2 _ rfl;have g3:=hfld 3 _ rfl;have g4:=hfld 4 _ rfl;obtain⟨x0,e0,_,w0⟩:=DataW.trod_int Tryz.underlying3 g0;obtain⟨x1,e1,_,w1⟩:=DataW.trod_int Tryz.underlying3 g1;obtain⟨x2,e2,_,w2⟩:=DataW.trod_int Tryz.underlying3 g2;obtain⟨x3,e3,_⟩:=DataW.trod_bool Tryz.underlying4 g3;obtain⟨x4,e4,_,w4⟩:=DataW.trod_int Tryz.underlying24 g4;simp[zfv] at e0 e1 e2;simp[zeX] at e3;simp[zfw] at e4;subst e0 e1 e2 e3 e4;have b4:=bounds_u64 w4;obtain⟨p,rfl⟩:=Int.eq_ofNat_of_zero_le b4.1;exact⟨x0,x1,x2,x3,p,bounds_i64 w0,bounds_i64 w1,bounds_i64 w2,by omega,hcell 0 (by simp),hcell 1 (by simp),hcell 2 (by simp),hcell 3 (by simp),hcell 4 (by simp)⟩
   obtain⟨a,b,c,f,p,_,_,_,_,g0,_⟩:=key 0 (by omega);have e0:(x.add (0*5)).add 0=x:=(by simp[Addr.add]);rw[e0] at g0;obtain⟨bb,o,rfl,hb⟩:=zki g0;refine⟨bb,o,rfl,hb,fun k hk=>?_⟩;obtain⟨a,b,c,f,p,h1,h2,h3,h4,g0,g1,g2,g3,g4⟩:=key k hk;rw[Addr.add_lit,Addr.add_lit] at g0 g1 g2 g3 g4;exact⟨a,b,c,f,p,h1,h2,h3,h4,g0,g1,g2,g3,g4⟩
end Go.Proofs.YtgjdmkfpmokkaaaGreatDoor
namespace Go.Proofs.YtgjdmkfpmokkaaaGreatDoor
open Go.RowKit
set_option linter.unusedVariables false
def ziz(w:World)(base lim o:Nat)(e:Ending)(w':World):Prop:=∃ wb lw sb x ga gc qa qc,e=.returned (.pointer (some ⟨wb,0,none⟩))∧w'.heap[wb]?=some (w7O base lim o lw sb (.slice ga (o+1) gc) (.slice none 0 0) (.slice none 0 0) (.slice qa 8 qc) (o:Int) 0)∧w.heap.size≤wb∧SO w w' sb lw x ⟨fun _=>0,newM o,fun _=>0⟩ (fun _=>[]) [] S0 (fun _ => -1)∧x.base=base∧x.R=4096*2 ^ o∧x.lim=lim∧x.n=0∧x.o=o∧Kt nO w w'∧(FL w' ga gc o (fun _=>[])∧FL w' qa qc 7 (fun _=>[]))
theorem zg9(base:Nat)(hb64:base<18446744073709551616)(lim o:Nat)(hl:lim≤64)(ho:o≤8)(hm:M.mayB base (lim:Int) (o:Int)=true)(hb4:base%4096=0)(w:World)(hT:Tab w):
  Calls Tryz.prog 7 #[cfgV base (lim:Int) (o:Int)] w fun e w'=>ziz w base lim o e w':=by
 have K0:=hid ((Kt.refl nO w).alloc (cfgO base (lim:Int) (o:Int)));have X0:=hid (nH w (cfgO base (lim:Int) (o:Int)));have MY:=hid (fun W=>M.May_any base hb64 (lim:Int) (o:Int) (by omega) (by omega) (by omega) (by omega) W);rw[hm] at MY;have NW:=hid (fun W=>ze9 base hb64 lim o hl ho hm W);have HT:=hid hT;clear hm hT;go_enter Tryz.func7,Tryz.ntmps7;obtain⟨x0,x1,x2⟩:=cfg3 X0.out;go_wp2_with fail;refine(MY.out _).mono ?_;rintro e w1 ⟨rfl,hk⟩;have X1:=hid (((toK hk).block _ (lH X0.out) (fun x=>x)).trans X0.out);have K1:=hid (nT K0.out (toK hk));clear x0 x1 x2 hk X0 K0 MY;obtain⟨x0,x1,x2⟩:=cfg3 X1.out;go_wp2_with fail;refine(NW.out _).mono ?_;rintro e w2 ⟨lw,x,rfl,hP,e1,e2,e3,e4,e5,e6⟩;have P2:=hid (PO.from K1.out (zfa o hP e4 e5 e6 (by rw[e1];exact hb4)));have X2:=hid ((hP.kp.block _ (lH X1.out) (fun x=>x)).trans X1.out);have EX:=hid (show x.base=base∧x.R=4096*2 ^ o∧x.lim=lim∧x.n=0∧x.o=o∧x.P=fun _=>none from⟨e1,e2,e3,e4,e5,e6⟩);clear hP e1 e2 e3 e4 e5 e6 x0 x1 x2 X1 NW;have NS:=hid (New7 P2.out HT.out);go_wp2_with fail;refine NS.out.mono ?_;rintro e w3 ⟨sb,rfl,hs,hk,hz⟩;have S3:=hid hs;have P3:=hid (P2.out.keep hk);have X3:=hid ((hk.block _ (lH X2.out) (fun x=>x)).trans X2.out);have O3:=hid (SO.new P3.out hs EX.out.2.2.2.2.2);clear hs hk hz NS X2 P2;obtain⟨x0,x1,x2⟩:=cfg3 X3.out;have SP:=hid (zbl P3.out.pl);have MP:=hid (Map6 P3.out.pl);have BP:=hid (zfJ P3.out.pl);go_wp2_with fail;refine SP.out.mono ?_;rintro e w4 ⟨rfl,h4⟩;replace h4:=h4.symm;subst h4;go_wp2_with fail;refine MP.out.mono ?_;rintro e w4 ⟨rfl,h4⟩;replace h4:=h4.symm;subst h4;go_wp2_with fail;refine BP.out.mono ?_;rintro e w4 ⟨rfl,h4⟩;replace h4:=h4.symm;subst h4;go_upto_region 9 with fail;have KD:=hid ((Kt.refl nO w3).drew);have X4:=hid ((KD.out.block _ (lH X3.out) (fun x=>x)).trans X3.out);have NR:=hid (zmY base lim o ho w3.drew);clear x0 x1 x2 SP MP BP;obtain⟨x0,x1,x2⟩:=cfg3 X4.out;go_region_held3 (fun w'=>w'.cell? ⟨w.heap.size,0,none⟩=some (.int .u64 (base:Int))∧w'.cell? ⟨w.heap.size,1,none⟩=some (.int .i64 (lim:Int))∧w'.cell? ⟨w.heap.size,2,none⟩=some (.int .i64 (o:Int))) (first|with_reducible exact⟨x0,x1,x2⟩|with_reducible exact⟨y0,y1,y2⟩|with_reducible exact⟨aCL y0,aCL y1,aCL y2⟩) (first
  | (go_at_call 35;(with_reducible refine NR.out.mono ?_);rintro e w5 ⟨ga,gc,qa,qc,rfl,hk,hfl,hql⟩;have K5:=hid (nT KD.out hk);obtain⟨y0,y1,y2⟩:=cfg3 ((hk.block _ (lH X4.out) (fun x=>x)).trans X4.out);have FQ:=hid (And.intro hfl hql);clear hk hfl hql)
  | fail)
 all_goals
  have D:=hid (show(w5.alloc (w7O base lim o lw sb (.slice ga (o+1) gc) (.slice none 0 0) (.slice none 0 0) (.slice qa 8 qc) (o:Int) 0)).heap[w5.heap.size]?=some (w7O base lim o lw sb (.slice ga (o+1) gc) (.slice none 0 0) (.slice none 0 0) (.slice qa 8 qc) (o:Int) 0)∧w.heap.size≤w5.heap.size∧SO w (w5.alloc (w7O base lim o lw sb (.slice ga (o+1) gc) (.slice none 0 0) (.slice none 0 0) (.slice qa 8 qc) (o:Int) 0)) sb lw x ⟨fun _=>0,newM o,fun _=>0⟩ (fun _=>[]) [] S0 (fun _ => -1)∧x.base=base∧x.R=4096*2 ^ o∧x.lim=lim∧x.n=0∧x.o=o∧Kt nO w (w5.alloc (w7O base lim o lw sb (.slice ga (o+1) gc) (.slice none 0 0) (.slice none 0 0) (.slice qa 8 qc) (o:Int) 0))∧(FL (w5.alloc (w7O base lim o lw sb (.slice ga (o+1) gc) (.slice none 0 0) (.slice none 0 0) (.slice qa 8 qc) (o:Int) 0)) ga gc o (fun _=>[])∧FL (w5.alloc (w7O base lim o lw sb (.slice ga (o+1) gc) (.slice none 0 0) (.slice none 0 0) (.slice qa 8 qc) (o:Int) 0)) qa qc 7 (fun _=>[]))from by
   obtain⟨e1,e2,e3,e4,e5,e6⟩:=EX.out;have k:=K5.out.alloc (w7O base lim o lw sb (.slice ga (o+1) gc) (.slice none 0 0) (.slice none 0 0) (.slice qa 8 qc) (o:Int) 0);have hs:=lH O3.out.sw.bx;have h5:=K5.out.size;have hz:=P3.out.pl.kp.size;exact⟨nH w5 _,by omega,O3.out.keep k,e1,e2,e3,e4,e5,nT P3.out.pl.kp k,FQ.out.1.keep ((Kt.refl nO w5).alloc _),FQ.out.2.keep ((Kt.refl nO w5).alloc _)⟩)
  clear x0 x1 x2 y0 y1 y2;go_wp2_with fail;go_ret;exact⟨_,lw,sb,x,_,_,_,_,rfl,D.out⟩
theorem zfq(b0:Nat)(hb064:b0<18446744073709551616)(l0 o0:Int)(l1 : -9223372036854775808≤l0)(l2:l0≤9223372036854775807)(o1 : -9223372036854775808≤o0)(o2:o0≤9223372036854775807)(hm0:M.mayB b0 l0 o0=false)(base lim o:Nat)(e0:base=65536)(e1:lim=1)(e2:o=1)(w:World)(hT:Tab w):
  Calls Tryz.prog 7 #[cfgV b0 l0 o0] w fun e w'=>ziz w base lim o e w':=by
 have hb64:base<18446744073709551616:=by omega
 have hl:lim≤64:=by omega
 have ho:o≤8:=by omega
 have hb4:base%4096=0:=by omega
 have hm:M.mayB base (lim:Int) (o:Int)=true:=by subst e0 e1 e2;decide
 have K0:=hid ((Kt.refl nO w).alloc (cfgO b0 l0 o0));have X0:=hid (nH w (cfgO b0 l0 o0));have MY:=hid (fun W=>M.May_any b0 hb064 l0 o0 l1 l2 o1 o2 W);rw[hm0] at MY;have NW:=hid (fun W=>ze9 base hb64 lim o hl ho hm W);have HT:=hid hT;have E0:=hid e0;have E1:=hid e1;have E2:=hid e2;clear hm hT e0 e1 e2;go_enter Tryz.func7,Tryz.ntmps7;obtain⟨x0,x1,x2⟩:=cfg3 X0.out;go_wp2_with fail;refine(MY.out _).mono ?_;rintro e w0 ⟨rfl,hk⟩;have X1':=hid (((toK hk).block _ (lH X0.out) (fun x=>x)).trans X0.out);have K1':=hid (nT K0.out (toK hk));clear x0 x1 x2 hk X0 K0 MY;obtain⟨x0,x1,x2⟩:=cfg3 X1'.out;have fz:∀ j,w0.frozen? ⟨w.heap.size,j,none⟩=false:=fun j=>by simp[World.frozen?,X1'.out]
 have hk:=(((Kt.refl (fun x=>x=w.heap.size) w0).setCell (p:=⟨w.heap.size,0,none⟩) rfl (.int .u64 65536)).setCell (p:=⟨w.heap.size,1,none⟩) rfl (.int .i64 1)).setCell (p:=⟨w.heap.size,2,none⟩) rfl (.int .i64 1);have X1:=hid (show(((w0.setCell ⟨w.heap.size,0,none⟩ (.int .u64 65536)).setCell ⟨w.heap.size,1,none⟩ (.int .i64 1)).setCell ⟨w.heap.size,2,none⟩ (.int .i64 1)).heap[w.heap.size]?=some (cfgO base (lim:Int) (o:Int))from by
  rw[E0.out,E1.out,E2.out];have h1:(w0.setCell ⟨w.heap.size,0,none⟩ (.int .u64 65536)).heap[w.heap.size]?=some (cfgO 65536 l0 o0):=zc6 X1'.out 0 _;generalize w0.setCell ⟨w.heap.size,0,none⟩ (.int .u64 65536)=v1 at *;have h2:(v1.setCell ⟨w.heap.size,1,none⟩ (.int .i64 1)).heap[w.heap.size]?=some (cfgO 65536 1 o0):=zc6 h1 1 _;generalize v1.setCell ⟨w.heap.size,1,none⟩ (.int .i64 1)=v2 at *;exact zc6 h2 2 _)
 have K1:=hid (K1'.out.trans hk (fun _ _ e=>e) (fun y hy e=>absurd hy (by rw[e];exact Nat.lt_irrefl _)));go_upto_region 3 with fail;generalize ((w0.setCell ⟨w.heap.size,0,none⟩ (.int .u64 65536)).setCell ⟨w.heap.size,1,none⟩ (.int .i64 1)).setCell ⟨w.heap.size,2,none⟩ (.int .i64 1)=w1 at *;clear x0 x1 x2 hk X1' K1' fz;obtain⟨x0,x1,x2⟩:=cfg3 X1.out;go_wp2_with fail;refine(NW.out _).mono ?_;rintro e w2 ⟨lw,x,rfl,hP,e1,e2,e3,e4,e5,e6⟩;have P2:=hid (PO.from K1.out (zfa o hP e4 e5 e6 (by rw[e1];exact hb4)));have X2:=hid ((hP.kp.block _ (lH X1.out) (fun x=>x)).trans X1.out);have EX:=hid (show x.base=base∧x.R=4096*2 ^ o∧x.lim=lim∧x.n=0∧x.o=o∧x.P=fun _=>none from⟨e1,e2,e3,e4,e5,e6⟩);clear hP e1 e2 e3 e4 e5 e6 x0 x1 x2 X1 NW;have NS:=hid (New7 P2.out HT.out);go_wp2_with fail;refine NS.out.mono ?_;rintro e w3 ⟨sb,rfl,hs,hk,hz⟩;have S3:=hid hs;have P3:=hid (P2.out.keep hk);have X3:=hid ((hk.block _ (lH X2.out) (fun x=>x)).trans X2.out);have O3:=hid (SO.new P3.out hs EX.out.2.2.2.2.2);clear hs hk hz NS X2 P2;obtain⟨x0,x1,x2⟩:=cfg3 X3.out;have SP:=hid (zbl P3.out.pl);have MP:=hid (Map6 P3.out.pl);have BP:=hid (zfJ P3.out.pl);go_wp2_with fail;refine SP.out.mono ?_;rintro e w4 ⟨rfl,h4⟩;replace h4:=h4.symm;subst h4;go_wp2_with fail;refine MP.out.mono ?_;rintro e w4 ⟨rfl,h4⟩;replace h4:=h4.symm;subst h4;go_wp2_with fail;refine BP.out.mono ?_;rintro e w4 ⟨rfl,h4⟩;replace h4:=h4.symm;subst h4;go_upto_region 9 with fail;have KD:=hid ((Kt.refl nO w3).drew);have X4:=hid ((KD.out.block _ (lH X3.out) (fun x=>x)).trans X3.out);have NR:=hid (zmY base lim o ho w3.drew);clear x0 x1 x2 SP MP BP;obtain⟨x0,x1,x2⟩:=cfg3 X4.out;go_region_held3 (fun w'=>w'.cell? ⟨w.heap.size,0,none⟩=some (.int .u64 (base:Int))∧w'.cell? ⟨w.heap.size,1,none⟩=some (.int .i64 (lim:Int))∧w'.cell? ⟨w.heap.size,2,none⟩=some (.int .i64 (o:Int))) (first|with_reducible exact⟨x0,x1,x2⟩|with_reducible exact⟨y0,y1,y2⟩|with_reducible exact⟨aCL y0,aCL y1,aCL y2⟩) (first
  | (go_at_call 35;(with_reducible refine NR.out.mono ?_);rintro e w5 ⟨ga,gc,qa,qc,rfl,hk,hfl,hql⟩;have K5:=hid (nT KD.out hk);obtain⟨y0,y1,y2⟩:=cfg3 ((hk.block _ (lH X4.out) (fun x=>x)).trans X4.out);have FQ:=hid (And.intro hfl hql);clear hk hfl hql)
  | fail)
 all_goals
  have D:=hid (show(w5.alloc (w7O base lim o lw sb (.slice ga (o+1) gc) (.slice none 0 0) (.slice none 0 0) (.slice qa 8 qc) (o:Int) 0)).heap[w5.heap.size]?=some (w7O base lim o lw sb (.slice ga (o+1) gc) (.slice none 0 0) (.slice none 0 0) (.slice qa 8 qc) (o:Int) 0)∧w.heap.size≤w5.heap.size∧SO w (w5.alloc (w7O base lim o lw sb (.slice ga (o+1) gc) (.slice none 0 0) (.slice none 0 0) (.slice qa 8 qc) (o:Int) 0)) sb lw x ⟨fun _=>0,newM o,fun _=>0⟩ (fun _=>[]) [] S0 (fun _ => -1)∧x.base=base∧x.R=4096*2 ^ o∧x.lim=lim∧x.n=0∧x.o=o∧Kt nO w (w5.alloc (w7O base lim o lw sb (.slice ga (o+1) gc) (.slice none 0 0) (.slice none 0 0) (.slice qa 8 qc) (o:Int) 0))∧(FL (w5.alloc (w7O base lim o lw sb (.slice ga (o+1) gc) (.slice none 0 0) (.slice none 0 0) (.slice qa 8 qc) (o:Int) 0)) ga gc o (fun _=>[])∧FL (w5.alloc (w7O base lim o lw sb (.slice ga (o+1) gc) (.slice none 0 0) (.slice none 0 0) (.slice qa 8 qc) (o:Int) 0)) qa qc 7 (fun _=>[]))from by
   obtain⟨e1,e2,e3,e4,e5,e6⟩:=EX.out;have k:=K5.out.alloc (w7O base lim o lw sb (.slice ga (o+1) gc) (.slice none 0 0) (.slice none 0 0) (.slice qa 8 qc) (o:Int) 0);have hs:=lH O3.out.sw.bx;have h5:=K5.out.size;have hz:=P3.out.pl.kp.size;exact⟨nH w5 _,by omega,O3.out.keep k,e1,e2,e3,e4,e5,nT P3.out.pl.kp k,FQ.out.1.keep ((Kt.refl nO w5).alloc _),FQ.out.2.keep ((Kt.refl nO w5).alloc _)⟩)
  clear x0 x1 x2 y0 y1 y2;go_wp2_with fail;go_ret;exact⟨_,lw,sb,x,_,_,_,_,rfl,D.out⟩
theorem zfr(b0:Nat)(hb64:b0<18446744073709551616)(l0 o0:Int)(l1 : -9223372036854775808≤l0)(l2:l0≤9223372036854775807)(o1 : -9223372036854775808≤o0)(o2:o0≤9223372036854775807)(w:World)(hT:Tab w):
  Calls Tryz.prog 7 #[cfgV b0 l0 o0] w fun e w'=>∃ base lim o,base%(4096*2 ^ o)=0∧ziz w base lim o e w':=by
 cases hm:M.mayB b0 l0 o0 with
 | true=>
  obtain⟨hB,_⟩:=M.mayB_cfg hm;unfold M.Bounds at hB;have h2:=hm;simp only[M.mayB,Bool.and_eq_true,decide_eq_true_eq] at h2;have h3:=h2.2.1.2;unfold M.RS at h3;have hm4:b0%4096=0:=Nat.mod_eq_zero_of_dvd (Nat.dvd_trans (Nat.dvd_mul_right _ _) (Nat.dvd_of_mod_eq_zero h3));obtain⟨l,rfl⟩:=Int.eq_ofNat_of_zero_le (a:=l0) (by omega);obtain⟨o,rfl⟩:=Int.eq_ofNat_of_zero_le (a:=o0) (by omega);exact(zg9 b0 hb64 l o (by omega) (by omega) hm hm4 w hT).mono fun e w' h=>⟨_,_,_,h3,h⟩
 | false=>
  exact(zfq b0 hb64 l0 o0 l1 l2 o1 o2 hm 65536 1 1 rfl rfl rfl w hT).mono fun e w' h=>⟨_,_,_,by decide,h⟩
theorem GS.pushK{w0 W:World}{e:TypeId}{size:Nat}{v:Value}{n:Nat}{xs:List Value}(h:GS w0 W e size v n xs)(t:TypeId)(i:TypeInfo)(z:Value)(bytes:Nat)
  (ht:Tryz.prog.underlying t=some (.slice e)) (hi:Tryz.prog.info? e=some i) (hz:i.zero=some z) (hs:i.size=size) (hby:i.bytes=bytes) (hzs:z.cells.size=size) (hsz : 0<size)
  (a:Addr) (c:Nat) (news:List Value) (hl:news.length=size) (hnews:∀ j u,news[j]?=some u→W.cell? (a.add j)=some u) (h1:∀ u∈news,u.oneCell'=true) (h63:n+1≤maxLen) (hbb:(n+1)*bytes≤140737488355328):
  ∃ g cap w',(∀ ty,(Builtin.append_ #[t,t] ty #[v,.slice (some a) 1 c]).run Tryz.prog W=.ok (.slice (some ⟨g,0,none⟩) (n + 1) cap) w')∧GS w0 w' e size (.slice (some ⟨g,0,none⟩) (n + 1) cap) (n + 1) (xs ++ news)∧w0.heap.size≤g∧Kt (fun b=>v.ownBlock=some b) W w'∧(v.ownBlock=some g∨W.heap.size≤g):=by
 have hl':news.length=1*size:=by rw[hl,Nat.one_mul]
 have ho:=h.own;by_cases hr:∃ g cap,v=.slice (some ⟨g,0,none⟩) n cap∧n+1≤cap
 ·obtain⟨g,cap,rfl,hroom⟩:=hr;obtain⟨w',hrun,hown,hgr⟩:=run_append_fits (P:=Tryz.prog) W 0 t 0 e i size ht hi hs g n cap xs ho a 1 c news hl' hnews h1 hroom;have hg:=(h.new g cap rfl).resolve_left (by omega);have hk:=zal hgr;refine⟨g,cap,w',fun ty=>?_,⟨hown,fun g' cap' e=>?_,h.kp.trans hk (fun _ _ x=>x) (fun x hx e=>?_)⟩,hg,hk,.inl (by simp[Value.ownBlock])⟩
  ·rw[←hrun];simp[Builtin.append_]
  ·simp at e;exact .inr (by omega)
  ·cases e;omega
 ·have key:∃ v' w',(Builtin.append_ #[t,t] 0 #[v,.slice (some a) 1 c]).run Tryz.prog W=.ok v' w'∧w'.ownsRow W.heap.size e size v' (n + 1) (xs ++ news)∧Kt nO W w':=by
   rcases ho.2 with ⟨rfl,h0⟩|⟨g,cap,cur,rfl,hb,hg,hnc,hcm,hcs,htake⟩
   ·subst h0;have:xs=[]:=List.eq_nil_of_length_eq_zero (by rw[ho.1,Nat.zero_mul]);subst this;obtain⟨v',w',hrun,hown,hgr,_⟩:=run_append_own (P:=Tryz.prog) W W.heap.size t 0 e i z size bytes ht hi hz hs hby hzs hsz (.slice none 0 0) 0 [] (World.ownsRow_nil _ _ _ _) a 1 c news hl' hnews h1 h63 hbb (Nat.le_refl _);exact⟨v',w',hrun,hown,(zal hgr).mono (fun _ _ e=>by cases e)⟩
   ·obtain⟨v',w',hrun,hown,hgr⟩:=run_append_arg_grows (P:=Tryz.prog) W t 0 e i z size bytes ht hi hz hs hby hzs hsz ⟨g,0,none⟩ n cap xs ho.1 (fun j u hj=>by
     rw[Addr.add_lit,Nat.zero_add];rw[←htake,List.getElem?_take] at hj;split at hj
     ·simp only[World.cell?,hg];rw[←Array.getElem?_toList,hj];rfl
     ·cases hj) a 1 c news hl' hnews (Nat.lt_of_not_le fun hle=>hr ⟨g,cap,rfl,hle⟩) h63 hbb
    exact⟨v',w',hrun,hown,(zal hgr).mono (fun _ _ e=>by cases e)⟩
  obtain⟨v',w',hrun,hown,hk⟩:=key;rcases hown.2 with ⟨_,h0⟩|⟨g,cap,cur,rfl,hb,hg,h3⟩
  ·omega
  ·refine⟨g,cap,w',fun ty=>?_,⟨⟨hown.1,.inr ⟨g,cap,cur,rfl,Nat.zero_le _,hg,h3⟩⟩,fun g' cap' e=>?_,nT h.kp hk⟩,Nat.le_trans h.kp.size hb,hk.mono (fun _ _ e=>e.elim),.inr hb⟩
   ·rw[←hrun];simp[Builtin.append_]
   ·simp at e;exact .inr (by have:=h.kp.size;omega)
structure GT(w0 W:World)(x:Bx)(sb:Nat)(v:Value)(q:Nat)(xs:List Nat):Prop where
 gs:GS w0 W 24 1 v q (xs.map M.e64)
 hl:q=xs.length
 ap:∀ r,v.ownBlock=some r→w0.heap.size≤r∧¬sown x sb r
 lt:∀ y∈xs,y<18446744073709551616
theorem GT.nil(w0 W:World)(x:Bx)(sb:Nat)(k:Kt nO w0 W):GT w0 W x sb (.slice none 0 0) 0 []:=⟨GS.nil _ _ _ _ k,rfl,fun r e=>by simp[Value.ownBlock] at e,fun y h=>by cases h⟩
theorem GT.keep{w0 W W' x sb v q xs}(h:GT w0 W x sb v q xs)(k:Kt nO W W'):GT w0 W' x sb v q xs:=⟨h.gs.keep k,h.hl,h.ap,h.lt⟩
theorem GT.get{w0 W x sb va vc q xs}(h:GT w0 W x sb (.slice va q vc) q xs){i:Nat}(hi:i<q):∃ g y,va=some ⟨g,0,none⟩∧W.cell? ⟨g,i,none⟩=some (.int .u64 ((y:Nat):Int))∧y<18446744073709551616:=by
 have hi':i<xs.length:=by rw[←h.hl];exact hi
 obtain⟨g,hg,hc⟩:=zaF h.gs.own (i:=i) (u:=.int .u64 ((xs.getD i 0:Nat):Int)) (by
  rw[List.getElem?_map,List.getElem?_eq_getElem hi',List.getD_eq_getElem?_getD,List.getElem?_eq_getElem hi'];rfl)
 refine⟨g,xs.getD i 0,hg,hc,h.lt _ ?_⟩;rw[List.getD_eq_getElem?_getD,List.getElem?_eq_getElem hi'];exact List.getElem_mem hi'
theorem GT.step{w0 W W' x x' sb sb' v q xs}{wb:Nat}{b l o lw:Nat}{f1 f2 f3 f4:Value}{i1 i2:Int}(h:GT w0 W x sb v q xs)(hb:W.heap[wb]?=some (w7O b l o lw sb f1 f2 f3 f4 i1 i2))(kp:Kt nO w0 W')(k:Kt (fun y=>sown x sb y∨y=wb) W W')(hs:∀ y,sown x' sb' y→sown x sb y∨W.heap.size≤y):GT w0 W' x' sb' v q xs:=by
 have hT:∀ r,v.ownBlock=some r→r<W.heap.size∧¬(sown x sb r∨r=wb):=fun r e=>by
  obtain⟨cs,hc⟩:=zaT h.gs.own e;refine⟨lH hc,fun e2=>e2.elim (h.ap r e).2 fun e2=>?_⟩;subst e2;have:=zdZ hc hb;revert this
  decide
 refine⟨⟨zaf h.gs.own k (fun r e=>(hT r e).2),h.gs.new,kp⟩,h.hl,fun r e=>⟨(h.ap r e).1,fun e2=>?_⟩,h.lt⟩;rcases hs r e2 with e3|e3
 ·exact(h.ap r e).2 e3
 ·have:=(hT r e).1;omega
theorem L7.row{w W W' wb lw sb x t fr ls S al c fa fc va vc ca cc pa pc}(L:L7 w W wb lw sb x t fr ls S al c fa fc va vc ca cc pa pc){T:Nat→Prop}(k:Kt T W W')(hT:∀ y,T y→w.heap.size≤y∧¬sown x sb y∧∃ cs z,W.heap[y]?=some (.cells cs 24 z)):L7 w W' wb lw sb x t fr ls S al c fa fc va vc ca cc pa pc:=by
 obtain⟨h,o⟩:=L.so;have nty:∀ y cs e z,W.heap[y]?=some (.cells cs e z)→e≠24→¬T y:=fun y cs e z hy he e2=>by
  obtain⟨_,_,cs',z',hc⟩:=hT y e2;exact he (zdZ hy hc)
 have hbd:=o.sw.pl.bd;obtain⟨lcs,hlr,_⟩:=hbd.lr;have nb:∀ a,bown x a∨a=x.b∨a=x.l→¬T a:=fun a ha=>by
  rcases ha with ha|rfl|rfl
  ·exact fun e=>(hT a e).2.1 (.inl ha)
  ·exact nty _ _ _ _ hbd.bs (by decide)
  ·exact nty _ _ _ _ hlr (by decide)
 have pl:Pol w W' lw x t:=⟨(k.block _ (lH o.sw.pl.box) (nty _ _ _ _ o.sw.pl.box (by decide))).trans o.sw.pl.box,hbd.kept k nb,o.sw.pl.nw,o.sw.pl.kp.trans k (fun _ _ e=>e) (fun a ha e=>by have:=(hT a e).1;omega)⟩;refine⟨⟨h,⟨⟨pl,(k.block _ (lH o.sw.bx) (nty _ _ _ _ o.sw.bx (by decide))).trans o.sw.bx,o.sw.nw,o.sw.tb⟩,o.sf,o.st,o.bm,o.si,o.hd⟩⟩,L.lv,L.ae,L.d.kept k (fun y cs e z hy he=>nty y cs e z hy (fun e2=>?_)),(k.block _ (lH L.bx) (nty _ _ _ _ L.bx (by decide))).trans L.bx,L.nw,L.nd,L.lc⟩;rw[e2] at he;rcases he with e3|e3|e3|e3 <;> revert e3 <;> decide
theorem L7.slt{w W wb lw sb x t fr ls S al c fa fc va vc ca cc pa pc}(L:L7 w W wb lw sb x t fr ls S al c fa fc va vc ca cc pa pc):∀ y,sown x sb y→y<W.heap.size:=fun y e=>by
 obtain⟨h,o⟩:=L.so;rcases e with e|rfl
 ·exact o.sw.pl.lt y (.inl e)
 ·exact lH o.sw.bx
theorem L7.kp{w W wb lw sb x t fr ls S al c fa fc va vc ca cc pa pc}(L:L7 w W wb lw sb x t fr ls S al c fa fc va vc ca cc pa pc):Kt nO w W:=by
 obtain⟨h,o⟩:=L.so;exact o.sw.pl.kp
theorem L7.push{w W wb lw sb x t fr ls S al c fa fc va vc ca cc pa pc}{ta:Option Addr}{q tc:Nat}{xs:List Nat}(L:L7 w W wb lw sb x t fr ls S al c fa fc va vc ca cc pa pc)(h:GT w W x sb (.slice ta q tc) q xs)(y:Nat)(hy:y<18446744073709551616)(hq:q≤2000):
  ∃ g cap w',(∀ ty,(Builtin.append_ #[61,61] ty #[.slice ta q tc,.slice (some ⟨W.heap.size,0,none⟩) 1 1]).run Tryz.prog (W.alloc (.cells #[.int .u64 (y:Int)] 24))=.ok (.slice (some ⟨g,0,none⟩) (q + 1) cap) w')∧GT w w' x sb (.slice (some ⟨g,0,none⟩) (q + 1) cap) (q + 1) (xs ++ [y])∧L7 w w' wb lw sb x t fr ls S al c fa fc va vc ca cc pa pc:=by
 obtain⟨i,hi,hzz⟩:=Option.map_eq_some_iff.1 zku;simp only[Prod.mk.injEq] at hzz;have ka:=(Kt.refl nO W).alloc (.cells #[.int .u64 (y:Int)] 24);have hL:=L.keep ka;have hG:=h.keep ka;obtain⟨g,cap,w',h1,h2,h5,h6,h7⟩:=hG.gs.pushK 61 i (.int .u64 0) 8 Tryz.underlying61 hi hzz.1 hzz.2.1 hzz.2.2 rfl (by decide) ⟨W.heap.size,0,none⟩ 1 [.int .u64 (y:Int)] rfl (fun j u hj=>zaD (cs:=#[.int .u64 (y:Int)]) j u hj) (by simp[Value.oneCell']) (by simp only[maxLen];omega) (by omega);refine⟨g,cap,w',h1,⟨?_,by rw[List.length_append,←h.hl];rfl,fun r e=>?_,fun z hz=>?_⟩,hL.row h6 (fun r e=>?_)⟩
 ·rw[List.map_append];exact h2
 ·have e:g=r:=by simpa [Value.ownBlock] using e
  subst e;refine⟨h5,fun e2=>?_⟩;rcases h7 with e3|e3
  ·exact(h.ap g e3).2 e2
  ·have:=hL.slt g e2;omega
 ·rcases List.mem_append.1 hz with h8|h8
  ·exact h.lt z h8
  ·rw[List.mem_singleton.1 h8];exact hy
 ·obtain⟨cs,hc⟩:=zaT hG.gs.own e;exact⟨(h.ap r e).1,(h.ap r e).2,cs,_,hc⟩
def PlI(w:World)(wb lw j q:Nat)(ta:Option Addr)(tc:Nat)(W:World):Prop:=∃ sb x t fr ls S al fa fc va vc ca cc pa pc xs,L7 w W wb lw sb x t fr ls S al j fa fc va vc ca cc pa pc∧GT w W x sb (.slice ta q tc) q xs
theorem PlI.step{w W w':World}{wb lw j q sb:Nat}{ta:Option Addr}{tc:Nat}{x:Bx}{xs:List Nat}{b l o lw2:Nat}{f1 f2 f3 f4:Value}{i1 i2:Int}(h:GT w W x sb (.slice ta q tc) q xs)(hb:W.heap[wb]?=some (w7O b l o lw2 sb f1 f2 f3 f4 i1 i2))(s:St7 w W wb lw (j+1) x sb w'):PlI w wb lw (j+1) q ta tc w':=by
 obtain⟨sb',x',t',fr',ls',S',al',fa',fc',va',vc',ca',cc',pa',pc',h1,h2,h3⟩:=s;exact⟨sb',x',t',fr',ls',S',al',fa',fc',va',vc',ca',cc',pa',pc',xs,h1,h.step hb h1.kp h2 h3⟩
theorem A7.fin{w V w' wb lw sb x fr' ls' al' pl' P' fa m vc n cc pc c}{fc:Nat}{va ca pa:Option Addr}{fa0 va0 ca0 pa0:Option Addr}{fc0 m0 vc0 n0 cc0 pc0 P0:Nat}{fr0:Nat→List Nat}{ls0:List (Nat×Nat)}{al0:List Cl}{pl0:Nat→List Nat}(A:A7 w V w' sb lw x fr' ls' al' pl' P')(D:LD w' wb lw sb x.base x.lim x.o P0 fa0 fc0 va0 m0 vc0 ca0 n0 cc0 pa0 pc0 fr0 ls0 al0 pl0)(d2:D7 w' x.o fa fc va vc ca cc pa pc fr' ls' al' pl')(hm:m=ls'.length)(hn:n=al'.length)(hw:w.heap.size≤wb)(nd:(ls'.map Prod.fst).Nodup)(lc:ls'.length≤c):
  ∃ x' t' S',L7 w (finw w' wb x.base (x.lim:Int) (x.o:Int) (x.o:Int) (P':Int) (.slice fa (x.o+1) fc) (.slice va m vc) (.slice ca n cc) (.slice pa 8 pc)) wb lw sb x' t' fr' ls' S' al' c fa fc va vc ca cc pa pc∧(∀ y,sown x' sb y→sown x sb y∨V.heap.size≤y):=by
 obtain⟨x',t',S',h',o,lv,a,hpl,hnn,e1,e2,e3,hs⟩:=A.ex;have D2:=D.store (P2:=P') d2 hm hn;have kf:=za6 w' wb x.base (x.lim:Int) (x.o:Int) (x.o:Int) (P':Int) (.slice fa (x.o+1) fc) (.slice va m vc) (.slice ca n cc) (.slice pa 8 pc);have o2:=o.box D.bx zah.1 zah.2 hw kf;refine⟨x',t',S',⟨⟨h',o2⟩,lv,a,?_,?_,hw,nd,lc⟩,hs⟩
 ·rw[hpl,e3];exact D2.d
 ·rw[e1,e2,e3,hnn,←hm,←hn];exact D2.bx
theorem zci:¬pty 38∧38≠98:=⟨by unfold Go.Proofs.YtgjdmkfpmokkaaaGreatDoor.pty;decide,by decide⟩
theorem ziz.pl{w w':World}{base lim o:Nat}{e:Ending}(h:ziz w base lim o e w'):∃ wb lw,e=.returned (.pointer (some ⟨wb,0,none⟩))∧PlI w wb lw 0 0 none 0 w':=by
 obtain⟨wb,lw,sb,x,ga,gc,qa,qc,h1,h2,h3,h4,h5,h6,h7,h8,h9,h10,h11,h12⟩:=h;refine⟨wb,lw,h1,sb,x,_,_,[],S0,[],ga,gc,none,0,none,0,qa,qc,[],⟨⟨_,h4⟩,Lve.none,AL.nil,⟨by rw[h9];exact h11,World.ownsRow_nil _ _ _ _,⟨fun _=>.slice none 0 0,World.ownsRow_nil _ _ _ _,fun i hi=>absurd hi (Nat.not_lt_zero _)⟩,h12⟩,?_,h3,List.nodup_nil,Nat.zero_le _⟩,GT.nil _ _ _ _ h10⟩;rw[h5,h7,h9];exact h2
theorem PlI.keep{w W W':World}{wb lw j q:Nat}{ta:Option Addr}{tc:Nat}(h:PlI w wb lw j q ta tc W)(k:Kt nO W W'):PlI w wb lw j q ta tc W':=by
 obtain⟨sb,x,t,fr,ls,S,al,fa,fc,va,vc,ca,cc,pa,pc,xs,h1,h2⟩:=h;exact⟨sb,x,t,fr,ls,S,al,fa,fc,va,vc,ca,cc,pa,pc,xs,h1.keep k,h2.keep k⟩
theorem PlI.kp{w W:World}{wb lw j q:Nat}{ta:Option Addr}{tc:Nat}(h:PlI w wb lw j q ta tc W):Kt nO w W:=by
 obtain⟨sb,x,t,fr,ls,S,al,fa,fc,va,vc,ca,cc,pa,pc,xs,h1,h2⟩:=h;exact h1.kp
def zbe:Code→Option Code
 | .loop c=>some c
 | .seq a b=>match zbe a with
  | some c=>some c
  | none=>zbe b
 | .block _ c=>zbe c
 | .scope c=>zbe c
 | .cond _ a b=>match zbe a with
  | some c=>some c
  | none=>zbe b
 | _=>none
noncomputable def zhb:Code:=((Tryz.f4.body.bind zbe).getD .skip)
def RL(wB:World)(wb lw m0:Nat)(s6 s7:Value)(W:World):Prop:=∃ (j q:Nat) (ta:Option Addr) (tc:Nat),j≤m0∧j≤600∧q≤j∧s6=.slice ta q tc∧s7=.int .i64 (j:Int)∧PlI wB wb lw j q ta tc W
def WI(wB:World)(wb lw:Nat)(oa:Option Addr)(m0 oc:Nat)(c0 c2 c3 c24 c25 c26 c27 c28 c29 c30 c31 c192 c193:Value)(a:Act)(w':World):Prop:=∃ u4 u6 u7 u8 u9 u10 u11 u12 u13 u14 u15 u16 u17 u18 u19 u20 u21 u22 u23 u32 u33 u34 u35 u36 u37 u38 u39 u40 u41 u42 u43 u44 u45 u46 u47 u48 u49 u50 u51 u52 u53 u54 u55 u56 u57 u58 u59 u60 u61 u62 u63 u64 u65 u66 u67 u68 u69 u70 u71 u72 u73 u74 u75 u76 u77 u78 u79 u80 u81 u82 u83 u84 u85 u86 u87 u88 u89 u90 u91 u92 u93 u94 u95 u96 u97 u98 u99 u100 u101 u102 u103 u104 u105 u106 u107 u108 u109 u110 u111 u112 u113 u114 u115 u116 u117 u118 u119 u120 u121 u122 u123 u124 u125 u126 u127 u128 u129 u130 u131 u132 u133 u134 u135 u136 u137 u138 u139 u140 u141 u142 u143 u144 u145 u146 u147 u148 u149 u150 u151 u152 u153 u154 u155 u156 u157 u158 u159 u160 u161 u162 u163 u164 u165 u166 u167 u168 u169 u170 u171 u172 u173 u174 u175 u176 u177 u178 u179 u180 u181 u182 u183 u184 u185 u186 u187 u188 u189 u190 u191:Value,RL wB wb lw m0 u6 u7 w'∧a=⟨#[c0,.slice oa m0 oc,c2,c3,u4,.pointer (some ⟨wb,0,none⟩),u6,u7,u8,u9,u10,u11,u12,u13,u14,u15,u16,u17,u18,u19,u20,u21,u22,u23,c24,c25,c26,c27,c28,c29,c30,c31,u32,u33,u34,u35,u36,u37,u38,u39,u40,u41,u42,u43,u44,u45,u46,u47,u48,u49,u50,u51,u52,u53,u54,u55,u56,u57,u58,u59,u60,u61,u62,u63,u64,u65,u66,u67,u68,u69,u70,u71,u72,u73,u74,u75,u76,u77,u78,u79,u80,u81,u82,u83,u84,u85,u86,u87,u88,u89,u90,u91,u92,u93,u94,u95,u96,u97,u98,u99,u100,u101,u102,u103,u104,u105,u106,u107,u108,u109,u110,u111,u112,u113,u114,u115,u116,u117,u118,u119,u120,u121,u122,u123,u124,u125,u126,u127,u128,u129,u130,u131,u132,u133,u134,u135,u136,u137,u138,u139,u140,u141,u142,u143,u144,u145,u146,u147,u148,u149,u150,u151,u152,u153,u154,u155,u156,u157,u158,u159,u160,u161,u162,u163,u164,u165,u166,u167,u168,u169,u170,u171,u172,u173,u174,u175,u176,u177,u178,u179,u180,u181,u182,u183,u184,u185,u186,u187,u188,u189,u190,u191,c192,c193],[]⟩
def Wmu(a:Act)(_:World):Nat:=600-(intOf (a.tmps.getD 7 undef)).toNat
end Go.Proofs.YtgjdmkfpmokkaaaGreatDoor
