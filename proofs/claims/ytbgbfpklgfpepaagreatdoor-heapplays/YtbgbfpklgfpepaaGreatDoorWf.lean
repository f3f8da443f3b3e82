import Derived.Test.YtbgbfpklgfpepaaGreatDoorWc
import Derived.Test.YtbgbfpklgfpepaaGreatDoorWe
set_option maxRecDepth 1000000
set_option maxHeartbeats 80000000
namespace Go.Proofs.YtbgbfpklgfpepaaGreatDoor
open Tryz
open Go.RowKit
open Go.MuLone
open Go.Proofs.YtbgbfpklgfpepaaGreatDoor.M (RS gJ mayB bE)
set_option linter.unusedVariables false
theorem oL:∀ (l:List (Nat×Nat)) (i:Nat) (b:Nat×Nat),l[i]?=some b->(dC l)[i*2]?=some (.int .u64 b.1)/\(dC l)[i*2+1]?=some (.int .u64 b.2)
 | [],i,b,h=>by simp at h
 | c :: l,0,b,h=>by
  simp at h;subst h;exact⟨rfl,rfl⟩
 | c :: l,i+1,b,h=>by
  have h:l[i]?=some b:=by simpa using h
  have:=oL l i b h;rw[show(i+1)*2=i*2+1+1 by omega];exact this
theorem GS.bl8{w W:World}{v:Value}{l:List (Nat×Nat)}(h:GS w W 162 2 v l.length (dC l))(hl:l.length<=1000000)(hb:∀ b∈l,b.1<2 ^ 64/\b.2<2 ^ 64):O.BL W v l:=by
 obtain⟨va,vc,rfl⟩:=eR h.own;refine⟨by omega,hb,va,vc,rfl,?_⟩;rcases Nat.eq_zero_or_pos l.length with h0|h0
 ·exact .inl h0
 ·obtain⟨g,rfl,_⟩:=gW h.own (oL l 0 _ (List.getElem?_eq_getElem h0)).1;refine .inr ⟨g,0,rfl,(World.ownsRow.lt h.own g rfl).2,fun k b hk=>?_⟩;obtain⟨e1,e2⟩:=oL l k b hk;obtain⟨g1,q1,c1⟩:=gW h.own e1;obtain⟨g2,q2,c2⟩:=gW h.own e2;injection q1 with q1
  injection q1 with q1
  injection q2 with q2
  injection q2 with q2
  subst q1 q2;rw[Nat.zero_add];exact⟨c1,c2⟩
theorem BK8.bnd{W:World}{v:Value}{l:List He8}(h:BK8 W v l):∀ b∈aR l,b.1<2 ^ 64/\b.2<2 ^ 64:=fun b hb=>by
 obtain⟨x,hx,rfl⟩:=List.mem_map.1 hb;have:=h.bd x hx;show x.p<2 ^ 64/\x.s<2 ^ 64
 omega
theorem jG(l:List He8):(aR l).length=l.length:=by unfold aR;simp
abbrev lR:Obj:=.cells #[.int .u64 0,.int .u64 0] 162
theorem lA{W:World}{A:Obj}{y:Nat}(h:W.heap[y]?=some A)(B:Obj):(W.alloc B).heap[y]?=some A:=(((Kt.refl nO W).alloc B).block _ (lH h) id).trans h
theorem oW(W:World)(B:Obj)(n:Nat)(h:W.heap.size=n):(W.alloc B).heap[n]?=some B:=h▸nH W B
theorem nY(w:World)(A B C D:Obj):Kt nO w ((((w.alloc A).alloc B).alloc C).alloc D)/\((((w.alloc A).alloc B).alloc C).alloc D).heap[w.heap.size]?=some A/\((((w.alloc A).alloc B).alloc C).alloc D).heap[w.heap.size+1]?=some B/\((((w.alloc A).alloc B).alloc C).alloc D).heap[w.heap.size+1+1]?=some C/\((((w.alloc A).alloc B).alloc C).alloc D).heap[w.heap.size+1+1+1]?=some D:=
 ⟨((((Kt.refl nO w).alloc A).alloc B).alloc C).alloc D,lA (lA (lA (nH w A) B) C) D,lA (lA (oW _ B _ (by simp)) C) D,lA (oW _ C _ (by simp)) D,oW _ D _ (by simp)⟩
theorem zD(w:World)(A B C D E:Obj):Kt nO w (((((w.alloc A).alloc B).alloc C).alloc D).alloc E)/\(((((w.alloc A).alloc B).alloc C).alloc D).alloc E).heap[w.heap.size]?=some A/\(((((w.alloc A).alloc B).alloc C).alloc D).alloc E).heap[w.heap.size+1]?=some B/\(((((w.alloc A).alloc B).alloc C).alloc D).alloc E).heap[w.heap.size+1+1]?=some C/\(((((w.alloc A).alloc B).alloc C).alloc D).alloc E).heap[w.heap.size+1+1+1]?=some D/\(((((w.alloc A).alloc B).alloc C).alloc D).alloc E).heap[w.heap.size+1+1+1+1]?=some E:=
 ⟨(nY w A B C D).1.alloc E,lA (nY w A B C D).2.1 E,lA (nY w A B C D).2.2.1 E,lA (nY w A B C D).2.2.2.1 E,lA (nY w A B C D).2.2.2.2 E,oW _ E _ (by simp)⟩
theorem dB{W W':World}{y p s:Nat}(h:W.heap[y]?=some (dL p s))(k:Kt nO W W'):W'.heap[y]?=some (dL p s):=(k.block _ (lH h) id).trans h
theorem nC{W W':World}{y:Nat}(h:W.heap[y]?=some lR)(k:Kt nO W W'):W'.heap[y]?=some lR:=(k.block _ (lH h) id).trans h
theorem pA{W:World}{y:Nat}(h:W.heap[y]?=some lR):W.cell? ⟨y,0,none⟩=some (.int .u64 0)/\W.cell? ⟨y,1,none⟩=some (.int .u64 0)/\∀ j,W.frozen? ⟨y,j,none⟩=false:=by
 refine⟨?_,?_,fun j=>?_⟩ <;> simp[World.cell?,World.frozen?,h]
abbrev sG(W:World)(y:Nat)(u0 u1:Value):World:=(W.setCell ⟨y,0,none⟩ u0).setCell ⟨y,1,none⟩ u1
theorem rT{W:World}{y:Nat}(u0 u1:Value):Kt (fun z=>z=y) W (sG W y u0 u1):=((Kt.refl (fun z=>z=y) W).setCell (p:=⟨y,0,none⟩) rfl u0).setCell (p:=⟨y,1,none⟩) rfl u1
theorem vT{W:World}{y p s:Nat}(h:W.heap[y]?=some lR):(sG W y (.int .u64 p) (.int .u64 s)).heap[y]?=some (dL p s):=by
 have:=bB (bB h 0 (.int .u64 p)) 1 (.int .u64 s);simpa using this
theorem JN{W:World}{b y i:Nat}{u v0 v1 v2 v3 v4:Value}(h:W.drew.cell? ⟨b,i,none⟩=some u)(hne:b≠y):(((((W.setCell ⟨y,0,none⟩ v0).setCell ⟨y,1,none⟩ v1).setCell ⟨y,2,none⟩ v2).setCell ⟨y,3,none⟩ v3).setCell ⟨y,4,none⟩ v4).drew.cell? ⟨b,i,none⟩=some u:=by
 have h':W.cell? ⟨b,i,none⟩=some u:=h;exact((fA (W:=W) (y:=y) v0 v1 v2 v3 v4).drew).cell (p:=⟨b,i,none⟩) hne h'
theorem zhK{W:World}{b y i:Nat}{u v0 v1:Value}(h:W.drew.cell? ⟨b,i,none⟩=some u)(hne:b≠y):((W.setCell ⟨y,0,none⟩ v0).setCell ⟨y,1,none⟩ v1).drew.cell? ⟨b,i,none⟩=some u:=by
 have h':W.cell? ⟨b,i,none⟩=some u:=h;exact((rT (W:=W) (y:=y) v0 v1).drew).cell (p:=⟨b,i,none⟩) hne h'
theorem yR{W:World}{y:Nat}(h:W.heap[y]?=some cC)(u0 u1 u2 u3:Value):((W.setCell ⟨y,0,none⟩ u0).drew.cell? ⟨y,1,none⟩=some (.int .i64 0)/\(W.setCell ⟨y,0,none⟩ u0).drew.frozen? ⟨y,1,none⟩=false)/\(((W.setCell ⟨y,0,none⟩ u0).setCell ⟨y,1,none⟩ u1).drew.cell? ⟨y,2,none⟩=some (.int .i64 0)/\((W.setCell ⟨y,0,none⟩ u0).setCell ⟨y,1,none⟩ u1).drew.frozen? ⟨y,2,none⟩=false)/\((((W.setCell ⟨y,0,none⟩ u0).setCell ⟨y,1,none⟩ u1).setCell ⟨y,2,none⟩ u2).drew.cell? ⟨y,3,none⟩=some (.int .i64 0)/\(((W.setCell ⟨y,0,none⟩ u0).setCell ⟨y,1,none⟩ u1).setCell ⟨y,2,none⟩ u2).drew.frozen? ⟨y,3,none⟩=false)/\(((((W.setCell ⟨y,0,none⟩ u0).setCell ⟨y,1,none⟩ u1).setCell ⟨y,2,none⟩ u2).setCell ⟨y,3,none⟩ u3).drew.cell? ⟨y,4,none⟩=some (.slice none 0 0)/\((((W.setCell ⟨y,0,none⟩ u0).setCell ⟨y,1,none⟩ u1).setCell ⟨y,2,none⟩ u2).setCell ⟨y,3,none⟩ u3).drew.frozen? ⟨y,4,none⟩=false):=by
 have h1:=bB h 0 u0;have h2:=bB h1 1 u1;have h3:=bB h2 2 u2;have h4:=bB h3 3 u3;have kd:∀ (X:World) (o:Obj),X.heap[y]?=some o->X.drew.heap[y]?=some o:=fun X o hx=>((Kt.refl nO X).drew.block _ (lH hx) id).trans hx
 refine⟨⟨?_,?_⟩,⟨?_,?_⟩,⟨?_,?_⟩,⟨?_,?_⟩⟩
 ·simp[World.cell?,kd _ _ h1]
 ·simp[World.frozen?,kd _ _ h1]
 ·simp[World.cell?,kd _ _ h2]
 ·simp[World.frozen?,kd _ _ h2]
 ·simp[World.cell?,kd _ _ h3]
 ·simp[World.frozen?,kd _ _ h3]
 ·simp[World.cell?,kd _ _ h4]
 ·simp[World.frozen?,kd _ _ h4]
theorem yS{W:World}{y:Nat}(h:W.heap[y]?=some lR)(u0:Value):(W.setCell ⟨y,0,none⟩ u0).drew.cell? ⟨y,1,none⟩=some (.int .u64 0)/\(W.setCell ⟨y,0,none⟩ u0).drew.frozen? ⟨y,1,none⟩=false:=by
 have h1:=bB h 0 u0;have kd:∀ (X:World) (o:Obj),X.heap[y]?=some o->X.drew.heap[y]?=some o:=fun X o hx=>((Kt.refl nO X).drew.block _ (lH hx) id).trans hx
 refine⟨?_,?_⟩
 ·simp[World.cell?,kd _ _ h1]
 ·simp[World.frozen?,kd _ _ h1]
structure Hx8(W:World)(y bS:Nat)(L o n:Int)(v:Value)(s:Sn8)(p r:Nat):Prop where
 b:W.heap[y]?=some (aM bS L o n v)
 s:W.heap[y+1]?=some (bA s)
 rb:W.heap[y+1+1]?=some cC
 rx:W.heap[y+1+1+1]?=some lR
 x:W.heap[y+1+1+1+1]?=some (dL p r)
theorem Hx8.keep{W W':World}{y bS:Nat}{L o n:Int}{v:Value}{s:Sn8}{p r:Nat}(h:Hx8 W y bS L o n v s p r)(k:Kt nO W W'):Hx8 W' y bS L o n v s p r:=⟨bK h.b k,iT h.s k,jP h.rb k,nC h.rx k,dB h.x k⟩
theorem JL(bS:Nat)(hb64:bS<18446744073709551616)(L o n:Nat)(hL:L<=64)(ho:o<=8)(hn:n<=64)(va:Option Addr)(vm vc:Nat)(l:List He8)(s:Sn8)(h0:s.e=2)(h1:s.v=0)(h2:s.dn=0)(h3:s.af=n*RS o)(r:Nat)(hr:r<18446744073709551616)(dn:Bool)(w:World)(hB:BK8 w (.slice va vm vc) l)(hS:O.stkV bS (L:Int) (o:Int) (n:Int) (aR l) r dn=true):
  Calls prog 149 #[aK bS (L:Int) (o:Int) (n:Int) (.slice va vm vc),aU s,.int .u64 r,.bool dn] w fun e w'=>e=.returned (.tuple #[aK bS (L:Int) (o:Int) (n:Int) (.slice va vm vc),.agg #[.int .u64 s.v,.int .u64 r],.bool true])/\Kt nO w w':=by
 have X4:=nY w (aM bS (L:Int) (o:Int) (n:Int) (.slice va vm vc)) (bA s) cC lR;have X5:=zD w (aM bS (L:Int) (o:Int) (n:Int) (.slice va vm vc)) (bA s) cC lR (dL s.v r);have BL:=aA (fun W (k:Kt nO w W)=>uG bS (L:Int) (o:Int) (n:Int) (.slice va vm vc) l W (hB.keep k));have SK:=aA (fun v W (h:O.BL W v (aR l))=>O.refStuck bS hb64 (L:Int) (o:Int) (n:Int) (by omega) (by omega) (by omega) (by omega) v (aR l) r hr dn W h);rw[hS] at SK;have RF:=aA (fun W=>rD bS (L:Int) o n ho hn va vm vc s 2 h0 h1 h2 h3 W);have HBD:=aA (And.intro hB.bnd hB.ln);clear hB hS h3 h2 h1 h0;obtain⟨e,v0,da,dn',dc,H,LL,B,F,af,fa,fn,fc⟩:=s;dsimp only at *;obtain⟨s0,s1,s2,s3,s4,s5,s6,s7,s8⟩:=aZ X4.2.2.1;dsimp only at s0 s1 s2 s3 s4 s5 s6 s7 s8;have X5:=aA X5;clear X4;go_enter func149,ntmps149;go_wp2_with fail;have BX:=aA (fun W' (k:Kt nO _ W')=>And.intro (bK X5.out.2.1 k) (And.intro (iT X5.out.2.2.1 k) (And.intro (jP X5.out.2.2.2.1 k) (And.intro (nC X5.out.2.2.2.2.1 k) (dB X5.out.2.2.2.2.2 k)))));refine(BL.out _ X5.out.1).mono ?_;rintro e2 w2 ⟨u,rfl,hG,_⟩;have hbl:O.BL w2 u (aR l):=GS.bl8 (by rw[jG];exact hG) (by rw[jG];have:=HBD.out.2;omega) HBD.out.1;have K2:=aA hG.kp;obtain⟨b0,b1,b2,b3,b4,bf⟩:=aD (BX.out _ K2.out).1;have SK2:=aA (SK.out u w2 hbl);clear hG hbl SK BL s0 s1 s2 s3 s4 s5 s6 s7 s8;go_wp2_with fail;refine SK2.out.mono ?_;rintro e3 w3 ⟨rfl,hk3⟩;have K3:=aA (nT K2.out hk3);clear hk3 SK2 b0 b1 b2 b3 b4 bf K2;obtain⟨b0,b1,b2,b3,b4,bf⟩:=aD (BX.out _ K3.out).1;obtain⟨s0,s1,s2,s3,s4,s5,s6,s7,s8⟩:=aZ (BX.out _ K3.out).2.1;dsimp only at s0 s1 s2 s3 s4 s5 s6 s7 s8;go_wp2_with fail;refine(RF.out _).mono ?_;rintro e4 w4 ⟨rfl,hk4⟩;have K4:=aA (nT K3.out hk4);have K5:=aA (nT K4.out ((Kt.refl nO w4).alloc (aM bS (L:Int) (o:Int) (n:Int) (.slice va vm vc))));clear hk4 RF b0 b1 b2 b3 b4 bf s0 s1 s2 s3 s4 s5 s6 s7 s8 K3;have HX:=aA (show Hx8 _ w.heap.size bS (L:Int) (o:Int) (n:Int) (.slice va vm vc) ⟨e,v0,da,dn',dc,H,LL,B,F,af,fa,fn,fc⟩ v0 r from⟨(BX.out _ K5.out).1,(BX.out _ K5.out).2.1,(BX.out _ K5.out).2.2.1,(BX.out _ K5.out).2.2.2.1,(BX.out _ K5.out).2.2.2.2⟩);have KW:=aA (nT X5.out.1 K5.out);clear BX X5 K4 K5;go_upto_region 5 with fail;generalize w4.alloc (aM bS (L:Int) (o:Int) (n:Int) (.slice va vm vc))=w5 at *;have HYW:=aA (Nat.le_refl w.heap.size);have HYE:=aA (show w.heap.size=w.heap.size from rfl);obtain⟨y,hy⟩:=xe (w.heap.size);have HYW:=aA (show w.heap.size<=y by omega);rw[<-hy] at HX ⊢;clear hy;obtain⟨h1,h2,h3,h4,h5⟩:=HX.out;have n1:y≠y+1+1:=by omega
 have n2:y≠y+1+1+1:=by omega
 have n3:y+1+1+1+1≠y+1+1:=by omega
 have n4:y+1+1+1+1≠y+1+1+1:=by omega
 have n5:y+1+1+1≠y+1+1:=by omega
 have HY2:=aA (show w.heap.size<=y+1+1/\w.heap.size<=y+1+1+1 from⟨by have:=HYW.out;omega,by have:=HYW.out;omega⟩);clear HX h2;generalize y+1+1+1+1=yx at *;generalize y+1+1+1=yq at *;generalize y+1+1=yr at *;have kd:∀ W:World,Kt nO W W.drew:=fun W=>(Kt.refl nO W).drew
 obtain⟨b0,b1,b2,b3,b4,bf⟩:=aD (bK h1 (kd _));obtain⟨x0,x1⟩:=gA (dB h5 (kd _));obtain⟨z0,z1,z2,z3,z4,zf⟩:=dE (jP h3 (kd _));have h4':=((fA (W:=w5) (y:=yr) (.int .u64 bS) (.int .i64 L) (.int .i64 o) (.int .i64 n) (.slice va vm vc)).block _ (lH h4) n5).trans h4;obtain⟨q0,q1,qf⟩:=pA (nC h4' (kd _));have H4:=aA (And.intro h3 (And.intro h4' h1));obtain⟨⟨w01,w02⟩,⟨w03,w04⟩,⟨w05,w06⟩,⟨w07,w08⟩⟩:=yR h3 (.int .u64 bS) (.int .i64 L) (.int .i64 o) (.int .i64 n);obtain⟨w09,w10⟩:=yS h4' (.int .u64 v0);clear kd h1 h3 h4 h5 h4' bf;go_region_held3 (fun w'=>w'.cell? ⟨y,0,none⟩=some (.int .u64 bS)/\w'.cell? ⟨y,1,none⟩=some (.int .i64 L)/\w'.cell? ⟨y,2,none⟩=some (.int .i64 o)/\w'.cell? ⟨y,3,none⟩=some (.int .i64 n)/\w'.cell? ⟨y,4,none⟩=some (.slice va vm vc)/\w'.cell? ⟨yx,0,none⟩=some (.int .u64 v0)/\w'.cell? ⟨yx,1,none⟩=some (.int .u64 r)) (((try dsimp only);(repeat' apply And.intro) <;> first|with_reducible assumption|with_reducible exact JN (by with_reducible assumption) (by with_reducible assumption)|with_reducible exact zhK (by first|with_reducible assumption|with_reducible exact JN (by with_reducible assumption) (by with_reducible assumption)) (by with_reducible assumption))) (fail)
 all_goals
  clear b0 b1 b2 b3 b4 x0 x1 z0 z1 z2 z3 z4 zf q0 q1 qf w01 w02 w03 w04 w05 w06 w07 w08 w09 w10;have k5:=fA (W:=w5) (y:=yr) (.int .u64 bS) (.int .i64 L) (.int .i64 o) (.int .i64 n) (.slice va vm vc);have r1:=dM (bS:=bS) (lim:=(L:Int)) (o:=(o:Int)) (n:=(n:Int)) (v:=.slice va vm vc) H4.out.1;have k2:=rT (W:=set5 w5 yr (.int .u64 bS) (.int .i64 L) (.int .i64 o) (.int .i64 n) (.slice va vm vc)) (y:=yq) (.int .u64 v0) (.int .u64 r);have r2:=(k2.block _ (lH r1) (Ne.symm n5)).trans r1;have r3:=vT (p:=v0) (s:=r) H4.out.2.1;have kd:∀ W:World,Kt nO W W.drew:=fun W=>(Kt.refl nO W).drew
  obtain⟨c0,c1,c2,c3,c4,cf⟩:=aD (bK r2 (kd _));obtain⟨p0,p1⟩:=gA (dB r3 (kd _));have D:=aA (((KW.out.trans k5 (U:=nO) (fun _ _ e=>e) (fun z hz e=>by have:=HY2.out.1;omega)).trans k2 (U:=nO) (fun _ _ e=>e) (fun z hz e=>by have:=HY2.out.2;omega)).drew);clear k5 k2 r1 r2 r3 kd;go_wp2_with fail;exact⟨rfl,.tuple #[aK bS (L:Int) (o:Int) (n:Int) (.slice va vm vc),.agg #[.int .u64 v0,.int .u64 r],.bool true],by simp[results,results149,go_sem,c0,c1,c2,c3,c4,p0,p1],rfl,D.out⟩
structure Hy8(w Wc W:World)(y yn bS:Nat)(L o n n':Int)(v:Value)(s:Sn8)(p r:Nat)(u:Value)(l:List (Nat×Nat)):Prop where
 kp:Kt nO w W
 hx:Hx8 W y bS L o n v s p r
 nb:W.heap[yn]?=some (aM bS L o n' v)
 gs:GS Wc W 162 2 u l.length (dC l)
theorem IE{W:World}{b y i:Nat}{u v0 v1:Value}(h:W.cell? ⟨b,i,none⟩=some u)(hne:b≠y):((W.setCell ⟨y,0,none⟩ v0).setCell ⟨y,1,none⟩ v1).cell? ⟨b,i,none⟩=some u:=(rT (W:=W) (y:=y) v0 v1).cell (p:=⟨b,i,none⟩) hne h
theorem ED{ops:Array Oper}{o:Oper}{a:Act}{K:Act->World->Prop}{Q:Exit->Act->World->Prop}{E:Prop}{w0 w:World}{v:Value}{n:Nat}{xs:List Value}(hG:GS w0 w 162 2 v n xs)(hn:n<=1000000)
  (hgd:o.guard=none) (s x:Operand) (hop:o.op=.call { callee:=.builtin .append,args:=#[s,x],argTypes:=#[165,165] })
  (hs:a.eval s=v) (b c2 p z:Nat) (hx:a.eval x=.slice (some ⟨b,0,none⟩) 1 c2) (hb:w.heap[b]?=some (dL p z))
  (h:∀ g2 cap2 w2,GS w0 w2 162 2 (.slice (some ⟨g2,0,none⟩) (n + 1) cap2) (n + 1) (xs ++ [.int .u64 p,.int .u64 z])->Kt (fun y=>v.ownBlock=some y) w w2->K (a.put o.dst (.slice (some ⟨g2,0,none⟩) (n + 1) cap2)) w2):
  if Region.wanted o (yielded ops a.tmps)=true then Oper.wp prog o a w K Q else E:=by
 have hw:Region.wanted o (yielded ops a.tmps)=true:=by simp[Region.wanted,hgd]
 rw[if_pos hw];obtain⟨i,hi,hzz⟩:=Option.map_eq_some_iff.1 EH;simp only[Prod.mk.injEq] at hzz;obtain⟨g2,cap2,w2,h1,h2,h5,h6,h7⟩:=hG.pushM 165 i (.agg #[.int .u64 0,.int .u64 0]) 16 Tryz.underlying165 hi hzz.1 hzz.2.1 hzz.2.2 rfl (by decide) ⟨b,0,none⟩ c2 1 (by decide) [.int .u64 p,.int .u64 z] rfl (World.news_of_block (cs:=#[.int .u64 p,.int .u64 z]) hb) (by simp[Value.oneCell']) (by simp only[maxLen];omega) (by omega);exact Lib.wp_append_run w s x _ _ hop _ _ hs hx _ _ (h1 _) (h g2 cap2 w2 h2 h6)
theorem Hy8.keep{w Wc W W':World}{y yn bS:Nat}{L o n n':Int}{v:Value}{s:Sn8}{p r:Nat}{u:Value}{l:List (Nat×Nat)}(h:Hy8 w Wc W y yn bS L o n n' v s p r u l)(k:Kt nO W W'):Hy8 w Wc W' y yn bS L o n n' v s p r u l:=⟨nT h.kp k,h.hx.keep k,bK h.nb k,h.gs.keep k⟩
theorem Hy8.more{w Wc W:World}{y yn bS:Nat}{L o n n' m:Int}{v:Value}{s:Sn8}{p r:Nat}{u:Value}{l:List (Nat×Nat)}(h:Hy8 w Wc W y yn bS L o n n' v s p r u l)(hw:w.heap.size<=y)(hy:y+1+1+1+1<yn)(hc:Wc.heap.size<=yn):Hy8 w Wc (W.setCell ⟨yn,3,none⟩ (.int .i64 m)) y yn bS L o n m v s p r u l:=by
 have k:Kt (fun z=>z=yn) W (W.setCell ⟨yn,3,none⟩ (.int .i64 m)):=(Kt.refl (fun z=>z=yn) W).setCell (p:=⟨yn,3,none⟩) rfl _;refine⟨h.kp.trans k (fun _ _ e=>e) (fun z hz e=>by omega),⟨(k.block _ (lH h.hx.b) (by omega)).trans h.hx.b,(k.block _ (lH h.hx.s) (by omega)).trans h.hx.s,(k.block _ (lH h.hx.rb) (by omega)).trans h.hx.rb,(k.block _ (lH h.hx.rx) (by omega)).trans h.hx.rx,(k.block _ (lH h.hx.x) (by omega)).trans h.hx.x⟩,?_,h.gs.setBox _ hc (fun e=>?_)⟩
 ·have:=bB h.nb 3 (.int .i64 m);simpa using this
 ·obtain⟨cs',hcs⟩:=cB h.gs.own e;exact absurd (bM hcs h.nb) (by decide)
theorem Hy8.wrote{w Wc W W':World}{y yn bS:Nat}{L o n n':Int}{v:Value}{s:Sn8}{p r:Nat}{u u':Value}{l l':List (Nat×Nat)}(h:Hy8 w Wc W y yn bS L o n n' v s p r u l)(hnw:∀ g,u.ownBlock=some g->Wc.heap.size<=g)(hy:y+1+1+1+1<Wc.heap.size)(hw:Kt nO w Wc)(k:Kt (fun z=>u.ownBlock=some z) W W')(hG:GS Wc W' 162 2 u' l'.length (dC l')):Hy8 w Wc W' y yn bS L o n n' v s p r u' l':=by
 have ne:∀ z,z<Wc.heap.size->¬(u.ownBlock=some z):=fun z hz e=>by have:=hnw z e;omega
 refine⟨nT hw hG.kp,⟨(k.block _ (lH h.hx.b) (ne _ (by omega))).trans h.hx.b,(k.block _ (lH h.hx.s) (ne _ (by omega))).trans h.hx.s,(k.block _ (lH h.hx.rb) (ne _ (by omega))).trans h.hx.rb,(k.block _ (lH h.hx.rx) (ne _ (by omega))).trans h.hx.rx,(k.block _ (lH h.hx.x) (ne _ (by omega))).trans h.hx.x⟩,(k.block _ (lH h.nb) (fun e=>?_)).trans h.nb,hG⟩;obtain⟨cs',hcs⟩:=cB h.gs.own e;exact absurd (bM hcs h.nb) (by decide)
theorem IR(bS:Nat)(hb64:bS<18446744073709551616)(L o n n':Nat)(hL:L<=64)(ho:o<=8)(hn:n'<=64)(va:Option Addr)(vm vc:Nat)(l:List He8)(s:Sn8)(h0:s.e=0)(r:Nat)(hr:r<=1048576)(h3:s.af=n'*RS o)(h4:s.fn=r)(hv:s.v<18446744073709551616)(dn:Bool)(w:World)(hB:BK8 w (.slice va vm vc) l)(hS:O.stkV bS (L:Int) (o:Int) (n:Int) (aR l) r dn=false)(nb:Bool)(hN:O.nofV bS (L:Int) (o:Int) (n:Int) (aR l) r=nb)(hn':n'=if nb=true then n + 1 else n)(hD:O.sndV bS (L:Int) (o:Int) (n':Int) (aR l ++ [(s.v,r)]) = -1):
  Calls prog 149 #[aK bS (L:Int) (o:Int) (n:Int) (.slice va vm vc),aU s,.int .u64 r,.bool dn] w fun e w'=>e=.returned (.tuple #[aK bS (L:Int) (o:Int) (n':Int) (.slice va vm vc),.agg #[.int .u64 s.v,.int .u64 r],.bool true])/\Kt nO w w':=by
 have X4:=nY w (aM bS (L:Int) (o:Int) (n:Int) (.slice va vm vc)) (bA s) cC lR;have X5:=zD w (aM bS (L:Int) (o:Int) (n:Int) (.slice va vm vc)) (bA s) cC lR (dL s.v r);have BL:=aA (fun W (k:Kt nO w W)=>uG bS (L:Int) (o:Int) (n:Int) (.slice va vm vc) l W (hB.keep k));have SK:=aA (fun v W (h:O.BL W v (aR l))=>O.refStuck bS hb64 (L:Int) (o:Int) (n:Int) (by omega) (by omega) (by omega) (by omega) v (aR l) r (by omega) dn W h);rw[hS] at SK;have NF:=aA (fun v W (h:O.BL W v (aR l))=>O.refNoFit bS hb64 (L:Int) (o:Int) (n:Int) (by omega) (by omega) (by omega) (by omega) v (aR l) r (by omega) W h);rw[hN] at NF;have SD:=aA (fun v W (h:O.BL W v (aR l ++ [(s.v,r)]))=>O.refSound bS hb64 (L:Int) (o:Int) (n':Int) (by omega) (by omega) (by omega) (by omega) v (aR l ++ [(s.v,r)]) W h);rw[hD] at SD;have HH:=aA (fun W=>H8 bS (L:Int) o n' ho hn (.slice va vm vc) W);rw[<-h3] at HH;have HBD:=aA (And.intro hB.bnd (And.intro hB.ln (And.intro hv (show r<2 ^ 64 by omega))));clear hB hS h3 hN hD hv;obtain⟨e,v0,da,dn',dc,H,LL,B,F,af,fa,fn,fc⟩:=s;dsimp only at *;subst h0 h4;obtain⟨s0,s1,s2,s3,s4,s5,s6,s7,s8⟩:=aZ X4.2.2.1;dsimp only at s0 s1 s2 s3 s4 s5 s6 s7 s8;have X5:=aA X5;clear X4;go_enter func149,ntmps149;go_wp2_with fail;have BX:=aA (fun W' (k:Kt nO _ W')=>And.intro (bK X5.out.2.1 k) (And.intro (iT X5.out.2.2.1 k) (And.intro (jP X5.out.2.2.2.1 k) (And.intro (nC X5.out.2.2.2.2.1 k) (dB X5.out.2.2.2.2.2 k)))));refine(BL.out _ X5.out.1).mono ?_;rintro e2 w2 ⟨u,rfl,hG,hnw⟩;obtain⟨ua,uc,rfl⟩:=eR hG.own;have HNW:=aA hnw;clear hnw;obtain⟨m,hm⟩:=xe (l.length);have HMM:=aA hm;rw[<-hm] at hG HNW ⊢;clear hm;have hbl:O.BL w2 (.slice ua m uc) (aR l):=GS.bl8 (by rw[jG,<-HMM.out];exact hG) (by rw[jG];have:=HBD.out.2.1;omega) HBD.out.1;have K2:=aA hG.kp;have G2:=aA hG;have B2:=aA hbl;obtain⟨b0,b1,b2,b3,b4,bf⟩:=aD (BX.out _ K2.out).1;have SK2:=aA (SK.out (.slice ua m uc) w2 hbl);clear hG hbl SK BL s0 s1 s2 s3 s4 s5 s6 s7 s8;go_wp2_with fail;refine SK2.out.mono ?_;rintro e3 w3 ⟨rfl,hk3⟩;have K3:=aA (nT K2.out hk3);have G3:=aA (G2.out.keep hk3);have NF3:=aA (NF.out (.slice ua m uc) (w3.alloc (aM bS (L:Int) (o:Int) (n:Int) (.slice va vm vc))) ((B2.out.keep hk3).keep ((Kt.refl nO w3).alloc _)));clear hk3 SK2 b0 b1 b2 b3 b4 bf K2 G2 NF B2;obtain⟨b0,b1,b2,b3,b4,bf⟩:=aD (BX.out _ K3.out).1;obtain⟨c0,c1,c2,c3,c4,cf⟩:=aD (bK (BX.out _ K3.out).1 ((Kt.refl nO w3).alloc (aM bS (L:Int) (o:Int) (n:Int) (.slice va vm vc))));go_wp2_with fail;refine NF3.out.mono ?_;rintro e4 w4 ⟨rfl,hk4⟩;have KA:=(Kt.refl nO w3).alloc (aM bS (L:Int) (o:Int) (n:Int) (.slice va vm vc));have K4:=aA (nT K3.out (nT KA hk4));have G4:=aA (G3.out.keep (nT KA hk4));have N4:=aA (bK (nH w3 (aM bS (L:Int) (o:Int) (n:Int) (.slice va vm vc))) hk4);have HWC:=aA (And.intro X5.out.1 (lH X5.out.2.2.2.2.2));have HZ:=aA (show w.heap.size+1+1+1+1<w3.heap.size from lH (BX.out _ K3.out).2.2.2.2);have hWc:=K3.out.size;have Y4:=aA (show Hy8 w _ w4 w.heap.size w3.heap.size bS (L:Int) (o:Int) (n:Int) (n:Int) (.slice va vm vc) ⟨0,v0,da,dn',dc,H,LL,B,F,af,fa,fn,fc⟩ v0 fn (.slice ua m uc) (aR l)from⟨nT X5.out.1 K4.out,⟨(BX.out _ K4.out).1,(BX.out _ K4.out).2.1,(BX.out _ K4.out).2.2.1,(BX.out _ K4.out).2.2.2.1,(BX.out _ K4.out).2.2.2.2⟩,N4.out,by rw[jG,<-HMM.out];exact G4.out⟩);have Y5:=aA (Y4.out.more (m:=(n':Int)) (Nat.le_refl _) HZ.out hWc);have Y4:=aA (Y4.out);clear hk4 KA NF3 K3 G3 b0 b1 b2 b3 b4 bf c0 c1 c2 c3 c4 cf K4 G4 N4 BX;generalize (((((w.alloc (aM bS (L:Int) (o:Int) (n:Int) (.slice va vm vc))).alloc (bA ⟨0,v0,da,dn',dc,H,LL,B,F,af,fa,fn,fc⟩)).alloc cC).alloc lR).alloc (dL v0 fn))=Wc at *;obtain⟨b0,b1,b2,b3,b4,bf⟩:=aD Y4.out.hx.b;obtain⟨t0,t1,t2,t3,t4,tf⟩:=aD Y4.out.nb
 cases nb with
 | true=>
  have hni:(n:Int)+1=(n':Int):=by rw[hn'];simp
  clear hn';go_wp2_with fail;generalize w4.setCell ⟨w3.heap.size,3,none⟩ (.int .i64 n')=w5 at *;have YY:=aA Y5.out;clear Y4 Y5 hni;clear b0 b1 b2 b3 b4 bf t0 t1 t2 t3 t4 tf;obtain⟨s0,s1,s2,s3,s4,s5,s6,s7,s8⟩:=sH YY.out.hx.s;obtain⟨t0,t1,t2,t3,t4⟩:=oY YY.out.nb;dsimp only at s0 s1 s2 s3 s4 s5 s6 s7 s8;have hfi:IntKind.i64.wrap (fn:Int)=fn:=by rw[IntKind.wrap_i64];omega
  refine fC (by kernel_rfl) (by kernel_rfl) ?_;repeat (go_big_quiet_step (first|(go_at_call 108;exact Calls.kept_of (HH.out _))|fail))
  refine wpQuiet_nil ?_;intro z;have Y6:=aA (YY.out.keep z.k);clear s0 s1 s2 s3 s4 s5 s6 s7 s8 t0 t1 t2 t3 t4 hfi YY HH;generalize z.v=w6 at *;go_upto_region 11 with fail;have kd:∀ W:World,Kt nO W W.drew:=fun W=>(Kt.refl nO W).drew
  have KX:=nT ((Kt.refl nO w6).alloc (dL v0 fn)) (kd _);have YA:=aA (Y6.out.keep KX);have NA:=aA (dB (nH w6 (dL v0 fn)) (kd _));obtain⟨b0,b1,b2,b3,b4,bf⟩:=aD (bK Y6.out.hx.b (kd _));obtain⟨t0,t1,t2,t3,t4,tf⟩:=aD (bK Y6.out.nb (kd _));obtain⟨x0,x1⟩:=gA (dB Y6.out.hx.x (kd _));obtain⟨b0a,b1a,b2a,b3a,b4a,bfa⟩:=aD YA.out.hx.b;obtain⟨t0a,t1a,t2a,t3a,t4a,tfa⟩:=aD YA.out.nb;obtain⟨x0a,x1a⟩:=gA YA.out.hx.x;have HLM:=aA (show(aR l).length=m by rw[jG];exact HMM.out.symm);have HLN:=aA (show(aR l ++ [(v0,fn)]).length<=1000000 by
   rw[List.length_append,HLM.out];show m+1<=1000000
   have:=HBD.out.2.1;have:=HMM.out;omega)
  have HBL:=aA (show ∀ b∈aR l ++ [(v0,fn)],b.1<2 ^ 64/\b.2<2 ^ 64 from fun b hb=>by
   rcases List.mem_append.1 hb with hb|hb
   ·exact HBD.out.1 b hb
   ·simp only[List.mem_cons,List.not_mem_nil,or_false] at hb;subst hb;exact⟨HBD.out.2.2.1,HBD.out.2.2.2⟩)
  have hm6:m<=1000000:=by have:=HBD.out.2.1;have:=HMM.out;omega
  have hyn2:w3.heap.size≠w.heap.size+1+1:=by have:=HZ.out;omega
  have hyn3:w3.heap.size≠w.heap.size+1+1+1:=by have:=HZ.out;omega
  have hyb2:w.heap.size≠w.heap.size+1+1:=by omega
  have hyb3:w.heap.size≠w.heap.size+1+1+1:=by omega
  have hyx2:w.heap.size+1+1+1+1≠w.heap.size+1+1:=by omega
  have hyx3:w.heap.size+1+1+1+1≠w.heap.size+1+1+1:=by omega
  clear kd KX bf tf bfa tfa b3 b4 b3a b4a;go_region_held3 (fun w'=>w'.cell? ⟨w.heap.size,0,none⟩=some (.int .u64 bS)/\w'.cell? ⟨w.heap.size,1,none⟩=some (.int .i64 L)/\w'.cell? ⟨w.heap.size,2,none⟩=some (.int .i64 o)/\w'.cell? ⟨w3.heap.size,0,none⟩=some (.int .u64 bS)/\w'.cell? ⟨w3.heap.size,1,none⟩=some (.int .i64 L)/\w'.cell? ⟨w3.heap.size,2,none⟩=some (.int .i64 o)/\w'.cell? ⟨w3.heap.size,3,none⟩=some (.int .i64 n')/\w'.cell? ⟨w3.heap.size,4,none⟩=some (.slice va vm vc)/\w'.cell? ⟨w.heap.size+1+1+1+1,0,none⟩=some (.int .u64 v0)/\w'.cell? ⟨w.heap.size+1+1+1+1,1,none⟩=some (.int .u64 fn)) (((try dsimp only);(repeat' apply And.intro) <;> first|with_reducible assumption|with_reducible exact gC (by with_reducible assumption) (by with_reducible assumption)|with_reducible exact IE (by first|with_reducible assumption|with_reducible exact gC (by with_reducible assumption) (by with_reducible assumption)) (by with_reducible assumption))) (first
   | (refine ED (w0:=Wc) (v:=.slice ua m uc) (n:=m) (xs:=dC (aR l)) (by have:=YA.out.gs;rw[HLM.out] at this;exact this) hm6 rfl (.tmp 77) (.tmp 79) rfl rfl _ 1 v0 fn rfl NA.out ?_;intro g7 cap7 w7 hG7 hK7;have Y7:=aA (YA.out.wrote (l':=aR l ++ [(v0,fn)]) HNW.out HWC.out.2 HWC.out.1 hK7 (by rw[List.length_append,HLM.out,nN];exact hG7));obtain⟨b0b,b1b,b2b,b3b,b4b,bfb⟩:=aD Y7.out.hx.b;obtain⟨t0b,t1b,t2b,t3b,t4b,tfb⟩:=aD Y7.out.nb;obtain⟨x0b,x1b⟩:=gA Y7.out.hx.x;have S7:=aA (SD.out _ _ (GS.bl8 Y7.out.gs (HLN.out) (HBL.out)));clear hG7 hK7 bfb tfb b3b b4b)
   | (go_at_call 203;(with_reducible refine S7.out.mono ?_);rintro e8 w8 ⟨rfl,hk8⟩;have Y8:=aA (Y7.out.keep hk8);obtain⟨b0c,b1c,b2c,b3c,b4c,bfc⟩:=aD Y8.out.hx.b;obtain⟨t0c,t1c,t2c,t3c,t4c,tfc⟩:=aD Y8.out.nb;obtain⟨x0c,x1c⟩:=gA Y8.out.hx.x;obtain⟨z0,z1,z2,z3,z4,zf⟩:=dE Y8.out.hx.rb;obtain⟨q0,q1,qf⟩:=pA Y8.out.hx.rx;clear hk8 bfc tfc b3c b4c)
   | fail)
  all_goals
   have k5:=fA (W:=w8) (y:=w.heap.size+1+1) (.int .u64 bS) (.int .i64 L) (.int .i64 o) (.int .i64 n') (.slice va vm vc);have r1:=dM (bS:=bS) (lim:=(L:Int)) (o:=(o:Int)) (n:=(n':Int)) (v:=.slice va vm vc) Y8.out.hx.rb;have r4:=(k5.block _ (lH Y8.out.hx.rx) (by omega)).trans Y8.out.hx.rx;have k2:=rT (W:=set5 w8 (w.heap.size+1+1) (.int .u64 bS) (.int .i64 L) (.int .i64 o) (.int .i64 n') (.slice va vm vc)) (y:=w.heap.size+1+1+1) (.int .u64 v0) (.int .u64 fn);have r2:=(k2.block _ (lH r1) (by omega)).trans r1;have r3:=vT (p:=v0) (s:=fn) r4;obtain⟨c0,c1,c2,c3,c4,cf⟩:=aD r2;obtain⟨p0,p1⟩:=gA r3;have D:=aA ((Y8.out.kp.trans k5 (U:=nO) (fun _ _ e=>e) (fun z hz e=>by omega)).trans k2 (U:=nO) (fun _ _ e=>e) (fun z hz e=>by omega));clear k5 k2 r1 r2 r3 r4 b0 b1 b2 t0 t1 t2 t3 t4 x0 x1 b0a b1a b2a t0a t1a t2a t3a t4a x0a x1a b0b b1b b2b t0b t1b t2b t3b t4b x0b x1b b0c b1c b2c t0c t1c t2c t3c t4c x0c x1c z0 z1 z2 z3 z4 zf q0 q1 qf;go_wp2_with fail;exact⟨rfl,.tuple #[aK bS (L:Int) (o:Int) (n':Int) (.slice va vm vc),.agg #[.int .u64 v0,.int .u64 fn],.bool true],by simp[results,results149,go_sem,c0,c1,c2,c3,c4,p0,p1],rfl,D.out⟩
 | false=>
  obtain rfl:n'=n:=hn';clear Y5;go_wp2_with fail;have YY:=aA Y4.out;clear Y4;clear b0 b1 b2 b3 b4 bf t0 t1 t2 t3 t4 tf;obtain⟨s0,s1,s2,s3,s4,s5,s6,s7,s8⟩:=sH YY.out.hx.s;obtain⟨t0,t1,t2,t3,t4⟩:=oY YY.out.nb;dsimp only at s0 s1 s2 s3 s4 s5 s6 s7 s8;have hfi:IntKind.i64.wrap (fn:Int)=fn:=by rw[IntKind.wrap_i64];omega
  refine fC (by kernel_rfl) (by kernel_rfl) ?_;repeat (go_big_quiet_step (first|(go_at_call 108;exact Calls.kept_of (HH.out _))|fail))
  refine wpQuiet_nil ?_;intro z;have Y6:=aA (YY.out.keep z.k);clear s0 s1 s2 s3 s4 s5 s6 s7 s8 t0 t1 t2 t3 t4 hfi YY HH;generalize z.v=w6 at *;go_upto_region 11 with fail;have kd:∀ W:World,Kt nO W W.drew:=fun W=>(Kt.refl nO W).drew
  have KX:=nT ((Kt.refl nO w6).alloc (dL v0 fn)) (kd _);have YA:=aA (Y6.out.keep KX);have NA:=aA (dB (nH w6 (dL v0 fn)) (kd _));obtain⟨b0,b1,b2,b3,b4,bf⟩:=aD (bK Y6.out.hx.b (kd _));obtain⟨t0,t1,t2,t3,t4,tf⟩:=aD (bK Y6.out.nb (kd _));obtain⟨x0,x1⟩:=gA (dB Y6.out.hx.x (kd _));obtain⟨b0a,b1a,b2a,b3a,b4a,bfa⟩:=aD YA.out.hx.b;obtain⟨t0a,t1a,t2a,t3a,t4a,tfa⟩:=aD YA.out.nb;obtain⟨x0a,x1a⟩:=gA YA.out.hx.x;have HLM:=aA (show(aR l).length=m by rw[jG];exact HMM.out.symm);have HLN:=aA (show(aR l ++ [(v0,fn)]).length<=1000000 by
   rw[List.length_append,HLM.out];show m+1<=1000000
   have:=HBD.out.2.1;have:=HMM.out;omega)
  have HBL:=aA (show ∀ b∈aR l ++ [(v0,fn)],b.1<2 ^ 64/\b.2<2 ^ 64 from fun b hb=>by
   rcases List.mem_append.1 hb with hb|hb
   ·exact HBD.out.1 b hb
   ·simp only[List.mem_cons,List.not_mem_nil,or_false] at hb;subst hb;exact⟨HBD.out.2.2.1,HBD.out.2.2.2⟩)
  have hm6:m<=1000000:=by have:=HBD.out.2.1;have:=HMM.out;omega
  have hyn2:w3.heap.size≠w.heap.size+1+1:=by have:=HZ.out;omega
  have hyn3:w3.heap.size≠w.heap.size+1+1+1:=by have:=HZ.out;omega
  have hyb2:w.heap.size≠w.heap.size+1+1:=by omega
  have hyb3:w.heap.size≠w.heap.size+1+1+1:=by omega
  have hyx2:w.heap.size+1+1+1+1≠w.heap.size+1+1:=by omega
  have hyx3:w.heap.size+1+1+1+1≠w.heap.size+1+1+1:=by omega
  clear kd KX bf tf bfa tfa b3 b4 b3a b4a;go_region_held3 (fun w'=>w'.cell? ⟨w.heap.size,0,none⟩=some (.int .u64 bS)/\w'.cell? ⟨w.heap.size,1,none⟩=some (.int .i64 L)/\w'.cell? ⟨w.heap.size,2,none⟩=some (.int .i64 o)/\w'.cell? ⟨w3.heap.size,0,none⟩=some (.int .u64 bS)/\w'.cell? ⟨w3.heap.size,1,none⟩=some (.int .i64 L)/\w'.cell? ⟨w3.heap.size,2,none⟩=some (.int .i64 o)/\w'.cell? ⟨w3.heap.size,3,none⟩=some (.int .i64 n')/\w'.cell? ⟨w3.heap.size,4,none⟩=some (.slice va vm vc)/\w'.cell? ⟨w.heap.size+1+1+1+1,0,none⟩=some (.int .u64 v0)/\w'.cell? ⟨w.heap.size+1+1+1+1,1,none⟩=some (.int .u64 fn)) (((try dsimp only);(repeat' apply And.intro) <;> first|with_reducible assumption|with_reducible exact gC (by with_reducible assumption) (by with_reducible assumption)|with_reducible exact IE (by first|with_reducible assumption|with_reducible exact gC (by with_reducible assumption) (by with_reducible assumption)) (by with_reducible assumption))) (first
   | (refine ED (w0:=Wc) (v:=.slice ua m uc) (n:=m) (xs:=dC (aR l)) (by have:=YA.out.gs;rw[HLM.out] at this;exact this) hm6 rfl (.tmp 77) (.tmp 79) rfl rfl _ 1 v0 fn rfl NA.out ?_;intro g7 cap7 w7 hG7 hK7;have Y7:=aA (YA.out.wrote (l':=aR l ++ [(v0,fn)]) HNW.out HWC.out.2 HWC.out.1 hK7 (by rw[List.length_append,HLM.out,nN];exact hG7));obtain⟨b0b,b1b,b2b,b3b,b4b,bfb⟩:=aD Y7.out.hx.b;obtain⟨t0b,t1b,t2b,t3b,t4b,tfb⟩:=aD Y7.out.nb;obtain⟨x0b,x1b⟩:=gA Y7.out.hx.x;have S7:=aA (SD.out _ _ (GS.bl8 Y7.out.gs (HLN.out) (HBL.out)));clear hG7 hK7 bfb tfb b3b b4b)
   | (go_at_call 203;(with_reducible refine S7.out.mono ?_);rintro e8 w8 ⟨rfl,hk8⟩;have Y8:=aA (Y7.out.keep hk8);obtain⟨b0c,b1c,b2c,b3c,b4c,bfc⟩:=aD Y8.out.hx.b;obtain⟨t0c,t1c,t2c,t3c,t4c,tfc⟩:=aD Y8.out.nb;obtain⟨x0c,x1c⟩:=gA Y8.out.hx.x;obtain⟨z0,z1,z2,z3,z4,zf⟩:=dE Y8.out.hx.rb;obtain⟨q0,q1,qf⟩:=pA Y8.out.hx.rx;clear hk8 bfc tfc b3c b4c)
   | fail)
  all_goals
   have k5:=fA (W:=w8) (y:=w.heap.size+1+1) (.int .u64 bS) (.int .i64 L) (.int .i64 o) (.int .i64 n') (.slice va vm vc);have r1:=dM (bS:=bS) (lim:=(L:Int)) (o:=(o:Int)) (n:=(n':Int)) (v:=.slice va vm vc) Y8.out.hx.rb;have r4:=(k5.block _ (lH Y8.out.hx.rx) (by omega)).trans Y8.out.hx.rx;have k2:=rT (W:=set5 w8 (w.heap.size+1+1) (.int .u64 bS) (.int .i64 L) (.int .i64 o) (.int .i64 n') (.slice va vm vc)) (y:=w.heap.size+1+1+1) (.int .u64 v0) (.int .u64 fn);have r2:=(k2.block _ (lH r1) (by omega)).trans r1;have r3:=vT (p:=v0) (s:=fn) r4;obtain⟨c0,c1,c2,c3,c4,cf⟩:=aD r2;obtain⟨p0,p1⟩:=gA r3;have D:=aA ((Y8.out.kp.trans k5 (U:=nO) (fun _ _ e=>e) (fun z hz e=>by omega)).trans k2 (U:=nO) (fun _ _ e=>e) (fun z hz e=>by omega));clear k5 k2 r1 r2 r3 r4 b0 b1 b2 t0 t1 t2 t3 t4 x0 x1 b0a b1a b2a t0a t1a t2a t3a t4a x0a x1a b0b b1b b2b t0b t1b t2b t3b t4b x0b x1b b0c b1c b2c t0c t1c t2c t3c t4c x0c x1c z0 z1 z2 z3 z4 zf q0 q1 qf;go_wp2_with fail;exact⟨rfl,.tuple #[aK bS (L:Int) (o:Int) (n':Int) (.slice va vm vc),.agg #[.int .u64 v0,.int .u64 fn],.bool true],by simp[results,results149,go_sem,c0,c1,c2,c3,c4,p0,p1],rfl,D.out⟩
end Go.Proofs.YtbgbfpklgfpepaaGreatDoor
