import Derived.Test.YtfmgnljlkdmndaaGreatDoorXk
set_option maxRecDepth 1000000
set_option maxHeartbeats 0
namespace Go.Proofs.YtfmgnljlkdmndaaGreatDoor
namespace W
open Tryz RowKit
set_option linter.unusedVariables false
abbrev slP:Pg:=⟨4,0,7,1,-1,-1,0,2,0,0,0⟩
abbrev liP:Pg:=⟨2,0,0,0,-1,-1,-1,0,0,0,0⟩
def mD:Img:={ bK with pg:=fun i=>if i=0 then slP else liP,hd:=[0,0],pt:=[-1,-1,-1,-1,-1,-1,-1,0] }
theorem gen_world{P:Wd->Prop}(w:Wd)(h:∀ W,W=w->P W):P w:=h w rfl
theorem RA{w W:Wd}{a b c d:Obj}(h:W=(((w.alloc a).alloc b).alloc c).alloc d):Kt nO w W:=h▸(((((kz w).alloc a).alloc b).alloc c).alloc d)
theorem QZ{w W:Wd}{a b c d:Obj}(h:W=(((w.alloc a).alloc b).alloc c).alloc d):W.heap[w.heap.size]?=some a:=by
 subst h;show((((w.heap.push a).push b).push c).push d)[w.heap.size]?=_
 rw[df,ac (by simp only[Array.size_push];omega),df,ac (by simp only[Array.size_push];omega),df,ac (by simp only[Array.size_push];omega),df,ae rfl]
theorem QY{w W:Wd}{a b c d:Obj}(h:W=(((w.alloc a).alloc b).alloc c).alloc d):W.heap[w.heap.size+1+1]?=some c:=by
 subst h;show((((w.heap.push a).push b).push c).push d)[w.heap.size+1+1]?=_
 rw[df,ac (by simp only[Array.size_push];omega),df,ae (by simp only[Array.size_push])]
theorem QX{w W:Wd}{a b c d:Obj}(h:W=(((w.alloc a).alloc b).alloc c).alloc d):W.heap[w.heap.size+1+1+1]?=some d:=by
 subst h;show((((w.heap.push a).push b).push c).push d)[w.heap.size+1+1+1]?=_
 rw[df,ae (by simp only[Array.size_push])]
theorem QW:ImOk mD:=by
 refine⟨by decide,by decide,by decide,by decide,by decide,by decide,by decide,by decide,by decide,fun _ _=>Nat.zero_lt_succ _,fun i hi=>?_,AN.pr,?_,?_⟩
 ·have:i=0\/i=1:=by have:mD.np=2:=rfl;omega
  rcases this with rfl|rfl <;> exact⟨by decide,by decide,by decide,by decide,by decide,by decide,by decide,by decide,by decide,by decide,by decide⟩
 ·decide
 ·decide
theorem zgs(w:Wd):Calls prog 18 #[] w fun e w'=>∃ V ws,e=.returned (imA mD V)/\ImX w.heap.size w' mD V ws/\Kt nO w w':=by
 have VD:=aA (fun W=>GH W);go_enter func18,ntmps18;go_wp2_with fail;refine(VD.o _).mono ?_;have Q:(w.alloc eK).heap[w.heap.size]?=some eK:=nH w eK;have Y:Kt nO w (w.alloc eK):=(Kt.refl _ w).alloc _;have SZ:w.heap.size<=(w.alloc eK).heap.size:=Y.size;rintro e a ⟨V,rfl,hV,hK⟩;obtain⟨ws,l⟩:=hV.x;replace l:=l.le SZ;have d:a.heap[w.heap.size]?=some eK:=(hK.block _ (lH Q) (fun x=>x)).trans Q;have HK:=aA (nT Y hK);clear hV hK SZ Q Y;obtain⟨v1,v2,v3,v4,v5⟩:=V;have o:=aA l;obtain⟨bm,cm,a1,q1,a2,a3,a4⟩:=l.m;obtain⟨bp,cp,b1,q2,b2,b3,b4⟩:=l.p;obtain⟨br,cr,c1,q3,c2,c3,c4⟩:=l.r;obtain⟨bh,ch,d1,q4,d2,d3,d4⟩:=l.h;obtain⟨bt,ct,e1,q5,e2,e3,e4⟩:=l.t;clear l a2 a3 a4 b2 b3 b4 c2 c3 c4 d2 d3 d4 e2 e3 e4;have L:v1=.slice (some ⟨bm,0,none⟩) 8192 8192:=q1;have S:v2=.slice (some ⟨bp,0,none⟩) 2 2:=q2;have K:v3=.slice (some ⟨br,0,none⟩) 1 1:=q3;have Z:v4=.slice (some ⟨bh,0,none⟩) 2 2:=q4;have a0:v5=.slice (some ⟨bt,0,none⟩) 8 8:=q5;clear q1 q2 q3 q4 q5;subst L S K Z a0;have G:=o.o.t.cell (j:=7) (by decide);have z7:=o.o.t.mq 7;have n1:bt<a.heap.size:=oV G;have n0:w.heap.size<a.heap.size:=lH d;have BT:=aA e1;clear a1 b1 c1 d1 e1;have c0:a.cell? ⟨w.heap.size,0,none⟩=some (.int .u64 0):=by simp[World.cell?,d]
 have z0:a.frozen? ⟨w.heap.size,0,none⟩=false:=by simp[World.frozen?,d]
 have c1:a.cell? ⟨w.heap.size,1,none⟩=some ((.int .i64 0)):=by simp[World.cell?,d]
 have z1:a.frozen? ⟨w.heap.size,1,none⟩=false:=by simp[World.frozen?,d]
 have c2:a.cell? ⟨w.heap.size,2,none⟩=some ((.int .i64 0)):=by simp[World.cell?,d]
 have z2:a.frozen? ⟨w.heap.size,2,none⟩=false:=by simp[World.frozen?,d]
 have c3:a.cell? ⟨w.heap.size,3,none⟩=some ((.int .i64 0)):=by simp[World.cell?,d]
 have z3:a.frozen? ⟨w.heap.size,3,none⟩=false:=by simp[World.frozen?,d]
 have c4:a.cell? ⟨w.heap.size,4,none⟩=some ((.slice none 0 0)):=by simp[World.cell?,d]
 have z4:a.frozen? ⟨w.heap.size,4,none⟩=false:=by simp[World.frozen?,d]
 have c5:a.cell? ⟨w.heap.size,5,none⟩=some ((.slice none 0 0)):=by simp[World.cell?,d]
 have z5:a.frozen? ⟨w.heap.size,5,none⟩=false:=by simp[World.frozen?,d]
 have c6:a.cell? ⟨w.heap.size,6,none⟩=some ((.slice none 0 0)):=by simp[World.cell?,d]
 have z6:a.frozen? ⟨w.heap.size,6,none⟩=false:=by simp[World.frozen?,d]
 have c7:a.cell? ⟨w.heap.size,7,none⟩=some ((.slice none 0 0)):=by simp[World.cell?,d]
 have a5:a.frozen? ⟨w.heap.size,7,none⟩=false:=by simp[World.frozen?,d]
 have c8:a.cell? ⟨w.heap.size,8,none⟩=some ((.slice none 0 0)):=by simp[World.cell?,d]
 have z8:a.frozen? ⟨w.heap.size,8,none⟩=false:=by simp[World.frozen?,d]
 have R:=aA d;clear d;go_upto_region 6 with fail;refine gen_world (P:=fun W=>Code.wp prog _ _ _ W) _ ?_;intro W B;have J:=RA B;have X4:=QZ B;have HP:=aA (QY B);have U:=aA (QX B);have sz:a.heap.size+1+1+1<W.heap.size:=lH U.o;clear B;replace G:=J.cell (fun x=>x) G;have y7:W.frozen? ⟨bt,7,none⟩=false:=by have:=(o.o.t.dk J).mq 7;exact this
 have i8:W.cell? ⟨a.heap.size,8,none⟩=some (.slice (some ⟨bt,0,none⟩) 8 8):=by simp[World.cell?,X4]
 have D:=aA X4;have q:=aA J;clear X4 J z7;go_upto_region 7 with fail;refine gen_world (P:=fun W=>Code.wp prog _ _ _ W) _ ?_;intro c y;have E:Kt (fun b=>b=bt) W c:=y▸(Kt.refl (fun b=>b=bt) W).setCell (p:=⟨bt,7,none⟩) rfl (.int .i64 0);have g:=(E.block _ (lH D.o) (fun e=>by omega)).trans D.o;have f:=(E.block _ (bg (lH R.o) q.o.size) (fun e=>by have:=BT.o;omega)).trans ((q.o.block _ (lH R.o) (fun x=>x)).trans R.o);have C:=aA (show XR w.heap.size c (.slice (some ⟨bt,0,none⟩) 8 8) 8 3 8 fun j=>.int .i64 (mD.pt.getD j 0)from y▸(((o.o.t.dk q.o).put (k:=7) (by decide) (.int .i64 0)).congr fun j I=>by
  have I:j<8:=I;rcases j with _|_|_|_|_|_|_|_|j
  all_goals first|rfl|omega))
 clear y;have A:=aA E;have X:=aA f;have m0:c.cell? ⟨a.heap.size,0,none⟩=some (.int .u64 bK.bS):=by simp[World.cell?,g]
 have m1:c.cell? ⟨a.heap.size,1,none⟩=some (.int .i64 bK.dl):=by simp[World.cell?,g]
 have m2:c.cell? ⟨a.heap.size,2,none⟩=some (.int .i64 bK.ord):=by simp[World.cell?,g]
 have m3:c.cell? ⟨a.heap.size,3,none⟩=some (.int .i64 bK.ep):=by simp[World.cell?,g]
 have m4:c.cell? ⟨a.heap.size,4,none⟩=some (.slice (some ⟨bm,0,none⟩) 8192 8192):=by simp[World.cell?,g]
 have m5:c.cell? ⟨a.heap.size,5,none⟩=some (.slice (some ⟨a.heap.size+1+1,0,none⟩) 2 2):=by simp[World.cell?,g]
 have m6:c.cell? ⟨a.heap.size,6,none⟩=some (.slice (some ⟨br,0,none⟩) 1 1):=by simp[World.cell?,g]
 have m7:c.cell? ⟨a.heap.size,7,none⟩=some (.slice (some ⟨a.heap.size+1+1+1,0,none⟩) 2 2):=by simp[World.cell?,g]
 have m8:c.cell? ⟨a.heap.size,8,none⟩=some (.slice (some ⟨bt,0,none⟩) 8 8):=by simp[World.cell?,g]
 clear c0 c1 c2 c3 c4 c5 c6 c7 c8 z0 z1 z2 z3 z4 z5 z6 a5 z8;have c0:c.cell? ⟨w.heap.size,0,none⟩=some ((.int .u64 0)):=by simp[World.cell?,f]
 have z0:c.frozen? ⟨w.heap.size,0,none⟩=false:=by simp[World.frozen?,f]
 have c1:c.cell? ⟨w.heap.size,1,none⟩=some ((.int .i64 0)):=by simp[World.cell?,f]
 have z1:c.frozen? ⟨w.heap.size,1,none⟩=false:=by simp[World.frozen?,f]
 have c2:c.cell? ⟨w.heap.size,2,none⟩=some ((.int .i64 0)):=by simp[World.cell?,f]
 have z2:c.frozen? ⟨w.heap.size,2,none⟩=false:=by simp[World.frozen?,f]
 have c3:c.cell? ⟨w.heap.size,3,none⟩=some ((.int .i64 0)):=by simp[World.cell?,f]
 have z3:c.frozen? ⟨w.heap.size,3,none⟩=false:=by simp[World.frozen?,f]
 have c4:c.cell? ⟨w.heap.size,4,none⟩=some ((.slice none 0 0)):=by simp[World.cell?,f]
 have z4:c.frozen? ⟨w.heap.size,4,none⟩=false:=by simp[World.frozen?,f]
 have c5:c.cell? ⟨w.heap.size,5,none⟩=some ((.slice none 0 0)):=by simp[World.cell?,f]
 have z5:c.frozen? ⟨w.heap.size,5,none⟩=false:=by simp[World.frozen?,f]
 have c6:c.cell? ⟨w.heap.size,6,none⟩=some ((.slice none 0 0)):=by simp[World.cell?,f]
 have z6:c.frozen? ⟨w.heap.size,6,none⟩=false:=by simp[World.frozen?,f]
 have c7:c.cell? ⟨w.heap.size,7,none⟩=some ((.slice none 0 0)):=by simp[World.cell?,f]
 have z7:c.frozen? ⟨w.heap.size,7,none⟩=false:=by simp[World.frozen?,f]
 have c8:c.cell? ⟨w.heap.size,8,none⟩=some ((.slice none 0 0)):=by simp[World.cell?,f]
 have z8:c.frozen? ⟨w.heap.size,8,none⟩=false:=by simp[World.frozen?,f]
 clear E g f G y7 i8;go_wp2_with fail;have s:=(((((((((Kt.refl (fun b=>b=w.heap.size) c).setCell (p:=⟨w.heap.size,0,none⟩) rfl (.int .u64 bK.bS)).setCell (p:=⟨w.heap.size,1,none⟩) rfl (.int .i64 bK.dl)).setCell (p:=⟨w.heap.size,2,none⟩) rfl (.int .i64 bK.ord)).setCell (p:=⟨w.heap.size,3,none⟩) rfl (.int .i64 bK.ep)).setCell (p:=⟨w.heap.size,4,none⟩) rfl (.slice (some ⟨bm,0,none⟩) 8192 8192)).setCell (p:=⟨w.heap.size,5,none⟩) rfl (.slice (some ⟨a.heap.size+1+1,0,none⟩) 2 2)).setCell (p:=⟨w.heap.size,6,none⟩) rfl (.slice (some ⟨br,0,none⟩) 1 1)).setCell (p:=⟨w.heap.size,7,none⟩) rfl (.slice (some ⟨a.heap.size+1+1+1,0,none⟩) 2 2)).setCell (p:=⟨w.heap.size,8,none⟩) rfl (.slice (some ⟨bt,0,none⟩) 8 8);refine bodyPost_ret (results_cell_row rfl _ _ _ _ _ _ _ rfl (NE X.o _ _ _ _ _ _ _ _ _) Tryz.underlying42 rfl (by kernel_rfl)) rfl ?_;have z:∀ {n N:Nat} {V:Wd} {v:Vl} {T:TypeId} {F:Nat->Vl},XR w.heap.size V v n T N F->∀ b,v.ownBlock=some b->¬b=w.heap.size:=fun h b hb e=>by have:=h.own hb;omega
 have gm:=o.o.m.dk q.o;have gr:=o.o.r.dk q.o;have gu:=fun i hi=>(o.o.u i hi).dk q.o
 have gt:=o.o.t.dk q.o;have hm:=gm.fm A.o (gm.apart gt (by decide) rfl);have hr:=gr.fm A.o (gr.apart gt (by decide) rfl);have hu:=fun i hi=>(gu i hi).fm A.o ((gu i hi).apart gt (by decide) rfl)
 have hp:XR w.heap.size c (.slice (some ⟨a.heap.size+1+1,0,none⟩) 2 2) 2 97 22 fun j=>(mD.pg (j/11)).es (j%11):=by
  refine⟨_,_,by omega,rfl,(A.o.block _ (lH HP.o) (fun e=>by omega)).trans HP.o,rfl,fun j I=>?_⟩;rcases j with _|_|_|_|_|_|_|_|_|_|_|_|_|_|_|_|_|_|_|_|_|_|j
  all_goals first|rfl|omega
 have hh:XR w.heap.size c (.slice (some ⟨a.heap.size+1+1+1,0,none⟩) 2 2) 2 22 2 fun j=>.int .u64 ((mD.hd.getD j 0:Nat):Int):=by
  refine⟨_,_,by omega,rfl,(A.o.block _ (lH U.o) (fun e=>by omega)).trans U.o,rfl,fun j I=>?_⟩;rcases j with _|_|j
  all_goals first|rfl|omega
 have k0:Kt nO w _:=((nT HK.o q.o).trans A.o (fun _ _ x=>x) (fun x hx e=>absurd hx (by have:=BT.o;omega))).trans s (fun _ _ x=>x) (fun x hx e=>absurd hx (by omega));exact⟨⟨.slice (some ⟨bm,0,none⟩) 8192 8192,.slice (some ⟨a.heap.size+1+1,0,none⟩) 2 2,.slice (some ⟨br,0,none⟩) 1 1,.slice (some ⟨a.heap.size+1+1+1,0,none⟩) 2 2,.slice (some ⟨bt,0,none⟩) 8 8⟩,ws,rfl,⟨QW,hm.fm s (z hm),hp.fm s (z hp),hr.fm s (z hr),fun i hi=>(hu i hi).fm s (z (hu i hi)),hh.fm s (z hh),C.o.fm s (z C.o)⟩,k0⟩
theorem is_any(I:Img)(V:ImV)(r p:Int)(w:Wd)(j:ImD w I V)(b:Bool)(hb:b=(decide (((chk I).1:Int)=r) && decide (((chk I).2:Int)=p))):Calls prog 11 #[imA I V,.int .i64 r,.int .i64 p] w fun e s=>e=.returned (.bool b)/\Kt nO w s:=by
 obtain⟨⟨D,F,l⟩,⟨E,J,hp⟩,⟨K,C,o⟩,⟨ha,hc,q⟩,⟨L,u,n⟩,-⟩:=j.sl;have g:=aA (show ImAt (w.alloc (imO I V)) w.heap.size I V from⟨nH _ _,j.dk ((Kt.refl _ w).alloc _)⟩);have i:=aA (show Kt nO w (w.alloc (imO I V))from(Kt.refl _ w).alloc _);have k:=aA (JO I V (w.alloc (imO I V)) g.o.d);obtain⟨v,G,z,B,A⟩:=V;dsimp only at l hp o q n;subst l hp o q n;generalize (chk I).1=x at *;generalize (chk I).2=y at *;clear g j;by_cases c:(x:Int)=r
 ·by_cases h:(y:Int)=p
  ·obtain rfl:b=true:=(by rw[hb];simp[c,h]);clear hb;subst c h;go_enter func11,ntmps11;go_wp2_with fail;refine k.o.mono ?_;rintro e m ⟨rfl,a⟩;have f:=aA (nT i.o a);clear a;go_wp2_with fail;go_ret;exact⟨rfl,f.o⟩
  ·obtain rfl:b=false:=(by rw[hb];simp[h]);clear hb;subst c;have t:((y:Int) == p)=false:=(by simpa using h);go_enter func11,ntmps11;go_wp2_with fail;refine k.o.mono ?_;rintro e m ⟨rfl,a⟩;have f:=aA (nT i.o a);clear a;go_wp2_with fail;go_ret;exact⟨rfl,f.o⟩
 ·obtain rfl:b=false:=by rw[hb];simp[c]
  clear hb;have t:((x:Int) == r)=false:=by simpa using c
  go_enter func11,ntmps11;go_wp2_with fail;refine k.o.mono ?_;rintro e m ⟨rfl,a⟩;have f:=aA (nT i.o a);clear a;go_wp2_with fail;go_ret;exact⟨rfl,f.o⟩
def uL:Img:={ bK with nm:=0 }
theorem VoK.nil{s:Nat}{w:Wd}{V:ImV}(h:VoK s w V):ImD w uL ⟨.slice none 0 0,V.p,V.r,V.h,V.t⟩:=
 ⟨by decide,by decide,by decide,by decide,⟨by decide,_,_,rfl,.inl rfl⟩,fun a n c e=>by cases e;exact aj _,h.p.1,h.r.1,h.h.1,h.t.1⟩
theorem chk_vo:chk bK=(0,0):=by decide +kernel
theorem WO:chk { bK with nm:=0 }=(2,1):=by decide +kernel
theorem WN:ey mD=[(67584,2048),(69632,4096)]:=by decide +kernel
def NV(w:Wd)(e:Ending)(w':Wd):Prop:=∃ hb,e=.returned (.tuple #[.pointer (some ⟨hb,0,none⟩),.int .i64 0])/\Kt nO w w'
theorem awake_of{T:Wd->Prop}(U:∀ W W',T W->Kt nO W W'->T W')(Y:∀ W,T W->Calls prog 6 #[.agg #[.int .u64 65536,.int .i64 2,.int .i64 1]] W (NV W))(X:∀ W V s,T W->VoK s W V->Calls prog 15 #[imA bK V] W (NV W))(w:Wd)(hT:T w):Calls prog 5 #[] w fun e w'=>e=.returned (.bool true)/\Kt nO w w':=by
 have S:=aA (fun W=>GH W);have NW:=aA Y;have OV:=aA X;have TK:=aA (show ∀ W,Kt nO w W->T W from fun W k=>U _ _ hT k);have SL:=aA (fun W=>zgs W);go_enter func5,ntmps5;go_wp2_with fail;refine(S.o _).mono ?_;rintro e Q ⟨V,rfl,f,hK⟩;have HK:=aA hK;have HV:=aA f;obtain⟨v1,v2,v3,v4,v5⟩:=V;obtain⟨bm,q1,g1,m3⟩:=f.m.2;obtain⟨bp,q2,g2,p3⟩:=f.p.2;obtain⟨u,⟨br,q3,g3,r3⟩,hu⟩:=f.r.2;obtain⟨bh,q4,g4,h3⟩:=f.h.2;obtain⟨bt,q5,g5,t3⟩:=f.t.2;dsimp only at g1 g2 g3 g4 g5;subst g1 g2 g3 g4 g5;clear f hK q1 m3 q2 p3 q3 r3 hu q4 h3 q5 t3;go_upto_region 3 with fail;refine gen_world (P:=fun W=>Code.wp prog _ _ _ W) _ ?_;intro W L;have IA:ImAt W Q.heap.size uL ⟨.slice none 0 0,.slice (some ⟨bp,0,none⟩) 2 2,.slice (some ⟨br,0,none⟩) 1 1,.slice (some ⟨bh,0,none⟩) 2 2,.slice (some ⟨bt,0,none⟩) 8 8⟩:=by subst L;exact⟨nH _ _,HV.o.nil.dk ((Kt.refl _ Q).alloc _)⟩
 have K1:Kt nO w W:=by subst L;exact HK.o.alloc _
 clear L;have A:=aA IA;have b:=aA K1;obtain⟨c0,c1,c2,-⟩:=IA.cells;clear IA K1 HK HV;generalize Q.heap.size=ib at *;go_wp2_with fail;refine(NW.o _ (TK.o _ b.o)).mono ?_;rintro e w2 ⟨h2,rfl,N⟩;have o:=aA (nT b.o N);have v:=aA (A.o.dk N);clear N c0 c1 c2 A b;go_wp2_with fail;refine(S.o _).mono ?_;rintro e w3 ⟨V3,rfl,n,I⟩;have j:=aA (nT o.o I);have z:=aA (v.o.dk I);have OP:=aA (OV.o _ _ _ (TK.o _ j.o) n);clear I n v o;go_wp2_with fail;refine OP.o.mono ?_;rintro e w4 ⟨h4,rfl,Z⟩;have G:=aA (nT j.o Z);have B:=aA (z.o.dk Z);clear Z z j OP;go_wp2_with fail;refine(S.o _).mono ?_;rintro e w5 ⟨V5,rfl,q,R⟩;have y:=aA (nT G.o R);have l:=aA (B.o.dk R);have IS:=aA (is_any bK V5 0 0 w5 q.d true (by rw[chk_vo];rfl));clear R q B G;go_wp2_with fail;refine IS.o.mono ?_;rintro e w6 ⟨rfl,k6⟩;have D:=aA (nT y.o k6);have i:=aA (l.o.dk k6);have F:=aA (is_any uL _ 2 1 w6 i.o.d true (by rw[show chk uL=(2,1)from WO];rfl));obtain⟨c0,c1,c2,c3,c4,c5,c6,c7,c8⟩:=i.o.cells;clear k6 l y IS;go_wp2_with fail;refine F.o.mono ?_;rintro e w7 ⟨rfl,k7⟩;have E:=aA (nT D.o k7);clear k7 i D F c0 c1 c2 c3 c4 c5 c6 c7 c8;go_wp2_with fail;refine(SL.o _).mono ?_;rintro e w8 ⟨V8,a1,rfl,C,k8⟩;have x:=aA (nT E.o k8);have BL:=aA (Blocks_any mD V8 w8 C.d);clear k8 C E;go_wp2_with fail;refine BL.o.mono ?_;rintro e w9 ⟨v9,rfl,K⟩;have J:=aA (nT x.o K.kp);obtain⟨a9,c9,q9⟩:∃ a c,v9=.slice a 2 c:=by
  have:=K.own.2;rw[WN] at this;rcases this with ⟨_,h⟩|⟨g,cap,a0,rfl,_⟩
  ·exact absurd h (by decide)
  ·exact⟨_,_,rfl⟩
 subst q9;clear K x BL;go_wp2_with fail;go_ret;exact⟨rfl,J.o⟩
def Gd9(I:Img)(g:Nat):Prop:=((I.pg g).kd=1\/(I.pg g).kd=3)\/(hdOk (I.pg g) g=true/\∀ i,i<2 ^ (I.pg g).od.toNat-1->rsOk (I.pg g) (I.pg (g+1+i))=true)
theorem OD{p q:Pg}(h:rsOk p q=true):q.kd=p.kd+1:=by have:q=aT (p.kd+1) p.od:=bw h;rw[this];rfl
theorem zR{p:Pg}{a:Nat}(h:hdOk p a=true):(p.kd=4/\p.od=0)\/((p.kd=0\/p.kd=2)/\a%2 ^ p.od.toNat=0):=by
 unfold hdOk at h;split at h;·rename_i e;exact .inl ⟨e,by simpa using h⟩
 ·split at h
  ·rename_i e;simp only[bu,ci] at h;exact .inr ⟨e,h.1⟩
  ·cases h
theorem DH{I:Img} : ∀ n a,r4F I n a=none->I.np<=a+n->∀ g,a<=g->g<I.np->Gd9 I g
 | 0,a,_,l,g,f,c=>absurd c (by omega)
 | n+1,a,h,l,g,f,c=>by
  unfold r4F at h;rw[ac (by omega)] at h;by_cases b:hdOk (I.pg a) a=false;·rw[ae b] at h;cases h
  rw[ac b] at h;have b:hdOk (I.pg a) a=true:=by simpa using b
  cases e:fst1 (2 ^ (I.pg a).od.toNat-1) (fun i=>rsOk (I.pg a) (I.pg (a+1+i)))with
  | some i=>rw[e] at h;cases h
  | none=>
   rw[e] at h;have d:=fst1_none e;have hp : 0<2 ^ (I.pg a).od.toNat:=ax _;by_cases k:g=a;·subst k;exact .inr ⟨b,d⟩
   ·by_cases m:g<a+2 ^ (I.pg a).od.toNat
    ·left
     obtain⟨i,rfl⟩:∃ i,g=a+1+i:=⟨g-(a+1),by omega⟩;have:=OD (d i (by omega));rcases zR b with ⟨_,p⟩|⟨o|o,_⟩
     ·exfalso
      have j:(I.pg a).od.toNat=0:=(by omega);rw[j] at m;omega
     ·left;omega
     ·right;omega
    ·exact DH n _ h (by omega) g (by omega) c
structure BOk(I:Img)(k:Nat)(x:Nat×Nat):Prop where
 oz : 16<=x.2
 sR:x.2<=4096*2 ^ k
 pw:∃ e,e<=20/\x.2=2 ^ e
 al:x.1%x.2=0
 lo:I.bS<=x.1
 hi:x.1-I.bS+x.2<=I.nm
theorem vU{bS g sz:Nat}{ws:List Nat}{x:Nat×Nat} : ∀ {j:Nat},x∈gl bS g sz ws j->∃ i,i<j/\x=(bS+g*4096+i*sz,sz)
 | 0,h=>by simp[gl] at h
 | j+1,h=>by
  unfold gl at h;split at h
  ·rcases List.mem_append.1 h with h|h
   ·obtain⟨i,b,a⟩:=vU h;exact⟨i,by omega,a⟩
   ·exact⟨j,by omega,by simpa using h⟩
  ·obtain⟨i,b,a⟩:=vU h;exact⟨i,by omega,a⟩
theorem TT{bS g q c i:Nat}(hb:bS=4096*q)(hc:c<=7)(hi:i<celN9 c) : 16<=16*2 ^ c/\16*2 ^ c<=4096/\16*2 ^ c=2 ^ (4+c)/\(bS+g*4096+i*(16*2 ^ c))%(16*2 ^ c)=0/\i*(16*2 ^ c)+16*2 ^ c<=4096:=by
 subst hb;unfold celN9 at hi;have:c=0\/c=1\/c=2\/c=3\/c=4\/c=5\/c=6\/c=7:=by omega
 rcases this with rfl|rfl|rfl|rfl|rfl|rfl|rfl|rfl <;> simp at hi ⊢ <;> omega
theorem PH{I:Img}{k r:Nat}(hS:Sn9 I k r)(z:r4 I=none){g:Nat}(hg:g<I.np){x:Nat×Nat}(hx:x∈ig I g):BOk I k x/\I.bS+g*4096<=x.1/\x.1<I.bS+(g+1)*4096/\((I.pg g).kd=2\/(I.pg g).kd=4)/\((I.pg g).kd=4->x.1+x.2<=I.bS+(g+1)*4096)/\((I.pg g).kd=2->x.1+x.2=I.bS+g*4096+4096*2 ^ (I.pg g).od.toNat):=by
 obtain⟨kd,o,c,l,R,P,U,w,T,F,-⟩:=hS.pg g hg;have f:=DH _ _ z (by omega) g (by omega) hg;have b:=hS.bm;unfold M.RS at b;have s : 0<2 ^ k:=ax k;obtain⟨q,hq⟩:∃ q,I.bS=4096*q:=by have : 4096 ∣ I.bS:=Nat.dvd_trans ⟨2 ^ k,rfl⟩ (da b);exact this
 have K:=hS.nm;unfold ig at hx;split at hx
 ·rename_i d;have p:(I.pg g).od.toNat=o:=by omega
  rw[p] at hx ⊢;obtain rfl:x=(I.bS+g*4096,4096*2 ^ o):=by simpa using hx
  rcases f with f|⟨N,_⟩
  ·omega
  rcases zR N with ⟨h,_⟩|⟨_,e⟩
  ·omega
  rw[p] at e;have ok : 2 ^ o ∣ 2 ^ k:=Nat.pow_dvd_pow 2 w;have t : 0<2 ^ o:=ax o;have C : 4096*2 ^ o ∣ I.bS:=Nat.dvd_trans (Nat.mul_dvd_mul_left _ ok) (da b);have n : 2 ^ o ∣ g:=da e;have L : 2 ^ o ∣ I.np:=by rw[hS.np];exact Nat.dvd_trans ok ⟨r,aq _ _⟩
  have dU:g+2 ^ o<=I.np:=by
   obtain⟨u,J⟩:=n;obtain⟨v,y⟩:=L;have j:u<v:=by refine Nat.lt_of_mul_lt_mul_left (a:=2 ^ o) ?_;rw[<-J,<-y];exact hg
   have:=Nat.mul_le_mul_left (2 ^ o) (Nat.succ_le_of_lt j);rw[Nat.mul_succ] at this;omega
  have le : 2 ^ o<=2 ^ k:=Nat.le_of_dvd s ok;refine⟨⟨by show 16<=4096*2 ^ o;omega,by show 4096*2 ^ o<=_;omega,⟨12+o,by have:=hS.k8;omega,by show 4096*2 ^ o=_;rw[Nat.pow_add]⟩,?_,by show I.bS<=I.bS+g*4096;omega,by show I.bS+g*4096-I.bS+4096*2 ^ o<=I.nm;omega⟩,by show _<=I.bS+g*4096;omega,by show I.bS+g*4096<_;omega,.inl d,fun h=>by omega,fun _=>rfl⟩;refine Nat.mod_eq_zero_of_dvd (Nat.dvd_add C ?_);rw[aq g];exact Nat.mul_dvd_mul_left _ n
 ·rename_i d;split at hx
  ·rename_i m;have E:(I.pg g).cl.toNat=c:=(by omega);rw[E] at hx;obtain⟨i,hi,rfl⟩:=vU hx;obtain⟨G,S,A,B,Q⟩:=TT (g:=g) hq F hi;generalize hz : 16*2 ^ c=sz at *;have D : 4096<=4096*2 ^ k:=Nat.le_mul_of_pos_right _ s;refine⟨⟨G,by show sz<=_;omega,⟨4+c,by omega,A⟩,B,by show I.bS<=I.bS+g*4096+i*sz;omega,?_⟩,by show _<=I.bS+g*4096+i*sz;omega,by show I.bS+g*4096+i*sz<_;omega,.inr m,fun _=>by show I.bS+g*4096+i*sz+sz<=_;omega,fun h=>absurd h d⟩;show I.bS+g*4096+i*sz-I.bS+sz<=I.nm
   omega
  ·simp at hx
theorem DG{I:Img}{x:Nat×Nat} : ∀ {j:Nat},x∈gy I j->∃ g,g<j/\x∈ig I g
 | 0,h=>by simp[gy] at h
 | j+1,h=>by
  rcases List.mem_append.1 h with h|h
  ·obtain⟨g,b,a⟩:=DG h;exact⟨g,by omega,a⟩
  ·exact⟨j,by omega,h⟩
theorem blks_ok{I:Img}{x:Nat×Nat}(hx:x∈ey I):(∃ r,Sn9 I I.ord.toNat r)/\BOk I I.ord.toNat x:=by
 unfold ey at hx;split at hx;·rename_i h;obtain⟨r,hS⟩:=sn9_chk h;obtain⟨g,a,b⟩:=DG hx;exact⟨⟨r,hS⟩,(PH hS (chk_zero h 3 (by decide)) a b).1⟩
 ·simp at hx
def RBk(w:Wd)(v:Vl)(l:List (Nat×Nat)):Prop:=∃ oa oc,v=.slice oa l.length oc/\(l=[]\/∃ g,oa=some ⟨g,0,none⟩/\g<w.heap.size/\∀ j,j<l.length->w.cell? ⟨g,j*2,none⟩=some (.int .u64 ((l.getD j (0,0)).1:Int))/\w.cell? ⟨g,j*2+1,none⟩=some (.int .u64 ((l.getD j (0,0)).2:Int)))
theorem blV_get:∀ (l:List (Nat×Nat)) (j:Nat),j<l.length->(blV l)[j*2]?=some (.int .u64 ((l.getD j (0,0)).1:Int))/\(blV l)[j*2+1]?=some (.int .u64 ((l.getD j (0,0)).2:Int))
 | [],j,h=>by simp at h
 | b :: l,0,_=>by simp[blV]
 | b :: l,j+1,h=>by have:=blV_get l j (by simpa using h);rw[show(j+1)*2=j*2+1+1 by omega];simpa [blV] using this
theorem GB.rb{e W:Wd}{v:Vl}{l:List (Nat×Nat)}(h:GB e W v l):RBk W v l:=by
 obtain⟨k,d⟩:=h.own;rcases d with ⟨rfl,h0⟩|⟨g,cap,f,rfl,_,hg,_,_,hs,i⟩
 ·exact⟨none,0,by rw[h0],.inl (bq h0)⟩
 ·refine⟨_,_,rfl,.inr ⟨g,rfl,lH hg,fun j c=>?_⟩⟩;obtain⟨b,a⟩:=blV_get l j c;rw[<-i,List.getElem?_take_of_lt (by omega)] at b a;rw[ef] at b a;exact⟨by simp[World.cell?,hg,b],by simp[World.cell?,hg,a]⟩
theorem RBk.dk{w W:Wd}{v:Vl}{l:List (Nat×Nat)}(h:RBk w v l)(b:Kt nO w W):RBk W v l:=by
 obtain⟨i,d,f,a⟩:=h;refine⟨i,d,f,?_⟩;rcases a with a|⟨g,e,hg,hc⟩
 ·exact .inl a
 ·exact .inr ⟨g,e,bg hg b.size,fun j c=>⟨b.cell (fun x=>x) (hc j c).1,b.cell (fun x=>x) (hc j c).2⟩⟩
theorem nV(w:Wd)(q:Nat):Kt nO w (w.drewN q):=(kz w).drewN q
theorem Same9_yes(v u:Vl)(l:List (Nat×Nat))(w:Wd)(hl:l.length<=9223372036854775807)(s:RBk w v l)(z:RBk w u l):Calls prog 12 #[v,u] w fun e C=>e=.returned (.bool true)/\Kt nO w C:=by
 have r:=aA s;have A:=aA z;obtain⟨D,K,b,-⟩:=s;obtain⟨F,J,c,-⟩:=z;obtain⟨n,f⟩:=xe (l.length);rw[<-f] at hl b c;obtain⟨P,y⟩:∃ P:Nat->Nat,P=fun j=>(l.getD j (0,0)).1:=⟨_,rfl⟩
 obtain⟨S,hS⟩:∃ S:Nat->Nat,S=fun j=>(l.getD j (0,0)).2:=⟨_,rfl⟩
 have E:=aA (show ∀ W,Kt nO w W->∀ j,j<n->∃ g k,D=some ⟨g,0,none⟩/\F=some ⟨k,0,none⟩/\(W.cell? ⟨g,j*2,none⟩=some (.int .u64 (P j:Int))/\W.cell? ⟨g,j*2+1,none⟩=some (.int .u64 (S j:Int)))/\(W.cell? ⟨k,j*2,none⟩=some (.int .u64 (P j:Int))/\W.cell? ⟨k,j*2+1,none⟩=some (.int .u64 (S j:Int)))from fun W h j d=>by
  obtain⟨G,I,t,m⟩:=r.o;obtain⟨ob,od,B,o⟩:=A.o;rw[b] at t;rw[c] at B
  cases t
  cases B
  subst y hS;rcases m with m|⟨g,rfl,hg,hc⟩
  ·rw[f,m] at d;simp at d
  rcases o with o|⟨k,rfl,L,hd⟩
  ·rw[f,o] at d;simp at d
  exact⟨g,k,rfl,rfl,⟨h.cell (fun x=>x) (hc j (by omega)).1,h.cell (fun x=>x) (hc j (by omega)).2⟩,⟨h.cell (fun x=>x) (hd j (by omega)).1,h.cell (fun x=>x) (hd j (by omega)).2⟩⟩)
 clear y hS r A f;subst b c;go_enter func12,ntmps12;go_wp2_with fail;go_loopw [5] (fun i W=>∃ a:Nat,a<=n/\i=.int .i64 a/\Hd (Kt nO w W)) (fun i _=>n-(intOf i).toNat)
 case atStart=>exact⟨0,az _,rfl,aA (Kt.refl _ _)⟩
 case round=>
  obtain⟨a,ha,rfl,hK⟩:=hrel;by_cases q:a<n
  ·have p:(a:Int)<n:=(by omega);obtain⟨g,k,rfl,rfl,⟨N,r1⟩,⟨s0,s1⟩⟩:=E.o wr hK.o a q;go_wp2_with fail;go_quiet (fail)
   go_wp2_with fail;exact⟨⟨a+1,by omega,by simp,aA (nT hK.o (nV wr nq))⟩,by simp[intOf];omega⟩
  ·have p:¬(a:Int)<n:=(by omega);go_wp2_with fail;go_ret;exact⟨rfl,hK.o⟩
theorem ImD.ok{w:Wd}{I:Img}{V:ImV}(h:ImD w I V):ImOk I:=by
 obtain⟨b,s,v,u,c⟩:=h.mem;obtain⟨l,t,x,r,f⟩:=h.je;obtain⟨ws,r1,y,p,r2,m⟩:=h.jg;obtain⟨a,ha,hc,o,g⟩:=h.jr;obtain⟨d,z,n,q,j⟩:=h.kh;refine⟨h.lj,h.dl,h.ord,h.ep,b,l,r1,a,d,fun i hi=>?_,fun i hi=>?_,fun i hi=>?_,fun i hi=>?_,fun i hi=>?_⟩
 ·rcases c with e|⟨_,_,_,_,k⟩
  ·omega
  ·exact(k i hi).1
 ·rcases f with e|⟨_,_,_,_,k⟩
  ·omega
  ·exact(k i hi).1
 ·rcases m with e|⟨_,_,_,_,k⟩
  ·omega
  ·exact(k i hi).2.1
 ·rcases g with e|⟨_,_,_,_,k⟩
  ·omega
  ·exact(k i hi).1
 ·rcases j with e|⟨_,_,_,_,k⟩
  ·omega
  ·exact(k i hi).1
end W
end Go.Proofs.YtfmgnljlkdmndaaGreatDoor
