import Derived.Test.YtfmgnljlkdmndaaGreatDoorXx
import Derived.Test.YtfmgnljlkdmndaaGreatDoorWq
set_option maxRecDepth 1000000
set_option maxHeartbeats 80000000
namespace Go.Proofs.YtfmgnljlkdmndaaGreatDoor.W
open Tryz
open Go.RowKit
set_option linter.unusedVariables false
abbrev slP:Pg:=⟨4,0,7,1,-1,-1,0,2,0,0,0⟩
abbrev liP:Pg:=⟨2,0,0,0,-1,-1,-1,0,0,0,0⟩
def mD:Img:={ bM with pg:=fun i=>if i=0 then slP else liP,hd:=[0,0],pt:=[-1,-1,-1,-1,-1,-1,-1,0] }
theorem gen_world{P:World->Prop}(w:World)(h:∀ W,W=w->P W):P w:=h w rfl
theorem NJ{w W:World}{a b c d:Obj}(h:W=(((w.alloc a).alloc b).alloc c).alloc d):Kt nO w W:=h▸(((((Kt.refl nO w).alloc a).alloc b).alloc c).alloc d)
theorem NI{w W:World}{a b c d:Obj}(h:W=(((w.alloc a).alloc b).alloc c).alloc d):W.heap[w.heap.size]?=some a:=by
 subst h;show((((w.heap.push a).push b).push c).push d)[w.heap.size]?=_
 rw[Array.getElem?_push,ac (by simp only[Array.size_push];omega),Array.getElem?_push,ac (by simp only[Array.size_push];omega),Array.getElem?_push,ac (by simp only[Array.size_push];omega),Array.getElem?_push,ae rfl]
theorem NH{w W:World}{a b c d:Obj}(h:W=(((w.alloc a).alloc b).alloc c).alloc d):W.heap[w.heap.size+1+1]?=some c:=by
 subst h;show((((w.heap.push a).push b).push c).push d)[w.heap.size+1+1]?=_
 rw[Array.getElem?_push,ac (by simp only[Array.size_push];omega),Array.getElem?_push,ae (by simp only[Array.size_push])]
theorem NE{w W:World}{a b c d:Obj}(h:W=(((w.alloc a).alloc b).alloc c).alloc d):W.heap[w.heap.size+1+1+1]?=some d:=by
 subst h;show((((w.heap.push a).push b).push c).push d)[w.heap.size+1+1+1]?=_
 rw[Array.getElem?_push,ae (by simp only[Array.size_push])]
theorem NA:ImOk mD:=by
 refine⟨by decide,by decide,by decide,by decide,by decide,by decide,by decide,by decide,by decide,fun _ _=>Nat.zero_lt_succ _,fun i hi=>?_,zW.pr,?_,?_⟩
 ·have:i=0\/i=1:=by have:mD.np=2:=rfl;omega
  rcases this with rfl|rfl <;> exact⟨by decide,by decide,by decide,by decide,by decide,by decide,by decide,by decide,by decide,by decide,by decide⟩
 ·decide
 ·decide
theorem zgo(w:World):Calls prog 18 #[] w fun e w'=>∃ V ws,e=.returned (imA mD V)/\ImX w.heap.size w' mD V ws/\Kt nO w w':=by
 have VD:=aA (fun W=>FX W);go_enter func18,ntmps18;go_wp2_with fail;refine(VD.o _).mono ?_;have Z:(w.alloc eU).heap[w.heap.size]?=some eU:=nH w eU;have K:Kt nO w (w.alloc eU):=(Kt.refl _ w).alloc _;have SZ:w.heap.size<=(w.alloc eU).heap.size:=K.size;rintro e a ⟨V,rfl,hV,hK⟩;obtain⟨ws,l⟩:=hV.x;replace l:=l.le SZ;have d:a.heap[w.heap.size]?=some eU:=(hK.block _ (lH Z) (fun x=>x)).trans Z;have HK:=aA (nT K hK);clear hV hK SZ Z K;obtain⟨v1,v2,v3,v4,v5⟩:=V;have o:=aA l;obtain⟨bm,cm,a1,q1,a2,a3,a4⟩:=l.m;obtain⟨bp,cp,b1,q2,b2,b3,b4⟩:=l.p;obtain⟨br,cr,c1,q3,c2,c3,c4⟩:=l.r;obtain⟨bh,ch,d1,q4,d2,d3,d4⟩:=l.h;obtain⟨bt,ct,e1,q5,e2,e3,e4⟩:=l.t;clear l a2 a3 a4 b2 b3 b4 c2 c3 c4 d2 d3 d4 e2 e3 e4;have Y:v1=.slice (some ⟨bm,0,none⟩) 8192 8192:=q1;have a6:v2=.slice (some ⟨bp,0,none⟩) 2 2:=q2;have S:v3=.slice (some ⟨br,0,none⟩) 1 1:=q3;have a0:v4=.slice (some ⟨bh,0,none⟩) 2 2:=q4;have a7:v5=.slice (some ⟨bt,0,none⟩) 8 8:=q5;clear q1 q2 q3 q4 q5;subst Y a6 S a0 a7;have J:=o.o.t.cell (j:=7) (by decide);have z7:=o.o.t.frz 7;have n1:bt<a.heap.size:=qQ J;have n0:w.heap.size<a.heap.size:=lH d;have BT:=aA e1;clear a1 b1 c1 d1 e1;have c0:a.cell? ⟨w.heap.size,0,none⟩=some (.int .u64 0):=by simp[World.cell?,d]
 have z0:a.frozen? ⟨w.heap.size,0,none⟩=false:=by simp[World.frozen?,d]
 have c1:a.cell? ⟨w.heap.size,1,none⟩=some ((.int .i64 0)):=by simp[World.cell?,d]
 have z1:a.frozen? ⟨w.heap.size,1,none⟩=false:=by simp[World.frozen?,d]
 have c2:a.cell? ⟨w.heap.size,2,none⟩=some ((.int .i64 0)):=by simp[World.cell?,d]
 have z2:a.frozen? ⟨w.heap.size,2,none⟩=false:=by simp[World.frozen?,d]
 have c3:a.cell? ⟨w.heap.size,3,none⟩=some ((.int .i64 0)):=by simp[World.cell?,d]
 have z3:a.frozen? ⟨w.heap.size,3,none⟩=false:=by simp[World.frozen?,d]
 have c4:a.cell? ⟨w.heap.size,4,none⟩=some ((.slice none 0 0)):=by simp[World.cell?,d]
 have z4:a.frozen? ⟨w.heap.size,4,none⟩=false:=by simp[World.frozen?,d]
 have c5:a.cell? ⟨w.heap.size,5,none⟩=some ((.slice none 0 0)):=by simp[World.cell?,d]
 have z5:a.frozen? ⟨w.heap.size,5,none⟩=false:=by simp[World.frozen?,d]
 have c6:a.cell? ⟨w.heap.size,6,none⟩=some ((.slice none 0 0)):=by simp[World.cell?,d]
 have z6:a.frozen? ⟨w.heap.size,6,none⟩=false:=by simp[World.frozen?,d]
 have c7:a.cell? ⟨w.heap.size,7,none⟩=some ((.slice none 0 0)):=by simp[World.cell?,d]
 have U:a.frozen? ⟨w.heap.size,7,none⟩=false:=by simp[World.frozen?,d]
 have c8:a.cell? ⟨w.heap.size,8,none⟩=some ((.slice none 0 0)):=by simp[World.cell?,d]
 have z8:a.frozen? ⟨w.heap.size,8,none⟩=false:=by simp[World.frozen?,d]
 have R:=aA d;clear d;go_upto_region 6 with fail;refine gen_world (P:=fun W=>Code.wp prog _ _ _ W) _ ?_;intro W C;have G:=NJ C;have Q:=NI C;have HP:=aA (NH C);have X:=aA (NE C);have sz:a.heap.size+1+1+1<W.heap.size:=lH X.o;clear C;replace J:=G.cell (fun x=>x) J;have y7:W.frozen? ⟨bt,7,none⟩=false:=by have:=(o.o.t.keep G).frz 7;exact this
 have i8:W.cell? ⟨a.heap.size,8,none⟩=some (.slice (some ⟨bt,0,none⟩) 8 8):=by simp[World.cell?,Q]
 have B:=aA Q;have q:=aA G;clear Q G z7;go_upto_region 7 with fail;refine gen_world (P:=fun W=>Code.wp prog _ _ _ W) _ ?_;intro c y;have E:Kt (fun b=>b=bt) W c:=y▸(Kt.refl (fun b=>b=bt) W).setCell (p:=⟨bt,7,none⟩) rfl (.int .i64 0);have g:=(E.block _ (lH B.o) (fun e=>by omega)).trans B.o;have f:=(E.block _ (bg (lH R.o) q.o.size) (fun e=>by have:=BT.o;omega)).trans ((q.o.block _ (lH R.o) (fun x=>x)).trans R.o);have D:=aA (show XR w.heap.size c (.slice (some ⟨bt,0,none⟩) 8 8) 8 3 8 fun j=>.int .i64 (mD.pt.getD j 0)from y▸(((o.o.t.keep q.o).put (k:=7) (by decide) (.int .i64 0)).congr fun j I=>by
  have I:j<8:=I;rcases j with _|_|_|_|_|_|_|_|j
  all_goals first|rfl|omega))
 clear y;have z:=aA E;have a5:=aA f;have m0:c.cell? ⟨a.heap.size,0,none⟩=some (.int .u64 bM.bS):=by simp[World.cell?,g]
 have m1:c.cell? ⟨a.heap.size,1,none⟩=some (.int .i64 bM.lim):=by simp[World.cell?,g]
 have m2:c.cell? ⟨a.heap.size,2,none⟩=some (.int .i64 bM.ord):=by simp[World.cell?,g]
 have m3:c.cell? ⟨a.heap.size,3,none⟩=some (.int .i64 bM.reg):=by simp[World.cell?,g]
 have m4:c.cell? ⟨a.heap.size,4,none⟩=some (.slice (some ⟨bm,0,none⟩) 8192 8192):=by simp[World.cell?,g]
 have m5:c.cell? ⟨a.heap.size,5,none⟩=some (.slice (some ⟨a.heap.size+1+1,0,none⟩) 2 2):=by simp[World.cell?,g]
 have m6:c.cell? ⟨a.heap.size,6,none⟩=some (.slice (some ⟨br,0,none⟩) 1 1):=by simp[World.cell?,g]
 have m7:c.cell? ⟨a.heap.size,7,none⟩=some (.slice (some ⟨a.heap.size+1+1+1,0,none⟩) 2 2):=by simp[World.cell?,g]
 have m8:c.cell? ⟨a.heap.size,8,none⟩=some (.slice (some ⟨bt,0,none⟩) 8 8):=by simp[World.cell?,g]
 clear c0 c1 c2 c3 c4 c5 c6 c7 c8 z0 z1 z2 z3 z4 z5 z6 U z8;have c0:c.cell? ⟨w.heap.size,0,none⟩=some ((.int .u64 0)):=by simp[World.cell?,f]
 have z0:c.frozen? ⟨w.heap.size,0,none⟩=false:=by simp[World.frozen?,f]
 have c1:c.cell? ⟨w.heap.size,1,none⟩=some ((.int .i64 0)):=by simp[World.cell?,f]
 have z1:c.frozen? ⟨w.heap.size,1,none⟩=false:=by simp[World.frozen?,f]
 have c2:c.cell? ⟨w.heap.size,2,none⟩=some ((.int .i64 0)):=by simp[World.cell?,f]
 have z2:c.frozen? ⟨w.heap.size,2,none⟩=false:=by simp[World.frozen?,f]
 have c3:c.cell? ⟨w.heap.size,3,none⟩=some ((.int .i64 0)):=by simp[World.cell?,f]
 have z3:c.frozen? ⟨w.heap.size,3,none⟩=false:=by simp[World.frozen?,f]
 have c4:c.cell? ⟨w.heap.size,4,none⟩=some ((.slice none 0 0)):=by simp[World.cell?,f]
 have z4:c.frozen? ⟨w.heap.size,4,none⟩=false:=by simp[World.frozen?,f]
 have c5:c.cell? ⟨w.heap.size,5,none⟩=some ((.slice none 0 0)):=by simp[World.cell?,f]
 have z5:c.frozen? ⟨w.heap.size,5,none⟩=false:=by simp[World.frozen?,f]
 have c6:c.cell? ⟨w.heap.size,6,none⟩=some ((.slice none 0 0)):=by simp[World.cell?,f]
 have z6:c.frozen? ⟨w.heap.size,6,none⟩=false:=by simp[World.frozen?,f]
 have c7:c.cell? ⟨w.heap.size,7,none⟩=some ((.slice none 0 0)):=by simp[World.cell?,f]
 have z7:c.frozen? ⟨w.heap.size,7,none⟩=false:=by simp[World.frozen?,f]
 have c8:c.cell? ⟨w.heap.size,8,none⟩=some ((.slice none 0 0)):=by simp[World.cell?,f]
 have z8:c.frozen? ⟨w.heap.size,8,none⟩=false:=by simp[World.frozen?,f]
 clear E g f J y7 i8;go_wp2_with fail;have s:=(((((((((Kt.refl (fun b=>b=w.heap.size) c).setCell (p:=⟨w.heap.size,0,none⟩) rfl (.int .u64 bM.bS)).setCell (p:=⟨w.heap.size,1,none⟩) rfl (.int .i64 bM.lim)).setCell (p:=⟨w.heap.size,2,none⟩) rfl (.int .i64 bM.ord)).setCell (p:=⟨w.heap.size,3,none⟩) rfl (.int .i64 bM.reg)).setCell (p:=⟨w.heap.size,4,none⟩) rfl (.slice (some ⟨bm,0,none⟩) 8192 8192)).setCell (p:=⟨w.heap.size,5,none⟩) rfl (.slice (some ⟨a.heap.size+1+1,0,none⟩) 2 2)).setCell (p:=⟨w.heap.size,6,none⟩) rfl (.slice (some ⟨br,0,none⟩) 1 1)).setCell (p:=⟨w.heap.size,7,none⟩) rfl (.slice (some ⟨a.heap.size+1+1+1,0,none⟩) 2 2)).setCell (p:=⟨w.heap.size,8,none⟩) rfl (.slice (some ⟨bt,0,none⟩) 8 8);refine bodyPost_ret (results_cell_row rfl _ _ _ _ _ _ _ rfl (MB a5.o _ _ _ _ _ _ _ _ _) Tryz.underlying42 rfl (by kernel_rfl)) rfl ?_;have A:∀ {n N:Nat} {V:World} {v:Value} {T:TypeId} {F:Nat->Value},XR w.heap.size V v n T N F->∀ b,v.ownBlock=some b->¬b=w.heap.size:=fun h b hb e=>by have:=h.own hb;omega
 have gm:=o.o.m.keep q.o;have gr:=o.o.r.keep q.o;have gu:=fun i hi=>(o.o.u i hi).keep q.o
 have L:=o.o.t.keep q.o;have hm:=gm.keepS z.o (gm.apart L (by decide) rfl);have hr:=gr.keepS z.o (gr.apart L (by decide) rfl);have hu:=fun i hi=>(gu i hi).keepS z.o ((gu i hi).apart L (by decide) rfl)
 have hp:XR w.heap.size c (.slice (some ⟨a.heap.size+1+1,0,none⟩) 2 2) 2 97 22 fun j=>(mD.pg (j/11)).fld (j%11):=by
  refine⟨_,_,by omega,rfl,(z.o.block _ (lH HP.o) (fun e=>by omega)).trans HP.o,rfl,fun j I=>?_⟩;rcases j with _|_|_|_|_|_|_|_|_|_|_|_|_|_|_|_|_|_|_|_|_|_|j
  all_goals first|rfl|omega
 have hh:XR w.heap.size c (.slice (some ⟨a.heap.size+1+1+1,0,none⟩) 2 2) 2 22 2 fun j=>.int .u64 ((mD.hd.getD j 0:Nat):Int):=by
  refine⟨_,_,by omega,rfl,(z.o.block _ (lH X.o) (fun e=>by omega)).trans X.o,rfl,fun j I=>?_⟩;rcases j with _|_|j
  all_goals first|rfl|omega
 have k0:Kt nO w _:=((nT HK.o q.o).trans z.o (fun _ _ x=>x) (fun x hx e=>absurd hx (by have:=BT.o;omega))).trans s (fun _ _ x=>x) (fun x hx e=>absurd hx (by omega));exact⟨⟨.slice (some ⟨bm,0,none⟩) 8192 8192,.slice (some ⟨a.heap.size+1+1,0,none⟩) 2 2,.slice (some ⟨br,0,none⟩) 1 1,.slice (some ⟨a.heap.size+1+1+1,0,none⟩) 2 2,.slice (some ⟨bt,0,none⟩) 8 8⟩,ws,rfl,⟨NA,hm.keepS s (A hm),hp.keepS s (A hp),hr.keepS s (A hr),fun i hi=>(hu i hi).keepS s (A (hu i hi)),hh.keepS s (A hh),D.o.keepS s (A D.o)⟩,k0⟩
theorem is_any(I:Img)(V:ImV)(r p:Int)(w:World)(i:ImD w I V)(b:Bool)(hb:b=(decide (((chk I).1:Int)=r) && decide (((chk I).2:Int)=p))):
  Calls prog 11 #[imA I V,.int .i64 r,.int .i64 p] w fun e t=>e=.returned (.bool b)/\Kt nO w t:=by
 obtain⟨⟨E,v,l⟩,⟨D,z,hp⟩,⟨G,K,o⟩,⟨ha,hc,q⟩,⟨C,A,n⟩,-⟩:=i.sl;have c:=aA (show ImAt (w.alloc (aQ I V)) w.heap.size I V from⟨nH _ _,i.keep ((Kt.refl _ w).alloc _)⟩);have k:=aA (show Kt nO w (w.alloc (aQ I V))from(Kt.refl _ w).alloc _);have j:=aA (JD I V (w.alloc (aQ I V)) c.o.d);obtain⟨L,u,B,J,F⟩:=V;dsimp only at l hp o q n;subst l hp o q n;generalize (chk I).1=x at *;generalize (chk I).2=y at *;clear c i;by_cases f:(x:Int)=r
 ·by_cases h:(y:Int)=p
  ·obtain rfl:b=true:=(by rw[hb];simp[f,h]);clear hb;subst f h;go_enter func11,ntmps11;go_wp2_with fail;refine j.o.mono ?_;rintro e m ⟨rfl,a⟩;have g:=aA (nT k.o a);clear a;go_wp2_with fail;go_ret;exact⟨rfl,g.o⟩
  ·obtain rfl:b=false:=(by rw[hb];simp[h]);clear hb;subst f;have s:((y:Int) == p)=false:=(by simpa using h);go_enter func11,ntmps11;go_wp2_with fail;refine j.o.mono ?_;rintro e m ⟨rfl,a⟩;have g:=aA (nT k.o a);clear a;go_wp2_with fail;go_ret;exact⟨rfl,g.o⟩
 ·obtain rfl:b=false:=by rw[hb];simp[f]
  clear hb;have s:((x:Int) == r)=false:=by simpa using f
  go_enter func11,ntmps11;go_wp2_with fail;refine j.o.mono ?_;rintro e m ⟨rfl,a⟩;have g:=aA (nT k.o a);clear a;go_wp2_with fail;go_ret;exact⟨rfl,g.o⟩
def uI:Img:={ bM with nm:=0 }
theorem VoK.nil{s:Nat}{w:World}{V:ImV}(h:VoK s w V):ImD w uI ⟨.slice none 0 0,V.p,V.r,V.h,V.t⟩:=
 ⟨by decide,by decide,by decide,by decide,⟨by decide,_,_,rfl,.inl rfl⟩,fun a n c e=>by cases e;exact aj _,h.p.1,h.r.1,h.h.1,h.t.1⟩
theorem chk_vo:chk bM=(0,0):=by decide +kernel
theorem XL:chk { bM with nm:=0 }=(2,1):=by decide +kernel
theorem XK:blks mD=[(67584,2048),(69632,4096)]:=by decide +kernel
def MR(w:World)(e:Ending)(w':World):Prop:=∃ hb,e=.returned (.tuple #[.pointer (some ⟨hb,0,none⟩),.int .i64 0])/\Kt nO w w'
theorem awake_of{T:World->Prop}(Y:∀ W W',T W->Kt nO W W'->T W')(a0:∀ W,T W->Calls prog 6 #[.agg #[.int .u64 65536,.int .i64 2,.int .i64 1]] W (MR W))(U:∀ W V s,T W->VoK s W V->Calls prog 15 #[imA bM V] W (MR W))(w:World)(hT:T w):Calls prog 5 #[] w fun e w'=>e=.returned (.bool true)/\Kt nO w w':=by
 have L:=aA (fun W=>FX W);have NW:=aA a0;have OV:=aA U;have TK:=aA (show ∀ W,Kt nO w W->T W from fun W k=>Y _ _ hT k);have SL:=aA (fun W=>zgo W);go_enter func5,ntmps5;go_wp2_with fail;refine(L.o _).mono ?_;rintro e Z ⟨V,rfl,b,hK⟩;have HK:=aA hK;have HV:=aA b;obtain⟨v1,v2,v3,v4,v5⟩:=V;obtain⟨bm,q1,g1,m3⟩:=b.m.2;obtain⟨bp,q2,g2,p3⟩:=b.p.2;obtain⟨u,⟨br,q3,g3,r3⟩,hu⟩:=b.r.2;obtain⟨bh,q4,g4,h3⟩:=b.h.2;obtain⟨bt,q5,g5,t3⟩:=b.t.2;dsimp only at g1 g2 g3 g4 g5;subst g1 g2 g3 g4 g5;clear b hK q1 m3 q2 p3 q3 r3 hu q4 h3 q5 t3;go_upto_region 3 with fail;refine gen_world (P:=fun W=>Code.wp prog _ _ _ W) _ ?_;intro W X;have J:ImAt W Z.heap.size uI ⟨.slice none 0 0,.slice (some ⟨bp,0,none⟩) 2 2,.slice (some ⟨br,0,none⟩) 1 1,.slice (some ⟨bh,0,none⟩) 2 2,.slice (some ⟨bt,0,none⟩) 8 8⟩:=by subst X;exact⟨nH _ _,HV.o.nil.keep ((Kt.refl _ Z).alloc _)⟩
 have K1:Kt nO w W:=by subst X;exact HK.o.alloc _
 clear X;have B:=aA J;have i:=aA K1;obtain⟨c0,c1,c2,-⟩:=J.cells;clear J K1 HK HV;generalize Z.heap.size=ib at *;go_wp2_with fail;refine(NW.o _ (TK.o _ i.o)).mono ?_;rintro e w2 ⟨h2,rfl,Q⟩;have l:=aA (nT i.o Q);have v:=aA (B.o.keep Q);clear Q c0 c1 c2 B i;go_wp2_with fail;refine(L.o _).mono ?_;rintro e w3 ⟨V3,rfl,E,S⟩;have j:=aA (nT l.o S);have x:=aA (v.o.keep S);have OP:=aA (OV.o _ _ _ (TK.o _ j.o) E);clear S E v l;go_wp2_with fail;refine OP.o.mono ?_;rintro e w4 ⟨h4,rfl,N⟩;have y:=aA (nT j.o N);have A:=aA (x.o.keep N);clear N x j OP;go_wp2_with fail;refine(L.o _).mono ?_;rintro e w5 ⟨V5,rfl,G,K⟩;have n:=aA (nT y.o K);have o:=aA (A.o.keep K);have IS:=aA (is_any bM V5 0 0 w5 G.d true (by rw[chk_vo];rfl));clear K G A y;go_wp2_with fail;refine IS.o.mono ?_;rintro e w6 ⟨rfl,k6⟩;have D:=aA (nT n.o k6);have f:=aA (o.o.keep k6);have z:=aA (is_any uI _ 2 1 w6 f.o.d true (by rw[show chk uI=(2,1)from XL];rfl));obtain⟨c0,c1,c2,c3,c4,c5,c6,c7,c8⟩:=f.o.cells;clear k6 o n IS;go_wp2_with fail;refine z.o.mono ?_;rintro e w7 ⟨rfl,k7⟩;have F:=aA (nT D.o k7);clear k7 f D z c0 c1 c2 c3 c4 c5 c6 c7 c8;go_wp2_with fail;refine(SL.o _).mono ?_;rintro e w8 ⟨V8,a1,rfl,q,k8⟩;have C:=aA (nT F.o k8);have BL:=aA (Blocks_any mD V8 w8 q.d);clear k8 q F;go_wp2_with fail;refine BL.o.mono ?_;rintro e w9 ⟨v9,rfl,I⟩;have R:=aA (nT C.o I.kp);obtain⟨a9,c9,q9⟩:∃ a c,v9=.slice a 2 c:=by
  have:=I.own.2;rw[XK] at this;rcases this with ⟨_,h⟩|⟨g,cap,a2,rfl,_⟩
  ·exact absurd h (by decide)
  ·exact⟨_,_,rfl⟩
 subst q9;clear I C BL;go_wp2_with fail;go_ret;exact⟨rfl,R.o⟩
def RBk(w:World)(v:Value)(l:List (Nat×Nat)):Prop:=∃ oa oc,v=.slice oa l.length oc/\(l=[]\/∃ g,oa=some ⟨g,0,none⟩/\g<w.heap.size/\∀ j,j<l.length->w.cell? ⟨g,j*2,none⟩=some (.int .u64 ((l.getD j (0,0)).1:Int))/\w.cell? ⟨g,j*2+1,none⟩=some (.int .u64 ((l.getD j (0,0)).2:Int)))
theorem blV_get:∀ (l:List (Nat×Nat)) (j:Nat),j<l.length->(blV l)[j*2]?=some (.int .u64 ((l.getD j (0,0)).1:Int))/\(blV l)[j*2+1]?=some (.int .u64 ((l.getD j (0,0)).2:Int))
 | [],j,h=>by simp at h
 | b :: l,0,_=>by simp[blV]
 | b :: l,j+1,h=>by have:=blV_get l j (by simpa using h);rw[show(j+1)*2=j*2+1+1 by omega];simpa [blV] using this
theorem GB.rb{e W:World}{v:Value}{l:List (Nat×Nat)}(h:GB e W v l):RBk W v l:=by
 obtain⟨k,d⟩:=h.own;rcases d with ⟨rfl,h0⟩|⟨g,cap,c,rfl,_,hg,_,_,hs,f⟩
 ·exact⟨none,0,by rw[h0],.inl (bq h0)⟩
 ·refine⟨_,_,rfl,.inr ⟨g,rfl,lH hg,fun j i=>?_⟩⟩;obtain⟨a,b⟩:=blV_get l j i;rw[<-f,List.getElem?_take_of_lt (by omega)] at a b;rw[Array.getElem?_toList] at a b;exact⟨by simp[World.cell?,hg,a],by simp[World.cell?,hg,b]⟩
theorem RBk.keep{w W:World}{v:Value}{l:List (Nat×Nat)}(h:RBk w v l)(a:Kt nO w W):RBk W v l:=by
 obtain⟨d,f,i,b⟩:=h;refine⟨d,f,i,?_⟩;rcases b with b|⟨g,e,hg,hc⟩
 ·exact .inl b
 ·exact .inr ⟨g,e,bg hg a.size,fun j c=>⟨a.cell (fun x=>x) (hc j c).1,a.cell (fun x=>x) (hc j c).2⟩⟩
theorem zhU(w:World)(q:Nat):Kt nO w (w.drewN q):=(Kt.refl nO w).drewN q
theorem Same9_yes(v u:Value)(l:List (Nat×Nat))(w:World)(hl:l.length<=9223372036854775807)(B:RBk w v l)(A:RBk w u l):
  Calls prog 12 #[v,u] w fun e E=>e=.returned (.bool true)/\Kt nO w E:=by
 have t:=aA B;have r:=aA A;obtain⟨D,G,b,-⟩:=B;obtain⟨C,I,c,-⟩:=A;obtain⟨n,h⟩:=xe (l.length);rw[<-h] at hl b c;obtain⟨P,z⟩:∃ P:Nat->Nat,P=fun j=>(l.getD j (0,0)).1:=⟨_,rfl⟩
 obtain⟨S,hS⟩:∃ S:Nat->Nat,S=fun j=>(l.getD j (0,0)).2:=⟨_,rfl⟩
 have F:=aA (show ∀ W,Kt nO w W->∀ j,j<n->∃ g k,D=some ⟨g,0,none⟩/\C=some ⟨k,0,none⟩/\(W.cell? ⟨g,j*2,none⟩=some (.int .u64 (P j:Int))/\W.cell? ⟨g,j*2+1,none⟩=some (.int .u64 (S j:Int)))/\(W.cell? ⟨k,j*2,none⟩=some (.int .u64 (P j:Int))/\W.cell? ⟨k,j*2+1,none⟩=some (.int .u64 (S j:Int)))from fun W d j f=>by
  obtain⟨K,L,y,o⟩:=t.o;obtain⟨ob,od,s,m⟩:=r.o;rw[b] at y;rw[c] at s
  cases y
  cases s
  subst z hS;rcases o with o|⟨g,rfl,hg,hc⟩
  ·rw[h,o] at f;simp at f
  rcases m with m|⟨k,rfl,J,hd⟩
  ·rw[h,m] at f;simp at f
  exact⟨g,k,rfl,rfl,⟨d.cell (fun x=>x) (hc j (by omega)).1,d.cell (fun x=>x) (hc j (by omega)).2⟩,⟨d.cell (fun x=>x) (hd j (by omega)).1,d.cell (fun x=>x) (hd j (by omega)).2⟩⟩)
 clear z hS t r h;subst b c;go_enter func12,ntmps12;go_wp2_with fail;go_loopw [5] (fun i W=>∃ a:Nat,a<=n/\i=.int .i64 a/\Hd (Kt nO w W)) (fun i _=>n-(intOf i).toNat)
 case atStart=>exact⟨0,az _,rfl,aA (Kt.refl _ _)⟩
 case round=>
  obtain⟨a,ha,rfl,hK⟩:=hrel;by_cases q:a<n
  ·have p:(a:Int)<n:=(by omega);obtain⟨g,k,rfl,rfl,⟨N,r1⟩,⟨s0,s1⟩⟩:=F.o wr hK.o a q;go_wp2_with fail;go_quiet (fail)
   go_wp2_with fail;exact⟨⟨a+1,by omega,by simp,aA (nT hK.o (zhU wr nq))⟩,by simp[intOf];omega⟩
  ·have p:¬(a:Int)<n:=(by omega);go_wp2_with fail;go_ret;exact⟨rfl,hK.o⟩
theorem ZI(I:Img)(V:ImV)(k r:Nat)(hS:Sn9 I k r)(h5:fst1 I.np (fun i=>ok5 (I.pg i))=none)(w:World)(hI:ImD w I V):
  Calls prog 86 #[imA I V] w fun e w'=>e=.returned (.int .i64 (fE (fst1 8 (ok10 I))))/\Kt nO w w':=by
 obtain⟨⟨ma,mc,hm⟩,⟨pa,pc,hp⟩,⟨ra,rc,hr⟩,⟨ha,hc,hh⟩,⟨ta,R,ht⟩,-⟩:=hI.sl;obtain⟨vm,vp,vr,vh,vt⟩:=V;dsimp only at hm hp hr hh ht;subst hm hp hr hh ht;have a5:=aA (show ImAt (w.alloc (aQ I _)) w.heap.size I _ from⟨nH _ _,hI.keep ((Kt.refl _ w).alloc _)⟩);have K0:=aA (show Kt nO w (w.alloc (aQ I _))from(Kt.refl _ w).alloc (aQ I ⟨.slice ma I.nm mc,.slice pa I.np pc,.slice ra I.no rc,.slice ha I.hd.length hc,.slice ta I.pt.length R⟩));obtain⟨c0,c1,c2,c3,c4,c5,z,c7,s⟩:=a5.o.cells;have P:=aA hS.np1;have a3:=aA hS.tl;have HS:=aA hS;obtain⟨rr,G⟩:=xe (fE (fst1 8 (ok10 I)));rw[<-G];have f3:=aA (show ∀ a,a<8->(∀ j,j<a->ok10 I j=true)->ok10 I a=false->rr=(a:Int)from fun a h1 h2 v=>by rw[G,gA h1 h2 v];rfl);have b4:=aA (show(∀ j,j<8->ok10 I j=true)->rr = -1 from fun h=>by rw[G,fst1_ok h];rfl);have RM:=aA (show ∀ (g c:Nat),g<I.np->∀ W,ImD W I ⟨.slice ma I.nm mc,.slice pa I.np pc,.slice ra I.no rc,.slice ha I.hd.length hc,.slice ta I.pt.length R⟩->Calls prog 136 #[imA I ⟨.slice ma I.nm mc,.slice pa I.np pc,.slice ra I.no rc,.slice ha I.hd.length hc,.slice ta I.pt.length R⟩,.int .i64 g,.int .i64 c] W fun e w'=>e=.returned (.bool (prS (c:Int) (I.pg g)))/\Kt nO W w' from fun g c hg W hW=>by obtain⟨kd,od,cc,ll,y1,y2,y3,y4,y5,y6,y7,y8,-⟩:=hS.pg g hg;obtain⟨-,-,-,-,e9,-⟩:=a5.o.page g hg;exact QL I ⟨.slice ma I.nm mc,.slice pa I.np pc,.slice ra I.no rc,.slice ha I.hd.length hc,.slice ta I.pt.length R⟩ g c cc hg y5 y6 (fun h4=>by obtain⟨l,h1,h2,v,-⟩:=ok5_lv e9 y5 y6 h4 (fst1_none h5 g hg);exact⟨l,h1,v⟩) W hW)
 clear hI G hS h5;go_enter func86,ntmps86;go_wp2_with fail;clear c0 c1 c2 c3 c4 c5 z c7 s;generalize w.heap.size=ib at *;generalize w.alloc (aQ I ⟨.slice ma I.nm mc,.slice pa I.np pc,.slice ra I.no rc,.slice ha I.hd.length hc,.slice ta I.pt.length R⟩)=W0 at *;go_loopw [3] (fun T W=>∃ a:Nat,a<=8/\T=.int .i64 a/\Hd (Kt nO W0 W/\∀ j,j<a->ok10 I j=true)) (fun T _=>8-(intOf T).toNat)
 case atStart=>exact⟨0,az _,rfl,aA ⟨Kt.refl _ _,fun j hj=>by omega⟩⟩
 case round=>
  obtain⟨a,e8,rfl,Z⟩:=hrel;have A:=aA (a5.o.keep Z.o.1);obtain⟨c0,c1,c2,c3,c4,c5,z,c7,s⟩:=A.o.cells;dsimp only at c5 s;by_cases X:a<8
  ·have f5:(a:Int)<8:=(by omega);have a7:=aA X;have f:=aA (f3.o a X Z.o.2);have e4:=aA (show ok10 I a=true->∀ j,j<a+1->ok10 I j=true from fun eo j hj=>by
    by_cases e:j=a
    ·rw[e];exact eo
    ·exact Z.o.2 j (by omega))
   have KG:=aA Z.o.1;have F:=aA (ok10_eq I a);obtain⟨S,B⟩:=xe (fun i=>prS (a:Int) (I.pg i));have SE:=aA (show ∀ i,S i=prS (a:Int) (I.pg i)from fun i=>by rw[B]);have f1:=aA (show(pgL I (prS (a:Int))).length=aH S I.np by rw[DX,B]);rw[f1.o,<-B] at F;have c9:=aA (show ∀ g,g<I.np->∀ W,ImD W I ⟨.slice ma I.nm mc,.slice pa I.np pc,.slice ra I.no rc,.slice ha I.hd.length hc,.slice ta I.pt.length R⟩->Calls prog 136 #[imA I ⟨.slice ma I.nm mc,.slice pa I.np pc,.slice ra I.no rc,.slice ha I.hd.length hc,.slice ta I.pt.length R⟩,.int .i64 g,.int .i64 a] W fun e w'=>e=.returned (.bool (S g))/\Kt nO W w' from fun g hg W hW=>by rw[SE.o];exact RM.o g a hg W hW);have HW:=aA (show wrap64 ((a:Int)+1)=((a+1:Nat):Int)by rw[wrap64];omega);obtain⟨h0,a8⟩:∃ h,h=I.pt.getD a 0:=⟨_,rfl⟩;have f6:=A.o.d.pts;obtain⟨_,oa,oc,hv,b3⟩:=f6;rcases b3 with b3|⟨bl,o,rfl,e7,e0⟩
   ·have:=a3.o;omega
   obtain⟨a4,u⟩:=e0 a (by have:=a3.o;omega);rw[<-a8] at a4 u F;injection hv with e1 e2 e3
   subst e1;clear e2 e3 e0 e7;have g2:=aA a4;have b6:=aA u;clear B X e8 Z a8 a4 u;go_wp2_with fail;clear c0 c1 c2 c3 c4 c5 z c7 s;obtain⟨wq,U⟩:∃ W,W=wr:=⟨_,rfl⟩;rw[<-U] at KG A b6;rw[<-U];clear U;go_loopw [4,5] (fun nv T W=>∃ j:Nat,j<=I.np/\T=.int .i64 j/\nv=.int .i64 (aH S j:Int)/\Hd (Kt nO wq W)) (fun _ T _=>I.np-(intOf T).toNat)
   case atStart=>exact⟨0,az _,rfl,rfl,aA (Kt.refl _ _)⟩
   case round=>
    obtain⟨j,hj,rfl,rfl,hJ⟩:=hrel;have J:=aA (A.o.keep hJ.o);obtain⟨c0,c1,c2,c3,c4,c5,z,c7,s⟩:=J.o.cells;dsimp only at c5 s;obtain⟨C,hC⟩:=xe (aH S j);have b8:C<=1024:=(by rw[hC];exact an (sZ _ _) (an hj P.o));have Q:=aA hC;rw[<-hC];clear hC;by_cases y:j<I.np
    ·have f4:(j:Int)<I.np:=(by omega);have N:=aA y;have L:=aA (show wrap64 ((j:Int)+1)=((j+1:Nat):Int)by have:=P.o;rw[wrap64];omega);have g0:=aA b8;have e6:=aA (show wrap64 ((C:Int)+1)=((C+1:Nat):Int)by rw[wrap64];omega);have KJ:=aA hJ.o;obtain⟨b,hb⟩:=xe (S j);have HB:=aA hb;have b1:=aA (fun W hW=>c9.o j y W hW);rw[<-hb] at b1;clear y hj hJ hb;go_wp2_with fail;refine(b1.o _ J.o.d).mono ?_;rintro e w1 ⟨rfl,k1⟩;have b2:=aA (nT KJ.o k1);clear k1 c0 c1 c2 c3 c4 c5 z c7 s
     cases b with
     | false=>
      have C1:=aA (show aH S (j+1)=C by rw[lM _ _ HB.o.symm];exact Q.o.symm);go_wp2_with fail;exact⟨⟨j+1,N.o,by first|go_num|rw[L.o],by rw[C1.o],b2⟩,by have:=N.o;have:=P.o;first|(simp[intOf];omega)|(rw[L.o];simp only[intOf,aa];omega)⟩
     | true=>
      have C1:=aA (show aH S (j+1)=C+1 by rw[mB _ _ HB.o.symm,Q.o]);go_wp2_with fail;exact⟨⟨j+1,N.o,by first|go_num|rw[L.o],by rw[C1.o];first|go_num|rw[e6.o],b2⟩,by have:=N.o;have:=P.o;first|(simp[intOf];omega)|(rw[L.o];simp only[intOf,aa];omega)⟩
    ·have f4:¬(j:Int)<I.np:=(by omega);have CN:=aA (show aH S I.np=C by rw[Q.o,show j=I.np by omega]);rw[CN.o] at F;have KE:=aA (nT KG.o hJ.o);have u:=hJ.o.cell (fun x=>x) b6.o;have b0:=aA b8;have f0:(a:Int)<I.pt.length:=(by have:=a3.o;have:=a7.o;omega);clear y hj Q;go_wp2_with fail;clear c0 c1 c2 c3 c4 c5 z c7 s u f0;obtain⟨wz,Y⟩:∃ W,W=wr:=⟨_,rfl⟩;rw[<-Y] at KE J;rw[<-Y];clear Y hJ;have Q0:=aA (show ok10 I a=refL (dec10 I) (-1) (fun i=>(I.pg i).nx) (fun i=>(I.pg i).pv) S C h0 (-1)from F.o);go_loopw [6,7,8] (fun pv bv gv W=>∃ (p b:Int) (g d:Nat),g+d=C/\pv=.int .i64 p/\bv=.int .i64 b/\gv=.int .i64 g/\Hd (Kt nO wz W/\ok10 I a=refL (dec10 I) (-1) (fun i=>(I.pg i).nx) (fun i=>(I.pg i).pv) S d p b)) (fun _ _ gv _=>C-(intOf gv).toNat)
     case atStart=>exact⟨h0,-1,0,C,by omega,rfl,rfl,rfl,aA ⟨Kt.refl _ _,Q0.o⟩⟩
     case round=>
      obtain⟨p,b,g,d,a0,rfl,rfl,rfl,hL⟩:=hrel;have a2:=aA (J.o.keep hL.o.1);have KL:=aA hL.o.1;have n:=aA hL.o.2;obtain⟨c0,c1,c2,c3,c4,c5,z,c7,s⟩:=a2.o.cells;dsimp only at c5 s;clear hL;by_cases E:g<C
      ·have f2:(g:Int)<C:=(by omega);obtain⟨d,rfl⟩:∃ d',d=d'+1:=⟨d-1,by omega⟩;have a9:=aA (show wrap64 ((g:Int)+1)=((g+1:Nat):Int)by have:=b0.o;rw[wrap64];omega);have GD:=aA (show g+1+d=C/\g<C from⟨by omega,E⟩);clear a0 E;by_cases p1:p<0
       ·have m:dec10 I p=none:=(by unfold dec10;rw[ac (by omega)]);have t:=f.o (n.o.trans (xL m));have a6:=aA (nT KE.o KL.o);clear m;subst t;go_wp2_with fail;go_ret;exact⟨rfl,nT K0.o a6.o⟩
       by_cases p2:p<(I.np:Int)
       case neg=>
        have m:dec10 I p=none:=(by unfold dec10;rw[ac (by omega)]);have t:=f.o (n.o.trans (xL m));have a6:=aA (nT KE.o KL.o);have q2:(I.np:Int)<=p:=(by omega);clear m;subst t;go_wp2_with fail;go_ret;exact⟨rfl,nT K0.o a6.o⟩
       obtain⟨i,rfl⟩:=au (show 0<=p by omega);have hi:i<I.np:=(by omega);have m:dec10 I (i:Int)=some i:=(by unfold dec10;rw[ae (by omega),aa]);have q1:¬(i:Int)<0:=(by omega);have q2:¬(I.np:Int)<=i:=(by omega);have q3:(i:Int)<I.np:=p2;have D:=aA (n.o.trans (JW m));have b5:=aA (fun W hW=>c9.o i hi W hW);obtain⟨sb,b9⟩:∃ b,b=S i:=⟨_,rfl⟩;rw[<-b9] at D b5;have HI:=aA hi;clear m b9 hi p1 p2 n;go_wp2_with fail;refine(b5.o _ a2.o.d).mono ?_;rintro e w2 ⟨rfl,k2⟩;have b7:=aA (a2.o.keep k2);have a1:=aA (nT KL.o k2);clear k2 c0 c1 c2 c3 c4 c5 z c7 s
       cases sb with
       | false=>
        have t:=f.o D.o;subst t;have f7:=aA (nT KE.o a1.o);go_wp2_with fail;go_ret;exact⟨rfl,nT K0.o f7.o⟩
       | true=>
        obtain⟨c0,c1,c2,c3,c4,c5,z,c7,s⟩:=b7.o.cells;dsimp only at c5 s;obtain⟨g1,oo,oc,hv,-,e5⟩:=b7.o.page i HI.o;injection hv with e1 e2 e3
        subst e1;clear e2 e3;obtain⟨d0,d1,d2,d3,d4,d5,d6,d7,d8,d9,f9⟩:=e5.c;generalize I.pg i=q at *;by_cases v:q.pv=b
        case neg=>
         have q4:(q.pv != b)=true:=(by rw[cu];exact v);have t:=f.o (by rw[D.o,ah v];rfl);have K:=aA (nT KE.o a1.o);clear v;subst t;go_wp2_with fail;go_ret;exact⟨rfl,nT K0.o K.o⟩
        have q4:(q.pv != b)=false:=(by rw[ay];exact v);have f8:=aA (D.o.trans (by rw[af v,bf,bf]));clear v;go_wp2_with fail;exact⟨⟨q.nx,(i:Int),g+1,d,GD.o.1,rfl,rfl,by first|go_num|rw[a9.o],aA ⟨a1.o,f8.o⟩⟩,by have:=GD.o.2;have:=b0.o;first|(simp[intOf];omega)|(rw[a9.o];simp only[intOf,aa];omega)⟩
      ·have f2:¬(g:Int)<C:=(by omega);obtain rfl:d=0:=(by omega);have K:=aA (nT KE.o KL.o);by_cases p0:p = -1
       case neg=>
        have q1:(p != -1)=true:=(by rw[cu];exact p0);have t:=f.o (by rw[n.o,tG,ah p0]);clear p0 a0 E;subst t;go_wp2_with fail;go_ret;exact⟨rfl,nT K0.o K.o⟩
       have q1:(p != -1)=false:=(by rw[ay];exact p0);have EO:=aA (e4.o (by rw[n.o,tG,af p0]));clear p0 a0 E;go_wp2_with fail;go_round
       case rel=>exact⟨a+1,a7.o,by first|go_num|rw[HW.o],aA ⟨K.o,EO.o⟩⟩
       case measure=>have:=a7.o;first|(simp[intOf];omega)|(rw[HW.o];simp only[intOf,aa];omega)
  ·have f5:¬(a:Int)<8:=(by omega);have t:=b4.o (fun j hj=>Z.o.2 j (by omega));subst t;go_wp2_with fail;go_ret;exact⟨rfl,nT K0.o Z.o.1⟩
end Go.Proofs.YtfmgnljlkdmndaaGreatDoor.W
