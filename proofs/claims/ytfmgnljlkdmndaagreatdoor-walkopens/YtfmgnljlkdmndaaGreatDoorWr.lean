import Derived.Test.YtfmgnljlkdmndaaGreatDoorWg
set_option maxRecDepth 1000000
set_option maxHeartbeats 0
namespace Go.Proofs.YtfmgnljlkdmndaaGreatDoor
namespace W
open Tryz RowKit
set_option linter.unusedVariables false
def jY(W:Wd)(b n:Nat)(F:Nat->Bool):Prop:=∃ cs,W.heap[b]?=some (.cells cs 4 (0,0))/\cs.size=n/\∀ j,j<n->cs[j]?=some (.bool (F j))
theorem jY.dk{W W':Wd}{b n:Nat}{F:Nat->Bool}(h:jY W b n F)(k:Kt nO W W'):jY W' b n F:=by obtain⟨cs,a,c⟩:=h;exact⟨cs,(k.block _ (lH a) (fun x=>x)).trans a,c⟩
theorem jY.cell{W:Wd}{b n:Nat}{F:Nat->Bool}(h:jY W b n F)(j:Nat)(d:j<n):W.cell? ⟨b,j,none⟩=some (.bool (F j)):=by obtain⟨cs,a,e,c⟩:=h;simp[World.cell?,a,c j d]
theorem jY.mq{W:Wd}{b n:Nat}{F:Nat->Bool}(h:jY W b n F)(j:Nat):W.frozen? ⟨b,j,none⟩=false:=by obtain⟨cs,a,d,c⟩:=h;simp[World.frozen?,a]
theorem jY.put{W:Wd}{b n:Nat}{F:Nat->Bool}(h:jY W b n F)(k:Nat)(g:k<n):jY (W.setCell ⟨b,k,none⟩ (.bool true)) b n fun j=>if j=k then true else F j:=by
 obtain⟨cs,d,c,f⟩:=h;refine⟨cs.setIfInBounds k (.bool true),cD d _ _,by simpa using c,fun j a=>?_⟩;by_cases e:j=k;·subst e;simp[c,a]
 ·show _=some (Value.bool (if j=k then true else F j))
  rw[ac e,Array.getElem?_setIfInBounds_ne (Ne.symm e)];exact f j a
theorem YS:(prog.info? 4).map (fun i=>(i.zero,i.size,i.bytes))=some (some (.bool false),1,1):=by kernel_rfl
theorem YR(n:Nat)(g:n<=256)(w:Wd):∃ a,(Instr.makeSlice 188 (.int .i64 n) (.int .i64 n)).run prog w=.ok (.slice (some ⟨w.heap.size,0,none⟩) n n) a/\jY a w.heap.size n (fun _=>false)/\Kt nO w a:=by
 obtain⟨i,hi,c,d,e⟩:=info_parts YS;have b:=run_make (P:=prog) w 188 4 i (.bool false) Tryz.underlying188 hi c .i64 .i64 (n:Int) (n:Int) (by omega) (by omega) (by rw[e];omega) (by omega);rw[d] at b;simp only[aa] at b;refine⟨_,b,⟨_,nH w _,?_,fun j f=>?_⟩,(kz w).alloc _⟩;·simp[madeCells]
 ·unfold madeCells;simp[Value.cells,f,Nat.mod_one]
theorem zkN{nx:Nat->Option Int}{l:List Nat}{p:Int}(hl:l≠[])(h:¬(0<=p/\p.toNat∈l)):prg9 nx (l.length+1) l p=false:=by
 by_cases e:p = -1
 ·subst e;rw[prg9_end]
  cases l with
  | nil=>exact absurd rfl hl
  | cons=>rfl
 ·exact EF e h
theorem zkO{nx:Nat->Option Int}{p:Int} : prg9 nx 1 [] p=decide (p = -1):=by
 by_cases e:p = -1;·subst e;rfl
 ·rw[prg9,ac e,ac (by simp),ah e]
theorem YQ{p:Pg}{n j:Nat} : j∈frL p n↔j<n/\aE (wsP p) j=false:=by simp[frL]
structure Q9(cn:Nat)(B F:Nat->Bool)(nx:Nat->Option Int)(ok:Bool)(d:Nat)(q:Int):Prop where
 ex:∃ l:List Nat,l.length=d/\l.Nodup/\(∀ j,j∈l↔j<cn/\B j=false/\F j=false)/\ok=prg9 nx (d+1) l q
theorem Q9.bad{b d:Nat}{B F:Nat->Bool}{nx:Nat->Option Int}{ok:Bool}{q:Int}(h:Q9 b B F nx ok (d+1) q)(hq:¬(0<=q/\q.toNat<b/\B q.toNat=false/\F q.toNat=false)):ok=false:=by obtain⟨l,a,g,c,f⟩:=h.ex;rw[f,<-a];refine zkN (fun e=>by rw[e] at a;cases a) (fun hc=>hq ⟨hc.1,(c _).1 hc.2⟩)
theorem Q9.none{a d i:Nat}{B F:Nat->Bool}{nx:Nat->Option Int}{ok:Bool}(h:Q9 a B F nx ok (d+1) (i:Int))(hi:i<a)(b:B i=false)(f:F i=false)(j:nx i=none):ok=false:=by obtain⟨l,c,k,e,g⟩:=h.ex;rw[g,<-c];exact FM ((e i).2 ⟨hi,b,f⟩) j
theorem Q9.some{c d i:Nat}{B F:Nat->Bool}{nx:Nat->Option Int}{ok:Bool}{q:Int}(h:Q9 c B F nx ok (d+1) (i:Int))(hi:i<c)(p:B i=false)(m:F i=false)(n:nx i=some q):Q9 c B (fun j=>if j=i then true else F j) nx ok d q:=by
 obtain⟨l,b,g,k,o⟩:=h.ex;have f:=(k i).2 ⟨hi,p,m⟩;have a:(l.erase i).length=d:=by rw[dp f,b];rfl
 refine⟨l.erase i,a,g.erase i,fun j=>?_,?_⟩
 ·rw[g.mem_erase_iff,k j];by_cases e:j=i
  ·subst e;simp
  ·simp[e]
 ·rw[o,<-b,prg9_yes f n,a,b]
theorem Q9.fin{a:Nat}{B F:Nat->Bool}{nx:Nat->Option Int}{ok:Bool}{q:Int}(h:Q9 a B F nx ok 0 q):ok=decide (q = -1):=by obtain⟨l,b,e,d,c⟩:=h.ex;obtain rfl:=bq b;rw[c,zkO]
def pH(G sz x:Nat)(j:Nat)(v:Int):Prop:=(v = -1/\∀ i,i<j->¬x=G+sz*i)\/∃ i:Nat,v=(i:Int)/\i<j/\x=G+sz*i
theorem pH.nx{I:Img}{a c i G x:Nat}{v:Int}(l:c<=7)(hb:I.bS≠0)(p:G=I.bS+4096*a)(hx:x=M.word I.mem (4096*a+(16*2 ^ c)*i))(h:pH G (16*2 ^ c) x (celN9 c) v):(x=0->v = -1/\nx9 I a c i=some (-1))/\(x≠0->v = -1->nx9 I a c i=none)/\(x≠0->0<=v->nx9 I a c i=some v)/\(v = -1\/0<=v):=by
 obtain⟨b,o,n⟩:=sP c l;unfold nx9;rw[show 4096*a+i*(16*2 ^ c)=4096*a+(16*2 ^ c)*i by rw[aq i],<-hx,show I.bS+a*4096=G by rw[p,aq a]];generalize 16*2 ^ c=sz at *;have m:G≠0:=by omega
 rcases h with ⟨d,f⟩|⟨k,d,f,s⟩
 ·refine⟨fun e=>⟨d,by rw[ae e]⟩,fun e _=>?_,fun _ e=>by omega,.inl d⟩;rw[ac e,ac];rintro ⟨r,g,j⟩;refine f ((x-G)/sz) ?_ ?_
  ·rw[<-b] at g;exact(Nat.div_lt_iff_lt_mul (by omega)).2 g
  ·have:=dy (x-G) sz;rw[j,Nat.add_zero] at this;omega
 ·have q:sz*k<4096:=by
   have:(k+1)*sz<=celN9 c*sz:=ak _ f;rw[b,av,aL] at this;rw[aq];omega
  have hd:x-G=sz*k:=by omega
  refine⟨fun e=>by omega,fun _ e=>by omega,fun e _=>?_,.inr (by omega)⟩;rw[ac e,hd,ae ⟨by omega,q,Nat.mul_mod_right _ _⟩,Nat.mul_div_cancel_left _ (by omega),d]
theorem VC(I:Img)(V:ImV)(k r:Nat)(hS:Sn9 I k r)(h5:fst1 I.np (fun i=>ok5 (I.pg i))=none)(w:Wd)(hI:ImD w I V):Calls prog 85 #[imA I V] w fun e w'=>e=.returned (.int .i64 (fA (fst1 I.np (ok9 I))))/\Kt nO w w':=by
 obtain⟨⟨ma,mc,hm⟩,⟨pa,pc,hp⟩,⟨ra,rc,hr⟩,⟨ha,hc,hh⟩,⟨ta,tc,ht⟩,-⟩:=hI.sl;obtain⟨vm,vp,vr,vh,vt⟩:=V;dsimp only at hm hp hr hh ht;subst hm hp hr hh ht;have g7:=aA (show ImAt (w.alloc (imO I _)) w.heap.size I _ from⟨nH _ _,hI.dk ((Kt.refl _ w).alloc _)⟩);have K0:=aA (show Kt nO w (w.alloc (imO I _))from(Kt.refl _ w).alloc (imO I ⟨.slice ma I.nm mc,.slice pa I.np pc,.slice ra I.no rc,.slice ha I.hd.length hc,.slice ta I.pt.length tc⟩));obtain⟨c0,c1,c2,c3,c4,c5,c6,c7,c8⟩:=g7.o.cells;have E:=aA hS.gj;have g9:=aA hS.nm;have j6:=aA hS.b0;have j7:=aA hS.be;have HS:=aA hS;obtain⟨rr,K⟩:=xe (fA (fst1 I.np (ok9 I)));rw[<-K];have k7:=aA (show ∀ a,a<I.np->(∀ j,j<a->ok9 I j=true)->ok9 I a=false->rr=(a:Int)from fun a s h2 h3=>by rw[K,fY s h2 h3];rfl);have f9:=aA (show(∀ j,j<I.np->ok9 I j=true)->rr = -1 from fun h=>by rw[K,fst1_ok h];rfl);have H5:=aA h5;have WD:=aA (fun q hq W hI=>zS I ⟨.slice ma I.nm mc,.slice pa I.np pc,.slice ra I.no rc,.slice ha I.hd.length hc,.slice ta I.pt.length tc⟩ q hq (by have:=hS.nm;have:=hS.gj;omega) W hI);have l2:=aA (fun q hq=>word_lt hI q hq);clear hI K hS h5;go_enter func85,ntmps85;go_wp2_with fail;clear c0 c1 c2 c3 c4 c5 c6 c7 c8;generalize w.heap.size=ib at *;generalize w.alloc (imO I ⟨.slice ma I.nm mc,.slice pa I.np pc,.slice ra I.no rc,.slice ha I.hd.length hc,.slice ta I.pt.length tc⟩)=W0 at *;go_loopw [3] (fun iv W=>∃ a:Nat,a<=I.np/\iv=.int .i64 a/\Hd (Kt nO W0 W/\∀ j,j<a->ok9 I j=true)) (fun iv _=>I.np-(intOf iv).toNat)
 case atStart=>exact⟨0,az _,rfl,aA ⟨Kt.refl _ _,fun j hj=>by omega⟩⟩
 case round=>
  obtain⟨a,m1,rfl,z⟩:=hrel;have a1:=aA (g7.o.dk z.o.1);obtain⟨c0,c1,c2,c3,c4,c5,c6,c7,c8⟩:=a1.o.cells;dsimp only at c5;by_cases g:a<I.np
  ·have l1:(a:Int)<I.np:=(by omega);obtain⟨bl,oo,oc,hv,b6,f8⟩:=a1.o.ew a g;injection hv with e1 e2 e3
   subst e1;clear e2 e3;obtain⟨J,d1,d2,d3,d4,d5,d6,d7,d8,d9,l7⟩:=f8.c;obtain⟨kd,od,m,ll,-,-,-,-,y5,y6,-⟩:=HS.o.pg a g;have n:=aA (k7.o a g z.o.2);have a3:=aA (show ok9 I a=true->∀ j,j<a+1->ok9 I j=true from fun eo j hj=>by
    by_cases e:j=a;·rw[e];exact eo
    ·exact z.o.2 j (by omega))
   have o:=aA g;have KG:=aA z.o.1;have CE:=aA (fun W=>sJ (I.pg a) m y5 y6 W);have k9:=aA (fun c hc W=>rU (I.pg a) b6 c hc W);have i8:=aA (show ¬(I.pg a).kd=4->ok9 I a=true from fun h=>by unfold ok9;rw[ah h];rfl);have j0:=aA (show(I.pg a).kd=4->ok9 I a=ok9c I a m from fun h=>by unfold ok9;rw[af h,y5,aa];rfl);have LV:=aA (show(I.pg a).kd=4->∃ l:Nat,(I.pg a).lv=(l:Int)/\1<=l/\l<=celN9 m/\l=aI (aE (wsP (I.pg a))) (celN9 m)from fun h=>ok5_lv b6 y5 y6 h (fst1_none H5.o a g));have CA:=aA (sP m y6);have CB:=aA (EZ m y6);have k8:=aA (fun (i G x:Nat) (v:Int) (z:G=I.bS+4096*a) (hx:x=M.word I.mem (4096*a+(16*2 ^ m)*i)) (h:pH G (16*2 ^ m) x (celN9 m) v)=>h.nx y6 j6.o z hx);have l0:=aA (show ok9c I a m=prg9 (nx9 I a m) ((frL (I.pg a) (celN9 m)).length+1) (frL (I.pg a) (celN9 m)) (I.pg a).fs from rfl);have m7:=aA (show ∀ j:Nat,j∈frL (I.pg a) (celN9 m)↔j<celN9 m/\aE (wsP (I.pg a)) j=false from fun j=>YQ);have h8:=aA (frL_len (I.pg a) (celN9 m));have j3:=aA (show(frL (I.pg a) (celN9 m)).Nodup from List.nodup_range.filter _);generalize frL (I.pg a) (celN9 m)=fr at *;generalize nx9 I a m=nx at *;generalize aE (wsP (I.pg a))=B at *;generalize I.pg a=p at *;generalize 16*2 ^ m=sz at *;generalize celN9 m=f at *;generalize ok9c I a m=n2 at *;generalize ok9 I a=g0 at *;clear f8 b6 g m1 z y5 y6;go_upto_region 5 with fail;refine kO (P:=fun W=>Code.wp prog _ _ _ W) _ ?_;intro W1 hW;have k1:Kt nO wr W1:=(by subst hW;exact(Kt.refl _ wr).alloc _);have X1:=aA (show W1.heap[wr.heap.size]?=some (aV p)by subst hW;exact nH _ _);have m5:=aA (a1.o.dk k1);have KE:=aA (nT KG.o k1);generalize wr.heap.size=pb at *;clear hW k1 c0 c1 c2 c3 c4 c5 c6 c7 c8 J d1 d2 d3 d4 d5 d6 d7 d8 d9 l7 a1 KG;obtain⟨e0,e1,e2,e3,e4,e5,e6,e7,e8,e9,A⟩:=dG X1.o;have HW:=aA (show wrap64 ((a:Int)+1)=((a+1:Nat):Int)by have:=E.o;have:=o.o;rw[wrap64];omega);by_cases s:p.kd=4
   case neg=>have q1:(p.kd != 4)=true:=(by rw[cx];exact s);have EO:=aA (a3.o (i8.o s));clear s;go_wp2_with fail;exact⟨⟨a+1,by have:=o.o;omega,by first|go_num|rw[HW.o],aA ⟨KE.o,EO.o⟩⟩,by have:=o.o;have:=E.o;first|(simp[intOf];omega)|(rw[HW.o];simp only[intOf,aa];omega)⟩
   have q1:(p.kd != 4)=false:=(by rw[ay];exact s);obtain⟨l,k0,m4,m8,l4⟩:=LV.o s;have j4:=aA (j0.o s);have C:=CB.o.1;have a6:=CB.o.2;have b5:=CA.o.1;obtain⟨J,l8⟩:∃ d,d=f-l:=⟨_,rfl⟩;have l9:=aA (show Q9 f B (fun _=>false) nx g0 J p.fs from⟨fr,by have:=h8.o;omega,j3.o,fun j=>by rw[m7.o j];simp,by rw[j4.o,l0.o,show fr.length=J by have:=h8.o;omega]⟩);have s1:(f:Int)-p.lv=(J:Int):=(by omega);have m3:=aA (show wrap64 (J:Int)=J by rw[wrap64];omega);have s2:wrap64 ((f:Int)-p.lv)=(J:Int):=(by rw[s1,wrap64];omega);have b4 : 4096/f=sz:=(by rw[<-b5];exact Nat.mul_div_cancel_left _ (by omega));have s3:(4096:Int).tdiv (f:Int)=sz:=(by rw[<-b4];rfl);have s4:(4096:Int)/(f:Int)=sz:=(by rw[<-b4];simp);have i0:sz<=2048:=CA.o.2.2;have a5 : 16<=sz:=CA.o.2.1;have s5:IntKind.u64.wrap (sz:Int)=sz:=(by rw[wrap_u64];omega);have s6:¬(f:Int)=0:=(by omega);have s7:¬(f:Int) = -1:=(by omega);have s8:((f:Int) == 0)=false:=(by rw[ag];omega);have u:=aA (show f<=256/\1<=f/\f*sz=4096/\16<=sz/\sz<=2048/\J<=256 from⟨C,a6,b5,a5,i0,by omega⟩);clear s k0 m4 m8 l4 l8 b5 b4 a6 a5;go_wp2_with fail;refine(CE.o _).mono ?_;rintro e w2 ⟨rfl,k2⟩;have b7:=aA (m5.o.dk k2);have X2:=aA ((k2.block _ (lH X1.o) (fun y=>y)).trans X1.o);have b1:=aA (nT KE.o k2);clear k2 e0 e1 e2 e3 e4 e5 e6 e7 e8 e9 A;obtain⟨w3,j2,h0,k3⟩:=YR f C w2;have n0:=aA (b7.o.dk k3);have X3:=aA ((k3.block _ (lH X2.o) (fun y=>y)).trans X2.o);have m9:=aA (nT b1.o k3);have j8:=aA h0;have i3:=aA k3;obtain⟨e0,e1,e2,e3,e4,e5,e6,e7,e8,e9,A⟩:=dG X3.o;have n1:=aA (show pb<w2.heap.size from lH X2.o);clear h0;go_wp2_with fail;generalize a7:w2.heap.size=Q at *;have i7:=aA a7;clear a7 i0 e0 e1 e2 e3 e4 e5 e6 e7 e8 e9 A j2 k3 s1 s2 s3 s4 s5 s6 s7 s8 q1 C;obtain⟨G,z⟩:=xe (I.bS+4096*a);have GB:=aA (show G+4096<=9223372036854775808/\G=I.bS+4096*a from⟨by have:=j7.o;have:=g9.o;have:=o.o;omega,z⟩);obtain⟨a4,i2⟩:∃ x,x=4096*a:=⟨_,rfl⟩;have A4:=aA (show a4=4096*a/\a4<=4194304 from⟨i2,by have:=E.o;have:=o.o;omega⟩);have t1:IntKind.u64.wrap (a:Int)=a:=(by have:=E.o;have:=o.o;rw[wrap_u64];omega);have t2 : 4096*(a:Int)=a4:=(by omega);have t3:IntKind.u64.wrap (a4:Int)=a4:=(by have:=A4.o;rw[wrap_u64];omega);have t4:(I.bS:Int)+(a4:Int)=G:=(by omega);have t5:IntKind.u64.wrap (G:Int)=G:=(by have:=GB.o;rw[wrap_u64];omega);clear z i2;go_loopw [8,9] (fun iv dv W=>∃ (q:Int) (d:Nat),d<=256/\iv=.int .i64 q/\dv=.int .i64 d/\Hd (Kt (fun b=>b=Q) w3 W/\∃ F,jY W Q f F/\Q9 f B F nx g0 d q)) (fun _ dv _=>(intOf dv).toNat)
   case atStart=>exact⟨p.fs,J,u.o.2.2.2.2.2,rfl,by rw[m3.o],aA ⟨Kt.refl _ _,_,j8.o,l9.o⟩⟩
   case round=>
    obtain⟨q,d,hd,rfl,rfl,hJ⟩:=hrel;have KJ:=aA hJ.o.1;obtain⟨-,F,g8,hQ⟩:=hJ.o;have MF:=aA g8;have U:=aA hQ;have S:=aA (show Kt nO w2 wr from i3.o.trans KJ.o (fun _ _ x=>x) (fun b hb e=>by have:=i7.o;omega));have f0:=aA (b7.o.dk S.o);have Xj:=aA ((S.o.block _ (lH X2.o) (fun y=>y)).trans X2.o);have D:=aA (nT b1.o S.o);obtain⟨c0,c1,c2,c3,c4,c5,c6,c7,c8⟩:=f0.o.cells;obtain⟨e0,e1,e2,e3,e4,e5,e6,e7,e8,e9,A⟩:=dG Xj.o;clear hJ g8 hQ;by_cases g : 0<d
    ·have i5:(0:Int)<(d:Int):=(by omega);obtain⟨d,rfl⟩:∃ d',d=d'+1:=⟨d-1,by omega⟩;obtain⟨dd,X⟩:=xe (d+1);have HD:=aA (show dd=d+1/\dd<=256 from⟨X,by omega⟩);have a0:=aA (show wrap64 (d:Int)=d by rw[wrap64];omega);have u1:(dd:Int)-1=(d:Int):=(by omega);have u2:wrap64 ((dd:Int)-1)=(d:Int):=(by rw[wrap64];omega);rw[<-X] at i5;rw[<-X];clear g hd X;by_cases p1:q<0
     ·have t:=n.o (U.o.bad (fun h=>by omega));clear u1 u2;subst t;go_wp2_with fail;go_ret;exact⟨rfl,nT K0.o D.o⟩
     by_cases p2:q<(f:Int)
     case neg=>have t:=n.o (U.o.bad (fun h=>by have:=h.2.1;omega));have q2:(f:Int)<=q:=(by omega);clear u1 u2;subst t;go_wp2_with fail;go_ret;exact⟨rfl,nT K0.o D.o⟩
     obtain⟨i,rfl⟩:=au (show 0<=q by omega);have hi:i<f:=(by omega);have g1:¬(i:Int)<0:=(by omega);have g2:¬(f:Int)<=i:=(by omega);have g3:(i:Int)<f:=p2;have HI:=aA (show i<f/\i<256 from⟨hi,by have:=u.o.1;omega⟩);obtain⟨b,hb⟩:=xe (B i);have HA:=aA (fun W=>k9.o i HI.o.2 W);rw[<-hb] at HA;have HB:=aA hb;clear p1 p2 hi hb;go_wp2_with fail;refine(HA.o _).mono ?_;rintro e w4 ⟨rfl,k4⟩;have j9:=aA (f0.o.dk k4);have X4:=aA ((k4.block _ (lH Xj.o) (fun y=>y)).trans Xj.o);have a2:=aA (MF.o.dk k4);have b8:=aA (nT D.o k4);have g4:=aA (show Kt (fun b=>b=Q) w3 w4 from KJ.o.trans k4 (fun _ _ x=>x) (fun _ _ x=>x.elim));have l3:=aA (nT S.o k4);clear k4 c0 c1 c2 c3 c4 c5 c6 c7 c8 e0 e1 e2 e3 e4 e5 e6 e7 e8 e9 A
     cases b with
     | true=>have t:=n.o (U.o.bad (fun h=>by have:=h.2.2.1;rw[aa,<-HB.o] at this;cases this));clear u1 u2;subst t;go_wp2_with fail;go_ret;exact⟨rfl,nT K0.o b8.o⟩
     | false=>
      have m0:=a2.o.cell i HI.o.1;obtain⟨fi,c9⟩:∃ b,b=F i:=⟨_,rfl⟩;rw[<-c9] at m0;have b3:=aA c9;clear c9
      cases fi with
      | true=>have t:=n.o (U.o.bad (fun h=>by have:=h.2.2.2;rw[aa,<-b3.o] at this;cases this));clear u1 u2;subst t;go_wp2_with fail;go_ret;exact⟨rfl,nT K0.o b8.o⟩
      | false=>
       have h9:=aA (a2.o.put i HI.o.1);have fz:=a2.o.mq i;have a9:=aA (show Kt (fun b=>b=Q) w3 (w4.setCell ⟨Q,i,none⟩ (.bool true))from g4.o.setCell (p:=⟨Q,i,none⟩) rfl _);have N:=aA (show Kt nO w2 (w4.setCell ⟨Q,i,none⟩ (.bool true))from i3.o.trans a9.o (fun _ _ x=>x) (fun b hb e=>by have:=i7.o;omega));have R:=aA (b7.o.dk N.o);have X5:=aA ((N.o.block _ (lH X2.o) (fun y=>y)).trans X2.o);have h6:=aA (nT b1.o N.o);obtain⟨si,L⟩:∃ x,x=sz*i:=⟨_,rfl⟩;have b9:si+sz<=4096:=by have s:sz*(i+1)<=sz*f:=Nat.mul_le_mul_left _ HI.o.1;rw[aq sz f,u.o.2.2.1,Nat.mul_add,Nat.mul_one,<-L] at s;exact s
       obtain⟨of,i4⟩:∃ x,x=a4+si:=⟨_,rfl⟩;have i1:=aA (show of+8<=I.nm by have:=u.o;have:=g9.o;have:=A4.o;have:=o.o;omega);have v1:IntKind.u64.wrap (i:Int)=i:=(by have:=HI.o;rw[wrap_u64];omega);have v2:(sz:Int)*(i:Int)=si:=(by rw[L,Int.natCast_mul]);have v3:IntKind.u64.wrap (si:Int)=si:=(by rw[wrap_u64];omega);have v4:(a4:Int)+(si:Int)=of:=(by omega);have v5:IntKind.u64.wrap (of:Int)=of:=(by have:=A4.o;rw[wrap_u64];omega);have f7:=aA (fun W hW=>WD.o of i1.o W hW);have i9:=aA (l2.o of i1.o);obtain⟨x,hx⟩:=xe (M.word I.mem of);have HX:=aA (show x=M.word I.mem (4096*a+sz*i)by rw[hx,i4,L,A4.o.1]);rw[<-hx] at f7 i9;have a8:=aA HB.o.symm;have b2:=aA b3.o.symm;clear L b9 i4 hx HB b3;go_upto_region 16 with fail;refine kO (P:=fun W=>Code.wp prog _ _ _ W) _ ?_;intro w5 i6;rw[<-i6] at h9 a9 N R X5 h6;clear i6 m0 fz a2 b8 g4 l3 j9 X4;obtain⟨c0,c1,c2,c3,c4,c5,c6,c7,c8⟩:=R.o.cells;go_wp2_with fail;refine(f7.o _ R.o.d).mono ?_;rintro e w6 ⟨rfl,k6⟩;have j1:=aA (show Kt (fun b=>b=Q) w3 w6 from a9.o.trans k6 (fun _ _ x=>x) (fun _ _ x=>x.elim));have l6:=aA (h9.o.dk k6);have k5:=aA (R.o.dk k6);have m2:=aA (nT h6.o k6);clear k6 c0 c1 c2 c3 c4 c5 c6 c7 c8 v1 v2 v3 v4 v5;go_wp2_with fail;go_loopw [11,12] (fun nv jv W=>∃ (v:Int) (j:Nat),j<=f/\nv=.int .i64 v/\jv=.int .i64 j/\Hd (Kt nO w6 W/\pH G sz x j v)) (fun _ jv _=>f-(intOf jv).toNat)
       case atStart=>exact⟨-1,0,az _,rfl,rfl,aA ⟨Kt.refl _ _,.inl ⟨rfl,fun i hi=>by omega⟩⟩⟩
       case round=>
        obtain⟨v,j,hj,rfl,rfl,hS⟩:=hrel;have KS:=aA hS.o.1;have SE:=aA hS.o.2;have l5:=aA (k5.o.dk KS.o);obtain⟨c0,c1,c2,c3,c4,c5,c6,c7,c8⟩:=l5.o.cells;clear hS;by_cases g:j<f
        ·have m6:(j:Int)<f:=(by omega);have HJ:=aA (show j<f/\j<256 from⟨g,by have:=u.o.1;omega⟩);obtain⟨sj,Z⟩:∃ x,x=sz*j:=⟨_,rfl⟩;have b9:sj+sz<=4096:=by
          have s:sz*(j+1)<=sz*f:=Nat.mul_le_mul_left _ g;rw[aq sz f,u.o.2.2.1,Nat.mul_add,Nat.mul_one,<-Z] at s;exact s
         obtain⟨y,hy⟩:=xe (G+sj);have v1:IntKind.u64.wrap (j:Int)=j:=(by have:=HJ.o;rw[wrap_u64];omega);have v2:(sz:Int)*(j:Int)=sj:=(by rw[Z,Int.natCast_mul]);have v3:IntKind.u64.wrap (sj:Int)=sj:=(by rw[wrap_u64];omega);have v4:(G:Int)+(sj:Int)=y:=(by omega);have v5:IntKind.u64.wrap (y:Int)=y:=(by have:=GB.o;rw[wrap_u64];omega);have T:=aA (show wrap64 ((j:Int)+1)=((j+1:Nat):Int)by have:=HJ.o;rw[wrap64];omega);have YE:=aA (show y=G+sz*j by rw[hy,Z]);clear g hj Z b9 hy;by_cases Y:x=y;·have g5:((x:Int) == (y:Int))=true:=(by rw[cu];omega);have S1:=aA (show pH G sz x (j+1) (j:Int)from .inr ⟨j,rfl,by omega,by rw[Y,YE.o]⟩);clear Y;go_wp2_with fail;exact⟨⟨(j:Int),j+1,HJ.o.1,rfl,by first|go_num|rw[T.o],aA ⟨KS.o,S1.o⟩⟩,by have:=HJ.o;first|(simp[intOf];omega)|(rw[T.o];simp only[intOf,aa];omega)⟩
         ·have g5:((x:Int) == (y:Int))=false:=(by rw[ag];omega);have S1:=aA (show pH G sz x (j+1) v from by
           rcases SE.o with ⟨s,h2⟩|⟨i,s,h2,h3⟩
           ·refine .inl ⟨s,fun i hi=>?_⟩;by_cases e:i=j
            ·subst e;rw[<-YE.o];exact Y
            ·exact h2 i (by omega)
           ·exact .inr ⟨i,s,by omega,h3⟩)
          clear Y;go_wp2_with fail;exact⟨⟨v,j+1,HJ.o.1,rfl,by first|go_num|rw[T.o],aA ⟨KS.o,S1.o⟩⟩,by have:=HJ.o;first|(simp[intOf];omega)|(rw[T.o];simp only[intOf,aa];omega)⟩
        ·have m6:¬(j:Int)<f:=(by omega);obtain⟨f1,f2,f3,f4⟩:=k8.o i G x v GB.o.2 HX.o (by rw[show f=j by omega];exact SE.o);have h7:=aA (l6.o.dk KS.o);have h4:=aA (show Kt (fun b=>b=Q) w3 wr from j1.o.trans KS.o (fun _ _ x=>x) (fun _ _ x=>x.elim));have j5:=aA (nT m2.o KS.o);clear g hj SE;by_cases x0:x=0
         ·have g6:((x:Int) != 0)=false:=(by rw[ay];omega);obtain⟨f5,f6⟩:=f1 x0;have Q7:=aA (U.o.some HI.o.1 a8.o b2.o f6);clear f1 f2 f3 f4 f6 x0;subst f5;go_wp2_with fail;go_round
          case rel=>exact⟨-1,d,by have:=HD.o;omega,rfl,by first|rfl|rw[a0.o]|go_num,aA ⟨h4.o,_,h7.o,Q7.o⟩⟩
          case measure=>have:=HD.o;first|(rw[a0.o];simp only[intOf,aa];omega)|(simp only[intOf,aa];omega)|(simp[intOf];omega)
         ·have g6:((x:Int) != 0)=true:=(by rw[cx];omega);by_cases v0:v<0
          ·have t:=n.o (U.o.none HI.o.1 a8.o b2.o (f2 x0 (by omega)));clear f1 f2 f3 f4 x0 u1 u2;subst t;go_wp2_with fail;go_ret;exact⟨rfl,nT K0.o j5.o⟩
          ·have Q7:=aA (U.o.some HI.o.1 a8.o b2.o (f3 x0 (by omega)));clear f1 f2 f3 f4 x0;go_wp2_with fail;go_round
           case rel=>exact⟨v,d,by have:=HD.o;omega,rfl,by first|rfl|rw[a0.o]|go_num,aA ⟨h4.o,_,h7.o,Q7.o⟩⟩
           case measure=>have:=HD.o;first|(rw[a0.o];simp only[intOf,aa];omega)|(simp only[intOf,aa];omega)|(simp[intOf];omega)
    ·have i5:¬(0:Int)<(d:Int):=(by omega);obtain rfl:d=0:=(by omega);by_cases q0:q = -1
     case neg=>have g1:(q != -1)=true:=(by rw[cx];exact q0);have t:=n.o (by rw[U.o.fin,ah q0]);clear q0;subst t;go_wp2_with fail;go_ret;exact⟨rfl,nT K0.o D.o⟩
     have g1:(q != -1)=false:=(by rw[ay];exact q0);have EO:=aA (a3.o (by rw[U.o.fin,af q0]));clear q0;go_wp2_with fail;go_round
     case rel=>exact⟨a+1,by have:=o.o;omega,by first|go_num|rw[HW.o],aA ⟨D.o,EO.o⟩⟩
     case measure=>have:=o.o;have:=E.o;first|(simp[intOf];omega)|(rw[HW.o];simp only[intOf,aa];omega)
  ·have l1:¬(a:Int)<I.np:=(by omega);have t:=f9.o (fun j hj=>z.o.2 j (by omega));subst t;go_wp2_with fail;go_ret;exact⟨rfl,nT K0.o z.o.1⟩
end W
end Go.Proofs.YtfmgnljlkdmndaaGreatDoor
