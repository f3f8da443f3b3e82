import Derived.Test.YtfmgnljlkdmndaaGreatDoorWj
set_option maxRecDepth 1000000
set_option maxHeartbeats 0
namespace Go.Proofs.YtfmgnljlkdmndaaGreatDoor
open Tryz RowKit
set_option linter.unusedVariables false
theorem WV(pv qv:Vl)(ws:Nat->Vl)(m:Mp)(ho:m.o<=8)(hn:m.n<=1024)(hd:∃ r,m.n=r*2 ^ m.o)(w:Wd)(hP:VV w pv m.n m.pg)(hQ:VU w qv m.o ws m.wd)(b5:∀ i,i<m.n->lT m (m.pg i)=m.pg i/\PgOk (m.pg i))(b7:∀ k,k<m.o->(m.wd k).length=(m.n/2 ^ (k+1)+63)/64):Calls prog 97 #[.int .i64 m.o,pv,qv] w fun e l=>∃ b,e=.returned (.tuple #[.pointer (some ⟨b,0,none⟩),.int .i64 0])/\Hd (∃ s,MpA l b s ⟨m.o,m.n,m.pg,fun j=>if j<m.o then cZ (m.wd j) (m.n/2 ^ (j+1)) else (dB (aX m.o) m.n).wd j⟩/\(∀ x,aP b s m.o x->w.heap.size<=x)/\Kt nO w l):=by
 obtain⟨_,oa,oc,rfl,a6⟩:=hP;obtain⟨_,oq,f7,rfl,b4⟩:=hQ;have e4:=aA a6;have c5:=aA b4;have HD:=aA hd;have OK:=aA b5;have WD:=aA b7;clear b5 b7;have g1:¬(m.o:Int)<0:=by omega
 have g2:¬(8:Int)<(m.o:Int):=by omega
 have e8:¬(1024:Int)<(m.n:Int):=by omega
 obtain⟨z,hz⟩:=xe (2 ^ m.o);have g5:(2:Int) ^ m.o=(z:Int):=by rw[hz];simp
 have f6 : 1<=z:=by rw[hz];exact pR _
 have f8:z<=256:=by rw[hz];exact bj (n:=2) (by decide) ho
 have f0:(m.n:Int)%(z:Int)=0:=by have:=AV hd;rw[<-hz] at this;omega
 have f9:=sE;have HZ:=aA hz;clear hd hz a6 b4;go_enter func97,ntmps97;go_wp2_with fail;refine(zV m.o ho w).mono ?_;rintro e w1 ⟨b,B,rfl,v,hK,hN⟩;have M1:=aA v;have K1:=aA hK;have N1:=aA hN;clear v hK hN;go_wp2_with fail;refine(xW b B (aX m.o) m.n hn HD.o w1 M1.o).mono ?_;rintro e w2 ⟨rfl,X,v,hK,hF⟩;have M2:=aA v;have K2:=aA (show Kt nO w w2 from K1.o.trans hK (fun _ _ x=>x) (fun x hx e=>absurd (N1.o x e) (by omega)));have N2:=aA (show ∀ x,aP b X m.o x->w.heap.size<=x from fun x hx=>(hF x hx).elim (fun h=>N1.o x h) (fun h=>an K1.o.size h));clear v hK hF M1 K1 N1;go_wp2_with fail;go_loopw [9,10,46] (fun x y i W=>∃ k:Nat,k<=m.n/\i=.int .i64 k/\Hd (∃ pg,MpA W b X ⟨m.o,m.n,pg,(dB (aX m.o) m.n).wd⟩/\(∀ j,j<k->pg j=m.pg j)/\Kt nO w W)) (fun _ _ i _=>m.n-(intOf i).toNat)
 case atStart=>exact⟨0,by omega,rfl,⟨_,M2.o,fun j hj=>absurd hj (by omega),K2.o⟩⟩
 case round=>
  clear M2 K2;obtain⟨k,hk,rfl,hR⟩:=hrel;obtain⟨pg,v,hE,hK⟩:=hR.o;have G:=aA v;have E3:=aA hE;have D:=aA hK;clear v hE hK;by_cases R:k<m.n
  ·have c3:(k:Int)<m.n:=(by omega);obtain⟨bl,f4,rfl,_,J⟩:=e4.o.resolve_left (by omega);obtain⟨d0,d1,d2,d3,d4,d5,d6,d7,d8,d9,I⟩:=((J k R).2).kept D.o;clear J;obtain⟨p,hp⟩:=xe (m.pg k);rw[<-hp] at d0 d1 d2 d3 d4 d5 d6 d7 d8 d9 I;have HP:=aA hp;have Y:=aA R;have CL:=aA (fun W (h:MpA W b X ⟨m.o,m.n,pg,(dB (aX m.o) m.n).wd⟩)=>zgM b X ⟨m.o,m.n,pg,(dB (aX m.o) m.n).wd⟩ p W h);rw[show lT ⟨m.o,m.n,pg,(dB (aX m.o) m.n).wd⟩ p=p from by rw[hp];exact(OK.o k R).1] at CL;clear hp;go_wp2_with fail;obtain⟨W5,F⟩:=xe (wr.alloc (.cells #[.int .i64 p.kd,.int .i64 p.od,.int .i64 p.cl,.int .i64 p.lv,.int .i64 p.nx,.int .i64 p.pv,.int .i64 p.fs,.int .u64 p.b0,.int .u64 p.b1,.int .u64 p.b2,.int .u64 p.b3] 97));rw[<-F];have KW:=aA (show Kt nO wr W5 by rw[F];exact(kz wr).alloc _);have XP:=aA (show W5.heap[wr.heap.size]?=some (aO p)by rw[F];exact nH _ _);have M5:=aA (G.o.dk KW.o);clear F d0 d1 d2 d3 d4 d5 d6 d7 d8 d9 I;obtain⟨x0,x1,x2,x3,x4,x5,x6,x7,x8,x9,a7⟩:=iR XP.o;go_region_held3 (fun l=>l.cell? ⟨wr.heap.size,0,none⟩=some (.int .i64 p.kd)/\l.cell? ⟨wr.heap.size,1,none⟩=some (.int .i64 p.od)/\l.cell? ⟨wr.heap.size,2,none⟩=some (.int .i64 p.cl)/\l.cell? ⟨wr.heap.size,3,none⟩=some (.int .i64 p.lv)/\l.cell? ⟨wr.heap.size,4,none⟩=some (.int .i64 p.nx)/\l.cell? ⟨wr.heap.size,5,none⟩=some (.int .i64 p.pv)/\l.cell? ⟨wr.heap.size,6,none⟩=some (.int .i64 p.fs)/\l.cell? ⟨wr.heap.size,7,none⟩=some (.int .u64 p.b0)/\l.cell? ⟨wr.heap.size,8,none⟩=some (.int .u64 p.b1)/\l.cell? ⟨wr.heap.size,9,none⟩=some (.int .u64 p.b2)/\l.cell? ⟨wr.heap.size,10,none⟩=some (.int .u64 p.b3)) (first|with_reducible assumption|exact⟨x0,x1,x2,x3,x4,x5,x6,x7,x8,x9,a7⟩) ((go_at_call 153;refine(CL.o _ (M5.o.dk (kz _).drew)).mono ?_;rintro e Z ⟨rfl,a3⟩;have K6:=aA (nT (kz W5).drew a3);obtain⟨x0,x1,x2,x3,x4,x5,x6,x7,x8,x9,a7⟩:=iR (zkw K6.o XP.o);clear a3))
   all_goals
    go_wp2_with fail;have M6:=aA (M5.o.dk K6.o);obtain⟨g,hg,hr⟩:=M6.o.et (show 0<m.n by omega);have R6:=aA (show bO Z g m.n pg from hr);have c1:=M6.o.c1 hg;obtain⟨d0,d1,d2,d3,d4,d5,d6,d7,d8,d9,I⟩:=R6.o.cell k Y.o;have zz:=aZ.ic R6.o;have HG:=aA hg;have KK:=aA (nT D.o (nT KW.o K6.o));have M7:=aA (show MpA (cY Z g k p) b X ⟨m.o,m.n,aH pg k p,(dB (aX m.o) m.n).wd⟩from M6.o.fh hg (nP Z g k p) (R6.o.put k Y.o p) (fun i hi=>by
     unfold aH;split;·rw[HP.o];exact(OK.o k Y.o).2
     ·exact M6.o.ok i hi))
    have K7:=aA (show Kt nO w (cY Z g k p)from KK.o.trans (nP Z g k p) (fun _ _ x=>x) (fun x hx e=>absurd (N2.o x (.inr (.inl (e▸HG.o)))) (by omega)));clear hg hr;go_region
    all_goals
     generalize Q:cY Z g k p=W7 at M7 K7;unfold cY at Q;rw[Q];clear Q d0 d1 d2 d3 d4 d5 d6 d7 d8 d9 I zz c1;go_wp2_with fail;exact⟨⟨k+1,by omega,by simp,⟨_,M7.o.dk (kz _).drew,fun j hj=>by
      unfold aH;by_cases e:j=k;·rw[ae e,e];exact HP.o
      ·rw[ac e];exact E3.o j (by omega),K7.o.drew⟩⟩,by simp[intOf];omega⟩
  ·have c3:¬(k:Int)<m.n:=(by omega);have M4:=aA (show MpA wr b X ⟨m.o,m.n,m.pg,(dB (aX m.o) m.n).wd⟩from MpA.congr (pg':=m.pg) G.o (fun i hi=>E3.o i (by have h1:i<m.n:=hi;omega)));have I0:=aA (show ∃ s,MpA wr b s ⟨m.o,m.n,m.pg,fun j=>if j<0 then cZ (m.wd j) (m.n/2 ^ (j+1)) else (dB (aX m.o) m.n).wd j⟩/\(∀ x,aP b s m.o x->w.heap.size<=x)/\Kt nO w wr from⟨X,by simpa using M4.o,N2.o,D.o⟩);clear G E3 D M4 N2 hR;go_wp2_with fail;go_loopw [11,12,66] (fun x y i W=>∃ a:Nat,a<=m.o/\i=.int .i64 a/\Hd (∃ s,MpA W b s ⟨m.o,m.n,m.pg,fun j=>if j<a then cZ (m.wd j) (m.n/2 ^ (j+1)) else (dB (aX m.o) m.n).wd j⟩/\(∀ x,aP b s m.o x->w.heap.size<=x)/\Kt nO w W)) (fun _ _ i _=>m.o-(intOf i).toNat)
   case atStart=>exact⟨0,by omega,rfl,I0⟩
   case round=>
    clear I0;obtain⟨a,ha,rfl,hR⟩:=hrel;obtain⟨t,v,hN,hK⟩:=hR.o;have G:=aA v;have T:=aA hN;have D:=aA hK;clear v hN hK;by_cases f:a<m.o
    ·have e6:(a:Int)<m.o:=(by omega);obtain⟨c7,f2,rfl,_,A⟩:=c5.o.resolve_left (by omega);obtain⟨K,N⟩:=A a f;have a2:=aA N;obtain⟨_,ao,c9,U,_⟩:=N;rw[U] at a2;have b9:wr.cell? ⟨c7,f2+a,none⟩=some (.slice ao (m.wd a).length c9):=(by rw[<-U];exact D.o.cell (fun x=>x) K);clear A K U;obtain⟨q,hq,cp⟩:=G.o.cp a f;obtain⟨cq,c2⟩:=G.o.c2 hq;obtain⟨cw,a5⟩:=xe ((dB (aX m.o) m.n).wd a);have S3:=aA (show SetAt wr (t.S a) (t.C a) (m.n/2 ^ (a+1)) cw from by
      have:=G.o.set a f;simp only[de,if_false] at this;rw[a5];exact this)
     have hL:cw.length=(m.wd a).length:=(by rw[S3.o.len,(WD.o a f)]);have a0:=aA f;have HQ:=aA hq;have SR:=aA (a2.o.kept D.o (fun _ _ x=>x));clear a5 f hq;go_wp2_with fail;refine(JR (t.S a) (t.C a) _ cw wr S3.o).mono ?_;rintro e c ⟨rfl,-,hK,e5⟩;rw[hL];have K4:=aA (show Kt nO wr c from hK);have M4:=aA (G.o.dk hK);have S4:=aA (S3.o.kept hK (fun x=>x) (fun x=>x));have e7:=aA (SR.o.kept hK (fun _ _ x=>x));have c4:=K4.o.cell (fun x=>x) cp;have b6:=K4.o.cell (fun x=>x) c2;clear hK e5 hL cp c2 b9;go_wp2_with fail;obtain⟨d,hd⟩:=xe (m.n/2 ^ (a+1));have g0:d<=1024:=(by rw[hd];exact an (dg _ _) hn);rw[<-hd] at S4;have e0:=aA hd;clear hd;have f3:b≠q:=by obtain⟨c0,b8,u⟩:=M4.o.hb;rw[HQ.o] at u;obtain⟨ds,V,_⟩:=u;exact bX b8 V (by decide)
     have zq:∀ W,Kt nO c W->W.frozen? ⟨q,a,none⟩=false:=fun W kk=>by obtain⟨c0,b8,u⟩:=(M4.o.dk kk).hb;rw[HQ.o] at u;obtain⟨ds,V,_⟩:=u;simp[World.frozen?,V]
     have ZQ:=aA zq;have LN:=aA (fun W (kk:Kt nO c W)=>DQ (t.S a) (t.C a) d cw W (S4.o.kept kk (fun x=>x) (fun x=>x)));have OF:=aA (fun W (kk:Kt nO c W)=>pQ _ (m.wd a) (d:Int) (by omega) (by omega) W (e7.o.kept kk (fun _ _ x=>x)));rw[ES d (by omega)] at OF;clear zq;have f5:c.drew.cell? ⟨b,2,none⟩=some (.slice (some ⟨q,0,none⟩) m.o cq):=b6;have c6:=aA (show ∀ E,Kt nO c E->SetAt E (c.heap.size+1) c.heap.size d (cZ (m.wd a) d)->∃ s,MpA (E.setCell ⟨q,a,none⟩ (.pointer (some ⟨c.heap.size+1,0,none⟩))) b s ⟨m.o,m.n,m.pg,fun j=>if j<a+1 then cZ (m.wd j) (m.n/2 ^ (j+1)) else (dB (aX m.o) m.n).wd j⟩/\(∀ x,aP b s m.o x->w.heap.size<=x)/\Kt nO w (E.setCell ⟨q,a,none⟩ (.pointer (some ⟨c.heap.size+1,0,none⟩)))from fun E k5 s5=>by
      have g4:w.heap.size<=c.heap.size:=an D.o.size K4.o.size;have e3:w.heap.size<=q:=T.o q (.inr (.inr (.inl HQ.o)));have mn:=M4.o.ky (k:=a) a0.o HQ.o k5 (e0.o▸s5);refine⟨⟨t.g,t.P,gA t.S a (c.heap.size+1),gA t.C a c.heap.size⟩,?_,?_,(nT D.o (nT K4.o k5)).em (p:=⟨q,a,none⟩) (fun e=>absurd e (Nat.not_lt.2 e3)) _⟩
      ·have e:(fV (fun j=>if j<a then cZ (m.wd j) (m.n/2 ^ (j+1)) else (dB (aX m.o) m.n).wd j) a (cZ (m.wd a) (m.n/2 ^ (a+1))))=(fun j=>if j<a+1 then cZ (m.wd j) (m.n/2 ^ (j+1)) else (dB (aX m.o) m.n).wd j):=by
        funext j
        unfold fV;by_cases L:j=a;·subst L;rw[ae rfl,ae (by omega)]
        ·rw[ac L];show(if j<a then cZ (m.wd j) (m.n/2 ^ (j+1)) else (dB (aX m.o) m.n).wd j)=_
         by_cases e2:j<a;·rw[ae e2,ae (by omega)]
         ·rw[ac e2,ac (by omega)]
       rw[<-e];exact mn
      ·rintro x (e|e|e|⟨j,hj,e|e⟩)
       ·exact T.o x (.inl e)
       ·exact T.o x (.inr (.inl e))
       ·exact T.o x (.inr (.inr (.inl e)))
       ·have e:x=gA t.S a (c.heap.size+1) j:=e;unfold gA at e;by_cases L:j=a
        ·rw[ae L] at e;omega
        ·rw[ac L] at e;exact T.o x (.inr (.inr (.inr ⟨j,hj,.inl e⟩)))
       ·have e:x=gA t.C a c.heap.size j:=e;unfold gA at e;by_cases L:j=a
        ·rw[ae L] at e;omega
        ·rw[ac L] at e;exact T.o x (.inr (.inr (.inr ⟨j,hj,.inr e⟩))))
     go_region_with (first|(go_at_call 154;refine(LN.o _ (kz c).drew).mono ?_;rintro e l ⟨rfl,rfl⟩)|(go_at_call 148;refine(OF.o _ (kz c).drew).mono ?_;rintro e E ⟨rfl,a1,a8,a9⟩;have K5:=aA (show Kt nO c E from(kz c).drew.trans a8 (fun _ _ x=>x) (fun _ _ x=>x));have f1:=K5.o.cell (fun x=>x) b6;have e9:=K5.o.cell (fun x=>x) c4;have g3:=ZQ.o E K5.o;have c8:=aA a1;clear a1 a8 a9))
     all_goals
      have F5:=aA (c6.o E K5.o c8.o);generalize a4:E.setCell ⟨q,a,none⟩ (.pointer (some ⟨c.heap.size+1,0,none⟩))=W8 at F5;try rw[a4]
      clear a4;go_wp2_with fail;exact⟨⟨a+1,by omega,by simp,F5⟩,by simp[intOf];omega⟩
    ·have e6:¬(a:Int)<m.o:=(by omega);go_wp2_with fail;have ea:a=m.o:=(by omega);have M9:=G.o;rw[ea] at M9;have PO:=aA (show ∃ s,MpA wr b s ⟨m.o,m.n,m.pg,fun j=>if j<m.o then cZ (m.wd j) (m.n/2 ^ (j+1)) else (dB (aX m.o) m.n).wd j⟩/\(∀ x,aP b s m.o x->w.heap.size<=x)/\Kt nO w wr from⟨t,M9,T.o,D.o⟩);first
      | exact⟨rfl,.tuple #[.pointer (some ⟨b,0,none⟩),.int .i64 0],by simp[results,results97,go_sem],b,rfl,PO⟩
      | exact⟨rfl,.tuple #[.pointer (some ⟨b,0,none⟩),.int .i64 0],by simp[results,results97,go_sem],⟨b,rfl⟩,PO⟩
      | exact⟨rfl,.tuple #[.pointer (some ⟨b,0,none⟩),.int .i64 0],by simp[results,results97,go_sem],b,PO,rfl⟩
end Go.Proofs.YtfmgnljlkdmndaaGreatDoor
