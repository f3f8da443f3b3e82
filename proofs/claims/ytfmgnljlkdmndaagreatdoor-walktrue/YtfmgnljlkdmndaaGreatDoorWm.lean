import Derived.Test.YtfmgnljlkdmndaaGreatDoorWl
set_option maxRecDepth 1000000
set_option maxHeartbeats 80000000
namespace Go.Proofs.YtfmgnljlkdmndaaGreatDoor
open Tryz
open Go.RowKit
set_option linter.unusedVariables false
theorem WC(pv qv:Value)(ws:Nat->Value)(m:Mp)(ho:m.o<=8)(hn:m.n<=1024)(hd:∃ r,m.n=r*2 ^ m.o)(w:World)(hP:YG w pv m.n m.pg)(hQ:VF w qv m.o ws m.wd)(a3:∀ i,i<m.n->lU m (m.pg i)=m.pg i/\PgOk (m.pg i))(b6:∀ k,k<m.o->(m.wd k).length=(m.n/2 ^ (k+1)+63)/64):
  Calls prog 97 #[.int .i64 m.o,pv,qv] w fun e l=>∃ b,e=.returned (.tuple #[.pointer (some ⟨b,0,none⟩),.int .i64 0])/\Hd (∃ s,MpA l b s ⟨m.o,m.n,m.pg,fun j=>if j<m.o then dA (m.wd j) (m.n/2 ^ (j+1)) else (dC (aY m.o) m.n).wd j⟩/\(∀ x,aO b s m.o x->w.heap.size<=x)/\Kt nO w l):=by
 obtain⟨_,oa,oc,rfl,a4⟩:=hP;obtain⟨_,oq,g2,rfl,a7⟩:=hQ;have c3:=aA a4;have e3:=aA a7;have HD:=aA hd;have OK:=aA a3;have WD:=aA b6;clear a3 b6;have f3:¬(m.o:Int)<0:=by omega
 have f7:¬(8:Int)<(m.o:Int):=by omega
 have e9:¬(1024:Int)<(m.n:Int):=by omega
 obtain⟨z,hz⟩:=xe (2 ^ m.o);have f6:(2:Int) ^ m.o=(z:Int):=by rw[hz];simp
 have f8 : 1<=z:=by rw[hz];exact pQ _
 have f5:z<=256:=by rw[hz];exact bj (n:=2) (by decide) ho
 have f1:(m.n:Int)%(z:Int)=0:=by have:=AZ hd;rw[<-hz] at this;omega
 have g1:=vB;have HZ:=aA hz;clear hd hz a4 a7;go_enter func97,ntmps97;go_wp2_with fail;refine(zV m.o ho w).mono ?_;rintro e w1 ⟨b,B,rfl,A,hK,hN⟩;have M1:=aA A;have K1:=aA hK;have N1:=aA hN;clear A hK hN;go_wp2_with fail;refine(xS b B (aY m.o) m.n hn HD.o w1 M1.o).mono ?_;rintro e w2 ⟨rfl,X,A,hK,hF⟩;have M2:=aA A;have K2:=aA (show Kt nO w w2 from K1.o.trans hK (fun _ _ x=>x) (fun x hx e=>absurd (N1.o x e) (by omega)));have N2:=aA (show ∀ x,aO b X m.o x->w.heap.size<=x from fun x hx=>(hF x hx).elim (fun h=>N1.o x h) (fun h=>an K1.o.size h));clear A hK hF M1 K1 N1;go_wp2_with fail;go_loopw [9,10,46] (fun x y i W=>∃ k:Nat,k<=m.n/\i=.int .i64 k/\Hd (∃ pg,MpA W b X ⟨m.o,m.n,pg,(dC (aY m.o) m.n).wd⟩/\(∀ j,j<k->pg j=m.pg j)/\Kt nO w W)) (fun _ _ i _=>m.n-(intOf i).toNat)
 case atStart=>exact⟨0,by omega,rfl,⟨_,M2.o,fun j hj=>absurd hj (by omega),K2.o⟩⟩
 case round=>
  clear M2 K2;obtain⟨k,hk,rfl,hR⟩:=hrel;obtain⟨pg,A,hE,hK⟩:=hR.o;have I:=aA A;have E3:=aA hE;have D:=aA hK;clear A hE hK;by_cases Y:k<m.n
  ·have e6:(k:Int)<m.n:=(by omega);obtain⟨bl,g0,rfl,_,N⟩:=c3.o.resolve_left (by omega);obtain⟨d0,d1,d2,d3,d4,d5,d6,d7,d8,d9,F⟩:=((N k Y).2).kept D.o;clear N;obtain⟨p,hp⟩:=xe (m.pg k);rw[<-hp] at d0 d1 d2 d3 d4 d5 d6 d7 d8 d9 F;have HP:=aA hp;have T:=aA Y;have CL:=aA (fun W (h:MpA W b X ⟨m.o,m.n,pg,(dC (aY m.o) m.n).wd⟩)=>zgI b X ⟨m.o,m.n,pg,(dC (aY m.o) m.n).wd⟩ p W h);rw[show lU ⟨m.o,m.n,pg,(dC (aY m.o) m.n).wd⟩ p=p from by rw[hp];exact(OK.o k Y).1] at CL;clear hp;go_wp2_with fail;obtain⟨W5,G⟩:=xe (wr.alloc (.cells #[.int .i64 p.kd,.int .i64 p.od,.int .i64 p.cl,.int .i64 p.lv,.int .i64 p.nx,.int .i64 p.pv,.int .i64 p.fs,.int .u64 p.b0,.int .u64 p.b1,.int .u64 p.b2,.int .u64 p.b3] 97));rw[<-G];have KW:=aA (show Kt nO wr W5 by rw[G];exact(Kt.refl nO wr).alloc _);have XP:=aA (show W5.heap[wr.heap.size]?=some (aN p)by rw[G];exact nH _ _);have M5:=aA (I.o.keep KW.o);clear G d0 d1 d2 d3 d4 d5 d6 d7 d8 d9 F;obtain⟨x0,x1,x2,x3,x4,x5,x6,x7,x8,x9,b4⟩:=iU XP.o;go_region_held3 (fun l=>l.cell? ⟨wr.heap.size,0,none⟩=some (.int .i64 p.kd)/\l.cell? ⟨wr.heap.size,1,none⟩=some (.int .i64 p.od)/\l.cell? ⟨wr.heap.size,2,none⟩=some (.int .i64 p.cl)/\l.cell? ⟨wr.heap.size,3,none⟩=some (.int .i64 p.lv)/\l.cell? ⟨wr.heap.size,4,none⟩=some (.int .i64 p.nx)/\l.cell? ⟨wr.heap.size,5,none⟩=some (.int .i64 p.pv)/\l.cell? ⟨wr.heap.size,6,none⟩=some (.int .i64 p.fs)/\l.cell? ⟨wr.heap.size,7,none⟩=some (.int .u64 p.b0)/\l.cell? ⟨wr.heap.size,8,none⟩=some (.int .u64 p.b1)/\l.cell? ⟨wr.heap.size,9,none⟩=some (.int .u64 p.b2)/\l.cell? ⟨wr.heap.size,10,none⟩=some (.int .u64 p.b3)) (first|with_reducible assumption|exact⟨x0,x1,x2,x3,x4,x5,x6,x7,x8,x9,b4⟩) ((go_at_call 153;refine(CL.o _ (M5.o.keep (Kt.refl nO _).drew)).mono ?_;rintro e w6 ⟨rfl,a1⟩;have K6:=aA (nT (Kt.refl nO W5).drew a1);obtain⟨x0,x1,x2,x3,x4,x5,x6,x7,x8,x9,b4⟩:=iU (zkg K6.o XP.o);clear a1))
   all_goals
    go_wp2_with fail;have M6:=aA (M5.o.keep K6.o);obtain⟨g,hg,hr⟩:=M6.o.has_row (show 0<m.n by omega);have R6:=aA (show bP w6 g m.n pg from hr);have c1:=M6.o.c1 hg;obtain⟨d0,d1,d2,d3,d4,d5,d6,d7,d8,d9,F⟩:=R6.o.cell k T.o;have zz:=bA.froz R6.o;have HG:=aA hg;have KK:=aA (nT D.o (nT KW.o K6.o));have M7:=aA (show MpA (cZ w6 g k p) b X ⟨m.o,m.n,aG pg k p,(dC (aY m.o) m.n).wd⟩from M6.o.pages hg (nR w6 g k p) (R6.o.put k T.o p) (fun i hi=>by
     unfold aG;split
     ·rw[HP.o];exact(OK.o k T.o).2
     ·exact M6.o.ok i hi))
    have K7:=aA (show Kt nO w (cZ w6 g k p)from KK.o.trans (nR w6 g k p) (fun _ _ x=>x) (fun x hx e=>absurd (N2.o x (.inr (.inl (e▸HG.o)))) (by omega)));clear hg hr;go_region
    all_goals
     generalize R:cZ w6 g k p=W7 at M7 K7;unfold cZ at R;rw[R];clear R d0 d1 d2 d3 d4 d5 d6 d7 d8 d9 F zz c1;go_wp2_with fail;exact⟨⟨k+1,by omega,by simp,⟨_,M7.o.keep (Kt.refl nO _).drew,fun j hj=>by
      unfold aG;by_cases e:j=k
      ·rw[ae e,e];exact HP.o
      ·rw[ac e];exact E3.o j (by omega),K7.o.drew⟩⟩,by simp[intOf];omega⟩
  ·have e6:¬(k:Int)<m.n:=(by omega);have Z:=aA (show MpA wr b X ⟨m.o,m.n,m.pg,(dC (aY m.o) m.n).wd⟩from MpA.congr (pg':=m.pg) I.o (fun i hi=>E3.o i (by have h1:i<m.n:=hi;omega)));have I0:=aA (show ∃ s,MpA wr b s ⟨m.o,m.n,m.pg,fun j=>if j<0 then dA (m.wd j) (m.n/2 ^ (j+1)) else (dC (aY m.o) m.n).wd j⟩/\(∀ x,aO b s m.o x->w.heap.size<=x)/\Kt nO w wr from⟨X,by simpa using Z.o,N2.o,D.o⟩);clear I E3 D Z N2 hR;go_wp2_with fail;go_loopw [11,12,66] (fun x y i W=>∃ a:Nat,a<=m.o/\i=.int .i64 a/\Hd (∃ s,MpA W b s ⟨m.o,m.n,m.pg,fun j=>if j<a then dA (m.wd j) (m.n/2 ^ (j+1)) else (dC (aY m.o) m.n).wd j⟩/\(∀ x,aO b s m.o x->w.heap.size<=x)/\Kt nO w W)) (fun _ _ i _=>m.o-(intOf i).toNat)
   case atStart=>exact⟨0,by omega,rfl,I0⟩
   case round=>
    clear I0;obtain⟨a,ha,rfl,hR⟩:=hrel;obtain⟨t,A,hN,hK⟩:=hR.o;have I:=aA A;have U:=aA hN;have D:=aA hK;clear A hN hK;by_cases f:a<m.o
    ·have c0:(a:Int)<m.o:=(by omega);obtain⟨c6,f2,rfl,_,u⟩:=e3.o.resolve_left (by omega);obtain⟨J,K⟩:=u a f;have b7:=aA K;obtain⟨_,ao,b9,V,_⟩:=K;rw[V] at b7;have c7:wr.cell? ⟨c6,f2+a,none⟩=some (.slice ao (m.wd a).length b9):=(by rw[<-V];exact D.o.cell (fun x=>x) J);clear u J V;obtain⟨q,hq,cp⟩:=I.o.cp a f;obtain⟨cq,c2⟩:=I.o.c2 hq;obtain⟨cw,a6⟩:=xe ((dC (aY m.o) m.n).wd a);have S3:=aA (show SetAt wr (t.S a) (t.C a) (m.n/2 ^ (a+1)) cw from by
      have:=I.o.set a f;simp only[dc,if_false] at this;rw[a6];exact this)
     have hL:cw.length=(m.wd a).length:=(by rw[S3.o.len,(WD.o a f)]);have b5:=aA f;have HQ:=aA hq;have SR:=aA (b7.o.kept D.o (fun _ _ x=>x));clear a6 f hq;go_wp2_with fail;refine(JG (t.S a) (t.C a) _ cw wr S3.o).mono ?_;rintro e c ⟨rfl,-,hK,e4⟩;rw[hL];have K4:=aA (show Kt nO wr c from hK);have Z:=aA (I.o.keep hK);have S4:=aA (S3.o.kept hK (fun x=>x) (fun x=>x));have e7:=aA (SR.o.kept hK (fun _ _ x=>x));have e5:=K4.o.cell (fun x=>x) cp;have a2:=K4.o.cell (fun x=>x) c2;clear hK e4 hL cp c2 c7;go_wp2_with fail;obtain⟨d,hd⟩:=xe (m.n/2 ^ (a+1));have g4:d<=1024:=(by rw[hd];exact an (df _ _) hn);rw[<-hd] at S4;have c9:=aA hd;clear hd;have g3:b≠q:=by obtain⟨c8,a5,v⟩:=Z.o.hb;rw[HQ.o] at v;obtain⟨ds,Q,_⟩:=v;exact bY a5 Q (by decide)
     have zq:∀ W,Kt nO c W->W.frozen? ⟨q,a,none⟩=false:=fun W kk=>by obtain⟨c8,a5,v⟩:=(Z.o.keep kk).hb;rw[HQ.o] at v;obtain⟨ds,Q,_⟩:=v;simp[World.frozen?,Q]
     have ZQ:=aA zq;have LN:=aA (fun W (kk:Kt nO c W)=>DG (t.S a) (t.C a) d cw W (S4.o.kept kk (fun x=>x) (fun x=>x)));have OF:=aA (fun W (kk:Kt nO c W)=>pP _ (m.wd a) (d:Int) (by omega) (by omega) W (e7.o.kept kk (fun _ _ x=>x)));rw[DU d (by omega)] at OF;clear zq;have f0:c.drew.cell? ⟨b,2,none⟩=some (.slice (some ⟨q,0,none⟩) m.o cq):=a2;have c4:=aA (show ∀ E,Kt nO c E->SetAt E (c.heap.size+1) c.heap.size d (dA (m.wd a) d)->∃ s,MpA (E.setCell ⟨q,a,none⟩ (.pointer (some ⟨c.heap.size+1,0,none⟩))) b s ⟨m.o,m.n,m.pg,fun j=>if j<a+1 then dA (m.wd j) (m.n/2 ^ (j+1)) else (dC (aY m.o) m.n).wd j⟩/\(∀ x,aO b s m.o x->w.heap.size<=x)/\Kt nO w (E.setCell ⟨q,a,none⟩ (.pointer (some ⟨c.heap.size+1,0,none⟩)))from fun E k5 s5=>by
      have f4:w.heap.size<=c.heap.size:=an D.o.size K4.o.size;have e0:w.heap.size<=q:=U.o q (.inr (.inr (.inl HQ.o)));have mn:=Z.o.newset (k:=a) b5.o HQ.o k5 (c9.o▸s5);refine⟨⟨t.g,t.P,gC t.S a (c.heap.size+1),gC t.C a c.heap.size⟩,?_,?_,(nT D.o (nT K4.o k5)).setNew (p:=⟨q,a,none⟩) (fun e=>absurd e (Nat.not_lt.2 e0)) _⟩
      ·have e:(fX (fun j=>if j<a then dA (m.wd j) (m.n/2 ^ (j+1)) else (dC (aY m.o) m.n).wd j) a (dA (m.wd a) (m.n/2 ^ (a+1))))=(fun j=>if j<a+1 then dA (m.wd j) (m.n/2 ^ (j+1)) else (dC (aY m.o) m.n).wd j):=by
        funext j
        unfold fX;by_cases L:j=a
        ·subst L;rw[ae rfl,ae (by omega)]
        ·rw[ac L];show(if j<a then dA (m.wd j) (m.n/2 ^ (j+1)) else (dC (aY m.o) m.n).wd j)=_
         by_cases e2:j<a
         ·rw[ae e2,ae (by omega)]
         ·rw[ac e2,ac (by omega)]
       rw[<-e];exact mn
      ·rintro x (e|e|e|⟨j,hj,e|e⟩)
       ·exact U.o x (.inl e)
       ·exact U.o x (.inr (.inl e))
       ·exact U.o x (.inr (.inr (.inl e)))
       ·have e:x=gC t.S a (c.heap.size+1) j:=e;unfold gC at e;by_cases L:j=a
        ·rw[ae L] at e;omega
        ·rw[ac L] at e;exact U.o x (.inr (.inr (.inr ⟨j,hj,.inl e⟩)))
       ·have e:x=gC t.C a c.heap.size j:=e;unfold gC at e;by_cases L:j=a
        ·rw[ae L] at e;omega
        ·rw[ac L] at e;exact U.o x (.inr (.inr (.inr ⟨j,hj,.inr e⟩))))
     go_region_with (first|(go_at_call 154;refine(LN.o _ (Kt.refl nO c).drew).mono ?_;rintro e l ⟨rfl,rfl⟩)|(go_at_call 148;refine(OF.o _ (Kt.refl nO c).drew).mono ?_;rintro e E ⟨rfl,a0,a9,a8⟩;have K5:=aA (show Kt nO c E from(Kt.refl nO c).drew.trans a9 (fun _ _ x=>x) (fun _ _ x=>x));have f9:=K5.o.cell (fun x=>x) a2;have g5:=K5.o.cell (fun x=>x) e5;have e8:=ZQ.o E K5.o;have c5:=aA a0;clear a0 a9 a8))
     all_goals
      have F5:=aA (c4.o E K5.o c5.o);generalize b8:E.setCell ⟨q,a,none⟩ (.pointer (some ⟨c.heap.size+1,0,none⟩))=W8 at F5;try rw[b8]
      clear b8;go_wp2_with fail;exact⟨⟨a+1,by omega,by simp,F5⟩,by simp[intOf];omega⟩
    ·have c0:¬(a:Int)<m.o:=(by omega);go_wp2_with fail;have ea:a=m.o:=(by omega);have M9:=I.o;rw[ea] at M9;have PO:=aA (show ∃ s,MpA wr b s ⟨m.o,m.n,m.pg,fun j=>if j<m.o then dA (m.wd j) (m.n/2 ^ (j+1)) else (dC (aY m.o) m.n).wd j⟩/\(∀ x,aO b s m.o x->w.heap.size<=x)/\Kt nO w wr from⟨t,M9,U.o,D.o⟩);first
      | exact⟨rfl,.tuple #[.pointer (some ⟨b,0,none⟩),.int .i64 0],by simp[results,results97,go_sem],b,rfl,PO⟩
      | exact⟨rfl,.tuple #[.pointer (some ⟨b,0,none⟩),.int .i64 0],by simp[results,results97,go_sem],⟨b,rfl⟩,PO⟩
      | exact⟨rfl,.tuple #[.pointer (some ⟨b,0,none⟩),.int .i64 0],by simp[results,results97,go_sem],b,PO,rfl⟩
end Go.Proofs.YtfmgnljlkdmndaaGreatDoor
