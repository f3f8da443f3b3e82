import Derived.Test.YtfmgnljlkdmndaaGreatDoorXl
set_option maxRecDepth 1000000
set_option maxHeartbeats 0
namespace Go.Proofs.YtfmgnljlkdmndaaGreatDoor
namespace W
open Tryz RowKit
set_option linter.unusedVariables false
theorem ziS(l m:Vl)(n:Nat)(f:Nat->Nat)(w:Wd)(ha:SlIn w l n (ByC w f))(hb:SlIn w m n (ByC w f)):Calls prog 51 #[l,m] w fun e p=>e=.returned (.bool true)/\Kt nO w p:=by
 obtain⟨k,t,u,rfl,ha⟩:=ha;obtain⟨-,ob,od,rfl,hb⟩:=hb;have j:=aA ha;have o:=aA hb;have q:=aA k;clear ha hb k;go_enter func51,ntmps51;go_wp2_with fail;go_loopw [5] (fun h W=>∃ a:Nat,a<=n/\h=.int .i64 a/\Hd (Kt nO w W)) (fun h _=>n-(intOf h).toNat)
 case atStart=>exact⟨0,az _,rfl,aA (Kt.refl _ _)⟩
 case round=>
  obtain⟨a,ha,rfl,hK⟩:=hrel;by_cases b:a<n
  ·have i:(a:Int)<n:=(by omega);obtain⟨v,y,rfl,-,d⟩:=j.o.resolve_left (by omega);obtain⟨z,pb,rfl,-,g⟩:=o.o.resolve_left (by omega);have r:=hK.o.cell (fun x=>x) (d a b).2;have s:=hK.o.cell (fun x=>x) (g a b).2;have c:=aA b;clear d g j o b ha;go_wp2_with fail;go_quiet (fail)
   go_wp2_with fail;have hw:wrap64 ((a:Int)+1)=((a+1:Nat):Int):=(by have:=q.o;have:=c.o;rw[wrap64];omega);rw[hw];exact⟨⟨a+1,by have:=c.o;omega,rfl,aA (nT hK.o (nV wr nq))⟩,by have:=c.o;simp only[intOf,aa];omega⟩
  ·have i:¬(a:Int)<n:=(by omega);go_wp2_with fail;go_ret;exact⟨rfl,hK.o⟩
theorem zhX(q r:Vl)(n:Nat)(pg:Nat->Pg)(w:Wd)(ha:SlIn w q n fun h o i=>PgIn (pg i)/\PgC w h o i (pg i))(hb:SlIn w r n fun h o i=>PgIn (pg i)/\PgC w h o i (pg i)):Calls prog 52 #[q,r] w fun e t=>e=.returned (.bool true)/\Kt nO w t:=by
 obtain⟨m,D,E,rfl,ha⟩:=ha;obtain⟨-,ob,od,rfl,hb⟩:=hb;have l:=aA ha;have s:=aA hb;have v:=aA m;have x:=sE;clear ha hb m;go_enter func52,ntmps52;go_wp2_with fail;go_loopw [5] (fun j W=>∃ a:Nat,a<=n/\j=.int .i64 a/\Hd (Kt nO w W)) (fun j _=>n-(intOf j).toNat)
 case atStart=>exact⟨0,az _,rfl,aA (Kt.refl _ _)⟩
 case round=>
  obtain⟨a,ha,rfl,hK⟩:=hrel;by_cases b:a<n
  ·have k:(a:Int)<n:=(by omega);obtain⟨I,R,rfl,-,f⟩:=l.o.resolve_left (by omega);obtain⟨U,pb,rfl,-,g⟩:=s.o.resolve_left (by omega);obtain⟨d0,z,N,L,B,T,X,G,F,P,y⟩:=((f a b).2.dk hK.o).c;obtain⟨Q,J,A,e3,C,V,S,K,Y,Z,u⟩:=((g a b).2.dk hK.o).c;have d:=aA b;generalize pg a=p at *;clear f g l s b ha;go_wp2_with fail;go_quiet (fail)
   go_wp2_with fail;have hw:wrap64 ((a:Int)+1)=((a+1:Nat):Int):=(by have:=v.o;have:=d.o;rw[wrap64];omega);rw[hw];exact⟨⟨a+1,by have:=d.o;omega,rfl,aA (nT hK.o (nV wr nq))⟩,by have:=d.o;simp only[intOf,aa];omega⟩
  ·have k:¬(a:Int)<n:=(by omega);go_wp2_with fail;go_ret;exact⟨rfl,hK.o⟩
theorem BU{w:Wd}{v:Vl}{zs:List Nat}(h:Src w v zs):∃ so sc,v=.slice so zs.length sc/\∀ W,Kt nO w W->∀ j,j<zs.length->∃ b d,so=some ⟨b,d,none⟩/\W.cell? ⟨b,d+j,none⟩=some (.int .u64 ((zs.getD j 0:Nat):Int)):=by
 obtain⟨-,so,sc,rfl,f⟩:=h;refine⟨so,sc,rfl,fun W k j g=>?_⟩;rcases f with e|⟨ad,rfl,-,a⟩
 ·rw[e] at g;simp at g
 ·have c:=a 0 (by omega);have i:ad.add 0=ad:=by simp[Addr.add]
  rw[i] at c;obtain⟨b,d,s⟩:=ad
  cases s with
  | some s=>simp[World.cell?] at c;split at c <;> simp at c
  | none=>have:=a j (by omega);rw[Addr.add_lit] at this;exact⟨b,d,rfl,k.cell (fun x=>x) this⟩
theorem Alike_yes(I:Img)(V U:ImV)(w:Wd)(hI:ImD w I V)(hU:ImD w I U)(a7:∀ i,i<I.no->(I.pr i).length<=9223372036854775807):Calls prog 16 #[imA I V,imA I U] w fun e w'=>e=.returned (.bool true)/\Kt nO w w':=by
 obtain⟨⟨ma,mc,hm⟩,⟨pa,pc,hp⟩,⟨ra,rc,hr⟩,⟨ha,hc,hh⟩,⟨ta,tc,ht⟩,-⟩:=hI.sl;obtain⟨⟨b8,b6,b3⟩,⟨c9,b9,a1⟩,⟨a5,b7,a8⟩,⟨a6,g,b0⟩,⟨a3,d9,a2⟩,-⟩:=hU.sl;obtain⟨vm,vp,vr,vh,vt⟩:=V;obtain⟨um,up,ur,uh,ut⟩:=U;dsimp only at hm hp hr hh ht b3 a1 a8 b0 a2;subst hm hp hr hh ht b3 a1 a8 b0 a2;have OK:=aA hI.ok;have b5:=aA a7;have DI:=aA hI;have DU:=aA hU;clear hI hU a7;go_enter func16,ntmps16;go_upto_region 1 with fail;refine gen_world (P:=fun W=>Code.wp prog _ _ _ W) _ ?_;intro W0 J;have k0:Kt nO w W0:=J▸((Kt.refl _ w).alloc _).alloc _;have l:=aA (show ImAt W0 w.heap.size I ⟨.slice ma I.nm mc,.slice pa I.np pc,.slice ra I.no rc,.slice ha I.hd.length hc,.slice ta I.pt.length tc⟩from⟨by
  subst J;show((w.heap.push _).push _)[w.heap.size]?=_
  rw[df,ac (by simp),df,ae rfl],DI.o.dk k0⟩)
 have k:=aA (show ImAt W0 (w.heap.size+1) I ⟨.slice b8 I.nm b6,.slice c9 I.np b9,.slice a5 I.no b7,.slice a6 I.hd.length g,.slice a3 I.pt.length d9⟩from⟨by
  subst J;exact mB w _ _,DU.o.dk k0⟩)
 have K0:=aA k0;clear J k0 DI DU;obtain⟨nm,S⟩:∃ n,n=I.nm:=⟨_,rfl⟩;obtain⟨np,b1⟩:∃ n,n=I.np:=⟨_,rfl⟩;obtain⟨no,K⟩:∃ n,n=I.no:=⟨_,rfl⟩;obtain⟨nh,L⟩:∃ n,n=I.hd.length:=⟨_,rfl⟩;obtain⟨nt,G⟩:∃ n,n=I.pt.length:=⟨_,rfl⟩;have NO:=aA K;have NH:=aA L;have NT:=aA G;have B3:=aA (show no<=9223372036854775807 by rw[K];exact OK.o.no);have B4:=aA (show nh<=9223372036854775807 by rw[L];exact OK.o.nh);have B5:=aA (show nt<=9223372036854775807 by rw[G];exact OK.o.nt);have S2:=aA (ziS _ _ _ _ W0 l.o.d.mem k.o.d.mem);rw[<-S,<-b1,<-K,<-L,<-G] at l k;dsimp only at S2;rw[<-S] at S2;clear S K L G;obtain⟨c0,c1,c2,c3,c4,c5,D,c7,B⟩:=l.o.cells;obtain⟨E,r,t,q,v,C,u,A,z⟩:=k.o.cells;generalize w.heap.size+1=ub at *;generalize w.heap.size=vb at *;go_wp2_with fail;refine S2.o.mono ?_;rintro e w1 ⟨rfl,Z⟩;have SP:=aA (zhX _ _ _ _ w1 (l.o.dk Z).d.je (k.o.dk Z).d.je);dsimp only at SP;replace l:=aA (l.o.dk Z);replace k:=aA (k.o.dk Z);have K1:=aA (nT K0.o Z);clear Z K0 S2 b1 c0 c1 c2 c3 c4 c5 D c7 B E r t q v C u A z;obtain⟨c0,c1,c2,c3,c4,c5,D,c7,B⟩:=l.o.cells;obtain⟨E,r,t,q,v,C,u,A,z⟩:=k.o.cells;go_wp2_with fail;refine SP.o.mono ?_;rintro e Q ⟨rfl,k2⟩;replace l:=aA (l.o.dk k2);replace k:=aA (k.o.dk k2);have K2:=aA (nT K1.o k2);clear k2 K1 SP c0 c1 c2 c3 c4 c5 D c7 B E r t q v C u A z;obtain⟨c0,c1,c2,c3,c4,c5,D,c7,B⟩:=l.o.cells;obtain⟨E,r,t,q,v,C,u,A,z⟩:=k.o.cells;go_wp2_with fail;clear c0 c1 c2 c3 c4 c5 D c7 B E r t q v C u A z;go_loopw [5] (fun p W=>∃ a:Nat,a<=no/\p=.int .i64 a/\Hd (Kt nO Q W)) (fun p _=>no-(intOf p).toNat)
 case atStart=>exact⟨0,az _,rfl,aA (Kt.refl _ _)⟩
 case round=>
  obtain⟨a,js,rfl,hK⟩:=hrel;obtain⟨c0,c1,c2,c3,c4,c5,D,c7,B⟩:=(l.o.dk hK.o).cells;obtain⟨E,r,t,q,v,C,u,A,z⟩:=(k.o.dk hK.o).cells;by_cases c:a<no
  ·have e3:(a:Int)<no:=(by omega);have y:a<I.no:=(by rw[<-NO.o];exact c);obtain⟨f,o,so,sc,rfl,N,SA⟩:∃ f o so sc,ra=some ⟨f,o,none⟩/\(∀ W,Kt nO Q W->W.cell? ⟨f,o+a,none⟩=some (.slice so (I.pr a).length sc))/\Hd (∀ W,Kt nO Q W->∀ j,j<(I.pr a).length->∃ Y oo,so=some ⟨Y,oo,none⟩/\W.cell? ⟨Y,oo+j,none⟩=some (.int .u64 (((I.pr a).getD j 0:Nat):Int))):=by
    obtain⟨ws,-,oa,oc,F,m⟩:=l.o.d.jg
    cases F
    rcases m with m|⟨f,o,rfl,-,g⟩
    ·omega
    ·obtain⟨q1,q2⟩:=g a y;obtain⟨so,sc,q3,q4⟩:=BU q2;exact⟨f,o,so,sc,rfl,fun W hW=>by rw[<-q3];exact hW.cell (fun x=>x) q1,aA q4⟩
   obtain⟨a0,o',e5,e7,rfl,s,SB⟩:∃ f o so sc,a5=some ⟨f,o,none⟩/\(∀ W,Kt nO Q W->W.cell? ⟨f,o+a,none⟩=some (.slice so (I.pr a).length sc))/\Hd (∀ W,Kt nO Q W->∀ j,j<(I.pr a).length->∃ Y oo,so=some ⟨Y,oo,none⟩/\W.cell? ⟨Y,oo+j,none⟩=some (.int .u64 (((I.pr a).getD j 0:Nat):Int))):=by
    obtain⟨ws,-,oa,oc,F,m⟩:=k.o.d.jg
    cases F
    rcases m with m|⟨f,o,rfl,-,g⟩
    ·omega
    ·obtain⟨q1,q2⟩:=g a y;obtain⟨so,sc,q3,q4⟩:=BU q2;exact⟨f,o,so,sc,rfl,fun W hW=>by rw[<-q3];exact hW.cell (fun x=>x) q1,aA q4⟩
   have BN:=aA (b5.o a y);generalize I.pr a=zs at *;obtain⟨n,hn⟩:=xe (zs.length);rw[<-hn] at N s SA SB BN;have f1:=N wr hK.o;have f2:=s wr hK.o;have e0:=aA N;have b4:=aA s;have T:=aA c;clear hn N s c y js;go_wp2_with fail;go_quiet (fail)
   clear f1 f2 c0 c1 c2 c3 c4 c5 D c7 B E r t q v C u A z;have KQ:=aA (nT hK.o (nV wr nq));generalize wr.drewN nq=wq at *;clear hK;obtain⟨c0,c1,c2,c3,c4,c5,D,c7,B⟩:=(l.o.dk KQ.o).cells;obtain⟨E,r,t,q,v,C,u,A,z⟩:=(k.o.dk KQ.o).cells;go_wp2_with fail;clear c0 c1 c2 c3 c4 c5 D c7 B E r t q v C u A z;go_loopw [6] (fun p W=>∃ b:Nat,b<=n/\p=.int .i64 b/\Hd (Kt nO Q W)) (fun p _=>n-(intOf p).toNat)
   case atStart=>exact⟨0,az _,rfl,KQ⟩
   case round=>
    obtain⟨b,X,rfl,hJ⟩:=hrel;obtain⟨c0,c1,c2,c3,c4,c5,D,c7,B⟩:=(l.o.dk hJ.o).cells;obtain⟨E,r,t,q,v,C,u,A,z⟩:=(k.o.dk hJ.o).cells;have f1:=e0.o _ hJ.o;have f2:=b4.o _ hJ.o;by_cases c:b<n
    ·have R:(b:Int)<n:=(by omega);obtain⟨Y,oo,rfl,g1⟩:=SA.o _ hJ.o b c;obtain⟨e4,e6,rfl,g2⟩:=SB.o _ hJ.o b c;have h:=aA c;clear c X;go_wp2_with fail;go_quiet (fail)
     go_wp2_with fail;have hw:wrap64 ((b:Int)+1)=((b+1:Nat):Int):=(by have:=BN.o;have:=h.o;rw[wrap64];omega);rw[hw];exact⟨⟨b+1,by have:=h.o;omega,rfl,aA (nT hJ.o (nV _ nq))⟩,by have:=h.o;simp only[intOf,aa];omega⟩
    ·have R:¬(b:Int)<n:=(by omega);go_wp2_with fail;have hw:wrap64 ((a:Int)+1)=((a+1:Nat):Int):=(by have:=B3.o;have:=T.o;rw[wrap64];omega);go_round
     case rel=>exact⟨a+1,by have:=T.o;omega,by rw[hw],hJ⟩
     case measure=>rw[hw];have:=T.o;simp only[intOf,aa];omega
  ·have e3:¬(a:Int)<no:=(by omega);have K3:=aA hK.o;clear hK;go_wp2_with fail;clear c0 c1 c2 c3 c4 c5 D c7 B E r t q v C u A z;go_loopw [7] (fun p W=>∃ b:Nat,b<=nh/\p=.int .i64 b/\Hd (Kt nO Q W)) (fun p _=>nh-(intOf p).toNat)
   case atStart=>exact⟨0,az _,rfl,K3⟩
   case round=>
    obtain⟨b,X,rfl,hJ⟩:=hrel;obtain⟨c0,c1,c2,c3,c4,c5,D,c7,B⟩:=(l.o.dk hJ.o).cells;obtain⟨E,r,t,q,v,C,u,A,z⟩:=(k.o.dk hJ.o).cells;by_cases c:b<nh
    ·have R:(b:Int)<nh:=(by omega);obtain⟨f,o,rfl,g1⟩:∃ f o,ha=some ⟨f,o,none⟩/\wr.cell? ⟨f,o+b,none⟩=some (.int .u64 ((I.hd.getD b 0:Nat):Int)):=by
      obtain⟨-,oa,oc,F,m⟩:=(l.o.dk hJ.o).d.jr
      cases F
      rcases m with m|⟨f,o,rfl,-,g⟩
      ·rw[NH.o] at c;omega
      ·exact⟨f,o,rfl,(g b (by rw[<-NH.o];exact c)).2⟩
     obtain⟨a0,o',rfl,g2⟩:∃ f o,a6=some ⟨f,o,none⟩/\wr.cell? ⟨f,o+b,none⟩=some (.int .u64 ((I.hd.getD b 0:Nat):Int)):=by
      obtain⟨-,oa,oc,F,m⟩:=(k.o.dk hJ.o).d.jr
      cases F
      rcases m with m|⟨f,o,rfl,-,g⟩
      ·rw[NH.o] at c;omega
      ·exact⟨f,o,rfl,(g b (by rw[<-NH.o];exact c)).2⟩
     have h:=aA c;clear c X;go_wp2_with fail;go_quiet (fail)
     go_wp2_with fail;have hw:wrap64 ((b:Int)+1)=((b+1:Nat):Int):=(by have:=B4.o;have:=h.o;rw[wrap64];omega);rw[hw];exact⟨⟨b+1,by have:=h.o;omega,rfl,aA (nT hJ.o (nV _ nq))⟩,by have:=h.o;simp only[intOf,aa];omega⟩
    ·have R:¬(b:Int)<nh:=(by omega);have K4:=aA hJ.o;clear hJ;go_wp2_with fail;clear c0 c1 c2 c3 c4 c5 D c7 B E r t q v C u A z;go_loopw [8] (fun p W=>∃ b:Nat,b<=nt/\p=.int .i64 b/\Hd (Kt nO Q W)) (fun p _=>nt-(intOf p).toNat)
     case atStart=>exact⟨0,az _,rfl,K4⟩
     case round=>
      obtain⟨b2,a4,rfl,hJ⟩:=hrel;obtain⟨c0,c1,c2,c3,c4,c5,D,c7,B⟩:=(l.o.dk hJ.o).cells;obtain⟨E,r,t,q,v,C,u,A,z⟩:=(k.o.dk hJ.o).cells;by_cases c:b2<nt
      ·have a9:(b2:Int)<nt:=(by omega);obtain⟨f,o,rfl,g1⟩:∃ f o,ta=some ⟨f,o,none⟩/\wr.cell? ⟨f,o+b2,none⟩=some (.int .i64 (I.pt.getD b2 0)):=by
        obtain⟨-,oa,oc,F,m⟩:=(l.o.dk hJ.o).d.kh
        cases F
        rcases m with m|⟨f,o,rfl,-,g⟩
        ·rw[NT.o] at c;omega
        ·exact⟨f,o,rfl,(g b2 (by rw[<-NT.o];exact c)).2⟩
       obtain⟨a0,o',rfl,g2⟩:∃ f o,a3=some ⟨f,o,none⟩/\wr.cell? ⟨f,o+b2,none⟩=some (.int .i64 (I.pt.getD b2 0)):=by
        obtain⟨-,oa,oc,F,m⟩:=(k.o.dk hJ.o).d.kh
        cases F
        rcases m with m|⟨f,o,rfl,-,g⟩
        ·rw[NT.o] at c;omega
        ·exact⟨f,o,rfl,(g b2 (by rw[<-NT.o];exact c)).2⟩
       have h:=aA c;clear c a4;go_wp2_with fail;go_quiet (fail)
       go_wp2_with fail;have hw:wrap64 ((b2:Int)+1)=((b2+1:Nat):Int):=(by have:=B5.o;have:=h.o;rw[wrap64];omega);rw[hw];exact⟨⟨b2+1,by have:=h.o;omega,rfl,aA (nT hJ.o (nV _ nq))⟩,by have:=h.o;simp only[intOf,aa];omega⟩
      ·have a9:¬(b2:Int)<nt:=(by omega);have K5:=aA hJ.o;clear hJ;go_wp2_with fail;go_ret;exact⟨rfl,nT K2.o K5.o⟩
end W
end Go.Proofs.YtfmgnljlkdmndaaGreatDoor
