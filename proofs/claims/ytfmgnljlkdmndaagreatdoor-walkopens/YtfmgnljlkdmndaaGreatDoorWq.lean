import Derived.Test.YtfmgnljlkdmndaaGreatDoorWo
import Derived.Test.YtfmgnljlkdmndaaGreatDoorWp
import Derived.Test.YtfmgnljlkdmndaaGreatDoorWr
set_option maxRecDepth 1000000
set_option maxHeartbeats 0
namespace Go.Proofs.YtfmgnljlkdmndaaGreatDoor
namespace W
open Tryz RowKit
set_option linter.unusedVariables false
theorem rD{w a:Wd}(h:M.Kt M.nO w a):Kt nO w a:=⟨h.os,h.tape,h.output,h.size,h.block⟩
theorem ZM(I:Img)(V:ImV)(k L:Nat)(hk:k<=8)(hL:L<=64)(a7:I.ord=(k:Int))(a8:I.dl=(L:Int))(w:Wd)(hI:ImD w I V):Calls prog 78 #[imA I V] w fun e w'=>e=.returned (.int .i64 (fA (r2 I k)))/\Kt nO w w':=by
 have b2:=hI.ep;have d5:=aA hI.jr.1;obtain⟨-,-,-,-,-,bm,bp,br,bt⟩:=hI.sl;obtain⟨⟨ma,mc,hm⟩,⟨pa,pc,hp⟩,⟨ra,rc,hr⟩,⟨ha,hc,hh⟩,⟨ta,tc,ht⟩,-⟩:=hI.sl;obtain⟨vm,vp,vr,vh,vt⟩:=V;dsimp only at hm hp hr hh ht;subst hm hp hr hh ht;have Y:=aA (show ImAt (w.alloc (imO I _)) w.heap.size I _ from⟨nH _ _,hI.dk ((Kt.refl _ w).alloc _)⟩);have K0:=aA (show Kt nO w (w.alloc (imO I _))from(Kt.refl _ w).alloc (imO I ⟨.slice ma I.nm mc,.slice pa I.np pc,.slice ra I.no rc,.slice ha I.hd.length hc,.slice ta I.pt.length tc⟩));obtain⟨c0,c1,c2,c3,c4,c5,c,c7,a⟩:=Y.o.cells;have A:=aA (show LnI w ((w.alloc (imO I ⟨.slice ma I.nm mc,.slice pa I.np pc,.slice ra I.no rc,.slice ha I.hd.length hc,.slice ta I.pt.length tc⟩)).alloc (.cells #[.int .u64 I.bS,.int .i64 I.dl,.int .i64 I.ord] 24 (0,0))) w.heap.size (w.heap.size+1) I ⟨.slice ma I.nm mc,.slice pa I.np pc,.slice ra I.no rc,.slice ha I.hd.length hc,.slice ta I.pt.length tc⟩from⟨Y.o.dk ((Kt.refl _ _).alloc _),by have:=nH (w.alloc (imO I ⟨.slice ma I.nm mc,.slice pa I.np pc,.slice ra I.no rc,.slice ha I.hd.length hc,.slice ta I.pt.length tc⟩)) (.cells #[.int .u64 I.bS,.int .i64 I.dl,.int .i64 I.ord] 24 (0,0));rwa [World.size_alloc] at this,K0.o.alloc _⟩);obtain⟨N,S⟩:=xe (fA (r2 I k));rw[<-S];have RR:=aA S;have E:=aA a7;have D:=aA a8;have d1:=aA (M.pow8 k hk);have BM:=aA bm;have BP:=aA bp;have BR:=aA br;have d9:=aA b2;clear hI S a7 a8 Y K0 bm bp br b2;go_enter func78,ntmps78;go_upto_region 2 with fail;refine kO (P:=fun W=>Code.wp prog _ _ _ W) _ ?_;intro W0 hW;rw[<-hW] at A;clear hW c0 c1 c2 c3 c4 c5 c c7 a;generalize w.heap.size+1=g at *;generalize w.heap.size=ib at *;obtain⟨c0,c1,c2,c3,c4,c5,c,c7,a⟩:=A.o.im.cells;have B:W0.cell? ⟨g,1,none⟩=some (.int .i64 I.dl):=by simp[World.cell?,A.o.cf]
 rw[D.o] at B;have IN:=aA (fun W=>NK I.ep 0 (L:Int) W);have s:wiB I.ep 0 I.dl=wiB I.ep 0 (L:Int):=by rw[D.o]
 obtain⟨b0,t⟩:∃ b,b=wiB I.ep 0 (L:Int):=⟨_,rfl⟩;rw[<-t] at IN s;go_wp2_with fail;refine(IN.o _).mono ?_;rintro e w1 ⟨rfl,rfl⟩;clear c0 c1 c2 c3 c4 c5 c c7 a B
 cases b0 with
 | false=>
  have m:N=0:=by rw[RR.o,r2,s,ae rfl];rfl
  subst m;clear t s;go_wp2_with fail;go_ret;exact⟨rfl,A.o.k⟩
 | true=>
  have K : 0<=I.ep/\I.ep<=(L:Int):=by unfold wiB at t;exact bw t.symm
  obtain⟨r,hr⟩:=au K.1;have HR:=aA hr;have d2:r<=64:=by omega
  obtain⟨n,hn⟩:=xe (r*2 ^ k);have a1:n<=16384:=by rw[hn];exact an (Nat.mul_le_mul d2 d1.o.2) (by decide)
  obtain⟨P,hP⟩:=xe (2 ^ k);obtain⟨R,U⟩:=xe (M.RS k);have a4:R=4096*P:=by rw[U,M.RS,hP]
  have C:r*P=n:=by rw[hP,hn]
  obtain⟨z,hz⟩:=xe (n*4096);have b9:IntKind.u64.wrap ((r:Int)*(R:Int))=(z:Int):=by have e3:r*R=z:=(by rw[hz,<-C,a4,cy,aq P]);have Z:(r:Int)*(R:Int)=z:=(by rw[<-e3,Int.natCast_mul]);rw[Z,wrap_u64];omega
  have b4:IntKind.i64.wrap ((r:Int)*(P:Int))=(n:Int):=by have Z:(r:Int)*(P:Int)=n:=(by rw[<-C,Int.natCast_mul]);rw[Z,cz];omega
  have b5:wrap64 ((r:Int)*(P:Int))=(n:Int):=by have Z:(r:Int)*(P:Int)=n:=(by rw[<-C,Int.natCast_mul]);rw[Z,wrap64];omega
  have HN:=aA (show I.ep.toNat*2 ^ k=n by rw[hr,aa,hn]);have l:=aA (show r2 I k=(if I.nm≠n*4096 then some 1 else if I.np≠n then some 2 else if I.no≠k then some 3 else if fst1 I.no (fun j=>decide ((I.pr j).length=pwN I.np j))≠none then some 3 else if I.hd.length≠k+1 then some 4 else if I.pt.length≠8 then some 5 else none)by unfold r2;rw[ac (by rw[s];simp),HN.o]);have RC:=aA (fun W=>(M.R_any (I.bS:Int) (L:Int) k hk W).mono (fun e w' (h:e=.returned (.int .u64 ((M.RS k:Nat):Int))/\M.Kt M.nO W w')=>(⟨h.1,rD h.2⟩:e=.returned (.int .u64 ((M.RS k:Nat):Int))/\Kt nO W w')));rw[<-U] at RC;have PW:=aA (fun W=>nE k (by omega) W);rw[<-hP] at PW;have f1:IntKind.u64.wrap (I.nm:Int)=I.nm:=by have:=BM.o;rw[wrap_u64];omega
  have f2:IntKind.u64.wrap (r:Int)=r:=by rw[wrap_u64];omega
  have HZ:=aA hz;have b6:=aA a1;clear t s K hr hn hP U a4 C hz a1;obtain⟨c0,c1,c2,c3,c4,c5,c,c7,a⟩:=A.o.im.all;obtain⟨B,p⟩:=A.o.all;have q0:∀ x:KW w1,x.v.cell? ⟨g,0,none⟩=some (.int .u64 I.bS):=fun x=>by simp[World.cell?,(A.o.dk x.k).cf]
  rw[D.o] at B;rw[E.o] at p;rw[HR.o] at c3;dsimp only at c4 c5 c c7 a;by_cases f:I.nm=z
  case neg=>
   have J:((I.nm:Int) != (z:Int))=true:=(by rw[cx];omega);have m:N=1:=(by rw[RR.o,l.o,<-HZ.o,ae f];rfl);clear f;subst m;go_wp2_with fail;refine cR (by kernel_rfl) (by kernel_rfl) ?_;repeat (go_big_quiet_step (first|(go_at_call 128;exact Calls.ek (RC.o _))))
   refine wpQuiet_nil ?_;intro x;have KX:=aA (nT A.o.k x.k);clear c0 c1 c2 c3 c4 c5 c c7 a q0 B p;generalize x.v=W1 at *;go_wp2_with fail;go_ret;exact⟨rfl,KX.o⟩
  have J:((I.nm:Int) != (z:Int))=false:=by rw[ay];omega
  have E1:=aA (show I.nm=n*4096 from f.trans HZ.o);clear f;go_wp2_with fail;refine cR (by kernel_rfl) (by kernel_rfl) ?_;repeat (go_big_quiet_step (first|(go_at_call 128;exact Calls.ek (RC.o _))))
  refine wpQuiet_nil ?_;intro x;have L1:=aA (A.o.dk x.k);clear c0 c1 c2 c3 c4 c5 c c7 a q0 B p A b9 f1 f2 J;generalize x.v=W1 at *;obtain⟨c0,c1,c2,c3,c4,c5,c,c7,a⟩:=L1.o.im.all;obtain⟨B,p⟩:=L1.o.all;rw[D.o] at B;rw[E.o] at p;rw[HR.o] at c3;dsimp only at c4 c5 c c7 a;by_cases f:I.np=n
  case neg=>
   have J:((I.np:Int) != (n:Int))=true:=(by rw[cx];omega);have m:N=2:=(by rw[RR.o,l.o,ac (bi E1.o),ae f];rfl);clear f;subst m;go_wp2_with fail;refine cR (by kernel_rfl) (by kernel_rfl) ?_;repeat (go_big_quiet_step (first|(go_at_call 129;exact Calls.ek ((PW.o _).mono fun _ _ ⟨f,h2⟩=>⟨f,h2▸Kt.refl _ _⟩))))
   refine wpQuiet_nil ?_;intro x;have KX:=aA (nT L1.o.k x.k);clear c0 c1 c2 c3 c4 c5 c c7 a B p;generalize x.v=W1 at *;go_wp2_with fail;go_ret;exact⟨rfl,KX.o⟩
  have J:((I.np:Int) != (n:Int))=false:=by rw[ay];omega
  have E2:=aA f;clear f;go_wp2_with fail;refine cR (by kernel_rfl) (by kernel_rfl) ?_;repeat (go_big_quiet_step (first|(go_at_call 129;exact Calls.ek ((PW.o _).mono fun _ _ ⟨f,h2⟩=>⟨f,h2▸Kt.refl _ _⟩))))
  refine wpQuiet_nil ?_;intro x;have L2:=aA (L1.o.dk x.k);clear c0 c1 c2 c3 c4 c5 c c7 a B p L1 b4 b5 J;generalize x.v=W2 at *;obtain⟨c0,c1,c2,c3,c4,c5,c,c7,a⟩:=L2.o.im.cells;have p:W2.cell? ⟨g,2,none⟩=some (.int .i64 I.ord):=by simp[World.cell?,L2.o.cf]
  rw[E.o] at p;dsimp only at c4 c5 c c7 a;by_cases f:I.no=k
  case neg=>have J:((I.no:Int) != (k:Int))=true:=(by rw[cx];omega);have m:N=3:=(by rw[RR.o,l.o,ac (bi E1.o),ac (bi E2.o),ae f];rfl);clear f;subst m;go_wp2_with fail;go_ret;exact⟨rfl,L2.o.k⟩
  have J:((I.no:Int) != (k:Int))=false:=by rw[ay];omega
  have X:=aA f;clear f;go_wp2_with fail;clear c0 c1 c2 c3 c4 c5 c c7 a p J;go_loopw [4] (fun iv W=>∃ j:Nat,j<=k/\iv=.int .i64 j/\Hd (LnI w W ib g I ⟨.slice ma I.nm mc,.slice pa I.np pc,.slice ra I.no rc,.slice ha I.hd.length hc,.slice ta I.pt.length tc⟩/\∀ x,x<j->decide ((I.pr x).length=pwN I.np x)=true)) (fun iv _=>k-(intOf iv).toNat)
  case atStart=>exact⟨0,az _,rfl,aA ⟨L2.o,fun x hx=>by omega⟩⟩
  case round=>
   clear L2;obtain⟨j,hj,rfl,hR⟩:=hrel;have L3:=aA hR.o.1;have y:=aA hR.o.2;clear hR;obtain⟨c0,c1,c2,c3,c4,c5,c,c7,a⟩:=L3.o.im.cells;have p:wr.cell? ⟨g,2,none⟩=some (.int .i64 I.ord):=(by simp[World.cell?,L3.o.cf]);rw[E.o] at p;dsimp only at c4 c5 c c7 a;by_cases F:j<k
   ·have c9:(j:Int)<k:=(by omega);have T:=aA F;have b7:=aA (show j+1<=k from F);have HW:=aA (show wrap64 ((j:Int)+1)=((j+1:Nat):Int)by rw[wrap64];omega);clear F hj;obtain⟨Q,hQ⟩:=xe (2 ^ (j+1));have PJ:=aA (fun W=>nE (j+1) (by have:=T.o;omega) W);rw[<-hQ] at PJ;have d7 : 1<=Q:=(by rw[hQ];exact ax _);have d8:Q<=512:=(by rw[hQ];exact nD _ (by have:=T.o;omega));obtain⟨pn,u⟩:=xe (I.np/Q);have PN:=aA (show(pn+63)/64=pwN I.np j by rw[pwN,u,hQ]);have d3:pn<=16384:=(by have:=b6.o;rw[u,E2.o];exact an (dg _ _) this);have s1:IntKind.i64.wrap ((j:Int)+1)=((j+1:Nat):Int):=(by have:=T.o;rw[cz];omega);have s2:(I.np:Int).tdiv (Q:Int)=pn:=(by rw[u];rfl);have s3:(I.np:Int)/(Q:Int)=pn:=(by rw[u];simp);have s4:IntKind.i64.wrap (pn:Int)=pn:=(by rw[cz];omega);have s5:¬(Q:Int)=0:=(by omega);have s6:((Q:Int) == 0)=false:=(by rw[ag];omega);have s7:¬(Q:Int) = -1:=(by omega);obtain⟨j1,a6⟩:=xe (j+1);rw[<-a6] at s1 PJ;clear hQ u a6;go_wp2_with fail;clear c0 c1 c2 c3 c4 c5 c c7 a p;obtain⟨c0,c1,c2,c3,c4,c5,c,c7,a⟩:=L3.o.im.all;dsimp only at c4 c5 c c7 a;refine cR (by kernel_rfl) (by kernel_rfl) ?_;repeat (go_big_quiet_step (first|(go_at_call 129;exact Calls.ek ((PJ.o _).mono fun _ _ ⟨f,h2⟩=>⟨f,h2▸Kt.refl _ _⟩))))
    refine wpQuiet_nil ?_;intro x;have L4:=aA (L3.o.dk x.k);clear c0 c1 c2 c3 c4 c5 c c7 a s1 s2 s3 s4 s5 s6 s7 L3;generalize x.v=W4 at *;obtain⟨c0,c1,c2,c3,c4,c5,c,c7,a⟩:=L4.o.im.cells;dsimp only at c4 c5 c c7 a;obtain⟨ws,_,d6,d4,b8,b1⟩:=L4.o.im.d.jg;injection b8 with e1 Z e3
    subst e1;have G:j<I.no:=(by rw[X.o];exact T.o);rcases b1 with b1|⟨bl,o,rfl,_,b3⟩
    ·omega
    obtain⟨d0,hz,za,zc,a5,_⟩:=b3 j G;rw[a5] at d0;have e0:(j:Int)<I.no:=(by omega);obtain⟨zl,a0⟩:=xe ((I.pr j).length);rw[<-a0] at d0;obtain⟨q,hq⟩:=xe (pwN I.np j);have t1:((pn:Int)+63)/64=(q:Int):=(by rw[hq,<-PN.o];omega);have HQ:=aA hq;have a2:=aA a0;clear b3 hz a5 a0 hq Z e3 G;by_cases h4:zl=q
    case neg=>
     have g4:((zl:Int) != (q:Int))=true:=(by rw[cx];omega);have m:N=3:=by
      rw[RR.o,l.o,ac (bi E1.o),ac (bi E2.o),ac (bi X.o),ae];·rfl
      ·rw[fY (i:=j) (by rw[X.o];exact T.o) y.o (ah (by rw[<-a2.o,<-HQ.o];exact h4))];exact Option.some_ne_none _
     clear h4;subst m;go_wp2_with fail;go_ret;exact⟨rfl,L4.o.k⟩
    have g4:((zl:Int) != (q:Int))=false:=(by rw[ay];omega);have a9:=aA (show ∀ x,x<j+1->decide ((I.pr x).length=pwN I.np x)=true from fun x hx=>by
     by_cases e:x=j;·rw[e,<-a2.o,<-HQ.o];exact af h4
     ·exact y.o x (by omega))
    clear h4;go_wp2_with fail;go_round
    case rel=>exact⟨j+1,b7.o,by first|rw[HW.o]|go_num,aA ⟨L4.o,a9.o⟩⟩
    case measure=>first|(rw[HW.o];have:=T.o;simp only[intOf,aa];omega)|(have:=T.o;simp[intOf];omega)
   ·have c9:¬(j:Int)<k:=(by omega);have a3:j=k:=(by omega);have E4:=aA (show ¬fst1 I.no (fun j=>decide ((I.pr j).length=pwN I.np j))≠none from fun h=>h (fst1_ok (fun x hx=>y.o x (by rw[a3,<-X.o];exact hx))));clear F hj a3;by_cases h5:I.hd.length=k+1
    case neg=>have g5:((I.hd.length:Int) != (k:Int)+1)=true:=(by rw[cx];omega);have m:N=4:=(by rw[RR.o,l.o,ac (bi E1.o),ac (bi E2.o),ac (bi X.o),ac E4.o,ae h5];rfl);clear h5;subst m;go_wp2_with fail;go_ret;exact⟨rfl,L3.o.k⟩
    have g5:((I.hd.length:Int) != (k:Int)+1)=false:=(by rw[ay];omega);have E5:=aA h5;clear h5;by_cases h6:I.pt.length=8
    case neg=>have g6:((I.pt.length:Int) != 8)=true:=(by rw[cx];omega);have m:N=5:=(by rw[RR.o,l.o,ac (bi E1.o),ac (bi E2.o),ac (bi X.o),ac E4.o,ac (bi E5.o),ae h6];rfl);clear h6;subst m;go_wp2_with fail;go_ret;exact⟨rfl,L3.o.k⟩
    have g6:((I.pt.length:Int) != 8)=false:=(by rw[ay];omega);have m:N = -1:=(by rw[RR.o,l.o,ac (bi E1.o),ac (bi E2.o),ac (bi X.o),ac E4.o,ac (bi E5.o),ac (bi h6)];rfl);clear h6;subst m;go_wp2_with fail;go_ret;exact⟨rfl,L3.o.k⟩
theorem QC(I:Img)(V:ImV)(k r:Nat)(hS:Sn9 I k r)(w:Wd)(hI:ImD w I V):Calls prog 81 #[imA I V] w fun e w'=>e=.returned (.int .i64 (fA (fst1 I.np fun i=>ok5 (I.pg i))))/\Kt nO w w':=by
 obtain⟨⟨ma,mc,hm⟩,⟨pa,pc,hp⟩,⟨ra,rc,hr⟩,⟨ha,hc,hh⟩,⟨ta,tc,ht⟩,-⟩:=hI.sl;obtain⟨vm,vp,vr,vh,vt⟩:=V;dsimp only at hm hp hr hh ht;subst hm hp hr hh ht;have a0:=aA (show ImAt (w.alloc (imO I _)) w.heap.size I _ from⟨nH _ _,hI.dk ((Kt.refl _ w).alloc _)⟩);have K0:=aA (show Kt nO w (w.alloc (imO I _))from(Kt.refl _ w).alloc (imO I ⟨.slice ma I.nm mc,.slice pa I.np pc,.slice ra I.no rc,.slice ha I.hd.length hc,.slice ta I.pt.length tc⟩));obtain⟨c0,c1,c2,c3,c4,c5,c6,c7,c8⟩:=a0.o.cells;obtain⟨ok,Q⟩:=xe (fun i=>ok5 (I.pg i));rw[<-Q];have a8:=aA (show ∀ i,ok i=ok5 (I.pg i)from fun i=>by rw[Q]);have J:=aA hS.gj;have HS:=aA hS;obtain⟨rr,s⟩:=xe (fA (fst1 I.np ok));rw[<-s];have a9:=aA (show ∀ a,a<I.np->(∀ j,j<a->ok j=true)->ok a=false->rr=(a:Int)from fun a f g h3=>by rw[s,fY f g h3];rfl);have a3:=aA (show(∀ j,j<I.np->ok j=true)->rr = -1 from fun h=>by rw[s,fst1_ok h];rfl);clear hI Q s hS;go_enter func81,ntmps81;go_wp2_with fail;clear c0 c1 c2 c3 c4 c5 c6 c7 c8;generalize w.heap.size=ib at *;generalize w.alloc (imO I ⟨.slice ma I.nm mc,.slice pa I.np pc,.slice ra I.no rc,.slice ha I.hd.length hc,.slice ta I.pt.length tc⟩)=W0 at *;go_loopw [3] (fun iv W=>∃ a:Nat,a<=I.np/\iv=.int .i64 a/\Hd (Kt nO W0 W/\∀ j,j<a->ok j=true)) (fun iv _=>I.np-(intOf iv).toNat)
 case atStart=>exact⟨0,az _,rfl,aA ⟨Kt.refl _ _,fun j hj=>by omega⟩⟩
 case round=>
  obtain⟨a,a7,rfl,x⟩:=hrel;have S:=aA (a0.o.dk x.o.1);obtain⟨c0,c1,c2,c3,c4,c5,c6,c7,c8⟩:=S.o.cells;dsimp only at c5;by_cases d:a<I.np
  ·have b4:(a:Int)<I.np:=(by omega);obtain⟨bl,oo,oc,hv,U,a1⟩:=S.o.ew a d;injection hv with A G F
   subst A;clear G F;obtain⟨d0,d1,d2,d3,d4,d5,d6,d7,d8,d9,b3⟩:=a1.c;have l:=aA (a8.o a);obtain⟨kd,od,cc,ll,-,-,-,-,y5,y6,-⟩:=HS.o.pg a d;have CE:=aA (fun W=>sJ (I.pg a) cc y5 y6 W);have a2:=aA (fun c hc W=>rU (I.pg a) U c hc W);have K:=aA (fun h4=>ok5_iff (I.pg a) U cc y5 h4);have o:=aA (a9.o a d x.o.2);have u:=aA (show ok a=true->∀ j,j<a+1->ok j=true from fun eo j hj=>by
    by_cases e:j=a;·rw[e];exact eo
    ·exact x.o.2 j (by omega))
   have q:=aA d;have KG:=aA x.o.1;obtain⟨B,hB⟩:=xe (aE (wsP (I.pg a)));have BE:=aA (show ∀ j,B j=aE (wsP (I.pg a)) j from fun j=>by rw[hB]);rw[<-hB] at K;have a6:=aA (show ∀ c:Nat,c<256->∀ W,Calls prog 131 #[gV (I.pg a),.int .i64 c] W fun e w'=>e=.returned (.bool (B c))/\Kt nO W w' from fun c hc W=>by rw[BE.o];exact a2.o c hc W);clear BE;clear a2;generalize I.pg a=p at *;generalize celN9 cc=D at *;clear a1 U d a7 x hB y5 y6;go_upto_region 5 with fail;refine kO (P:=fun W=>Code.wp prog _ _ _ W) _ ?_;intro W1 hW;have k1:Kt nO wr W1:=(by subst hW;exact(Kt.refl _ wr).alloc _);have X1:=aA (show W1.heap[wr.heap.size]?=some (aV p)by subst hW;exact nH _ _);have KE:=aA (nT KG.o k1);generalize wr.heap.size=pb at *;clear hW k1 c0 c1 c2 c3 c4 c5 c6 c7 c8 d0 d1 d2 d3 d4 d5 d6 d7 d8 d9 b3 S KG;obtain⟨Z,A,G,F,Y,e5,e6,e7,e8,e9,n⟩:=dG X1.o;have HW:=aA (show wrap64 ((a:Int)+1)=((a+1:Nat):Int)by have:=J.o;have:=q.o;rw[wrap64];omega);by_cases f:p.kd=4
   case neg=>have q1:(p.kd != 4)=true:=(by rw[cx];exact f);have eo:ok a=true:=(by rw[l.o];unfold ok5;rw[ah f];rfl);have EO:=aA (u.o eo);clear f eo;go_wp2_with fail;exact⟨⟨a+1,by have:=q.o;omega,by first|go_num|rw[HW.o],aA ⟨KE.o,EO.o⟩⟩,by have:=q.o;have:=J.o;first|(simp[intOf];omega)|(rw[HW.o];simp only[intOf,aa];omega)⟩
   have q1:(p.kd != 4)=false:=(by rw[ay];exact f);have OI:=aA (K.o f);clear f K;go_wp2_with fail;clear Z A G F Y e5 e6 e7 e8 e9 n q1;go_loopw [5,6] (fun cv kv W=>∃ m:Nat,m<=256/\kv=.int .i64 m/\cv=.int .i64 (aI B m:Int)/\Hd (Kt nO W1 W/\∀ j,D<=j->j<m->B j=false)) (fun _ kv _=>256-(intOf kv).toNat)
   case atStart=>exact⟨0,az _,rfl,rfl,aA ⟨Kt.refl _ _,fun j f g=>by omega⟩⟩
   case round=>
    obtain⟨m,hm,rfl,rfl,hJ⟩:=hrel;have KJ:=aA hJ.o.1;have X:=aA hJ.o.2;obtain⟨C,hC⟩:=xe (aI B m);have b1:C<=256:=(by rw[hC];exact an (sY _ _) hm);have R:=aA hC;rw[<-hC];clear hC hJ;have X2:=aA ((KJ.o.block _ (lH X1.o) (fun y=>y)).trans X1.o);obtain⟨Z,A,G,F,Y,e5,e6,e7,e8,e9,n⟩:=dG X2.o;by_cases d:m<256
    ·have a5:(m:Int)<256:=(by omega);have HM:=aA d;have t:=aA (show wrap64 ((m:Int)+1)=((m+1:Nat):Int)by rw[wrap64];omega);have b5:=aA (show C<=256 from b1);have b0:=aA (show wrap64 ((C:Int)+1)=((C+1:Nat):Int)by rw[wrap64];omega);obtain⟨b,hb⟩:=xe (B m);have HA:=aA (fun W=>a6.o m d W);rw[<-hb] at HA;have HB:=aA hb;clear hb d;go_wp2_with fail;refine(HA.o _).mono ?_;rintro e w1 ⟨rfl,k1⟩;have N:=aA (nT KJ.o k1);clear k1 Z A G F Y e5 e6 e7 e8 e9 n
     cases b with
     | false=>
      have C1:=aA (show aI B (m+1)=C by rw[lL _ _ HB.o.symm];exact R.o.symm);have E:=aA (show ∀ j,D<=j->j<m+1->B j=false from fun j f g=>by
       by_cases e:j=m;·rw[e];exact HB.o.symm
       ·exact X.o j f (by omega))
      go_wp2_with fail;exact⟨⟨m+1,HM.o,by first|go_num|rw[t.o],by rw[C1.o],aA ⟨N.o,E.o⟩⟩,by have:=HM.o;first|(simp[intOf];omega)|(rw[t.o];simp only[intOf,aa];omega)⟩
     | true=>
      have X3:=aA ((N.o.block _ (lH X1.o) (fun y=>y)).trans X1.o);obtain⟨Z,A,G,F,Y,e5,e6,e7,e8,e9,n⟩:=dG X3.o;go_wp2_with fail;refine(CE.o _).mono ?_;rintro e w2 ⟨rfl,k2⟩;have a4:=aA (nT N.o k2);clear k2 Z A G F Y e5 e6 e7 e8 e9 n;by_cases v:D<=m
      ·have q2:(D:Int)<=m:=(by omega);have z:=o.o (by
        rw[l.o]
        cases h:ok5 p with
        | false=>rfl
        | true=>have:=(OI.o.1 h).2 m v HM.o;rw[<-HB.o] at this;cases this)
       clear v;subst z;go_wp2_with fail;go_ret;exact⟨rfl,nT K0.o (nT KE.o a4.o)⟩
      ·have q2:¬(D:Int)<=m:=(by omega);have C1:=aA (show aI B (m+1)=C+1 by rw[mA _ _ HB.o.symm,R.o]);have E:=aA (show ∀ j,D<=j->j<m+1->B j=false from fun j f g=>X.o j f (by omega));clear v;go_wp2_with fail;exact⟨⟨m+1,HM.o,by first|go_num|rw[t.o],by rw[C1.o];first|go_num|rw[b0.o],aA ⟨a4.o,E.o⟩⟩,by have:=HM.o;first|(simp[intOf];omega)|(rw[t.o];simp only[intOf,aa];omega)⟩
    ·have a5:¬(m:Int)<256:=(by omega);have T:=aA (show C=aI B 256 by rw[R.o,show m=256 by omega]);have b2:=aA (show ∀ j,D<=j->j<256->B j=false from fun j f g=>X.o j f (by omega));have L:=aA (nT KE.o KJ.o);by_cases h0:C=0
     ·have q2:((C:Int) == 0)=true:=(by rw[cu];omega);have z:=o.o (by
       rw[l.o]
       cases h:ok5 p with
       | false=>rfl
       | true=>have:=(OI.o.1 h).1;rw[<-T.o] at this;omega)
      clear h0;subst z;go_wp2_with fail;go_ret;exact⟨rfl,nT K0.o L.o⟩
     have q2:((C:Int) == 0)=false:=(by rw[ag];omega);by_cases g:(C:Int)=p.lv
     case neg=>
      have q3:((C:Int) != p.lv)=true:=(by rw[cx];exact g);have z:=o.o (by
       rw[l.o]
       cases h:ok5 p with
       | false=>rfl
       | true=>have:=(OI.o.1 h).1.2;rw[<-T.o] at this;exact absurd this.symm g)
      clear g h0;subst z;go_wp2_with fail;go_ret;exact⟨rfl,nT K0.o L.o⟩
     have q3:((C:Int) != p.lv)=false:=(by rw[ay];exact g);have EO:=aA (u.o (by rw[l.o];exact OI.o.2 ⟨⟨by omega,by rw[<-T.o];exact g.symm⟩,b2.o⟩));clear g h0;go_wp2_with fail;go_round
     case rel=>exact⟨a+1,by have:=q.o;omega,by first|go_num|rw[HW.o],aA ⟨L.o,EO.o⟩⟩
     case measure=>have:=q.o;have:=J.o;first|(simp[intOf];omega)|(rw[HW.o];simp only[intOf,aa];omega)
  ·have b4:¬(a:Int)<I.np:=(by omega);have z:=a3.o (fun j hj=>x.o.2 j (by omega));subst z;go_wp2_with fail;go_ret;exact⟨rfl,nT K0.o x.o.1⟩
theorem UV(I:Img)(V:ImV)(pl:Int)(w:Wd)(f:ImD w I V)(a:∀ W,ImD W I V->Calls prog 78 #[imA I V] W fun e c=>e=.returned (.int .i64 pl)/\Kt nO W c):Calls prog 40 #[imA I V,.int .i64 2] w fun e c=>e=.returned (.int .i64 pl)/\Kt nO w c:=by
 obtain⟨⟨s,u,g⟩,⟨t,v,hp⟩,⟨x,o,j⟩,⟨ha,hc,k⟩,⟨y,l,i⟩,-⟩:=f.sl;obtain⟨z,E,A,C,B⟩:=V;dsimp only at g hp j k i;subst g hp j k i;have b:=aA (show ImAt (w.alloc (imO I _)) w.heap.size I _ from⟨nH _ _,f.dk ((Kt.refl _ w).alloc _)⟩);have p:=aA (show Kt nO w (w.alloc (imO I _))from(Kt.refl _ w).alloc (imO I ⟨.slice s I.nm u,.slice t I.np v,.slice x I.no o,.slice ha I.hd.length hc,.slice y I.pt.length l⟩));obtain⟨c0,c1,c2,c3,c4,c5,n,c7,q⟩:=b.o.cells;have m:=aA a;clear f a;go_enter func40,ntmps40;go_wp2_with fail;refine(m.o _ b.o.d).mono ?_;rintro e D ⟨rfl,h⟩;have r:=aA (nT p.o h);clear h c0 c1 c2 c3 c4 c5 n c7 q;go_wp2_with fail;go_ret;exact⟨rfl,r.o⟩
theorem UT(I:Img)(V:ImV)(pl:Int)(w:Wd)(f:ImD w I V)(a:∀ W,ImD W I V->Calls prog 79 #[imA I V] W fun e c=>e=.returned (.int .i64 pl)/\Kt nO W c):Calls prog 40 #[imA I V,.int .i64 3] w fun e c=>e=.returned (.int .i64 pl)/\Kt nO w c:=by
 obtain⟨⟨s,u,g⟩,⟨t,v,hp⟩,⟨x,o,j⟩,⟨ha,hc,k⟩,⟨y,l,i⟩,-⟩:=f.sl;obtain⟨z,E,A,C,B⟩:=V;dsimp only at g hp j k i;subst g hp j k i;have b:=aA (show ImAt (w.alloc (imO I _)) w.heap.size I _ from⟨nH _ _,f.dk ((Kt.refl _ w).alloc _)⟩);have p:=aA (show Kt nO w (w.alloc (imO I _))from(Kt.refl _ w).alloc (imO I ⟨.slice s I.nm u,.slice t I.np v,.slice x I.no o,.slice ha I.hd.length hc,.slice y I.pt.length l⟩));obtain⟨c0,c1,c2,c3,c4,c5,n,c7,q⟩:=b.o.cells;have m:=aA a;clear f a;go_enter func40,ntmps40;go_wp2_with fail;refine(m.o _ b.o.d).mono ?_;rintro e D ⟨rfl,h⟩;have r:=aA (nT p.o h);clear h c0 c1 c2 c3 c4 c5 n c7 q;go_wp2_with fail;go_ret;exact⟨rfl,r.o⟩
theorem US(I:Img)(V:ImV)(pl:Int)(w:Wd)(f:ImD w I V)(a:∀ W,ImD W I V->Calls prog 80 #[imA I V] W fun e c=>e=.returned (.int .i64 pl)/\Kt nO W c):Calls prog 40 #[imA I V,.int .i64 4] w fun e c=>e=.returned (.int .i64 pl)/\Kt nO w c:=by
 obtain⟨⟨s,u,g⟩,⟨t,v,hp⟩,⟨x,o,j⟩,⟨ha,hc,k⟩,⟨y,l,i⟩,-⟩:=f.sl;obtain⟨z,E,A,C,B⟩:=V;dsimp only at g hp j k i;subst g hp j k i;have b:=aA (show ImAt (w.alloc (imO I _)) w.heap.size I _ from⟨nH _ _,f.dk ((Kt.refl _ w).alloc _)⟩);have p:=aA (show Kt nO w (w.alloc (imO I _))from(Kt.refl _ w).alloc (imO I ⟨.slice s I.nm u,.slice t I.np v,.slice x I.no o,.slice ha I.hd.length hc,.slice y I.pt.length l⟩));obtain⟨c0,c1,c2,c3,c4,c5,n,c7,q⟩:=b.o.cells;have m:=aA a;clear f a;go_enter func40,ntmps40;go_wp2_with fail;refine(m.o _ b.o.d).mono ?_;rintro e D ⟨rfl,h⟩;have r:=aA (nT p.o h);clear h c0 c1 c2 c3 c4 c5 n c7 q;go_wp2_with fail;go_ret;exact⟨rfl,r.o⟩
theorem UR(I:Img)(V:ImV)(pl:Int)(w:Wd)(f:ImD w I V)(a:∀ W,ImD W I V->Calls prog 81 #[imA I V] W fun e c=>e=.returned (.int .i64 pl)/\Kt nO W c):Calls prog 40 #[imA I V,.int .i64 5] w fun e c=>e=.returned (.int .i64 pl)/\Kt nO w c:=by
 obtain⟨⟨s,u,g⟩,⟨t,v,hp⟩,⟨x,o,j⟩,⟨ha,hc,k⟩,⟨y,l,i⟩,-⟩:=f.sl;obtain⟨z,E,A,C,B⟩:=V;dsimp only at g hp j k i;subst g hp j k i;have b:=aA (show ImAt (w.alloc (imO I _)) w.heap.size I _ from⟨nH _ _,f.dk ((Kt.refl _ w).alloc _)⟩);have p:=aA (show Kt nO w (w.alloc (imO I _))from(Kt.refl _ w).alloc (imO I ⟨.slice s I.nm u,.slice t I.np v,.slice x I.no o,.slice ha I.hd.length hc,.slice y I.pt.length l⟩));obtain⟨c0,c1,c2,c3,c4,c5,n,c7,q⟩:=b.o.cells;have m:=aA a;clear f a;go_enter func40,ntmps40;go_wp2_with fail;refine(m.o _ b.o.d).mono ?_;rintro e D ⟨rfl,h⟩;have r:=aA (nT p.o h);clear h c0 c1 c2 c3 c4 c5 n c7 q;go_wp2_with fail;go_ret;exact⟨rfl,r.o⟩
theorem UQ(I:Img)(V:ImV)(pl:Int)(w:Wd)(f:ImD w I V)(a:∀ W,ImD W I V->Calls prog 82 #[imA I V] W fun e c=>e=.returned (.int .i64 pl)/\Kt nO W c):Calls prog 40 #[imA I V,.int .i64 6] w fun e c=>e=.returned (.int .i64 pl)/\Kt nO w c:=by
 obtain⟨⟨s,u,g⟩,⟨t,v,hp⟩,⟨x,o,j⟩,⟨ha,hc,k⟩,⟨y,l,i⟩,-⟩:=f.sl;obtain⟨z,E,A,C,B⟩:=V;dsimp only at g hp j k i;subst g hp j k i;have b:=aA (show ImAt (w.alloc (imO I _)) w.heap.size I _ from⟨nH _ _,f.dk ((Kt.refl _ w).alloc _)⟩);have p:=aA (show Kt nO w (w.alloc (imO I _))from(Kt.refl _ w).alloc (imO I ⟨.slice s I.nm u,.slice t I.np v,.slice x I.no o,.slice ha I.hd.length hc,.slice y I.pt.length l⟩));obtain⟨c0,c1,c2,c3,c4,c5,n,c7,q⟩:=b.o.cells;have m:=aA a;clear f a;go_enter func40,ntmps40;go_wp2_with fail;refine(m.o _ b.o.d).mono ?_;rintro e D ⟨rfl,h⟩;have r:=aA (nT p.o h);clear h c0 c1 c2 c3 c4 c5 n c7 q;go_wp2_with fail;go_ret;exact⟨rfl,r.o⟩
theorem UO(I:Img)(V:ImV)(pl:Int)(w:Wd)(f:ImD w I V)(a:∀ W,ImD W I V->Calls prog 83 #[imA I V] W fun e c=>e=.returned (.int .i64 pl)/\Kt nO W c):Calls prog 40 #[imA I V,.int .i64 7] w fun e c=>e=.returned (.int .i64 pl)/\Kt nO w c:=by
 obtain⟨⟨s,u,g⟩,⟨t,v,hp⟩,⟨x,o,j⟩,⟨ha,hc,k⟩,⟨y,l,i⟩,-⟩:=f.sl;obtain⟨z,E,A,C,B⟩:=V;dsimp only at g hp j k i;subst g hp j k i;have b:=aA (show ImAt (w.alloc (imO I _)) w.heap.size I _ from⟨nH _ _,f.dk ((Kt.refl _ w).alloc _)⟩);have p:=aA (show Kt nO w (w.alloc (imO I _))from(Kt.refl _ w).alloc (imO I ⟨.slice s I.nm u,.slice t I.np v,.slice x I.no o,.slice ha I.hd.length hc,.slice y I.pt.length l⟩));obtain⟨c0,c1,c2,c3,c4,c5,n,c7,q⟩:=b.o.cells;have m:=aA a;clear f a;go_enter func40,ntmps40;go_wp2_with fail;refine(m.o _ b.o.d).mono ?_;rintro e D ⟨rfl,h⟩;have r:=aA (nT p.o h);clear h c0 c1 c2 c3 c4 c5 n c7 q;go_wp2_with fail;go_ret;exact⟨rfl,r.o⟩
theorem UN(I:Img)(V:ImV)(pl:Int)(w:Wd)(f:ImD w I V)(a:∀ W,ImD W I V->Calls prog 84 #[imA I V] W fun e c=>e=.returned (.int .i64 pl)/\Kt nO W c):Calls prog 40 #[imA I V,.int .i64 8] w fun e c=>e=.returned (.int .i64 pl)/\Kt nO w c:=by
 obtain⟨⟨s,u,g⟩,⟨t,v,hp⟩,⟨x,o,j⟩,⟨ha,hc,k⟩,⟨y,l,i⟩,-⟩:=f.sl;obtain⟨z,E,A,C,B⟩:=V;dsimp only at g hp j k i;subst g hp j k i;have b:=aA (show ImAt (w.alloc (imO I _)) w.heap.size I _ from⟨nH _ _,f.dk ((Kt.refl _ w).alloc _)⟩);have p:=aA (show Kt nO w (w.alloc (imO I _))from(Kt.refl _ w).alloc (imO I ⟨.slice s I.nm u,.slice t I.np v,.slice x I.no o,.slice ha I.hd.length hc,.slice y I.pt.length l⟩));obtain⟨c0,c1,c2,c3,c4,c5,n,c7,q⟩:=b.o.cells;have m:=aA a;clear f a;go_enter func40,ntmps40;go_wp2_with fail;refine(m.o _ b.o.d).mono ?_;rintro e D ⟨rfl,h⟩;have r:=aA (nT p.o h);clear h c0 c1 c2 c3 c4 c5 n c7 q;go_wp2_with fail;go_ret;exact⟨rfl,r.o⟩
theorem UM(I:Img)(V:ImV)(pl:Int)(w:Wd)(f:ImD w I V)(a:∀ W,ImD W I V->Calls prog 85 #[imA I V] W fun e c=>e=.returned (.int .i64 pl)/\Kt nO W c):Calls prog 40 #[imA I V,.int .i64 9] w fun e c=>e=.returned (.int .i64 pl)/\Kt nO w c:=by
 obtain⟨⟨s,u,g⟩,⟨t,v,hp⟩,⟨x,o,j⟩,⟨ha,hc,k⟩,⟨y,l,i⟩,-⟩:=f.sl;obtain⟨z,E,A,C,B⟩:=V;dsimp only at g hp j k i;subst g hp j k i;have b:=aA (show ImAt (w.alloc (imO I _)) w.heap.size I _ from⟨nH _ _,f.dk ((Kt.refl _ w).alloc _)⟩);have p:=aA (show Kt nO w (w.alloc (imO I _))from(Kt.refl _ w).alloc (imO I ⟨.slice s I.nm u,.slice t I.np v,.slice x I.no o,.slice ha I.hd.length hc,.slice y I.pt.length l⟩));obtain⟨c0,c1,c2,c3,c4,c5,n,c7,q⟩:=b.o.cells;have m:=aA a;clear f a;go_enter func40,ntmps40;go_wp2_with fail;refine(m.o _ b.o.d).mono ?_;rintro e D ⟨rfl,h⟩;have r:=aA (nT p.o h);clear h c0 c1 c2 c3 c4 c5 n c7 q;go_wp2_with fail;go_ret;exact⟨rfl,r.o⟩
theorem WL(I:Img)(V:ImV)(pl:Int)(w:Wd)(f:ImD w I V)(a:∀ W,ImD W I V->Calls prog 86 #[imA I V] W fun e c=>e=.returned (.int .i64 pl)/\Kt nO W c):Calls prog 40 #[imA I V,.int .i64 10] w fun e c=>e=.returned (.int .i64 pl)/\Kt nO w c:=by
 obtain⟨⟨s,u,g⟩,⟨t,v,hp⟩,⟨x,o,j⟩,⟨ha,hc,k⟩,⟨y,l,i⟩,-⟩:=f.sl;obtain⟨z,E,A,C,B⟩:=V;dsimp only at g hp j k i;subst g hp j k i;have b:=aA (show ImAt (w.alloc (imO I _)) w.heap.size I _ from⟨nH _ _,f.dk ((Kt.refl _ w).alloc _)⟩);have p:=aA (show Kt nO w (w.alloc (imO I _))from(Kt.refl _ w).alloc (imO I ⟨.slice s I.nm u,.slice t I.np v,.slice x I.no o,.slice ha I.hd.length hc,.slice y I.pt.length l⟩));obtain⟨c0,c1,c2,c3,c4,c5,n,c7,q⟩:=b.o.cells;have m:=aA a;clear f a;go_enter func40,ntmps40;go_wp2_with fail;refine(m.o _ b.o.d).mono ?_;rintro e D ⟨rfl,h⟩;have r:=aA (nT p.o h);clear h c0 c1 c2 c3 c4 c5 n c7 q;go_wp2_with fail;go_ret;exact⟨rfl,r.o⟩
theorem WK(I:Img)(V:ImV)(pl:Int)(w:Wd)(f:ImD w I V)(a:∀ W,ImD W I V->Calls prog 87 #[imA I V] W fun e c=>e=.returned (.int .i64 pl)/\Kt nO W c):Calls prog 40 #[imA I V,.int .i64 11] w fun e c=>e=.returned (.int .i64 pl)/\Kt nO w c:=by
 obtain⟨⟨s,u,g⟩,⟨t,v,hp⟩,⟨x,o,j⟩,⟨ha,hc,k⟩,⟨y,l,i⟩,-⟩:=f.sl;obtain⟨z,E,A,C,B⟩:=V;dsimp only at g hp j k i;subst g hp j k i;have b:=aA (show ImAt (w.alloc (imO I _)) w.heap.size I _ from⟨nH _ _,f.dk ((Kt.refl _ w).alloc _)⟩);have p:=aA (show Kt nO w (w.alloc (imO I _))from(Kt.refl _ w).alloc (imO I ⟨.slice s I.nm u,.slice t I.np v,.slice x I.no o,.slice ha I.hd.length hc,.slice y I.pt.length l⟩));obtain⟨c0,c1,c2,c3,c4,c5,n,c7,q⟩:=b.o.cells;have m:=aA a;clear f a;go_enter func40,ntmps40;go_wp2_with fail;refine(m.o _ b.o.d).mono ?_;rintro e D ⟨rfl,h⟩;have r:=aA (nT p.o h);clear h c0 c1 c2 c3 c4 c5 n c7 q;go_wp2_with fail;go_ret;exact⟨rfl,r.o⟩
theorem yX(I:Img)(V:ImV)(j:Nat)(l : 1<=j)(n:j<11)(h:∀ a,a<j->rl I a=none)(w:Wd)(c:ImD w I V):Calls prog 40 #[imA I V,.int .i64 ((j+1:Nat):Int)] w fun e o=>e=.returned (.int .i64 (fA (rl I j)))/\Kt nO w o:=by
 match j,l,n with
 | 1,_,_=>
  obtain⟨k,L,i,hL,k8,g,-⟩:=may_facts (may_of (h 0 (by decide)));have e:rl I 1=r2 I k:=by show r2 I I.ord.toNat=_;rw[i,aa]
  rw[e];exact UV I V _ w c (fun W b=>ZM I V k L k8 g i hL W b)
 | 2,_,_=>
  obtain⟨k,L,i,hL,k8,g,p,-⟩:=may_facts (may_of (h 0 (by decide)));have f:I.np<=1024:=by
   have d:r2 I k=none:=(by have:=h 1 (by decide);rw[show rl I 1=r2 I I.ord.toNat from rfl,i,aa] at this;exact this);unfold r2 at d;by_cases c1:wiB I.ep 0 I.dl=false;·rw[ae c1] at d;cases d
   rw[ac c1] at d;by_cases c2:I.nm≠I.ep.toNat*2 ^ k*4096;·rw[ae c2] at d;cases d
   rw[ac c2] at d;by_cases c3:I.np≠I.ep.toNat*2 ^ k;·rw[ae c3] at d;cases d
   have m : 0<=I.ep/\I.ep<=I.dl:=by
    have:wiB I.ep 0 I.dl=true:=by simpa using c1
    unfold wiB at this;exact bw this
   have f:I.np=I.ep.toNat*2 ^ k:=ed.1 c3;have q:I.np<=L*2 ^ k:=(by rw[f];exact ak _ (by omega));omega
  exact UT I V _ w c (fun W b=>ZH I V f W b)
 | 3,_,_=>obtain⟨r,hS⟩:=sn9_of (h 0 (by decide)) (h 1 (by decide)) (h 2 (by decide));exact US I V _ w c (fun W b=>OQ I V I.ord.toNat r hS W b)
 | 4,_,_=>obtain⟨r,hS⟩:=sn9_of (h 0 (by decide)) (h 1 (by decide)) (h 2 (by decide));exact UR I V _ w c (fun W b=>QC I V I.ord.toNat r hS W b)
 | 5,_,_=>obtain⟨r,hS⟩:=sn9_of (h 0 (by decide)) (h 1 (by decide)) (h 2 (by decide));exact UQ I V _ w c (fun W b=>ZI I V I.ord.toNat r hS W b)
 | 6,_,_=>obtain⟨r,hS⟩:=sn9_of (h 0 (by decide)) (h 1 (by decide)) (h 2 (by decide));exact UO I V _ w c (fun W b=>YY I V I.ord.toNat r hS W b)
 | 7,_,_=>obtain⟨r,hS⟩:=sn9_of (h 0 (by decide)) (h 1 (by decide)) (h 2 (by decide));exact UN I V _ w c (fun W b=>OO I V I.ord.toNat r hS W b)
 | 8,_,_=>obtain⟨r,hS⟩:=sn9_of (h 0 (by decide)) (h 1 (by decide)) (h 2 (by decide));exact UM I V _ w c (fun W b=>VC I V I.ord.toNat r hS (h 4 (by decide)) W b)
 | 9,_,_=>obtain⟨r,hS⟩:=sn9_of (h 0 (by decide)) (h 1 (by decide)) (h 2 (by decide));exact WL I V _ w c (fun W b=>ZL I V I.ord.toNat r hS (h 4 (by decide)) W b)
 | 10,_,_=>obtain⟨r,hS⟩:=sn9_of (h 0 (by decide)) (h 1 (by decide)) (h 2 (by decide));exact WK I V _ w c (fun W b=>SQ I V I.ord.toNat r hS W b)
theorem Check9(I:Img)(V:ImV)(w:Wd)(o:ImD w I V):Calls prog 10 #[imA I V] w fun e F=>e=.returned (.tuple #[.int .i64 ((chk I).1:Int),.int .i64 ((chk I).2:Int)])/\Kt nO w F:=by
 have l:=o.lj;obtain⟨q,z⟩:=o.dl;obtain⟨v,y⟩:=o.ord;obtain⟨⟨Y,mc,hm⟩,⟨R,S,hp⟩,⟨ra,rc,m⟩,⟨ha,hc,hh⟩,⟨ta,G,ht⟩,-⟩:=o.sl;obtain⟨vm,vp,vr,vh,vt⟩:=V;dsimp only at hm hp m hh ht;subst hm hp m hh ht;have s:=aA (show ImAt (w.alloc (imO I _)) w.heap.size I _ from⟨nH _ _,o.dk ((Kt.refl _ w).alloc _)⟩);have K0:=aA (show Kt nO w (w.alloc (imO I _))from(Kt.refl _ w).alloc (imO I ⟨.slice Y I.nm mc,.slice R I.np S,.slice ra I.no rc,.slice ha I.hd.length hc,.slice ta I.pt.length G⟩));obtain⟨c0,c1,c2,c3,c4,c5,c6,c7,X⟩:=s.o.cells;have C:=aA (fun W=>(M.May_any I.bS l I.dl I.ord q z v y W).mono (fun e F (h:e=.returned (.bool (M.mayB I.bS I.dl I.ord))/\M.Kt M.nO W F)=>(⟨h.1,rD h.2⟩:e=.returned (.bool (M.mayB I.bS I.dl I.ord))/\Kt nO W F)));have P:=aA (fun j U hj h W L=>yX I ⟨.slice Y I.nm mc,.slice R I.np S,.slice ra I.no rc,.slice ha I.hd.length hc,.slice ta I.pt.length G⟩ j U hj h W L);obtain⟨r1,k⟩:∃ r,r=(chk I).1:=⟨_,rfl⟩;obtain⟨D,f⟩:∃ r,r=(chk I).2:=⟨_,rfl⟩;rw[<-k,<-f];have FB:=aA (show ∀ j p,j<11->(∀ a,a<j->rl I a=none)->rl I j=some p->j+1=r1/\p=D from fun j p h1 h2 h3=>by rw[k,f,EL h1 h2 h3];exact⟨rfl,rfl⟩);have FG:=aA (show(∀ a,a<11->rl I a=none)->0=r1/\0=D from fun h=>by rw[k,f,chk_ok h];exact⟨rfl,rfl⟩);have J:=aA (show rl I 0=if M.mayB I.bS I.dl I.ord=true then none else some 0 from rfl);obtain⟨mb,u⟩:∃ b,b=M.mayB I.bS I.dl I.ord:=⟨_,rfl⟩;rw[<-u] at C J;clear o k f u l q z v y;go_enter func10,ntmps10;go_wp2_with fail;refine(C.o _).mono ?_;rintro e w1 ⟨rfl,Q⟩;have Z:=aA (s.o.dk Q);have K:=aA (nT K0.o Q);clear Q c0 c1 c2 c3 c4 c5 c6 c7 X;generalize w.heap.size=ib at *;generalize w.alloc (imO I ⟨.slice Y I.nm mc,.slice R I.np S,.slice ra I.no rc,.slice ha I.hd.length hc,.slice ta I.pt.length G⟩)=W0 at *
 cases mb with
 | false=>obtain⟨n,t⟩:=FB.o 0 0 (by decide) (fun a ha=>by omega) (by rw[J.o];rfl);subst n t;go_wp2_with fail;go_ret2;exact⟨rfl,K.o⟩
 | true=>
  have N0:=aA (show rl I 0=none by rw[J.o];rfl);go_wp2_with fail;go_loopw [4] (fun iv W=>∃ r:Nat,2<=r/\r<=12/\iv=.int .i64 r/\Hd (Kt nO w1 W/\∀ a,a+1<r->rl I a=none)) (fun iv _=>12-(intOf iv).toNat)
  case atStart=>exact⟨2,by decide,by decide,rfl,aA ⟨Kt.refl _ _,fun a ha=>by rw[show a=0 by omega];exact N0.o⟩⟩
  case round=>
   obtain⟨r,f,B,rfl,N⟩:=hrel;have T:=aA N.o.1;have c:=aA N.o.2;have E:=aA (Z.o.dk T.o);obtain⟨c0,c1,c2,c3,c4,c5,c6,c7,X⟩:=E.o.cells;clear N;by_cases a0:r<=11
   ·have A:(r:Int)<=11:=(by omega);obtain⟨j,rfl⟩:∃ j,r=j+1:=⟨r-1,by omega⟩;have i:=aA (fun W L=>P.o j (by omega) (by omega) (fun a ha=>c.o a (by omega)) W L);obtain⟨r,m⟩:=xe (j+1);rw[<-m] at i A f;rw[<-m];have g:=aA (show r=j+1/\r<=11 from⟨m,by omega⟩);have HW:=aA (show wrap64 ((r:Int)+1)=((r+1:Nat):Int)by rw[wrap64];omega);obtain⟨x,hx⟩:=xe (rl I j);rw[<-hx] at i;have HX:=aA hx.symm;clear m hx a0 B;go_wp2_with fail;refine(i.o _ E.o.d).mono ?_;rintro e w2 ⟨rfl,k2⟩;have K2:=aA (nT T.o k2);clear k2 c0 c1 c2 c3 c4 c5 c6 c7 X
    cases x with
    | none=>
     have P2:=aA (show ∀ a,a+1<r+1->rl I a=none from fun a ha=>by
      by_cases e:a=j;·rw[e];exact HX.o
      ·exact c.o a (by have:=g.o;omega))
     have q1:¬(0:Int)<=fA none:=(by decide);have q2:fA none = -1:=rfl;rw[q2];clear q1 q2;go_wp2_with fail;exact⟨⟨r+1,by omega,by have:=g.o;omega,by first|go_num|rw[HW.o],aA ⟨K2.o,P2.o⟩⟩,by have:=g.o;first|(rw[HW.o];simp only[intOf,aa];omega)|(simp[intOf];omega)⟩
    | some p=>rw[show fA (some p)=(p:Int)from rfl];have q1:(0:Int)<=(p:Int):=(by omega);obtain⟨n,t⟩:=FB.o j p (by have:=g.o;omega) (fun a ha=>c.o a (by have:=g.o;omega)) HX.o;rw[<-g.o.1] at n;subst n t;go_wp2_with fail;go_ret2;exact⟨rfl,nT K.o K2.o⟩
   ·have A:¬(r:Int)<=11:=(by omega);obtain⟨n,t⟩:=FG.o (fun a ha=>c.o a (by omega));subst n t;go_wp2_with fail;go_ret2;exact⟨rfl,nT K.o T.o⟩
end W
end Go.Proofs.YtfmgnljlkdmndaaGreatDoor
