import Derived.Test.YtfmgnljlkdmndaaGreatDoorZd
set_option maxRecDepth 1000000
set_option maxHeartbeats 80000000
namespace Go.Proofs.YtfmgnljlkdmndaaGreatDoor.W
open Tryz
open Go.RowKit
set_option linter.unusedVariables false
theorem zfd(b:Nat)(I:Img)(V:ImV)(k r:Nat)(hS:Sn9 I k r)(w:World)(hI:ImAt w b I V):
  Calls prog 142 #[.pointer (some ⟨b,0,none⟩)] w fun e w'=>e=bG (fst1 I.np (ok6 I k))/\Kt nO w w':=by
 obtain⟨-,⟨pa,pc,hp⟩,-,-,-,-,bp,-,-⟩:=hI.d.sl;obtain⟨c0,c1,c2,c3,c4,c5,c6,c7,c8⟩:=hI.cells;rw[hp] at c5;obtain⟨EE,a4⟩:=xe (bG (fst1 I.np (ok6 I k)));rw[<-a4];have HE:=aA a4;have HI:=aA hI;have HS:=aA hS;have SP:=aA hp;have b8:=hS.np1;have f4:=hS.k8;obtain⟨n,hn⟩:=xe (I.np);rw[<-hn] at b8 c5;have HN:=aA hn;clear a4 hI hp hS hn bp;go_enter func142,ntmps142;go_wp2_with fail;go_loopw [11] (fun i W=>∃ a:Nat,a<=n/\i=.int .i64 a/\Hd (Kt nO w W/\∀ x,x<a->ok6 I k x=true)) (fun i _=>n-(intOf i).toNat)
 case atStart=>exact⟨0,az _,rfl,aA ⟨Kt.refl _ _,fun x hx=>by omega⟩⟩
 case round=>
  clear c0 c1 c2 c3 c4 c5 c6 c7 c8;obtain⟨a,ha,rfl,hR⟩:=hrel;have A0:=aA (HI.o.keep hR.o.1);by_cases e0:a<n
  ·have b6:(a:Int)<n:=(by omega);have s:a<I.np:=(by rw[<-HN.o];exact e0);obtain⟨bl,o,g0,b2,b9,b1⟩:=A0.o.page a s;rw[SP.o] at b2;injection b2 with e1 e2 e3
   subst e1;obtain⟨kd,od,cc,ll,y1,y2,y3,y4,y5,y6,y7,y8,-⟩:=HS.o.pg a s;have a2:od<=8:=(by omega);have hP:=M.pow8 od a2;have FB:=aA (show ok6 I k a=false->cG (a:Int)=EE from fun h=>by rw[HE.o,gA s hR.o.2 h];rfl);have GA:=aA (show ok6 I k a=true->∀ x,x<a+1->ok6 I k x=true from fun h x hx=>by
    by_cases e:x=a
    ·rw[e];exact h
    ·exact hR.o.2 x (by omega))
   have OK:=aA (show ok6 I k a=(!(isF (I.pg a) (od:Int) && decide ((od:Int)<k) && decide (a%(2*2 ^ od)=0)) || !isF (I.pg (a+2 ^ od)) (od:Int))by unfold ok6;rw[y3,aa]);have a6:=aA (show od<k->a%(2*2 ^ od)=0->a+2 ^ od<n from fun h1 h=>by have:=mul_fits (HS.o.dvd (od+1) (by omega)) (by rw[ci,aq];exact h) s;rw[HN.o];have hp:=ax od;rw[ci] at this;omega)
   have PB:=aA (PbI.mk' (w:=w) A0.o hR.o.1 (I.pg a));obtain⟨d0,J,d2,R,S,F,U,K,Q,Z,j⟩:=b1.c;have y:=aA (fun W=>qP (I.pg a) (od:Int) W);generalize ok6 I k a=b5 at *;obtain⟨fv,a9⟩:=xe (isF (I.pg a) (od:Int));rw[<-a9] at OK y;clear a9;generalize I.pg a=p at *;obtain⟨C,f7,L,D,a0,T,G,B,N,Y,X⟩:=p;dsimp only at d0 J d2 R S F U K Q Z j y3;subst y3;obtain⟨P,a5⟩:=xe (2 ^ od);rw[<-a5] at a6 hP OK;have b7:=hP.1;have f0:=hP.2;have e4:¬((2:Int)*(P:Int))=0:=VJ b7;have SH:=aA (rZ a2 a5);clear a5 b9 b1 e2 e3 hP y1 y2 y5 y6 y7 y8
   cases fv with
   | false=>
    have z:=aA (GA.o (by rw[OK.o];simp));go_wp2_with fail;generalize wr.alloc (aW ⟨C,(od:Int),L,D,a0,T,G,B,N,Y,X⟩)=W1 at *;generalize wr.heap.size=g at *;refine(y.o _).mono ?_;rintro e w1 ⟨rfl,l⟩;have K1:=aA (nT PB.o.k l);clear l d0 J d2 R S F U K Q Z j;go_wp2_with fail;have R3:=aA (show Kt nO w w1/\_ from⟨K1.o,z.o⟩);go_round
    case rel=>exact⟨a+1,by omega,by go_num,R3⟩
    case measure=>simp[intOf];omega
   | true=>
    by_cases u:od<k
    case neg=>
     have z:=aA (GA.o (by rw[OK.o];simp[u]));have f1:decide ((od:Int)<k)=false:=ah (by omega);have f2:¬(od:Int)<k:=(by omega);clear u;go_wp2_with fail;generalize wr.alloc (aW ⟨C,(od:Int),L,D,a0,T,G,B,N,Y,X⟩)=W1 at *;generalize wr.heap.size=g at *;refine(y.o _).mono ?_;rintro e w1 ⟨rfl,l⟩;have f:=aA (PB.o.keep l);obtain⟨c0,c1,c2,c3,c4,c5,c6,c7,c8⟩:=f.o.im.cells;rw[HS.o.ord] at c2;clear l d0 J d2 R S F U K Q Z j;go_wp2_with fail;have R3:=aA (show Kt nO w w1/\_ from⟨f.o.k,z.o⟩);go_round
     case rel=>exact⟨a+1,by omega,by go_num,R3⟩
     case measure=>simp[intOf];omega
    have f1:decide ((od:Int)<k)=true:=af (by omega);have f2:(od:Int)<k:=(by omega);by_cases m:a%(2*P)=0
    case neg=>
     have z:=aA (GA.o (by rw[OK.o];simp[m]));have f3:((a:Int)%(2*(P:Int)) == 0)=false:=VH m;obtain⟨b3,a8,b4⟩:=SH.o;clear u m;go_wp2_with fail;generalize wr.alloc (aW ⟨C,(od:Int),L,D,a0,T,G,B,N,Y,X⟩)=W1 at *;generalize wr.heap.size=g at *;refine(y.o _).mono ?_;rintro e w1 ⟨rfl,l⟩;have f:=aA (PB.o.keep l);obtain⟨c0,c1,c2,c3,c4,c5,c6,c7,c8⟩:=f.o.im.cells;rw[HS.o.ord] at c2;clear l d0 J d2 R S F U K Q Z j;go_wp2_with fail;have R3:=aA (show Kt nO w w1/\_ from⟨f.o.k,z.o⟩);go_round
     case rel=>exact⟨a+1,by omega,by go_num,R3⟩
     case measure=>simp[intOf];omega
    have f3:((a:Int)%(2*(P:Int)) == 0)=true:=VI m;have a1:=a6.o u m;have A:=aA (show b5=!isF (I.pg (a+P)) (od:Int)by rw[OK.o];simp[u,m]);obtain⟨t,ht⟩:=xe (a+P);have e7:(a:Int)+(P:Int)=t:=(by omega);rw[<-ht] at A a1;have e6:(t:Int)<n:=(by omega);have c9:t<I.np:=(by rw[<-HN.o];exact a1);clear u m ht;have a3:=aA (fun W=>qP (I.pg t) (od:Int) W);obtain⟨fw,a7⟩:=xe (isF (I.pg t) (od:Int));rw[<-a7] at A a3;clear a7;obtain⟨b3,a8,b4⟩:=SH.o;go_wp2_with fail;generalize wr.alloc (aW ⟨C,(od:Int),L,D,a0,T,G,B,N,Y,X⟩)=W1 at *;generalize wr.heap.size=g at *;refine(y.o _).mono ?_;rintro e w1 ⟨rfl,l⟩;have f:=aA (PB.o.keep l);obtain⟨c0,c1,c2,c3,c4,c5,c6,c7,c8⟩:=f.o.im.cells;rw[HS.o.ord] at c2;rw[SP.o,<-HN.o] at c5;have b0:=f.o.im.pageK SP.o t c9 ⟨w1,Kt.refl _ _⟩;clear l d0 J d2 R S F U K Q Z j;generalize I.pg t=q at *;obtain⟨e5,f8,f5,e9,g3,f9,g2,f6,g4,e8,g1⟩:=q;obtain⟨d0,J,d2,R,S,F,U,K,Q,Z,j⟩:=b0.c;dsimp only[KW.v] at d0 J d2 R S F U K Q Z j;clear b0
    cases fw with
    | false=>
     have z:=aA (GA.o (by rw[A.o];rfl));go_wp2_with fail;refine(a3.o _).mono ?_;rintro e w2 ⟨rfl,l⟩;have K2:=aA (nT f.o.k l);clear l d0 J d2 R S F U K Q Z j;go_wp2_with fail;refine(dD _ _).mono ?_;rintro e w3 ⟨rfl,rfl⟩;have R3:=aA (show Kt nO w w3/\_ from⟨K2.o,z.o⟩);go_wp2_with fail;go_round
     case rel=>exact⟨a+1,by omega,by go_num,R3⟩
     case measure=>simp[intOf];omega
    | true=>
     have z:=aA (FB.o (by rw[A.o];rfl));go_wp2_with fail;refine(a3.o _).mono ?_;rintro e w2 ⟨rfl,l⟩;have K2:=aA (nT f.o.k l);clear l d0 J d2 R S F U K Q Z j;go_wp2_with fail;refine(dY _ _).mono ?_;rintro e w3 ⟨rfl,rfl⟩;exact⟨rfl,z.o,K2.o⟩
  ·obtain rfl:a=n:=(by omega);have b6:¬(a:Int)<a:=(by omega);have E:=aA (show Ending.returned (.tuple #[])=EE by rw[HE.o,fst1_ok (fun x hx=>hR.o.2 x (by rw[HN.o];exact hx))];rfl);go_wp2_with fail;first|go_end0|go_ret
   exact⟨E.o,hR.o.1⟩
abbrev wsP(p:Pg):List Nat:=[p.b0,p.b1,p.b2,p.b3]
def ok5(p:Pg):Bool:=!decide (p.kd=4) || ((decide (0<p.lv) && decide (p.lv=(aZ (wsP p):Int))) && decide (bI 256 (wsP p) (celN9 p.cl.toNat) = -1))
theorem zkM(p:Pg)(h:PgIn p):dA (wsP p) (dX 256)=wsP p:=by
 have e:dX 256=256:=by decide
 rw[e];unfold dA kE;rw[ae (by decide)];unfold over eW;rfl
theorem wF{w:World}{g:Nat}{p:Pg}(h:w.heap[g]?=some (aW p))(hp:PgIn p):Src w (.slice (some ⟨g,7,none⟩) 4 4) (wsP p):=by
 refine⟨fun i=>?_,some ⟨g,7,none⟩,4,rfl,.inr ⟨⟨g,7,none⟩,rfl,lH h,fun j e=>?_⟩⟩
 ·obtain⟨-,-,-,-,-,-,-,h0,b,d,c⟩:=hp;match i with
  | 0=>exact h0
  | 1=>exact b
  | 2=>exact d
  | 3=>exact c
  | n+4=>simp
 ·have a:j<4:=e;match j,a with
  | 0,_=>simp[World.cell?,h,Addr.add]
  | 1,_=>simp[World.cell?,h,Addr.add]
  | 2,_=>simp[World.cell?,h,Addr.add]
  | 3,_=>simp[World.cell?,h,Addr.add]
theorem zfE(b:Nat)(I:Img)(V:ImV)(k r:Nat)(hS:Sn9 I k r)(w:World)(S:ImAt w b I V):
  Calls prog 141 #[.pointer (some ⟨b,0,none⟩)] w fun e w'=>e=bG (fst1 I.np fun i=>ok5 (I.pg i))/\Kt nO w w':=by
 obtain⟨-,⟨pa,pc,hp⟩,-,-,-,-,bp,-,-⟩:=S.d.sl;obtain⟨c0,c1,c2,c3,c4,c5,c6,c7,c8⟩:=S.cells;rw[hp] at c5;obtain⟨EE,z⟩:=xe (bG (fst1 I.np fun i=>ok5 (I.pg i)));rw[<-z];have HE:=aA z;have HI:=aA S;have HS:=aA hS;have SP:=aA hp;have a1:=hS.np1;obtain⟨n,hn⟩:=xe (I.np);rw[<-hn] at a1 c5;have HN:=aA hn;clear z S hp hS hn bp;go_enter func141,ntmps141;go_wp2_with fail;go_loopw [10] (fun i W=>∃ a:Nat,a<=n/\i=.int .i64 a/\Hd (Kt nO w W/\∀ x,x<a->ok5 (I.pg x)=true)) (fun i _=>n-(intOf i).toNat)
 case atStart=>exact⟨0,az _,rfl,aA ⟨Kt.refl _ _,fun x hx=>by omega⟩⟩
 case round=>
  clear c0 c1 c2 c3 c4 c5 c6 c7 c8;obtain⟨a,ha,rfl,hR⟩:=hrel;have A0:=aA (HI.o.keep hR.o.1);by_cases a6:a<n
  ·have Z:(a:Int)<n:=(by omega);have j:a<I.np:=(by rw[<-HN.o];exact a6);obtain⟨bl,o,a8,Q,u,K⟩:=A0.o.page a j;rw[SP.o] at Q;injection Q with e1 e2 e3
   subst e1;obtain⟨kd,od,Y,ll,y1,y2,y3,y4,y5,y6,y7,y8,-⟩:=HS.o.pg a j;have FB:=aA (show ok5 (I.pg a)=false->cG (a:Int)=EE from fun h=>by rw[HE.o,gA (ok:=fun i=>ok5 (I.pg i)) j hR.o.2 h];rfl);have GA:=aA (show ok5 (I.pg a)=true->∀ x,x<a+1->ok5 (I.pg x)=true from fun h x hx=>by
    by_cases e:x=a
    ·rw[e];exact h
    ·exact hR.o.2 x (by omega))
   have T:=aA (show ok5 (I.pg a)=(!decide ((I.pg a).kd=4) || ((decide (0<(I.pg a).lv) && decide ((I.pg a).lv=(aZ (wsP (I.pg a)):Int))) && decide (bI 256 (wsP (I.pg a)) (celN9 (I.pg a).cl.toNat) = -1)))from rfl);rw[y5,aa] at T;have PB:=aA (PbI.mk' (w:=w) A0.o hR.o.1 (I.pg a));have SR:=aA (wF PB.o.pb u);have OW:=aA (zkM (I.pg a) u);have a5:=aA (fun W=>xI (I.pg a) Y y5 y6 W);have a7:=nM Y y6;generalize celN9 Y=U at *;obtain⟨d0,d1,d2,d3,d4,d5,d6,d7,d8,d9,X⟩:=K.c;generalize ok5 (I.pg a)=F at *;generalize I.pg a=p at *;clear u K e2 e3 y1 y2 y3 y4 y5 y6 y7 y8;by_cases f:p.kd=4
   case neg=>
    have m:=aA (show Kt nO w (wr.alloc (aW p))/\_ from⟨hR.o.1.alloc _,GA.o (by rw[T.o];simp[f])⟩);have f2:(p.kd != 4)=true:=(by rw[cu];exact f);clear f;go_wp2_with fail;go_round
    case rel=>exact⟨a+1,by omega,by go_num,m⟩
    case measure=>simp[intOf];omega
   have q:=aA (show F=((decide (0<p.lv) && decide (p.lv=(aZ (wsP p):Int))) && decide (bI 256 (wsP p) U = -1))by rw[T.o,af f];rfl);have f2:(p.kd != 4)=false:=(by rw[ay];exact f);clear f;generalize a4:wsP p=ws at *;clear a4;go_wp2_with fail;generalize wr.alloc (aW p)=W1 at *;generalize wr.heap.size=g at *;refine(pP (.slice (some ⟨g,7,none⟩) 4 4) ws 256 (by decide) (by decide) W1 SR.o).mono ?_;rintro e w1 ⟨rfl,l,B,a3⟩;rw[OW.o] at l;have s:=aA (PB.o.keep B);have ST:=aA l;generalize W1.heap.size+1=sb at *;generalize W1.heap.size=sc at *;obtain⟨cw,y⟩:=xe (aZ ws);have A:=aA (fun (x:KW w1)=>tZ sb sc _ ws x.v (ST.o.kept x.k (fun x=>x) (fun x=>x)));rw[<-y] at A;have R:=aA (fun (W:World) (hW:Kt nO w1 W)=>vZ sb sc _ ws (U:Int) (by omega) W (ST.o.kept hW (fun x=>x) (fun x=>x)));obtain⟨J,t⟩:=xe (bI 256 ws U);have N:nxt (dX 256) ws (U:Int)=J:=(by rw[t];unfold nxt;rw[aa];rfl);rw[N] at R;rw[<-y,<-t] at q;clear l B a3 y t N T;obtain⟨p0,p1,p2,p3,p4,p5,p6,p7,p8,p9,a0⟩:=s.o.all;clear d0 d1 d2 d3 d4 d5 d6 d7 d8 d9 X;by_cases g1 : 0<p.lv
   case neg=>
    have m:=aA (FB.o (by rw[q.o,ah g1];rfl));have f1:decide (0<p.lv)=false:=ah g1;go_wp2_with fail;refine gQ (by kernel_rfl) (by kernel_rfl) (by exact da _ _) ?_;dsimp only[List.dropLast,List.getLast];repeat (go_big_quiet_step (fail))
    refine wpQuiet_nil ?_;refine⟨rfl,?_⟩;rintro _ ⟨x,rfl⟩;exact gP (p:=(a:Int)) rfl rfl rfl fun _ hd=>⟨hd,m.o,nT s.o.k x.k⟩
   have f1:decide (0<p.lv)=true:=af g1;by_cases C:p.lv=(cw:Int)
   case neg=>
    have m:=aA (FB.o (by rw[q.o,ah C];simp));have f3:(p.lv == (cw:Int))=false:=(by rw[ag];exact C);clear C;go_wp2_with fail;refine gQ (by kernel_rfl) (by kernel_rfl) (by exact da _ _) ?_;dsimp only[List.dropLast,List.getLast];repeat (go_big_quiet_step (first|(go_at_call 190;exact Calls.kept_of ((A.o _).mono fun _ _ ⟨L,G⟩=>⟨L,G▸Kt.refl _ _⟩))))
    refine wpQuiet_nil ?_;refine⟨rfl,?_⟩;rintro _ ⟨x,rfl⟩;exact gP (p:=(a:Int)) rfl rfl rfl fun _ hd=>⟨hd,m.o,nT s.o.k x.k⟩
   have P:=aA (show F=decide (J = -1)by rw[q.o,f1,af C];rfl);have f3:(p.lv == (cw:Int))=true:=(by rw[co];exact C);have a2:=aA (fun W=>dD (a:Int) W);clear C;go_wp2_with fail;refine cS (by kernel_rfl) (by kernel_rfl) ?_;repeat (go_big_quiet_step (first|(go_at_call 190;exact Calls.kept_of ((A.o _).mono fun _ _ ⟨L,G⟩=>⟨L,G▸Kt.refl _ _⟩))|(go_at_call 185;exact Calls.kept_of ((a2.o _).mono fun _ _ ⟨L,G⟩=>⟨L,G▸Kt.refl _ _⟩))))
   refine wpQuiet_nil ?_;intro x;go_wp2_with fail;refine(a5.o _).mono ?_;rintro e w3 ⟨rfl,B⟩;have K3:=aA (nT s.o.k (nT x.k B));have NX:=aA (R.o w3 (nT x.k B));clear p0 p1 p2 p3 p4 p5 p6 p7 p8 p9 a0 B;by_cases D:J = -1
   case neg=>
    have m:=aA (FB.o (by rw[P.o,ah D]));have f4:(J == -1)=false:=(by rw[ag];exact D);clear D;go_wp2_with fail;refine NX.o.mono ?_;rintro e w4 ⟨rfl,rfl⟩;go_wp2_with fail;refine(dY _ _).mono ?_;rintro e w5 ⟨rfl,rfl⟩;exact⟨rfl,m.o,K3.o⟩
   have m:=aA (show Kt nO w w3/\_ from⟨K3.o,GA.o (by rw[P.o,af D])⟩);have f4:(J == -1)=true:=(by rw[co];exact D);clear D;go_wp2_with fail;refine NX.o.mono ?_;rintro e w4 ⟨rfl,rfl⟩;go_wp2_with fail;refine(dD _ _).mono ?_;rintro e w5 ⟨rfl,rfl⟩;go_wp2_with fail;go_round
   case rel=>exact⟨a+1,by omega,by go_num,m⟩
   case measure=>simp[intOf];omega
  ·obtain rfl:a=n:=(by omega);have Z:¬(a:Int)<a:=(by omega);have E:=aA (show Ending.returned (.tuple #[])=EE by rw[HE.o,fst1_ok (fun x hx=>hR.o.2 x (by rw[HN.o];exact hx))];rfl);go_wp2_with fail;first|go_end0|go_ret
   exact⟨E.o,hR.o.1⟩
end Go.Proofs.YtfmgnljlkdmndaaGreatDoor.W
