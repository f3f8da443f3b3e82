import Derived.Test.YtfmgnljlkdmndaaGreatDoorZc
import Derived.Deep.OwnRows
import Derived.ArgAppend
import Derived.Laws.OwnMore
import Derived.Maps.AppendAt
import Derived.Lib.AppendZeros
import Derived.Test.YtfmgnljlkdmndaaGreatDoorXp
import Derived.Test.YtfmgnljlkdmndaaGreatDoorXc
set_option maxRecDepth 1000000
set_option maxHeartbeats 80000000
namespace Go.Proofs.YtfmgnljlkdmndaaGreatDoor
open Tryz
open Go.RowKit
set_option linter.unusedVariables false
theorem zkJ:(prog.info? 39).map (fun i=>(i.zero,i.size,i.bytes))=some (some (.slice none 0 0),1,24):=by kernel_rfl
abbrev qX(D:Nat->Nat)(wd:Nat->List Nat)(j:Nat):Value:=.slice (some ⟨D j,0,none⟩) (wd j).length (wd j).length
structure Told(w W:World)(gp gq:Nat)(m:Mp)(k:Nat)(D:Nat->Nat):Prop where
 row:bP W gp m.n m.pg
 q:∃ cs:Array Value,W.heap[gq]?=some (.cells cs 39 (0,0))/\cs.size=m.o/\∀ j,j<k->cs[j]?=some (qX D m.wd j)
 d:∀ j,j<k->W.heap[D j]?=some (.cells (bU (m.wd j)) 22 (0,0))
 iD:∀ i j,i<k->j<k->D i=D j->i=j
 fp:w.heap.size<=gp
 fq:w.heap.size<=gq
 fd:∀ j,j<k->w.heap.size<=D j
 kp:Kt nO w W
theorem Told.cell{w W gp gq m k D}(h:Told w W gp gq m k D)(j:Nat)(a:j<m.o):∃ v,W.cell? ⟨gq,j,none⟩=some v:=by obtain⟨cs,hg,hs,_⟩:=h.q;exact⟨cs[j]'(by omega),by simp[World.cell?,hg,hs,a]⟩
theorem Told.froz{w W gp gq m k D}(h:Told w W gp gq m k D)(j:Nat):W.frozen? ⟨gq,j,none⟩=false:=by obtain⟨cs,hg,hs,_⟩:=h.q;simp[World.frozen?,hg]
theorem Told.keep{w W W' gp gq m k D}(h:Told w W gp gq m k D)(kp:Kt nO W W'):Told w W' gp gq m k D:=by obtain⟨cs,hg,hs⟩:=h.q;exact⟨bP.kept h.row kp (fun x=>x),⟨cs,(kp.block _ (lH hg) (fun x=>x)).trans hg,hs⟩,fun j a=>(kp.block _ (lH (h.d j a)) (fun x=>x)).trans (h.d j a),h.iD,h.fp,h.fq,h.fd,nT h.kp kp⟩
theorem Told.next{w W W2 gp gq m k D}(h:Told w W gp gq m k D)(n:k<m.o)(kp:Kt nO W W2)(hx:W2.heap[W.heap.size]?=some (.cells (bU (m.wd k)) 22 (0,0))):
  Told w (W2.setCell ⟨gq,k,none⟩ (.slice (some ⟨W.heap.size,0,none⟩) (m.wd k).length (m.wd k).length)) gp gq m (k+1) (fun j=>if j=k then W.heap.size else D j):=by
 have a:=h.keep kp;obtain⟨cs,hg,hs,hc⟩:=a.q;obtain⟨r,f,_⟩:=a.row;have c:Kt (fun x=>x=gq) W2 (W2.setCell ⟨gq,k,none⟩ (.slice (some ⟨W.heap.size,0,none⟩) (m.wd k).length (m.wd k).length)):=(Kt.refl (fun x=>x=gq) W2).setCell (p:=⟨gq,k,none⟩) rfl _;have lt:∀ j,j<k->D j<W.heap.size:=fun j b=>lH (h.d j b)
 refine⟨bP.kept a.row c (bY f hg (by decide)),⟨_,cF hg k _,by simpa using hs,fun j b=>?_⟩,fun j b=>?_,fun i j hi b e=>?_,h.fp,h.fq,fun j b=>?_,a.kp.setNew (p:=⟨gq,k,none⟩) (fun e=>absurd e (Nat.not_lt.2 h.fq)) _⟩
 ·rw[Array.getElem?_setIfInBounds];by_cases e:j=k
  ·subst e;rw[ae rfl,ae (by omega)];simp[qX]
  ·rw[ac (by omega),hc j (by omega)];simp[qX,e]
 ·by_cases e:j=k
  ·simp only[e,if_true];exact(c.block _ (lH hx) (bY hx hg (by decide))).trans hx
  ·simp only[e,if_false];exact(c.block _ (lH (a.d j (by omega))) (bY (a.d j (by omega)) hg (by decide))).trans (a.d j (by omega))
 ·by_cases g:i=k <;> by_cases l:j=k <;> simp only[g,l,if_true,if_false] at e
  ·omega
  ·have:=lt j (by omega);omega
  ·have:=lt i (by omega);omega
  ·exact h.iD i j (by omega) (by omega) e
 ·by_cases e:j=k
  ·simp only[e,if_true];exact h.kp.size
  ·simp only[e,if_false];exact h.fd j (by omega)
theorem FY(o:Nat)(c:o<=8)(w:World):∃ a,(Instr.makeSlice 38 (.int .i64 o) (.int .i64 o)).run prog w=.ok (.slice (some ⟨w.heap.size,0,none⟩) o o) a/\(∃ cs:Array Value,a.heap[w.heap.size]?=some (.cells cs 39 (0,0))/\cs.size=o)/\Kt nO w a/\a.heap.size=w.heap.size+1:=by have b:=run_make_row' (P:=prog) 38 39 (.slice none 0 0) 24 Tryz.underlying38 zkJ rfl .i64 .i64 o (by omega) (by omega) w;exact⟨_,b,⟨_,nH _ _,size_madeCells _ _⟩,(Kt.refl nO w).alloc _,by simp⟩
theorem YQ(b:Nat)(B:Bs)(m:Mp)(w:World)(h:MpA w b B m)(h0:m.o=0):
  Calls prog 39 #[.pointer (some ⟨b,0,none⟩)] w fun e Y=>∃ L f D,e=.returned (.tuple #[.slice (some ⟨L,0,none⟩) m.n m.n,.slice (some ⟨f,0,none⟩) m.o m.o])/\Told w Y L f m m.o D:=by
 obtain⟨cq,c0,c1,c2⟩:=h.cb;have A:=h.o8;have z:=h.n1;obtain⟨w1,J,l,d,I⟩:=uE m.n z w;have P:=aA (h.keep d);obtain⟨kk,u,C,p,t,F⟩:=uD w1 w.heap.size m.n B.g m.n (fun _=>aV) m.pg l P.o.row;have E:=aA (show Kt nO w u from d.trans t (fun _ _ x=>x) (fun x hx e=>by omega));obtain⟨w3,q,r,c,v⟩:=FY m.o A u;have K:=aA (nT E.o c);obtain⟨a1,V,d1,Z⟩:=P.o.cb;obtain⟨a2,U,e1,e2⟩:=(h.keep E.o).cb;obtain⟨a0,f0,Q,S⟩:=(h.keep K.o).cb;have HO:=aA h;have G:=aA (show Told w w3 w.heap.size u.heap.size m 0 (fun _=>0)from⟨(bP.kept p c (fun x=>x)).congr (fun i hi=>by simp[hi]),by obtain⟨cs,X,h2⟩:=r;exact⟨cs,X,h2,fun j s=>absurd s (by omega)⟩,fun j s=>absurd s (by omega),fun i j hi=>absurd hi (by omega),aj _,E.o.size,fun j s=>absurd s (by omega),K.o⟩);have N:=aA h0;clear h l d p t r c I F v h0;go_enter func39,ntmps39;go_wp2_with fail;obtain⟨f,a⟩:=xe (u.heap.size);rw[<-a] at G;rw[<-a];clear a c0 c1 c2 V d1 Z U e1 e2 f0 Q S J C q;go_loopw [4,5,28] (fun x y i W=>∃ k:Nat,k<=m.o/\i=.int .i64 k/\Hd (∃ D,Told w W w.heap.size f m k D)) (fun _ _ i _=>m.o-(intOf i).toNat)
 case atStart=>exact⟨0,by omega,rfl,⟨_,G.o⟩⟩
 case round=>
  clear G;obtain⟨k,hk,rfl,hR⟩:=hrel;obtain⟨D,hR⟩:=hR.o;have R:=aA hR;clear hR;have T:¬(k:Int)<m.o:=by have:=N.o;omega
  ·obtain rfl:k=m.o:=(by have:=N.o;omega);go_wp2_with fail;skip
   exact⟨rfl,.tuple #[.slice (some ⟨w.heap.size,0,none⟩) m.n m.n,.slice (some ⟨f,0,none⟩) m.o m.o],by simp[results,results39,go_sem],w.heap.size,f,rfl,D,R.o⟩
theorem YP(b q:Nat)(B:Bs)(m:Mp)(w:World)(h:MpA w b B m)(hq:B.P=some q):
  Calls prog 39 #[.pointer (some ⟨b,0,none⟩)] w fun e E=>∃ gp p D,e=.returned (.tuple #[.slice (some ⟨gp,0,none⟩) m.n m.n,.slice (some ⟨p,0,none⟩) m.o m.o])/\Told w E gp p m m.o D:=by
 obtain⟨cq,c0,c1,c2⟩:=h.cb;have Q:=h.o8;have I:=h.n1;obtain⟨w1,X,u,c,N⟩:=uE m.n I w;have M1:=aA (h.keep c);obtain⟨kk,F,J,A,t,K⟩:=uD w1 w.heap.size m.n B.g m.n (fun _=>aV) m.pg u M1.o.row;have U:=aA (show Kt nO w F from c.trans t (fun _ _ x=>x) (fun x hx e=>by omega));obtain⟨w3,v,r,f,G⟩:=FY m.o Q F;have Y:=aA (nT U.o f);obtain⟨a5,d0,d1,d2⟩:=M1.o.cb;obtain⟨a3,e0,e1,e2⟩:=(h.keep U.o).cb;obtain⟨a1,f0,f1,f2⟩:=(h.keep Y.o).cb;have Z:=aA h;have V:=aA (show Told w w3 w.heap.size F.heap.size m 0 (fun _=>0)from⟨(bP.kept A f (fun x=>x)).congr (fun i hi=>by simp[hi]),by obtain⟨cs,h1,h2⟩:=r;exact⟨cs,h1,h2,fun j z=>absurd z (by omega)⟩,fun j z=>absurd z (by omega),fun i j hi=>absurd hi (by omega),aj _,U.o.size,fun j z=>absurd z (by omega),Y.o⟩);rw[show adr B.P=some ⟨q,0,none⟩by rw[hq];rfl] at c2 d2 e2 f2;have HQ:=aA hq;clear h u c A t r f N K G hq;go_enter func39,ntmps39;go_wp2_with fail;obtain⟨p,d⟩:=xe (F.heap.size);rw[<-d] at V;rw[<-d];clear d c0 c1 c2 d0 d1 d2 e0 e1 e2 f0 f1 f2 X J v;go_loopw [4,5,28] (fun x y i W=>∃ k:Nat,k<=m.o/\i=.int .i64 k/\Hd (∃ D,Told w W w.heap.size p m k D)) (fun _ _ i _=>m.o-(intOf i).toNat)
 case atStart=>exact⟨0,by omega,rfl,⟨_,V.o⟩⟩
 case round=>
  clear V;obtain⟨k,hk,rfl,hR⟩:=hrel;obtain⟨D,hR⟩:=hR.o;have l:=aA hR;clear hR;by_cases a:k<m.o
  ·have a4:(k:Int)<m.o:=(by omega);have a0:wr.cell? ⟨q,k,none⟩=some (.pointer (some ⟨B.S k,0,none⟩)):=by
    obtain⟨q',s,hc⟩:=(Z.o.keep l.o.kp).cp k a;rw[HQ.o] at s
    cases s
    exact hc
   have WD:=aA (fun E (kk:Kt nO w E)=>JG (B.S k) (B.C k) _ (m.wd k) E ((Z.o.keep kk).set k a));obtain⟨v0,T⟩:=l.o.cell k a;have L:=aA a;go_wp2_with fail;refine(WD.o _ l.o.kp).mono ?_;rintro e W2 ⟨rfl,hx,hK,R⟩;have HX:=aA (l.o.next L.o hK hx);have zz:=(l.o.keep hK).froz k;have a2:=Kt.cell (S:=nO) hK (fun x=>x) T;clear hx hK R;go_wp2_with fail;exact⟨⟨k+1,by omega,by simp,⟨_,HX.o⟩⟩,by simp[intOf];omega⟩
  ·obtain rfl:k=m.o:=(by omega);go_wp2_with fail;skip
   exact⟨rfl,.tuple #[.slice (some ⟨w.heap.size,0,none⟩) m.n m.n,.slice (some ⟨p,0,none⟩) m.o m.o],by simp[results,results39,go_sem],w.heap.size,p,D,rfl,l.o⟩
theorem ziY(b:Nat)(B:Bs)(m:Mp)(w:World)(h:MpA w b B m):
  Calls prog 39 #[.pointer (some ⟨b,0,none⟩)] w fun e d=>∃ a c D,e=.returned (.tuple #[.slice (some ⟨a,0,none⟩) m.n m.n,.slice (some ⟨c,0,none⟩) m.o m.o])/\Told w d a c m m.o D:=by
 by_cases h0:m.o=0
 ·exact YQ b B m w h h0
 ·obtain⟨q,hq,_⟩:=h.cp 0 (by omega);exact YP b q B m w h hq
structure GS(w0 W:World)(e:TypeId)(size:Nat)(v:Value)(n:Nat)(xs:List Value):Prop where
 own:W.ownsRow 0 e size v n xs
 new:∀ g cap,v=.slice (some ⟨g,0,none⟩) n cap->cap<=n\/w0.heap.size<=g
 kp:Kt nO w0 W
theorem nW{w a:World}{row:Option Nat}(h:w.grownBy a row):Kt (fun b=>row=some b) w a:=⟨h.os,h.tape,h.output,h.size,fun k d c=>h.block k d (fun e=>c e.symm)⟩
theorem GS.nil(a W:World)(e:TypeId)(size:Nat)(k:Kt nO a W):GS a W e size (.slice none 0 0) 0 []:=
 ⟨World.ownsRow_nil _ _ _ _,fun g cap h=>by simp at h,k⟩
theorem GS.keep{w0 W W' e size v n xs}(h:GS w0 W e size v n xs)(k:Kt nO W W'):GS w0 W' e size v n xs:=by
 refine⟨⟨h.own.1,?_⟩,h.new,nT h.kp k⟩;rcases h.own.2 with h0|⟨g,cap,a,rfl,hb,hg,b⟩
 ·exact .inl h0
 ·exact .inr ⟨g,cap,a,rfl,hb,(k.block g (lH hg) (fun x=>x)).trans hg,b⟩
theorem xH{w:World}{cs:Array Value}{t:TypeId}(j:Nat)(u:Value)(h:cs.toList[j]?=some u):(w.alloc (.cells cs t)).cell? (Addr.add ⟨w.heap.size,0,none⟩ j)=some u:=by rw[Addr.add_lit,Nat.zero_add];have:=nH w (.cells cs t);simp only[World.cell?,this];rw[<-Array.getElem?_toList,h];rfl
end Go.Proofs.YtfmgnljlkdmndaaGreatDoor
namespace Go.Proofs.YtfmgnljlkdmndaaGreatDoor.W
open Tryz
open Go.RowKit
set_option linter.unusedVariables false
abbrev gX(p:Pg):Value:=.agg #[.int .i64 p.kd,.int .i64 p.od,.int .i64 p.cl,.int .i64 p.lv,.int .i64 p.nx,.int .i64 p.pv,.int .i64 p.fs,.int .u64 p.b0,.int .u64 p.b1,.int .u64 p.b2,.int .u64 p.b3]
abbrev zA(bS:Nat)(lim ord:Int):Value:=.agg #[.int .u64 bS,.int .i64 lim,.int .i64 ord]
theorem gQ{P:Program}{id:Nat}{Q:Exit->Act->World->Prop}{a:Act}{w:World}{l:List Oper}(c:P.follows .mixedOrders=true)(d:Region.lexB .any l.toArray=true)
  (hl:l≠[]) (h:wpQuiet P l.toArray (fun b=>∃ x:KW w,b=x.v) (fun a'=>Region.wanted (l.getLast hl) (yielded l.toArray a'.tmps)=true/\∀ b,(∃ x:KW w,b=x.v)->gT P Q (l.getLast hl) a' b) l.dropLast a):(Code.region id l.toArray true).wp P Q a w:=
 LQ (C:=fun b=>∃ x:KW w,b=x.v) c d hl ⟨⟨w.drew,(Kt.refl _ w).drew⟩,rfl⟩ h
theorem zgp(bS:Nat)(lim ord:Int)(h:(wiB ord 0 8 && wiB lim 1 64)=false)(w:World):
  Calls prog 186 #[zA bS lim ord] w fun e a=>e=.returned (.bool false)/\Kt nO w a:=by
 cases h1:wiB ord 0 8 with
 | false=>
  clear h;go_enter func186,ntmps186;go_wp2_with (go_at_call 187;refine(iM _ _ _ _).mono ?_;rintro e a ⟨rfl,rfl⟩)
  go_ret;exact⟨rfl,(Kt.refl _ w).alloc _⟩
 | true=>
  rw[h1,bf] at h;go_enter func186,ntmps186;go_wp2_with (go_at_call 187;refine(iM _ _ _ _).mono ?_;rintro e a ⟨rfl,rfl⟩)
  go_ret;exact⟨rfl,(Kt.refl _ w).alloc _⟩
theorem zhQ(bS:Nat)(t:bS<18446744073709551616)(lim k:Nat)(B:k<=8)(D : 1<=lim)(o:lim<=64)(w:World):
  Calls prog 186 #[zA bS (lim:Int) (k:Int)] w fun e m=>e=.returned (.bool (M.mayB bS lim k))/\Kt nO w m:=by
 obtain⟨P,i⟩:=xe (2 ^ k);have l:=M.pow8 k B;rw[<-i] at l;obtain⟨g,b⟩:=xe (lim*P);have u:g<=16384:=by rw[b];exact an (Nat.mul_le_mul o l.2) (by decide)
 have G:wrap64 ((lim:Int)*2 ^ k)=(g:Int):=by
  have e:((2:Int) ^ k)=((2 ^ k:Nat):Int):=by simp
  have I:(lim:Int)*((P:Nat):Int)=(g:Int):=by rw[b];simp
  rw[e,<-i,I];unfold wrap64;omega
 have v:M.Bounds (lim:Int) (k:Int):=by unfold M.Bounds;omega
 have h:M.mayB bS lim k=(decide (g<=1024) && (decide (bS≠0) && decide (bS%M.RS k=0) && decide (bS+lim*M.RS k<=9223372036854775808))):=by unfold M.mayB;rw[af v,aa,aa,<-i,<-b,bf]
 rw[h];clear h v;obtain⟨R,hR⟩:=xe (M.RS k);have c:R=4096*P:=by rw[hR,M.RS,i]
 obtain⟨lr,a⟩:=xe (lim*R);have d:lr=4096*g:=by rw[a,c,b,Nat.mul_left_comm]
 have r:(lim:Int)*(R:Int)=lr:=by rw[a];simp
 rw[<-hR,<-a];have C:IntKind.u64.wrap ((4096:Int)*2 ^ k)=(R:Int):=by
  have e:((2:Int) ^ k)=((2 ^ k:Nat):Int):=by simp
  rw[wrap_u64,e,<-i];omega
 have A:¬(R:Int)=0:=by omega
 have y:R<=1048576:=by omega
 have x:wiB (k:Int) 0 8=true:=by unfold wiB;exact af (by omega)
 have z:wiB (lim:Int) 1 64=true:=by unfold wiB;exact af (by omega)
 by_cases s:g<=1024
 ·have q:¬(1024:Int)<g:=by omega
  have hd:decide (g<=1024)=true:=af s;rw[hd,bf];clear i b hR hd;by_cases h0:bS=0
  ·have p:((bS:Int) != 0)=false:=(by rw[h0];rfl);have F:=aA h0;clear c a d h0;go_enter func186,ntmps186;go_wp2_with (go_at_call 187;refine(iM _ _ _ _).mono ?_;rintro e m ⟨rfl,rfl⟩)
   go_ret;exact⟨cO (by rw[F.o];simp),(Kt.refl _ w).alloc _⟩
  ·have p:((bS:Int) != 0)=true:=(by rw[cu];omega);have j:decide (bS≠0)=true:=af h0;rw[j,bf];by_cases n:bS%R=0
   ·have E:((bS:Int)%(R:Int) == 0)=true:=(by rw[co];omega);have f:decide (bS%R=0)=true:=af n;rw[f,bf];clear c a n f j;go_enter func186,ntmps186;go_wp2_with (go_at_call 187;refine(iM _ _ _ _).mono ?_;rintro e m ⟨rfl,rfl⟩)
    go_ret;exact⟨cO (by rw[decide_eq_decide];omega),(Kt.refl _ w).alloc _⟩
   ·have E:((bS:Int)%(R:Int) == 0)=false:=(by rw[ag];omega);have f:decide (bS%R=0)=false:=ah n;rw[f,Bool.false_and];clear c a d n f j;go_enter func186,ntmps186;go_wp2_with (go_at_call 187;refine(iM _ _ _ _).mono ?_;rintro e m ⟨rfl,rfl⟩)
    go_ret;exact⟨rfl,(Kt.refl _ w).alloc _⟩
 ·have q:(1024:Int)<g:=by omega
  have hd:decide (g<=1024)=false:=ah s;rw[hd,Bool.false_and];clear i b hR hd c a d;go_enter func186,ntmps186;go_wp2_with (go_at_call 187;refine(iM _ _ _ _).mono ?_;rintro e m ⟨rfl,rfl⟩)
  go_ret;exact⟨rfl,(Kt.refl _ w).alloc _⟩
theorem XM(bS:Nat)(a:bS<18446744073709551616)(lim ord:Int)(w:World):
  Calls prog 186 #[zA bS lim ord] w fun e c=>e=.returned (.bool (M.mayB bS lim ord))/\Kt nO w c:=by
 by_cases h:M.Bounds lim ord
 ·have b:=h;unfold M.Bounds at b;obtain⟨l,rfl⟩:=au (by omega : 0<=lim);obtain⟨k,rfl⟩:=au b.1;exact zhQ bS a l k (by omega) (by omega) (by omega) w
 ·have e:M.mayB bS lim ord=false:=by unfold M.mayB;rw[ah h,Bool.false_and,Bool.false_and]
  rw[e];refine zgp bS lim ord ?_ w;unfold M.Bounds at h;unfold wiB;by_cases h1 : 0<=ord/\ord<=8
  ·rw[af h1,bf];exact ah (by omega)
  ·rw[ah h1];rfl
theorem zeM(b:Nat)(I:Img)(V:ImV)(w:World)(g:ImAt w b I V):
  Calls prog 137 #[.pointer (some ⟨b,0,none⟩)] w fun e j=>e=bG (if M.mayB I.bS I.lim I.ord=true then none else some 0)/\Kt nO w j:=by
 obtain⟨c0,c1,c2,c3,c4,c5,h,c7,i⟩:=g.cells;have c:=aA (fun W=>XM I.bS g.d.b64 I.lim I.ord W)
 cases hm:M.mayB I.bS I.lim I.ord with
 | true=>
  rw[hm] at c;go_enter func137,ntmps137;go_wp2_with fail;refine(c.o _).mono ?_;rintro e l ⟨rfl,a⟩;have f:=aA a;clear a c0 c1 c2 c3 c4 c5 h c7 i;go_wp2_with fail;refine(dD _ _).mono ?_;rintro e k ⟨rfl,rfl⟩;go_wp2_with fail;first|go_end0|go_ret
  exact⟨by simp[bG],f.o⟩
 | false=>
  rw[hm] at c;go_enter func137,ntmps137;go_wp2_with fail;refine(c.o _).mono ?_;rintro e l ⟨rfl,a⟩;have f:=aA a;clear a c0 c1 c2 c3 c4 c5 h c7 i;go_wp2_with fail;refine(dY _ _).mono ?_;rintro e k ⟨rfl,rfl⟩;exact⟨rfl,by simp[bG],f.o⟩
theorem LD(b:Nat)(I:Img)(V:ImV)(j:Nat)(w:World)(f:ImAt w b I V)(q:j<=8)(a:I.np<=9223372036854775807):
  Calls prog 188 #[.pointer (some ⟨b,0,none⟩),.int .i64 j] w fun e i=>e=.returned (.int .i64 ((I.np/2 ^ (j+1):Nat):Int))/\i=w:=by
 obtain⟨c0,c1,c2,c3,c4,c5,t,c7,u⟩:=f.cells;obtain⟨o,p,v,g,h⟩:=f.d.pgs;rw[g] at c5;have E:=aA (show((I.np:Int)/2 ^ (j+1))=((I.np/2 ^ (j+1):Nat):Int)by simp);obtain⟨n,c⟩:=xe (I.np);rw[<-c] at c5 E a ⊢;obtain⟨s,hs⟩:=xe (j+1);rw[<-hs] at E ⊢;have l:(j:Int)+1=(s:Int):=by omega
 have k:s<=9:=by omega
 generalize n/2 ^ s=r at *;have m:=E.o;clear g c h hs;go_enter func188,ntmps188;go_wp2
 go_ret;exact⟨by first|rfl|simp_all,rfl⟩
theorem tU(k o:Int)(w:World):
  Calls prog 189 #[.int .i64 k,.int .i64 o] w fun e a=>e=.returned (gX (aU k o))/\Kt nO w a:=by
 go_enter func189,ntmps189;go_wp2
 exact⟨rfl,_,by simp[results,results189,go_sem,aU],rfl,(Kt.refl _ w).alloc _⟩
def celN9(c:Nat):Nat:=256/2 ^ c
theorem yQ(c:Nat)(h:c<=7) : 1<=2 ^ c/\2 ^ c<=128:=⟨ax c,bj (n:=2) (by decide) h⟩
theorem nM(c:Nat)(h:c<=7) : 2<=celN9 c/\celN9 c<=256:=by
 unfold celN9;match c,h with
 | 0,_=>decide
 | 1,_=>decide
 | 2,_=>decide
 | 3,_=>decide
 | 4,_=>decide
 | 5,_=>decide
 | 6,_=>decide
 | 7,_=>decide
theorem xI(p:Pg)(c:Nat)(hc:p.cl=(c:Int))(a:c<=7)(w:World):
  Calls prog 149 #[gX p] w fun e b=>e=.returned (.int .i64 (celN9 c:Int))/\Kt nO w b:=by
 have E:(256:Int)/2 ^ c=(celN9 c:Int):=by unfold celN9;simp
 have hb:=nM c a;obtain⟨kd,od,cl,lv,nx,pv,fs,b0,b1,b2,b3⟩:=p;dsimp only at hc;subst hc;generalize celN9 c=q at *;go_enter func149,ntmps149;go_wp2
 go_ret;exact⟨by first|rfl|simp_all,(Kt.refl _ w).alloc _⟩
theorem LW(p:Pg)(c:Nat)(hc:p.cl=(c:Int))(a:c<=7)(w:World):
  Calls prog 93 #[gX p] w fun e b=>e=.returned (.int .u64 ((16*2 ^ c:Nat):Int))/\Kt nO w b:=by
 have hp:=yQ c a;have E:IntKind.u64.wrap ((16:Int)*2 ^ c)=((16*2 ^ c:Nat):Int):=by
  have e:((2:Int) ^ c)=((2 ^ c:Nat):Int):=by simp
  rw[wrap_u64,e];generalize 2 ^ c=P at *;omega
 obtain⟨kd,od,cl,lv,nx,pv,fs,b0,b1,b2,b3⟩:=p;dsimp only at hc;subst hc;generalize 16*2 ^ c=q at *;go_enter func93,ntmps93;go_wp2
 go_ret;exact⟨by first|rfl|simp_all,(Kt.refl _ w).alloc _⟩
def isF(p:Pg)(o:Int):Bool:=decide (p.kd=0) && decide (p.od=o)
theorem qP(p:Pg)(o:Int)(w:World):
  Calls prog 191 #[gX p,.int .i64 o] w fun e a=>e=.returned (.bool (isF p o))/\Kt nO w a:=by
 obtain⟨kd,od,cl,lv,nx,pv,fs,b0,b1,b2,b3⟩:=p;by_cases h:kd=0
 ·subst h;have E:=aA (show(od == o)=isF ⟨0,od,cl,lv,nx,pv,fs,b0,b1,b2,b3⟩ o by rw[Bool.eq_iff_iff];simp[isF]);go_enter func191,ntmps191;go_wp2
  go_ret;exact⟨cO E.o,(Kt.refl _ w).alloc _⟩
 ·have E:=aA (show false=isF ⟨kd,od,cl,lv,nx,pv,fs,b0,b1,b2,b3⟩ o by simp[isF,h]);have b:(kd == 0)=false:=by rw[ag];exact h
  go_enter func191,ntmps191;go_wp2
  go_ret;exact⟨cO E.o,(Kt.refl _ w).alloc _⟩
theorem IG(p:Pg)(c:Nat)(hc:p.cl=(c:Int))(f:c<=7)(w:World):
  Calls prog 200 #[gX p] w fun e h=>e=.returned (.bool (decide (p.lv=(celN9 c:Int))))/\Kt nO w h:=by
 have l:=aA (fun W=>xI p c hc f W);have d:=aA (show(w.alloc (aW p)).heap[w.heap.size]?=some (aW p)from nH _ _);have i:=aA (show Kt nO w (w.alloc (aW p))from(Kt.refl _ _).alloc _);have E:=aA (show(p.lv == (celN9 c:Int))=decide (p.lv=(celN9 c:Int))by rw[Bool.eq_iff_iff];simp);generalize decide (p.lv=(celN9 c:Int))=C at *;generalize celN9 c=q at *;clear hc;obtain⟨kd,od,cl,lv,nx,pv,fs,b0,b1,b2,b3⟩:=p;go_enter func200,ntmps200;go_wp2_with fail;generalize w.alloc (aW ⟨kd,od,cl,lv,nx,pv,fs,b0,b1,b2,b3⟩)=b at *;generalize w.heap.size=g at *;have a:∀ x:KW b,x.v.heap[g]?=some (aW ⟨kd,od,cl,lv,nx,pv,fs,b0,b1,b2,b3⟩):=fun x=>(x.k.block _ (lH d.o) (fun y=>y)).trans d.o
 have u:∀ x:KW b,x.v.cell? ⟨g,0,none⟩=some (.int .i64 kd):=fun x=>by simp[World.cell?,a x]
 have s:∀ x:KW b,x.v.cell? ⟨g,1,none⟩=some (.int .i64 od):=fun x=>by simp[World.cell?,a x]
 have A:∀ x:KW b,x.v.cell? ⟨g,2,none⟩=some (.int .i64 cl):=fun x=>by simp[World.cell?,a x]
 have m:∀ x:KW b,x.v.cell? ⟨g,3,none⟩=some (.int .i64 lv):=fun x=>by simp[World.cell?,a x]
 have r:∀ x:KW b,x.v.cell? ⟨g,4,none⟩=some (.int .i64 nx):=fun x=>by simp[World.cell?,a x]
 have B:∀ x:KW b,x.v.cell? ⟨g,5,none⟩=some (.int .i64 pv):=fun x=>by simp[World.cell?,a x]
 have t:∀ x:KW b,x.v.cell? ⟨g,6,none⟩=some (.int .i64 fs):=fun x=>by simp[World.cell?,a x]
 have n:∀ x:KW b,x.v.cell? ⟨g,7,none⟩=some (.int .u64 b0):=fun x=>by simp[World.cell?,a x]
 have z:∀ x:KW b,x.v.cell? ⟨g,8,none⟩=some (.int .u64 b1):=fun x=>by simp[World.cell?,a x]
 have o:∀ x:KW b,x.v.cell? ⟨g,9,none⟩=some (.int .u64 b2):=fun x=>by simp[World.cell?,a x]
 have j:∀ x:KW b,x.v.cell? ⟨g,10,none⟩=some (.int .u64 b3):=fun x=>by simp[World.cell?,a x]
 clear a;refine cS (by kernel_rfl) (by kernel_rfl) ?_;repeat (go_big_quiet_step (first|(go_at_call 149;exact Calls.kept_of (l.o _))))
 refine wpQuiet_nil ?_;intro x;go_wp2_with fail;go_ret;exact⟨cO E.o,nT i.o x.k⟩
theorem lY(b:Nat)(I:Img)(V:ImV)(n:Nat)(w:World)(d:ImAt w b I V)(hb:I.bS+n*4096<18446744073709551616):
  Calls prog 42 #[.pointer (some ⟨b,0,none⟩),.int .i64 n] w fun e c=>e=.returned (.int .u64 ((I.bS+n*4096:Nat):Int))/\c=w:=by
 obtain⟨c0,c1,c2,c3,c4,c5,f,c7,g⟩:=d.cells;obtain⟨B,a⟩:=xe (I.bS);rw[<-a] at c0 hb ⊢;clear a;go_enter func42,ntmps42;go_wp2
 go_ret;exact⟨dZ (by first|omega|simp),rfl⟩
def fD(np j:Nat):Nat:=(np/2 ^ (j+1)+63)/64
def r2(I:Img)(k:Nat):Option Nat:=
 if wiB I.reg 0 I.lim=false then some 0
 else if I.nm≠I.reg.toNat*2 ^ k*4096 then some 1
 else if I.np≠I.reg.toNat*2 ^ k then some 2
 else if I.no≠k then some 3
 else if fst1 I.no (fun j=>decide ((I.pr j).length=fD I.np j))≠none then some 3
 else if I.hd.length≠k+1 then some 4
 else if I.pt.length≠8 then some 5
 else none
structure LnI(w W:World)(b g:Nat)(I:Img)(V:ImV):Prop where
 im:ImAt W b I V
 cf:W.heap[g]?=some (.cells #[.int .u64 I.bS,.int .i64 I.lim,.int .i64 I.ord] 24 (0,0))
 k:Kt nO w W
theorem LnI.keep{w W W':World}{b g:Nat}{I:Img}{V:ImV}(h:LnI w W b g I V)(a:Kt nO W W'):LnI w W' b g I V:=
 ⟨h.im.keep a,(a.block _ (lH h.cf) (fun x=>x)).trans h.cf,nT h.k a⟩
theorem LnI.all{w W:World}{b g:Nat}{I:Img}{V:ImV}(h:LnI w W b g I V):(∀ x:KW W,x.v.cell? ⟨g,1,none⟩=some (.int .i64 I.lim))/\(∀ x:KW W,x.v.cell? ⟨g,2,none⟩=some (.int .i64 I.ord)):=
 ⟨fun x=>by simp[World.cell?,(h.keep x.k).cf],fun x=>by simp[World.cell?,(h.keep x.k).cf]⟩
theorem ImD.sl{w:World}{I:Img}{V:ImV}(h:ImD w I V):(∃ a c,V.m=.slice a I.nm c)/\(∃ a c,V.p=.slice a I.np c)/\(∃ a c,V.r=.slice a I.no c)/\(∃ a c,V.h=.slice a I.hd.length c)/\(∃ a c,V.t=.slice a I.pt.length c)/\I.nm<=9223372036854775807/\I.np<=9223372036854775807/\I.no<=9223372036854775807/\I.pt.length<=9223372036854775807:=by obtain⟨o,b,i,e,_⟩:=h.mem;obtain⟨f,q,s,l,_⟩:=h.pgs;obtain⟨ws,r1,u,j,r2,_⟩:=h.prs;obtain⟨_,ha,hc,g,_⟩:=h.hds;obtain⟨d,k,v,n,_⟩:=h.pts;exact⟨⟨b,i,e⟩,⟨q,s,l⟩,⟨u,j,r2⟩,⟨ha,hc,g⟩,⟨k,v,n⟩,o,f,r1,d⟩
theorem zej(b:Nat)(I:Img)(V:ImV)(k L:Nat)(hk:k<=8)(hL:L<=64)(a5:I.ord=(k:Int))(a3:I.lim=(L:Int))(b5:I.hd.length<=9223372036854775807)(w:World)(hI:ImAt w b I V):
  Calls prog 138 #[.pointer (some ⟨b,0,none⟩)] w fun e w'=>e=bG (r2 I k)/\Kt nO w w':=by
 obtain⟨⟨ma,mc,hm⟩,⟨pa,pc,hp⟩,⟨ra,rc,hr⟩,⟨ha,hc,hh⟩,⟨ta,tc,ht⟩,bm,bp,br,bt⟩:=hI.d.sl;obtain⟨c0,c1,c2,c3,c4,c5,l,c7,f⟩:=hI.cells;have b0:=hI.d.reg;have a9:=aA (fun (j:Nat) (hj:j<=8) (W:World) (hW:ImAt W b I V)=>LD b I V j W hW hj bp);have L0:=aA (show LnI w (w.alloc (.cells #[.int .u64 I.bS,.int .i64 I.lim,.int .i64 I.ord] 24 (0,0))) b w.heap.size I V from⟨hI.keep ((Kt.refl _ w).alloc _),nH _ _,(Kt.refl _ w).alloc _⟩);obtain⟨EE,Z⟩:=xe (bG (r2 I k));rw[<-Z];have Q:=aA Z;have HI:=aA hI;have J:=aA a5;have A:=aA a3;clear Z hI a5 a3;have c:=aA (show V.m=.slice ma I.nm mc/\V.p=.slice pa I.np pc/\V.r=.slice ra I.no rc/\V.h=.slice ha I.hd.length hc/\V.t=.slice ta I.pt.length tc from⟨hm,hp,hr,hh,ht⟩);clear hm hp hr hh ht;go_enter func138,ntmps138;go_wp2_with fail;generalize w.alloc (.cells #[.int .u64 I.bS,.int .i64 I.lim,.int .i64 I.ord] 24 (0,0))=W0 at *;generalize w.heap.size=g at *;clear c0 c1 c2 c3 c4 c5 l c7 f;obtain⟨c0,c1,c2,c3,c4,c5,l,c7,f⟩:=L0.o.im.all;obtain⟨B,C⟩:=L0.o.all;rw[c.o.1] at c4;rw[c.o.2.1] at c5;rw[c.o.2.2.1] at l;rw[c.o.2.2.2.1] at c7;rw[c.o.2.2.2.2] at f;rw[J.o] at c2 C;rw[A.o] at c1 B;have E:=aA (fun W=>iM I.reg 0 (L:Int) W);have D:wiB I.reg 0 I.lim=wiB I.reg 0 (L:Int):=by rw[A.o]
 cases hb0:wiB I.reg 0 (L:Int)with
 | false=>
  rw[hb0] at E D;refine gQ (by kernel_rfl) (by kernel_rfl) (by exact da _ _) ?_;dsimp only[List.dropLast,List.getLast];repeat (go_big_quiet_step (first|(go_at_call 187;exact Calls.kept_of ((E.o _).mono fun _ _ ⟨G,F⟩=>⟨G,F▸Kt.refl _ _⟩))))
  refine wpQuiet_nil ?_;refine⟨rfl,?_⟩;rintro _ ⟨x,rfl⟩;exact gP (p:=0) rfl rfl rfl fun _ hd=>⟨hd,by rw[Q.o,r2,D,ae rfl];rfl,nT L0.o.k x.k⟩
 | true=>
  rw[hb0] at E D;have s:=aA (fun W=>dD 0 W);refine cS (by kernel_rfl) (by kernel_rfl) ?_;repeat (go_big_quiet_step (first|(go_at_call 187;exact Calls.kept_of ((E.o _).mono fun _ _ ⟨G,F⟩=>⟨G,F▸Kt.refl _ _⟩))|(go_at_call 185;exact Calls.kept_of ((s.o _).mono fun _ _ ⟨G,F⟩=>⟨G,F▸Kt.refl _ _⟩))))
  refine wpQuiet_nil ?_;intro x;have L1:=aA (L0.o.keep x.k);have P : 0<=I.reg/\I.reg<=(L:Int):=by unfold wiB at hb0;exact bw hb0
  obtain⟨r,hr⟩:=au P.1;have HR:=aA hr;have b3:r<=64:=by omega
  have hP:=M.pow8 k hk;obtain⟨n,hn⟩:=xe (r*2 ^ k);have a7:n<=16384:=by rw[hn];exact an (Nat.mul_le_mul b3 hP.2) (by decide)
  have b8:wrap64 ((r:Int)*2 ^ k)=(n:Int):=by have e:((2:Int) ^ k)=((2 ^ k:Nat):Int):=(by simp);have T:(r:Int)*((2 ^ k:Nat):Int)=(n:Int):=(by rw[hn];simp);rw[e,T];unfold wrap64;omega
  have HN:=aA (show I.reg.toNat*2 ^ k=n by rw[hr,aa,hn]);have u:=aA (show r2 I k=(if I.nm≠n*4096 then some 1 else if I.np≠n then some 2 else if I.no≠k then some 3 else if fst1 I.no (fun j=>decide ((I.pr j).length=fD I.np j))≠none then some 3 else if I.hd.length≠k+1 then some 4 else if I.pt.length≠8 then some 5 else none)by unfold r2;rw[ac (by rw[D];simp),HN.o]);clear c0 c1 c2 c3 c4 c5 l c7 f B C E s hb0 D P b0 hr hn hP;go_wp2_with fail;generalize x.v=W1 at *;obtain⟨c0,c1,c2,c3,c4,c5,l,c7,f⟩:=L1.o.im.all;obtain⟨B,C⟩:=L1.o.all;rw[c.o.1] at c4;rw[c.o.2.1] at c5;rw[c.o.2.2.1] at l;rw[c.o.2.2.2.1] at c7;rw[c.o.2.2.2.2] at f;rw[J.o] at c2 C;rw[A.o] at c1 B;rw[HR.o] at c3;refine cS (by kernel_rfl) (by kernel_rfl) ?_;repeat (go_big_quiet_step (fail))
  refine wpQuiet_nil ?_;intro y;have Y:=aA (L1.o.keep y.k);clear c0 c1 c2 c3 c4 c5 l c7 f B C;generalize y.v=W2 at *;obtain⟨c0,c1,c2,c3,c4,c5,l,c7,f⟩:=Y.o.im.cells;rw[c.o.1] at c4;rw[c.o.2.1] at c5;rw[c.o.2.2.1] at l;rw[c.o.2.2.2.1] at c7;rw[c.o.2.2.2.2] at f;by_cases e1:I.nm=n*4096
  case neg=>
   have f1:((I.nm:Int) == (n:Int)*4096)=false:=(by rw[ag];omega);have R:=aA e1;clear e1;go_wp2_with fail;refine(dY _ _).mono ?_;rintro e N ⟨rfl,rfl⟩;exact⟨rfl,by rw[Q.o,u.o,ae R.o];rfl,Y.o.k⟩
  have f1:((I.nm:Int) == (n:Int)*4096)=true:=by rw[co];omega
  have R:=aA e1;clear e1;go_wp2_with fail;refine(dD _ _).mono ?_;rintro e N ⟨rfl,rfl⟩;clear f1;by_cases T:I.np=n
  case neg=>
   have f2:((I.np:Int) == (n:Int))=false:=(by rw[ag];omega);have S:=aA T;clear T;go_wp2_with fail;refine(dY _ _).mono ?_;rintro e N ⟨rfl,rfl⟩;exact⟨rfl,by rw[Q.o,u.o,ac (bi R.o),ae S.o];rfl,Y.o.k⟩
  have f2:((I.np:Int) == (n:Int))=true:=by rw[co];omega
  have S:=aA T;clear T;go_wp2_with fail;refine(dD _ _).mono ?_;rintro e N ⟨rfl,rfl⟩;clear f2;go_wp2_with fail;clear c0 c1 c2 c3 c4 c5 l c7 f;obtain⟨c0,c1,c2,c3,c4,c5,l,c7,f⟩:=Y.o.im.all;obtain⟨B,C⟩:=Y.o.all;rw[c.o.1] at c4;rw[c.o.2.1] at c5;rw[c.o.2.2.1] at l;rw[c.o.2.2.2.1] at c7;rw[c.o.2.2.2.2] at f;rw[J.o] at c2 C;rw[A.o] at c1 B;by_cases e3:I.no=k
  case neg=>
   have f3:((I.no:Int) == (k:Int))=false:=(by rw[ag];omega);have X:=aA e3;clear e3;refine gQ (by kernel_rfl) (by kernel_rfl) (by exact da _ _) ?_;dsimp only[List.dropLast,List.getLast];repeat (go_big_quiet_step (fail))
   refine wpQuiet_nil ?_;refine⟨rfl,?_⟩;rintro _ ⟨x,rfl⟩;exact gP (p:=3) rfl rfl rfl fun _ hd=>⟨hd,by rw[Q.o,u.o,ac (bi R.o),ac (bi S.o),ae X.o];rfl,nT Y.o.k x.k⟩
  have f3:((I.no:Int) == (k:Int))=true:=by rw[co];omega
  have X:=aA e3;clear e3;have s:=aA (fun W=>dD 3 W);refine cS (by kernel_rfl) (by kernel_rfl) ?_;repeat (go_big_quiet_step (first|(go_at_call 185;exact Calls.kept_of ((s.o _).mono fun _ _ ⟨G,F⟩=>⟨G,F▸Kt.refl _ _⟩))))
  refine wpQuiet_nil ?_;intro x;have L3:=aA (Y.o.keep x.k);clear c0 c1 c2 c3 c4 c5 l c7 f B C s f3;generalize x.v=W3 at *;obtain⟨c0,c1,c2,c3,c4,c5,l,c7,f⟩:=L3.o.im.cells;rw[c.o.1] at c4;rw[c.o.2.1] at c5;rw[c.o.2.2.1] at l;rw[c.o.2.2.2.1] at c7;rw[c.o.2.2.2.2] at f;go_wp2_with fail;clear c0 c1 c2 c3 c4 c5 l c7 f;go_loopw [56] (fun i W=>∃ a:Nat,a<=I.no/\i=.int .i64 a/\Hd (LnI w W b g I V/\∀ x,x<a->decide ((I.pr x).length=fD I.np x)=true)) (fun i _=>I.no-(intOf i).toNat)
  case atStart=>exact⟨0,az _,rfl,aA ⟨L3.o,fun x hx=>by omega⟩⟩
  case round=>
   clear L3;obtain⟨a,c9,rfl,hR⟩:=hrel;by_cases a6:a<I.no
   ·have a8:(a:Int)<I.no:=(by omega);obtain⟨ws,_,b7,b9,a2,a1⟩:=hR.o.1.im.d.prs;rw[c.o.2.2.1] at a2;injection a2 with e1 T e3
    subst e1;rcases a1 with a1|⟨bl,o,rfl,_,a0⟩
    ·omega
    obtain⟨d0,hz,za,zc,a4,_⟩:=a0 a a6;rw[a4] at d0;have b2:a<=8:=(by have:=X.o;omega);have HP:=aA (a9.o a b2 wr hR.o.1.im);obtain⟨pn,z⟩:=xe (I.np/2 ^ (a+1));rw[<-z] at HP;have b4:pn<=16384:=(by rw[z,S.o];exact an (df _ _) a7);have hq:((pn:Int)+64-1)/64=((fD I.np a:Nat):Int):=(by unfold fD;rw[<-z];omega);obtain⟨q,K⟩:=xe (fD I.np a);rw[<-K] at hq;have b6:q<=300:=(by rw[K];unfold fD;rw[<-z];omega);obtain⟨zl,U⟩:=xe ((I.pr a).length);rw[<-U] at d0;have HZ:=aA (show zl=(I.pr a).length/\q=fD I.np a from⟨U,K⟩);clear a0 hz a4 K z U T e3;by_cases e4:zl=q
    case neg=>
     have f4:((zl:Int) == (q:Int))=false:=(by rw[ag];omega);have E4:=aA (show fst1 I.no (fun j=>decide ((I.pr j).length=fD I.np j))=some a from gA a6 hR.o.2 (by rw[<-HZ.o.1,<-HZ.o.2];exact ah e4));clear e4;go_wp2_with fail;refine HP.o.mono ?_;rintro e N ⟨rfl,rfl⟩;go_wp2_with fail;refine(dY _ _).mono ?_;rintro e N ⟨rfl,rfl⟩;exact⟨rfl,by rw[Q.o,u.o,ac (bi R.o),ac (bi S.o),ac (bi X.o),ae (by rw[E4.o];exact Option.some_ne_none _)];rfl,hR.o.1.k⟩
    have f4:((zl:Int) == (q:Int))=true:=(by rw[co];omega);have R2:=aA (show LnI w wr b g I V/\∀ x,x<a+1->decide ((I.pr x).length=fD I.np x)=true from⟨hR.o.1,fun x hx=>by
     by_cases e:x=a
     ·rw[e,<-HZ.o.1,<-HZ.o.2];exact af e4
     ·exact hR.o.2 x (by omega)⟩)
    clear e4;go_wp2_with fail;refine HP.o.mono ?_;rintro e N ⟨rfl,rfl⟩;go_wp2_with fail;refine(dD _ _).mono ?_;rintro e N ⟨rfl,rfl⟩;go_wp2_with fail;go_round
    case rel=>exact⟨a+1,by omega,by go_num,R2⟩
    case measure=>simp[intOf];omega
   ·have b1:a=I.no:=(by omega);have a8:¬(a:Int)<I.no:=(by omega);have E4:=aA (show fst1 I.no (fun j=>decide ((I.pr j).length=fD I.np j))=none from fst1_ok (fun x hx=>hR.o.2 x (by omega)));have L4:=aA hR.o.1;clear b1;go_wp2_with fail;generalize wr=W4 at *;obtain⟨c0,c1,c2,c3,c4,c5,l,c7,f⟩:=L4.o.im.all;obtain⟨B,C⟩:=L4.o.all;rw[c.o.1] at c4;rw[c.o.2.1] at c5;rw[c.o.2.2.1] at l;rw[c.o.2.2.2.1] at c7;rw[c.o.2.2.2.2] at f;rw[J.o] at c2 C;rw[A.o] at c1 B;by_cases e5:I.hd.length=k+1
    case neg=>
     have f5:((I.hd.length:Int) == (k:Int)+1)=false:=(by rw[ag];omega);have E5:=aA e5;clear e5;refine gQ (by kernel_rfl) (by kernel_rfl) (by exact da _ _) ?_;dsimp only[List.dropLast,List.getLast];repeat (go_big_quiet_step (fail))
     refine wpQuiet_nil ?_;refine⟨rfl,?_⟩;rintro _ ⟨x,rfl⟩;exact gP (p:=4) rfl rfl rfl fun _ hd=>⟨hd,by rw[Q.o,u.o,ac (bi R.o),ac (bi S.o),ac (bi X.o),ac (bi E4.o),ae E5.o];rfl,nT L4.o.k x.k⟩
    have f5:((I.hd.length:Int) == (k:Int)+1)=true:=(by rw[co];omega);have E5:=aA e5;clear e5;have s:=aA (fun W=>dD 4 W);refine cS (by kernel_rfl) (by kernel_rfl) ?_;repeat (go_big_quiet_step (first|(go_at_call 185;exact Calls.kept_of ((s.o _).mono fun _ _ ⟨G,F⟩=>⟨G,F▸Kt.refl _ _⟩))))
    refine wpQuiet_nil ?_;intro x;have L5:=aA (L4.o.keep x.k);clear c0 c1 c2 c3 c4 c5 l c7 f B C s f5;generalize x.v=W5 at *;obtain⟨c0,c1,c2,c3,c4,c5,l,c7,f⟩:=L5.o.im.cells;rw[c.o.1] at c4;rw[c.o.2.1] at c5;rw[c.o.2.2.1] at l;rw[c.o.2.2.2.1] at c7;rw[c.o.2.2.2.2] at f;by_cases e6:I.pt.length=8
    case neg=>
     have f6:((I.pt.length:Int) == 8)=false:=(by rw[ag];omega);have E6:=aA e6;clear e6;go_wp2_with fail;refine(dY _ _).mono ?_;rintro e N ⟨rfl,rfl⟩;exact⟨rfl,by rw[Q.o,u.o,ac (bi R.o),ac (bi S.o),ac (bi X.o),ac (bi E4.o),ac (bi E5.o),ae E6.o];rfl,L5.o.k⟩
    have f6:((I.pt.length:Int) == 8)=true:=(by rw[co];omega);have E6:=aA e6;clear e6;go_wp2_with fail;refine(dD _ _).mono ?_;rintro e N ⟨rfl,rfl⟩;clear f6;go_wp2_with fail;first|go_end0|go_ret
    exact⟨by rw[Q.o,u.o,ac (bi R.o),ac (bi S.o),ac (bi X.o),ac (bi E4.o),ac (bi E5.o),ac (bi E6.o)];rfl,L5.o.k⟩
theorem vB(a b c d b0 b1 b2 b3:Int)(w:World):
  (Op.equalIn 9999 95 (.agg #[.int .u64 a,.int .u64 b,.int .u64 c,.int .u64 d]) (.agg #[.int .u64 b0,.int .u64 b1,.int .u64 b2,.int .u64 b3])).run prog w=.ok (a == b0 && (b == b1 && (c == b2 && d == b3))) w:=by
 have u3:=Tryz.underlying22;have s3:=Tryz.isAgg22;have i:=Tryz.sizeOf22;rw[show(9999:Nat)=9998+1 from rfl,Op.equalIn];simp only[Sem.run_bind,run_underlying Tryz.underlying95,Result.andThen_ok];simp only[Std.Legacy.Range.forIn_eq_forIn_range',Std.Legacy.Range.size,Nat.sub_zero,Nat.add_sub_cancel,Nat.div_one,List.range'_succ,List.range'_zero,List.forIn_cons,List.forIn_nil];go_simp
 by_cases e:a=b0 <;> by_cases h:b=b1 <;> by_cases g:c=b2 <;> by_cases f:d=b3 <;> simp[e,h,g,f]
def pgE(p q:Pg):Bool:=decide (p=q)
theorem tD(p q:Pg)(w:World):(binOp .eql 97 (gX p) (gX q)).run prog w=.ok (.bool (pgE p q)) w:=by
 have m:=vB;obtain⟨kd,od,cl,lv,nx,pv,fs,b0,b1,b2,b3⟩:=p;obtain⟨g,l,d,k,f,a,c,h,j,i,e⟩:=q;have u3:=Tryz.underlying3;have s3:=Tryz.isAgg3;have n:=Tryz.sizeOf3;rw[run_eql_struct];go_simp
 unfold pgE;repeat' split
 all_goals
  refine congrArg (fun b=>Result.ok (Value.bool b) w) ?_;symm;first
   | (rw[decide_eq_true_iff,Pg.mk.injEq];omega)
   | (rw[decide_eq_false_iff_not,Pg.mk.injEq];omega)
structure Sn9(I:Img)(k r:Nat):Prop where
 k8:k<=8
 ord:I.ord=(k:Int)
 np:I.np=r*2 ^ k
 np1:I.np<=1024
 nm:I.nm=I.np*4096
 no:I.no=k
 pl:∀ j,j<k->(I.pr j).length=fD I.np j
 hl:I.hd.length=k+1
 tl:I.pt.length=8
 b0:I.bS≠0
 bm:I.bS%M.RS k=0
 be:I.bS+I.nm<=9223372036854775808
 rg:∀ i,i<I.np->rngB (k:Int) I.np (I.pg i)=true
theorem Sn9.pg{I:Img}{k r:Nat}(h:Sn9 I k r)(i:Nat)(hi:i<I.np):∃ kd o c l:Nat,(I.pg i).kd=(kd:Int)/\kd<=4/\(I.pg i).od=(o:Int)/\o<=k/\(I.pg i).cl=(c:Int)/\c<=7/\(I.pg i).lv=(l:Int)/\l<=256/\(-1<=(I.pg i).nx/\(I.pg i).nx<I.np)/\(-1<=(I.pg i).pv/\(I.pg i).pv<I.np) /\ -1<=(I.pg i).fs/\(I.pg i).fs<=255:=by have:=h.rg i hi;simp only[rngB,wiB,bu,bW] at this;obtain⟨⟨s,t⟩,⟨n,u⟩,⟨q,j⟩,⟨g,p⟩,⟨m,e⟩,⟨f,b⟩,d,a⟩:=this;refine⟨(I.pg i).kd.toNat,(I.pg i).od.toNat,(I.pg i).cl.toNat,(I.pg i).lv.toNat,?_,?_,?_,?_,?_,?_,?_,?_,?_,?_,?_,?_⟩ <;> omega
theorem Sn9.dvd{I:Img}{k r:Nat}(h:Sn9 I k r)(o:Nat)(a:o<=k) : 2 ^ o ∣ I.np:=by rw[h.np];exact Nat.dvd_trans (Nat.pow_dvd_pow 2 a) (Nat.dvd_mul_left _ _)
theorem mul_fits{m a n:Nat}(c:m ∣ n)(ha:a%m=0)(h:a<n):a+m<=n:=by obtain⟨x,rfl⟩:=cz ha;obtain⟨y,rfl⟩:=c;have b:x<y:=Nat.lt_of_mul_lt_mul_left h;have:m*(x+1)<=m*y:=Nat.mul_le_mul_left m b;rwa [Nat.mul_add,Nat.mul_one] at this
theorem rZ{od P:Nat}(b:od<=8)(a:P=2 ^ od):wrap64 ((1:Int)*2 ^ od)=(P:Int)/\((2:Int) ^ od)=(P:Int)/\wrap64 ((2:Int)*2 ^ od)=2*(P:Int):=by
 have h:=M.pow8 od b;have e:((2:Int) ^ od)=((2 ^ od:Nat):Int):=by simp
 rw[e,<-a];rw[<-a] at h;refine⟨?_,rfl,?_⟩ <;> unfold wrap64 <;> omega
theorem VJ{P:Nat}(h : 1<=P):¬((2:Int)*(P:Int))=0:=by omega
theorem VI{a P:Nat}(h:a%(2*P)=0):((a:Int)%(2*(P:Int)) == 0)=true:=by
 rw[co];have:((a%(2*P):Nat):Int)=0:=by rw[h];rfl
 simpa using this
theorem VH{a P:Nat}(h:¬a%(2*P)=0):((a:Int)%(2*(P:Int)) == 0)=false:=by
 rw[ag];intro e;apply h
 have:((a%(2*P):Nat):Int)=0:=by simpa using e
 omega
theorem UD{P:Nat}(h : 1<=P):¬(P:Int)=0:=by omega
def hdOk(p:Pg)(a:Nat):Bool:=
 if p.kd=4 then decide (p.od=0) else if p.kd=0\/p.kd=2 then decide (a%2 ^ p.od.toNat=0) && pgE p (aU p.kd p.od) else false
def rsOk(p q:Pg):Bool:=pgE q (aU (p.kd+1) p.od)
def r4F(I:Img):Nat->Nat->Option Nat
 | 0,_=>none
 | n+1,a=>if I.np<=a then none else if hdOk (I.pg a) a=false then some a else
  match fst1 (2 ^ (I.pg a).od.toNat-1) (fun i=>rsOk (I.pg a) (I.pg (a+1+i)))with
  | some i=>some (a+1+i)
  | none=>r4F I n (a+2 ^ (I.pg a).od.toNat)
theorem DH{I:Img}{n a:Nat}(ha:a<I.np)(h:hdOk (I.pg a) a=false):r4F I (n+1) a=some a:=by rw[r4F,ac (by omega),ae h]
theorem GC{I:Img}{n a o j:Nat}(ha:a<I.np)(c:(I.pg a).od=(o:Int))(h:hdOk (I.pg a) a=true)(e:j<2 ^ o-1)(b:∀ x,x<j->rsOk (I.pg a) (I.pg (a+1+x))=true)(d:rsOk (I.pg a) (I.pg (a+1+j))=false):r4F I (n+1) a=some (a+1+j):=by rw[r4F,ac (by omega),ac (by rw[h];decide),c,aa,gA e b d]
theorem r4F_ok{I:Img}{n a o:Nat}(ha:a<I.np)(c:(I.pg a).od=(o:Int))(h:hdOk (I.pg a) a=true)(b:∀ x,x<2 ^ o-1->rsOk (I.pg a) (I.pg (a+1+x))=true):r4F I (n+1) a=r4F I n (a+2 ^ o):=by rw[r4F,ac (by omega),ac (by rw[h];decide),c,aa,fst1_ok b]
theorem r4F_end{I:Img}{n:Nat} : r4F I (n+1) I.np=none:=by rw[r4F,ae (aj _)]
def r4(I:Img):Option Nat:=r4F I (I.np+1) 0
structure PbI(w W:World)(b g:Nat)(I:Img)(V:ImV)(p:Pg):Prop where
 im:ImAt W b I V
 pb:W.heap[g]?=some (aW p)
 k:Kt nO w W
theorem PbI.keep{w W W':World}{b g:Nat}{I:Img}{V:ImV}{p:Pg}(h:PbI w W b g I V p)(a:Kt nO W W'):PbI w W' b g I V p:=
 ⟨h.im.keep a,(a.block _ (lH h.pb) (fun x=>x)).trans h.pb,nT h.k a⟩
theorem PbI.mk'{w W:World}{b:Nat}{I:Img}{V:ImV}(h:ImAt W b I V)(k:Kt nO w W)(p:Pg):PbI w (W.alloc (aW p)) b W.heap.size I V p:=
 ⟨h.keep ((Kt.refl _ W).alloc _),nH _ _,k.alloc _⟩
theorem dJ{w:World}{g:Nat}{p:Pg}(h:w.heap[g]?=some (aW p)):w.cell? ⟨g,0,none⟩=some (.int .i64 p.kd)/\w.cell? ⟨g,1,none⟩=some (.int .i64 p.od)/\w.cell? ⟨g,2,none⟩=some (.int .i64 p.cl)/\w.cell? ⟨g,3,none⟩=some (.int .i64 p.lv)/\w.cell? ⟨g,4,none⟩=some (.int .i64 p.nx)/\w.cell? ⟨g,5,none⟩=some (.int .i64 p.pv)/\w.cell? ⟨g,6,none⟩=some (.int .i64 p.fs)/\w.cell? ⟨g,7,none⟩=some (.int .u64 p.b0)/\w.cell? ⟨g,8,none⟩=some (.int .u64 p.b1)/\w.cell? ⟨g,9,none⟩=some (.int .u64 p.b2)/\w.cell? ⟨g,10,none⟩=some (.int .u64 p.b3):=by refine⟨?_,?_,?_,?_,?_,?_,?_,?_,?_,?_,?_⟩ <;> simp[World.cell?,h]
theorem PbI.all{w W:World}{b g:Nat}{I:Img}{V:ImV}{p:Pg}(h:PbI w W b g I V p):(∀ x:KW W,x.v.cell? ⟨g,0,none⟩=some (.int .i64 p.kd))/\(∀ x:KW W,x.v.cell? ⟨g,1,none⟩=some (.int .i64 p.od))/\(∀ x:KW W,x.v.cell? ⟨g,2,none⟩=some (.int .i64 p.cl))/\(∀ x:KW W,x.v.cell? ⟨g,3,none⟩=some (.int .i64 p.lv))/\(∀ x:KW W,x.v.cell? ⟨g,4,none⟩=some (.int .i64 p.nx))/\(∀ x:KW W,x.v.cell? ⟨g,5,none⟩=some (.int .i64 p.pv))/\(∀ x:KW W,x.v.cell? ⟨g,6,none⟩=some (.int .i64 p.fs))/\(∀ x:KW W,x.v.cell? ⟨g,7,none⟩=some (.int .u64 p.b0))/\(∀ x:KW W,x.v.cell? ⟨g,8,none⟩=some (.int .u64 p.b1))/\(∀ x:KW W,x.v.cell? ⟨g,9,none⟩=some (.int .u64 p.b2))/\(∀ x:KW W,x.v.cell? ⟨g,10,none⟩=some (.int .u64 p.b3)):=
 ⟨fun x=>(dJ (h.keep x.k).pb).1,fun x=>(dJ (h.keep x.k).pb).2.1,fun x=>(dJ (h.keep x.k).pb).2.2.1,fun x=>(dJ (h.keep x.k).pb).2.2.2.1,fun x=>(dJ (h.keep x.k).pb).2.2.2.2.1,fun x=>(dJ (h.keep x.k).pb).2.2.2.2.2.1,fun x=>(dJ (h.keep x.k).pb).2.2.2.2.2.2.1,fun x=>(dJ (h.keep x.k).pb).2.2.2.2.2.2.2.1,fun x=>(dJ (h.keep x.k).pb).2.2.2.2.2.2.2.2.1,fun x=>(dJ (h.keep x.k).pb).2.2.2.2.2.2.2.2.2.1,fun x=>(dJ (h.keep x.k).pb).2.2.2.2.2.2.2.2.2.2⟩
theorem ImAt.pageK{w:World}{b:Nat}{I:Img}{V:ImV}(h:ImAt w b I V){c o g n:Nat}(e:V.p=.slice (some ⟨c,o,none⟩) n g)(i:Nat)(hi:i<I.np)(x:KW w):PgC x.v c o i (I.pg i):=by
 obtain⟨d,j,f,a,_,hc⟩:=(h.keep x.k).page i hi;rw[e] at a;injection a with e1 e2 e3
 injection e1 with e4
 injection e4 with e5 e6
 subst e5 e6;exact hc
theorem iP{w:World}{a o i:Nat}{p:Pg}(h:∀ x:KW w,PgC x.v a o i p):(∀ x:KW w,x.v.cell? ⟨a,o+i*11,none⟩=some (.int .i64 p.kd))/\(∀ x:KW w,x.v.cell? ⟨a,o+i*11+1,none⟩=some (.int .i64 p.od))/\(∀ x:KW w,x.v.cell? ⟨a,o+i*11+2,none⟩=some (.int .i64 p.cl))/\(∀ x:KW w,x.v.cell? ⟨a,o+i*11+3,none⟩=some (.int .i64 p.lv))/\(∀ x:KW w,x.v.cell? ⟨a,o+i*11+4,none⟩=some (.int .i64 p.nx))/\(∀ x:KW w,x.v.cell? ⟨a,o+i*11+5,none⟩=some (.int .i64 p.pv))/\(∀ x:KW w,x.v.cell? ⟨a,o+i*11+6,none⟩=some (.int .i64 p.fs))/\(∀ x:KW w,x.v.cell? ⟨a,o+i*11+7,none⟩=some (.int .u64 p.b0))/\(∀ x:KW w,x.v.cell? ⟨a,o+i*11+8,none⟩=some (.int .u64 p.b1))/\(∀ x:KW w,x.v.cell? ⟨a,o+i*11+9,none⟩=some (.int .u64 p.b2))/\(∀ x:KW w,x.v.cell? ⟨a,o+i*11+10,none⟩=some (.int .u64 p.b3)):=
 ⟨fun x=>(h x).c.1,fun x=>(h x).c.2.1,fun x=>(h x).c.2.2.1,fun x=>(h x).c.2.2.2.1,fun x=>(h x).c.2.2.2.2.1,fun x=>(h x).c.2.2.2.2.2.1,fun x=>(h x).c.2.2.2.2.2.2.1,fun x=>(h x).c.2.2.2.2.2.2.2.1,fun x=>(h x).c.2.2.2.2.2.2.2.2.1,fun x=>(h x).c.2.2.2.2.2.2.2.2.2.1,fun x=>(h x).c.2.2.2.2.2.2.2.2.2.2⟩
def ok6(I:Img)(k a:Nat):Bool:=!(isF (I.pg a) (I.pg a).od && decide ((I.pg a).od<(k:Int)) && decide (a%(2*2 ^ (I.pg a).od.toNat)=0)) || !isF (I.pg (a+2 ^ (I.pg a).od.toNat)) (I.pg a).od
def ok11(I:Img)(a:Nat):Bool:=!(decide ((I.pg a).kd=4) && decide ((I.pg a).lv=(celN9 (I.pg a).cl.toNat:Int))) || (decide ((I.pg a).nx = -1) && decide ((I.pg a).pv = -1))
theorem zdh(b:Nat)(I:Img)(V:ImV)(k r:Nat)(hS:Sn9 I k r)(w:World)(hI:ImAt w b I V):
  Calls prog 147 #[.pointer (some ⟨b,0,none⟩)] w fun e w'=>e=bG (fst1 I.np (ok11 I))/\Kt nO w w':=by
 obtain⟨-,⟨pa,pc,hp⟩,-,-,-,-,bp,-,-⟩:=hI.d.sl;obtain⟨c0,c1,c2,c3,c4,c5,c6,c7,c8⟩:=hI.cells;rw[hp] at c5;obtain⟨EE,N⟩:=xe (bG (fst1 I.np (ok11 I)));rw[<-N];have HE:=aA N;have HI:=aA hI;have HS:=aA hS;have SP:=aA hp;have a2:=hS.np1;obtain⟨n,hn⟩:=xe (I.np);rw[<-hn] at a2 c5;have HN:=aA hn;clear N hI hp hS hn bp;go_enter func147,ntmps147;go_wp2_with fail;go_loopw [9] (fun i W=>∃ a:Nat,a<=n/\i=.int .i64 a/\Hd (Kt nO w W/\∀ x,x<a->ok11 I x=true)) (fun i _=>n-(intOf i).toNat)
 case atStart=>exact⟨0,az _,rfl,aA ⟨Kt.refl _ _,fun x hx=>by omega⟩⟩
 case round=>
  clear c0 c1 c2 c3 c4 c5 c6 c7 c8;obtain⟨a,ha,rfl,hR⟩:=hrel;have A0:=aA (HI.o.keep hR.o.1);by_cases a4:a<n
  ·have a1:(a:Int)<n:=(by omega);have t:a<I.np:=(by rw[<-HN.o];exact a4);obtain⟨bl,o,a6,a0,a3,T⟩:=A0.o.page a t;rw[SP.o] at a0;injection a0 with e1 e2 e3
   subst e1;obtain⟨kd,od,cc,ll,y1,y2,y3,y4,y5,y6,y7,y8,-⟩:=HS.o.pg a t;have FB:=aA (show ok11 I a=false->cG (a:Int)=EE from fun h=>by rw[HE.o,gA t hR.o.2 h];rfl);have GA:=aA (show ok11 I a=true->∀ x,x<a+1->ok11 I x=true from fun h x hx=>by
    by_cases e:x=a
    ·rw[e];exact h
    ·exact hR.o.2 x (by omega))
   have P:=aA (show ok11 I a=(!(decide ((I.pg a).kd=4) && decide ((I.pg a).lv=(celN9 (I.pg a).cl.toNat:Int))) || (decide ((I.pg a).nx = -1) && decide ((I.pg a).pv = -1)))from rfl);have PB:=aA (PbI.mk' (w:=w) A0.o hR.o.1 (I.pg a));obtain⟨d0,S,d2,Y,Z,Q,d6,U,X,d9,m⟩:=T.c;have A:=aA (fun W=>IG (I.pg a) cc y5 y6 W);rw[y5,aa] at P;generalize ok11 I a=a5 at *;generalize I.pg a=p at *;obtain⟨L,u,y,j,D,l,v,q,z,C,B⟩:=p;dsimp only at d0 S d2 Y Z Q d6 U X d9 m P y1 A;generalize decide (j=(celN9 cc:Int))=fu at *;clear a3 T e2 e3 y1 y2 y3 y4 y5 y6 y7 y8;by_cases K:L=4
   ·subst K
    cases fu with
    | false=>
     have F:=aA (GA.o (by rw[P.o];simp));go_wp2_with fail;generalize wr.alloc (aW ⟨4,u,y,j,D,l,v,q,z,C,B⟩)=W1 at *;generalize wr.heap.size=g at *;refine(A.o _).mono ?_;rintro e w1 ⟨rfl,s⟩;have K1:=aA (nT PB.o.k s);clear s d0 S d2 Y Z Q d6 U X d9 m;go_wp2_with fail;have R3:=aA (show Kt nO w w1/\_ from⟨K1.o,F.o⟩);go_round
     case rel=>exact⟨a+1,by omega,by go_num,R3⟩
     case measure=>simp[intOf];omega
    | true=>
     by_cases G:D = -1
     ·subst G;by_cases J:l = -1
      ·subst J;have F:=aA (GA.o (by rw[P.o];simp));go_wp2_with fail;generalize wr.alloc (aW ⟨4,u,y,j,-1,-1,v,q,z,C,B⟩)=W1 at *;generalize wr.heap.size=g at *;refine(A.o _).mono ?_;rintro e w1 ⟨rfl,s⟩;have f:=aA (PB.o.keep s);obtain⟨q0,q1,q2,q3,q4,q5,q6,q7,q8,q9,R⟩:=dJ f.o.pb;clear s d0 S d2 Y Z Q d6 U X d9 m;go_wp2_with fail;refine(dD _ _).mono ?_;rintro e w2 ⟨rfl,rfl⟩;have R3:=aA (show Kt nO w w2/\_ from⟨f.o.k,F.o⟩);go_wp2_with fail;go_round
       case rel=>exact⟨a+1,by omega,by go_num,R3⟩
       case measure=>simp[intOf];omega
      ·have F:=aA (FB.o (by rw[P.o];simp[J]));have f2:(l == -1)=false:=(by rw[ag];exact J);clear J;go_wp2_with fail;generalize wr.alloc (aW ⟨4,u,y,j,-1,l,v,q,z,C,B⟩)=W1 at *;generalize wr.heap.size=g at *;refine(A.o _).mono ?_;rintro e w1 ⟨rfl,s⟩;have f:=aA (PB.o.keep s);obtain⟨q0,q1,q2,q3,q4,q5,q6,q7,q8,q9,R⟩:=dJ f.o.pb;clear s d0 S d2 Y Z Q d6 U X d9 m;go_wp2_with fail;refine(dY _ _).mono ?_;rintro e w2 ⟨rfl,rfl⟩;exact⟨rfl,F.o,f.o.k⟩
     ·have F:=aA (FB.o (by rw[P.o];simp[G]));have f2:(D == -1)=false:=(by rw[ag];exact G);clear G;go_wp2_with fail;generalize wr.alloc (aW ⟨4,u,y,j,D,l,v,q,z,C,B⟩)=W1 at *;generalize wr.heap.size=g at *;refine(A.o _).mono ?_;rintro e w1 ⟨rfl,s⟩;have f:=aA (PB.o.keep s);obtain⟨q0,q1,q2,q3,q4,q5,q6,q7,q8,q9,R⟩:=dJ f.o.pb;clear s d0 S d2 Y Z Q d6 U X d9 m;go_wp2_with fail;refine(dY _ _).mono ?_;rintro e w2 ⟨rfl,rfl⟩;exact⟨rfl,F.o,f.o.k⟩
   ·have F:=aA (show Kt nO w (wr.alloc (aW ⟨L,u,y,j,D,l,v,q,z,C,B⟩))/\_ from⟨hR.o.1.alloc _,GA.o (by rw[P.o];simp[K])⟩);have f2:(L == 4)=false:=(by rw[ag];exact K);clear K;go_wp2_with fail;go_round
    case rel=>exact⟨a+1,by omega,by go_num,F⟩
    case measure=>simp[intOf];omega
  ·obtain rfl:a=n:=(by omega);have a1:¬(a:Int)<a:=(by omega);have E:=aA (show Ending.returned (.tuple #[])=EE by rw[HE.o,fst1_ok (fun x hx=>hR.o.2 x (by rw[HN.o];exact hx))];rfl);go_wp2_with fail;first|go_end0|go_ret
   exact⟨E.o,hR.o.1⟩
end Go.Proofs.YtfmgnljlkdmndaaGreatDoor.W
