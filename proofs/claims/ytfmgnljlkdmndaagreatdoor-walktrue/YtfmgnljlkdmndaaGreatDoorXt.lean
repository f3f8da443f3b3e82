import Derived.Test.YtfmgnljlkdmndaaGreatDoorXr
import Derived.Test.YtfmgnljlkdmndaaGreatDoorZf
set_option maxRecDepth 1000000
set_option maxHeartbeats 80000000
namespace Go.Proofs.YtfmgnljlkdmndaaGreatDoor.W
open Tryz
open Go.RowKit
set_option linter.unusedVariables false
theorem SlIn.at{w:World}{a:Option Addr}{n c m:Nat}{C:Nat->Nat->Nat->Prop}(h:SlIn w (.slice a n c) m C)(i:Nat)(hi:i<m):∃ b o,a=some ⟨b,o,none⟩/\b<w.heap.size/\∀ i,i<m->C b o i:=by
 obtain⟨_,g,j,f,d⟩:=h;injection f with e1
 rcases d with d|⟨b,o,e,hl,hc⟩
 ·omega
 ·exact⟨b,o,by rw[e1,e],hl,hc⟩
theorem wQ(b:Nat)(I:Img)(V:ImV)(q:Nat)(w:World)(j:ImAt w b I V)(hq:q+8<=I.nm)(hb:I.bS+I.nm<=9223372036854775808):
  Calls prog 197 #[.pointer (some ⟨b,0,none⟩),.int .u64 ((I.bS+q:Nat):Int)] w fun e C=>e=.returned (.int .u64 ((M.word I.mem q:Nat):Int))/\∃ m,C=w.drewN m:=by
 obtain⟨⟨G,A,l⟩,-⟩:=j.d.sl;have f:=j.d.mem;have p:=j.d.mcp _ _ _ l;rw[l] at f;obtain⟨D,o,rfl,-,hc⟩:=f.at q (by omega);obtain⟨c0,c1,c2,c3,c4,c5,L,c7,N⟩:=j.cells;rw[l] at c4;have n:=aA (fun i (hi:i<8)=>hc (q+i) (by omega));obtain⟨B,u⟩:=xe (I.bS);obtain⟨nm,h⟩:=xe (I.nm);rw[<-u] at c0 hb ⊢;rw[<-h] at c4 hb hq p;obtain⟨ad,g⟩:=xe (B+q);rw[<-g];have x:(ad:Int)-(B:Int)=q:=by omega
 have s:ad<9223372036854775808:=by omega
 have z:q<9223372036854775808:=by omega
 obtain⟨F,t⟩:=xe (I.mem);rw[<-t] at n ⊢;obtain⟨K,a⟩:=xe (M.word F q);rw[<-a];have r:=aA a;clear u h g j l f hc t a;go_enter func197,ntmps197;go_wp2_with fail;go_quiet (fail)
 go_wp2_with fail;have y:(w.drewN nq).cell? ⟨b,4,none⟩=some (.slice (some ⟨D,o,none⟩) nm A):=c4;go_loop [5,25] (fun v i=>∃ k:Nat,k<=8/\i=.int .i64 k/\v=.int .u64 ((M.wordTo (fun i=>F (q+i)) k:Nat):Int)) (fun _ i=>8-(intOf i).toNat)
 case atStart=>exact⟨0,by omega,rfl,rfl⟩
 case round=>
  obtain⟨k,J,rfl,rfl⟩:=hrel;by_cases c:k<8
  ·have hc:=(n.o k c).2;rw[<-Nat.add_assoc] at hc;have E:=aA (M.word_step (M.wordTo (fun i=>F (q+i)) k) k (F (q+k)) c (n.o k c).1 (M.wordTo_lt _ _ (fun i hi=>(n.o i (by omega)).1)));go_wp2
   refine⟨⟨k+1,by omega,by simp,?_⟩,by simp[intOf];omega⟩;rw[E.o];rfl
  ·obtain rfl:k=8:=(by omega);go_wp2
   go_ret;exact⟨by rw[r.o];rfl,_,rfl⟩
def decP(I:Img)(p:Nat):Option Nat:=if I.bS<=p/\p-I.bS<I.nm/\(p-I.bS)%4096=0 then some ((p-I.bS)/4096) else none
def iA(x:Option Nat):Int:=match x with|some i=>(i:Int)|none => -1
theorem zhI(b:Nat)(I:Img)(V:ImV)(p:Nat)(hp:p<18446744073709551616)(w:World)(h:ImAt w b I V)(hb:I.bS+I.nm<=9223372036854775808):
  Calls prog 196 #[.pointer (some ⟨b,0,none⟩),.int .u64 p] w fun e n=>e=.returned (.int .i64 (iA (decP I p)))/\n=w:=by
 obtain⟨⟨r,t,l⟩,-⟩:=h.d.sl;obtain⟨c0,c1,c2,c3,c4,c5,v,c7,z⟩:=h.cells;rw[l] at c4;obtain⟨B,i⟩:=xe (I.bS);obtain⟨nm,c⟩:=xe (I.nm);have hd:decP I p=if B<=p/\p-B<nm/\(p-B)%4096=0 then some ((p-B)/4096) else none:=by rw[i,c];rfl
 rw[hd];rw[<-i] at c0 hb;rw[<-c] at c4 hb;clear i c h l hd;by_cases s:p<B
 ·rw[ac (by omega)];obtain⟨x,hx⟩:=xe (18446744073709551616-(B-p));have hw:IntKind.u64.wrap ((p:Int)-(B:Int))=(x:Int):=by rw[wrap_u64];omega
  have k:¬(x:Int)<nm:=by omega
  have g:(nm:Int)<=x:=by omega
  have u:nm<=x:=by omega
  clear hx;go_enter func196,ntmps196;go_wp2
  go_ret;exact⟨rfl,rfl⟩
 ·obtain⟨x,rfl⟩:∃ x,p=B+x:=⟨p-B,by omega⟩;rw[Nat.add_sub_cancel_left];have hw:((B+x:Nat):Int)-(B:Int)=x:=by omega
  have a:B<=B+x:=by omega
  by_cases k:x<nm
  ·by_cases g:x%4096=0
   ·rw[ae ⟨a,k,g⟩];have j:¬(nm:Int)<=x:=(by omega);have f:¬nm<=x:=(by omega);have o:((x:Int)%4096 != 0)=false:=(by rw[ay];omega);have q:(x:Int)/4096=((x/4096:Nat):Int):=(by omega);have m:x/4096<9223372036854775808:=(by omega);obtain⟨y,hy⟩:=xe (x/4096);rw[<-hy] at q m ⊢;generalize B+x=p at *;clear g hy a;go_enter func196,ntmps196;go_wp2
    go_ret;exact⟨rfl,rfl⟩
   ·rw[ac (by omega)];have j:¬(nm:Int)<=x:=(by omega);have f:¬nm<=x:=(by omega);have o:((x:Int)%4096 != 0)=true:=(by rw[cu];omega);generalize B+x=p at *;clear g a;go_enter func196,ntmps196;go_wp2
    go_ret;exact⟨rfl,rfl⟩
  ·rw[ac (by omega)];have j:(nm:Int)<=x:=(by omega);have f:nm<=x:=(by omega);generalize B+x=p at *;clear a;go_enter func196,ntmps196;go_wp2
   go_ret;exact⟨rfl,rfl⟩
theorem tL{n:Nat}{ws:List Nat}(hl:ws.length=(n+63)/64)(i:Nat)(hi:i<n)(v:Bool)(j:Nat):aE (cJ n ws (i:Int) v) j=if j=i then v else aE ws j:=by
 have b:aD n (i:Int)=true:=by unfold aD;exact af (by omega)
 have hs:cT n ws (i:Int)=aE ws i:=by unfold cT;rw[b,aa,bf]
 unfold cJ;rw[hs];by_cases e:aE ws i=v
 ·rw[ae e];by_cases a:j=i
  ·rw[ae a,a,e]
  ·rw[ac a]
 ·rw[ac e];unfold gI;rw[ae b,aa,qT ws i j (by omega)];by_cases a:j=i
  ·rw[ae a,ae a]
   cases h:aE ws i <;> cases v <;> simp_all
  ·rw[ac a,ac a]
theorem vO(a sc n:Nat)(ws:List Nat)(i p:Int)(w:World)(h:SetAt w a sc n ws)(hb:cT n ws i=false):
  Calls prog 195 #[.pointer (some ⟨a,0,none⟩),.int .i64 i,.int .i64 p] w fun e c=>e=cG p/\c=w:=by
 have b:=aA (nL a sc n ws i w h);rw[hb] at b;clear h hb;go_enter func195,ntmps195;go_wp2_with fail;refine b.o.mono ?_;rintro e d ⟨rfl,rfl⟩;go_wp2_with fail;refine(dY _ _).mono ?_;rintro e f ⟨rfl,rfl⟩;exact⟨rfl,rfl,rfl⟩
theorem wO(a sc n:Nat)(ws:List Nat)(i p:Int)(w:World)(h:SetAt w a sc n ws)(hb:cT n ws i=true):
  Calls prog 195 #[.pointer (some ⟨a,0,none⟩),.int .i64 i,.int .i64 p] w fun e b=>e=.returned (.tuple #[])/\SetAt b a sc n (cJ n ws i false)/\Kt (fun x=>x=sc) w b/\b.heap.size=w.heap.size:=by
 have g:=aA (nL a sc n ws i w h);rw[hb] at g;have m:=aA (vK a sc n ws i false w h);clear h hb;go_enter func195,ntmps195;go_wp2_with fail;refine g.o.mono ?_;rintro e o ⟨rfl,rfl⟩;go_wp2_with fail;refine(dD _ _).mono ?_;rintro e k ⟨rfl,rfl⟩;go_wp2_with fail;refine m.o.mono ?_;rintro e c ⟨rfl,f,j,d⟩;have l:=aA (show SetAt c a sc n (cJ n ws i false)/\Kt (fun x=>x=sc) k c/\c.heap.size=k.heap.size from⟨f,j,d⟩);clear f j d;go_wp2_with fail;first|go_end0|go_ret
 exact⟨rfl,l.o⟩
def nA(w:World)(n:Nat)(B:Nat->Bool)(e:Ending)(w':World):Prop:=∃ sb sc ws,e=.returned (.pointer (some ⟨sb,0,none⟩))/\SetAt w' sb sc n ws/\w.heap.size<=sb/\w.heap.size<=sc/\(∀ i,i<n->aE ws i=B i)/\Kt nO w w'
theorem zfI(a:Array Value)(w:World):Sem.run prog (callFunc 194 a) w=.ok (.enter 194 a) w:=by simp[callFunc,go_sem,func194];rfl
theorem TM(b cb:Nat)(I:Img)(V:ImV)(S:Pg->Bool)(w:World)(K:ImAt w b I V)(T:I.np<=1024)
  (HS:∀ i W,i<I.np->Kt nO w W->Calls prog 194 #[gX (I.pg i),.pointer (some ⟨cb,0,none⟩)] W fun e w'=>e=.returned (.bool (S (I.pg i)))/\Kt nO W w'):
  Calls prog 193 #[.pointer (some ⟨b,0,none⟩),.func (.func 194) #[] #[.pointer (some ⟨cb,0,none⟩)]] w (nA w I.np fun i=>S (I.pg i)):=by
 obtain⟨-,⟨pa,pc,hp⟩,-,-,-,-,bp,-,-⟩:=K.d.sl;obtain⟨c0,c1,c2,c3,c4,c5,c6,c7,c8⟩:=K.cells;rw[hp] at c5;have HI:=aA K;have SP:=aA hp;have X:=aA HS;obtain⟨n,y⟩:=xe (I.np);rw[<-y] at T c5;have HN:=aA y;have a7:=zfI;clear K hp HS bp;have G:=aA (show ∀ W' ws,SetAt W' (w.heap.size+1) w.heap.size n ws->(∀ i,i<n->aE ws i=S (I.pg i))->Kt nO w W'->nA w I.np (fun i=>S (I.pg i)) (.returned (.pointer (some ⟨w.heap.size+1,0,none⟩))) W' from fun W' ws t r E=>⟨_,_,ws,rfl,by rw[<-y];exact t,Nat.le_succ _,aj _,by rw[<-y];exact r,E⟩);clear y;go_enter func193,ntmps193;go_wp2_with fail;refine(uA (n:Int) (by omega) (by omega) w).mono ?_;rintro e w1 ⟨rfl,f,s,a3⟩;have h:dX (n:Int)=n:=by unfold dX;split <;> (try split) <;> omega
 rw[h] at f;have ST:=aA (f.set (fun i hi=>by rw[oZ];exact ax _));have U:=aA (show Kt nO w w1 from s);have a5:=aA (show w.heap.size<w1.heap.size by omega);have GE:=aA (show w.heap.size<=w.heap.size from aj _);generalize a2:w.heap.size+1=Q at *;generalize A:w.heap.size=sc at *;have z:=aA A;have Y:w1.cell? ⟨b,5,none⟩=some (.slice pa n pc):=U.o.cell (fun x=>x) c5;clear f s a3 h a2 A c0 c1 c2 c3 c4 c5 c6 c7 c8;go_wp2_with fail;clear Y;go_loopw [19] (fun i W=>∃ a:Nat,a<=n/\i=.int .i64 a/\Hd (Kt nO w W/\∃ ws,SetAt W Q sc n ws/\(∀ j,j<a->aE ws j=S (I.pg j)))) (fun i _=>n-(intOf i).toNat)
 case atStart=>exact⟨0,az _,rfl,aA ⟨U.o,_,ST.o,fun x hx=>by omega⟩⟩
 case round=>
  clear U ST a5;obtain⟨a,ha,rfl,hR⟩:=hrel;have A0:=aA (HI.o.keep hR.o.1);by_cases J:a<n
  ·have R:(a:Int)<n:=(by omega);have l:a<I.np:=(by rw[<-HN.o];exact J);obtain⟨bl,o,a8,F,Z,C⟩:=A0.o.page a l;rw[SP.o] at F;injection F with e1 e2 e3
   subst e1;obtain⟨v,ws,q,D⟩:=hR.o;have PB:=aA (PbI.mk' (w:=w) A0.o v (I.pg a));have a6:=aA (q.kept (show Kt nO wr (wr.alloc (aW (I.pg a)))from(Kt.refl _ _).alloc _) (fun x=>x) (fun x=>x));have BT:=aA D;have a0:=aA q.len;have u:=aA (fun W hW=>X.o a W l hW);obtain⟨sv,m⟩:=xe (S (I.pg a));rw[<-m] at u;have L:=aA m;obtain⟨d0,d1,d2,d3,d4,Y,d6,d7,d8,d9,P⟩:=C.c;clear Z C e2 e3 v q D m;go_wp2_with fail;generalize B:I.pg a=p at *;have N:=aA B;clear B;generalize wr.alloc (aW p)=W1 at *;generalize wr.heap.size=g at *;refine(u.o W1 PB.o.k).mono ?_;rintro e w2 ⟨rfl,s⟩;have a4:=aA (PB.o.keep s);have a1:=aA (a6.o.kept s (fun x=>x) (fun x=>x));clear s d0 d1 d2 d3 d4 Y d6 d7 d8 d9 P;go_wp2_with fail;refine(vK Q sc n ws (a:Int) sv w2 a1.o).mono ?_;rintro e w3 ⟨rfl,t,r,E⟩;have R2:=aA (show Kt nO w w3/\∃ ws,SetAt w3 Q sc n ws/\(∀ j,j<a+1->aE ws j=S (I.pg j))from⟨a4.o.k.trans r (fun _ _ x=>x) (fun x hx e=>by have:=z.o;omega),_,t,fun j hj=>by
    rw[tL a0.o a J sv j];by_cases e:j=a
    ·rw[ae e,e,L.o,N.o]
    ·rw[ac e];exact BT.o j (by omega)⟩)
   clear t r E;go_wp2_with fail;go_round
   case rel=>exact⟨a+1,by omega,by go_num,R2⟩
   case measure=>simp[intOf];omega
  ·obtain rfl:a=n:=(by omega);have R:¬(a:Int)<a:=(by omega);go_wp2_with fail;go_ret;obtain⟨t,ws,r,E⟩:=hR.o;exact G.o wr ws r E t
theorem zfJ(a:Array Value)(w:World):Sem.run prog (callFunc 199 a) w=.ok (.enter 199 a) w:=by simp[callFunc,go_sem,func199];rfl
theorem TJ(b cb:Nat)(I:Img)(V:ImV)(S:Pg->Bool)(w:World)(K:ImAt w b I V)(T:I.np<=1024)
  (HS:∀ i W,i<I.np->Kt nO w W->Calls prog 199 #[gX (I.pg i),.pointer (some ⟨cb,0,none⟩)] W fun e w'=>e=.returned (.bool (S (I.pg i)))/\Kt nO W w'):
  Calls prog 193 #[.pointer (some ⟨b,0,none⟩),.func (.func 199) #[] #[.pointer (some ⟨cb,0,none⟩)]] w (nA w I.np fun i=>S (I.pg i)):=by
 obtain⟨-,⟨pa,pc,hp⟩,-,-,-,-,bp,-,-⟩:=K.d.sl;obtain⟨c0,c1,c2,c3,c4,c5,c6,c7,c8⟩:=K.cells;rw[hp] at c5;have HI:=aA K;have SP:=aA hp;have X:=aA HS;obtain⟨n,y⟩:=xe (I.np);rw[<-y] at T c5;have HN:=aA y;have a7:=zfJ;clear K hp HS bp;have G:=aA (show ∀ W' ws,SetAt W' (w.heap.size+1) w.heap.size n ws->(∀ i,i<n->aE ws i=S (I.pg i))->Kt nO w W'->nA w I.np (fun i=>S (I.pg i)) (.returned (.pointer (some ⟨w.heap.size+1,0,none⟩))) W' from fun W' ws t r E=>⟨_,_,ws,rfl,by rw[<-y];exact t,Nat.le_succ _,aj _,by rw[<-y];exact r,E⟩);clear y;go_enter func193,ntmps193;go_wp2_with fail;refine(uA (n:Int) (by omega) (by omega) w).mono ?_;rintro e w1 ⟨rfl,f,s,a3⟩;have h:dX (n:Int)=n:=by unfold dX;split <;> (try split) <;> omega
 rw[h] at f;have ST:=aA (f.set (fun i hi=>by rw[oZ];exact ax _));have U:=aA (show Kt nO w w1 from s);have a5:=aA (show w.heap.size<w1.heap.size by omega);have GE:=aA (show w.heap.size<=w.heap.size from aj _);generalize a2:w.heap.size+1=Q at *;generalize A:w.heap.size=sc at *;have z:=aA A;have Y:w1.cell? ⟨b,5,none⟩=some (.slice pa n pc):=U.o.cell (fun x=>x) c5;clear f s a3 h a2 A c0 c1 c2 c3 c4 c5 c6 c7 c8;go_wp2_with fail;clear Y;go_loopw [19] (fun i W=>∃ a:Nat,a<=n/\i=.int .i64 a/\Hd (Kt nO w W/\∃ ws,SetAt W Q sc n ws/\(∀ j,j<a->aE ws j=S (I.pg j)))) (fun i _=>n-(intOf i).toNat)
 case atStart=>exact⟨0,az _,rfl,aA ⟨U.o,_,ST.o,fun x hx=>by omega⟩⟩
 case round=>
  clear U ST a5;obtain⟨a,ha,rfl,hR⟩:=hrel;have A0:=aA (HI.o.keep hR.o.1);by_cases J:a<n
  ·have R:(a:Int)<n:=(by omega);have l:a<I.np:=(by rw[<-HN.o];exact J);obtain⟨bl,o,a8,F,Z,C⟩:=A0.o.page a l;rw[SP.o] at F;injection F with e1 e2 e3
   subst e1;obtain⟨v,ws,q,D⟩:=hR.o;have PB:=aA (PbI.mk' (w:=w) A0.o v (I.pg a));have a6:=aA (q.kept (show Kt nO wr (wr.alloc (aW (I.pg a)))from(Kt.refl _ _).alloc _) (fun x=>x) (fun x=>x));have BT:=aA D;have a0:=aA q.len;have u:=aA (fun W hW=>X.o a W l hW);obtain⟨sv,m⟩:=xe (S (I.pg a));rw[<-m] at u;have L:=aA m;obtain⟨d0,d1,d2,d3,d4,Y,d6,d7,d8,d9,P⟩:=C.c;clear Z C e2 e3 v q D m;go_wp2_with fail;generalize B:I.pg a=p at *;have N:=aA B;clear B;generalize wr.alloc (aW p)=W1 at *;generalize wr.heap.size=g at *;refine(u.o W1 PB.o.k).mono ?_;rintro e w2 ⟨rfl,s⟩;have a4:=aA (PB.o.keep s);have a1:=aA (a6.o.kept s (fun x=>x) (fun x=>x));clear s d0 d1 d2 d3 d4 Y d6 d7 d8 d9 P;go_wp2_with fail;refine(vK Q sc n ws (a:Int) sv w2 a1.o).mono ?_;rintro e w3 ⟨rfl,t,r,E⟩;have R2:=aA (show Kt nO w w3/\∃ ws,SetAt w3 Q sc n ws/\(∀ j,j<a+1->aE ws j=S (I.pg j))from⟨a4.o.k.trans r (fun _ _ x=>x) (fun x hx e=>by have:=z.o;omega),_,t,fun j hj=>by
    rw[tL a0.o a J sv j];by_cases e:j=a
    ·rw[ae e,e,L.o,N.o]
    ·rw[ac e];exact BT.o j (by omega)⟩)
   clear t r E;go_wp2_with fail;go_round
   case rel=>exact⟨a+1,by omega,by go_num,R2⟩
   case measure=>simp[intOf];omega
  ·obtain rfl:a=n:=(by omega);have R:¬(a:Int)<a:=(by omega);go_wp2_with fail;go_ret;obtain⟨t,ws,r,E⟩:=hR.o;exact G.o wr ws r E t
end Go.Proofs.YtfmgnljlkdmndaaGreatDoor.W
