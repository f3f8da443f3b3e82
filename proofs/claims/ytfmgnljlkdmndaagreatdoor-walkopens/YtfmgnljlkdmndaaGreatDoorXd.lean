import Derived.Test.YtfmgnljlkdmndaaGreatDoorXc
import Derived.Test.YtfmgnljlkdmndaaGreatDoorXs
set_option maxRecDepth 1000000
set_option maxHeartbeats 0
namespace Go.Proofs.YtfmgnljlkdmndaaGreatDoor
open Tryz RowKit
set_option linter.unusedVariables false
def aI(f:Nat->Bool):Nat->Nat
 | 0=>0
 | k+1=>aI f k+(if f k=true then 1 else 0)
theorem sY(f:Nat->Bool)(k:Nat):aI f k<=k:=by
 induction k with
 | zero=>simp[aI]
 | succ k a=>simp only[aI];split <;> omega
theorem mA(f:Nat->Bool)(k:Nat)(h:f k=true):aI f (k+1)=aI f k+1:=by simp[aI,h]
theorem lL(f:Nat->Bool)(k:Nat)(h:f k=false):aI f (k+1)=aI f k:=by simp[aI,h]
theorem oX(ws:List Nat)(j:Nat):aE ws j=(ws.getD (j/64) 0).testBit (j%64):=by unfold aE;rw[dn];rfl
theorem qU(ws:List Nat)(k j:Nat)(b:k/64<ws.length):aE (kJ ws k) j=(if j=k then !aE ws k else aE ws j):=by
 rw[oX,oX,oX];unfold kJ;by_cases e:j/64=k/64
 ·rw[e,uJ _ _ _ b,Nat.testBit_xor,Nat.testBit_two_pow];by_cases a:j=k
  ·subst a;simp
  ·have:¬k%64=j%64:=by omega
   simp[a,this]
 ·rw[getD_set_ne _ _ _ _ e];have:¬j=k:=by intro h;subst h;exact e rfl
  simp[this]
theorem wR(zs:List Nat)(N j:Nat)(hz:∀ i,zs.getD i 0<2 ^ 64)(a:j<N):aE (cZ zs N) j=aE zs j:=by
 rw[oX,oX,wB zs N (j/64) hz (by omega),Nat.testBit_mod_two_pow];have:j%64<min 64 (N-64*(j/64)):=by omega
 simp[this]
theorem uF(f g:Nat->Bool)(n:Nat)(h:∀ j,j<n->f j=g j):aI f n=aI g n:=by
 induction n with
 | zero=>rfl
 | succ n a=>simp only[aI];rw[a (fun j b=>h j (by omega)),h n (by omega)]
theorem zhY(f:Nat->Bool)(k:Nat):aI f (k+1)=(if f 0=true then 1 else 0)+aI (fun j=>f (j+1)) k:=by
 induction k with
 | zero=>simp[aI]
 | succ k a=>rw[aI,a];simp only[aI];omega
theorem zkU(f:Nat->Bool)(a k:Nat):aI f (a+k)=aI f a+aI (fun j=>f (a+j)) k:=by
 induction k with
 | zero=>simp[aI]
 | succ k b=>rw[<-Nat.add_assoc,aI,b];simp only[aI];omega
theorem ziZ(k x:Nat):dA k x=aI (fun p=>x/2 ^ p%2 == 1) k:=by
 induction k generalizing x with
 | zero=>rfl
 | succ k a=>
  rw[zhY,dA,a (x/2)];congr 1
  ·by_cases h:x%2=1
   ·simp[h]
   ·have:x%2=0:=by omega
    simp[this]
  ·apply uF
   intro j b;rw[Nat.div_div_eq_div_mul,co,aq]
theorem uE(ws:List Nat)(hz:∀ i,ws.getD i 0<2 ^ 64)(m:Nat):mK ws m=aI (aE ws) (64*m):=by
 induction m with
 | zero=>rfl
 | succ m a=>
  rw[yB,a,Nat.mul_add,Nat.mul_one,zkU];congr 1
  rw[vE 64 _ (hz m),ziZ];apply uF
  intro p hp;exact(xC ws m p hp).symm
theorem zi0(f g:Nat->Bool)(j M:Nat)(h:∀ i,i≠j->f i=g i)(hf:f j=true)(hg:g j=false)(b:j<M):aI g M+1=aI f M:=by
 induction M with
 | zero=>omega
 | succ M a=>
  by_cases e:j=M;·subst e;rw[mA f j hf,lL g j hg,uF f g j (fun i hi=>h i (by omega))]
  ·have:=a (by omega);simp only[aI,h M (fun x=>e x.symm)];omega
theorem zi1(f:Nat->Bool)(M:Nat)(h:∀ j,j<M->f j=false):aI f M=0:=by
 induction M with
 | zero=>rfl
 | succ M a=>rw[lL f M (h M (by omega)),a (fun j b=>h j (by omega))]
theorem zi2(ws:List Nat)(j:Nat)(hz:∀ i,ws.getD i 0<2 ^ 64)(a:∀ i,(kJ ws j).getD i 0<2 ^ 64)(b:j/64<ws.length)(hb:aE ws j=true):aY (kJ ws j)+1=aY ws:=by
 unfold aY;rw[uE _ a,uE _ hz,JY];refine zi0 (aE ws) (aE (kJ ws j)) j _ ?_ hb ?_ (by omega);·intro i hi;rw[qU ws j i b,ac hi]
 ·rw[qU ws j j b,ae rfl,hb];rfl
namespace W
theorem SlIn.at{w:Wd}{a:Option Addr}{n c m:Nat}{C:Nat->Nat->Nat->Prop}(h:SlIn w (.slice a n c) m C)(i:Nat)(hi:i<m):∃ b o,a=some ⟨b,o,none⟩/\b<w.heap.size/\∀ i,i<m->C b o i:=by
 obtain⟨_,g,j,f,d⟩:=h;injection f with e1
 rcases d with d|⟨b,o,e,hl,hc⟩
 ·omega
 ·exact⟨b,o,by rw[e1,e],hl,hc⟩
theorem wY(b:Nat)(I:Img)(V:ImV)(q:Nat)(w:Wd)(h:ImAt w b I V)(hq:q+8<=I.nm)(hb:I.bS+I.nm<=9223372036854775808):Calls prog 197 #[.pointer (some ⟨b,0,none⟩),.int .u64 ((I.bS+q:Nat):Int)] w fun e C=>e=.returned (.int .u64 ((M.word I.mem q:Nat):Int))/\∃ m,C=w.drewN m:=by
 obtain⟨⟨K,D,l⟩,-⟩:=h.d.sl;have a:=h.d.mem;have p:=h.d.ny _ _ _ l;rw[l] at a;obtain⟨z,o,rfl,-,hc⟩:=a.at q (by omega);obtain⟨c0,c1,c2,c3,c4,c5,G,c7,J⟩:=h.cells;rw[l] at c4;have n:=aA (fun i (hi:i<8)=>hc (q+i) (by omega));obtain⟨B,t⟩:=xe (I.bS);obtain⟨nm,j⟩:=xe (I.nm);rw[<-t] at c0 hb ⊢;rw[<-j] at c4 hb hq p;obtain⟨ad,g⟩:=xe (B+q);rw[<-g];have x:(ad:Int)-(B:Int)=q:=by omega
 have u:ad<9223372036854775808:=by omega
 have A:q<9223372036854775808:=by omega
 obtain⟨F,s⟩:=xe (I.mem);rw[<-s] at n ⊢;obtain⟨RR,c⟩:=xe (M.word F q);rw[<-c];have r:=aA c;clear t j g h l a hc s c;go_enter func197,ntmps197;go_wp2_with fail;go_quiet (fail)
 go_wp2_with fail;have y:(w.drewN nq).cell? ⟨b,4,none⟩=some (.slice (some ⟨z,o,none⟩) nm D):=c4;go_loop [5,25] (fun v i=>∃ k:Nat,k<=8/\i=.int .i64 k/\v=.int .u64 ((M.wordTo (fun i=>F (q+i)) k:Nat):Int)) (fun _ i=>8-(intOf i).toNat)
 case atStart=>exact⟨0,by omega,rfl,rfl⟩
 case round=>
  obtain⟨k,L,rfl,rfl⟩:=hrel;by_cases f:k<8
  ·have hc:=(n.o k f).2;rw[<-Nat.add_assoc] at hc;have E:=aA (M.word_step (M.wordTo (fun i=>F (q+i)) k) k (F (q+k)) f (n.o k f).1 (M.wordTo_lt _ _ (fun i hi=>(n.o i (by omega)).1)));go_wp2
   refine⟨⟨k+1,by omega,by simp,?_⟩,by simp[intOf];omega⟩;rw[E.o];rfl
  ·obtain rfl:k=8:=(by omega);go_wp2
   go_ret;exact⟨by rw[r.o];rfl,_,rfl⟩
def decP(I:Img)(p:Nat):Option Nat:=if I.bS<=p/\p-I.bS<I.nm/\(p-I.bS)%4096=0 then some ((p-I.bS)/4096) else none
def gY(x:Option Nat):Int:=match x with|some i=>(i:Int)|none => -1
theorem zhO(b:Nat)(I:Img)(V:ImV)(p:Nat)(hp:p<18446744073709551616)(w:Wd)(h:ImAt w b I V)(hb:I.bS+I.nm<=9223372036854775808):Calls prog 196 #[.pointer (some ⟨b,0,none⟩),.int .u64 p] w fun e n=>e=.returned (.int .i64 (gY (decP I p)))/\n=w:=by
 obtain⟨⟨v,z,j⟩,-⟩:=h.d.sl;obtain⟨c0,c1,c2,c3,c4,c5,s,c7,u⟩:=h.cells;rw[j] at c4;obtain⟨B,i⟩:=xe (I.bS);obtain⟨nm,c⟩:=xe (I.nm);have hd:decP I p=if B<=p/\p-B<nm/\(p-B)%4096=0 then some ((p-B)/4096) else none:=by rw[i,c];rfl
 rw[hd];rw[<-i] at c0 hb;rw[<-c] at c4 hb;clear i c h j hd;by_cases r:p<B
 ·rw[ac (by omega)];obtain⟨x,hx⟩:=xe (18446744073709551616-(B-p));have hw:IntKind.u64.wrap ((p:Int)-(B:Int))=(x:Int):=by rw[wrap_u64];omega
  have k:¬(x:Int)<nm:=by omega
  have g:(nm:Int)<=x:=by omega
  have t:nm<=x:=by omega
  clear hx;go_enter func196,ntmps196;go_wp2
  go_ret;exact⟨rfl,rfl⟩
 ·obtain⟨x,rfl⟩:∃ x,p=B+x:=⟨p-B,by omega⟩;rw[Nat.add_sub_cancel_left];have hw:((B+x:Nat):Int)-(B:Int)=x:=by omega
  have a:B<=B+x:=by omega
  by_cases k:x<nm
  ·by_cases g:x%4096=0
   ·rw[ae ⟨a,k,g⟩];have l:¬(nm:Int)<=x:=(by omega);have f:¬nm<=x:=(by omega);have o:((x:Int)%4096 != 0)=false:=(by rw[ay];omega);have q:(x:Int)/4096=((x/4096:Nat):Int):=(by omega);have m:x/4096<9223372036854775808:=(by omega);obtain⟨y,hy⟩:=xe (x/4096);rw[<-hy] at q m ⊢;generalize B+x=p at *;clear g hy a;go_enter func196,ntmps196;go_wp2
    go_ret;exact⟨rfl,rfl⟩
   ·rw[ac (by omega)];have l:¬(nm:Int)<=x:=(by omega);have f:¬nm<=x:=(by omega);have o:((x:Int)%4096 != 0)=true:=(by rw[cx];omega);generalize B+x=p at *;clear g a;go_enter func196,ntmps196;go_wp2
    go_ret;exact⟨rfl,rfl⟩
  ·rw[ac (by omega)];have l:(nm:Int)<=x:=(by omega);have f:nm<=x:=(by omega);generalize B+x=p at *;clear a;go_enter func196,ntmps196;go_wp2
   go_ret;exact⟨rfl,rfl⟩
theorem tL{n:Nat}{ws:List Nat}(hl:ws.length=(n+63)/64)(i:Nat)(hi:i<n)(v:Bool)(j:Nat):aE (cH n ws (i:Int) v) j=if j=i then v else aE ws j:=by
 have b:aD n (i:Int)=true:=by unfold aD;exact af (by omega)
 have hs:cS n ws (i:Int)=aE ws i:=by unfold cS;rw[b,aa,bf]
 unfold cH;rw[hs];by_cases e:aE ws i=v
 ·rw[ae e];by_cases a:j=i
  ·rw[ae a,a,e]
  ·rw[ac a]
 ·rw[ac e];unfold gG;rw[ae b,aa,qU ws i j (by omega)];by_cases a:j=i
  ·rw[ae a,ae a]
   cases h:aE ws i <;> cases v <;> simp_all
  ·rw[ac a,ac a]
theorem vS(a sc n:Nat)(ws:List Nat)(i p:Int)(w:Wd)(h:SetAt w a sc n ws)(hb:cS n ws i=false):Calls prog 195 #[.pointer (some ⟨a,0,none⟩),.int .i64 i,.int .i64 p] w fun e c=>e=cE p/\c=w:=by
 have b:=aA (nJ a sc n ws i w h);rw[hb] at b;clear h hb;go_enter func195,ntmps195;go_wp2_with fail;refine b.o.mono ?_;rintro e d ⟨rfl,rfl⟩;go_wp2_with fail;refine(dW _ _).mono ?_;rintro e f ⟨rfl,rfl⟩;exact⟨rfl,rfl,rfl⟩
theorem wW(a sc n:Nat)(ws:List Nat)(i p:Int)(w:Wd)(h:SetAt w a sc n ws)(hb:cS n ws i=true):Calls prog 195 #[.pointer (some ⟨a,0,none⟩),.int .i64 i,.int .i64 p] w fun e b=>e=.returned (.tuple #[])/\SetAt b a sc n (cH n ws i false)/\Kt (fun x=>x=sc) w b/\b.heap.size=w.heap.size:=by
 have k:=aA (nJ a sc n ws i w h);rw[hb] at k;have m:=aA (vN a sc n ws i false w h);clear h hb;go_enter func195,ntmps195;go_wp2_with fail;refine k.o.mono ?_;rintro e o ⟨rfl,rfl⟩;go_wp2_with fail;refine(dC _ _).mono ?_;rintro e j ⟨rfl,rfl⟩;go_wp2_with fail;refine m.o.mono ?_;rintro e c ⟨rfl,d,f,g⟩;have l:=aA (show SetAt c a sc n (cH n ws i false)/\Kt (fun x=>x=sc) j c/\c.heap.size=j.heap.size from⟨d,f,g⟩);clear d f g;go_wp2_with fail;first|go_end0|go_ret
 exact⟨rfl,l.o⟩
def mY(w:Wd)(n:Nat)(B:Nat->Bool)(e:Ending)(w':Wd):Prop:=∃ sb sc ws,e=.returned (.pointer (some ⟨sb,0,none⟩))/\SetAt w' sb sc n ws/\w.heap.size<=sb/\w.heap.size<=sc/\(∀ i,i<n->aE ws i=B i)/\Kt nO w w'
theorem zfM(a:Array Vl)(w:Wd):Sem.run prog (callFunc 194 a) w=.ok (.enter 194 a) w:=by simp[callFunc,go_sem,func194];rfl
theorem VL(b cb:Nat)(I:Img)(V:ImV)(S:Pg->Bool)(w:Wd)(K:ImAt w b I V)(a0:I.np<=1024)(HS:∀ i W,i<I.np->Kt nO w W->Calls prog 194 #[gV (I.pg i),.pointer (some ⟨cb,0,none⟩)] W fun e w'=>e=.returned (.bool (S (I.pg i)))/\Kt nO W w'):Calls prog 193 #[.pointer (some ⟨b,0,none⟩),.func (.func 194) #[] #[.pointer (some ⟨cb,0,none⟩)]] w (mY w I.np fun i=>S (I.pg i)):=by
 obtain⟨-,⟨pa,pc,hp⟩,-,-,-,-,bp,-,-⟩:=K.d.sl;obtain⟨c0,c1,c2,c3,c4,c5,c6,c7,c8⟩:=K.cells;rw[hp] at c5;have HI:=aA K;have SP:=aA hp;have Q:=aA HS;obtain⟨n,G⟩:=xe (I.np);rw[<-G] at a0 c5;have HN:=aA G;have a7:=zfM;clear K hp HS bp;have J:=aA (show ∀ W' ws,SetAt W' (w.heap.size+1) w.heap.size n ws->(∀ i,i<n->aE ws i=S (I.pg i))->Kt nO w W'->mY w I.np (fun i=>S (I.pg i)) (.returned (.pointer (some ⟨w.heap.size+1,0,none⟩))) W' from fun W' ws s r u=>⟨_,_,ws,rfl,by rw[<-G];exact s,Nat.le_succ _,aj _,by rw[<-G];exact r,u⟩);clear G;go_enter func193,ntmps193;go_wp2_with fail;refine(uD (n:Int) (by omega) (by omega) w).mono ?_;rintro e T ⟨rfl,f,t,a1⟩;have l:dU (n:Int)=n:=by unfold dU;split <;> (try split) <;> omega
 rw[l] at f;have ST:=aA (f.set (fun i hi=>by rw[oZ];exact ax _));have N:=aA (show Kt nO w T from t);have U:=aA (show w.heap.size<T.heap.size by omega);have GE:=aA (show w.heap.size<=w.heap.size from aj _);generalize Y:w.heap.size+1=Z at *;generalize C:w.heap.size=sc at *;have F:=aA C;have d5:T.cell? ⟨b,5,none⟩=some (.slice pa n pc):=N.o.cell (fun x=>x) c5;clear f t a1 l Y C c0 c1 c2 c3 c4 c5 c6 c7 c8;go_wp2_with fail;clear d5;go_loopw [19] (fun i W=>∃ a:Nat,a<=n/\i=.int .i64 a/\Hd (Kt nO w W/\∃ ws,SetAt W Z sc n ws/\(∀ j,j<a->aE ws j=S (I.pg j)))) (fun i _=>n-(intOf i).toNat)
 case atStart=>exact⟨0,az _,rfl,aA ⟨N.o,_,ST.o,fun x hx=>by omega⟩⟩
 case round=>
  clear N ST U;obtain⟨a,ha,rfl,hR⟩:=hrel;have A0:=aA (HI.o.dk hR.o.1);by_cases E:a<n
  ·have a5:(a:Int)<n:=(by omega);have h:a<I.np:=(by rw[<-HN.o];exact E);obtain⟨bl,o,a8,D,a3,y⟩:=A0.o.ew a h;rw[SP.o] at D;injection D with e1 e2 e3
   subst e1;obtain⟨A,ws,q,B⟩:=hR.o;have PB:=aA (PbI.mk' (w:=w) A0.o A (I.pg a));have R:=aA (q.kept (show Kt nO wr (wr.alloc (aV (I.pg a)))from(Kt.refl _ _).alloc _) (fun x=>x) (fun x=>x));have BT:=aA B;have a6:=aA q.len;have v:=aA (fun W hW=>Q.o a W h hW);obtain⟨sv,m⟩:=xe (S (I.pg a));rw[<-m] at v;have P:=aA m;obtain⟨d0,d1,d2,d3,d4,d5,d6,d7,d8,d9,a2⟩:=y.c;clear a3 y e2 e3 A q B m;go_wp2_with fail;generalize z:I.pg a=p at *;have X:=aA z;clear z;generalize wr.alloc (aV p)=W1 at *;generalize wr.heap.size=g at *;refine(v.o W1 PB.o.k).mono ?_;rintro e w2 ⟨rfl,t⟩;have L:=aA (PB.o.dk t);have a4:=aA (R.o.kept t (fun x=>x) (fun x=>x));clear t d0 d1 d2 d3 d4 d5 d6 d7 d8 d9 a2;go_wp2_with fail;refine(vN Z sc n ws (a:Int) sv w2 a4.o).mono ?_;rintro e w3 ⟨rfl,s,r,u⟩;have R2:=aA (show Kt nO w w3/\∃ ws,SetAt w3 Z sc n ws/\(∀ j,j<a+1->aE ws j=S (I.pg j))from⟨L.o.k.trans r (fun _ _ x=>x) (fun x hx e=>by have:=F.o;omega),_,s,fun j hj=>by
    rw[tL a6.o a E sv j];by_cases e:j=a;·rw[ae e,e,P.o,X.o]
    ·rw[ac e];exact BT.o j (by omega)⟩)
   clear s r u;go_wp2_with fail;go_round
   case rel=>exact⟨a+1,by omega,by go_num,R2⟩
   case measure=>simp[intOf];omega
  ·obtain rfl:a=n:=(by omega);have a5:¬(a:Int)<a:=(by omega);go_wp2_with fail;go_ret;obtain⟨s,ws,r,u⟩:=hR.o;exact J.o wr ws r u s
theorem zfN(a:Array Vl)(w:Wd):Sem.run prog (callFunc 199 a) w=.ok (.enter 199 a) w:=by simp[callFunc,go_sem,func199];rfl
theorem VK(b cb:Nat)(I:Img)(V:ImV)(S:Pg->Bool)(w:Wd)(K:ImAt w b I V)(a0:I.np<=1024)(HS:∀ i W,i<I.np->Kt nO w W->Calls prog 199 #[gV (I.pg i),.pointer (some ⟨cb,0,none⟩)] W fun e w'=>e=.returned (.bool (S (I.pg i)))/\Kt nO W w'):Calls prog 193 #[.pointer (some ⟨b,0,none⟩),.func (.func 199) #[] #[.pointer (some ⟨cb,0,none⟩)]] w (mY w I.np fun i=>S (I.pg i)):=by
 obtain⟨-,⟨pa,pc,hp⟩,-,-,-,-,bp,-,-⟩:=K.d.sl;obtain⟨c0,c1,c2,c3,c4,c5,c6,c7,c8⟩:=K.cells;rw[hp] at c5;have HI:=aA K;have SP:=aA hp;have Q:=aA HS;obtain⟨n,G⟩:=xe (I.np);rw[<-G] at a0 c5;have HN:=aA G;have a7:=zfN;clear K hp HS bp;have J:=aA (show ∀ W' ws,SetAt W' (w.heap.size+1) w.heap.size n ws->(∀ i,i<n->aE ws i=S (I.pg i))->Kt nO w W'->mY w I.np (fun i=>S (I.pg i)) (.returned (.pointer (some ⟨w.heap.size+1,0,none⟩))) W' from fun W' ws s r u=>⟨_,_,ws,rfl,by rw[<-G];exact s,Nat.le_succ _,aj _,by rw[<-G];exact r,u⟩);clear G;go_enter func193,ntmps193;go_wp2_with fail;refine(uD (n:Int) (by omega) (by omega) w).mono ?_;rintro e T ⟨rfl,f,t,a1⟩;have l:dU (n:Int)=n:=by unfold dU;split <;> (try split) <;> omega
 rw[l] at f;have ST:=aA (f.set (fun i hi=>by rw[oZ];exact ax _));have N:=aA (show Kt nO w T from t);have U:=aA (show w.heap.size<T.heap.size by omega);have GE:=aA (show w.heap.size<=w.heap.size from aj _);generalize Y:w.heap.size+1=Z at *;generalize C:w.heap.size=sc at *;have F:=aA C;have d5:T.cell? ⟨b,5,none⟩=some (.slice pa n pc):=N.o.cell (fun x=>x) c5;clear f t a1 l Y C c0 c1 c2 c3 c4 c5 c6 c7 c8;go_wp2_with fail;clear d5;go_loopw [19] (fun i W=>∃ a:Nat,a<=n/\i=.int .i64 a/\Hd (Kt nO w W/\∃ ws,SetAt W Z sc n ws/\(∀ j,j<a->aE ws j=S (I.pg j)))) (fun i _=>n-(intOf i).toNat)
 case atStart=>exact⟨0,az _,rfl,aA ⟨N.o,_,ST.o,fun x hx=>by omega⟩⟩
 case round=>
  clear N ST U;obtain⟨a,ha,rfl,hR⟩:=hrel;have A0:=aA (HI.o.dk hR.o.1);by_cases E:a<n
  ·have a5:(a:Int)<n:=(by omega);have h:a<I.np:=(by rw[<-HN.o];exact E);obtain⟨bl,o,a8,D,a3,y⟩:=A0.o.ew a h;rw[SP.o] at D;injection D with e1 e2 e3
   subst e1;obtain⟨A,ws,q,B⟩:=hR.o;have PB:=aA (PbI.mk' (w:=w) A0.o A (I.pg a));have R:=aA (q.kept (show Kt nO wr (wr.alloc (aV (I.pg a)))from(Kt.refl _ _).alloc _) (fun x=>x) (fun x=>x));have BT:=aA B;have a6:=aA q.len;have v:=aA (fun W hW=>Q.o a W h hW);obtain⟨sv,m⟩:=xe (S (I.pg a));rw[<-m] at v;have P:=aA m;obtain⟨d0,d1,d2,d3,d4,d5,d6,d7,d8,d9,a2⟩:=y.c;clear a3 y e2 e3 A q B m;go_wp2_with fail;generalize z:I.pg a=p at *;have X:=aA z;clear z;generalize wr.alloc (aV p)=W1 at *;generalize wr.heap.size=g at *;refine(v.o W1 PB.o.k).mono ?_;rintro e w2 ⟨rfl,t⟩;have L:=aA (PB.o.dk t);have a4:=aA (R.o.kept t (fun x=>x) (fun x=>x));clear t d0 d1 d2 d3 d4 d5 d6 d7 d8 d9 a2;go_wp2_with fail;refine(vN Z sc n ws (a:Int) sv w2 a4.o).mono ?_;rintro e w3 ⟨rfl,s,r,u⟩;have R2:=aA (show Kt nO w w3/\∃ ws,SetAt w3 Z sc n ws/\(∀ j,j<a+1->aE ws j=S (I.pg j))from⟨L.o.k.trans r (fun _ _ x=>x) (fun x hx e=>by have:=F.o;omega),_,s,fun j hj=>by
    rw[tL a6.o a E sv j];by_cases e:j=a;·rw[ae e,e,P.o,X.o]
    ·rw[ac e];exact BT.o j (by omega)⟩)
   clear s r u;go_wp2_with fail;go_round
   case rel=>exact⟨a+1,by omega,by go_num,R2⟩
   case measure=>simp[intOf];omega
  ·obtain rfl:a=n:=(by omega);have a5:¬(a:Int)<a:=(by omega);go_wp2_with fail;go_ret;obtain⟨s,ws,r,u⟩:=hR.o;exact J.o wr ws r u s
end W
namespace M
open Go.RowKit Go.Shelf
attribute [local go_sem] Oper.semAt_some
theorem zeU(kk c b ao bS R dl n f hd)(o:Nat)(ho:o<=8)(hR:R=4096*2 ^ o)(w:Wd)(h:LS w c b ao bS R dl n f hd)(t:PtrB w kk c):Calls prog 258 #[.slice none 0 0,.func (.func 259) #[] #[.pointer (some ⟨kk,0,none⟩)]] w fun e w'=>∃ v,e=.returned v/\Lst w' v (walkR bS n f (n/16) 0 hd)/\Kt nO w w'/\∀ r,v.ownBlock=some r->w.heap.size<=r:=by
 have H:=aA h;have c4:=aA t;have Y:=t.lt;have hn:n<=4194304:=an h.s.fk h.s.cfg.lr;have e3:=aA hR;clear h hR t;have f1:=mkf;have f7:=zD;refine MR func258 rfl ?_;simp only[ntmps258,List.size_toArray,ee,List.length_nil,Nat.reduceAdd,Nat.reduceSub,Array.replicate_succ,Array.replicate_zero,List.push_toArray,List.append_toArray,List.nil_append,List.cons_append];go_wp2_with fail;obtain⟨X,K⟩:=xe (w.alloc (.cells #[.slice none 0 0] 39));rw[<-K];have KW:=aA (show Kt nO w X by rw[K];exact(kz w).alloc _);have F1:=aA (show eX X w.heap.size (.slice none 0 0)by rw[K];exact nH _ _);have F2:=aA (c4.o.dk KW.o);have e4:=aA (show X.heap.size=w.heap.size+1 by rw[K];simp);have c9:=aA hn;clear K hn;have f6:=aA Y;refine FH (gf:=259) (lb:=#[.pointer (some ⟨kk,0,none⟩)]) rfl (enters_of func259 (by kernel_rfl) rfl) ?_;intro fn D b3;have c1:=aA b3;clear b3;have a5:=e4.o;rw[a5];obtain⟨W3,G⟩:=xe ((X.alloc (.deferred (some []))).alloc (.loop (D .ready none)));have a6:=aA (show Kt nO X W3 by rw[G];exact((kz X).alloc _).alloc _);have d3:W3.heap.size=w.heap.size+3:=by rw[G];simp;omega
 have G1:=aA (F1.o.kept a6.o (fun x=>x));have G2:=aA (F2.o.dk a6.o);have G3:=aA (show fK W3 (w.heap.size+2) (D .ready none)by
  rw[G];have:=mB X (.deferred (some [])) (.loop (D .ready none));rw[a5] at this;exact this)
 have G4:=aA (show jM W3 (w.heap.size+1)by
  rw[G];have:=(Below.heap_alloc (X.alloc (.deferred (some []))) (.loop (D .ready none)) X.heap.size (by simp)).trans (nH X _);rw[a5] at this;exact this)
 have K3:=aA (nT KW.o a6.o);rw[<-G];have f2:=aA d3;clear G;obtain⟨N,hN⟩:=xe (n/16);have f5:N<=262144:=by have:=c9.o;omega
 have HN:=aA hN;clear hN;refine(zkK kk (w.heap.size+2) c b ao bS R dl n o ho e3.o (w.heap.size+3)
  (Taking c b ao bS R dl n f hd kk w.heap.size (w.heap.size+1) (w.heap.size+2) w D N) (fun _ _=>False) ?hK1 ?hK2 (fun _ _ _ _ h=>h.elim) ?hY hd f
  (fun x=>x<w.heap.size\/x=kk\/x=w.heap.size\/x=w.heap.size+1\/x=w.heap.size+2\/Value.ownBlock (.slice none 0 0)=some x) W3 (by omega) (H.o.dk K3.o) ?h0).mono ?hend
 case h0=>exact⟨rfl,H.o.dk K3.o,G2.o,K3.o,H.o.l.eN,by decide,[],.slice none 0 0,rfl,az _,rfl,G1.o,Lst.nil _,G3.o,G4.o,fun r e=>(by cases e),rfl⟩
 case hK1=>
  rintro i q p f' S W ⟨hf,C,t,A,hp,hq,F,v,I,a0,B,z,a,d,j,u,rfl⟩;refine⟨hp,hq,⟨hd,C⟩,?_,t⟩;have:=A.size;have:=t.lt;have:=z.lt;have:=d.lt;have:=j.lt;rintro x (h|h|h|h|h|h)
  all_goals first|omega|exact a.ot.lt h
 case hK2=>
  rintro i q p f' S T W W' ⟨hf,C,t,A,hp,hq,F,v,I,a0,B,z,a,d,j,u,rfl⟩ hk hT;have E:∀ x,(x<w.heap.size\/x=kk\/x=w.heap.size\/x=w.heap.size+1\/x=w.heap.size+2\/v.ownBlock=some x)->¬T x:=fun x hx ht=>(hT x ht).2 hx
  exact⟨hf,C.kept hk (fun x hx=>E x (.inl (H.o.lt x hx))),t.kept hk (E _ (by simp)),A.trans hk (fun _ _ x=>x) (fun x hx ht=>E x (.inl hx) ht),hp,hq,
   F,v,I,a0,B,z.kept hk (E _ (by simp)),a.kept hk (fun r y=>E r (by simp[y])),d.kept hk (E _ (by simp)),j.kept hk (E _ (by simp)),u,rfl⟩
 case hend=>
  rintro e W' ⟨hv,⟨i,q,p,f',S,⟨hf,C,t,A,hp,hq,F,v,I,a0,B,z,a,d,j,u,e7⟩,hi,a3⟩|⟨_,h⟩⟩
  ·refine⟨hv,.ready,none,by simp,d,fun _=>?_,fun c hc=>by cases hc⟩;have b7:walkR bS n f (N-i) q p=[]:=by
    rcases dx (N-i)with e|e
    ·rw[e];rfl
    ·obtain⟨k,hk⟩:∃ k,N-i=k+1:=⟨N-i-1,by omega⟩;rw[hk];unfold walkR;rw[ac];rintro ⟨h1,h2,h3⟩;rw[hf] at a3;have:=HN.o;rcases a3 with h|h|h|h
     ·exact h1 h
     ·exact h h2
     ·exact h h3
     ·omega
   rw[b7,List.append_nil] at B;have V:Kt (fun x=>x=w.heap.size+1\/x=w.heap.size+2) W' ((W'.putObj (w.heap.size+2) (.loop (D .exhausted none))).putObj (w.heap.size+1) (.deferred none)):=((Kt.refl _ W').putObj (fun _=>.inr rfl) _).putObj (fun _=>.inl rfl) _;have e9:jM (W'.putObj (w.heap.size+2) (.loop (D .exhausted none))) (w.heap.size+1):=(World.putObj_heap_other (by omega)).trans j;have c5:eX (W'.putObj (w.heap.size+2) (.loop (D .exhausted none))) w.heap.size v:=(World.putObj_heap_other (by omega)).trans z;have hc:=lW c5;have J:∀ r,v.ownBlock=some r->¬(r=w.heap.size+1\/r=w.heap.size+2):=fun r y e=>by
    obtain⟨cs,m⟩:=a.jd y;rcases e with rfl|rfl
    ·rw[show W'.heap[w.heap.size+1]?=_ from j] at m;cases m
    ·rw[show W'.heap[w.heap.size+2]?=_ from d] at m;cases m
   have HL:=aA (a.kept V J);have HK:=aA (A.trans (U:=nO) V (fun _ _ x=>x) (fun x hx e=>by omega));have HW:=aA B;have HR:=aA u;clear a A B u J V c5 a3 e7 b7 C t z d j hf hi;go_wp2_with fail;refine⟨by simp,.inl ⟨_,_,rfl,run_takeDeferred e9,?_⟩⟩;refine⟨_,results_tmp rfl _ _ _,v,rfl,?_,HK.o,HR.o⟩;rw[<-HN.o,<-HW.o];exact HL.o
  ·exact h.elim
 case hY=>
  rintro i q p f' S W ⟨hf,C,t,A,hp,hq,F,v,I,a0,B,z,a,d,j,u,rfl⟩ hi d9 b0 b9;rw[<-HN.o] at hi;subst hf;have hL:=d;rw[c1.o] at hL;refine MT hL rfl ?_;rw[<-c1.o];have V:Kt (fun x=>x=w.heap.size+2) W (W.putObj (w.heap.size+2) (.loop (D .busy none))):=(Kt.refl (fun x=>x=w.heap.size+2) W).putObj (fun _=>rfl) _;have J:∀ r,v.ownBlock=some r->¬(r=w.heap.size+2):=fun r y e=>by obtain⟨cs,m⟩:=a.jd y;subst e;rw[show W.heap[w.heap.size+2]?=_ from d] at m;cases m
  have a9:∀ r,v.ownBlock=some r->¬(r=w.heap.size+1):=fun r y e=>by obtain⟨cs,m⟩:=a.jd y;subst e;rw[show W.heap[w.heap.size+1]?=_ from j] at m;cases m
  have b2:∀ r,v.ownBlock=some r->¬(r=kk):=fun r y e=>by obtain⟨cs,m⟩:=a.jd y;rw[e,show W.heap[kk]?=_ from t] at m;simp at m
  have a4:∀ r,v.ownBlock=some r->¬(r=w.heap.size):=fun r y e=>by obtain⟨cs,m⟩:=a.jd y;subst e;rw[show W.heap[w.heap.size]?=_ from z] at m;simp at m
  obtain⟨W2,L⟩:=xe (W.putObj (w.heap.size+2) (.loop (D .busy none)));rw[<-L] at V;have b6:W2.heap.size=W.heap.size:=by rw[L];simp
  have L2:=a.kept V J;have O2:=z.kept V (by omega);have R2:fK W2 (w.heap.size+2) (D .busy none):=by rw[L];exact d.put _
  have D2:=j.kept V (by omega);have P2:=t.kept V (by omega);have kt:Kt nO W2 (W2.alloc (.cells #[.int .u64 p] 22)):=(kz W2).alloc _;obtain⟨v',Z,c8,c6,a8,P,g,cap,e2⟩:=zkB (W2.alloc (.cells #[.int .u64 p] 22)) v F p (L2.dk kt) hp (by omega) ⟨W2.heap.size,0,none⟩ 1 (by rw[Addr.add_lit];exact lW (nH _ _));subst e2;have kA:Kt (fun x=>x=w.heap.size+2\/v.ownBlock=some x) W Z:=(V.trans (U:=fun x=>x=w.heap.size+2\/v.ownBlock=some x) kt (fun _ _ h=>.inl h) (fun _ _ h=>h.elim)).trans a8 (fun _ _ h=>h) (fun _ _ h=>.inr h);have kB:Kt (fun x=>v.ownBlock=some x) W2 Z:=kt.trans a8 (fun _ _ h=>h.elim) (fun _ _ h=>h);have O4:=O2.kept kB (fun h=>a4 _ h rfl);have f4:=lW O2;have f3:=lW O4;have f8:=xL O4;have e6:=aA c8;have d4:=aA b6;have d6:=aA c6;have KA:=aA kA;have KB:=aA kB;have d7:=aA O4;have d1:=aA R2;have g1:=aA D2;have f9:=aA P2;have b4:=aA P;have c3:=aA C;have d8:=aA A;have f0:=aA B;have Q:=aA u;have HX:=aA I;have e5:=aA b9;have b5:=aA J;have e8:=aA a9;have d5:=aA b2;have e0:=aA a4;have b1:=aA b0;have a2:=aA d;have c2:=aA j;have d2:=aA t;clear b6 I V L2 O2 R2 D2 P2 kt c6 a8 P kA kB O4 hL C A B u b9 J a9 b2 a4 b0 d j t z a;gi_wp2_with fail
  refine⟨a2.o,?_⟩;rw[<-L];clear L;gi_wp2_with (gi_at_builtin;refine zci _ rfl _ _ _ rfl v (.slice (some ⟨W2.heap.size,0,none⟩) 1 1) rfl rfl _ _ e6.o ?_)
  have c7:¬(v.ownBlock=some (w.heap.size+2)):=fun h=>b5.o _ h rfl
  have R4:=d1.o.kept KB.o c7;have kC:Kt (fun x=>x=w.heap.size+2\/x=w.heap.size\/v.ownBlock=some x) W ((Z.setCell ⟨w.heap.size,0,none⟩ (.slice (some ⟨g,0,none⟩) (F.length+1) cap)).putObj (w.heap.size+2) (.loop (D .ready none))):=
   ((KA.o.mono (fun x _ h=>by rcases h with h|h;exact .inl h;exact .inr (.inr h))).setCell (fun _=>.inr (.inl rfl)) _).putObj (fun _=>.inl rfl) _
  have kD:Kt (fun x=>x=w.heap.size+2\/x=w.heap.size) Z ((Z.setCell ⟨w.heap.size,0,none⟩ (.slice (some ⟨g,0,none⟩) (F.length+1) cap)).putObj (w.heap.size+2) (.loop (D .ready none))):=
   ((Kt.refl _ Z).setCell (fun _=>.inr rfl) _).putObj (fun _=>.inl rfl) _
  have a7:∀ r,Value.ownBlock (.slice (some ⟨g,0,none⟩) (F.length+1) cap)=some r->r≠w.heap.size+2/\r≠w.heap.size/\w.heap.size<=r/\(v.ownBlock=some r\/W.heap.size<=r):=fun r y=>by
   have g0:=a2.o.lt;rcases b4.o with e|⟨r',e,d0⟩
   ·rw[e] at y;exact⟨b5.o r y,e0.o r y,Q.o r y,.inl y⟩
   ·rw[e] at y
    cases y
    simp at d0;have:=d4.o;exact⟨by omega,by omega,by omega,.inr (by omega)⟩
  obtain⟨W5,a1⟩:=xe ((Z.setCell ⟨w.heap.size,0,none⟩ (.slice (some ⟨g,0,none⟩) (F.length+1) cap)).putObj (w.heap.size+2) (.loop (D .ready none)));have R5:fK (Z.setCell ⟨w.heap.size,0,none⟩ (.slice (some ⟨g,0,none⟩) (F.length+1) cap)) (w.heap.size+2) (D .busy none):=R4.kept ((Kt.refl (fun x=>x=w.heap.size) Z).setCell (fun _=>rfl) _) (by omega);have R6:fK W5 (w.heap.size+2) (D .ready none):=by rw[a1];exact R5.put _
  have O6:eX W5 w.heap.size (.slice (some ⟨g,0,none⟩) (F.length+1) cap):=by rw[a1];exact(World.putObj_heap_other (by omega)).trans (d7.o.set _)
  rw[<-a1] at kC kD;have c0:Taking c b ao bS R dl n f' hd kk w.heap.size (w.heap.size+1) (w.heap.size+2) w D N (i+1) p (nx bS f' p) f'
    (fun x=>x<w.heap.size\/x=kk\/x=w.heap.size\/x=w.heap.size+1\/x=w.heap.size+2\/Value.ownBlock (.slice (some ⟨g,0,none⟩) (F.length+1) cap)=some x) W5:=by
   refine⟨rfl,?_,?_,?_,?_,hp,F ++ [p],.slice (some ⟨g,0,none⟩) (F.length + 1) cap,by simp[HX.o],by omega,?_,O6,?_,R6,?_,?_,rfl⟩
   ·refine c3.o.kept kC (fun x hx h=>?_);have:=H.o.lt x hx;rcases h with h|h|h
    ·omega
    ·omega
    ·have:=Q.o x h;omega
   ·exact d2.o.kept kC (by rintro (h|h|h);omega;omega;exact d5.o _ h rfl)
   ·refine d8.o.trans kC (fun _ _ h=>h) (fun x hx h=>?_);rcases h with h|h|h
    ·omega
    ·omega
    ·have:=Q.o x h;omega
   ·exact c3.o.s.kj p b1.o
   ·have e1:N-i=(N-(i+1))+1:=(by omega);rw[<-f0.o,e1,walkR,ae ⟨d9,b1.o,e5.o⟩];simp
   ·exact d6.o.kept kD (fun r y h=>by have:=a7 r y;omega)
   ·exact(c2.o.kept kC (by rintro (h|h|h);omega;omega;exact e8.o _ h rfl))
   ·exact fun r y=>(a7 r y).2.2.1
  have Y:Kt (fun x=>x<w.heap.size\/x=kk\/x=w.heap.size\/x=w.heap.size+1\/x=w.heap.size+2\/v.ownBlock=some x) W W5:=by
   refine kC.mono (fun x _ h=>?_);rcases h with h|h|h
   ·exact .inr (.inr (.inr (.inr (.inl h))))
   ·exact .inr (.inr (.inl h))
   ·exact .inr (.inr (.inr (.inr (.inr h))))
  have b8:∀ x,(x<w.heap.size\/x=kk\/x=w.heap.size\/x=w.heap.size+1\/x=w.heap.size+2\/Value.ownBlock (.slice (some ⟨g,0,none⟩) (F.length+1) cap)=some x)->
    (x<w.heap.size\/x=kk\/x=w.heap.size\/x=w.heap.size+1\/x=w.heap.size+2\/v.ownBlock=some x)\/W.heap.size<=x:=by
   rintro x (h|h|h|h|h|h);·exact .inl (.inl h)
   ·exact .inl (.inr (.inl h))
   ·exact .inl (.inr (.inr (.inl h)))
   ·exact .inl (.inr (.inr (.inr (.inl h))))
   ·exact .inl (.inr (.inr (.inr (.inr (.inl h)))))
   ·rcases (a7 x h).2.2.2 with h'|h'
    ·exact .inl (.inr (.inr (.inr (.inr (.inr h')))))
    ·exact .inr h'
  subst a1;first
   | exact⟨R5,.inl ⟨rfl,f',_,c0,Y,b8⟩⟩
   | exact⟨R5,rfl,f',_,c0,Y,b8⟩
theorem Collect_any(kk c b ao bS R dl n f hd)(o:Nat)(k:o<=8)(hR:R=4096*2 ^ o)(w:Wd)(h:LS w c b ao bS R dl n f hd)(a:PtrB w kk c):Calls prog 253 #[.func (.func 259) #[] #[.pointer (some ⟨kk,0,none⟩)]] w fun e d=>∃ v,e=.returned v/\Lst d v (walkR bS n f (n/16) 0 hd)/\Kt nO w d/\∀ r,v.ownBlock=some r->w.heap.size<=r:=by
 have j:=aA (zeU kk c b ao bS R dl n f hd o k hR w h a);clear h a;go_enter func253,ntmps253;go_wp2_with fail;refine j.o.mono ?_;rintro e l ⟨v,rfl,g⟩;have i:=aA g;clear g;go_wp2_with fail;go_ret;exact⟨v,rfl,i.o⟩
end M
end Go.Proofs.YtfmgnljlkdmndaaGreatDoor
