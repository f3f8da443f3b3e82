import Derived.Test.YtkfmheelhinjdaaGreatDoorXe
import Derived.Test.YtkfmheelhinjdaaGreatDoorXv
import Derived.Deep.DeepCutAuto
set_option maxRecDepth 1000000
set_option maxHeartbeats 80000000
namespace Go.Proofs.YtkfmheelhinjdaaGreatDoor.M
open _root_.Go.Proofs.Tryz
open Go.RowKit Go.Shelf
set_option linter.unusedVariables false
attribute [local go_sem] Oper.semAt_some
end Go.Proofs.YtkfmheelhinjdaaGreatDoor.M
namespace Go.Proofs.YtkfmheelhinjdaaGreatDoor
open _root_.Go.Proofs.Tryz
open Go.RowKit
set_option linter.unusedVariables false
def aD(f:Nat->Bool):Nat->Nat
 | 0=>0
 | k+1=>aD f k+(if f k=true then 1 else 0)
theorem pU(f:Nat->Bool)(k:Nat):aD f k<=k:=by
 induction k with
 | zero=>simp[aD]
 | succ k ih=>simp only[aD];split <;> omega
theorem lI(f:Nat->Bool)(k:Nat)(h:f k=true):aD f (k+1)=aD f k+1:=by simp[aD,h]
theorem kL(f:Nat->Bool)(k:Nat)(h:f k=false):aD f (k+1)=aD f k:=by simp[aD,h]
theorem oM(ws:List Nat)(j:Nat):aC ws j=(ws.getD (j/64) 0).testBit (j%64):=by
 unfold aC;rw[Nat.testBit_eq_decide_div_mod_eq];rfl
theorem qS(ws:List Nat)(k j:Nat)(hk:k/64<ws.length):aC (kD ws k) j=(if j=k then !aC ws k else aC ws j):=by
 rw[oM,oM,oM];unfold kD;by_cases e:j/64=k/64
 ·rw[e,tN _ _ _ hk,Nat.testBit_xor,Nat.testBit_two_pow];by_cases e2:j=k
  ·subst e2;simp
  ·have:¬k%64=j%64:=by omega
   simp[e2,this]
 ·rw[getD_set_ne _ _ _ _ e];have:¬j=k:=by intro h;subst h;exact e rfl
  simp[this]
theorem EU(zs:List Nat)(N j:Nat)(hz:∀ i,zs.getD i 0<2 ^ 64)(hj:j<N):aC (fG zs N) j=aC zs j:=by
 rw[oM,oM,BA zs N (j/64) hz (by omega),Nat.testBit_mod_two_pow];have:j%64<min 64 (N-64*(j/64)):=by omega
 simp[this]
theorem tD(f g:Nat->Bool)(n:Nat)(h:∀ j,j<n->f j=g j):aD f n=aD g n:=by
 induction n with
 | zero=>rfl
 | succ n ih=>simp only[aD];rw[ih (fun j hj=>h j (by omega)),h n (by omega)]
theorem zht(f:Nat->Bool)(k:Nat):aD f (k+1)=(if f 0=true then 1 else 0)+aD (fun j=>f (j+1)) k:=by
 induction k with
 | zero=>simp[aD]
 | succ k ih=>rw[aD,ih];simp only[aD];omega
theorem XY(f:Nat->Bool)(a k:Nat):aD f (a+k)=aD f a+aD (fun j=>f (a+j)) k:=by
 induction k with
 | zero=>simp[aD]
 | succ k ih=>rw[<-Nat.add_assoc,aD,ih];simp only[aD];omega
theorem ziC(k x:Nat):cJ k x=aD (fun p=>x/2 ^ p%2 == 1) k:=by
 induction k generalizing x with
 | zero=>rfl
 | succ k ih=>
  rw[zht,cJ,ih (x/2)];congr 1
  ·by_cases h:x%2=1
   ·simp[h]
   ·have:x%2=0:=by omega
    simp[this]
  ·apply tD
   intro j hj;rw[Nat.div_div_eq_div_mul,Nat.pow_succ,Nat.mul_comm]
theorem tC(ws:List Nat)(hz:∀ i,ws.getD i 0<2 ^ 64)(m:Nat):mE ws m=aD (aC ws) (64*m):=by
 induction m with
 | zero=>rfl
 | succ m ih=>
  rw[wM,ih,Nat.mul_add,Nat.mul_one,XY];congr 1
  rw[tZ 64 _ (hz m),ziC];apply tD
  intro p hp;exact(vT ws m p hp).symm
theorem ziD(f g:Nat->Bool)(j M:Nat)(h:∀ i,i≠j->f i=g i)(hf:f j=true)(hg:g j=false)(hj:j<M):aD g M+1=aD f M:=by
 induction M with
 | zero=>omega
 | succ M ih=>
  by_cases e:j=M
  ·subst e;rw[lI f j hf,kL g j hg,tD f g j (fun i hi=>h i (by omega))]
  ·have:=ih (by omega);simp only[aD,h M (fun x=>e x.symm)];omega
theorem DR(f:Nat->Bool)(M:Nat)(h:∀ j,j<M->f j=false):aD f M=0:=by
 induction M with
 | zero=>rfl
 | succ M ih=>rw[kL f M (h M (by omega)),ih (fun j hj=>h j (by omega))]
theorem ziE(ws:List Nat)(j:Nat)(hz:∀ i,ws.getD i 0<2 ^ 64)(hz2:∀ i,(kD ws j).getD i 0<2 ^ 64)(hj:j/64<ws.length)(hb:aC ws j=true):aU (kD ws j)+1=aU ws:=by
 unfold aU;rw[tC _ hz2,tC _ hz,DW];refine ziD (aC ws) (aC (kD ws j)) j _ ?_ hb ?_ (by omega)
 ·intro i hi;rw[qS ws j i hj,if_neg hi]
 ·rw[qS ws j j hj,if_pos rfl,hb];rfl
end Go.Proofs.YtkfmheelhinjdaaGreatDoor
namespace Go.Proofs.YtkfmheelhinjdaaGreatDoor.W
open _root_.Go.Proofs.Tryz
open Go.RowKit
set_option linter.unusedVariables false
theorem bY.at{w:World}{a:Option Addr}{n c m:Nat}{C:Nat->Nat->Nat->Prop}(h:bY w (.slice a n c) m C)(i:Nat)(hi:i<m):∃ bl o,a=some ⟨bl,o,none⟩/\bl<w.heap.size/\∀ i,i<m->C bl o i:=by
 obtain⟨_,oa,oc,hv,h3⟩:=h;injection hv with e1
 rcases h3 with h3|⟨bl,o,e,hl,hc⟩
 ·omega
 ·exact⟨bl,o,by rw[e1,e],hl,hc⟩
theorem vR(b:Nat)(I:Img)(V:ImV)(q:Nat)(w:World)(hI:ImAt w b I V)(hq:q+8<=I.nm)(hb:I.bS+I.nm<=9223372036854775808):
  Calls prog 227 #[.pointer (some ⟨b,0,none⟩),.int .u64 ((I.bS+q:Nat):Int)] w fun e w'=>e=.returned (.int .u64 ((M.word I.mem q:Nat):Int))/\∃ m,w'=w.drewN m:=by
 obtain⟨⟨ma,mc,hm⟩,-⟩:=hI.d.sl;have hMM:=hI.d.mem;have hcp:=hI.d.mcp _ _ _ hm;rw[hm] at hMM;obtain⟨bl,o,rfl,-,hc⟩:=hMM.at q (by omega);obtain⟨c0,c1,c2,c3,c4,c5,c6,c7,c8⟩:=hI.cells;rw[hm] at c4;have HC:=aA (fun i (hi:i<8)=>hc (q+i) (by omega));obtain⟨B,hB⟩:=xe (I.bS);obtain⟨nm,hnm⟩:=xe (I.nm);rw[<-hB] at c0 hb ⊢;rw[<-hnm] at c4 hb hq hcp;obtain⟨ad,had⟩:=xe (B+q);rw[<-had];have hsub:(ad:Int)-(B:Int)=q:=by omega
 have had1:ad<9223372036854775808:=by omega
 have hq1:q<9223372036854775808:=by omega
 obtain⟨F,hF⟩:=xe (I.mem);rw[<-hF] at HC ⊢;obtain⟨RR,hRR⟩:=xe (M.word F q);rw[<-hRR];have HRR:=aA hRR;clear hB hnm had hI hm hMM hc hF hRR;go_enter func227,ntmps227;go_wp2_with fail;go_quiet (fail)
 go_wp2_with fail;have c4':(w.drewN nq).cell? ⟨b,4,none⟩=some (.slice (some ⟨bl,o,none⟩) nm mc):=c4;go_loop [5,25] (fun v i=>∃ k:Nat,k<=8/\i=.int .i64 k/\v=.int .u64 ((M.wordTo (fun i=>F (q+i)) k:Nat):Int)) (fun _ i=>8-(intOf i).toNat)
 case atStart=>exact⟨0,by omega,rfl,rfl⟩
 case round=>
  obtain⟨k,hk,rfl,rfl⟩:=hrel;by_cases hlt:k<8
  ·have hc:=(HC.out k hlt).2;rw[<-Nat.add_assoc] at hc;have E:=aA (M.word_step (M.wordTo (fun i=>F (q+i)) k) k (F (q+k)) hlt (HC.out k hlt).1 (M.wordTo_lt _ _ (fun i hi=>(HC.out i (by omega)).1)));go_wp2
   refine⟨⟨k+1,by omega,by simp,?_⟩,by simp[intOf];omega⟩;rw[E.out];rfl
  ·obtain rfl:k=8:=(by omega);go_wp2
   go_ret;exact⟨by rw[HRR.out];rfl,_,rfl⟩
def decP(I:Img)(p:Nat):Option Nat:=if I.bS<=p/\p-I.bS<I.nm/\(p-I.bS)%4096=0 then some ((p-I.bS)/4096) else none
def gK(x:Option Nat):Int:=match x with|some i=>(i:Int)|none => -1
theorem zhT(b:Nat)(I:Img)(V:ImV)(p:Nat)(hp:p<18446744073709551616)(w:World)(hI:ImAt w b I V)(hb:I.bS+I.nm<=9223372036854775808):
  Calls prog 226 #[.pointer (some ⟨b,0,none⟩),.int .u64 p] w fun e w'=>e=.returned (.int .i64 (gK (decP I p)))/\w'=w:=by
 obtain⟨⟨ma,mc,hm⟩,-⟩:=hI.d.sl;obtain⟨c0,c1,c2,c3,c4,c5,c6,c7,c8⟩:=hI.cells;rw[hm] at c4;obtain⟨B,hB⟩:=xe (I.bS);obtain⟨nm,hnm⟩:=xe (I.nm);have hd:decP I p=if B<=p/\p-B<nm/\(p-B)%4096=0 then some ((p-B)/4096) else none:=by rw[hB,hnm];rfl
 rw[hd];rw[<-hB] at c0 hb;rw[<-hnm] at c4 hb;clear hB hnm hI hm hd;by_cases h1:p<B
 ·rw[if_neg (by omega)];obtain⟨x,hx⟩:=xe (18446744073709551616-(B-p));have hw:IntKind.u64.wrap ((p:Int)-(B:Int))=(x:Int):=by rw[wrap_u64];omega
  have h2:¬(x:Int)<nm:=by omega
  have h3:(nm:Int)<=x:=by omega
  have h4:nm<=x:=by omega
  clear hx;go_enter func226,ntmps226;go_wp2
  go_ret;exact⟨rfl,rfl⟩
 ·obtain⟨x,rfl⟩:∃ x,p=B+x:=⟨p-B,by omega⟩;rw[Nat.add_sub_cancel_left];have hw:((B+x:Nat):Int)-(B:Int)=x:=by omega
  have hle:B<=B+x:=by omega
  by_cases h2:x<nm
  ·by_cases h3:x%4096=0
   ·rw[if_pos ⟨hle,h2,h3⟩];have f2:¬(nm:Int)<=x:=(by omega);have f2':¬nm<=x:=(by omega);have f3:((x:Int)%4096 != 0)=false:=(by rw[bne_eq_false_iff_eq];omega);have f4:(x:Int)/4096=((x/4096:Nat):Int):=(by omega);have f5:x/4096<9223372036854775808:=(by omega);obtain⟨y,hy⟩:=xe (x/4096);rw[<-hy] at f4 f5 ⊢;generalize B+x=p at *;clear h3 hy hle;go_enter func226,ntmps226;go_wp2
    go_ret;exact⟨rfl,rfl⟩
   ·rw[if_neg (by omega)];have f2:¬(nm:Int)<=x:=(by omega);have f2':¬nm<=x:=(by omega);have f3:((x:Int)%4096 != 0)=true:=(by rw[bne_iff_ne];omega);generalize B+x=p at *;clear h3 hle;go_enter func226,ntmps226;go_wp2
    go_ret;exact⟨rfl,rfl⟩
  ·rw[if_neg (by omega)];have f2:(nm:Int)<=x:=(by omega);have f2':nm<=x:=(by omega);generalize B+x=p at *;clear hle;go_enter func226,ntmps226;go_wp2
   go_ret;exact⟨rfl,rfl⟩
theorem sV{n:Nat}{ws:List Nat}(hl:ws.length=(n+63)/64)(i:Nat)(hi:i<n)(v:Bool)(j:Nat):aC (bN n ws (i:Int) v) j=if j=i then v else aC ws j:=by
 have hr:aB n (i:Int)=true:=by unfold aB;exact decide_eq_true (by omega)
 have hs:cC n ws (i:Int)=aC ws i:=by unfold cC;rw[hr,Int.toNat_natCast,Bool.true_and]
 unfold bN;rw[hs];by_cases e:aC ws i=v
 ·rw[if_pos e];by_cases ej:j=i
  ·rw[if_pos ej,ej,e]
  ·rw[if_neg ej]
 ·rw[if_neg e];unfold fU;rw[if_pos hr,Int.toNat_natCast,qS ws i j (by omega)];by_cases ej:j=i
  ·rw[if_pos ej,if_pos ej]
   cases h:aC ws i <;> cases v <;> simp_all
  ·rw[if_neg ej,if_neg ej]
theorem uF(sb sc n:Nat)(ws:List Nat)(i p:Int)(w:World)(h:SetAt w sb sc n ws)(hb:cC n ws i=false):
  Calls prog 225 #[.pointer (some ⟨sb,0,none⟩),.int .i64 i,.int .i64 p] w fun e w'=>e=bM p/\w'=w:=by
 have HG:=aA (nG sb sc n ws i w h);rw[hb] at HG;clear h hb;go_enter func225,ntmps225;go_wp2_with fail;refine HG.out.mono ?_;rintro e w1 ⟨rfl,rfl⟩;go_wp2_with fail;refine(dJ _ _).mono ?_;rintro e w2 ⟨rfl,rfl⟩;exact⟨rfl,rfl,rfl⟩
theorem vQ(sb sc n:Nat)(ws:List Nat)(i p:Int)(w:World)(h:SetAt w sb sc n ws)(hb:cC n ws i=true):
  Calls prog 225 #[.pointer (some ⟨sb,0,none⟩),.int .i64 i,.int .i64 p] w fun e w'=>e=.returned (.tuple #[])/\SetAt w' sb sc n (bN n ws i false)/\Kt (fun x=>x=sc) w w'/\w'.heap.size=w.heap.size:=by
 have HG:=aA (nG sb sc n ws i w h);rw[hb] at HG;have HP:=aA (uZ sb sc n ws i false w h);clear h hb;go_enter func225,ntmps225;go_wp2_with fail;refine HG.out.mono ?_;rintro e w1 ⟨rfl,rfl⟩;go_wp2_with fail;refine(cM _ _).mono ?_;rintro e w2 ⟨rfl,rfl⟩;go_wp2_with fail;refine HP.out.mono ?_;rintro e w3 ⟨rfl,h1,h2,h3⟩;have HH:=aA (show SetAt w3 sb sc n (bN n ws i false)/\Kt (fun x=>x=sc) w2 w3/\w3.heap.size=w2.heap.size from⟨h1,h2,h3⟩);clear h1 h2 h3;go_wp2_with fail;first|go_end0|go_ret
 exact⟨rfl,HH.out⟩
def mX(w:World)(n:Nat)(B:Nat->Bool)(e:Ending)(w':World):Prop:=∃ sb sc ws,e=.returned (.pointer (some ⟨sb,0,none⟩))/\SetAt w' sb sc n ws/\w.heap.size<=sb/\w.heap.size<=sc/\(∀ i,i<n->aC ws i=B i)/\Kt nO w w'
theorem zeX(xs:Array Value)(w:World):Sem.run prog (callFunc 224 xs) w=.ok (.enter 224 xs) w:=by
 simp[callFunc,go_sem,func224];rfl
theorem SY(b cb:Nat)(I:Img)(V:ImV)(S:Pg->Bool)(w:World)(hI:ImAt w b I V)(hnp:I.np<=1024)
  (HS:∀ i W,i<I.np->Kt nO w W->Calls prog 224 #[dV (I.pg i),.pointer (some ⟨cb,0,none⟩)] W fun e w'=>e=.returned (.bool (S (I.pg i)))/\Kt nO W w'):
  Calls prog 223 #[.pointer (some ⟨b,0,none⟩),.func (.func 224) #[] #[.pointer (some ⟨cb,0,none⟩)]] w (mX w I.np fun i=>S (I.pg i)):=by
 obtain⟨-,⟨pa,pc,hp⟩,-,-,-,-,bp,-,-⟩:=hI.d.sl;obtain⟨c0,c1,c2,c3,c4,c5,c6,c7,c8⟩:=hI.cells;rw[hp] at c5;have HI:=aA hI;have SP:=aA hp;have HSC:=aA HS;obtain⟨n,hn⟩:=xe (I.np);rw[<-hn] at hnp c5;have HN:=aA hn;have hent:=zeX;clear hI hp HS bp;have GOAL:=aA (show ∀ W' ws,SetAt W' (w.heap.size+1) w.heap.size n ws->(∀ i,i<n->aC ws i=S (I.pg i))->Kt nO w W'->mX w I.np (fun i=>S (I.pg i)) (.returned (.pointer (some ⟨w.heap.size+1,0,none⟩))) W' from fun W' ws h1 h2 h3=>⟨_,_,ws,rfl,by rw[<-hn];exact h1,Nat.le_succ _,Nat.le_refl _,by rw[<-hn];exact h2,h3⟩);clear hn;go_enter func223,ntmps223;go_wp2_with fail;refine(tG (n:Int) (by omega) (by omega) w).mono ?_;rintro e w1 ⟨rfl,hraw,hk,hsz⟩;have hfit:cS (n:Int)=n:=by unfold cS;split <;> (try split) <;> omega
 rw[hfit] at hraw;have ST:=aA (hraw.set (fun i hi=>by rw[oO];exact Nat.two_pow_pos _));have K1:=aA (show Kt nO w w1 from hk);have SIZ:=aA (show w.heap.size<w1.heap.size by omega);have GE:=aA (show w.heap.size<=w.heap.size from Nat.le_refl _);generalize hsb:w.heap.size+1=sb at *;generalize hsc:w.heap.size=sc at *;have HSC0:=aA hsc;have d5:w1.cell? ⟨b,5,none⟩=some (.slice pa n pc):=K1.out.cell (fun x=>x) c5;clear hraw hk hsz hfit hsb hsc c0 c1 c2 c3 c4 c5 c6 c7 c8;go_wp2_with fail;clear d5;go_loopw [19] (fun i W=>∃ a:Nat,a<=n/\i=.int .i64 a/\Hid (Kt nO w W/\∃ ws,SetAt W sb sc n ws/\(∀ j,j<a->aC ws j=S (I.pg j)))) (fun i _=>n-(intOf i).toNat)
 case atStart=>exact⟨0,Nat.zero_le _,rfl,aA ⟨K1.out,_,ST.out,fun x hx=>by omega⟩⟩
 case round=>
  clear K1 ST SIZ;obtain⟨a,ha,rfl,hR⟩:=hrel;have A0:=aA (HI.out.keep hR.out.1);by_cases hlt:a<n
  ·have hai:(a:Int)<n:=(by omega);have hlt':a<I.np:=(by rw[<-HN.out];exact hlt);obtain⟨bl,o,oc',hv',hpi,hpc⟩:=A0.out.page a hlt';rw[SP.out] at hv';injection hv' with e1 e2 e3
   subst e1;obtain⟨hkw,ws,hst,hbt⟩:=hR.out;have PB:=aA (PbI.mk' (w:=w) A0.out hkw (I.pg a));have ST1:=aA (hst.kept (show Kt nO wr (wr.alloc (aO (I.pg a)))from(Kt.refl _ _).alloc _) (fun x=>x) (fun x=>x));have BT:=aA hbt;have HLN:=aA hst.len;have HCL:=aA (fun W hW=>HSC.out a W hlt' hW);obtain⟨sv,hsv⟩:=xe (S (I.pg a));rw[<-hsv] at HCL;have HSV:=aA hsv;obtain⟨d0,d1,d2,d3,d4,d5,d6,d7,d8,d9,d10⟩:=hpc.c;clear hpi hpc e2 e3 hkw hst hbt hsv;go_wp2_with fail;generalize hpp:I.pg a=p at *;have HPP:=aA hpp;clear hpp;generalize wr.alloc (aO p)=W1 at *;generalize wr.heap.size=g at *;refine(HCL.out W1 PB.out.k).mono ?_;rintro e w2 ⟨rfl,hk⟩;have PB2:=aA (PB.out.keep hk);have ST2:=aA (ST1.out.kept hk (fun x=>x) (fun x=>x));clear hk d0 d1 d2 d3 d4 d5 d6 d7 d8 d9 d10;go_wp2_with fail;refine(uZ sb sc n ws (a:Int) sv w2 ST2.out).mono ?_;rintro e w3 ⟨rfl,h1,h2,h3⟩;have R2:=aA (show Kt nO w w3/\∃ ws,SetAt w3 sb sc n ws/\(∀ j,j<a+1->aC ws j=S (I.pg j))from⟨PB2.out.k.trans h2 (fun _ _ x=>x) (fun x hx e=>by have:=HSC0.out;omega),_,h1,fun j hj=>by
    rw[sV HLN.out a hlt sv j];by_cases e:j=a
    ·rw[if_pos e,e,HSV.out,HPP.out]
    ·rw[if_neg e];exact BT.out j (by omega)⟩)
   clear h1 h2 h3;go_wp2_with fail;go_round
   case rel=>exact⟨a+1,by omega,by go_num,R2⟩
   case measure=>simp[intOf];omega
  ·obtain rfl:a=n:=(by omega);have hai:¬(a:Int)<a:=(by omega);go_wp2_with fail;go_ret;obtain⟨h1,ws,h2,h3⟩:=hR.out;exact GOAL.out wr ws h2 h3 h1
theorem zeY(xs:Array Value)(w:World):Sem.run prog (callFunc 229 xs) w=.ok (.enter 229 xs) w:=by
 simp[callFunc,go_sem,func229];rfl
theorem SX(b cb:Nat)(I:Img)(V:ImV)(S:Pg->Bool)(w:World)(hI:ImAt w b I V)(hnp:I.np<=1024)
  (HS:∀ i W,i<I.np->Kt nO w W->Calls prog 229 #[dV (I.pg i),.pointer (some ⟨cb,0,none⟩)] W fun e w'=>e=.returned (.bool (S (I.pg i)))/\Kt nO W w'):
  Calls prog 223 #[.pointer (some ⟨b,0,none⟩),.func (.func 229) #[] #[.pointer (some ⟨cb,0,none⟩)]] w (mX w I.np fun i=>S (I.pg i)):=by
 obtain⟨-,⟨pa,pc,hp⟩,-,-,-,-,bp,-,-⟩:=hI.d.sl;obtain⟨c0,c1,c2,c3,c4,c5,c6,c7,c8⟩:=hI.cells;rw[hp] at c5;have HI:=aA hI;have SP:=aA hp;have HSC:=aA HS;obtain⟨n,hn⟩:=xe (I.np);rw[<-hn] at hnp c5;have HN:=aA hn;have hent:=zeY;clear hI hp HS bp;have GOAL:=aA (show ∀ W' ws,SetAt W' (w.heap.size+1) w.heap.size n ws->(∀ i,i<n->aC ws i=S (I.pg i))->Kt nO w W'->mX w I.np (fun i=>S (I.pg i)) (.returned (.pointer (some ⟨w.heap.size+1,0,none⟩))) W' from fun W' ws h1 h2 h3=>⟨_,_,ws,rfl,by rw[<-hn];exact h1,Nat.le_succ _,Nat.le_refl _,by rw[<-hn];exact h2,h3⟩);clear hn;go_enter func223,ntmps223;go_wp2_with fail;refine(tG (n:Int) (by omega) (by omega) w).mono ?_;rintro e w1 ⟨rfl,hraw,hk,hsz⟩;have hfit:cS (n:Int)=n:=by unfold cS;split <;> (try split) <;> omega
 rw[hfit] at hraw;have ST:=aA (hraw.set (fun i hi=>by rw[oO];exact Nat.two_pow_pos _));have K1:=aA (show Kt nO w w1 from hk);have SIZ:=aA (show w.heap.size<w1.heap.size by omega);have GE:=aA (show w.heap.size<=w.heap.size from Nat.le_refl _);generalize hsb:w.heap.size+1=sb at *;generalize hsc:w.heap.size=sc at *;have HSC0:=aA hsc;have d5:w1.cell? ⟨b,5,none⟩=some (.slice pa n pc):=K1.out.cell (fun x=>x) c5;clear hraw hk hsz hfit hsb hsc c0 c1 c2 c3 c4 c5 c6 c7 c8;go_wp2_with fail;clear d5;go_loopw [19] (fun i W=>∃ a:Nat,a<=n/\i=.int .i64 a/\Hid (Kt nO w W/\∃ ws,SetAt W sb sc n ws/\(∀ j,j<a->aC ws j=S (I.pg j)))) (fun i _=>n-(intOf i).toNat)
 case atStart=>exact⟨0,Nat.zero_le _,rfl,aA ⟨K1.out,_,ST.out,fun x hx=>by omega⟩⟩
 case round=>
  clear K1 ST SIZ;obtain⟨a,ha,rfl,hR⟩:=hrel;have A0:=aA (HI.out.keep hR.out.1);by_cases hlt:a<n
  ·have hai:(a:Int)<n:=(by omega);have hlt':a<I.np:=(by rw[<-HN.out];exact hlt);obtain⟨bl,o,oc',hv',hpi,hpc⟩:=A0.out.page a hlt';rw[SP.out] at hv';injection hv' with e1 e2 e3
   subst e1;obtain⟨hkw,ws,hst,hbt⟩:=hR.out;have PB:=aA (PbI.mk' (w:=w) A0.out hkw (I.pg a));have ST1:=aA (hst.kept (show Kt nO wr (wr.alloc (aO (I.pg a)))from(Kt.refl _ _).alloc _) (fun x=>x) (fun x=>x));have BT:=aA hbt;have HLN:=aA hst.len;have HCL:=aA (fun W hW=>HSC.out a W hlt' hW);obtain⟨sv,hsv⟩:=xe (S (I.pg a));rw[<-hsv] at HCL;have HSV:=aA hsv;obtain⟨d0,d1,d2,d3,d4,d5,d6,d7,d8,d9,d10⟩:=hpc.c;clear hpi hpc e2 e3 hkw hst hbt hsv;go_wp2_with fail;generalize hpp:I.pg a=p at *;have HPP:=aA hpp;clear hpp;generalize wr.alloc (aO p)=W1 at *;generalize wr.heap.size=g at *;refine(HCL.out W1 PB.out.k).mono ?_;rintro e w2 ⟨rfl,hk⟩;have PB2:=aA (PB.out.keep hk);have ST2:=aA (ST1.out.kept hk (fun x=>x) (fun x=>x));clear hk d0 d1 d2 d3 d4 d5 d6 d7 d8 d9 d10;go_wp2_with fail;refine(uZ sb sc n ws (a:Int) sv w2 ST2.out).mono ?_;rintro e w3 ⟨rfl,h1,h2,h3⟩;have R2:=aA (show Kt nO w w3/\∃ ws,SetAt w3 sb sc n ws/\(∀ j,j<a+1->aC ws j=S (I.pg j))from⟨PB2.out.k.trans h2 (fun _ _ x=>x) (fun x hx e=>by have:=HSC0.out;omega),_,h1,fun j hj=>by
    rw[sV HLN.out a hlt sv j];by_cases e:j=a
    ·rw[if_pos e,e,HSV.out,HPP.out]
    ·rw[if_neg e];exact BT.out j (by omega)⟩)
   clear h1 h2 h3;go_wp2_with fail;go_round
   case rel=>exact⟨a+1,by omega,by go_num,R2⟩
   case measure=>simp[intOf];omega
  ·obtain rfl:a=n:=(by omega);have hai:¬(a:Int)<a:=(by omega);go_wp2_with fail;go_ret;obtain⟨h1,ws,h2,h3⟩:=hR.out;exact GOAL.out wr ws h2 h3 h1
theorem CG(f:Nat->Bool):∀ (M j:Nat),j<M->f j=true->0<aD f M
 | 0,j,h,_=>by omega
 | M+1,j,h,hf=>by
  by_cases e:j=M
  ·rw[e] at hf;rw[lI f M hf];omega
  ·have:=CG f M j (by omega) hf
   cases h2:f M with
   | true=>rw[lI f M h2];omega
   | false=>rw[kL f M h2];exact this
theorem DS{w:World}{b c n:Nat}{ws:List Nat}(h:SetAt w b c n ws):aU ws=0↔∀ j,j<n->aC ws j=false:=by
 have e:aU ws=aD (aC ws) (64*ws.length):=tC ws h.lt64 ws.length;rw[e];have hl:=h.len;constructor
 ·intro h0 j hj
  cases hb:aC ws j with
  | false=>rfl
  | true=>
   have:=CG (aC ws) (64*ws.length) j (by omega) hb;omega
 ·intro h0;exact DR _ _ fun j _=>by
   by_cases hj:j<n
   ·exact h0 j hj
   ·exact h.bit_past j (by omega)
def cD(W:World)(sc:Nat):List Nat:=match W.heap[sc]? with
 | some (.cells cs _ _)=>cs.toList.map fun v=>(intOf v).toNat
 | _=>[]
theorem iO{W:World}{b c n:Nat}{ws:List Nat}(h:SetAt W b c n ws):cD W c=ws:=by
 unfold cD;rw[h.hc];simp[bI,intOf];conv=>rhs;rw[<-List.map_id ws]
 rfl
theorem vK{w w':World}{b c n:Nat}{ws:List Nat}{i:Nat}(h:SetAt w b c n ws)(h':SetAt w' b c n (bN n ws (i:Int) false))(hi:i<n)(hb:aC ws i=true):aU (bN n ws (i:Int) false)+1=aU ws:=by
 have hr:aB n (i:Int)=true:=by unfold aB;exact decide_eq_true (by omega)
 have hs:cC n ws (i:Int)=true:=by unfold cC;rw[hr,Int.toNat_natCast,Bool.true_and,hb]
 have e:bN n ws (i:Int) false=kD ws i:=by
  unfold bN fU;rw[hs,if_neg (by decide),if_pos hr,Int.toNat_natCast]
 rw[e] at h' ⊢;have hl:=h.len;exact ziE ws i h.lt64 h'.lt64 (by omega) hb
def pgL(I:Img)(S:Pg->Bool):List Nat:=(List.range I.np).filter fun i=>S (I.pg i)
theorem pgL_nodup(I:Img)(S:Pg->Bool):(pgL I S).Nodup:=List.nodup_range.filter _
theorem pgL_mem{I:Img}{S:Pg->Bool}{i:Nat} : i∈pgL I S↔i<I.np/\S (I.pg i)=true:=by simp[pgL]
def ok8(I:Img)(j:Nat):Bool:=bO (decP I) 0 (fun i=>M.word I.mem (4096*i)) (fun i=>M.word I.mem (4096*i+8)) ((pgL I fun p=>isF p (j:Int)).length+1) (pgL I fun p=>isF p (j:Int)) (I.hd.getD j 0) 0
section
variable {α : Type} [DecidableEq α] {dec : α->Option Nat} {nil : α} {nxt bk:Nat->α}
theorem CD{l:List Nat}{b : α} : bO dec nil nxt bk (l.length+1) l nil b=l.isEmpty:=by rw[bO,if_pos rfl]
theorem rZ{l:List Nat}{p b : α}(hp:p≠nil)(h:∀ i,dec p=some i->i ∉ l\/bk i≠b):bO dec nil nxt bk (l.length+1) l p b=false:=by
 rw[bO,if_neg hp]
 cases hd:dec p with
 | none=>rfl
 | some i=>
  show(decide (i∈l) && _)=false
  rcases h i hd with h1|h1
  ·rw[decide_eq_false h1];rfl
  ·rw[decide_eq_false h1];simp
theorem BZ{l:List Nat}{p b : α}{i:Nat}(hp:p≠nil)(hd:dec p=some i)(hi:i∈l)(hb:bk i=b):bO dec nil nxt bk (l.length+1) l p b=bO dec nil nxt bk ((l.erase i).length+1) (l.erase i) (nxt i) p:=by
 rw[bO,if_neg hp,hd];show(decide (i∈l) && (decide (bk i=b) && _))=_
 rw[decide_eq_true hi,decide_eq_true hb,List.length_erase_of_mem hi];have:l.length-1+1=l.length:=by
  have:=List.length_pos_of_mem hi;omega
 rw[this];rfl
end
structure L8(w W:World)(cb sb sc n a:Nat)(ws:List Nat)(l:List Nat):Prop where
 bx:W.heap[cb]?=some (.cells #[.int .i64 a] 3 (0,0))
 st:SetAt W sb sc n ws
 ge:w.heap.size<=sc
 ne:cb≠sc
 k:Kt nO w W
 nd:l.Nodup
 mem:∀ i,i<n->aC ws i=decide (i∈l)
 lt:∀ i,i∈l->i<n
theorem L8.keep{w W W':World}{cb sb sc n a:Nat}{ws l:List Nat}(h:L8 w W cb sb sc n a ws l)(hk:Kt nO W W'):L8 w W' cb sb sc n a ws l:=
 ⟨(hk.block _ (lH h.bx) (fun x=>x)).trans h.bx,h.st.kept hk (fun x=>x) (fun x=>x),h.ge,h.ne,nT h.k hk,h.nd,h.mem,h.lt⟩
theorem L8.met{w W W':World}{cb sb sc n a i:Nat}{ws l:List Nat}(h:L8 w W cb sb sc n a ws l)(hk:Kt (fun x=>x=sc) W W')(hi:i∈l)(hs:SetAt W' sb sc n (bN n ws (i:Int) false)):L8 w W' cb sb sc n a (bN n ws (i:Int) false) (l.erase i):=by
 refine⟨(hk.block _ (lH h.bx) h.ne).trans h.bx,hs,h.ge,h.ne,h.k.trans hk (fun _ _ x=>x) (fun x hx e=>by have:=h.ge;omega),h.nd.erase i,fun j hj=>?_,fun j hj=>h.lt j (List.mem_of_mem_erase hj)⟩;rw[sV h.st.len i (h.lt i hi) false j];by_cases e:j=i
 ·rw[if_pos e,e];exact(decide_eq_false (fun hm=>((h.nd.mem_erase_iff).1 hm).1 rfl)).symm
 ·rw[if_neg e,h.mem j hj,decide_eq_decide,h.nd.mem_erase_iff];exact⟨fun hm=>⟨e,hm⟩,fun hm=>hm.2⟩
def nQ(l:List Nat)(x:Option Nat):Bool:=match x with|some i=>decide (i∈l)|none=>false
theorem L8.ins{w W:World}{cb sb sc n a:Nat}{ws l:List Nat}(h:L8 w W cb sb sc n a ws l)(x:Option Nat)(hx:∀ i,x=some i->i<n):cC n ws (gK x)=nQ l x:=by
 cases x with
 | none=>simp[gK,cC,aB,nQ]
 | some i=>
  have:=hx i rfl;show cC n ws (i:Int)=decide (i∈l)
  unfold cC aB;rw[decide_eq_true (by omega),Int.toNat_natCast,Bool.true_and,h.mem i this]
theorem L8.empty{w W:World}{cb sb sc n a:Nat}{ws l:List Nat}(h:L8 w W cb sb sc n a ws l):l.isEmpty=decide (aU ws=0):=by
 rw[Bool.eq_iff_iff,List.isEmpty_iff,decide_eq_true_eq,DS h.st];constructor
 ·intro e j hj;rw[h.mem j hj,e];rfl
 ·intro hz
  cases l with
  | nil=>rfl
  | cons x t=>
   exfalso
   have hx:=h.lt x List.mem_cons_self;have:=hz x hx;rw[h.mem x hx,decide_eq_true List.mem_cons_self] at this
   cases this
theorem pV{I:Img}{k r p i:Nat}(hS:Sn9 I k r)(h:decP I p=some i):i<I.np/\p=I.bS+4096*i/\p≠0:=by
 unfold decP at h;split at h
 ·rename_i hc;injection h with h
  have:=hS.nm;have hb:=hS.b0;omega
 ·cases h
theorem word_lt{w:World}{I:Img}{V:ImV}(h:ImD w I V)(q:Nat)(hq:q+8<=I.nm):M.word I.mem q<18446744073709551616:=by
 obtain⟨⟨ma,mc,hm⟩,-⟩:=h.sl;have hM:=h.mem;rw[hm] at hM;obtain⟨bl,o,-,-,hc⟩:=hM.at q (by omega);exact M.wordTo_lt (fun i=>I.mem (q+i)) 8 fun i hi=>(hc (q+i) (by omega)).1
theorem IR(cb a:Nat)(p:Pg)(w:World)(h:w.heap[cb]?=some (.cells #[.int .i64 a] 3 (0,0))):
  Calls prog 224 #[dV p,.pointer (some ⟨cb,0,none⟩)] w fun e w'=>e=.returned (.bool (isF p (a:Int)))/\Kt nO w w':=by
 have c0:w.cell? ⟨cb,0,none⟩=some (.int .i64 a):=by simp[World.cell?,h]
 have HF:=aA (fun W=>qM p (a:Int) W);have HB:=aA h;have c1:(w.alloc (aO p)).cell? ⟨cb,0,none⟩=some (.int .i64 a):=(show Kt nO w (w.alloc (aO p))from(Kt.refl _ _).alloc _).cell (fun x=>x) c0;have HN:=aA (nH w (aO p));have HK:=aA (show Kt nO w (w.alloc (aO p))from(Kt.refl _ _).alloc _);generalize isF p (a:Int)=fv at *;clear h;go_enter func224,ntmps224;go_wp2_with fail;refine(HF.out _).mono ?_;rintro e w1 ⟨rfl,hk⟩;have K1:=aA (nT HK.out hk);clear hk c0 c1;go_wp2_with fail;go_ret;exact⟨rfl,K1.out⟩
theorem zhs(xs:Array Value)(w:World):Sem.run prog (callFunc 225 xs) w=.ok (.enter 225 xs) w:=by
 simp[callFunc,go_sem,func225];rfl
theorem ziB{Q:Exit->Act->World->Prop}{o:Oper}{a:Act}{w:World}{x y z:Operand}{ts:Array TypeId}{sb sc n:Nat}{ws:List Nat}{i p:Int}(ho:o.op=.call { callee:=.value (.func 225),args:=#[x,y,z],argTypes:=ts })
  (hx:a.eval x=.pointer (some ⟨sb,0,none⟩)) (hy:a.eval y=.int .i64 i) (hz:a.eval z=.int .i64 p) (hs:SetAt w sb sc n ws) (hb:cC n ws i=false) (h:∀ a',a'.defers=a.defers->Q (.panic [{ v:=.iface 218 (.int .i64 p),recovered:=false }]) a' w):gE prog Q o a w:=by
 refine DV zhs ho ?_;have e:(#[x,y,z] : Array Operand).map a.eval=#[.pointer (some ⟨sb,0,none⟩),.int .i64 i,.int .i64 p]:=by simp[hx,hy,hz]
 rw[e];refine(uF sb sc n ws i p w hs hb).mono ?_;rintro e w1 ⟨rfl,rfl⟩;exact⟨_,rfl,h⟩
def prS(c:Int)(p:Pg):Bool:=decide (p.kd=4) && (decide (p.cl=c) && !decide (p.lv=(celN9 p.cl.toNat:Int)))
def dec10(I:Img)(x:Int):Option Nat:=if 0<=x/\x<(I.np:Int) then some x.toNat else none
def bP(I:Img)(j:Nat):Bool:=bO (dec10 I) (-1) (fun i=>(I.pg i).nx) (fun i=>(I.pg i).pv) ((pgL I (prS (j:Int))).length+1) (pgL I (prS (j:Int))) (I.pt.getD j 0) (-1)
theorem LI(cb a:Nat)(p:Pg)(c:Nat)(hc:p.cl=(c:Int))(h7:c<=7)(w:World)(h:w.heap[cb]?=some (.cells #[.int .i64 a] 3 (0,0))):
  Calls prog 229 #[dV p,.pointer (some ⟨cb,0,none⟩)] w fun e w'=>e=.returned (.bool (prS (a:Int) p))/\Kt nO w w':=by
 have c0:w.cell? ⟨cb,0,none⟩=some (.int .i64 a):=by simp[World.cell?,h]
 have HF:=aA (fun W=>CX p c hc h7 W);have c1:(w.alloc (aO p)).cell? ⟨cb,0,none⟩=some (.int .i64 a):=(show Kt nO w (w.alloc (aO p))from(Kt.refl _ _).alloc _).cell (fun x=>x) c0;have HK:=aA (show Kt nO w (w.alloc (aO p))from(Kt.refl _ _).alloc _);have E:=aA (show prS (a:Int) p=(decide (p.kd=4) && (decide (p.cl=(a:Int)) && !decide (p.lv=(celN9 c:Int))))by unfold prS;rw[hc,Int.toNat_natCast]);generalize decide (p.lv=(celN9 c:Int))=fv at *;generalize prS (a:Int) p=rv at *;clear h hc;obtain⟨kd,od,cl,lv,nx,pv,fs,b0,b1,b2,b3⟩:=p;dsimp only at E;by_cases h4:kd=4
 ·subst h4;by_cases hca:cl=(a:Int)
  ·subst hca;have E2:=aA (show(!fv)=rv by rw[E.out];simp)
   cases fv with
   | false=>
    go_enter func229,ntmps229;go_wp2_with fail;refine(HF.out _).mono ?_;rintro e w1 ⟨rfl,hk⟩;have K1:=aA (nT HK.out hk);clear hk c0 c1;go_wp2_with fail;go_ret;exact⟨cH E2.out,K1.out⟩
   | true=>
    go_enter func229,ntmps229;go_wp2_with fail;refine(HF.out _).mono ?_;rintro e w1 ⟨rfl,hk⟩;have K1:=aA (nT HK.out hk);clear hk c0 c1;go_wp2_with fail;go_ret;exact⟨cH E2.out,K1.out⟩
  ·have E2:=aA (show false=rv by rw[E.out];simp[hca]);have f1:(cl == (a:Int))=false:=(by rw[beq_eq_false_iff_ne];exact hca);clear hca;go_enter func229,ntmps229;go_wp2_with fail;go_ret;exact⟨cH E2.out,HK.out⟩
 ·have E2:=aA (show false=rv by rw[E.out];simp[h4]);have f1:(kd == 4)=false:=by rw[beq_eq_false_iff_ne];exact h4
  clear h4;go_enter func229,ntmps229;go_wp2_with fail;go_ret;exact⟨cH E2.out,HK.out⟩
theorem uR{I:Img}{x:Int}{i:Nat}(h:dec10 I x=some i):i<I.np/\x=(i:Int)/\x ≠ -1:=by
 unfold dec10 at h;split at h
 ·injection h with h
  omega
 ·cases h
theorem ziM{w W:World}{cb sb sc a:Nat}{I:Img}{ws l:List Nat}(h:L8 w W cb sb sc I.np a ws l)(x:Int):cC I.np ws x=nQ l (dec10 I x):=by
 unfold dec10;by_cases hx : 0<=x/\x<(I.np:Int)
 ·rw[if_pos hx];obtain⟨i,rfl⟩:=Int.eq_ofNat_of_zero_le hx.1;rw[Int.toNat_natCast];show cC I.np ws (i:Int)=decide (i∈l)
  unfold cC aB;rw[decide_eq_true (by omega),Int.toNat_natCast,Bool.true_and,h.mem i (by omega)]
 ·rw[if_neg hx];show cC I.np ws x=false
  unfold cC aB;rw[decide_eq_false hx];rfl
theorem zcf(b:Nat)(I:Img)(V:ImV)(k r:Nat)(hS:Sn9 I k r)(w:World)(hI:ImAt w b I V):
  Calls prog 174 #[.pointer (some ⟨b,0,none⟩)] w fun e w'=>e=aZ (fst1 8 (bP I))/\Kt nO w w':=by
 obtain⟨-,⟨pa,pc,hp⟩,-,-,⟨ta,tc,ht⟩,-,-,-,-⟩:=hI.d.sl;obtain⟨c0,c1,c2,c3,c4,c5,c6,c7,c8⟩:=hI.cells;rw[ht] at c8;have hts:=hI.d.pts;rw[ht] at hts;obtain⟨bl,o,rfl,hbl,htc⟩:=hts.at 0 (by rw[hS.tl];omega);obtain⟨EE,hEE⟩:=xe (aZ (fst1 8 (bP I)));rw[<-hEE];have HE:=aA hEE;have HI:=aA hI;have HS:=aA hS;have SP:=aA hp;rw[hS.tl] at c8 htc;have HHC:=aA htc;have hnp:=hS.np1;have hmf:∀ (fn:Fn) (first cap:Array Value) (w:World),(Instr.makeFunc fn first cap).run prog w=.ok (.func fn first cap) w:=fun _ _ _ _=>rfl
 obtain⟨n,hn⟩:=xe (I.np);have HN:=aA hn;clear hEE hI hS ht hts htc hbl hp hn;go_enter func174,ntmps174;go_wp2_with fail;go_loopw [11] (fun i W=>∃ a:Nat,a<=8/\i=.int .i64 a/\Hid (Kt nO w W/\∀ x,x<a->bP I x=true)) (fun i _=>8-(intOf i).toNat)
 case atStart=>exact⟨0,Nat.zero_le _,rfl,aA ⟨Kt.refl _ _,fun x hx=>by omega⟩⟩
 case round=>
  clear c0 c1 c2 c3 c4 c5 c6 c7 c8;obtain⟨a,ha',rfl,hR⟩:=hrel;by_cases hlt:a<8
  ·have hai:(a:Int)<8:=(by omega);obtain⟨hp64,hpc⟩:=HHC.out a hlt;have d0:=hR.out.1.cell (fun x=>x) hpc;obtain⟨p,hp⟩:=xe (I.pt.getD a 0);rw[<-hp] at d0 hp64;have FB:=aA (show bP I a=false->bM (a:Int)=EE from fun h=>by rw[HE.out,fK hlt hR.out.2 h];rfl);have GA:=aA (show bP I a=true->∀ x,x<a+1->bP I x=true from fun h x hx=>by
    by_cases e:x=a
    ·rw[e];exact h
    ·exact hR.out.2 x (by omega))
   have OK:=aA (show bO (dec10 I) (-1) (fun i=>(I.pg i).nx) (fun i=>(I.pg i).pv) ((pgL I (prS (a:Int))).length+1) (pgL I (prS (a:Int))) p (-1)=bP I a by rw[hp];rfl);generalize bP I a=okv at *;have B1:=aA (show(wr.alloc (.cells #[.int .i64 a] 3 (0,0))).heap[wr.heap.size]?=some (.cells #[.int .i64 a] 3 (0,0))from nH _ _);have K1:=aA (show Kt nO w (wr.alloc (.cells #[.int .i64 a] 3 (0,0)))from hR.out.1.alloc _);have SZ:=aA (show wr.heap.size<(wr.alloc (.cells #[.int .i64 a] 3 (0,0))).heap.size by simp);clear hp hpc;go_wp2_with fail;generalize wr.alloc (.cells #[.int .i64 a] 3 (0,0))=W1 at *;generalize wr.heap.size=cb at *;refine(SX b cb I V (prS (a:Int)) W1 (HI.out.keep K1.out) hnp (fun i W hi hk=>by
    obtain⟨_,_,c,_,-,-,-,-,y5,y6,-⟩:=HS.out.pg i hi;exact LI cb a (I.pg i) c y5 y6 W ((hk.block _ (lH B1.out) (fun x=>x)).trans B1.out))).mono ?_
   rintro e w2 ⟨sb,sc,ws,rfl,hst,hge1,hge2,hbt,hk2⟩;have LL:=aA (show L8 w w2 cb sb sc I.np a ws (pgL I (prS (a:Int)))from⟨(hk2.block _ (lH B1.out) (fun x=>x)).trans B1.out,hst,Nat.le_trans K1.out.size hge2,by have:=SZ.out;omega,nT K1.out hk2,pgL_nodup _ _,fun i hi=>by
    rw[hbt i hi,Bool.eq_iff_iff,decide_eq_true_eq,pgL_mem];exact⟨fun h=>⟨hi,h⟩,fun h=>h.2⟩,fun i hi=>(pgL_mem.1 hi).1⟩)
   clear hst hge1 hge2 hbt hk2 d0 B1 K1 SZ;go_wp2_with fail;go_loopw [3,5] (fun pv bv W=>∃ p q:Int,pv=.int .i64 p/\bv=.int .i64 q/\Hid (∃ ws l,L8 w W cb sb sc I.np a ws l/\bO (dec10 I) (-1) (fun i=>(I.pg i).nx) (fun i=>(I.pg i).pv) (l.length+1) l p q=okv)) (fun _ _ W=>aU (cD W sc))
   case atStart=>exact⟨p,-1,rfl,rfl,aA ⟨_,_,LL.out,OK.out⟩⟩
   case round=>
    clear LL OK hp64;obtain⟨p,q,rfl,rfl,hL⟩:=hrel;obtain⟨ws,l,hl,hok⟩:=hL.out;have LL:=aA hl;have OK:=aA hok;clear hL hl hok;by_cases hp0:p = -1
    ·have hp0':(p != -1)=false:=(by rw[hp0];rfl);have OK2:=aA (show okv=decide (aU ws=0)by rw[<-OK.out,hp0,CD,LL.out.empty]);obtain⟨cw,hcw⟩:=xe (aU ws);have HCT:=aA (fun (x:KW wr)=>tB sb sc I.np ws x.v (LL.out.keep x.k).st);rw[<-hcw] at HCT OK2;have c0:∀ x:KW wr,x.v.cell? ⟨cb,0,none⟩=some (.int .i64 a):=fun x=>by simp[World.cell?,(LL.out.keep x.k).bx]
     clear hp0 hcw;by_cases g:cw=0
     case neg=>
      have R2:=aA (FB.out (by rw[OK2.out,decide_eq_false g]));have f4:((cw:Int) == 0)=false:=(by rw[beq_eq_false_iff_ne];omega);clear g;go_wp2_with fail;refine gD (by kernel_rfl) (by kernel_rfl) (by exact List.cons_ne_nil _ _) ?_;dsimp only[List.dropLast,List.getLast];repeat (go_big_quiet_step (first|(go_at_call 218;exact Calls.kept_of ((HCT.out _).mono fun _ _ ⟨h1,h2⟩=>⟨h1,h2▸Kt.refl _ _⟩))))
      refine wpQuiet_nil ?_;refine⟨rfl,?_⟩;rintro _ ⟨x,rfl⟩;exact gC (p:=(a:Int)) rfl rfl rfl fun _ hd=>⟨hd,R2.out,nT LL.out.k x.k⟩
     have R2:=aA (GA.out (by rw[OK2.out,decide_eq_true g]));have f4:((cw:Int) == 0)=true:=(by rw[beq_iff_eq];omega);have HMY:=aA (fun W=>cM (a:Int) W);clear g;go_wp2_with fail;refine bT (by kernel_rfl) (by kernel_rfl) ?_;repeat (go_big_quiet_step (first|(go_at_call 218;exact Calls.kept_of ((HCT.out _).mono fun _ _ ⟨h1,h2⟩=>⟨h1,h2▸Kt.refl _ _⟩))|(go_at_call 212;exact Calls.kept_of ((HMY.out _).mono fun _ _ ⟨h1,h2⟩=>⟨h1,h2▸Kt.refl _ _⟩))))
     refine wpQuiet_nil ?_;intro x;have R3:=aA (show Kt nO w x.v/\_ from⟨nT LL.out.k x.k,R2.out⟩);clear c0;go_wp2_with fail;go_round
     case rel=>exact⟨a+1,by omega,by go_num,R3⟩
     case measure=>simp[intOf];omega
    ·have hp0':(p != -1)=true:=(by rw[bne_iff_ne];exact hp0);have IM:=aA (HI.out.keep LL.out.k);have INS:=aA (ziM LL.out p);have c0:wr.cell? ⟨cb,0,none⟩=some (.int .i64 a):=by simp[World.cell?,LL.out.bx]
     cases hin:cC I.np ws p with
     | false=>
      have R2:=aA (FB.out (by
       rw[<-OK.out];refine rZ hp0 fun i hi=>.inl fun hm=>?_
       have:=INS.out;rw[hi,hin] at this;exact absurd hm (of_decide_eq_false this.symm)))
      have HME:=aA (uF sb sc I.np ws p (a:Int) wr LL.out.st hin);clear hin hp0;go_wp2_with fail;refine HME.out.mono ?_;rintro e w3 ⟨rfl,rfl⟩;exact⟨rfl,R2.out,LL.out.k⟩
     | true=>
      have hex:∃ i,dec10 I p=some i/\i∈l:=by
       have:=INS.out;rw[hin] at this
       cases hd:dec10 I p with
       | none=>rw[hd] at this;cases this
       | some i=>rw[hd] at this;exact⟨i,rfl,of_decide_eq_true this.symm⟩
      obtain⟨i,hi,hil⟩:=hex;obtain⟨hin1,hpi,hp1⟩:=uR hi;subst hpi;have HD:=aA (show dec10 I (i:Int)=some i/\(i:Int) ≠ -1 from⟨hi,hp1⟩);have HIL:=aA hil;have HI1:=aA hin1;have HME:=aA (vQ sb sc I.np ws (i:Int) (a:Int) wr LL.out.st hin);clear hin hil hi hin1 hp1 hp0;go_wp2_with fail;refine HME.out.mono ?_;rintro e wc ⟨rfl,h1,h2,h3⟩;have LM:=aA (show L8 w wc cb sb sc I.np a (bN I.np ws (i:Int) false) (l.erase i)from LL.out.met h2 HIL.out h1);have MSR:=aA (show aU (cD wc sc)<aU (cD wr sc)by
       rw[iO LM.out.st,iO LL.out.st];have hb:aC ws i=true:=(by rw[LL.out.mem i HI1.out];exact decide_eq_true HIL.out);have:=vK LL.out.st LM.out.st HI1.out hb;omega)
      clear h1 h2 h3 HME c0;have IM2:=aA (HI.out.keep LM.out.k);have NXT:=aA (show(I.pg i).pv=q->bO (dec10 I) (-1) (fun i=>(I.pg i).nx) (fun i=>(I.pg i).pv) ((l.erase i).length+1) (l.erase i) (I.pg i).nx (i:Int)=okv from fun h=>by
       rw[<-OK.out];exact(BZ (nxt:=fun i=>(I.pg i).nx) (bk:=fun i=>(I.pg i).pv) HD.out.2 HD.out.1 HIL.out h).symm)
      have NOT:=aA (show ¬(I.pg i).pv=q->bM (a:Int)=EE from fun h=>FB.out (by
       rw[<-OK.out];refine rZ HD.out.2 fun j hj=>.inr ?_
       rw[HD.out.1] at hj;injection hj with hj
       rw[<-hj];exact h))
      have hpa:∃ bl' o',pa=some ⟨bl',o',none⟩:=by
       obtain⟨bl',o',oc',hv',_⟩:=IM2.out.page i HI1.out;rw[SP.out] at hv';injection hv' with e1
       exact⟨bl',o',e1⟩
      obtain⟨pb,po,rfl⟩:=hpa;obtain⟨d0,d1,d2,d3,d4,d5,d6,d7,d8,d9,d10⟩:=iF (IM2.out.pageK SP.out i HI1.out);obtain⟨c0,c1,c2,c3,c4,c5,c6,c7,c8⟩:=IM2.out.all;rw[SP.out,<-HN.out] at c5;have b0:∀ x:KW wc,x.v.cell? ⟨cb,0,none⟩=some (.int .i64 a):=fun x=>by simp[World.cell?,(LM.out.keep x.k).bx]
      have hin2:(i:Int)<n:=(by have:=HI1.out;rw[HN.out];omega);by_cases g:(I.pg i).pv=q
      case neg=>
       have R2:=aA (NOT.out g);have f4:((I.pg i).pv == q)=false:=(by rw[beq_eq_false_iff_ne];exact g);clear g;go_wp2_with fail;refine gD (by kernel_rfl) (by kernel_rfl) (by exact List.cons_ne_nil _ _) ?_;dsimp only[List.dropLast,List.getLast];repeat (go_big_quiet_step (fail))
       refine wpQuiet_nil ?_;refine⟨rfl,?_⟩;rintro _ ⟨x,rfl⟩;exact gC (p:=(a:Int)) rfl rfl rfl fun _ hd=>⟨hd,R2.out,nT LM.out.k x.k⟩
      have R2:=aA (NXT.out g);have f4:((I.pg i).pv == q)=true:=(by rw[beq_iff_eq];exact g);have HMY:=aA (fun W=>cM (a:Int) W);clear g;go_wp2_with fail;refine bT (by kernel_rfl) (by kernel_rfl) ?_;repeat (go_big_quiet_step (first|(go_at_call 212;exact Calls.kept_of ((HMY.out _).mono fun _ _ ⟨h1,h2⟩=>⟨h1,h2▸Kt.refl _ _⟩))))
      refine wpQuiet_nil ?_;intro x;have LX:=aA (LM.out.keep x.k);clear d0 d1 d2 d3 d4 d5 d6 d7 d8 d9 d10 c0 c1 c2 c3 c4 c5 c6 c7 c8 b0 f4;go_wp2_with fail;have WSX:=aA (show cD x.v sc=cD wc sc by rw[iO LX.out.st,iO LM.out.st]);generalize x.v=W3 at *;have IM3:=aA (HI.out.keep LX.out.k);obtain⟨d0,d1,d2,d3,d4,d5,d6,d7,d8,d9,d10⟩:=iF (IM3.out.pageK SP.out i HI1.out);obtain⟨c0,c1,c2,c3,c4,c5,c6,c7,c8⟩:=IM3.out.all;rw[SP.out,<-HN.out] at c5;refine bT (by kernel_rfl) (by kernel_rfl) ?_;repeat (go_big_quiet_step (fail))
      refine wpQuiet_nil ?_;intro y;have R3:=aA (show ∃ ws l,L8 w y.v cb sb sc I.np a ws l/\bO (dec10 I) (-1) (fun i=>(I.pg i).nx) (fun i=>(I.pg i).pv) (l.length+1) l (I.pg i).nx (i:Int)=okv from⟨_,_,LX.out.keep y.k,R2.out⟩);have MS2:=aA (show aU (cD y.v sc)<aU (cD wr sc)by
       rw[iO (LX.out.keep y.k).st,<-iO LM.out.st];exact MSR.out)
      clear d0 d1 d2 d3 d4 d5 d6 d7 d8 d9 d10 c0 c1 c2 c3 c4 c5 c6 c7 c8;go_wp2_with fail;go_round
      case rel=>exact⟨(I.pg i).nx,(i:Int),rfl,rfl,R3⟩
      case measure=>exact MS2.out
  ·have hae:a=8:=(by omega);have hai:¬(a:Int)<8:=(by omega);have E:=aA (show Ending.returned (.tuple #[])=EE by rw[HE.out,fst1_ok (fun x hx=>hR.out.2 x (by omega))];rfl);clear hae;go_wp2_with fail;first|go_end0|go_ret
   exact⟨E.out,hR.out.1⟩
end Go.Proofs.YtkfmheelhinjdaaGreatDoor.W
