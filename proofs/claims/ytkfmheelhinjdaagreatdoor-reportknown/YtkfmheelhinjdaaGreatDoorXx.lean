import Derived.Test.YtkfmheelhinjdaaGreatDoorXw
set_option maxRecDepth 1000000
set_option maxHeartbeats 80000000
namespace Go.Proofs.YtkfmheelhinjdaaGreatDoor.W
open _root_.Go.Proofs.Tryz
open Go.RowKit
set_option linter.unusedVariables false
abbrev wsP(p:Pg):List Nat:=[p.b0,p.b1,p.b2,p.b3]
def ok5(p:Pg):Bool:=!decide (p.kd=4) || ((decide (0<p.lv) && decide (p.lv=(aT (wsP p):Int))) && decide (bP 256 (wsP p) (celN9 p.cl.toNat) = -1))
theorem QU(p:Pg)(h:PgIn p):eX (wsP p) (dE 256)=wsP p:=by
 have e:dE 256=256:=by decide
 rw[e];unfold eX jH;rw[if_pos (by decide)];unfold over dP;rfl
theorem uC{w:World}{g:Nat}{p:Pg}(h:w.heap[g]?=some (aV p))(hp:PgIn p):Src w (.slice (some ⟨g,7,none⟩) 4 4) (wsP p):=by
 refine⟨fun i=>?_,some ⟨g,7,none⟩,4,rfl,.inr ⟨⟨g,7,none⟩,rfl,lH h,fun j hj=>?_⟩⟩
 ·obtain⟨-,-,-,-,-,-,-,h0,h1,h2,h3⟩:=hp;match i with
  | 0=>exact h0
  | 1=>exact h1
  | 2=>exact h2
  | 3=>exact h3
  | n+4=>simp
 ·have hj4:j<4:=hj;match j,hj4 with
  | 0,_=>simp[World.cell?,h,Addr.add]
  | 1,_=>simp[World.cell?,h,Addr.add]
  | 2,_=>simp[World.cell?,h,Addr.add]
  | 3,_=>simp[World.cell?,h,Addr.add]
theorem ZT(b:Nat)(I:Img)(V:ImV)(k r:Nat)(hS:Sn9 I k r)(w:World)(hI:ImAt w b I V):
  Calls prog 169 #[.pointer (some ⟨b,0,none⟩)] w fun e w'=>e=bB (fst1 I.np fun i=>ok5 (I.pg i))/\Kt nO w w':=by
 obtain⟨-,⟨pa,pc,hp⟩,-,-,-,-,bp,-,-⟩:=hI.d.sl;obtain⟨c0,c1,c2,c3,c4,c5,c6,c7,c8⟩:=hI.cells;rw[hp] at c5;obtain⟨EE,hEE⟩:=xe (bB (fst1 I.np fun i=>ok5 (I.pg i)));rw[<-hEE];have HE:=aA hEE;have HI:=aA hI;have HS:=aA hS;have SP:=aA hp;have hnp:=hS.np1;obtain⟨n,hn⟩:=xe (I.np);rw[<-hn] at hnp c5;have HN:=aA hn;clear hEE hI hp hS hn bp;go_enter func169,ntmps169;go_wp2_with fail;go_loopw [10] (fun i W=>∃ a:Nat,a<=n/\i=.int .i64 a/\Hid (Kt nO w W/\∀ x,x<a->ok5 (I.pg x)=true)) (fun i _=>n-(intOf i).toNat)
 case atStart=>exact⟨0,Nat.zero_le _,rfl,aA ⟨Kt.refl _ _,fun x hx=>by omega⟩⟩
 case round=>
  clear c0 c1 c2 c3 c4 c5 c6 c7 c8;obtain⟨a,ha,rfl,hR⟩:=hrel;have A0:=aA (HI.out.keep hR.out.1);by_cases hlt:a<n
  ·have hai:(a:Int)<n:=(by omega);have hlt':a<I.np:=(by rw[<-HN.out];exact hlt);obtain⟨bl,o,oc',hv',hpi,hpc⟩:=A0.out.page a hlt';rw[SP.out] at hv';injection hv' with e1 e2 e3
   subst e1;obtain⟨kd,od,cc,ll,y1,y2,y3,y4,y5,y6,y7,y8,-⟩:=HS.out.pg a hlt';have FB:=aA (show ok5 (I.pg a)=false->bM (a:Int)=EE from fun h=>by rw[HE.out,kE (ok:=fun i=>ok5 (I.pg i)) hlt' hR.out.2 h];rfl);have GA:=aA (show ok5 (I.pg a)=true->∀ x,x<a+1->ok5 (I.pg x)=true from fun h x hx=>by
    by_cases e:x=a
    ·rw[e];exact h
    ·exact hR.out.2 x (by omega))
   have OK:=aA (show ok5 (I.pg a)=(!decide ((I.pg a).kd=4) || ((decide (0<(I.pg a).lv) && decide ((I.pg a).lv=(aT (wsP (I.pg a)):Int))) && decide (bP 256 (wsP (I.pg a)) (celN9 (I.pg a).cl.toNat) = -1)))from rfl);rw[y5,Int.toNat_natCast] at OK;have PB:=aA (PbI.mk' (w:=w) A0.out hR.out.1 (I.pg a));have SR:=aA (uC PB.out.pb hpi);have OW:=aA (QU (I.pg a) hpi);have HCE:=aA (fun W=>tR (I.pg a) cc y5 y6 W);have hcb:=mI cc y6;generalize celN9 cc=cn at *;obtain⟨d0,d1,d2,d3,d4,d5,d6,d7,d8,d9,d10⟩:=hpc.c;generalize ok5 (I.pg a)=okv at *;generalize I.pg a=p at *;clear hpi hpc e2 e3 y1 y2 y3 y4 y5 y6 y7 y8;by_cases hk4:p.kd=4
   case neg=>
    have R2:=aA (show Kt nO w (wr.alloc (aV p))/\_ from⟨hR.out.1.alloc _,GA.out (by rw[OK.out];simp[hk4])⟩);have f2:(p.kd != 4)=true:=(by rw[bne_iff_ne];exact hk4);clear hk4;go_wp2_with fail;go_round
    case rel=>exact⟨a+1,by omega,by go_num,R2⟩
    case measure=>simp[intOf];omega
   have OK2:=aA (show okv=((decide (0<p.lv) && decide (p.lv=(aT (wsP p):Int))) && decide (bP 256 (wsP p) cn = -1))by rw[OK.out,decide_eq_true hk4];rfl);have f2:(p.kd != 4)=false:=(by rw[bne_eq_false_iff_eq];exact hk4);clear hk4;generalize hws:wsP p=ws at *;clear hws;go_wp2_with fail;generalize wr.alloc (aV p)=W1 at *;generalize wr.heap.size=g at *;refine(qI (.slice (some ⟨g,7,none⟩) 4 4) ws 256 (by decide) (by decide) W1 SR.out).mono ?_;rintro e w1 ⟨rfl,hset,hk,hsz⟩;rw[OW.out] at hset;have PB1:=aA (PB.out.keep hk);have ST:=aA hset;generalize W1.heap.size+1=sb at *;generalize W1.heap.size=sc at *;obtain⟨cw,hcw⟩:=xe (aT ws);have HCT:=aA (fun (x:KW w1)=>rO sb sc _ ws x.v (ST.out.kept x.k (fun x=>x) (fun x=>x)));rw[<-hcw] at HCT;have HNX:=aA (fun (W:World) (hW:Kt nO w1 W)=>yL sb sc _ ws (cn:Int) (by omega) W (ST.out.kept hW (fun x=>x) (fun x=>x)));obtain⟨nv,hnv⟩:=xe (bP 256 ws cn);have HNE:nxt (dE 256) ws (cn:Int)=nv:=(by rw[hnv];unfold nxt;rw[Int.toNat_natCast];rfl);rw[HNE] at HNX;rw[<-hcw,<-hnv] at OK2;clear hset hk hsz hcw hnv HNE OK;obtain⟨p0,p1,p2,p3,p4,p5,p6,p7,p8,p9,p10⟩:=PB1.out.all;clear d0 d1 d2 d3 d4 d5 d6 d7 d8 d9 d10;by_cases g1 : 0<p.lv
   case neg=>
    have R2:=aA (FB.out (by rw[OK2.out,decide_eq_false g1];rfl));have f1:decide (0<p.lv)=false:=decide_eq_false g1;go_wp2_with fail;refine fV (by kernel_rfl) (by kernel_rfl) (by exact List.cons_ne_nil _ _) ?_;dsimp only[List.dropLast,List.getLast];repeat (go_big_quiet_step (fail))
    refine wpQuiet_nil ?_;refine⟨rfl,?_⟩;rintro _ ⟨x,rfl⟩;exact fU (p:=(a:Int)) rfl rfl rfl fun _ hd=>⟨hd,R2.out,nT PB1.out.k x.k⟩
   have f1:decide (0<p.lv)=true:=decide_eq_true g1;by_cases g2:p.lv=(cw:Int)
   case neg=>
    have R2:=aA (FB.out (by rw[OK2.out,decide_eq_false g2];simp));have f3:(p.lv == (cw:Int))=false:=(by rw[beq_eq_false_iff_ne];exact g2);clear g2;go_wp2_with fail;refine fV (by kernel_rfl) (by kernel_rfl) (by exact List.cons_ne_nil _ _) ?_;dsimp only[List.dropLast,List.getLast];repeat (go_big_quiet_step (first|(go_at_call 218;exact Calls.kept_of ((HCT.out _).mono fun _ _ ⟨h1,h2⟩=>⟨h1,h2▸Kt.refl _ _⟩))))
    refine wpQuiet_nil ?_;refine⟨rfl,?_⟩;rintro _ ⟨x,rfl⟩;exact fU (p:=(a:Int)) rfl rfl rfl fun _ hd=>⟨hd,R2.out,nT PB1.out.k x.k⟩
   have OK3:=aA (show okv=decide (nv = -1)by rw[OK2.out,f1,decide_eq_true g2];rfl);have f3:(p.lv == (cw:Int))=true:=(by rw[beq_iff_eq];exact g2);have HMY:=aA (fun W=>cJ (a:Int) W);clear g2;go_wp2_with fail;refine dM (by kernel_rfl) (by kernel_rfl) ?_;repeat (go_big_quiet_step (first|(go_at_call 218;exact Calls.kept_of ((HCT.out _).mono fun _ _ ⟨h1,h2⟩=>⟨h1,h2▸Kt.refl _ _⟩))|(go_at_call 212;exact Calls.kept_of ((HMY.out _).mono fun _ _ ⟨h1,h2⟩=>⟨h1,h2▸Kt.refl _ _⟩))))
   refine wpQuiet_nil ?_;intro x;go_wp2_with fail;refine(HCE.out _).mono ?_;rintro e w3 ⟨rfl,hk⟩;have K3:=aA (nT PB1.out.k (nT x.k hk));have NX:=aA (HNX.out w3 (nT x.k hk));clear p0 p1 p2 p3 p4 p5 p6 p7 p8 p9 p10 hk;by_cases g3:nv = -1
   case neg=>
    have R2:=aA (FB.out (by rw[OK3.out,decide_eq_false g3]));have f4:(nv == -1)=false:=(by rw[beq_eq_false_iff_ne];exact g3);clear g3;go_wp2_with fail;refine NX.out.mono ?_;rintro e w4 ⟨rfl,rfl⟩;go_wp2_with fail;refine(dC _ _).mono ?_;rintro e w5 ⟨rfl,rfl⟩;exact⟨rfl,R2.out,K3.out⟩
   have R2:=aA (show Kt nO w w3/\_ from⟨K3.out,GA.out (by rw[OK3.out,decide_eq_true g3])⟩);have f4:(nv == -1)=true:=(by rw[beq_iff_eq];exact g3);clear g3;go_wp2_with fail;refine NX.out.mono ?_;rintro e w4 ⟨rfl,rfl⟩;go_wp2_with fail;refine(cJ _ _).mono ?_;rintro e w5 ⟨rfl,rfl⟩;go_wp2_with fail;go_round
   case rel=>exact⟨a+1,by omega,by go_num,R2⟩
   case measure=>simp[intOf];omega
  ·obtain rfl:a=n:=(by omega);have hai:¬(a:Int)<a:=(by omega);have E:=aA (show Ending.returned (.tuple #[])=EE by rw[HE.out,fst1_ok (fun x hx=>hR.out.2 x (by rw[HN.out];exact hx))];rfl);go_wp2_with fail;first|go_end0|go_ret
   exact⟨E.out,hR.out.1⟩
end Go.Proofs.YtkfmheelhinjdaaGreatDoor.W
namespace Go.Proofs.YtkfmheelhinjdaaGreatDoor
open _root_.Go.Proofs.Tryz
open Go.RowKit
set_option linter.unusedVariables false
def aK(f:Nat->Bool):Nat->Nat
 | 0=>0
 | k+1=>aK f k+(if f k=true then 1 else 0)
theorem LQ(f:Nat->Bool)(k:Nat):aK f k<=k:=by
 induction k with
 | zero=>simp[aK]
 | succ k ih=>simp only[aK];split <;> omega
theorem rH(f:Nat->Bool)(k:Nat)(h:f k=true):aK f (k+1)=aK f k+1:=by simp[aK,h]
theorem pF(f:Nat->Bool)(k:Nat)(h:f k=false):aK f (k+1)=aK f k:=by simp[aK,h]
theorem nN(ws:List Nat)(j:Nat):aF ws j=(ws.getD (j/64) 0).testBit (j%64):=by
 unfold aF;rw[Nat.testBit_eq_decide_div_mod_eq];rfl
theorem pI(ws:List Nat)(k j:Nat)(hk:k/64<ws.length):aF (jJ ws k) j=(if j=k then !aF ws k else aF ws j):=by
 rw[nN,nN,nN];unfold jJ;by_cases e:j/64=k/64
 ·rw[e,rY _ _ _ hk,Nat.testBit_xor,Nat.testBit_two_pow];by_cases e2:j=k
  ·subst e2;simp
  ·have:¬k%64=j%64:=by omega
   simp[e2,this]
 ·rw[getD_set_ne _ _ _ _ e];have:¬j=k:=by intro h;subst h;exact e rfl
  simp[this]
theorem zK(zs:List Nat)(N j:Nat)(hz:∀ i,zs.getD i 0<2 ^ 64)(hj:j<N):aF (eX zs N) j=aF zs j:=by
 rw[nN,nN,zJ zs N (j/64) hz (by omega),Nat.testBit_mod_two_pow];have:j%64<min 64 (N-64*(j/64)):=by omega
 simp[this]
theorem rQ(f g:Nat->Bool)(n:Nat)(h:∀ j,j<n->f j=g j):aK f n=aK g n:=by
 induction n with
 | zero=>rfl
 | succ n ih=>simp only[aK];rw[ih (fun j hj=>h j (by omega)),h n (by omega)]
theorem YF(f:Nat->Bool)(k:Nat):aK f (k+1)=(if f 0=true then 1 else 0)+aK (fun j=>f (j+1)) k:=by
 induction k with
 | zero=>simp[aK]
 | succ k ih=>rw[aK,ih];simp only[aK];omega
theorem TE(f:Nat->Bool)(a k:Nat):aK f (a+k)=aK f a+aK (fun j=>f (a+j)) k:=by
 induction k with
 | zero=>simp[aK]
 | succ k ih=>rw[<-Nat.add_assoc,aK,ih];simp only[aK];omega
theorem WR(k x:Nat):cF k x=aK (fun p=>x/2 ^ p%2 == 1) k:=by
 induction k generalizing x with
 | zero=>rfl
 | succ k ih=>
  rw[YF,cF,ih (x/2)];congr 1
  ·by_cases h:x%2=1
   ·simp[h]
   ·have:x%2=0:=by omega
    simp[this]
  ·apply rQ
   intro j hj;rw[Nat.div_div_eq_div_mul,Nat.pow_succ,Nat.mul_comm]
theorem rP(ws:List Nat)(hz:∀ i,ws.getD i 0<2 ^ 64)(m:Nat):lK ws m=aK (aF ws) (64*m):=by
 induction m with
 | zero=>rfl
 | succ m ih=>
  rw[uG,ih,Nat.mul_add,Nat.mul_one,TE];congr 1
  rw[sG 64 _ (hz m),WR];apply rQ
  intro p hp;exact(sZ ws m p hp).symm
theorem WQ(f g:Nat->Bool)(j M:Nat)(h:∀ i,i≠j->f i=g i)(hf:f j=true)(hg:g j=false)(hj:j<M):aK g M+1=aK f M:=by
 induction M with
 | zero=>omega
 | succ M ih=>
  by_cases e:j=M
  ·subst e;rw[rH f j hf,pF g j hg,rQ f g j (fun i hi=>h i (by omega))]
  ·have:=ih (by omega);simp only[aK,h M (fun x=>e x.symm)];omega
theorem WP(f:Nat->Bool)(M:Nat)(h:∀ j,j<M->f j=false):aK f M=0:=by
 induction M with
 | zero=>rfl
 | succ M ih=>rw[pF f M (h M (by omega)),ih (fun j hj=>h j (by omega))]
theorem WO(ws:List Nat)(j:Nat)(hz:∀ i,ws.getD i 0<2 ^ 64)(hz2:∀ i,(jJ ws j).getD i 0<2 ^ 64)(hj:j/64<ws.length)(hb:aF ws j=true):aT (jJ ws j)+1=aT ws:=by
 unfold aT;rw[rP _ hz2,rP _ hz,zV];refine WQ (aF ws) (aF (jJ ws j)) j _ ?_ hb ?_ (by omega)
 ·intro i hi;rw[pI ws j i hj,if_neg hi]
 ·rw[pI ws j j hj,if_pos rfl,hb];rfl
end Go.Proofs.YtkfmheelhinjdaaGreatDoor
namespace Go.Proofs.YtkfmheelhinjdaaGreatDoor.W
open _root_.Go.Proofs.Tryz
open Go.RowKit
set_option linter.unusedVariables false
theorem fA.at{w:World}{a:Option Addr}{n c m:Nat}{C:Nat->Nat->Nat->Prop}(h:fA w (.slice a n c) m C)(i:Nat)(hi:i<m):∃ bl o,a=some ⟨bl,o,none⟩/\bl<w.heap.size/\∀ i,i<m->C bl o i:=by
 obtain⟨_,oa,oc,hv,h3⟩:=h;injection hv with e1
 rcases h3 with h3|⟨bl,o,e,hl,hc⟩
 ·omega
 ·exact⟨bl,o,by rw[e1,e],hl,hc⟩
theorem tM(b:Nat)(I:Img)(V:ImV)(q:Nat)(w:World)(hI:ImAt w b I V)(hq:q+8<=I.nm)(hb:I.bS+I.nm<=9223372036854775808):
  Calls prog 227 #[.pointer (some ⟨b,0,none⟩),.int .u64 ((I.bS+q:Nat):Int)] w fun e w'=>e=.returned (.int .u64 ((M.word I.mem q:Nat):Int))/\∃ m,w'=w.drewN m:=by
 obtain⟨⟨ma,mc,hm⟩,-⟩:=hI.d.sl;have hMM:=hI.d.mem;have hcp:=hI.d.mcp _ _ _ hm;rw[hm] at hMM;obtain⟨bl,o,rfl,-,hc⟩:=hMM.at q (by omega);obtain⟨c0,c1,c2,c3,c4,c5,c6,c7,c8⟩:=hI.cells;rw[hm] at c4;have HC:=aA (fun i (hi:i<8)=>hc (q+i) (by omega));obtain⟨B,hB⟩:=xe (I.bS);obtain⟨nm,hnm⟩:=xe (I.nm);rw[<-hB] at c0 hb ⊢;rw[<-hnm] at c4 hb hq hcp;obtain⟨ad,had⟩:=xe (B+q);rw[<-had];have hsub:(ad:Int)-(B:Int)=q:=by omega
 have had1:ad<9223372036854775808:=by omega
 have hq1:q<9223372036854775808:=by omega
 obtain⟨F,hF⟩:=xe (I.mem);rw[<-hF] at HC ⊢;obtain⟨RR,hRR⟩:=xe (M.word F q);rw[<-hRR];have HRR:=aA hRR;clear hB hnm had hI hm hMM hc hF hRR;go_enter func227,ntmps227;go_wp2_with fail;go_quiet (fail)
 go_wp2_with fail;have c4':(w.drewN nq).cell? ⟨b,4,none⟩=some (.slice (some ⟨bl,o,none⟩) nm mc):=c4;go_loop [5,25] (fun v i=>∃ k:Nat,k<=8/\i=.int .i64 k/\v=.int .u64 ((M.wordTo (fun i=>F (q+i)) k:Nat):Int)) (fun _ i=>8-(intOf i).toNat)
 case atStart=>exact⟨0,by omega,rfl,rfl⟩
 case round=>
  obtain⟨k,hk,rfl,rfl⟩:=hrel;by_cases hlt:k<8
  ·have hc:=(HC.out k hlt).2;rw[<-Nat.add_assoc] at hc;have E:=aA (M.word_step (M.wordTo (fun i=>F (q+i)) k) k (F (q+k)) hlt (HC.out k hlt).1 (M.wordTo_lt _ _ (fun i hi=>(HC.out i (by omega)).1)));go_wp2
   refine⟨⟨k+1,by omega,by simp,?_⟩,by simp[intOf];omega⟩;rw[E.out];rfl
  ·obtain rfl:k=8:=(by omega);go_wp2
   go_ret;exact⟨by rw[HRR.out];rfl,_,rfl⟩
def decP(I:Img)(p:Nat):Option Nat:=if I.bS<=p/\p-I.bS<I.nm/\(p-I.bS)%4096=0 then some ((p-I.bS)/4096) else none
def lE(x:Option Nat):Int:=match x with|some i=>(i:Int)|none => -1
theorem YS(b:Nat)(I:Img)(V:ImV)(p:Nat)(hp:p<18446744073709551616)(w:World)(hI:ImAt w b I V)(hb:I.bS+I.nm<=9223372036854775808):
  Calls prog 226 #[.pointer (some ⟨b,0,none⟩),.int .u64 p] w fun e w'=>e=.returned (.int .i64 (lE (decP I p)))/\w'=w:=by
 obtain⟨⟨ma,mc,hm⟩,-⟩:=hI.d.sl;obtain⟨c0,c1,c2,c3,c4,c5,c6,c7,c8⟩:=hI.cells;rw[hm] at c4;obtain⟨B,hB⟩:=xe (I.bS);obtain⟨nm,hnm⟩:=xe (I.nm);have hd:decP I p=if B<=p/\p-B<nm/\(p-B)%4096=0 then some ((p-B)/4096) else none:=by rw[hB,hnm];rfl
 rw[hd];rw[<-hB] at c0 hb;rw[<-hnm] at c4 hb;clear hB hnm hI hm hd;by_cases h1:p<B
 ·rw[if_neg (by omega)];obtain⟨x,hx⟩:=xe (18446744073709551616-(B-p));have hw:IntKind.u64.wrap ((p:Int)-(B:Int))=(x:Int):=by rw[wrap_u64];omega
  have h2:¬(x:Int)<nm:=by omega
  have h3:(nm:Int)<=x:=by omega
  have h4:nm<=x:=by omega
  clear hx;go_enter func226,ntmps226;go_wp2
  go_ret;exact⟨rfl,rfl⟩
 ·obtain⟨x,rfl⟩:∃ x,p=B+x:=⟨p-B,by omega⟩;rw[Nat.add_sub_cancel_left];have hw:((B+x:Nat):Int)-(B:Int)=x:=by omega
  have hle:B<=B+x:=by omega
  by_cases h2:x<nm
  ·by_cases h3:x%4096=0
   ·rw[if_pos ⟨hle,h2,h3⟩];have f2:¬(nm:Int)<=x:=(by omega);have f2':¬nm<=x:=(by omega);have f3:((x:Int)%4096 != 0)=false:=(by rw[bne_eq_false_iff_eq];omega);have f4:(x:Int)/4096=((x/4096:Nat):Int):=(by omega);have f5:x/4096<9223372036854775808:=(by omega);obtain⟨y,hy⟩:=xe (x/4096);rw[<-hy] at f4 f5 ⊢;generalize B+x=p at *;clear h3 hy hle;go_enter func226,ntmps226;go_wp2
    go_ret;exact⟨rfl,rfl⟩
   ·rw[if_neg (by omega)];have f2:¬(nm:Int)<=x:=(by omega);have f2':¬nm<=x:=(by omega);have f3:((x:Int)%4096 != 0)=true:=(by rw[bne_iff_ne];omega);generalize B+x=p at *;clear h3 hle;go_enter func226,ntmps226;go_wp2
    go_ret;exact⟨rfl,rfl⟩
  ·rw[if_neg (by omega)];have f2:(nm:Int)<=x:=(by omega);have f2':nm<=x:=(by omega);generalize B+x=p at *;clear hle;go_enter func226,ntmps226;go_wp2
   go_ret;exact⟨rfl,rfl⟩
theorem rI{n:Nat}{ws:List Nat}(hl:ws.length=(n+63)/64)(i:Nat)(hi:i<n)(v:Bool)(j:Nat):aF (bN n ws (i:Int) v) j=if j=i then v else aF ws j:=by
 have hr:aC n (i:Int)=true:=by unfold aC;exact decide_eq_true (by omega)
 have hs:bZ n ws (i:Int)=aF ws i:=by unfold bZ;rw[hr,Int.toNat_natCast,Bool.true_and]
 unfold bN;rw[hs];by_cases e:aF ws i=v
 ·rw[if_pos e];by_cases ej:j=i
  ·rw[if_pos ej,ej,e]
  ·rw[if_neg ej]
 ·rw[if_neg e];unfold fN;rw[if_pos hr,Int.toNat_natCast,pI ws i j (by omega)];by_cases ej:j=i
  ·rw[if_pos ej,if_pos ej]
   cases h:aF ws i <;> cases v <;> simp_all
  ·rw[if_neg ej,if_neg ej]
theorem sR(sb sc n:Nat)(ws:List Nat)(i p:Int)(w:World)(h:SetAt w sb sc n ws)(hb:bZ n ws i=false):
  Calls prog 225 #[.pointer (some ⟨sb,0,none⟩),.int .i64 i,.int .i64 p] w fun e w'=>e=bM p/\w'=w:=by
 have HG:=aA (mJ sb sc n ws i w h);rw[hb] at HG;clear h hb;go_enter func225,ntmps225;go_wp2_with fail;refine HG.out.mono ?_;rintro e w1 ⟨rfl,rfl⟩;go_wp2_with fail;refine(dC _ _).mono ?_;rintro e w2 ⟨rfl,rfl⟩;exact⟨rfl,rfl,rfl⟩
theorem tL(sb sc n:Nat)(ws:List Nat)(i p:Int)(w:World)(h:SetAt w sb sc n ws)(hb:bZ n ws i=true):
  Calls prog 225 #[.pointer (some ⟨sb,0,none⟩),.int .i64 i,.int .i64 p] w fun e w'=>e=.returned (.tuple #[])/\SetAt w' sb sc n (bN n ws i false)/\Kt (fun x=>x=sc) w w'/\w'.heap.size=w.heap.size:=by
 have HG:=aA (mJ sb sc n ws i w h);rw[hb] at HG;have HP:=aA (sX sb sc n ws i false w h);clear h hb;go_enter func225,ntmps225;go_wp2_with fail;refine HG.out.mono ?_;rintro e w1 ⟨rfl,rfl⟩;go_wp2_with fail;refine(cJ _ _).mono ?_;rintro e w2 ⟨rfl,rfl⟩;go_wp2_with fail;refine HP.out.mono ?_;rintro e w3 ⟨rfl,h1,h2,h3⟩;have HH:=aA (show SetAt w3 sb sc n (bN n ws i false)/\Kt (fun x=>x=sc) w2 w3/\w3.heap.size=w2.heap.size from⟨h1,h2,h3⟩);clear h1 h2 h3;go_wp2_with fail;first|go_end0|go_ret
 exact⟨rfl,HH.out⟩
def lW(w:World)(n:Nat)(B:Nat->Bool)(e:Ending)(w':World):Prop:=∃ sb sc ws,e=.returned (.pointer (some ⟨sb,0,none⟩))/\SetAt w' sb sc n ws/\w.heap.size<=sb/\w.heap.size<=sc/\(∀ i,i<n->aF ws i=B i)/\Kt nO w w'
theorem ZZ(xs:Array Value)(w:World):Sem.run prog (callFunc 224 xs) w=.ok (.enter 224 xs) w:=by
 simp[callFunc,go_sem,func224];rfl
theorem JC(b cb:Nat)(I:Img)(V:ImV)(S:Pg->Bool)(w:World)(hI:ImAt w b I V)(hnp:I.np<=1024)
  (HS:∀ i W,i<I.np->Kt nO w W->Calls prog 224 #[fF (I.pg i),.pointer (some ⟨cb,0,none⟩)] W fun e w'=>e=.returned (.bool (S (I.pg i)))/\Kt nO W w'):
  Calls prog 223 #[.pointer (some ⟨b,0,none⟩),.func (.func 224) #[] #[.pointer (some ⟨cb,0,none⟩)]] w (lW w I.np fun i=>S (I.pg i)):=by
 obtain⟨-,⟨pa,pc,hp⟩,-,-,-,-,bp,-,-⟩:=hI.d.sl;obtain⟨c0,c1,c2,c3,c4,c5,c6,c7,c8⟩:=hI.cells;rw[hp] at c5;have HI:=aA hI;have SP:=aA hp;have HSC:=aA HS;obtain⟨n,hn⟩:=xe (I.np);rw[<-hn] at hnp c5;have HN:=aA hn;have hent:=ZZ;clear hI hp HS bp;have GOAL:=aA (show ∀ W' ws,SetAt W' (w.heap.size+1) w.heap.size n ws->(∀ i,i<n->aF ws i=S (I.pg i))->Kt nO w W'->lW w I.np (fun i=>S (I.pg i)) (.returned (.pointer (some ⟨w.heap.size+1,0,none⟩))) W' from fun W' ws h1 h2 h3=>⟨_,_,ws,rfl,by rw[<-hn];exact h1,Nat.le_succ _,Nat.le_refl _,by rw[<-hn];exact h2,h3⟩);clear hn;go_enter func223,ntmps223;go_wp2_with fail;refine(rS (n:Int) (by omega) (by omega) w).mono ?_;rintro e w1 ⟨rfl,hraw,hk,hsz⟩;have hfit:dE (n:Int)=n:=by unfold dE;split <;> (try split) <;> omega
 rw[hfit] at hraw;have ST:=aA (hraw.set (fun i hi=>by rw[nP];exact Nat.two_pow_pos _));have K1:=aA (show Kt nO w w1 from hk);have SIZ:=aA (show w.heap.size<w1.heap.size by omega);have GE:=aA (show w.heap.size<=w.heap.size from Nat.le_refl _);generalize hsb:w.heap.size+1=sb at *;generalize hsc:w.heap.size=sc at *;have HSC0:=aA hsc;have d5:w1.cell? ⟨b,5,none⟩=some (.slice pa n pc):=K1.out.cell (fun x=>x) c5;clear hraw hk hsz hfit hsb hsc c0 c1 c2 c3 c4 c5 c6 c7 c8;go_wp2_with fail;clear d5;go_loopw [19] (fun i W=>∃ a:Nat,a<=n/\i=.int .i64 a/\Hid (Kt nO w W/\∃ ws,SetAt W sb sc n ws/\(∀ j,j<a->aF ws j=S (I.pg j)))) (fun i _=>n-(intOf i).toNat)
 case atStart=>exact⟨0,Nat.zero_le _,rfl,aA ⟨K1.out,_,ST.out,fun x hx=>by omega⟩⟩
 case round=>
  clear K1 ST SIZ;obtain⟨a,ha,rfl,hR⟩:=hrel;have A0:=aA (HI.out.keep hR.out.1);by_cases hlt:a<n
  ·have hai:(a:Int)<n:=(by omega);have hlt':a<I.np:=(by rw[<-HN.out];exact hlt);obtain⟨bl,o,oc',hv',hpi,hpc⟩:=A0.out.page a hlt';rw[SP.out] at hv';injection hv' with e1 e2 e3
   subst e1;obtain⟨hkw,ws,hst,hbt⟩:=hR.out;have PB:=aA (PbI.mk' (w:=w) A0.out hkw (I.pg a));have ST1:=aA (hst.kept (show Kt nO wr (wr.alloc (aV (I.pg a)))from(Kt.refl _ _).alloc _) (fun x=>x) (fun x=>x));have BT:=aA hbt;have HLN:=aA hst.len;have HCL:=aA (fun W hW=>HSC.out a W hlt' hW);obtain⟨sv,hsv⟩:=xe (S (I.pg a));rw[<-hsv] at HCL;have HSV:=aA hsv;obtain⟨d0,d1,d2,d3,d4,d5,d6,d7,d8,d9,d10⟩:=hpc.c;clear hpi hpc e2 e3 hkw hst hbt hsv;go_wp2_with fail;generalize hpp:I.pg a=p at *;have HPP:=aA hpp;clear hpp;generalize wr.alloc (aV p)=W1 at *;generalize wr.heap.size=g at *;refine(HCL.out W1 PB.out.k).mono ?_;rintro e w2 ⟨rfl,hk⟩;have PB2:=aA (PB.out.keep hk);have ST2:=aA (ST1.out.kept hk (fun x=>x) (fun x=>x));clear hk d0 d1 d2 d3 d4 d5 d6 d7 d8 d9 d10;go_wp2_with fail;refine(sX sb sc n ws (a:Int) sv w2 ST2.out).mono ?_;rintro e w3 ⟨rfl,h1,h2,h3⟩;have R2:=aA (show Kt nO w w3/\∃ ws,SetAt w3 sb sc n ws/\(∀ j,j<a+1->aF ws j=S (I.pg j))from⟨PB2.out.k.trans h2 (fun _ _ x=>x) (fun x hx e=>by have:=HSC0.out;omega),_,h1,fun j hj=>by
    rw[rI HLN.out a hlt sv j];by_cases e:j=a
    ·rw[if_pos e,e,HSV.out,HPP.out]
    ·rw[if_neg e];exact BT.out j (by omega)⟩)
   clear h1 h2 h3;go_wp2_with fail;go_round
   case rel=>exact⟨a+1,by omega,by go_num,R2⟩
   case measure=>simp[intOf];omega
  ·obtain rfl:a=n:=(by omega);have hai:¬(a:Int)<a:=(by omega);go_wp2_with fail;go_ret;obtain⟨h1,ws,h2,h3⟩:=hR.out;exact GOAL.out wr ws h2 h3 h1
theorem ZY(xs:Array Value)(w:World):Sem.run prog (callFunc 229 xs) w=.ok (.enter 229 xs) w:=by
 simp[callFunc,go_sem,func229];rfl
theorem JB(b cb:Nat)(I:Img)(V:ImV)(S:Pg->Bool)(w:World)(hI:ImAt w b I V)(hnp:I.np<=1024)
  (HS:∀ i W,i<I.np->Kt nO w W->Calls prog 229 #[fF (I.pg i),.pointer (some ⟨cb,0,none⟩)] W fun e w'=>e=.returned (.bool (S (I.pg i)))/\Kt nO W w'):
  Calls prog 223 #[.pointer (some ⟨b,0,none⟩),.func (.func 229) #[] #[.pointer (some ⟨cb,0,none⟩)]] w (lW w I.np fun i=>S (I.pg i)):=by
 obtain⟨-,⟨pa,pc,hp⟩,-,-,-,-,bp,-,-⟩:=hI.d.sl;obtain⟨c0,c1,c2,c3,c4,c5,c6,c7,c8⟩:=hI.cells;rw[hp] at c5;have HI:=aA hI;have SP:=aA hp;have HSC:=aA HS;obtain⟨n,hn⟩:=xe (I.np);rw[<-hn] at hnp c5;have HN:=aA hn;have hent:=ZY;clear hI hp HS bp;have GOAL:=aA (show ∀ W' ws,SetAt W' (w.heap.size+1) w.heap.size n ws->(∀ i,i<n->aF ws i=S (I.pg i))->Kt nO w W'->lW w I.np (fun i=>S (I.pg i)) (.returned (.pointer (some ⟨w.heap.size+1,0,none⟩))) W' from fun W' ws h1 h2 h3=>⟨_,_,ws,rfl,by rw[<-hn];exact h1,Nat.le_succ _,Nat.le_refl _,by rw[<-hn];exact h2,h3⟩);clear hn;go_enter func223,ntmps223;go_wp2_with fail;refine(rS (n:Int) (by omega) (by omega) w).mono ?_;rintro e w1 ⟨rfl,hraw,hk,hsz⟩;have hfit:dE (n:Int)=n:=by unfold dE;split <;> (try split) <;> omega
 rw[hfit] at hraw;have ST:=aA (hraw.set (fun i hi=>by rw[nP];exact Nat.two_pow_pos _));have K1:=aA (show Kt nO w w1 from hk);have SIZ:=aA (show w.heap.size<w1.heap.size by omega);have GE:=aA (show w.heap.size<=w.heap.size from Nat.le_refl _);generalize hsb:w.heap.size+1=sb at *;generalize hsc:w.heap.size=sc at *;have HSC0:=aA hsc;have d5:w1.cell? ⟨b,5,none⟩=some (.slice pa n pc):=K1.out.cell (fun x=>x) c5;clear hraw hk hsz hfit hsb hsc c0 c1 c2 c3 c4 c5 c6 c7 c8;go_wp2_with fail;clear d5;go_loopw [19] (fun i W=>∃ a:Nat,a<=n/\i=.int .i64 a/\Hid (Kt nO w W/\∃ ws,SetAt W sb sc n ws/\(∀ j,j<a->aF ws j=S (I.pg j)))) (fun i _=>n-(intOf i).toNat)
 case atStart=>exact⟨0,Nat.zero_le _,rfl,aA ⟨K1.out,_,ST.out,fun x hx=>by omega⟩⟩
 case round=>
  clear K1 ST SIZ;obtain⟨a,ha,rfl,hR⟩:=hrel;have A0:=aA (HI.out.keep hR.out.1);by_cases hlt:a<n
  ·have hai:(a:Int)<n:=(by omega);have hlt':a<I.np:=(by rw[<-HN.out];exact hlt);obtain⟨bl,o,oc',hv',hpi,hpc⟩:=A0.out.page a hlt';rw[SP.out] at hv';injection hv' with e1 e2 e3
   subst e1;obtain⟨hkw,ws,hst,hbt⟩:=hR.out;have PB:=aA (PbI.mk' (w:=w) A0.out hkw (I.pg a));have ST1:=aA (hst.kept (show Kt nO wr (wr.alloc (aV (I.pg a)))from(Kt.refl _ _).alloc _) (fun x=>x) (fun x=>x));have BT:=aA hbt;have HLN:=aA hst.len;have HCL:=aA (fun W hW=>HSC.out a W hlt' hW);obtain⟨sv,hsv⟩:=xe (S (I.pg a));rw[<-hsv] at HCL;have HSV:=aA hsv;obtain⟨d0,d1,d2,d3,d4,d5,d6,d7,d8,d9,d10⟩:=hpc.c;clear hpi hpc e2 e3 hkw hst hbt hsv;go_wp2_with fail;generalize hpp:I.pg a=p at *;have HPP:=aA hpp;clear hpp;generalize wr.alloc (aV p)=W1 at *;generalize wr.heap.size=g at *;refine(HCL.out W1 PB.out.k).mono ?_;rintro e w2 ⟨rfl,hk⟩;have PB2:=aA (PB.out.keep hk);have ST2:=aA (ST1.out.kept hk (fun x=>x) (fun x=>x));clear hk d0 d1 d2 d3 d4 d5 d6 d7 d8 d9 d10;go_wp2_with fail;refine(sX sb sc n ws (a:Int) sv w2 ST2.out).mono ?_;rintro e w3 ⟨rfl,h1,h2,h3⟩;have R2:=aA (show Kt nO w w3/\∃ ws,SetAt w3 sb sc n ws/\(∀ j,j<a+1->aF ws j=S (I.pg j))from⟨PB2.out.k.trans h2 (fun _ _ x=>x) (fun x hx e=>by have:=HSC0.out;omega),_,h1,fun j hj=>by
    rw[rI HLN.out a hlt sv j];by_cases e:j=a
    ·rw[if_pos e,e,HSV.out,HPP.out]
    ·rw[if_neg e];exact BT.out j (by omega)⟩)
   clear h1 h2 h3;go_wp2_with fail;go_round
   case rel=>exact⟨a+1,by omega,by go_num,R2⟩
   case measure=>simp[intOf];omega
  ·obtain rfl:a=n:=(by omega);have hai:¬(a:Int)<a:=(by omega);go_wp2_with fail;go_ret;obtain⟨h1,ws,h2,h3⟩:=hR.out;exact GOAL.out wr ws h2 h3 h1
end Go.Proofs.YtkfmheelhinjdaaGreatDoor.W
namespace Go.Proofs.YtkfmheelhinjdaaGreatDoor.W
open _root_.Go.Proofs.Tryz
set_option linter.unusedVariables false
def gT(a b:Nat×Nat):Prop:=a.1<b.1\/(a.1=b.1/\a.2<=b.2)
def jD(a b:Nat×Nat):Prop:=a.1<b.1\/(a.1=b.1/\a.2<b.2)
theorem QT(a:Nat×Nat):gT a a:=.inr ⟨rfl,Nat.le_refl _⟩
theorem QS{a b:Nat×Nat}(h:gT a b)(k:gT b a):a=b:=by unfold gT at *;exact Prod.ext (by omega) (by omega)
theorem YJ{a b:Nat×Nat}(h:¬jD b a):gT a b:=by unfold gT jD at *;omega
instance (a b:Nat×Nat):Decidable (jD a b):=by unfold jD;infer_instance
theorem xL:∀ (l m:List (Nat×Nat)),l.Pairwise gT->m.Pairwise gT->(∀ x,l.count x=m.count x)->l=m
 | [],[],_,_,_=>rfl
 | [],b :: m,_,_,h=>by have:=h b;simp at this
 | a :: l,[],_,_,h=>by have:=h a;simp at this
 | a :: l,b :: m,hl,hm,h=>by
  obtain⟨a1,a2⟩:=List.pairwise_cons.1 hl;obtain⟨b1,b2⟩:=List.pairwise_cons.1 hm;have e:a=b:=by
   have m1:a∈b :: m:=List.count_pos_iff.1 (by rw[<-h a];exact List.count_pos_iff.2 List.mem_cons_self);have m2:b∈a :: l:=List.count_pos_iff.1 (by rw[h b];exact List.count_pos_iff.2 List.mem_cons_self);rcases List.mem_cons.1 m1 with e|e
   ·exact e
   ·rcases List.mem_cons.1 m2 with e2|e2
    ·exact e2.symm
    ·exact QS (a1 b e2) (b1 a e)
  subst e;refine congrArg (a :: ·) (xL l m a2 b2 fun x=>?_);have:=h x;rw[List.count_cons,List.count_cons] at this;omega
def lY(a b l:List (Nat×Nat)):Prop:=l.Pairwise gT/\∀ x,l.count x=a.count x-b.count x
theorem lY.uniq{a b l m:List (Nat×Nat)}(h:lY a b l)(k:lY a b m):l=m:=xL l m h.1 k.1 fun x=>(h.2 x).trans (k.2 x).symm
theorem zZ{l m:List (Nat×Nat)}(h:∀ x,l.count x<=m.count x):l.length<=m.length:=by
 induction l generalizing m with
 | nil=>exact Nat.zero_le _
 | cons a l ih=>
  have ha:a∈m:=List.count_pos_iff.1 (Nat.lt_of_lt_of_le (List.count_pos_iff.2 List.mem_cons_self) (h a));have:=ih (m:=m.erase a) fun x=>by
   have h1:=h x;rw[List.count_cons] at h1;rw[List.count_erase];by_cases e:a=x
   ·subst e;simp at h1 ⊢;omega
   ·simp[e] at h1 ⊢;omega
  rw[List.length_erase_of_mem ha] at this;have:=List.length_pos_of_mem ha;rw[List.length_cons];omega
def fB(f:Nat×Nat->Nat)(ks:List (Nat×Nat)):List (Nat×Nat):=(ks.map fun k=>List.replicate (f k) k).flatten
theorem xK(f:Nat×Nat->Nat)(ks:List (Nat×Nat))(k:Nat×Nat):fB f (ks ++ [k])=fB f ks ++ List.replicate (f k) k:=by unfold fB;simp
theorem JT{f:Nat×Nat->Nat}{ks:List (Nat×Nat)}{x:Nat×Nat}(h:x∈fB f ks):x∈ks:=by
 unfold fB at h;obtain⟨l,hl,hx⟩:=List.mem_flatten.1 h;obtain⟨k,hk,rfl⟩:=List.mem_map.1 hl;rw[(List.mem_replicate.1 hx).2];exact hk
theorem BN(f:Nat×Nat->Nat):∀ ks:List (Nat×Nat),ks.Pairwise gT->(fB f ks).Pairwise gT
 | [],_=>.nil
 | k :: ks,h=>by
  obtain⟨h1,h2⟩:=List.pairwise_cons.1 h;have e:fB f (k :: ks)=List.replicate (f k) k ++ fB f ks:=by unfold fB;simp
  rw[e];refine List.pairwise_append.2 ⟨List.pairwise_replicate.2 (.inr (QT k)),BN f ks h2,fun x hx y hy=>?_⟩;rw[(List.mem_replicate.1 hx).2];exact h1 y (JT hy)
theorem uL(f:Nat×Nat->Nat):∀ ks:List (Nat×Nat),ks.Nodup->∀ x,(fB f ks).count x=if x∈ks then f x else 0
 | [],_,x=>by simp[fB]
 | k :: ks,h,x=>by
  obtain⟨h1,h2⟩:=List.nodup_cons.1 h;have e:fB f (k :: ks)=List.replicate (f k) k ++ fB f ks:=by unfold fB;simp
  rw[e,List.count_append,uL f ks h2,List.count_replicate];by_cases e2:k=x
  ·subst e2;simp[h1]
  ·have e3:¬x=k:=fun h=>e2 h.symm
   simp[e2,e3]
theorem MX{a b ks:List (Nat×Nat)}(hs:ks.Pairwise gT)(hn:ks.Nodup)(hm:∀ x,x∈ks↔x∈a):lY a b (fB (fun x=>a.count x-b.count x) ks):=by
 refine⟨BN _ _ hs,fun x=>?_⟩;rw[uL _ _ hn];split
 ·rfl
 ·rename_i h;rw[hm] at h;rw[List.count_eq_zero.2 h];omega
theorem MV(f:Nat×Nat->Nat)(a:List (Nat×Nat))(ks:List (Nat×Nat))(hn:ks.Nodup)(hf:∀ x,f x<=a.count x):(fB f ks).length<=a.length:=
 zZ fun x=>by
  rw[uL _ _ hn];split
  ·exact hf x
  ·omega
end Go.Proofs.YtkfmheelhinjdaaGreatDoor.W
