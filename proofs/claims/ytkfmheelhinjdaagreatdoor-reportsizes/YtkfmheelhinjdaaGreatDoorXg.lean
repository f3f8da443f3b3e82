import Derived.Test.YtkfmheelhinjdaaGreatDoorXf
set_option maxRecDepth 1000000
set_option maxHeartbeats 80000000
namespace Go.Proofs.YtkfmheelhinjdaaGreatDoor.W
open Tryz
open Go.RowKit
set_option linter.unusedVariables false
abbrev wsP(p:Pg):List Nat:=[p.b0,p.b1,p.b2,p.b3]
def ok5(p:Pg):Bool:=!decide (p.kd=4) || ((decide (0<p.lv) && decide (p.lv=(aS (wsP p):Int))) && decide (bQ 256 (wsP p) (celN9 p.cl.toNat) = -1))
theorem TQ(p:Pg)(h:PgIn p):eV (wsP p) (dF 256)=wsP p:=by
 have e:dF 256=256:=by decide
 rw[e];unfold eV jC;rw[if_pos (by decide)];unfold over dO;rfl
theorem tP{w:World}{g:Nat}{p:Pg}(h:w.heap[g]?=some (aV p))(hp:PgIn p):Src w (.slice (some ⟨g,7,none⟩) 4 4) (wsP p):=by
 refine⟨fun i=>?_,some ⟨g,7,none⟩,4,rfl,.inr ⟨⟨g,7,none⟩,rfl,lH h,fun j hj=>?_⟩⟩
 ·obtain⟨-,-,-,-,-,-,-,h0,h1,h2,h3⟩:=hp;match i with
  | 0=>exact h0
  | 1=>exact h1
  | 2=>exact h2
  | 3=>exact h3
  | n+4=>simp
 ·have hj4:j<4:=hj;match j,hj4 with
  | 0,_=>simp[World.cell?,h,Addr.add]
  | 1,_=>simp[World.cell?,h,Addr.add]
  | 2,_=>simp[World.cell?,h,Addr.add]
  | 3,_=>simp[World.cell?,h,Addr.add]
theorem YK(b:Nat)(I:Img)(V:ImV)(k r:Nat)(hS:Sn9 I k r)(w:World)(hI:ImAt w b I V):
  Calls prog 169 #[.pointer (some ⟨b,0,none⟩)] w fun e w'=>e=aZ (fst1 I.np fun i=>ok5 (I.pg i))/\Kt nO w w':=by
 obtain⟨-,⟨pa,pc,hp⟩,-,-,-,-,bp,-,-⟩:=hI.d.sl;obtain⟨c0,c1,c2,c3,c4,c5,c6,c7,c8⟩:=hI.cells;rw[hp] at c5;obtain⟨EE,hEE⟩:=xe (aZ (fst1 I.np fun i=>ok5 (I.pg i)));rw[<-hEE];have HE:=aA hEE;have HI:=aA hI;have HS:=aA hS;have SP:=aA hp;have hnp:=hS.np1;obtain⟨n,hn⟩:=xe (I.np);rw[<-hn] at hnp c5;have HN:=aA hn;clear hEE hI hp hS hn bp;go_enter func169,ntmps169;go_wp2_with fail;go_loopw [10] (fun i W=>∃ a:Nat,a<=n/\i=.int .i64 a/\Hid (Kt nO w W/\∀ x,x<a->ok5 (I.pg x)=true)) (fun i _=>n-(intOf i).toNat)
 case atStart=>exact⟨0,Nat.zero_le _,rfl,aA ⟨Kt.refl _ _,fun x hx=>by omega⟩⟩
 case round=>
  clear c0 c1 c2 c3 c4 c5 c6 c7 c8;obtain⟨a,ha,rfl,hR⟩:=hrel;have A0:=aA (HI.out.keep hR.out.1);by_cases hlt:a<n
  ·have hai:(a:Int)<n:=(by omega);have hlt':a<I.np:=(by rw[<-HN.out];exact hlt);obtain⟨bl,o,oc',hv',hpi,hpc⟩:=A0.out.page a hlt';rw[SP.out] at hv';injection hv' with e1 e2 e3
   subst e1;obtain⟨kd,od,cc,ll,y1,y2,y3,y4,y5,y6,y7,y8,-⟩:=HS.out.pg a hlt';have FB:=aA (show ok5 (I.pg a)=false->bM (a:Int)=EE from fun h=>by rw[HE.out,jZ (ok:=fun i=>ok5 (I.pg i)) hlt' hR.out.2 h];rfl);have GA:=aA (show ok5 (I.pg a)=true->∀ x,x<a+1->ok5 (I.pg x)=true from fun h x hx=>by
    by_cases e:x=a
    ·rw[e];exact h
    ·exact hR.out.2 x (by omega))
   have OK:=aA (show ok5 (I.pg a)=(!decide ((I.pg a).kd=4) || ((decide (0<(I.pg a).lv) && decide ((I.pg a).lv=(aS (wsP (I.pg a)):Int))) && decide (bQ 256 (wsP (I.pg a)) (celN9 (I.pg a).cl.toNat) = -1)))from rfl);rw[y5,Int.toNat_natCast] at OK;have PB:=aA (PbI.mk' (w:=w) A0.out hR.out.1 (I.pg a));have SR:=aA (tP PB.out.pb hpi);have OW:=aA (TQ (I.pg a) hpi);have HCE:=aA (fun W=>tI (I.pg a) cc y5 y6 W);have hcb:=lX cc y6;generalize celN9 cc=cn at *;obtain⟨d0,d1,d2,d3,d4,d5,d6,d7,d8,d9,d10⟩:=hpc.c;generalize ok5 (I.pg a)=okv at *;generalize I.pg a=p at *;clear hpi hpc e2 e3 y1 y2 y3 y4 y5 y6 y7 y8;by_cases hk4:p.kd=4
   case neg=>
    have R2:=aA (show Kt nO w (wr.alloc (aV p))/\_ from⟨hR.out.1.alloc _,GA.out (by rw[OK.out];simp[hk4])⟩);have f2:(p.kd != 4)=true:=(by rw[bne_iff_ne];exact hk4);clear hk4;go_wp2_with fail;go_round
    case rel=>exact⟨a+1,by omega,by go_num,R2⟩
    case measure=>simp[intOf];omega
   have OK2:=aA (show okv=((decide (0<p.lv) && decide (p.lv=(aS (wsP p):Int))) && decide (bQ 256 (wsP p) cn = -1))by rw[OK.out,decide_eq_true hk4];rfl);have f2:(p.kd != 4)=false:=(by rw[bne_eq_false_iff_eq];exact hk4);clear hk4;generalize hws:wsP p=ws at *;clear hws;go_wp2_with fail;generalize wr.alloc (aV p)=W1 at *;generalize wr.heap.size=g at *;refine(pS (.slice (some ⟨g,7,none⟩) 4 4) ws 256 (by decide) (by decide) W1 SR.out).mono ?_;rintro e w1 ⟨rfl,hset,hk,hsz⟩;rw[OW.out] at hset;have PB1:=aA (PB.out.keep hk);have ST:=aA hset;generalize W1.heap.size+1=sb at *;generalize W1.heap.size=sc at *;obtain⟨cw,hcw⟩:=xe (aS ws);have HCT:=aA (fun (x:KW w1)=>qZ sb sc _ ws x.v (ST.out.kept x.k (fun x=>x) (fun x=>x)));rw[<-hcw] at HCT;have HNX:=aA (fun (W:World) (hW:Kt nO w1 W)=>xU sb sc _ ws (cn:Int) (by omega) W (ST.out.kept hW (fun x=>x) (fun x=>x)));obtain⟨nv,hnv⟩:=xe (bQ 256 ws cn);have HNE:nxt (dF 256) ws (cn:Int)=nv:=(by rw[hnv];unfold nxt;rw[Int.toNat_natCast];rfl);rw[HNE] at HNX;rw[<-hcw,<-hnv] at OK2;clear hset hk hsz hcw hnv HNE OK;obtain⟨p0,p1,p2,p3,p4,p5,p6,p7,p8,p9,p10⟩:=PB1.out.all;clear d0 d1 d2 d3 d4 d5 d6 d7 d8 d9 d10;by_cases g1 : 0<p.lv
   case neg=>
    have R2:=aA (FB.out (by rw[OK2.out,decide_eq_false g1];rfl));have f1:decide (0<p.lv)=false:=decide_eq_false g1;go_wp2_with fail;refine fS (by kernel_rfl) (by kernel_rfl) (by exact List.cons_ne_nil _ _) ?_;dsimp only[List.dropLast,List.getLast];repeat (go_big_quiet_step (fail))
    refine wpQuiet_nil ?_;refine⟨rfl,?_⟩;rintro _ ⟨x,rfl⟩;exact fR (p:=(a:Int)) rfl rfl rfl fun _ hd=>⟨hd,R2.out,nT PB1.out.k x.k⟩
   have f1:decide (0<p.lv)=true:=decide_eq_true g1;by_cases g2:p.lv=(cw:Int)
   case neg=>
    have R2:=aA (FB.out (by rw[OK2.out,decide_eq_false g2];simp));have f3:(p.lv == (cw:Int))=false:=(by rw[beq_eq_false_iff_ne];exact g2);clear g2;go_wp2_with fail;refine fS (by kernel_rfl) (by kernel_rfl) (by exact List.cons_ne_nil _ _) ?_;dsimp only[List.dropLast,List.getLast];repeat (go_big_quiet_step (first|(go_at_call 218;exact Calls.kept_of ((HCT.out _).mono fun _ _ ⟨h1,h2⟩=>⟨h1,h2▸Kt.refl _ _⟩))))
    refine wpQuiet_nil ?_;refine⟨rfl,?_⟩;rintro _ ⟨x,rfl⟩;exact fR (p:=(a:Int)) rfl rfl rfl fun _ hd=>⟨hd,R2.out,nT PB1.out.k x.k⟩
   have OK3:=aA (show okv=decide (nv = -1)by rw[OK2.out,f1,decide_eq_true g2];rfl);have f3:(p.lv == (cw:Int))=true:=(by rw[beq_iff_eq];exact g2);have HMY:=aA (fun W=>cG (a:Int) W);clear g2;go_wp2_with fail;refine dN (by kernel_rfl) (by kernel_rfl) ?_;repeat (go_big_quiet_step (first|(go_at_call 218;exact Calls.kept_of ((HCT.out _).mono fun _ _ ⟨h1,h2⟩=>⟨h1,h2▸Kt.refl _ _⟩))|(go_at_call 212;exact Calls.kept_of ((HMY.out _).mono fun _ _ ⟨h1,h2⟩=>⟨h1,h2▸Kt.refl _ _⟩))))
   refine wpQuiet_nil ?_;intro x;go_wp2_with fail;refine(HCE.out _).mono ?_;rintro e w3 ⟨rfl,hk⟩;have K3:=aA (nT PB1.out.k (nT x.k hk));have NX:=aA (HNX.out w3 (nT x.k hk));clear p0 p1 p2 p3 p4 p5 p6 p7 p8 p9 p10 hk;by_cases g3:nv = -1
   case neg=>
    have R2:=aA (FB.out (by rw[OK3.out,decide_eq_false g3]));have f4:(nv == -1)=false:=(by rw[beq_eq_false_iff_ne];exact g3);clear g3;go_wp2_with fail;refine NX.out.mono ?_;rintro e w4 ⟨rfl,rfl⟩;go_wp2_with fail;refine(dD _ _).mono ?_;rintro e w5 ⟨rfl,rfl⟩;exact⟨rfl,R2.out,K3.out⟩
   have R2:=aA (show Kt nO w w3/\_ from⟨K3.out,GA.out (by rw[OK3.out,decide_eq_true g3])⟩);have f4:(nv == -1)=true:=(by rw[beq_iff_eq];exact g3);clear g3;go_wp2_with fail;refine NX.out.mono ?_;rintro e w4 ⟨rfl,rfl⟩;go_wp2_with fail;refine(cG _ _).mono ?_;rintro e w5 ⟨rfl,rfl⟩;go_wp2_with fail;go_round
   case rel=>exact⟨a+1,by omega,by go_num,R2⟩
   case measure=>simp[intOf];omega
  ·obtain rfl:a=n:=(by omega);have hai:¬(a:Int)<a:=(by omega);have E:=aA (show Ending.returned (.tuple #[])=EE by rw[HE.out,fst1_ok (fun x hx=>hR.out.2 x (by rw[HN.out];exact hx))];rfl);go_wp2_with fail;first|go_end0|go_ret
   exact⟨E.out,hR.out.1⟩
theorem eX.at{w:World}{a:Option Addr}{n c m:Nat}{C:Nat->Nat->Nat->Prop}(h:eX w (.slice a n c) m C)(i:Nat)(hi:i<m):∃ bl o,a=some ⟨bl,o,none⟩/\bl<w.heap.size/\∀ i,i<m->C bl o i:=by
 obtain⟨_,oa,oc,hv,h3⟩:=h;injection hv with e1
 rcases h3 with h3|⟨bl,o,e,hl,hc⟩
 ·omega
 ·exact⟨bl,o,by rw[e1,e],hl,hc⟩
theorem sR(b:Nat)(I:Img)(V:ImV)(q:Nat)(w:World)(hI:ImAt w b I V)(hq:q+8<=I.nm)(hb:I.bS+I.nm<=9223372036854775808):
  Calls prog 227 #[.pointer (some ⟨b,0,none⟩),.int .u64 ((I.bS+q:Nat):Int)] w fun e w'=>e=.returned (.int .u64 ((M.word I.mem q:Nat):Int))/\∃ m,w'=w.drewN m:=by
 obtain⟨⟨ma,mc,hm⟩,-⟩:=hI.d.sl;have hMM:=hI.d.mem;have hcp:=hI.d.mcp _ _ _ hm;rw[hm] at hMM;obtain⟨bl,o,rfl,-,hc⟩:=hMM.at q (by omega);obtain⟨c0,c1,c2,c3,c4,c5,c6,c7,c8⟩:=hI.cells;rw[hm] at c4;have HC:=aA (fun i (hi:i<8)=>hc (q+i) (by omega));obtain⟨B,hB⟩:=xe (I.bS);obtain⟨nm,hnm⟩:=xe (I.nm);rw[<-hB] at c0 hb ⊢;rw[<-hnm] at c4 hb hq hcp;obtain⟨ad,had⟩:=xe (B+q);rw[<-had];have hsub:(ad:Int)-(B:Int)=q:=by omega
 have had1:ad<9223372036854775808:=by omega
 have hq1:q<9223372036854775808:=by omega
 obtain⟨F,hF⟩:=xe (I.mem);rw[<-hF] at HC ⊢;obtain⟨RR,hRR⟩:=xe (M.word F q);rw[<-hRR];have HRR:=aA hRR;clear hB hnm had hI hm hMM hc hF hRR;go_enter func227,ntmps227;go_wp2_with fail;go_quiet (fail)
 go_wp2_with fail;have c4':(w.drewN nq).cell? ⟨b,4,none⟩=some (.slice (some ⟨bl,o,none⟩) nm mc):=c4;go_loop [5,25] (fun v i=>∃ k:Nat,k<=8/\i=.int .i64 k/\v=.int .u64 ((M.wordTo (fun i=>F (q+i)) k:Nat):Int)) (fun _ i=>8-(intOf i).toNat)
 case atStart=>exact⟨0,by omega,rfl,rfl⟩
 case round=>
  obtain⟨k,hk,rfl,rfl⟩:=hrel;by_cases hlt:k<8
  ·have hc:=(HC.out k hlt).2;rw[<-Nat.add_assoc] at hc;have E:=aA (M.word_step (M.wordTo (fun i=>F (q+i)) k) k (F (q+k)) hlt (HC.out k hlt).1 (M.wordTo_lt _ _ (fun i hi=>(HC.out i (by omega)).1)));go_wp2
   refine⟨⟨k+1,by omega,by simp,?_⟩,by simp[intOf];omega⟩;rw[E.out];rfl
  ·obtain rfl:k=8:=(by omega);go_wp2
   go_ret;exact⟨by rw[HRR.out];rfl,_,rfl⟩
def decP(I:Img)(p:Nat):Option Nat:=if I.bS<=p/\p-I.bS<I.nm/\(p-I.bS)%4096=0 then some ((p-I.bS)/4096) else none
def kT(x:Option Nat):Int:=match x with|some i=>(i:Int)|none => -1
theorem UW(b:Nat)(I:Img)(V:ImV)(p:Nat)(hp:p<18446744073709551616)(w:World)(hI:ImAt w b I V)(hb:I.bS+I.nm<=9223372036854775808):
  Calls prog 226 #[.pointer (some ⟨b,0,none⟩),.int .u64 p] w fun e w'=>e=.returned (.int .i64 (kT (decP I p)))/\w'=w:=by
 obtain⟨⟨ma,mc,hm⟩,-⟩:=hI.d.sl;obtain⟨c0,c1,c2,c3,c4,c5,c6,c7,c8⟩:=hI.cells;rw[hm] at c4;obtain⟨B,hB⟩:=xe (I.bS);obtain⟨nm,hnm⟩:=xe (I.nm);have hd:decP I p=if B<=p/\p-B<nm/\(p-B)%4096=0 then some ((p-B)/4096) else none:=by rw[hB,hnm];rfl
 rw[hd];rw[<-hB] at c0 hb;rw[<-hnm] at c4 hb;clear hB hnm hI hm hd;by_cases h1:p<B
 ·rw[if_neg (by omega)];obtain⟨x,hx⟩:=xe (18446744073709551616-(B-p));have hw:IntKind.u64.wrap ((p:Int)-(B:Int))=(x:Int):=by rw[wrap_u64];omega
  have h2:¬(x:Int)<nm:=by omega
  have h3:(nm:Int)<=x:=by omega
  have h4:nm<=x:=by omega
  clear hx;go_enter func226,ntmps226;go_wp2
  go_ret;exact⟨rfl,rfl⟩
 ·obtain⟨x,rfl⟩:∃ x,p=B+x:=⟨p-B,by omega⟩;rw[Nat.add_sub_cancel_left];have hw:((B+x:Nat):Int)-(B:Int)=x:=by omega
  have hle:B<=B+x:=by omega
  by_cases h2:x<nm
  ·by_cases h3:x%4096=0
   ·rw[if_pos ⟨hle,h2,h3⟩];have f2:¬(nm:Int)<=x:=(by omega);have f2':¬nm<=x:=(by omega);have f3:((x:Int)%4096 != 0)=false:=(by rw[bne_eq_false_iff_eq];omega);have f4:(x:Int)/4096=((x/4096:Nat):Int):=(by omega);have f5:x/4096<9223372036854775808:=(by omega);obtain⟨y,hy⟩:=xe (x/4096);rw[<-hy] at f4 f5 ⊢;generalize B+x=p at *;clear h3 hy hle;go_enter func226,ntmps226;go_wp2
    go_ret;exact⟨rfl,rfl⟩
   ·rw[if_neg (by omega)];have f2:¬(nm:Int)<=x:=(by omega);have f2':¬nm<=x:=(by omega);have f3:((x:Int)%4096 != 0)=true:=(by rw[bne_iff_ne];omega);generalize B+x=p at *;clear h3 hle;go_enter func226,ntmps226;go_wp2
    go_ret;exact⟨rfl,rfl⟩
  ·rw[if_neg (by omega)];have f2:(nm:Int)<=x:=(by omega);have f2':nm<=x:=(by omega);generalize B+x=p at *;clear hle;go_enter func226,ntmps226;go_wp2
   go_ret;exact⟨rfl,rfl⟩
theorem qT{n:Nat}{ws:List Nat}(hl:ws.length=(n+63)/64)(i:Nat)(hi:i<n)(v:Bool)(j:Nat):aF (bN n ws (i:Int) v) j=if j=i then v else aF ws j:=by
 have hr:aB n (i:Int)=true:=by unfold aB;exact decide_eq_true (by omega)
 have hs:bY n ws (i:Int)=aF ws i:=by unfold bY;rw[hr,Int.toNat_natCast,Bool.true_and]
 unfold bN;rw[hs];by_cases e:aF ws i=v
 ·rw[if_pos e];by_cases ej:j=i
  ·rw[if_pos ej,ej,e]
  ·rw[if_neg ej]
 ·rw[if_neg e];unfold fK;rw[if_pos hr,Int.toNat_natCast,oW ws i j (by omega)];by_cases ej:j=i
  ·rw[if_pos ej,if_pos ej]
   cases h:aF ws i <;> cases v <;> simp_all
  ·rw[if_neg ej,if_neg ej]
theorem sI(sb sc n:Nat)(ws:List Nat)(i p:Int)(w:World)(h:SetAt w sb sc n ws)(hb:bY n ws i=false):
  Calls prog 225 #[.pointer (some ⟨sb,0,none⟩),.int .i64 i,.int .i64 p] w fun e w'=>e=bM p/\w'=w:=by
 have HG:=aA (lY sb sc n ws i w h);rw[hb] at HG;clear h hb;go_enter func225,ntmps225;go_wp2_with fail;refine HG.out.mono ?_;rintro e w1 ⟨rfl,rfl⟩;go_wp2_with fail;refine(dD _ _).mono ?_;rintro e w2 ⟨rfl,rfl⟩;exact⟨rfl,rfl,rfl⟩
theorem tD(sb sc n:Nat)(ws:List Nat)(i p:Int)(w:World)(h:SetAt w sb sc n ws)(hb:bY n ws i=true):
  Calls prog 225 #[.pointer (some ⟨sb,0,none⟩),.int .i64 i,.int .i64 p] w fun e w'=>e=.returned (.tuple #[])/\SetAt w' sb sc n (bN n ws i false)/\Kt (fun x=>x=sc) w w'/\w'.heap.size=w.heap.size:=by
 have HG:=aA (lY sb sc n ws i w h);rw[hb] at HG;have HP:=aA (sC sb sc n ws i false w h);clear h hb;go_enter func225,ntmps225;go_wp2_with fail;refine HG.out.mono ?_;rintro e w1 ⟨rfl,rfl⟩;go_wp2_with fail;refine(cG _ _).mono ?_;rintro e w2 ⟨rfl,rfl⟩;go_wp2_with fail;refine HP.out.mono ?_;rintro e w3 ⟨rfl,h1,h2,h3⟩;have HH:=aA (show SetAt w3 sb sc n (bN n ws i false)/\Kt (fun x=>x=sc) w2 w3/\w3.heap.size=w2.heap.size from⟨h1,h2,h3⟩);clear h1 h2 h3;go_wp2_with fail;first|go_end0|go_ret
 exact⟨rfl,HH.out⟩
end Go.Proofs.YtkfmheelhinjdaaGreatDoor.W
