import Derived.Test.YtbgbfpklgfpepaaGreatDoorXs
import Derived.Test.YtbgbfpklgfpepaaGreatDoorXv
set_option maxRecDepth 1000000
set_option maxHeartbeats 80000000
namespace Go.Proofs.YtbgbfpklgfpepaaGreatDoor
open Tryz
open Go.RowKit
open Go.MuLone
open Go.Proofs.YtbgbfpklgfpepaaGreatDoor.M (RS gJ mayB bE)
set_option linter.unusedVariables false
theorem bQ{W:World}{y p s:Nat}{v:Value}(h:W.heap[y]?=some (eY p s v)):W.cell? ⟨y,0,none⟩=some (.int .u64 p)/\W.cell? ⟨y,1,none⟩=some (.int .u64 s)/\W.cell? ⟨y,2,none⟩=some v:=by
 refine⟨?_,?_,?_⟩ <;> simp[World.cell?,h]
theorem oV{W W':World}{y p s:Nat}{v:Value}(h:W.heap[y]?=some (eY p s v))(k:Kt nO W W'):W'.heap[y]?=some (eY p s v):=(k.block _ (lH h) id).trans h
theorem jP{W W':World}{y:Nat}(h:W.heap[y]?=some cC)(k:Kt nO W W'):W'.heap[y]?=some cC:=(k.block _ (lH h) id).trans h
theorem GS.bk8{w W:World}{u:Value}{l:List He8}(h:GS w W 164 3 u l.length (dT l))(hb:∀ x∈l,M.Bytes w x.v x.s x.f)(hd:∀ x∈l,x.p+x.s<18446744073709551616/\16<=x.s/\x.s<=1048576)(hl:l.length<=300000)(hc:∀ x∈l,∃ va vc,x.v=.slice va x.s vc/\x.s<=vc):BK8 W u l:=
 ⟨h.own,fun x hx=>(hb x hx).keep (cH h.kp),hd,hl,hc⟩
theorem GS.old8{w w0 W:World}{e:TypeId}{size:Nat}{v:Value}{n:Nat}{xs:List Value}(h:GS w0 W e size v n xs)(k:Kt nO w w0):GS w W e size v n xs:=
 ⟨h.own,fun g cap e=>(h.new g cap e).imp (fun x=>x) (fun x=>Nat.le_trans k.size x),nT k h.kp⟩
theorem vN(bS:Nat)(lim o nr:Int)(v:Value)(l:List He8)(hl:l.length<300000)(p s:Nat)(xa:Option Addr)(xc:Nat)(w:World)(hB:BK8 w v l):
  Calls prog 151 #[aK bS lim o nr v,.agg #[.int .u64 p,.int .u64 s,.slice xa s xc]] w fun e w'=>∃ u,e=.returned (aK bS lim o nr u)/\GS w w' 164 3 u (l.length + 1) (dT l ++ [.int .u64 p,.int .u64 s,.slice xa s xc]):=by
 have K0:=((Kt.refl nO w).alloc (aM bS lim o nr v));have X0:=(nH w (aM bS lim o nr v));obtain⟨w1,hw1⟩:=xe (w.alloc (aM bS lim o nr v));have s1:w1.heap.size=w.heap.size+1:=by rw[hw1];simp
 rw[<-hw1] at K0 X0;have K1:=(Kt.refl nO w1).alloc (eY p s (.slice xa s xc));have X1:=nH w1 (eY p s (.slice xa s xc));obtain⟨w2,hw2⟩:=xe (w1.alloc (eY p s (.slice xa s xc)));have s2:w2.heap.size=w.heap.size+1+1:=by rw[hw2];simp[s1]
 rw[<-hw2] at K1 X1;have K2:=(Kt.refl nO w2).alloc cC;have X2:=nH w2 cC;have XX:=aA (show Kt nO w (w2.alloc cC)/\(w2.alloc cC).heap[w.heap.size]?=some (aM bS lim o nr v)/\(w2.alloc cC).heap[w1.heap.size]?=some (eY p s (.slice xa s xc))/\(w2.alloc cC).heap[w2.heap.size]?=some cC from⟨nT (nT K0 K1) K2,bK X0 (nT K1 K2),oV X1 K2,X2⟩);rw[s1,s2,hw2,hw1] at XX;have WO:=aA (fun W (k:Kt nO w W)=>show Calls prog 103 #[aK bS lim o nr v,.int .i64 (-1)] W fun e w'=>∃ u,e=.returned (aK bS lim o nr u)/\GS W w' 164 3 u l.length (dT l)from uM bS lim o nr v l none W (hB.keep k));clear hB X0 X1 X2 K0 K1 K2 s1 s2 hw2 hw1 w2 w1;obtain⟨m,hm⟩:=xe (l.length);have HM:=aA hm;rw[<-hm] at hl ⊢;clear hm;obtain⟨b0,b1,b2,b3,b4,bf⟩:=aD XX.out.2.1;obtain⟨h0,h1,h2⟩:=bQ XX.out.2.2.1;go_enter func151,ntmps151;go_wp2_with fail;refine(WO.out _ XX.out.1).mono ?_;rintro e w3 ⟨u,rfl,hG⟩;clear b0 b1 b2 b3 b4 bf h0 h1 h2 WO;obtain⟨ua,uc,rfl⟩:=eR hG.own;have KA:=(Kt.refl nO w3).alloc (aM bS lim o nr (.slice ua l.length uc));have L0:=show Wo8 w (w3.alloc (aM bS lim o nr (.slice ua l.length uc))) w.heap.size (w.heap.size+1+1) w3.heap.size bS lim o nr v l (.slice ua l.length uc)from⟨(hG.old8 XX.out.1).keep KA,nH w3 _,bK XX.out.2.1 (nT hG.kp KA),jP XX.out.2.2.2 (nT hG.kp KA)⟩
 obtain⟨h0,h1,h2⟩:=bQ (oV XX.out.2.2.1 (nT hG.kp KA));have hy3:w.heap.size+1+1<w3.heap.size:=Nat.lt_of_lt_of_le (lH XX.out.2.2.2) hG.kp.size;rw[<-HM.out] at L0 h0 h1 h2 ⊢;obtain⟨gg,cap,w9,hap,hG9,hge,hK9,_⟩:=BQ (by have:=L0.gs;rw[<-HM.out] at this;exact this) p s (.slice xa s xc) rfl (by omega);obtain⟨hb9,hW9⟩:=L0.put (by omega) (by omega) (by omega) (b:=⟨p,s,.slice xa s xc,fun _=>0⟩) HM.out hG9 hK9;obtain⟨s0,s1,s2,s3,s4,sf⟩:=aD L0.bx;obtain⟨t0,t1,t2,t3,t4,tf⟩:=aD hb9;obtain⟨q0,q1,q2,q3,q4,qf⟩:=aD hW9.bx;obtain⟨z0,z1,z2,z3,z4,zf⟩:=dE hW9.rb;have D:=aA (show GS w _ 164 3 (.slice (some ⟨gg,0,none⟩) (m + 1) cap) (m + 1) (dT l ++ [.int .u64 p,.int .u64 s,.slice xa s xc])from by
  have h5:=hW9.gs.set5 (y:=w.heap.size+1+1) (.int .u64 bS) (.int .i64 lim) (.int .i64 o) (.int .i64 nr) (.slice (some ⟨gg,0,none⟩) (m+1) cap) (by omega) (fun e=>by
   obtain⟨cs',hcs⟩:=cB hW9.gs.own e;exact absurd (bM hcs hW9.rb) (by decide))
  rw[uD,List.length_append,<-HM.out] at h5;exact h5)
 obtain⟨r0,r1,r2,r3,r4,rf⟩:=aD (dM (bS:=bS) (lim:=lim) (o:=o) (n:=nr) (v:=.slice (some ⟨gg,0,none⟩) (m+1) cap) hW9.rb);have HAP:=aA hap;clear hap hW9 hG9 hge hK9 hb9 L0 hG KA XX;generalize hw4:w3.alloc (aM bS lim o nr (.slice ua m uc))=w4 at *;go_wp2_with (at_builtin;refine Lib.wpList_append_run _ rfl _ _ _ _ rfl (.slice ua m uc) (.slice (some ⟨w4.heap.size,0,none⟩) 1 1) rfl rfl _ _ (HAP.out _) ?_)
 exact⟨rfl,aK bS lim o nr (.slice (some ⟨gg,0,none⟩) (m+1) cap),by simp[results,results151,go_sem,r0,r1,r2,r3,r4],_,rfl,D.out⟩
theorem BW{w0 W:World}{v:Value}{n:Nat}{xs:List Value}(h:GS w0 W 5 1 v n xs)(y:Nat)(hn:n<=5000000):
  ∃ g cap w',(∀ t,(Builtin.append_ #[61,61] t #[v,.slice (some ⟨W.heap.size,0,none⟩) 1 1]).run prog (W.alloc (.cells #[.int .u8 y] 5))=.ok (.slice (some ⟨g,0,none⟩) (n + 1) cap) w')/\GS w0 w' 5 1 (.slice (some ⟨g,0,none⟩) (n + 1) cap) (n + 1) (xs ++ [.int .u8 y])/\w0.heap.size<=g/\Kt (fun b=>v.ownBlock=some b) W w'/\(v.ownBlock=some g\/W.heap.size<=g):=by
 obtain⟨i,hi,hzz⟩:=Option.map_eq_some_iff.1 M.info_u8;simp only[Prod.mk.injEq] at hzz;have ka:=(Kt.refl nO W).alloc (.cells #[.int .u8 y] 5);obtain⟨g,cap,w',h1,h2,h5,h6,h7⟩:=(h.keep ka).pushM 61 i (.int .u8 0) 1 Tryz.underlying61 hi hzz.1 hzz.2.1 hzz.2.2 rfl (by decide) ⟨W.heap.size,0,none⟩ 1 1 (by decide) [.int .u8 y] rfl (fun j u hj=>pX (cs:=#[.int .u8 y]) j u hj) (by simp[Value.oneCell']) (by simp only[maxLen];omega) (by omega);exact⟨g,cap,w',h1,h2,h5,ka.trans h6 (fun _ _ e=>e.elim) (fun _ _ e=>e),h7.imp id (fun e=>Nat.le_trans ka.size e)⟩
theorem JH(k:Nat)(f:Nat->Nat):M.byteVs (k + 1) f=M.byteVs k f ++ [.int .u8 ((f k:Nat):Int)]:=by
 unfold M.byteVs;rw[List.range_succ,List.map_append];rfl
theorem GS.bytes{w W:World}{v:Value}{m:Nat}{f:Nat->Nat}(h:GS w W 5 1 v m (M.byteVs m f))(hf:∀ i,i<m->f i<256):M.Bytes W v m f:=by
 obtain⟨va,vc,rfl⟩:=eR h.own;refine⟨hf,va,vc,rfl,?_⟩;rcases Nat.eq_zero_or_pos m with h0|h0
 ·exact .inl h0
 ·have hg0:∀ j,j<m->(M.byteVs m f)[j]?=some (.int .u8 ((f j:Nat):Int)):=fun j hj=>by simp[M.byteVs,hj]
  obtain⟨g,rfl,_⟩:=gW h.own (hg0 0 h0);have hlt:=(World.ownsRow.lt h.own g rfl).2;refine .inr ⟨⟨g,0,none⟩,rfl,hlt,fun j hj=>?_⟩;obtain⟨g',e,hc⟩:=gW h.own (hg0 j hj);injection e with e
  injection e with e
  subst e;rw[Addr.add_lit,Nat.zero_add];exact hc
theorem QY(m:Nat)(hm:m<=1073741824)(w:World):
  (Instr.makeSlice 61 (.int .i64 0) (.int .i64 m)).run prog w=.ok (.slice (some ⟨w.heap.size,0,none⟩) 0 m) (w.alloc (.cells (M.bcells (M.told m fun _=>0)) 5)):=by
 obtain⟨i,hi,hz0,hz1,hz2⟩:=info_parts M.info_u8;have:=run_make (P:=prog) w 61 5 i (.int .u8 0) Tryz.underlying61 hi hz0 .i64 .i64 0 (m:Int) (by omega) (by omega) (by rw[hz2];omega) (by omega);rw[hz1] at this;simp only[Int.toNat_natCast,M.made_bytes] at this;exact this
theorem GS.made8(m:Nat)(hm:m<=1073741824)(w:World):GS w (w.alloc (.cells (M.bcells (M.told m fun _=>0)) 5)) 5 1 (.slice (some ⟨w.heap.size,0,none⟩) 0 m) 0 []:=
 ⟨⟨rfl,.inr ⟨w.heap.size,m,_,rfl,Nat.zero_le _,nH w _,Nat.zero_le _,by simp only[maxLen];omega,by simp[M.bcells,M.told_len],rfl⟩⟩,fun g cap e=>.inr (by injection e with e1 e2 e3;injection e1 with e1;injection e1 with e1;omega),(Kt.refl nO w).alloc _⟩
theorem tZ(v:Value)(m:Nat)(hm:m<=1048576)(f:Nat->Nat)(w:World)(hB:M.Bytes w v m f):
  Calls prog 152 #[v] w fun e w'=>∃ va vc,e=.returned (.slice va m vc)/\GS w w' 5 1 (.slice va m vc) m (M.byteVs m f)/\∀ g,(Value.slice va m vc).ownBlock=some g->w.heap.size<=g:=by
 obtain⟨hf,ao,ac,rfl,hb⟩:=hB;have HB:=aA hb;have MK:=aA (QY m (by omega) w);have G0:=aA (GS.made8 m (by omega) w);clear hb hf;go_enter func152,ntmps152;have mk:=MK.out;go_wp2_with fail;clear mk;go_loopw [3,4] (fun u i W=>∃ k:Nat,k<=m/\i=.int .i64 k/\Hid (GS w W 5 1 u k (M.byteVs k f)/\∀ g,u.ownBlock=some g->w.heap.size<=g)) (fun _ i _=>m-(intOf i).toNat)
 case atStart=>exact⟨0,by omega,rfl,aA ⟨G0.out,fun g e=>by simp[Value.ownBlock] at e;omega⟩⟩
 case round=>
  clear G0 MK;obtain⟨k,hk,rfl,hQ⟩:=hrel;obtain⟨ua,uc,rfl⟩:=eR hQ.out.1.own;by_cases hlt:k<m
  ·have hki:(k:Int)<m:=(by omega);obtain⟨a,rfl,-,hac⟩:=HB.out.resolve_left (by omega);have h1:=hQ.out.1.kp.cell id (hac k hlt);obtain⟨ab,ad,rfl⟩:=M.addr_plain (hac 0 (by omega));rw[Addr.add_lit] at h1;obtain⟨gg,cap,w9,hap,hG9,hge,hK9,_⟩:=BW hQ.out.1 (f k) (by omega);rw[<-JH] at hG9;have E9:=aA (And.intro hG9 (show ∀ g,(Value.slice (some ⟨gg,0,none⟩) (k+1) cap).ownBlock=some g->w.heap.size<=g from fun g e=>by simp[Value.ownBlock] at e;omega));have HAP:=aA hap;clear hap hG9 hge hK9 hac hQ HB;go_wp2_with (at_builtin;refine Lib.wpList_append_run _ rfl _ _ _ _ rfl (.slice ua k uc) (.slice (some ⟨wr.heap.size,0,none⟩) 1 1) rfl rfl _ _ (HAP.out _) ?_)
   exact⟨⟨k+1,by omega,by simp,E9⟩,by simp[intOf];omega⟩
  ·obtain rfl:k=m:=(by omega);go_wp2_with fail;go_ret;exact⟨_,_,rfl,hQ.out⟩
theorem zi4(v:Nat)(hv:v<18446744073709551616)(k:Nat):bits BinOp.and IntKind.u64 ((v:Int)/2 ^ (8*k)) 255%256=((M.byteOf v k:Nat):Int):=by
 have e:(v:Int)/2 ^ (8*k)=((v/2 ^ (8*k):Nat):Int):=by simp
 rw[e,zX _ (Nat.lt_of_le_of_lt (Nat.div_le_self _ _) hv)];unfold M.byteOf;rw[M.pow256]
theorem zZ(v:Nat)(hv:v<18446744073709551616)(m:Nat)(hm:m<=8)(w:World):
  Calls prog 156 #[.int .u64 v,.int .i64 m] w fun e w'=>∃ u,e=.returned u/\GS w w' 5 1 u m (M.byteVs m (M.byteOf v)):=by
 have G0:=aA (GS.nil w w 5 1 (Kt.refl nO w));go_enter func156,ntmps156;go_wp2_with fail;go_loopw [5,6] (fun u i W=>∃ k:Nat,k<=m/\i=.int .i64 k/\Hid (GS w W 5 1 u k (M.byteVs k (M.byteOf v)))) (fun _ i _=>m-(intOf i).toNat)
 case atStart=>exact⟨0,by omega,rfl,G0⟩
 case round=>
  clear G0;obtain⟨k,hk,rfl,hQ⟩:=hrel;obtain⟨ua,uc,rfl⟩:=eR hQ.out.own;by_cases hlt:k<m
  ·have hki:(k:Int)<m:=(by omega);obtain⟨gg,cap,w9,hap,hG9,hge,hK9,_⟩:=BW hQ.out (M.byteOf v k) (by omega);have e9:=JH k (M.byteOf v);rw[<-e9] at hG9;have E9:=aA hG9;have HAP:=aA hap;have hb8:=zi4 v hv k;clear hap hG9 hge hK9 hQ e9;go_wp2_with (at_builtin;refine Lib.wpList_append_run _ rfl _ _ _ _ rfl (.slice ua k uc) (.slice (some ⟨wr.heap.size,0,none⟩) 1 1) rfl rfl _ _ (HAP.out _) ?_)
   exact⟨⟨k+1,by omega,by simp,E9⟩,by simp[intOf];omega⟩
  ·obtain rfl:k=m:=(by omega);go_wp2_with fail;go_ret;exact⟨_,rfl,hQ.out⟩
theorem KG(f:Nat->Nat)(i:Nat):∀ k,M.wordTo (fun j=>f (i+j)) (k+1)=f i+256*M.wordTo (fun j=>f (i+1+j)) k
 | 0=>by simp[M.wordTo]
 | k+1=>by
  rw[M.wordTo,KG f i k,M.wordTo,Nat.mul_add,Nat.pow_succ,show i+(k+1)=i+1+k by omega,<-Nat.mul_assoc 256,Nat.mul_comm 256 (f (i+1+k)),Nat.mul_assoc,Nat.mul_comm 256,Nat.add_assoc,Nat.mul_comm (256 ^ k) 256]
theorem LH(v:Value)(m:Nat)(hm:m<=8)(f:Nat->Nat)(w:World)(hB:M.Bytes w v m f):
  Calls prog 154 #[v] w fun e w'=>e=.returned (.int .u64 ((M.wordTo f m:Nat):Int))/\w'=w:=by
 obtain⟨hf,ao,ac,rfl,hb⟩:=hB;have HB:=aA hb;have HF:=aA hf;clear hb hf;go_enter func154,ntmps154;go_wp2_with fail;go_loopw [3,4] (fun u i W=>∃ r k a:Nat,r+k=m/\i=.int .i64 ((r:Int)-1)/\u=.int .u64 a/\W=w/\Hid (a=M.wordTo (fun j=>f (r+j)) k)) (fun _ i _=>(intOf i+1).toNat)
 case atStart=>exact⟨m,0,0,rfl,rfl,rfl,rfl,aA rfl⟩
 case round=>
  obtain⟨r,k,a,hrk,rfl,rfl,rfl,hQ⟩:=hrel
  cases r with
  | zero=>
   have e0:((0:Nat):Int)-1 = -1:=rfl;have D:=aA (show a=M.wordTo f m by
    rw[hQ.out];have:k=m:=by omega
    rw[this];congr 1
    funext j
    rw[Nat.zero_add])
   rw[e0];clear hQ;go_wp2_with fail;go_ret;exact⟨by rw[<-D.out];rfl,rfl⟩
  | succ q=>
   have e0:((q+1:Nat):Int)-1=(q:Int):=(by omega);rw[e0];obtain⟨ad,rfl,-,hac⟩:=HB.out.resolve_left (by omega);have hqm:q<m:=(by omega);have h1:=hac q hqm;obtain⟨ab,ao2,rfl⟩:=M.addr_plain (hac 0 (by omega));rw[Addr.add_lit] at h1;have hk7:k<=7:=(by omega);have hfq:=HF.out q hqm;have hal:a<256 ^ k:=by
    rw[hQ.out];exact M.wordTo_lt _ k (fun i hi=>HF.out _ (by omega))
   have hp : 256 ^ k<=256 ^ 7:=Nat.pow_le_pow_right (by decide) hk7;have hor:bits BinOp.or IntKind.u64 (IntKind.u64.wrap ((a:Int)*256)) (IntKind.u64.wrap ((f q:Nat):Int))=((f q+256*a:Nat):Int):=by
    rw[show IntKind.u64.wrap ((a:Int)*256)=((a*256:Nat):Int)by rw[wrap_u64];omega,show IntKind.u64.wrap ((f q:Nat):Int)=((f q:Nat):Int)by rw[wrap_u64];omega,bits_or_u64_nat _ _ (by omega) (by omega)];congr 1
    have:=Nat.shiftLeft_add_eq_or_of_lt (show f q<2 ^ 8 from hfq) a;rw[Nat.shiftLeft_eq] at this;rw[show a*256=a*2 ^ 8 from rfl,<-this];omega
   have D:=aA (show f q+256*a=M.wordTo (fun j=>f (q+j)) (k+1)by rw[KG,hQ.out]);clear hQ hac hal hp hfq e0;have hqi:(q:Int)<m:=(by omega);have hq0:(0:Int)<=(q:Int):=(by omega);go_wp2_with fail;exact⟨⟨q,k+1,f q+256*a,by omega,by simp,by simp,trivial,D⟩,by simp[intOf]⟩
structure Sn8 where
 e:Int
 v:Nat
 da:Option Addr
 dn:Nat
 dc:Nat
 H:Nat
 L:Nat
 B:Nat
 F:Nat
 af:Nat
 fa:Option Addr
 fn:Nat
 fc:Nat
abbrev aU(s:Sn8):Value:=.agg #[.int .i64 s.e,.int .u64 s.v,.slice s.da s.dn s.dc,.int .u64 s.H,.int .u64 s.L,.int .i64 s.B,.int .i64 s.F,.int .u64 s.af,.slice s.fa s.fn s.fc]
abbrev bA(s:Sn8):Obj:=.cells #[.int .i64 s.e,.int .u64 s.v,.slice s.da s.dn s.dc,.int .u64 s.H,.int .u64 s.L,.int .i64 s.B,.int .i64 s.F,.int .u64 s.af,.slice s.fa s.fn s.fc] 69
theorem aZ{W:World}{y:Nat}{s:Sn8}(h:W.heap[y]?=some (bA s)):W.cell? ⟨y,0,none⟩=some (.int .i64 s.e)/\W.cell? ⟨y,1,none⟩=some (.int .u64 s.v)/\W.cell? ⟨y,2,none⟩=some (.slice s.da s.dn s.dc)/\W.cell? ⟨y,3,none⟩=some (.int .u64 s.H)/\W.cell? ⟨y,4,none⟩=some (.int .u64 s.L)/\W.cell? ⟨y,5,none⟩=some (.int .i64 s.B)/\W.cell? ⟨y,6,none⟩=some (.int .i64 s.F)/\W.cell? ⟨y,7,none⟩=some (.int .u64 s.af)/\W.cell? ⟨y,8,none⟩=some (.slice s.fa s.fn s.fc):=by
 refine⟨?_,?_,?_,?_,?_,?_,?_,?_,?_⟩ <;> simp[World.cell?,h]
theorem iT{W W':World}{y:Nat}{s:Sn8}(h:W.heap[y]?=some (bA s))(k:Kt nO W W'):W'.heap[y]?=some (bA s):=(k.block _ (lH h) id).trans h
theorem oY{W:World}{y bS:Nat}{lim o n:Int}{v:Value}(h:W.heap[y]?=some (aM bS lim o n v)):(∀ z:KW W,z.v.cell? ⟨y,0,none⟩=some (.int .u64 bS))/\(∀ z:KW W,z.v.cell? ⟨y,1,none⟩=some (.int .i64 lim))/\(∀ z:KW W,z.v.cell? ⟨y,2,none⟩=some (.int .i64 o))/\(∀ z:KW W,z.v.cell? ⟨y,3,none⟩=some (.int .i64 n))/\(∀ z:KW W,z.v.cell? ⟨y,4,none⟩=some v):=
 ⟨fun z=>(aD (bK h z.k)).1,fun z=>(aD (bK h z.k)).2.1,fun z=>(aD (bK h z.k)).2.2.1,fun z=>(aD (bK h z.k)).2.2.2.1,fun z=>(aD (bK h z.k)).2.2.2.2.1⟩
theorem sH{W:World}{y:Nat}{s:Sn8}(h:W.heap[y]?=some (bA s)):(∀ z:KW W,z.v.cell? ⟨y,0,none⟩=some (.int .i64 s.e))/\(∀ z:KW W,z.v.cell? ⟨y,1,none⟩=some (.int .u64 s.v))/\(∀ z:KW W,z.v.cell? ⟨y,2,none⟩=some (.slice s.da s.dn s.dc))/\(∀ z:KW W,z.v.cell? ⟨y,3,none⟩=some (.int .u64 s.H))/\(∀ z:KW W,z.v.cell? ⟨y,4,none⟩=some (.int .u64 s.L))/\(∀ z:KW W,z.v.cell? ⟨y,5,none⟩=some (.int .i64 s.B))/\(∀ z:KW W,z.v.cell? ⟨y,6,none⟩=some (.int .i64 s.F))/\(∀ z:KW W,z.v.cell? ⟨y,7,none⟩=some (.int .u64 s.af))/\(∀ z:KW W,z.v.cell? ⟨y,8,none⟩=some (.slice s.fa s.fn s.fc)):=
 ⟨fun z=>(aZ (iT h z.k)).1,fun z=>(aZ (iT h z.k)).2.1,fun z=>(aZ (iT h z.k)).2.2.1,fun z=>(aZ (iT h z.k)).2.2.2.1,fun z=>(aZ (iT h z.k)).2.2.2.2.1,fun z=>(aZ (iT h z.k)).2.2.2.2.2.1,fun z=>(aZ (iT h z.k)).2.2.2.2.2.2.1,fun z=>(aZ (iT h z.k)).2.2.2.2.2.2.2.1,fun z=>(aZ (iT h z.k)).2.2.2.2.2.2.2.2⟩
theorem mQ(bS:Nat)(lim:Int)(o n:Nat)(ho:o<=8)(hn:n<=64)(v:Value)(s:Sn8)(h0:s.e=0)(h1:s.af=n*RS o)(w:World):
  Calls prog 104 #[aK bS lim (o:Int) (n:Int) v,aU s] w fun e w'=>e=.returned (.bool true)/\Kt nO w w':=by
 have K0:=(Kt.refl nO w).alloc (aM bS lim (o:Int) (n:Int) v);have X0:=nH w (aM bS lim (o:Int) (n:Int) v);obtain⟨w1,hw1⟩:=xe (w.alloc (aM bS lim (o:Int) (n:Int) v));have z1:w1.heap.size=w.heap.size+1:=by rw[hw1];simp
 rw[<-hw1] at K0 X0;have K1:=(Kt.refl nO w1).alloc (bA s);have X1:=nH w1 (bA s);have XX:=aA (show Kt nO w (w1.alloc (bA s))/\(w1.alloc (bA s)).heap[w.heap.size]?=some (aM bS lim (o:Int) (n:Int) v)/\(w1.alloc (bA s)).heap[w1.heap.size]?=some (bA s)from⟨nT K0 K1,bK X0 K1,X1⟩);rw[z1,hw1] at XX;clear K0 X0 K1 X1 hw1 z1 w1;have HH:=aA (fun W=>H8 bS lim o n ho hn v W);rw[<-h1] at HH;clear h1;obtain⟨e,v0,da,dn,dc,H,L,B,F,af,fa,fn,fc⟩:=s;dsimp only at *;subst h0;go_enter func104,ntmps104;go_upto_region 1 with fail;obtain⟨b0,b1,b2,b3,b4⟩:=oY XX.out.2.1;obtain⟨s0,s1,s2,s3,s4,s5,s6,s7,s8⟩:=sH XX.out.2.2;refine fC (by kernel_rfl) (by kernel_rfl) ?_;repeat (go_big_quiet_step (first|(go_at_call 108;exact Calls.kept_of (HH.out _))|fail))
 refine wpQuiet_nil ?_;intro y;have D:=aA (nT XX.out.1 y.k);clear b0 b1 b2 b3 b4 s0 s1 s2 s3 s4 s5 s6 s7 s8;go_wp2_with fail;go_ret;exact⟨rfl,D.out⟩
theorem gC{W:World}{b y i:Nat}{u v0 v1 v2 v3 v4:Value}(h:W.cell? ⟨b,i,none⟩=some u)(hne:b≠y):(((((W.setCell ⟨y,0,none⟩ v0).setCell ⟨y,1,none⟩ v1).setCell ⟨y,2,none⟩ v2).setCell ⟨y,3,none⟩ v3).setCell ⟨y,4,none⟩ v4).cell? ⟨b,i,none⟩=some u:=(fA (W:=W) (y:=y) v0 v1 v2 v3 v4).cell (p:=⟨b,i,none⟩) hne h
theorem rD(bS:Nat)(lim:Int)(o n:Nat)(ho:o<=8)(hn:n<=64)(va:Option Addr)(vm vc:Nat)(s:Sn8)(er:Int)(h0:s.e=er)(h1:s.v=0)(h2:s.dn=0)(h3:s.af=n*RS o)(w:World):
  Calls prog 100 #[aK bS lim (o:Int) (n:Int) (.slice va vm vc),aU s,.int .i64 er] w fun e w'=>e=.returned (.tuple #[aK bS lim (o:Int) (n:Int) (.slice va vm vc),.bool true])/\Kt nO w w':=by
 have K0:=(Kt.refl nO w).alloc (aM bS lim (o:Int) (n:Int) (.slice va vm vc));have X0:=nH w (aM bS lim (o:Int) (n:Int) (.slice va vm vc));obtain⟨w1,hw1⟩:=xe (w.alloc (aM bS lim (o:Int) (n:Int) (.slice va vm vc)));have z1:w1.heap.size=w.heap.size+1:=by rw[hw1];simp
 rw[<-hw1] at K0 X0;have K1:=(Kt.refl nO w1).alloc (bA s);have X1:=nH w1 (bA s);obtain⟨w2,hw2⟩:=xe (w1.alloc (bA s));have z2:w2.heap.size=w.heap.size+1+1:=by rw[hw2];simp[z1]
 rw[<-hw2] at K1 X1;have K2:=(Kt.refl nO w2).alloc cC;have X2:=nH w2 cC;have XX:=aA (show Kt nO w (w2.alloc cC)/\(w2.alloc cC).heap[w.heap.size]?=some (aM bS lim (o:Int) (n:Int) (.slice va vm vc))/\(w2.alloc cC).heap[w1.heap.size]?=some (bA s)/\(w2.alloc cC).heap[w2.heap.size]?=some cC from⟨nT (nT K0 K1) K2,bK X0 (nT K1 K2),iT X1 K2,X2⟩);rw[z1,z2,hw2,hw1] at XX;clear K0 X0 K1 X1 K2 X2 hw1 z1 hw2 z2 w1 w2;have HH:=aA (fun W=>H8 bS lim o n ho hn (.slice va vm vc) W);rw[<-h3] at HH;clear h3;obtain⟨e,v0,da,dn,dc,H,L,B,F,af,fa,fn,fc⟩:=s;dsimp only at *;subst h0 h1 h2;go_enter func100,ntmps100;go_wp2_with fail;generalize ((w.alloc (aM bS lim (o:Int) (n:Int) (.slice va vm vc))).alloc (bA ⟨e,0,da,0,dc,H,L,B,F,af,fa,fn,fc⟩)).alloc cC=W0 at *;have KD:=aA ((Kt.refl nO W0).drew);have BX:=aA (fun W' (k:Kt nO W0 W')=>And.intro (bK XX.out.2.1 k) (And.intro (iT XX.out.2.2.1 k) (jP XX.out.2.2.2 k)));obtain⟨b0,b1,b2,b3,b4,bf⟩:=aD (BX.out _ KD.out).1;obtain⟨s0,s1,s2,s3,s4,s5,s6,s7,s8⟩:=aZ (BX.out _ KD.out).2.1;dsimp only at s0 s1 s2 s7;rw[show((0:Nat):Int)=0 from rfl] at s1;clear s3 s4 s5 s6 s8;have hwz:=XX.out.1.size;go_region_held3 (fun w'=>w'.cell? ⟨w.heap.size,0,none⟩=some (.int .u64 bS)/\w'.cell? ⟨w.heap.size,1,none⟩=some (.int .i64 lim)/\w'.cell? ⟨w.heap.size,2,none⟩=some (.int .i64 o)/\w'.cell? ⟨w.heap.size,3,none⟩=some (.int .i64 n)/\w'.cell? ⟨w.heap.size,4,none⟩=some (.slice va vm vc)/\w'.cell? ⟨w.heap.size+1,0,none⟩=some (.int .i64 e)/\w'.cell? ⟨w.heap.size+1,1,none⟩=some (.int .u64 0)/\w'.cell? ⟨w.heap.size+1,2,none⟩=some (.slice da 0 dc)/\w'.cell? ⟨w.heap.size+1,7,none⟩=some (.int .u64 af)) (((try dsimp only);(repeat' apply And.intro) <;> first|with_reducible assumption|with_reducible exact gC (by with_reducible assumption) (by omega))) (first
  | (go_at_call 108;(with_reducible refine(HH.out _).mono ?_);rintro e5 w5 ⟨rfl,hk5⟩;have K5:=aA (nT KD.out hk5);obtain⟨d0,d1,d2,d3,d4,df⟩:=aD (BX.out _ K5.out).1;obtain⟨t0,t1,t2,t3,t4,t5,t6,t7,t8⟩:=aZ (BX.out _ K5.out).2.1;dsimp only at t0 t1 t2 t7;rw[show((0:Nat):Int)=0 from rfl] at t1;clear t3 t4 t5 t6 t8 hk5;obtain⟨z0,z1,z2,z3,z4,zf⟩:=dE (BX.out _ K5.out).2.2)
  | fail)
 all_goals
  obtain⟨r0,r1,r2,r3,r4,rf⟩:=aD (dM (bS:=bS) (lim:=lim) (o:=(o:Int)) (n:=(n:Int)) (v:=.slice va vm vc) (BX.out _ K5.out).2.2);have D:=aA ((nT XX.out.1 K5.out).trans (fA (W:=w5) (y:=w.heap.size+1+1) (.int .u64 bS) (.int .i64 lim) (.int .i64 o) (.int .i64 n) (.slice va vm vc)) (fun _ _ e=>e) (fun y hy e=>by omega));clear b0 b1 b2 b3 b4 bf s0 s1 s2 s7 d0 d1 d2 d3 d4 df t0 t1 t2 t7 z0 z1 z2 z3 z4 zf;go_wp2_with fail;exact⟨rfl,.tuple #[aK bS lim (o:Int) (n:Int) (.slice va vm vc),.bool true],by simp[results,results100,go_sem,r0,r1,r2,r3,r4],rfl,D.out⟩
end Go.Proofs.YtbgbfpklgfpepaaGreatDoor
