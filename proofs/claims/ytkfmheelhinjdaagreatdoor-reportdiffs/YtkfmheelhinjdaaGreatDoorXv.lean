import Derived.Test.YtkfmheelhinjdaaGreatDoorXf
import Derived.Deep.DeepCutAuto
set_option maxRecDepth 1000000
set_option maxHeartbeats 80000000
namespace Go.Proofs.YtkfmheelhinjdaaGreatDoor.W
open _root_.Go.Proofs.Tryz
open Go.RowKit
set_option linter.unusedVariables false
def lY(w:World)(n:Nat)(B:Nat->Bool)(e:Ending)(w':World):Prop:=∃ sb sc ws,e=.returned (.pointer (some ⟨sb,0,none⟩))/\SetAt w' sb sc n ws/\w.heap.size<=sb/\w.heap.size<=sc/\(∀ i,i<n->aF ws i=B i)/\Kt nO w w'
theorem zeJ(xs:Array Value)(w:World):Sem.run prog (callFunc 224 xs) w=.ok (.enter 224 xs) w:=by
 simp[callFunc,go_sem,func224];rfl
theorem JF(b cb:Nat)(I:Img)(V:ImV)(S:Pg->Bool)(w:World)(hI:ImAt w b I V)(hnp:I.np<=1024)
  (HS:∀ i W,i<I.np->Kt nO w W->Calls prog 224 #[fH (I.pg i),.pointer (some ⟨cb,0,none⟩)] W fun e w'=>e=.returned (.bool (S (I.pg i)))/\Kt nO W w'):
  Calls prog 223 #[.pointer (some ⟨b,0,none⟩),.func (.func 224) #[] #[.pointer (some ⟨cb,0,none⟩)]] w (lY w I.np fun i=>S (I.pg i)):=by
 obtain⟨-,⟨pa,pc,hp⟩,-,-,-,-,bp,-,-⟩:=hI.d.sl;obtain⟨c0,c1,c2,c3,c4,c5,c6,c7,c8⟩:=hI.cells;rw[hp] at c5;have HI:=aA hI;have SP:=aA hp;have HSC:=aA HS;obtain⟨n,hn⟩:=xe (I.np);rw[<-hn] at hnp c5;have HN:=aA hn;have hent:=zeJ;clear hI hp HS bp;have GOAL:=aA (show ∀ W' ws,SetAt W' (w.heap.size+1) w.heap.size n ws->(∀ i,i<n->aF ws i=S (I.pg i))->Kt nO w W'->lY w I.np (fun i=>S (I.pg i)) (.returned (.pointer (some ⟨w.heap.size+1,0,none⟩))) W' from fun W' ws h1 h2 h3=>⟨_,_,ws,rfl,by rw[<-hn];exact h1,Nat.le_succ _,Nat.le_refl _,by rw[<-hn];exact h2,h3⟩);clear hn;go_enter func223,ntmps223;go_wp2_with fail;refine(rS (n:Int) (by omega) (by omega) w).mono ?_;rintro e w1 ⟨rfl,hraw,hk,hsz⟩;have hfit:dF (n:Int)=n:=by unfold dF;split <;> (try split) <;> omega
 rw[hfit] at hraw;have ST:=aA (hraw.set (fun i hi=>by rw[nM];exact Nat.two_pow_pos _));have K1:=aA (show Kt nO w w1 from hk);have SIZ:=aA (show w.heap.size<w1.heap.size by omega);have GE:=aA (show w.heap.size<=w.heap.size from Nat.le_refl _);generalize hsb:w.heap.size+1=sb at *;generalize hsc:w.heap.size=sc at *;have HSC0:=aA hsc;have d5:w1.cell? ⟨b,5,none⟩=some (.slice pa n pc):=K1.out.cell (fun x=>x) c5;clear hraw hk hsz hfit hsb hsc c0 c1 c2 c3 c4 c5 c6 c7 c8;go_wp2_with fail;clear d5;go_loopw [19] (fun i W=>∃ a:Nat,a<=n/\i=.int .i64 a/\Hid (Kt nO w W/\∃ ws,SetAt W sb sc n ws/\(∀ j,j<a->aF ws j=S (I.pg j)))) (fun i _=>n-(intOf i).toNat)
 case atStart=>exact⟨0,Nat.zero_le _,rfl,aA ⟨K1.out,_,ST.out,fun x hx=>by omega⟩⟩
 case round=>
  clear K1 ST SIZ;obtain⟨a,ha,rfl,hR⟩:=hrel;have A0:=aA (HI.out.keep hR.out.1);by_cases hlt:a<n
  ·have hai:(a:Int)<n:=(by omega);have hlt':a<I.np:=(by rw[<-HN.out];exact hlt);obtain⟨bl,o,oc',hv',hpi,hpc⟩:=A0.out.page a hlt';rw[SP.out] at hv';injection hv' with e1 e2 e3
   subst e1;obtain⟨hkw,ws,hst,hbt⟩:=hR.out;have PB:=aA (PbI.mk' (w:=w) A0.out hkw (I.pg a));have ST1:=aA (hst.kept (show Kt nO wr (wr.alloc (aV (I.pg a)))from(Kt.refl _ _).alloc _) (fun x=>x) (fun x=>x));have BT:=aA hbt;have HLN:=aA hst.len;have HCL:=aA (fun W hW=>HSC.out a W hlt' hW);obtain⟨sv,hsv⟩:=xe (S (I.pg a));rw[<-hsv] at HCL;have HSV:=aA hsv;obtain⟨d0,d1,d2,d3,d4,d5,d6,d7,d8,d9,d10⟩:=hpc.c;clear hpi hpc e2 e3 hkw hst hbt hsv;go_wp2_with fail;generalize hpp:I.pg a=p at *;have HPP:=aA hpp;clear hpp;generalize wr.alloc (aV p)=W1 at *;generalize wr.heap.size=g at *;refine(HCL.out W1 PB.out.k).mono ?_;rintro e w2 ⟨rfl,hk⟩;have PB2:=aA (PB.out.keep hk);have ST2:=aA (ST1.out.kept hk (fun x=>x) (fun x=>x));clear hk d0 d1 d2 d3 d4 d5 d6 d7 d8 d9 d10;go_wp2_with fail;refine(sX sb sc n ws (a:Int) sv w2 ST2.out).mono ?_;rintro e w3 ⟨rfl,h1,h2,h3⟩;have R2:=aA (show Kt nO w w3/\∃ ws,SetAt w3 sb sc n ws/\(∀ j,j<a+1->aF ws j=S (I.pg j))from⟨PB2.out.k.trans h2 (fun _ _ x=>x) (fun x hx e=>by have:=HSC0.out;omega),_,h1,fun j hj=>by
    rw[rG HLN.out a hlt sv j];by_cases e:j=a
    ·rw[if_pos e,e,HSV.out,HPP.out]
    ·rw[if_neg e];exact BT.out j (by omega)⟩)
   clear h1 h2 h3;go_wp2_with fail;go_round
   case rel=>exact⟨a+1,by omega,by go_num,R2⟩
   case measure=>simp[intOf];omega
  ·obtain rfl:a=n:=(by omega);have hai:¬(a:Int)<a:=(by omega);go_wp2_with fail;go_ret;obtain⟨h1,ws,h2,h3⟩:=hR.out;exact GOAL.out wr ws h2 h3 h1
theorem zeK(xs:Array Value)(w:World):Sem.run prog (callFunc 229 xs) w=.ok (.enter 229 xs) w:=by
 simp[callFunc,go_sem,func229];rfl
theorem JE(b cb:Nat)(I:Img)(V:ImV)(S:Pg->Bool)(w:World)(hI:ImAt w b I V)(hnp:I.np<=1024)
  (HS:∀ i W,i<I.np->Kt nO w W->Calls prog 229 #[fH (I.pg i),.pointer (some ⟨cb,0,none⟩)] W fun e w'=>e=.returned (.bool (S (I.pg i)))/\Kt nO W w'):
  Calls prog 223 #[.pointer (some ⟨b,0,none⟩),.func (.func 229) #[] #[.pointer (some ⟨cb,0,none⟩)]] w (lY w I.np fun i=>S (I.pg i)):=by
 obtain⟨-,⟨pa,pc,hp⟩,-,-,-,-,bp,-,-⟩:=hI.d.sl;obtain⟨c0,c1,c2,c3,c4,c5,c6,c7,c8⟩:=hI.cells;rw[hp] at c5;have HI:=aA hI;have SP:=aA hp;have HSC:=aA HS;obtain⟨n,hn⟩:=xe (I.np);rw[<-hn] at hnp c5;have HN:=aA hn;have hent:=zeK;clear hI hp HS bp;have GOAL:=aA (show ∀ W' ws,SetAt W' (w.heap.size+1) w.heap.size n ws->(∀ i,i<n->aF ws i=S (I.pg i))->Kt nO w W'->lY w I.np (fun i=>S (I.pg i)) (.returned (.pointer (some ⟨w.heap.size+1,0,none⟩))) W' from fun W' ws h1 h2 h3=>⟨_,_,ws,rfl,by rw[<-hn];exact h1,Nat.le_succ _,Nat.le_refl _,by rw[<-hn];exact h2,h3⟩);clear hn;go_enter func223,ntmps223;go_wp2_with fail;refine(rS (n:Int) (by omega) (by omega) w).mono ?_;rintro e w1 ⟨rfl,hraw,hk,hsz⟩;have hfit:dF (n:Int)=n:=by unfold dF;split <;> (try split) <;> omega
 rw[hfit] at hraw;have ST:=aA (hraw.set (fun i hi=>by rw[nM];exact Nat.two_pow_pos _));have K1:=aA (show Kt nO w w1 from hk);have SIZ:=aA (show w.heap.size<w1.heap.size by omega);have GE:=aA (show w.heap.size<=w.heap.size from Nat.le_refl _);generalize hsb:w.heap.size+1=sb at *;generalize hsc:w.heap.size=sc at *;have HSC0:=aA hsc;have d5:w1.cell? ⟨b,5,none⟩=some (.slice pa n pc):=K1.out.cell (fun x=>x) c5;clear hraw hk hsz hfit hsb hsc c0 c1 c2 c3 c4 c5 c6 c7 c8;go_wp2_with fail;clear d5;go_loopw [19] (fun i W=>∃ a:Nat,a<=n/\i=.int .i64 a/\Hid (Kt nO w W/\∃ ws,SetAt W sb sc n ws/\(∀ j,j<a->aF ws j=S (I.pg j)))) (fun i _=>n-(intOf i).toNat)
 case atStart=>exact⟨0,Nat.zero_le _,rfl,aA ⟨K1.out,_,ST.out,fun x hx=>by omega⟩⟩
 case round=>
  clear K1 ST SIZ;obtain⟨a,ha,rfl,hR⟩:=hrel;have A0:=aA (HI.out.keep hR.out.1);by_cases hlt:a<n
  ·have hai:(a:Int)<n:=(by omega);have hlt':a<I.np:=(by rw[<-HN.out];exact hlt);obtain⟨bl,o,oc',hv',hpi,hpc⟩:=A0.out.page a hlt';rw[SP.out] at hv';injection hv' with e1 e2 e3
   subst e1;obtain⟨hkw,ws,hst,hbt⟩:=hR.out;have PB:=aA (PbI.mk' (w:=w) A0.out hkw (I.pg a));have ST1:=aA (hst.kept (show Kt nO wr (wr.alloc (aV (I.pg a)))from(Kt.refl _ _).alloc _) (fun x=>x) (fun x=>x));have BT:=aA hbt;have HLN:=aA hst.len;have HCL:=aA (fun W hW=>HSC.out a W hlt' hW);obtain⟨sv,hsv⟩:=xe (S (I.pg a));rw[<-hsv] at HCL;have HSV:=aA hsv;obtain⟨d0,d1,d2,d3,d4,d5,d6,d7,d8,d9,d10⟩:=hpc.c;clear hpi hpc e2 e3 hkw hst hbt hsv;go_wp2_with fail;generalize hpp:I.pg a=p at *;have HPP:=aA hpp;clear hpp;generalize wr.alloc (aV p)=W1 at *;generalize wr.heap.size=g at *;refine(HCL.out W1 PB.out.k).mono ?_;rintro e w2 ⟨rfl,hk⟩;have PB2:=aA (PB.out.keep hk);have ST2:=aA (ST1.out.kept hk (fun x=>x) (fun x=>x));clear hk d0 d1 d2 d3 d4 d5 d6 d7 d8 d9 d10;go_wp2_with fail;refine(sX sb sc n ws (a:Int) sv w2 ST2.out).mono ?_;rintro e w3 ⟨rfl,h1,h2,h3⟩;have R2:=aA (show Kt nO w w3/\∃ ws,SetAt w3 sb sc n ws/\(∀ j,j<a+1->aF ws j=S (I.pg j))from⟨PB2.out.k.trans h2 (fun _ _ x=>x) (fun x hx e=>by have:=HSC0.out;omega),_,h1,fun j hj=>by
    rw[rG HLN.out a hlt sv j];by_cases e:j=a
    ·rw[if_pos e,e,HSV.out,HPP.out]
    ·rw[if_neg e];exact BT.out j (by omega)⟩)
   clear h1 h2 h3;go_wp2_with fail;go_round
   case rel=>exact⟨a+1,by omega,by go_num,R2⟩
   case measure=>simp[intOf];omega
  ·obtain rfl:a=n:=(by omega);have hai:¬(a:Int)<a:=(by omega);go_wp2_with fail;go_ret;obtain⟨h1,ws,h2,h3⟩:=hR.out;exact GOAL.out wr ws h2 h3 h1
theorem yO(f:Nat->Bool):∀ (M j:Nat),j<M->f j=true->0<aK f M
 | 0,j,h,_=>by omega
 | M+1,j,h,hf=>by
  by_cases e:j=M
  ·rw[e] at hf;rw[rE f M hf];omega
  ·have:=yO f M j (by omega) hf
   cases h2:f M with
   | true=>rw[rE f M h2];omega
   | false=>rw[pG f M h2];exact this
theorem AN{w:World}{b c n:Nat}{ws:List Nat}(h:SetAt w b c n ws):aT ws=0↔∀ j,j<n->aF ws j=false:=by
 have e:aT ws=aK (aF ws) (64*ws.length):=rP ws h.lt64 ws.length;rw[e];have hl:=h.len;constructor
 ·intro h0 j hj
  cases hb:aF ws j with
  | false=>rfl
  | true=>
   have:=yO (aF ws) (64*ws.length) j (by omega) hb;omega
 ·intro h0;exact YF _ _ fun j _=>by
   by_cases hj:j<n
   ·exact h0 j hj
   ·exact h.bit_past j (by omega)
def cB(W:World)(sc:Nat):List Nat:=match W.heap[sc]? with
 | some (.cells cs _ _)=>cs.toList.map fun v=>(intOf v).toNat
 | _=>[]
theorem iE{W:World}{b c n:Nat}{ws:List Nat}(h:SetAt W b c n ws):cB W c=ws:=by
 unfold cB;rw[h.hc];simp[bI,intOf];conv=>rhs;rw[<-List.map_id ws]
 rfl
theorem uB{w w':World}{b c n:Nat}{ws:List Nat}{i:Nat}(h:SetAt w b c n ws)(h':SetAt w' b c n (bN n ws (i:Int) false))(hi:i<n)(hb:aF ws i=true):aT (bN n ws (i:Int) false)+1=aT ws:=by
 have hr:aC n (i:Int)=true:=by unfold aC;exact decide_eq_true (by omega)
 have hs:cA n ws (i:Int)=true:=by unfold cA;rw[hr,Int.toNat_natCast,Bool.true_and,hb]
 have e:bN n ws (i:Int) false=jK ws i:=by
  unfold bN fO;rw[hs,if_neg (by decide),if_pos hr,Int.toNat_natCast]
 rw[e] at h' ⊢;have hl:=h.len;exact YD ws i h.lt64 h'.lt64 (by omega) hb
def pgL(I:Img)(S:Pg->Bool):List Nat:=(List.range I.np).filter fun i=>S (I.pg i)
theorem pgL_nodup(I:Img)(S:Pg->Bool):(pgL I S).Nodup:=List.nodup_range.filter _
theorem pgL_mem{I:Img}{S:Pg->Bool}{i:Nat} : i∈pgL I S↔i<I.np/\S (I.pg i)=true:=by simp[pgL]
def ok8(I:Img)(j:Nat):Bool:=bO (decP I) 0 (fun i=>M.word I.mem (4096*i)) (fun i=>M.word I.mem (4096*i+8)) ((pgL I fun p=>isF p (j:Int)).length+1) (pgL I fun p=>isF p (j:Int)) (I.hd.getD j 0) 0
section
variable {α : Type} [DecidableEq α] {dec : α->Option Nat} {nil : α} {nxt bk:Nat->α}
theorem yN{l:List Nat}{b : α} : bO dec nil nxt bk (l.length+1) l nil b=l.isEmpty:=by rw[bO,if_pos rfl]
theorem qV{l:List Nat}{p b : α}(hp:p≠nil)(h:∀ i,dec p=some i->i ∉ l\/bk i≠b):bO dec nil nxt bk (l.length+1) l p b=false:=by
 rw[bO,if_neg hp]
 cases hd:dec p with
 | none=>rfl
 | some i=>
  show(decide (i∈l) && _)=false
  rcases h i hd with h1|h1
  ·rw[decide_eq_false h1];rfl
  ·rw[decide_eq_false h1];simp
theorem yM{l:List Nat}{p b : α}{i:Nat}(hp:p≠nil)(hd:dec p=some i)(hi:i∈l)(hb:bk i=b):bO dec nil nxt bk (l.length+1) l p b=bO dec nil nxt bk ((l.erase i).length+1) (l.erase i) (nxt i) p:=by
 rw[bO,if_neg hp,hd];show(decide (i∈l) && (decide (bk i=b) && _))=_
 rw[decide_eq_true hi,decide_eq_true hb,List.length_erase_of_mem hi];have:l.length-1+1=l.length:=by
  have:=List.length_pos_of_mem hi;omega
 rw[this];rfl
end
structure L8(w W:World)(cb sb sc n a:Nat)(ws:List Nat)(l:List Nat):Prop where
 bx:W.heap[cb]?=some (.cells #[.int .i64 a] 3 (0,0))
 st:SetAt W sb sc n ws
 ge:w.heap.size<=sc
 ne:cb≠sc
 k:Kt nO w W
 nd:l.Nodup
 mem:∀ i,i<n->aF ws i=decide (i∈l)
 lt:∀ i,i∈l->i<n
theorem L8.keep{w W W':World}{cb sb sc n a:Nat}{ws l:List Nat}(h:L8 w W cb sb sc n a ws l)(hk:Kt nO W W'):L8 w W' cb sb sc n a ws l:=
 ⟨(hk.block _ (lH h.bx) (fun x=>x)).trans h.bx,h.st.kept hk (fun x=>x) (fun x=>x),h.ge,h.ne,nT h.k hk,h.nd,h.mem,h.lt⟩
theorem L8.met{w W W':World}{cb sb sc n a i:Nat}{ws l:List Nat}(h:L8 w W cb sb sc n a ws l)(hk:Kt (fun x=>x=sc) W W')(hi:i∈l)(hs:SetAt W' sb sc n (bN n ws (i:Int) false)):L8 w W' cb sb sc n a (bN n ws (i:Int) false) (l.erase i):=by
 refine⟨(hk.block _ (lH h.bx) h.ne).trans h.bx,hs,h.ge,h.ne,h.k.trans hk (fun _ _ x=>x) (fun x hx e=>by have:=h.ge;omega),h.nd.erase i,fun j hj=>?_,fun j hj=>h.lt j (List.mem_of_mem_erase hj)⟩;rw[rG h.st.len i (h.lt i hi) false j];by_cases e:j=i
 ·rw[if_pos e,e];exact(decide_eq_false (fun hm=>((h.nd.mem_erase_iff).1 hm).1 rfl)).symm
 ·rw[if_neg e,h.mem j hj,decide_eq_decide,h.nd.mem_erase_iff];exact⟨fun hm=>⟨e,hm⟩,fun hm=>hm.2⟩
def mQ(l:List Nat)(x:Option Nat):Bool:=match x with|some i=>decide (i∈l)|none=>false
theorem L8.ins{w W:World}{cb sb sc n a:Nat}{ws l:List Nat}(h:L8 w W cb sb sc n a ws l)(x:Option Nat)(hx:∀ i,x=some i->i<n):cA n ws (lE x)=mQ l x:=by
 cases x with
 | none=>simp[lE,cA,aC,mQ]
 | some i=>
  have:=hx i rfl;show cA n ws (i:Int)=decide (i∈l)
  unfold cA aC;rw[decide_eq_true (by omega),Int.toNat_natCast,Bool.true_and,h.mem i this]
theorem L8.empty{w W:World}{cb sb sc n a:Nat}{ws l:List Nat}(h:L8 w W cb sb sc n a ws l):l.isEmpty=decide (aT ws=0):=by
 rw[Bool.eq_iff_iff,List.isEmpty_iff,decide_eq_true_eq,AN h.st];constructor
 ·intro e j hj;rw[h.mem j hj,e];rfl
 ·intro hz
  cases l with
  | nil=>rfl
  | cons x t=>
   exfalso
   have hx:=h.lt x List.mem_cons_self;have:=hz x hx;rw[h.mem x hx,decide_eq_true List.mem_cons_self] at this
   cases this
theorem qU{I:Img}{k r p i:Nat}(hS:Sn9 I k r)(h:decP I p=some i):i<I.np/\p=I.bS+4096*i/\p≠0:=by
 unfold decP at h;split at h
 ·rename_i hc;injection h with h
  have:=hS.nm;have hb:=hS.b0;omega
 ·cases h
theorem word_lt{w:World}{I:Img}{V:ImV}(h:ImD w I V)(q:Nat)(hq:q+8<=I.nm):M.word I.mem q<18446744073709551616:=by
 obtain⟨⟨ma,mc,hm⟩,-⟩:=h.sl;have hM:=h.mem;rw[hm] at hM;obtain⟨bl,o,-,-,hc⟩:=hM.at q (by omega);exact M.wordTo_lt (fun i=>I.mem (q+i)) 8 fun i hi=>(hc (q+i) (by omega)).1
theorem ER(cb a:Nat)(p:Pg)(w:World)(h:w.heap[cb]?=some (.cells #[.int .i64 a] 3 (0,0))):
  Calls prog 224 #[fH p,.pointer (some ⟨cb,0,none⟩)] w fun e w'=>e=.returned (.bool (isF p (a:Int)))/\Kt nO w w':=by
 have c0:w.cell? ⟨cb,0,none⟩=some (.int .i64 a):=by simp[World.cell?,h]
 have HF:=aA (fun W=>pF p (a:Int) W);have HB:=aA h;have c1:(w.alloc (aV p)).cell? ⟨cb,0,none⟩=some (.int .i64 a):=(show Kt nO w (w.alloc (aV p))from(Kt.refl _ _).alloc _).cell (fun x=>x) c0;have HN:=aA (nH w (aV p));have HK:=aA (show Kt nO w (w.alloc (aV p))from(Kt.refl _ _).alloc _);generalize isF p (a:Int)=fv at *;clear h;go_enter func224,ntmps224;go_wp2_with fail;refine(HF.out _).mono ?_;rintro e w1 ⟨rfl,hk⟩;have K1:=aA (nT HK.out hk);clear hk c0 c1;go_wp2_with fail;go_ret;exact⟨rfl,K1.out⟩
theorem YM(xs:Array Value)(w:World):Sem.run prog (callFunc 225 xs) w=.ok (.enter 225 xs) w:=by
 simp[callFunc,go_sem,func225];rfl
theorem YI{Q:Exit->Act->World->Prop}{o:Oper}{a:Act}{w:World}{x y z:Operand}{ts:Array TypeId}{sb sc n:Nat}{ws:List Nat}{i p:Int}(ho:o.op=.call { callee:=.value (.func 225),args:=#[x,y,z],argTypes:=ts })
  (hx:a.eval x=.pointer (some ⟨sb,0,none⟩)) (hy:a.eval y=.int .i64 i) (hz:a.eval z=.int .i64 p) (hs:SetAt w sb sc n ws) (hb:cA n ws i=false) (h:∀ a',a'.defers=a.defers->Q (.panic [{ v:=.iface 218 (.int .i64 p),recovered:=false }]) a' w):fY prog Q o a w:=by
 refine AP YM ho ?_;have e:(#[x,y,z] : Array Operand).map a.eval=#[.pointer (some ⟨sb,0,none⟩),.int .i64 i,.int .i64 p]:=by simp[hx,hy,hz]
 rw[e];refine(sQ sb sc n ws i p w hs hb).mono ?_;rintro e w1 ⟨rfl,rfl⟩;exact⟨_,rfl,h⟩
theorem zcH(b:Nat)(I:Img)(V:ImV)(k r:Nat)(hS:Sn9 I k r)(w:World)(hI:ImAt w b I V):
  Calls prog 172 #[.pointer (some ⟨b,0,none⟩)] w fun e w'=>e=bB (fst1 (k+1) (ok8 I))/\Kt nO w w':=by
 obtain⟨-,-,-,⟨ha,hc,hh⟩,-,-,-,-,-⟩:=hI.d.sl;obtain⟨c0,c1,c2,c3,c4,c5,c6,c7,c8⟩:=hI.cells;rw[hh] at c7;have hhs:=hI.d.hds;rw[hh] at hhs;obtain⟨bl,o,rfl,hbl,hhc⟩:=hhs.at 0 (by rw[hS.hl];omega);obtain⟨EE,hEE⟩:=xe (bB (fst1 (k+1) (ok8 I)));rw[<-hEE];have HE:=aA hEE;have HI:=aA hI;have HS:=aA hS;rw[hS.hl] at c7 hhc;have HHC:=aA hhc;have hk8:=hS.k8;have hnp:=hS.np1;have hmf:∀ (fn:Fn) (first cap:Array Value) (w:World),(Instr.makeFunc fn first cap).run prog w=.ok (.func fn first cap) w:=fun _ _ _ _=>rfl
 obtain⟨K,hK⟩:=xe (k+1);rw[<-hK] at c7;have HKK:=aA hK;have hK9:K<=9:=by omega
 clear hEE hI hS hh hhs hhc hK hbl;go_enter func172,ntmps172;go_wp2_with fail;go_loopw [11] (fun i W=>∃ a:Nat,a<=K/\i=.int .i64 a/\Hid (Kt nO w W/\∀ x,x<a->ok8 I x=true)) (fun i _=>K-(intOf i).toNat)
 case atStart=>exact⟨0,Nat.zero_le _,rfl,aA ⟨Kt.refl _ _,fun x hx=>by omega⟩⟩
 case round=>
  clear c0 c1 c2 c3 c4 c5 c6 c7 c8;obtain⟨a,ha',rfl,hR⟩:=hrel;by_cases hlt:a<K
  ·have hai:(a:Int)<K:=(by omega);obtain⟨hp64,hpc⟩:=HHC.out a (by rw[<-HKK.out];exact hlt);have d0:=hR.out.1.cell (fun x=>x) hpc;obtain⟨p,hp⟩:=xe (I.hd.getD a 0);rw[<-hp] at d0 hp64;have FB:=aA (show ok8 I a=false->bM (a:Int)=EE from fun h=>by rw[HE.out,kF (by rw[<-HKK.out];exact hlt) hR.out.2 h];rfl);have GA:=aA (show ok8 I a=true->∀ x,x<a+1->ok8 I x=true from fun h x hx=>by
    by_cases e:x=a
    ·rw[e];exact h
    ·exact hR.out.2 x (by omega))
   have OK:=aA (show bO (decP I) 0 (fun i=>M.word I.mem (4096*i)) (fun i=>M.word I.mem (4096*i+8)) ((pgL I fun p=>isF p (a:Int)).length+1) (pgL I fun p=>isF p (a:Int)) p 0=ok8 I a by rw[hp];rfl);generalize ok8 I a=okv at *;have B1:=aA (show(wr.alloc (.cells #[.int .i64 a] 3 (0,0))).heap[wr.heap.size]?=some (.cells #[.int .i64 a] 3 (0,0))from nH _ _);have K1:=aA (show Kt nO w (wr.alloc (.cells #[.int .i64 a] 3 (0,0)))from hR.out.1.alloc _);have SZ:=aA (show wr.heap.size<(wr.alloc (.cells #[.int .i64 a] 3 (0,0))).heap.size by simp);clear hp hpc;go_wp2_with fail;generalize wr.alloc (.cells #[.int .i64 a] 3 (0,0))=W1 at *;generalize wr.heap.size=cb at *;refine(JF b cb I V (fun p=>isF p (a:Int)) W1 (HI.out.keep K1.out) hnp (fun i W hi hk=>ER cb a (I.pg i) W ((hk.block _ (lH B1.out) (fun x=>x)).trans B1.out))).mono ?_;rintro e w2 ⟨sb,sc,ws,rfl,hst,hge1,hge2,hbt,hk2⟩;have LL:=aA (show L8 w w2 cb sb sc I.np a ws (pgL I fun p=>isF p (a:Int))from⟨(hk2.block _ (lH B1.out) (fun x=>x)).trans B1.out,hst,Nat.le_trans K1.out.size hge2,by have:=SZ.out;omega,nT K1.out hk2,pgL_nodup _ _,fun i hi=>by
    rw[hbt i hi,Bool.eq_iff_iff,decide_eq_true_eq,pgL_mem];exact⟨fun h=>⟨hi,h⟩,fun h=>h.2⟩,fun i hi=>(pgL_mem.1 hi).1⟩)
   clear hst hge1 hge2 hbt hk2 d0 B1 K1 SZ;go_wp2_with fail;go_loopw [3,5] (fun pv bv W=>∃ p q:Nat,pv=.int .u64 p/\bv=.int .u64 q/\p<18446744073709551616/\q<18446744073709551616/\Hid (∃ ws l,L8 w W cb sb sc I.np a ws l/\bO (decP I) 0 (fun i=>M.word I.mem (4096*i)) (fun i=>M.word I.mem (4096*i+8)) (l.length+1) l p q=okv)) (fun _ _ W=>aT (cB W sc))
   case atStart=>exact⟨p,0,rfl,rfl,hp64,by decide,aA ⟨_,_,LL.out,OK.out⟩⟩
   case round=>
    clear LL OK hp64;obtain⟨p,q,rfl,rfl,hp64,hq64,hL⟩:=hrel;obtain⟨ws,l,hl,hok⟩:=hL.out;have LL:=aA hl;have OK:=aA hok;clear hL hl hok;by_cases hp0:p=0
    ·have hp0':((p:Int) != 0)=false:=(by rw[hp0];rfl);have OK2:=aA (show okv=decide (aT ws=0)by rw[<-OK.out,hp0,yN,LL.out.empty]);obtain⟨cw,hcw⟩:=xe (aT ws);have HCT:=aA (fun (x:KW wr)=>rO sb sc I.np ws x.v (LL.out.keep x.k).st);rw[<-hcw] at HCT OK2;have c0:∀ x:KW wr,x.v.cell? ⟨cb,0,none⟩=some (.int .i64 a):=fun x=>by simp[World.cell?,(LL.out.keep x.k).bx]
     clear hp0 hcw;by_cases g:cw=0
     case neg=>
      have R2:=aA (FB.out (by rw[OK2.out,decide_eq_false g]));have f4:((cw:Int) == 0)=false:=(by rw[beq_eq_false_iff_ne];omega);clear g;go_wp2_with fail;refine fX (by kernel_rfl) (by kernel_rfl) (by exact List.cons_ne_nil _ _) ?_;dsimp only[List.dropLast,List.getLast];repeat (go_big_quiet_step (first|(go_at_call 218;exact Calls.kept_of ((HCT.out _).mono fun _ _ ⟨h1,h2⟩=>⟨h1,h2▸Kt.refl _ _⟩))))
      refine wpQuiet_nil ?_;refine⟨rfl,?_⟩;rintro _ ⟨x,rfl⟩;exact fW (p:=(a:Int)) rfl rfl rfl fun _ hd=>⟨hd,R2.out,nT LL.out.k x.k⟩
     have R2:=aA (GA.out (by rw[OK2.out,decide_eq_true g]));have f4:((cw:Int) == 0)=true:=(by rw[beq_iff_eq];omega);have HMY:=aA (fun W=>cH (a:Int) W);clear g;go_wp2_with fail;refine cI (by kernel_rfl) (by kernel_rfl) ?_;repeat (go_big_quiet_step (first|(go_at_call 218;exact Calls.kept_of ((HCT.out _).mono fun _ _ ⟨h1,h2⟩=>⟨h1,h2▸Kt.refl _ _⟩))|(go_at_call 212;exact Calls.kept_of ((HMY.out _).mono fun _ _ ⟨h1,h2⟩=>⟨h1,h2▸Kt.refl _ _⟩))))
     refine wpQuiet_nil ?_;intro x;have R3:=aA (show Kt nO w x.v/\_ from⟨nT LL.out.k x.k,R2.out⟩);clear c0;go_wp2_with fail;go_round
     case rel=>exact⟨a+1,by omega,by go_num,R3⟩
     case measure=>simp[intOf];omega
    ·have hp0':((p:Int) != 0)=true:=(by rw[bne_iff_ne];omega);have IM:=aA (HI.out.keep LL.out.k);have HPA:=aA (fun (x:KW wr)=>WU b I V p hp64 x.v (IM.out.keep x.k) HS.out.be);have INS:=aA (LL.out.ins (decP I p) (fun i h=>(qU HS.out h).1));obtain⟨di,hdi⟩:=xe (lE (decP I p));rw[<-hdi] at HPA INS;have HDI:=aA hdi;have c0:∀ x:KW wr,x.v.cell? ⟨cb,0,none⟩=some (.int .i64 a):=fun x=>by simp[World.cell?,(LL.out.keep x.k).bx]
     clear hdi
     cases hin:cA I.np ws di with
     | false=>
      have R2:=aA (FB.out (by
       rw[<-OK.out];refine qV hp0 fun i hi=>.inl fun hm=>?_
       have:=INS.out;rw[hi,hin] at this;exact absurd hm (of_decide_eq_false this.symm)))
      have HIN:=aA hin;clear hin hp0;go_wp2_with fail;refine fX (by kernel_rfl) (by kernel_rfl) (by exact List.cons_ne_nil _ _) ?_;dsimp only[List.dropLast,List.getLast];repeat (go_big_quiet_step (first|(go_at_call 226;exact Calls.kept_of ((HPA.out _).mono fun _ _ ⟨h1,h2⟩=>⟨h1,h2▸Kt.refl _ _⟩))))
      refine wpQuiet_nil ?_;refine⟨rfl,?_⟩;rintro _ ⟨x,rfl⟩;exact YI (p:=(a:Int)) rfl rfl rfl rfl (LL.out.keep x.k).st HIN.out fun _ hd=>⟨hd,R2.out,nT LL.out.k x.k⟩
     | true=>
      have hex:∃ i,decP I p=some i/\i∈l:=by
       have:=INS.out;rw[hin] at this
       cases hd:decP I p with
       | none=>rw[hd] at this;cases this
       | some i=>rw[hd] at this;exact⟨i,rfl,of_decide_eq_true this.symm⟩
      obtain⟨i,hi,hil⟩:=hex;obtain⟨hin1,hpi,-⟩:=qU HS.out hi;have hdi:di=(i:Int):=(by rw[HDI.out,hi];rfl);subst hdi;have HIN:=aA hin;have HIL:=aA hil;have HD:=aA (show decP I p=some i/\p≠0 from⟨hi,hp0⟩);have HPI:=aA hpi;have HI1:=aA hin1;clear hin hil hi hpi hin1 hp0;go_wp2_with fail;have HPA2:=aA (show Calls prog 226 #[.pointer (some ⟨b,0,none⟩),.int .u64 p] wr.drew fun e w'=>e=.returned (.int .i64 i)/\w'=wr.drew from(HPA.out ⟨wr.drew,(Kt.refl nO wr).drew⟩));have HME:=aA (tN sb sc I.np ws (i:Int) (a:Int) wr.drew (LL.out.keep (Kt.refl nO wr).drew).st HIN.out);have y0:wr.drew.cell? ⟨cb,0,none⟩=some (.int .i64 a):=c0 ⟨wr.drew,(Kt.refl nO wr).drew⟩;clear c0;go_cut [26] (fun v W=>Hid (SetAt W sb sc I.np (bN I.np ws (i:Int) false)/\Kt (fun x=>x=sc) wr.drew W/\W.heap.size=wr.drew.heap.size))
      case first=>
       go_region_held3 (fun w'=>w'.cell? ⟨cb,0,none⟩=some (.int .i64 a)) (first|with_reducible exact y0|with_reducible exact y1) (first|(go_at_call 226;with_reducible refine HPA2.out.mono ?_;rintro e w1 ⟨rfl,rfl⟩)|(go_at_call 225;with_reducible refine HME.out.mono ?_;rintro e w1 ⟨rfl,h1,h2,h3⟩;have M1:=aA (show SetAt w1 sb sc I.np (bN I.np ws (i:Int) false)/\Kt (fun x=>x=sc) wr.drew w1/\w1.heap.size=wr.drew.heap.size from⟨h1,h2,h3⟩);have y1:w1.cell? ⟨cb,0,none⟩=some (.int .i64 a):=h2.cell LL.out.ne y0;clear h1 h2 h3)|fail)
       all_goals (go_wp2_with fail;go_meet;exact M1)
      case rest=>
      rename_i wc _;have MC:=aA hcut.out;clear hcut;have LM:=aA (show L8 w wc cb sb sc I.np a (bN I.np ws (i:Int) false) (l.erase i)from(LL.out.keep (Kt.refl nO wr).drew).met MC.out.2.1 HIL.out MC.out.1);have MSR:=aA (show aT (cB wc sc)<aT (cB wr sc)by
       rw[iE LM.out.st,iE LL.out.st];have hb:aF ws i=true:=(by rw[LL.out.mem i HI1.out];exact decide_eq_true HIL.out);have:=uB LL.out.st LM.out.st HI1.out hb;omega)
      have IM2:=aA (HI.out.keep LM.out.k);have hqn : 4096*i+8+8<=I.nm:=(by have:=HS.out.nm;have:=HI1.out;omega);have HW8:=aA (fun (x:KW wc)=>tO b I V (4096*i+8) x.v (IM2.out.keep x.k) hqn HS.out.be);have HW0:=aA (fun (W:World) (hW:Kt nO wc W)=>tO b I V (4096*i) W (IM2.out.keep hW) (by omega) HS.out.be);have hpb:p<9223372036854775808:=(by have:=HPI.out;have:=HS.out.be;omega);have e8:((I.bS+(4096*i+8):Nat):Int)=(p:Int)+8:=(by have:=HPI.out;omega);have e0:((I.bS+4096*i:Nat):Int)=(p:Int):=(by have:=HPI.out;omega);rw[e8] at HW8;rw[e0] at HW0;have NXT:=aA (show M.word I.mem (4096*i+8)=q->bO (decP I) 0 (fun i=>M.word I.mem (4096*i)) (fun i=>M.word I.mem (4096*i+8)) ((l.erase i).length+1) (l.erase i) (M.word I.mem (4096*i)) p=okv from fun h=>by
       rw[<-OK.out];exact(yM (nxt:=fun i=>M.word I.mem (4096*i)) (bk:=fun i=>M.word I.mem (4096*i+8)) HD.out.2 HD.out.1 HIL.out h).symm)
      have NOT:=aA (show ¬M.word I.mem (4096*i+8)=q->bM (a:Int)=EE from fun h=>FB.out (by
       rw[<-OK.out];refine qV HD.out.2 fun j hj=>.inr ?_
       rw[HD.out.1] at hj;injection hj with hj
       rw[<-hj];exact h))
      have WLT:=aA (word_lt IM2.out.d (4096*i) (by omega));generalize M.word I.mem (4096*i+8)=wb at *;generalize M.word I.mem (4096*i)=wn at *;have c0:∀ x:KW wc,x.v.cell? ⟨cb,0,none⟩=some (.int .i64 a):=fun x=>by simp[World.cell?,(LM.out.keep x.k).bx]
      clear e8 e0 y0 HPA2 HME hqn;by_cases g:wb=q
      case neg=>
       have R2:=aA (NOT.out g);have f4:((wb:Int) == (q:Int))=false:=(by rw[beq_eq_false_iff_ne];omega);clear g;go_wp2_with fail;refine fX (by kernel_rfl) (by kernel_rfl) (by exact List.cons_ne_nil _ _) ?_;dsimp only[List.dropLast,List.getLast];repeat (go_big_quiet_step (first|(go_at_call 227;exact Calls.kept_of ((HW8.out _).mono fun _ _ ⟨h1,m,h2⟩=>⟨h1,h2▸(Kt.refl _ _).drewN m⟩))))
       refine wpQuiet_nil ?_;refine⟨rfl,?_⟩;rintro _ ⟨x,rfl⟩;exact fW (p:=(a:Int)) rfl rfl rfl fun _ hd=>⟨hd,R2.out,nT LM.out.k x.k⟩
      have R2:=aA (NXT.out g);have f4:((wb:Int) == (q:Int))=true:=(by rw[beq_iff_eq];omega);have HMY:=aA (fun W=>cH (a:Int) W);clear g;go_wp2_with fail;refine cI (by kernel_rfl) (by kernel_rfl) ?_;repeat (go_big_quiet_step (first|(go_at_call 227;exact Calls.kept_of ((HW8.out _).mono fun _ _ ⟨h1,m,h2⟩=>⟨h1,h2▸(Kt.refl _ _).drewN m⟩))|(go_at_call 212;exact Calls.kept_of ((HMY.out _).mono fun _ _ ⟨h1,h2⟩=>⟨h1,h2▸Kt.refl _ _⟩))))
      refine wpQuiet_nil ?_;intro x;clear c0;go_wp2_with fail;refine(HW0.out x.v x.k).mono ?_;rintro e w5 ⟨rfl,m5,rfl⟩;have KF:=aA (nT x.k ((Kt.refl nO x.v).drewN m5));have R3:=aA (show ∃ ws l,L8 w (x.v.drewN m5) cb sb sc I.np a ws l/\bO (decP I) 0 (fun i=>M.word I.mem (4096*i)) (fun i=>M.word I.mem (4096*i+8)) (l.length+1) l wn p=okv from⟨_,_,LM.out.keep KF.out,R2.out⟩);have MS2:=aA (show aT (cB (x.v.drewN m5) sc)<aT (cB wr sc)by
       rw[iE (LM.out.keep KF.out).st,<-iE LM.out.st];exact MSR.out)
      go_wp2_with fail;go_round
      case rel=>exact⟨wn,p,rfl,rfl,WLT.out,hp64,R3⟩
      case measure=>exact MS2.out
  ·obtain rfl:a=K:=(by omega);have hai:¬(a:Int)<a:=(by omega);have E:=aA (show Ending.returned (.tuple #[])=EE by rw[HE.out,fst1_ok (fun x hx=>hR.out.2 x (by rw[HKK.out];exact hx))];rfl);go_wp2_with fail;first|go_end0|go_ret
   exact⟨E.out,hR.out.1⟩
def prS(c:Int)(p:Pg):Bool:=decide (p.kd=4) && (decide (p.cl=c) && !decide (p.lv=(celN9 p.cl.toNat:Int)))
def dec10(I:Img)(x:Int):Option Nat:=if 0<=x/\x<(I.np:Int) then some x.toNat else none
def dY(I:Img)(j:Nat):Bool:=bO (dec10 I) (-1) (fun i=>(I.pg i).nx) (fun i=>(I.pg i).pv) ((pgL I (prS (j:Int))).length+1) (pgL I (prS (j:Int))) (I.pt.getD j 0) (-1)
theorem GM(cb a:Nat)(p:Pg)(c:Nat)(hc:p.cl=(c:Int))(h7:c<=7)(w:World)(h:w.heap[cb]?=some (.cells #[.int .i64 a] 3 (0,0))):
  Calls prog 229 #[fH p,.pointer (some ⟨cb,0,none⟩)] w fun e w'=>e=.returned (.bool (prS (a:Int) p))/\Kt nO w w':=by
 have c0:w.cell? ⟨cb,0,none⟩=some (.int .i64 a):=by simp[World.cell?,h]
 have HF:=aA (fun W=>yW p c hc h7 W);have c1:(w.alloc (aV p)).cell? ⟨cb,0,none⟩=some (.int .i64 a):=(show Kt nO w (w.alloc (aV p))from(Kt.refl _ _).alloc _).cell (fun x=>x) c0;have HK:=aA (show Kt nO w (w.alloc (aV p))from(Kt.refl _ _).alloc _);have E:=aA (show prS (a:Int) p=(decide (p.kd=4) && (decide (p.cl=(a:Int)) && !decide (p.lv=(celN9 c:Int))))by unfold prS;rw[hc,Int.toNat_natCast]);generalize decide (p.lv=(celN9 c:Int))=fv at *;generalize prS (a:Int) p=rv at *;clear h hc;obtain⟨kd,od,cl,lv,nx,pv,fs,b0,b1,b2,b3⟩:=p;dsimp only at E;by_cases h4:kd=4
 ·subst h4;by_cases hca:cl=(a:Int)
  ·subst hca;have E2:=aA (show(!fv)=rv by rw[E.out];simp)
   cases fv with
   | false=>
    go_enter func229,ntmps229;go_wp2_with fail;refine(HF.out _).mono ?_;rintro e w1 ⟨rfl,hk⟩;have K1:=aA (nT HK.out hk);clear hk c0 c1;go_wp2_with fail;go_ret;exact⟨cO E2.out,K1.out⟩
   | true=>
    go_enter func229,ntmps229;go_wp2_with fail;refine(HF.out _).mono ?_;rintro e w1 ⟨rfl,hk⟩;have K1:=aA (nT HK.out hk);clear hk c0 c1;go_wp2_with fail;go_ret;exact⟨cO E2.out,K1.out⟩
  ·have E2:=aA (show false=rv by rw[E.out];simp[hca]);have f1:(cl == (a:Int))=false:=(by rw[beq_eq_false_iff_ne];exact hca);clear hca;go_enter func229,ntmps229;go_wp2_with fail;go_ret;exact⟨cO E2.out,HK.out⟩
 ·have E2:=aA (show false=rv by rw[E.out];simp[h4]);have f1:(kd == 4)=false:=by rw[beq_eq_false_iff_ne];exact h4
  clear h4;go_enter func229,ntmps229;go_wp2_with fail;go_ret;exact⟨cO E2.out,HK.out⟩
theorem sV{I:Img}{x:Int}{i:Nat}(h:dec10 I x=some i):i<I.np/\x=(i:Int)/\x ≠ -1:=by
 unfold dec10 at h;split at h
 ·injection h with h
  omega
 ·cases h
theorem VE{w W:World}{cb sb sc a:Nat}{I:Img}{ws l:List Nat}(h:L8 w W cb sb sc I.np a ws l)(x:Int):cA I.np ws x=mQ l (dec10 I x):=by
 unfold dec10;by_cases hx : 0<=x/\x<(I.np:Int)
 ·rw[if_pos hx];obtain⟨i,rfl⟩:=Int.eq_ofNat_of_zero_le hx.1;rw[Int.toNat_natCast];show cA I.np ws (i:Int)=decide (i∈l)
  unfold cA aC;rw[decide_eq_true (by omega),Int.toNat_natCast,Bool.true_and,h.mem i (by omega)]
 ·rw[if_neg hx];show cA I.np ws x=false
  unfold cA aC;rw[decide_eq_false hx];rfl
theorem zb2(b:Nat)(I:Img)(V:ImV)(k r:Nat)(hS:Sn9 I k r)(w:World)(hI:ImAt w b I V):
  Calls prog 174 #[.pointer (some ⟨b,0,none⟩)] w fun e w'=>e=bB (fst1 8 (dY I))/\Kt nO w w':=by
 obtain⟨-,⟨pa,pc,hp⟩,-,-,⟨ta,tc,ht⟩,-,-,-,-⟩:=hI.d.sl;obtain⟨c0,c1,c2,c3,c4,c5,c6,c7,c8⟩:=hI.cells;rw[ht] at c8;have hts:=hI.d.pts;rw[ht] at hts;obtain⟨bl,o,rfl,hbl,htc⟩:=hts.at 0 (by rw[hS.tl];omega);obtain⟨EE,hEE⟩:=xe (bB (fst1 8 (dY I)));rw[<-hEE];have HE:=aA hEE;have HI:=aA hI;have HS:=aA hS;have SP:=aA hp;rw[hS.tl] at c8 htc;have HHC:=aA htc;have hnp:=hS.np1;have hmf:∀ (fn:Fn) (first cap:Array Value) (w:World),(Instr.makeFunc fn first cap).run prog w=.ok (.func fn first cap) w:=fun _ _ _ _=>rfl
 obtain⟨n,hn⟩:=xe (I.np);have HN:=aA hn;clear hEE hI hS ht hts htc hbl hp hn;go_enter func174,ntmps174;go_wp2_with fail;go_loopw [11] (fun i W=>∃ a:Nat,a<=8/\i=.int .i64 a/\Hid (Kt nO w W/\∀ x,x<a->dY I x=true)) (fun i _=>8-(intOf i).toNat)
 case atStart=>exact⟨0,Nat.zero_le _,rfl,aA ⟨Kt.refl _ _,fun x hx=>by omega⟩⟩
 case round=>
  clear c0 c1 c2 c3 c4 c5 c6 c7 c8;obtain⟨a,ha',rfl,hR⟩:=hrel;by_cases hlt:a<8
  ·have hai:(a:Int)<8:=(by omega);obtain⟨hp64,hpc⟩:=HHC.out a hlt;have d0:=hR.out.1.cell (fun x=>x) hpc;obtain⟨p,hp⟩:=xe (I.pt.getD a 0);rw[<-hp] at d0 hp64;have FB:=aA (show dY I a=false->bM (a:Int)=EE from fun h=>by rw[HE.out,kF hlt hR.out.2 h];rfl);have GA:=aA (show dY I a=true->∀ x,x<a+1->dY I x=true from fun h x hx=>by
    by_cases e:x=a
    ·rw[e];exact h
    ·exact hR.out.2 x (by omega))
   have OK:=aA (show bO (dec10 I) (-1) (fun i=>(I.pg i).nx) (fun i=>(I.pg i).pv) ((pgL I (prS (a:Int))).length+1) (pgL I (prS (a:Int))) p (-1)=dY I a by rw[hp];rfl);generalize dY I a=okv at *;have B1:=aA (show(wr.alloc (.cells #[.int .i64 a] 3 (0,0))).heap[wr.heap.size]?=some (.cells #[.int .i64 a] 3 (0,0))from nH _ _);have K1:=aA (show Kt nO w (wr.alloc (.cells #[.int .i64 a] 3 (0,0)))from hR.out.1.alloc _);have SZ:=aA (show wr.heap.size<(wr.alloc (.cells #[.int .i64 a] 3 (0,0))).heap.size by simp);clear hp hpc;go_wp2_with fail;generalize wr.alloc (.cells #[.int .i64 a] 3 (0,0))=W1 at *;generalize wr.heap.size=cb at *;refine(JE b cb I V (prS (a:Int)) W1 (HI.out.keep K1.out) hnp (fun i W hi hk=>by
    obtain⟨_,_,c,_,-,-,-,-,y5,y6,-⟩:=HS.out.pg i hi;exact GM cb a (I.pg i) c y5 y6 W ((hk.block _ (lH B1.out) (fun x=>x)).trans B1.out))).mono ?_
   rintro e w2 ⟨sb,sc,ws,rfl,hst,hge1,hge2,hbt,hk2⟩;have LL:=aA (show L8 w w2 cb sb sc I.np a ws (pgL I (prS (a:Int)))from⟨(hk2.block _ (lH B1.out) (fun x=>x)).trans B1.out,hst,Nat.le_trans K1.out.size hge2,by have:=SZ.out;omega,nT K1.out hk2,pgL_nodup _ _,fun i hi=>by
    rw[hbt i hi,Bool.eq_iff_iff,decide_eq_true_eq,pgL_mem];exact⟨fun h=>⟨hi,h⟩,fun h=>h.2⟩,fun i hi=>(pgL_mem.1 hi).1⟩)
   clear hst hge1 hge2 hbt hk2 d0 B1 K1 SZ;go_wp2_with fail;go_loopw [3,5] (fun pv bv W=>∃ p q:Int,pv=.int .i64 p/\bv=.int .i64 q/\Hid (∃ ws l,L8 w W cb sb sc I.np a ws l/\bO (dec10 I) (-1) (fun i=>(I.pg i).nx) (fun i=>(I.pg i).pv) (l.length+1) l p q=okv)) (fun _ _ W=>aT (cB W sc))
   case atStart=>exact⟨p,-1,rfl,rfl,aA ⟨_,_,LL.out,OK.out⟩⟩
   case round=>
    clear LL OK hp64;obtain⟨p,q,rfl,rfl,hL⟩:=hrel;obtain⟨ws,l,hl,hok⟩:=hL.out;have LL:=aA hl;have OK:=aA hok;clear hL hl hok;by_cases hp0:p = -1
    ·have hp0':(p != -1)=false:=(by rw[hp0];rfl);have OK2:=aA (show okv=decide (aT ws=0)by rw[<-OK.out,hp0,yN,LL.out.empty]);obtain⟨cw,hcw⟩:=xe (aT ws);have HCT:=aA (fun (x:KW wr)=>rO sb sc I.np ws x.v (LL.out.keep x.k).st);rw[<-hcw] at HCT OK2;have c0:∀ x:KW wr,x.v.cell? ⟨cb,0,none⟩=some (.int .i64 a):=fun x=>by simp[World.cell?,(LL.out.keep x.k).bx]
     clear hp0 hcw;by_cases g:cw=0
     case neg=>
      have R2:=aA (FB.out (by rw[OK2.out,decide_eq_false g]));have f4:((cw:Int) == 0)=false:=(by rw[beq_eq_false_iff_ne];omega);clear g;go_wp2_with fail;refine fX (by kernel_rfl) (by kernel_rfl) (by exact List.cons_ne_nil _ _) ?_;dsimp only[List.dropLast,List.getLast];repeat (go_big_quiet_step (first|(go_at_call 218;exact Calls.kept_of ((HCT.out _).mono fun _ _ ⟨h1,h2⟩=>⟨h1,h2▸Kt.refl _ _⟩))))
      refine wpQuiet_nil ?_;refine⟨rfl,?_⟩;rintro _ ⟨x,rfl⟩;exact fW (p:=(a:Int)) rfl rfl rfl fun _ hd=>⟨hd,R2.out,nT LL.out.k x.k⟩
     have R2:=aA (GA.out (by rw[OK2.out,decide_eq_true g]));have f4:((cw:Int) == 0)=true:=(by rw[beq_iff_eq];omega);have HMY:=aA (fun W=>cH (a:Int) W);clear g;go_wp2_with fail;refine cI (by kernel_rfl) (by kernel_rfl) ?_;repeat (go_big_quiet_step (first|(go_at_call 218;exact Calls.kept_of ((HCT.out _).mono fun _ _ ⟨h1,h2⟩=>⟨h1,h2▸Kt.refl _ _⟩))|(go_at_call 212;exact Calls.kept_of ((HMY.out _).mono fun _ _ ⟨h1,h2⟩=>⟨h1,h2▸Kt.refl _ _⟩))))
     refine wpQuiet_nil ?_;intro x;have R3:=aA (show Kt nO w x.v/\_ from⟨nT LL.out.k x.k,R2.out⟩);clear c0;go_wp2_with fail;go_round
     case rel=>exact⟨a+1,by omega,by go_num,R3⟩
     case measure=>simp[intOf];omega
    ·have hp0':(p != -1)=true:=(by rw[bne_iff_ne];exact hp0);have IM:=aA (HI.out.keep LL.out.k);have INS:=aA (VE LL.out p);have c0:wr.cell? ⟨cb,0,none⟩=some (.int .i64 a):=by simp[World.cell?,LL.out.bx]
     cases hin:cA I.np ws p with
     | false=>
      have R2:=aA (FB.out (by
       rw[<-OK.out];refine qV hp0 fun i hi=>.inl fun hm=>?_
       have:=INS.out;rw[hi,hin] at this;exact absurd hm (of_decide_eq_false this.symm)))
      have HME:=aA (sQ sb sc I.np ws p (a:Int) wr LL.out.st hin);clear hin hp0;go_wp2_with fail;refine HME.out.mono ?_;rintro e w3 ⟨rfl,rfl⟩;exact⟨rfl,R2.out,LL.out.k⟩
     | true=>
      have hex:∃ i,dec10 I p=some i/\i∈l:=by
       have:=INS.out;rw[hin] at this
       cases hd:dec10 I p with
       | none=>rw[hd] at this;cases this
       | some i=>rw[hd] at this;exact⟨i,rfl,of_decide_eq_true this.symm⟩
      obtain⟨i,hi,hil⟩:=hex;obtain⟨hin1,hpi,hp1⟩:=sV hi;subst hpi;have HD:=aA (show dec10 I (i:Int)=some i/\(i:Int) ≠ -1 from⟨hi,hp1⟩);have HIL:=aA hil;have HI1:=aA hin1;have HME:=aA (tN sb sc I.np ws (i:Int) (a:Int) wr LL.out.st hin);clear hin hil hi hin1 hp1 hp0;go_wp2_with fail;refine HME.out.mono ?_;rintro e wc ⟨rfl,h1,h2,h3⟩;have LM:=aA (show L8 w wc cb sb sc I.np a (bN I.np ws (i:Int) false) (l.erase i)from LL.out.met h2 HIL.out h1);have MSR:=aA (show aT (cB wc sc)<aT (cB wr sc)by
       rw[iE LM.out.st,iE LL.out.st];have hb:aF ws i=true:=(by rw[LL.out.mem i HI1.out];exact decide_eq_true HIL.out);have:=uB LL.out.st LM.out.st HI1.out hb;omega)
      clear h1 h2 h3 HME c0;have IM2:=aA (HI.out.keep LM.out.k);have NXT:=aA (show(I.pg i).pv=q->bO (dec10 I) (-1) (fun i=>(I.pg i).nx) (fun i=>(I.pg i).pv) ((l.erase i).length+1) (l.erase i) (I.pg i).nx (i:Int)=okv from fun h=>by
       rw[<-OK.out];exact(yM (nxt:=fun i=>(I.pg i).nx) (bk:=fun i=>(I.pg i).pv) HD.out.2 HD.out.1 HIL.out h).symm)
      have NOT:=aA (show ¬(I.pg i).pv=q->bM (a:Int)=EE from fun h=>FB.out (by
       rw[<-OK.out];refine qV HD.out.2 fun j hj=>.inr ?_
       rw[HD.out.1] at hj;injection hj with hj
       rw[<-hj];exact h))
      have hpa:∃ bl' o',pa=some ⟨bl',o',none⟩:=by
       obtain⟨bl',o',oc',hv',_⟩:=IM2.out.page i HI1.out;rw[SP.out] at hv';injection hv' with e1
       exact⟨bl',o',e1⟩
      obtain⟨pb,po,rfl⟩:=hpa;obtain⟨d0,d1,d2,d3,d4,d5,d6,d7,d8,d9,d10⟩:=gV (IM2.out.pageK SP.out i HI1.out);obtain⟨c0,c1,c2,c3,c4,c5,c6,c7,c8⟩:=IM2.out.all;rw[SP.out,<-HN.out] at c5;have b0:∀ x:KW wc,x.v.cell? ⟨cb,0,none⟩=some (.int .i64 a):=fun x=>by simp[World.cell?,(LM.out.keep x.k).bx]
      have hin2:(i:Int)<n:=(by have:=HI1.out;rw[HN.out];omega);by_cases g:(I.pg i).pv=q
      case neg=>
       have R2:=aA (NOT.out g);have f4:((I.pg i).pv == q)=false:=(by rw[beq_eq_false_iff_ne];exact g);clear g;go_wp2_with fail;refine fX (by kernel_rfl) (by kernel_rfl) (by exact List.cons_ne_nil _ _) ?_;dsimp only[List.dropLast,List.getLast];repeat (go_big_quiet_step (fail))
       refine wpQuiet_nil ?_;refine⟨rfl,?_⟩;rintro _ ⟨x,rfl⟩;exact fW (p:=(a:Int)) rfl rfl rfl fun _ hd=>⟨hd,R2.out,nT LM.out.k x.k⟩
      have R2:=aA (NXT.out g);have f4:((I.pg i).pv == q)=true:=(by rw[beq_iff_eq];exact g);have HMY:=aA (fun W=>cH (a:Int) W);clear g;go_wp2_with fail;refine cI (by kernel_rfl) (by kernel_rfl) ?_;repeat (go_big_quiet_step (first|(go_at_call 212;exact Calls.kept_of ((HMY.out _).mono fun _ _ ⟨h1,h2⟩=>⟨h1,h2▸Kt.refl _ _⟩))))
      refine wpQuiet_nil ?_;intro x;have LX:=aA (LM.out.keep x.k);clear d0 d1 d2 d3 d4 d5 d6 d7 d8 d9 d10 c0 c1 c2 c3 c4 c5 c6 c7 c8 b0 f4;go_wp2_with fail;have WSX:=aA (show cB x.v sc=cB wc sc by rw[iE LX.out.st,iE LM.out.st]);generalize x.v=W3 at *;have IM3:=aA (HI.out.keep LX.out.k);obtain⟨d0,d1,d2,d3,d4,d5,d6,d7,d8,d9,d10⟩:=gV (IM3.out.pageK SP.out i HI1.out);obtain⟨c0,c1,c2,c3,c4,c5,c6,c7,c8⟩:=IM3.out.all;rw[SP.out,<-HN.out] at c5;refine cI (by kernel_rfl) (by kernel_rfl) ?_;repeat (go_big_quiet_step (fail))
      refine wpQuiet_nil ?_;intro y;have R3:=aA (show ∃ ws l,L8 w y.v cb sb sc I.np a ws l/\bO (dec10 I) (-1) (fun i=>(I.pg i).nx) (fun i=>(I.pg i).pv) (l.length+1) l (I.pg i).nx (i:Int)=okv from⟨_,_,LX.out.keep y.k,R2.out⟩);have MS2:=aA (show aT (cB y.v sc)<aT (cB wr sc)by
       rw[iE (LX.out.keep y.k).st,<-iE LM.out.st];exact MSR.out)
      clear d0 d1 d2 d3 d4 d5 d6 d7 d8 d9 d10 c0 c1 c2 c3 c4 c5 c6 c7 c8;go_wp2_with fail;go_round
      case rel=>exact⟨(I.pg i).nx,(i:Int),rfl,rfl,R3⟩
      case measure=>exact MS2.out
  ·have hae:a=8:=(by omega);have hai:¬(a:Int)<8:=(by omega);have E:=aA (show Ending.returned (.tuple #[])=EE by rw[HE.out,fst1_ok (fun x hx=>hR.out.2 x (by omega))];rfl);clear hae;go_wp2_with fail;first|go_end0|go_ret
   exact⟨E.out,hR.out.1⟩
end Go.Proofs.YtkfmheelhinjdaaGreatDoor.W
