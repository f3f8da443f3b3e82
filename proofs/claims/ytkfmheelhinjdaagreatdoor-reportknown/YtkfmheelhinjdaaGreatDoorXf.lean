import Derived.Test.YtkfmheelhinjdaaGreatDoorXe
import Derived.Test.YtkfmheelhinjdaaGreatDoorXx
import Derived.Deep.DeepCutAuto
set_option maxRecDepth 1000000
set_option maxHeartbeats 80000000
namespace Go.Proofs.YtkfmheelhinjdaaGreatDoor.M
open _root_.Go.Proofs.Tryz
open Go.RowKit Go.Shelf
set_option linter.unusedVariables false
attribute [local go_sem] Oper.semAt_some
end Go.Proofs.YtkfmheelhinjdaaGreatDoor.M
namespace Go.Proofs.YtkfmheelhinjdaaGreatDoor.W
open _root_.Go.Proofs.Tryz
open Go.RowKit
set_option linter.unusedVariables false
theorem zN(f:Nat->Bool):∀ (M j:Nat),j<M->f j=true->0<aK f M
 | 0,j,h,_=>by omega
 | M+1,j,h,hf=>by
  by_cases e:j=M
  ·rw[e] at hf;rw[rH f M hf];omega
  ·have:=zN f M j (by omega) hf
   cases h2:f M with
   | true=>rw[rH f M h2];omega
   | false=>rw[pF f M h2];exact this
theorem zT{w:World}{b c n:Nat}{ws:List Nat}(h:SetAt w b c n ws):aT ws=0↔∀ j,j<n->aF ws j=false:=by
 have e:aT ws=aK (aF ws) (64*ws.length):=rP ws h.lt64 ws.length;rw[e];have hl:=h.len;constructor
 ·intro h0 j hj
  cases hb:aF ws j with
  | false=>rfl
  | true=>
   have:=zN (aF ws) (64*ws.length) j (by omega) hb;omega
 ·intro h0;exact WP _ _ fun j _=>by
   by_cases hj:j<n
   ·exact h0 j hj
   ·exact h.bit_past j (by omega)
def cB(W:World)(sc:Nat):List Nat:=match W.heap[sc]? with
 | some (.cells cs _ _)=>cs.toList.map fun v=>(intOf v).toNat
 | _=>[]
theorem gZ{W:World}{b c n:Nat}{ws:List Nat}(h:SetAt W b c n ws):cB W c=ws:=by
 unfold cB;rw[h.hc];simp[bI,intOf];conv=>rhs;rw[<-List.map_id ws]
 rfl
theorem tY{w w':World}{b c n:Nat}{ws:List Nat}{i:Nat}(h:SetAt w b c n ws)(h':SetAt w' b c n (bN n ws (i:Int) false))(hi:i<n)(hb:aF ws i=true):aT (bN n ws (i:Int) false)+1=aT ws:=by
 have hr:aC n (i:Int)=true:=by unfold aC;exact decide_eq_true (by omega)
 have hs:bZ n ws (i:Int)=true:=by unfold bZ;rw[hr,Int.toNat_natCast,Bool.true_and,hb]
 have e:bN n ws (i:Int) false=jJ ws i:=by
  unfold bN fN;rw[hs,if_neg (by decide),if_pos hr,Int.toNat_natCast]
 rw[e] at h' ⊢;have hl:=h.len;exact WO ws i h.lt64 h'.lt64 (by omega) hb
def pgL(I:Img)(S:Pg->Bool):List Nat:=(List.range I.np).filter fun i=>S (I.pg i)
theorem pgL_nodup(I:Img)(S:Pg->Bool):(pgL I S).Nodup:=List.nodup_range.filter _
theorem pgL_mem{I:Img}{S:Pg->Bool}{i:Nat} : i∈pgL I S↔i<I.np/\S (I.pg i)=true:=by simp[pgL]
def ok8(I:Img)(j:Nat):Bool:=bO (decP I) 0 (fun i=>M.word I.mem (4096*i)) (fun i=>M.word I.mem (4096*i+8)) ((pgL I fun p=>isF p (j:Int)).length+1) (pgL I fun p=>isF p (j:Int)) (I.hd.getD j 0) 0
section
variable {α : Type} [DecidableEq α] {dec : α->Option Nat} {nil : α} {nxt bk:Nat->α}
theorem zM{l:List Nat}{b : α} : bO dec nil nxt bk (l.length+1) l nil b=l.isEmpty:=by rw[bO,if_pos rfl]
theorem qY{l:List Nat}{p b : α}(hp:p≠nil)(h:∀ i,dec p=some i->i ∉ l\/bk i≠b):bO dec nil nxt bk (l.length+1) l p b=false:=by
 rw[bO,if_neg hp]
 cases hd:dec p with
 | none=>rfl
 | some i=>
  show(decide (i∈l) && _)=false
  rcases h i hd with h1|h1
  ·rw[decide_eq_false h1];rfl
  ·rw[decide_eq_false h1];simp
theorem zL{l:List Nat}{p b : α}{i:Nat}(hp:p≠nil)(hd:dec p=some i)(hi:i∈l)(hb:bk i=b):bO dec nil nxt bk (l.length+1) l p b=bO dec nil nxt bk ((l.erase i).length+1) (l.erase i) (nxt i) p:=by
 rw[bO,if_neg hp,hd];show(decide (i∈l) && (decide (bk i=b) && _))=_
 rw[decide_eq_true hi,decide_eq_true hb,List.length_erase_of_mem hi];have:l.length-1+1=l.length:=by
  have:=List.length_pos_of_mem hi;omega
 rw[this];rfl
end
structure L8(w W:World)(cb sb sc n a:Nat)(ws:List Nat)(l:List Nat):Prop where
 bx:W.heap[cb]?=some (.cells #[.int .i64 a] 3 (0,0))
 st:SetAt W sb sc n ws
 ge:w.heap.size<=sc
 ne:cb≠sc
 k:Kt nO w W
 nd:l.Nodup
 mem:∀ i,i<n->aF ws i=decide (i∈l)
 lt:∀ i,i∈l->i<n
theorem L8.keep{w W W':World}{cb sb sc n a:Nat}{ws l:List Nat}(h:L8 w W cb sb sc n a ws l)(hk:Kt nO W W'):L8 w W' cb sb sc n a ws l:=
 ⟨(hk.block _ (lH h.bx) (fun x=>x)).trans h.bx,h.st.kept hk (fun x=>x) (fun x=>x),h.ge,h.ne,nT h.k hk,h.nd,h.mem,h.lt⟩
theorem L8.met{w W W':World}{cb sb sc n a i:Nat}{ws l:List Nat}(h:L8 w W cb sb sc n a ws l)(hk:Kt (fun x=>x=sc) W W')(hi:i∈l)(hs:SetAt W' sb sc n (bN n ws (i:Int) false)):L8 w W' cb sb sc n a (bN n ws (i:Int) false) (l.erase i):=by
 refine⟨(hk.block _ (lH h.bx) h.ne).trans h.bx,hs,h.ge,h.ne,h.k.trans hk (fun _ _ x=>x) (fun x hx e=>by have:=h.ge;omega),h.nd.erase i,fun j hj=>?_,fun j hj=>h.lt j (List.mem_of_mem_erase hj)⟩;rw[rI h.st.len i (h.lt i hi) false j];by_cases e:j=i
 ·rw[if_pos e,e];exact(decide_eq_false (fun hm=>((h.nd.mem_erase_iff).1 hm).1 rfl)).symm
 ·rw[if_neg e,h.mem j hj,decide_eq_decide,h.nd.mem_erase_iff];exact⟨fun hm=>⟨e,hm⟩,fun hm=>hm.2⟩
def mQ(l:List Nat)(x:Option Nat):Bool:=match x with|some i=>decide (i∈l)|none=>false
theorem L8.ins{w W:World}{cb sb sc n a:Nat}{ws l:List Nat}(h:L8 w W cb sb sc n a ws l)(x:Option Nat)(hx:∀ i,x=some i->i<n):bZ n ws (lE x)=mQ l x:=by
 cases x with
 | none=>simp[lE,bZ,aC,mQ]
 | some i=>
  have:=hx i rfl;show bZ n ws (i:Int)=decide (i∈l)
  unfold bZ aC;rw[decide_eq_true (by omega),Int.toNat_natCast,Bool.true_and,h.mem i this]
theorem L8.empty{w W:World}{cb sb sc n a:Nat}{ws l:List Nat}(h:L8 w W cb sb sc n a ws l):l.isEmpty=decide (aT ws=0):=by
 rw[Bool.eq_iff_iff,List.isEmpty_iff,decide_eq_true_eq,zT h.st];constructor
 ·intro e j hj;rw[h.mem j hj,e];rfl
 ·intro hz
  cases l with
  | nil=>rfl
  | cons x t=>
   exfalso
   have hx:=h.lt x List.mem_cons_self;have:=hz x hx;rw[h.mem x hx,decide_eq_true List.mem_cons_self] at this
   cases this
theorem qX{I:Img}{k r p i:Nat}(hS:Sn9 I k r)(h:decP I p=some i):i<I.np/\p=I.bS+4096*i/\p≠0:=by
 unfold decP at h;split at h
 ·rename_i hc;injection h with h
  have:=hS.nm;have hb:=hS.b0;omega
 ·cases h
theorem word_lt{w:World}{I:Img}{V:ImV}(h:ImD w I V)(q:Nat)(hq:q+8<=I.nm):M.word I.mem q<18446744073709551616:=by
 obtain⟨⟨ma,mc,hm⟩,-⟩:=h.sl;have hM:=h.mem;rw[hm] at hM;obtain⟨bl,o,-,-,hc⟩:=hM.at q (by omega);exact M.wordTo_lt (fun i=>I.mem (q+i)) 8 fun i hi=>(hc (q+i) (by omega)).1
theorem EF(cb a:Nat)(p:Pg)(w:World)(h:w.heap[cb]?=some (.cells #[.int .i64 a] 3 (0,0))):
  Calls prog 224 #[fF p,.pointer (some ⟨cb,0,none⟩)] w fun e w'=>e=.returned (.bool (isF p (a:Int)))/\Kt nO w w':=by
 have c0:w.cell? ⟨cb,0,none⟩=some (.int .i64 a):=by simp[World.cell?,h]
 have HF:=aA (fun W=>pE p (a:Int) W);have HB:=aA h;have c1:(w.alloc (aV p)).cell? ⟨cb,0,none⟩=some (.int .i64 a):=(show Kt nO w (w.alloc (aV p))from(Kt.refl _ _).alloc _).cell (fun x=>x) c0;have HN:=aA (nH w (aV p));have HK:=aA (show Kt nO w (w.alloc (aV p))from(Kt.refl _ _).alloc _);generalize isF p (a:Int)=fv at *;clear h;go_enter func224,ntmps224;go_wp2_with fail;refine(HF.out _).mono ?_;rintro e w1 ⟨rfl,hk⟩;have K1:=aA (nT HK.out hk);clear hk c0 c1;go_wp2_with fail;go_ret;exact⟨rfl,K1.out⟩
theorem YG(xs:Array Value)(w:World):Sem.run prog (callFunc 225 xs) w=.ok (.enter 225 xs) w:=by
 simp[callFunc,go_sem,func225];rfl
theorem WS{Q:Exit->Act->World->Prop}{o:Oper}{a:Act}{w:World}{x y z:Operand}{ts:Array TypeId}{sb sc n:Nat}{ws:List Nat}{i p:Int}(ho:o.op=.call { callee:=.value (.func 225),args:=#[x,y,z],argTypes:=ts })
  (hx:a.eval x=.pointer (some ⟨sb,0,none⟩)) (hy:a.eval y=.int .i64 i) (hz:a.eval z=.int .i64 p) (hs:SetAt w sb sc n ws) (hb:bZ n ws i=false) (h:∀ a',a'.defers=a.defers->Q (.panic [{ v:=.iface 218 (.int .i64 p),recovered:=false }]) a' w):fW prog Q o a w:=by
 refine zU YG ho ?_;have e:(#[x,y,z] : Array Operand).map a.eval=#[.pointer (some ⟨sb,0,none⟩),.int .i64 i,.int .i64 p]:=by simp[hx,hy,hz]
 rw[e];refine(sR sb sc n ws i p w hs hb).mono ?_;rintro e w1 ⟨rfl,rfl⟩;exact⟨_,rfl,h⟩
def prS(c:Int)(p:Pg):Bool:=decide (p.kd=4) && (decide (p.cl=c) && !decide (p.lv=(celN9 p.cl.toNat:Int)))
def dec10(I:Img)(x:Int):Option Nat:=if 0<=x/\x<(I.np:Int) then some x.toNat else none
def dX(I:Img)(j:Nat):Bool:=bO (dec10 I) (-1) (fun i=>(I.pg i).nx) (fun i=>(I.pg i).pv) ((pgL I (prS (j:Int))).length+1) (pgL I (prS (j:Int))) (I.pt.getD j 0) (-1)
theorem DV(cb a:Nat)(p:Pg)(c:Nat)(hc:p.cl=(c:Int))(h7:c<=7)(w:World)(h:w.heap[cb]?=some (.cells #[.int .i64 a] 3 (0,0))):
  Calls prog 229 #[fF p,.pointer (some ⟨cb,0,none⟩)] w fun e w'=>e=.returned (.bool (prS (a:Int) p))/\Kt nO w w':=by
 have c0:w.cell? ⟨cb,0,none⟩=some (.int .i64 a):=by simp[World.cell?,h]
 have HF:=aA (fun W=>yC p c hc h7 W);have c1:(w.alloc (aV p)).cell? ⟨cb,0,none⟩=some (.int .i64 a):=(show Kt nO w (w.alloc (aV p))from(Kt.refl _ _).alloc _).cell (fun x=>x) c0;have HK:=aA (show Kt nO w (w.alloc (aV p))from(Kt.refl _ _).alloc _);have E:=aA (show prS (a:Int) p=(decide (p.kd=4) && (decide (p.cl=(a:Int)) && !decide (p.lv=(celN9 c:Int))))by unfold prS;rw[hc,Int.toNat_natCast]);generalize decide (p.lv=(celN9 c:Int))=fv at *;generalize prS (a:Int) p=rv at *;clear h hc;obtain⟨kd,od,cl,lv,nx,pv,fs,b0,b1,b2,b3⟩:=p;dsimp only at E;by_cases h4:kd=4
 ·subst h4;by_cases hca:cl=(a:Int)
  ·subst hca;have E2:=aA (show(!fv)=rv by rw[E.out];simp)
   cases fv with
   | false=>
    go_enter func229,ntmps229;go_wp2_with fail;refine(HF.out _).mono ?_;rintro e w1 ⟨rfl,hk⟩;have K1:=aA (nT HK.out hk);clear hk c0 c1;go_wp2_with fail;go_ret;exact⟨cP E2.out,K1.out⟩
   | true=>
    go_enter func229,ntmps229;go_wp2_with fail;refine(HF.out _).mono ?_;rintro e w1 ⟨rfl,hk⟩;have K1:=aA (nT HK.out hk);clear hk c0 c1;go_wp2_with fail;go_ret;exact⟨cP E2.out,K1.out⟩
  ·have E2:=aA (show false=rv by rw[E.out];simp[hca]);have f1:(cl == (a:Int))=false:=(by rw[beq_eq_false_iff_ne];exact hca);clear hca;go_enter func229,ntmps229;go_wp2_with fail;go_ret;exact⟨cP E2.out,HK.out⟩
 ·have E2:=aA (show false=rv by rw[E.out];simp[h4]);have f1:(kd == 4)=false:=by rw[beq_eq_false_iff_ne];exact h4
  clear h4;go_enter func229,ntmps229;go_wp2_with fail;go_ret;exact⟨cP E2.out,HK.out⟩
theorem sV{I:Img}{x:Int}{i:Nat}(h:dec10 I x=some i):i<I.np/\x=(i:Int)/\x ≠ -1:=by
 unfold dec10 at h;split at h
 ·injection h with h
  omega
 ·cases h
theorem XI{w W:World}{cb sb sc a:Nat}{I:Img}{ws l:List Nat}(h:L8 w W cb sb sc I.np a ws l)(x:Int):bZ I.np ws x=mQ l (dec10 I x):=by
 unfold dec10;by_cases hx : 0<=x/\x<(I.np:Int)
 ·rw[if_pos hx];obtain⟨i,rfl⟩:=Int.eq_ofNat_of_zero_le hx.1;rw[Int.toNat_natCast];show bZ I.np ws (i:Int)=decide (i∈l)
  unfold bZ aC;rw[decide_eq_true (by omega),Int.toNat_natCast,Bool.true_and,h.mem i (by omega)]
 ·rw[if_neg hx];show bZ I.np ws x=false
  unfold bZ aC;rw[decide_eq_false hx];rfl
theorem zb0(b:Nat)(I:Img)(V:ImV)(k r:Nat)(hS:Sn9 I k r)(w:World)(hI:ImAt w b I V):
  Calls prog 174 #[.pointer (some ⟨b,0,none⟩)] w fun e w'=>e=bB (fst1 8 (dX I))/\Kt nO w w':=by
 obtain⟨-,⟨pa,pc,hp⟩,-,-,⟨ta,tc,ht⟩,-,-,-,-⟩:=hI.d.sl;obtain⟨c0,c1,c2,c3,c4,c5,c6,c7,c8⟩:=hI.cells;rw[ht] at c8;have hts:=hI.d.pts;rw[ht] at hts;obtain⟨bl,o,rfl,hbl,htc⟩:=hts.at 0 (by rw[hS.tl];omega);obtain⟨EE,hEE⟩:=xe (bB (fst1 8 (dX I)));rw[<-hEE];have HE:=aA hEE;have HI:=aA hI;have HS:=aA hS;have SP:=aA hp;rw[hS.tl] at c8 htc;have HHC:=aA htc;have hnp:=hS.np1;have hmf:∀ (fn:Fn) (first cap:Array Value) (w:World),(Instr.makeFunc fn first cap).run prog w=.ok (.func fn first cap) w:=fun _ _ _ _=>rfl
 obtain⟨n,hn⟩:=xe (I.np);have HN:=aA hn;clear hEE hI hS ht hts htc hbl hp hn;go_enter func174,ntmps174;go_wp2_with fail;go_loopw [11] (fun i W=>∃ a:Nat,a<=8/\i=.int .i64 a/\Hid (Kt nO w W/\∀ x,x<a->dX I x=true)) (fun i _=>8-(intOf i).toNat)
 case atStart=>exact⟨0,Nat.zero_le _,rfl,aA ⟨Kt.refl _ _,fun x hx=>by omega⟩⟩
 case round=>
  clear c0 c1 c2 c3 c4 c5 c6 c7 c8;obtain⟨a,ha',rfl,hR⟩:=hrel;by_cases hlt:a<8
  ·have hai:(a:Int)<8:=(by omega);obtain⟨hp64,hpc⟩:=HHC.out a hlt;have d0:=hR.out.1.cell (fun x=>x) hpc;obtain⟨p,hp⟩:=xe (I.pt.getD a 0);rw[<-hp] at d0 hp64;have FB:=aA (show dX I a=false->bM (a:Int)=EE from fun h=>by rw[HE.out,kE hlt hR.out.2 h];rfl);have GA:=aA (show dX I a=true->∀ x,x<a+1->dX I x=true from fun h x hx=>by
    by_cases e:x=a
    ·rw[e];exact h
    ·exact hR.out.2 x (by omega))
   have OK:=aA (show bO (dec10 I) (-1) (fun i=>(I.pg i).nx) (fun i=>(I.pg i).pv) ((pgL I (prS (a:Int))).length+1) (pgL I (prS (a:Int))) p (-1)=dX I a by rw[hp];rfl);generalize dX I a=okv at *;have B1:=aA (show(wr.alloc (.cells #[.int .i64 a] 3 (0,0))).heap[wr.heap.size]?=some (.cells #[.int .i64 a] 3 (0,0))from nH _ _);have K1:=aA (show Kt nO w (wr.alloc (.cells #[.int .i64 a] 3 (0,0)))from hR.out.1.alloc _);have SZ:=aA (show wr.heap.size<(wr.alloc (.cells #[.int .i64 a] 3 (0,0))).heap.size by simp);clear hp hpc;go_wp2_with fail;generalize wr.alloc (.cells #[.int .i64 a] 3 (0,0))=W1 at *;generalize wr.heap.size=cb at *;refine(JB b cb I V (prS (a:Int)) W1 (HI.out.keep K1.out) hnp (fun i W hi hk=>by
    obtain⟨_,_,c,_,-,-,-,-,y5,y6,-⟩:=HS.out.pg i hi;exact DV cb a (I.pg i) c y5 y6 W ((hk.block _ (lH B1.out) (fun x=>x)).trans B1.out))).mono ?_
   rintro e w2 ⟨sb,sc,ws,rfl,hst,hge1,hge2,hbt,hk2⟩;have LL:=aA (show L8 w w2 cb sb sc I.np a ws (pgL I (prS (a:Int)))from⟨(hk2.block _ (lH B1.out) (fun x=>x)).trans B1.out,hst,Nat.le_trans K1.out.size hge2,by have:=SZ.out;omega,nT K1.out hk2,pgL_nodup _ _,fun i hi=>by
    rw[hbt i hi,Bool.eq_iff_iff,decide_eq_true_eq,pgL_mem];exact⟨fun h=>⟨hi,h⟩,fun h=>h.2⟩,fun i hi=>(pgL_mem.1 hi).1⟩)
   clear hst hge1 hge2 hbt hk2 d0 B1 K1 SZ;go_wp2_with fail;go_loopw [3,5] (fun pv bv W=>∃ p q:Int,pv=.int .i64 p/\bv=.int .i64 q/\Hid (∃ ws l,L8 w W cb sb sc I.np a ws l/\bO (dec10 I) (-1) (fun i=>(I.pg i).nx) (fun i=>(I.pg i).pv) (l.length+1) l p q=okv)) (fun _ _ W=>aT (cB W sc))
   case atStart=>exact⟨p,-1,rfl,rfl,aA ⟨_,_,LL.out,OK.out⟩⟩
   case round=>
    clear LL OK hp64;obtain⟨p,q,rfl,rfl,hL⟩:=hrel;obtain⟨ws,l,hl,hok⟩:=hL.out;have LL:=aA hl;have OK:=aA hok;clear hL hl hok;by_cases hp0:p = -1
    ·have hp0':(p != -1)=false:=(by rw[hp0];rfl);have OK2:=aA (show okv=decide (aT ws=0)by rw[<-OK.out,hp0,zM,LL.out.empty]);obtain⟨cw,hcw⟩:=xe (aT ws);have HCT:=aA (fun (x:KW wr)=>rO sb sc I.np ws x.v (LL.out.keep x.k).st);rw[<-hcw] at HCT OK2;have c0:∀ x:KW wr,x.v.cell? ⟨cb,0,none⟩=some (.int .i64 a):=fun x=>by simp[World.cell?,(LL.out.keep x.k).bx]
     clear hp0 hcw;by_cases g:cw=0
     case neg=>
      have R2:=aA (FB.out (by rw[OK2.out,decide_eq_false g]));have f4:((cw:Int) == 0)=false:=(by rw[beq_eq_false_iff_ne];omega);clear g;go_wp2_with fail;refine fV (by kernel_rfl) (by kernel_rfl) (by exact List.cons_ne_nil _ _) ?_;dsimp only[List.dropLast,List.getLast];repeat (go_big_quiet_step (first|(go_at_call 218;exact Calls.kept_of ((HCT.out _).mono fun _ _ ⟨h1,h2⟩=>⟨h1,h2▸Kt.refl _ _⟩))))
      refine wpQuiet_nil ?_;refine⟨rfl,?_⟩;rintro _ ⟨x,rfl⟩;exact fU (p:=(a:Int)) rfl rfl rfl fun _ hd=>⟨hd,R2.out,nT LL.out.k x.k⟩
     have R2:=aA (GA.out (by rw[OK2.out,decide_eq_true g]));have f4:((cw:Int) == 0)=true:=(by rw[beq_iff_eq];omega);have HMY:=aA (fun W=>cJ (a:Int) W);clear g;go_wp2_with fail;refine dM (by kernel_rfl) (by kernel_rfl) ?_;repeat (go_big_quiet_step (first|(go_at_call 218;exact Calls.kept_of ((HCT.out _).mono fun _ _ ⟨h1,h2⟩=>⟨h1,h2▸Kt.refl _ _⟩))|(go_at_call 212;exact Calls.kept_of ((HMY.out _).mono fun _ _ ⟨h1,h2⟩=>⟨h1,h2▸Kt.refl _ _⟩))))
     refine wpQuiet_nil ?_;intro x;have R3:=aA (show Kt nO w x.v/\_ from⟨nT LL.out.k x.k,R2.out⟩);clear c0;go_wp2_with fail;go_round
     case rel=>exact⟨a+1,by omega,by go_num,R3⟩
     case measure=>simp[intOf];omega
    ·have hp0':(p != -1)=true:=(by rw[bne_iff_ne];exact hp0);have IM:=aA (HI.out.keep LL.out.k);have INS:=aA (XI LL.out p);have c0:wr.cell? ⟨cb,0,none⟩=some (.int .i64 a):=by simp[World.cell?,LL.out.bx]
     cases hin:bZ I.np ws p with
     | false=>
      have R2:=aA (FB.out (by
       rw[<-OK.out];refine qY hp0 fun i hi=>.inl fun hm=>?_
       have:=INS.out;rw[hi,hin] at this;exact absurd hm (of_decide_eq_false this.symm)))
      have HME:=aA (sR sb sc I.np ws p (a:Int) wr LL.out.st hin);clear hin hp0;go_wp2_with fail;refine HME.out.mono ?_;rintro e w3 ⟨rfl,rfl⟩;exact⟨rfl,R2.out,LL.out.k⟩
     | true=>
      have hex:∃ i,dec10 I p=some i/\i∈l:=by
       have:=INS.out;rw[hin] at this
       cases hd:dec10 I p with
       | none=>rw[hd] at this;cases this
       | some i=>rw[hd] at this;exact⟨i,rfl,of_decide_eq_true this.symm⟩
      obtain⟨i,hi,hil⟩:=hex;obtain⟨hin1,hpi,hp1⟩:=sV hi;subst hpi;have HD:=aA (show dec10 I (i:Int)=some i/\(i:Int) ≠ -1 from⟨hi,hp1⟩);have HIL:=aA hil;have HI1:=aA hin1;have HME:=aA (tL sb sc I.np ws (i:Int) (a:Int) wr LL.out.st hin);clear hin hil hi hin1 hp1 hp0;go_wp2_with fail;refine HME.out.mono ?_;rintro e wc ⟨rfl,h1,h2,h3⟩;have LM:=aA (show L8 w wc cb sb sc I.np a (bN I.np ws (i:Int) false) (l.erase i)from LL.out.met h2 HIL.out h1);have MSR:=aA (show aT (cB wc sc)<aT (cB wr sc)by
       rw[gZ LM.out.st,gZ LL.out.st];have hb:aF ws i=true:=(by rw[LL.out.mem i HI1.out];exact decide_eq_true HIL.out);have:=tY LL.out.st LM.out.st HI1.out hb;omega)
      clear h1 h2 h3 HME c0;have IM2:=aA (HI.out.keep LM.out.k);have NXT:=aA (show(I.pg i).pv=q->bO (dec10 I) (-1) (fun i=>(I.pg i).nx) (fun i=>(I.pg i).pv) ((l.erase i).length+1) (l.erase i) (I.pg i).nx (i:Int)=okv from fun h=>by
       rw[<-OK.out];exact(zL (nxt:=fun i=>(I.pg i).nx) (bk:=fun i=>(I.pg i).pv) HD.out.2 HD.out.1 HIL.out h).symm)
      have NOT:=aA (show ¬(I.pg i).pv=q->bM (a:Int)=EE from fun h=>FB.out (by
       rw[<-OK.out];refine qY HD.out.2 fun j hj=>.inr ?_
       rw[HD.out.1] at hj;injection hj with hj
       rw[<-hj];exact h))
      have hpa:∃ bl' o',pa=some ⟨bl',o',none⟩:=by
       obtain⟨bl',o',oc',hv',_⟩:=IM2.out.page i HI1.out;rw[SP.out] at hv';injection hv' with e1
       exact⟨bl',o',e1⟩
      obtain⟨pb,po,rfl⟩:=hpa;obtain⟨d0,d1,d2,d3,d4,d5,d6,d7,d8,d9,d10⟩:=gR (IM2.out.pageK SP.out i HI1.out);obtain⟨c0,c1,c2,c3,c4,c5,c6,c7,c8⟩:=IM2.out.all;rw[SP.out,<-HN.out] at c5;have b0:∀ x:KW wc,x.v.cell? ⟨cb,0,none⟩=some (.int .i64 a):=fun x=>by simp[World.cell?,(LM.out.keep x.k).bx]
      have hin2:(i:Int)<n:=(by have:=HI1.out;rw[HN.out];omega);by_cases g:(I.pg i).pv=q
      case neg=>
       have R2:=aA (NOT.out g);have f4:((I.pg i).pv == q)=false:=(by rw[beq_eq_false_iff_ne];exact g);clear g;go_wp2_with fail;refine fV (by kernel_rfl) (by kernel_rfl) (by exact List.cons_ne_nil _ _) ?_;dsimp only[List.dropLast,List.getLast];repeat (go_big_quiet_step (fail))
       refine wpQuiet_nil ?_;refine⟨rfl,?_⟩;rintro _ ⟨x,rfl⟩;exact fU (p:=(a:Int)) rfl rfl rfl fun _ hd=>⟨hd,R2.out,nT LM.out.k x.k⟩
      have R2:=aA (NXT.out g);have f4:((I.pg i).pv == q)=true:=(by rw[beq_iff_eq];exact g);have HMY:=aA (fun W=>cJ (a:Int) W);clear g;go_wp2_with fail;refine dM (by kernel_rfl) (by kernel_rfl) ?_;repeat (go_big_quiet_step (first|(go_at_call 212;exact Calls.kept_of ((HMY.out _).mono fun _ _ ⟨h1,h2⟩=>⟨h1,h2▸Kt.refl _ _⟩))))
      refine wpQuiet_nil ?_;intro x;have LX:=aA (LM.out.keep x.k);clear d0 d1 d2 d3 d4 d5 d6 d7 d8 d9 d10 c0 c1 c2 c3 c4 c5 c6 c7 c8 b0 f4;go_wp2_with fail;have WSX:=aA (show cB x.v sc=cB wc sc by rw[gZ LX.out.st,gZ LM.out.st]);generalize x.v=W3 at *;have IM3:=aA (HI.out.keep LX.out.k);obtain⟨d0,d1,d2,d3,d4,d5,d6,d7,d8,d9,d10⟩:=gR (IM3.out.pageK SP.out i HI1.out);obtain⟨c0,c1,c2,c3,c4,c5,c6,c7,c8⟩:=IM3.out.all;rw[SP.out,<-HN.out] at c5;refine dM (by kernel_rfl) (by kernel_rfl) ?_;repeat (go_big_quiet_step (fail))
      refine wpQuiet_nil ?_;intro y;have R3:=aA (show ∃ ws l,L8 w y.v cb sb sc I.np a ws l/\bO (dec10 I) (-1) (fun i=>(I.pg i).nx) (fun i=>(I.pg i).pv) (l.length+1) l (I.pg i).nx (i:Int)=okv from⟨_,_,LX.out.keep y.k,R2.out⟩);have MS2:=aA (show aT (cB y.v sc)<aT (cB wr sc)by
       rw[gZ (LX.out.keep y.k).st,<-gZ LM.out.st];exact MSR.out)
      clear d0 d1 d2 d3 d4 d5 d6 d7 d8 d9 d10 c0 c1 c2 c3 c4 c5 c6 c7 c8;go_wp2_with fail;go_round
      case rel=>exact⟨(I.pg i).nx,(i:Int),rfl,rfl,R3⟩
      case measure=>exact MS2.out
  ·have hae:a=8:=(by omega);have hai:¬(a:Int)<8:=(by omega);have E:=aA (show Ending.returned (.tuple #[])=EE by rw[HE.out,fst1_ok (fun x hx=>hR.out.2 x (by omega))];rfl);clear hae;go_wp2_with fail;first|go_end0|go_ret
   exact⟨E.out,hR.out.1⟩
theorem ZC(p:Pg)(c:Nat)(hc:p.cl=(c:Int))(h7:c<=7)(hp:PgIn p)(w:World):
  Calls prog 292 #[fF p] w (lW w (celN9 c) fun i=>aF (wsP p) i):=by
 have hcb:=mI c h7;have HC:=aA (fun W=>tR p c hc h7 W);have B0:=aA (show(w.alloc (aV p)).heap[w.heap.size]?=some (aV p)from nH _ _);have K0:=aA (show Kt nO w (w.alloc (aV p))from(Kt.refl _ _).alloc _);have HPI:=aA hp;have HOF:=aA (fun (W:World) (h:W.heap[w.heap.size]?=some (aV p))=>qI (.slice (some ⟨w.heap.size,7,none⟩) 4 4) (wsP p) ((celN9 c:Nat):Int) (by omega) (by omega) W (uC h hp));have hfit:dE ((celN9 c:Nat):Int)=celN9 c:=by unfold dE;split <;> (try split) <;> omega
 rw[hfit] at HOF;have HBT:=aA (show ∀ i,i<celN9 c->aF (eX (wsP p) (celN9 c)) i=aF (wsP p) i from fun i hi=>zK _ _ _ (uC B0.out hp).1 hi);have GOAL:=aA (show ∀ W sb sc,Kt nO w W->SetAt W sb sc (celN9 c) (eX (wsP p) (celN9 c))->w.heap.size<=sb->w.heap.size<=sc->lW w (celN9 c) (fun i=>aF (wsP p) i) (.returned (.pointer (some ⟨sb,0,none⟩))) W from fun W sb sc h1 h2 h3 h4=>⟨sb,sc,_,rfl,h2,h3,h4,HBT.out,h1⟩);generalize celN9 c=n at *;clear hc hp hfit;go_enter func292,ntmps292;go_wp2_with fail;have SZ:=aA (show w.heap.size<(w.alloc (aV p)).heap.size by simp);generalize w.alloc (aV p)=W1 at *;have GEQ:=aA (Nat.le_refl w.heap.size);obtain⟨g,hg⟩:=xe (w.heap.size);rw[<-hg] at B0 HOF SZ;have HG:=aA hg;simp only[<-hg];clear hg;obtain⟨y0,y1,y2,y3,y4,y5,y6,y7,y8,y9,y10⟩:=eK (show W1.drew.heap[g]?=some (aV p)from B0.out);have HC1:=aA (HC.out W1.drew);have BD:=aA (show W1.drew.heap[g]?=some (aV p)from B0.out);have SZD:=aA (show g<W1.drew.heap.size from SZ.out);go_cut [2] (fun v W=>∃ sb sc:Nat,v=.pointer (some ⟨sb,0,none⟩)/\Hid (SetAt W sb sc n (eX (wsP p) n)/\g<=sb/\g<=sc/\Kt nO W1 W))
 case first=>
  go_region_held3 (fun w'=>w'.cell? ⟨g,0,none⟩=some (.int .i64 p.kd)/\w'.cell? ⟨g,1,none⟩=some (.int .i64 p.od)/\w'.cell? ⟨g,2,none⟩=some (.int .i64 p.cl)/\w'.cell? ⟨g,3,none⟩=some (.int .i64 p.lv)/\w'.cell? ⟨g,4,none⟩=some (.int .i64 p.nx)/\w'.cell? ⟨g,5,none⟩=some (.int .i64 p.pv)/\w'.cell? ⟨g,6,none⟩=some (.int .i64 p.fs)/\w'.cell? ⟨g,7,none⟩=some (.int .u64 p.b0)/\w'.cell? ⟨g,8,none⟩=some (.int .u64 p.b1)/\w'.cell? ⟨g,9,none⟩=some (.int .u64 p.b2)/\w'.cell? ⟨g,10,none⟩=some (.int .u64 p.b3)) (first|with_reducible exact⟨y0,y1,y2,y3,y4,y5,y6,y7,y8,y9,y10⟩|with_reducible exact Z2|with_reducible exact Z3) (first|(go_at_call 220;with_reducible refine HC1.out.mono ?_;rintro e w2 ⟨rfl,hk2⟩;have B2:=aA ((hk2.block _ (lH BD.out) (fun x=>x)).trans BD.out);have Z2:=eK B2.out;have K2:=aA hk2;have HO2:=aA (HOF.out w2 B2.out);clear hk2)|(go_at_call 217;with_reducible refine HO2.out.mono ?_;rintro e w3 ⟨rfl,h3⟩;have H3:=aA h3;have Z3:=eK ((h3.2.1.block _ (lH B2.out) (fun x=>x)).trans B2.out);clear h3)|fail)
  all_goals
   have S3:=aA (show SetAt w3 (w2.heap.size+1) w2.heap.size n (eX (wsP p) n)/\g<=w2.heap.size+1/\g<=w2.heap.size/\Kt nO W1 w3 from⟨H3.out.1,by have h1:=K2.out.size;have h2:=SZD.out;omega,by have h1:=K2.out.size;have h2:=SZD.out;omega,nT ((Kt.refl nO W1).drew) (nT K2.out H3.out.2.1)⟩);go_wp2_with fail;go_meet
   exact⟨_,_,rfl,S3⟩
 case rest=>
 obtain⟨sb,sc,rfl,hH⟩:=hcut;go_wp2_with fail;go_ret;exact GOAL.out _ sb sc (nT K0.out hH.out.2.2.2) hH.out.1 (by have:=HG.out;have:=hH.out.2.1;omega) (by have:=HG.out;have:=hH.out.2.2.1;omega)
theorem AG{n:Nat}{ws:List Nat}(hl:ws.length=(n+63)/64)(i:Nat)(hi:i<n)(j:Nat):aF (fN n ws (i:Int)) j=if j=i then !aF ws i else aF ws j:=by
 have hr:aC n (i:Int)=true:=by unfold aC;exact decide_eq_true (by omega)
 unfold fN;rw[if_pos hr,Int.toNat_natCast,pI ws i j (by omega)]
theorem ZE(p:Pg)(c:Nat)(hc:p.cl=(c:Int))(h7:c<=7)(hp:PgIn p)(w:World):
  Calls prog 270 #[fF p] w (lW w (celN9 c) fun i=>!aF (wsP p) i):=by
 have hcb:=mI c h7;have HL:=aA (fun W=>ZC p c hc h7 hp W);have K0:=aA (show Kt nO w (w.alloc (aV p))from(Kt.refl _ _).alloc _);have GOAL:=aA (show ∀ W sb sc ws,Kt nO w W->SetAt W sb sc (celN9 c) ws->w.heap.size<=sb->w.heap.size<=sc->(∀ i,i<celN9 c->aF ws i=!aF (wsP p) i)->lW w (celN9 c) (fun i=>!aF (wsP p) i) (.returned (.pointer (some ⟨sb,0,none⟩))) W from fun W sb sc ws h1 h2 h3 h4 h5=>⟨sb,sc,_,rfl,h2,h3,h4,h5,h1⟩);generalize celN9 c=n at *;clear hc hp;go_enter func270,ntmps270;go_wp2_with fail;generalize w.alloc (aV p)=W1 at *;refine(HL.out W1).mono ?_;rintro e w2 ⟨sb,sc,ws,rfl,hst,hg1,hg2,hbt,hk2⟩;have K2:=aA (nT K0.out hk2);have G:=aA (show w.heap.size<=sb/\w.heap.size<=sc from⟨Nat.le_trans K0.out.size hg1,Nat.le_trans K0.out.size hg2⟩);have ST:=aA hst;have BT:=aA hbt;have HLN:=aA (GJ sb sc n ws w2 hst);clear hst hg1 hg2 hbt hk2;go_wp2_with fail;refine HLN.out.mono ?_;rintro e w3 ⟨rfl,rfl⟩;go_wp2_with fail;go_loopw [9] (fun i W=>∃ a:Nat,a<=n/\i=.int .i64 a/\Hid (Kt nO w W/\∃ ws,SetAt W sb sc n ws/\(∀ j,j<a->aF ws j=!aF (wsP p) j)/\∀ j,a<=j->j<n->aF ws j=aF (wsP p) j)) (fun i _=>n-(intOf i).toNat)
 case atStart=>exact⟨0,Nat.zero_le _,rfl,aA ⟨K2.out,ws,ST.out,fun j hj=>by omega,fun j _ hj=>BT.out j hj⟩⟩
 case round=>
  clear K2 ST BT HLN;obtain⟨a,ha,rfl,hR⟩:=hrel;obtain⟨hk,ws,hst,hb1,hb2⟩:=hR.out;by_cases hlt:a<n
  ·have hai:(a:Int)<n:=(by omega);have HF:=aA (tZ sb sc n ws (a:Int) wr hst);have HK:=aA hk;have BB:=aA (show(∀ j,j<a->aF ws j=!aF (wsP p) j)/\∀ j,a<=j->j<n->aF ws j=aF (wsP p) j from⟨hb1,hb2⟩);have LN:=aA hst.len;clear hk hst hb1 hb2;go_wp2_with fail;refine HF.out.mono ?_;rintro e w4 ⟨rfl,h1,h2,h3⟩;have R2:=aA (show Kt nO w w4/\∃ ws,SetAt w4 sb sc n ws/\(∀ j,j<a+1->aF ws j=!aF (wsP p) j)/\∀ j,a+1<=j->j<n->aF ws j=aF (wsP p) j from⟨HK.out.trans h2 (fun _ _ x=>x) (fun x hx e=>by have:=G.out.2;omega),_,h1,fun j hj=>by
    rw[AG LN.out a hlt j];by_cases e:j=a
    ·rw[if_pos e,e,BB.out.2 a (Nat.le_refl _) hlt]
    ·rw[if_neg e];exact BB.out.1 j (by omega),fun j hj hj2=>by
    rw[AG LN.out a hlt j,if_neg (by omega)];exact BB.out.2 j (by omega) hj2⟩)
   clear h1 h2 h3;go_wp2_with fail;go_round
   case rel=>exact⟨a+1,by omega,by go_num,R2⟩
   case measure=>simp[intOf];omega
  ·obtain rfl:a=n:=(by omega);have hai:¬(a:Int)<a:=(by omega);go_wp2_with fail;go_ret;exact GOAL.out wr sb sc ws hk hst G.out.1 G.out.2 hb1
def nx9(I:Img)(g c i:Nat):Option Int:=
 if M.word I.mem (4096*g+i*(16*2 ^ c))=0 then some (-1)
 else if I.bS+g*4096<=M.word I.mem (4096*g+i*(16*2 ^ c))/\M.word I.mem (4096*g+i*(16*2 ^ c))-(I.bS+g*4096)<4096/\(M.word I.mem (4096*g+i*(16*2 ^ c))-(I.bS+g*4096))%(16*2 ^ c)=0
  then some (((M.word I.mem (4096*g+i*(16*2 ^ c))-(I.bS+g*4096))/(16*2 ^ c):Nat):Int) else none
def vC(g:Nat):Option Int->Ending
 | none=>bM (g:Int)
 | some q=>.returned (.int .i64 q)
theorem xO(c:Nat)(h:c<=7):celN9 c*(16*2 ^ c)=4096/\16<=16*2 ^ c/\16*2 ^ c<=2048:=by
 match c,h with
 | 0,_=>decide
 | 1,_=>decide
 | 2,_=>decide
 | 3,_=>decide
 | 4,_=>decide
 | 5,_=>decide
 | 6,_=>decide
 | 7,_=>decide
theorem ZX(b:Nat)(I:Img)(V:ImV)(k r:Nat)(hS:Sn9 I k r)(g c i:Nat)(hg:g<I.np)(hc:(I.pg g).cl=(c:Int))(h7:c<=7)(hi:i<celN9 c)(w:World)(hI:ImAt w b I V):
  Calls prog 271 #[.pointer (some ⟨b,0,none⟩),.int .i64 g,.int .i64 i] w fun e w'=>e=vC g (nx9 I g c i)/\Kt nO w w':=by
 obtain⟨hca,hs1,hs2⟩:=xO c h7;obtain⟨sz,hsz⟩:=xe (16*2 ^ c);have hnm:=hS.nm;have hbe:=hS.be;have hnp:=hS.np1;have him:i*sz+sz<=4096:=by
  rw[<-hca,<-hsz];have:(i+1)*sz<=celN9 c*sz:=Nat.mul_le_mul_right _ hi;rwa [Nat.add_mul,Nat.one_mul] at this
 rw[<-hsz] at hs1 hs2;obtain⟨fi,hfi⟩:=xe (I.bS+g*4096);have hfb:fi+4096<=9223372036854775808:=by omega
 obtain⟨m,hm⟩:=xe (i*sz);have HAD:=aA (fun (x:KW w)=>pP b I V g x.v (hI.keep x.k) (by omega));rw[<-hfi] at HAD;have HSZ:=aA (fun W=>ZH (I.pg g) c hc h7 W);rw[<-hsz] at HSZ;have hq : 4096*g+m+8<=I.nm:=by rw[hm];omega
 have HW:=aA (fun (W:World) (hW:Kt nO w W)=>tM b I V (4096*g+m) W (hI.keep hW) hq hbe);have e1:((I.bS+(4096*g+m):Nat):Int)=(fi:Int)+(m:Int):=by rw[hfi];omega
 rw[e1] at HW;have hxl:=word_lt hI.d (4096*g+m) hq;have NX:nx9 I g c i=if M.word I.mem (4096*g+m)=0 then some (-1) else if fi<=M.word I.mem (4096*g+m)/\M.word I.mem (4096*g+m)-fi<4096/\(M.word I.mem (4096*g+m)-fi)%sz=0 then some (((M.word I.mem (4096*g+m)-fi)/sz:Nat):Int) else none:=by
  unfold nx9;rw[<-hsz,<-hm,<-hfi]
 obtain⟨EE,hEE⟩:=xe (vC g (nx9 I g c i));rw[<-hEE];rw[NX] at hEE;generalize M.word I.mem (4096*g+m)=x at *;have E0:=aA (show x=0->Ending.returned (.int .i64 (-1))=EE from fun h=>by rw[hEE,if_pos h];rfl);have E1:=aA (show ∀ q,x≠0->fi<=x->x-fi<4096->(x-fi)%sz=0->q=(x-fi)/sz->Ending.returned (.int .i64 q)=EE from fun q h0 h1 h2 h3 h4=>by rw[hEE,if_neg h0,if_pos ⟨h1,h2,h3⟩,h4];rfl);have E2:=aA (show x≠0->¬(fi<=x/\x-fi<4096/\(x-fi)%sz=0)->bM (g:Int)=EE from fun h0 h1=>by rw[hEE,if_neg h0,if_neg h1];rfl);have hmi:(i:Int)*(sz:Int)=m:=by rw[hm];simp
 have hml:m<=4096:=by omega
 have hsz0:¬(sz:Int)=0:=by omega
 have hi256:i<256:=Nat.lt_of_lt_of_le hi (mI c h7).2;obtain⟨-,⟨pa,pc,hp⟩,-,-,-,-,bp,-,-⟩:=hI.d.sl;obtain⟨c0,c1,c2,c3,c4,c5,c6,c7,c8⟩:=hI.all;rw[hp] at c5;obtain⟨bl,o,oc',hv',-,-⟩:=hI.page g hg;rw[hp] at hv';injection hv' with e3 e4 e5
 subst e3;obtain⟨d0,d1,d2,d3,d4,d5,d6,d7,d8,d9,d10⟩:=gR (hI.pageK hp g hg);obtain⟨n,hn⟩:=xe (I.np);rw[<-hn] at c5;have hgn:(g:Int)<n:=by omega
 have hgl:g<=1024:=by omega
 clear NX hEE hsz hm hfi e1 hq hca hc hI hp hn e4 e5 him hS hi hnm hbe;go_enter func271,ntmps271;go_wp2_with fail;refine dM (by kernel_rfl) (by kernel_rfl) ?_;repeat (go_big_quiet_step (first|(go_at_call 294;exact Calls.kept_of ((HAD.out _).mono fun _ _ ⟨h1,h2⟩=>⟨h1,h2▸Kt.refl _ _⟩))|(go_at_call 295;exact Calls.kept_of (HSZ.out _))))
 refine wpQuiet_nil ?_;intro y;clear c0 c1 c2 c3 c4 c5 c6 c7 c8 d0 d1 d2 d3 d4 d5 d6 d7 d8 d9 d10;go_wp2_with fail;refine(HW.out y.v y.k).mono ?_;rintro e w2 ⟨rfl,m2,rfl⟩;have KF:=aA (nT y.k ((Kt.refl nO y.v).drewN m2));generalize y.v.drewN m2=w2 at *;by_cases hx0:x=0
 ·have f0:((x:Int) == 0)=true:=by rw[beq_iff_eq];omega
  have E:=aA (E0.out hx0);clear hx0;go_wp2_with fail;go_ret;exact⟨E.out,KF.out⟩
 ·have f0:((x:Int) == 0)=false:=by rw[beq_eq_false_iff_ne];omega
  by_cases hlo:fi<=x
  ·obtain⟨d,hd⟩:=xe (x-fi);have hw:(x:Int)-(fi:Int)=d:=(by omega);have hdl:d<18446744073709551616:=(by omega);rw[<-hd] at E1 E2;by_cases h1:d<4096
   ·have f1:(d:Int)<4096:=(by omega);by_cases h2:d%sz=0
    ·have f2:((d:Int)%(sz:Int) == 0)=true:=(by rw[beq_iff_eq];omega);obtain⟨q,hq⟩:=xe (d/sz);have f3:(d:Int)/(sz:Int)=q:=(by rw[hq];simp);have hql:q<=4096:=(by rw[hq];exact Nat.le_trans (Nat.div_le_self _ _) (by omega));have E:=aA (E1.out q hx0 hlo h1 h2 hq);clear hx0 h2 hq hd;go_wp2_with fail;refine(cJ _ _).mono ?_;rintro e w3 ⟨rfl,rfl⟩;go_wp2_with fail;go_ret;exact⟨E.out,KF.out⟩
    ·have f2:((d:Int)%(sz:Int) == 0)=false:=(by rw[beq_eq_false_iff_ne];omega);have E:=aA (E2.out hx0 (fun h=>h2 h.2.2));clear hx0 h2 hd;go_wp2_with fail;refine(dC _ _).mono ?_;rintro e w3 ⟨rfl,rfl⟩;exact⟨rfl,E.out,KF.out⟩
   ·have f1:¬(d:Int)<4096:=(by omega);have f1d:decide ((d:Int)<4096)=false:=decide_eq_false f1;have E:=aA (E2.out hx0 (fun h=>h1 h.2.1));clear hx0 hd;go_wp2_with fail;refine(dC _ _).mono ?_;rintro e w3 ⟨rfl,rfl⟩;exact⟨rfl,E.out,KF.out⟩
  ·obtain⟨d,hd⟩:=xe (18446744073709551616-(fi-x));have hw:IntKind.u64.wrap ((x:Int)-(fi:Int))=(d:Int):=(by rw[wrap_u64];omega);have f1:¬(d:Int)<4096:=(by omega);have f1':¬d<4096:=(by omega);have f1d:decide ((d:Int)<4096)=false:=decide_eq_false f1;have E:=aA (E2.out hx0 (fun h=>hlo h.1));have hxf:(x:Int)<fi:=(by omega);clear hd hx0;go_wp2_with fail;refine(dC _ _).mono ?_;rintro e w3 ⟨rfl,rfl⟩;exact⟨rfl,E.out,KF.out⟩
def prg9(nx:Nat->Option Int):Nat->List Nat->Int->Bool
 | 0,_,_=>false
 | n+1,l,p=>if p = -1 then l.isEmpty else if 0<=p/\p.toNat∈l then (match nx p.toNat with | none=>false | some q=>prg9 nx n (l.erase p.toNat) q) else false
theorem prg9_end{nx:Nat->Option Int}{l:List Nat} : prg9 nx (l.length+1) l (-1)=l.isEmpty:=by rw[prg9,if_pos rfl]
theorem FZ{nx:Nat->Option Int}{l:List Nat}{p:Int}(hp:p ≠ -1)(h:¬(0<=p/\p.toNat∈l)):prg9 nx (l.length+1) l p=false:=by rw[prg9,if_neg hp,if_neg h]
theorem OT{nx:Nat->Option Int}{l:List Nat}{i:Nat}(h:i∈l)(hn:nx i=none):prg9 nx (l.length+1) l (i:Int)=false:=by
 rw[prg9,if_neg (by omega),if_pos ⟨by omega,by rw[Int.toNat_natCast];exact h⟩,Int.toNat_natCast,hn]
theorem prg9_yes{nx:Nat->Option Int}{l:List Nat}{i:Nat}{q:Int}(h:i∈l)(hn:nx i=some q):prg9 nx (l.length+1) l (i:Int)=prg9 nx ((l.erase i).length+1) (l.erase i) q:=by
 rw[prg9,if_neg (by omega),if_pos ⟨by omega,by rw[Int.toNat_natCast];exact h⟩,Int.toNat_natCast,hn,List.length_erase_of_mem h];have:l.length-1+1=l.length:=by
  have:=List.length_pos_of_mem h;omega
 rw[this]
def frL(p:Pg)(n:Nat):List Nat:=(List.range n).filter fun i=>!aF (wsP p) i
def ok9c(I:Img)(g c:Nat):Bool:=prg9 (nx9 I g c) ((frL (I.pg g) (celN9 c)).length+1) (frL (I.pg g) (celN9 c)) (I.pg g).fs
def ok9(I:Img)(g:Nat):Bool:=!decide ((I.pg g).kd=4) || ok9c I g (I.pg g).cl.toNat
structure L9(w W:World)(sb sc n:Nat)(ws:List Nat)(l:List Nat):Prop where
 st:SetAt W sb sc n ws
 ge:w.heap.size<=sc
 k:Kt nO w W
 nd:l.Nodup
 mem:∀ i,i<n->aF ws i=decide (i∈l)
 lt:∀ i,i∈l->i<n
theorem L9.keep{w W W':World}{sb sc n:Nat}{ws l:List Nat}(h:L9 w W sb sc n ws l)(hk:Kt nO W W'):L9 w W' sb sc n ws l:=
 ⟨h.st.kept hk (fun x=>x) (fun x=>x),h.ge,nT h.k hk,h.nd,h.mem,h.lt⟩
theorem L9.met{w W W':World}{sb sc n i:Nat}{ws l:List Nat}(h:L9 w W sb sc n ws l)(hk:Kt (fun x=>x=sc) W W')(hi:i∈l)(hs:SetAt W' sb sc n (bN n ws (i:Int) false)):L9 w W' sb sc n (bN n ws (i:Int) false) (l.erase i):=by
 refine⟨hs,h.ge,h.k.trans hk (fun _ _ x=>x) (fun x hx e=>by have:=h.ge;omega),h.nd.erase i,fun j hj=>?_,fun j hj=>h.lt j (List.mem_of_mem_erase hj)⟩;rw[rI h.st.len i (h.lt i hi) false j];by_cases e:j=i
 ·rw[if_pos e,e];exact(decide_eq_false (fun hm=>((h.nd.mem_erase_iff).1 hm).1 rfl)).symm
 ·rw[if_neg e,h.mem j hj,decide_eq_decide,h.nd.mem_erase_iff];exact⟨fun hm=>⟨e,hm⟩,fun hm=>hm.2⟩
theorem L9.ins{w W:World}{sb sc n:Nat}{ws l:List Nat}(h:L9 w W sb sc n ws l)(p:Int):bZ n ws p=decide (0<=p/\p.toNat∈l):=by
 unfold bZ aC;by_cases hp : 0<=p/\p<(n:Int)
 ·rw[decide_eq_true hp,Bool.true_and,h.mem p.toNat (by omega),decide_eq_decide];exact⟨fun hm=>⟨hp.1,hm⟩,fun hm=>hm.2⟩
 ·rw[decide_eq_false hp,Bool.false_and];refine(decide_eq_false fun hm=>hp ⟨hm.1,?_⟩).symm;have:=h.lt _ hm.2;omega
theorem L9.empty{w W:World}{sb sc n:Nat}{ws l:List Nat}(h:L9 w W sb sc n ws l):l.isEmpty=decide (aT ws=0):=by
 rw[Bool.eq_iff_iff,List.isEmpty_iff,decide_eq_true_eq,zT h.st];constructor
 ·intro e j hj;rw[h.mem j hj,e];rfl
 ·intro hz
  cases l with
  | nil=>rfl
  | cons x t=>
   exfalso
   have hx:=h.lt x List.mem_cons_self;have:=hz x hx;rw[h.mem x hx,decide_eq_true List.mem_cons_self] at this
   cases this
theorem zdq(b:Nat)(I:Img)(V:ImV)(k r:Nat)(hS:Sn9 I k r)(g c:Nat)(hg:g<I.np)(hc:(I.pg g).cl=(c:Int))(h7:c<=7)(w:World)(hI:ImAt w b I V):
  Calls prog 228 #[.pointer (some ⟨b,0,none⟩),.int .i64 g] w fun e w'=>e=bB (if ok9c I g c=true then none else some g)/\Kt nO w w':=by
 obtain⟨-,⟨pa,pc,hp⟩,-,-,-,-,bp,-,-⟩:=hI.d.sl;obtain⟨c0,c1,c2,c3,c4,c5,c6,c7,c8⟩:=hI.cells;rw[hp] at c5;obtain⟨bl,o,oc',hv',hpi,hpc⟩:=hI.page g hg;rw[hp] at hv';injection hv' with e1 e2 e3
 subst e1;obtain⟨EE,hEE⟩:=xe (bB (if ok9c I g c=true then none else some g));rw[<-hEE];have FB:=aA (show ok9c I g c=false->bM (g:Int)=EE from fun h=>by rw[hEE,if_neg (by rw[h];decide)];rfl);have FG:=aA (show ok9c I g c=true->Ending.returned (.tuple #[])=EE from fun h=>by rw[hEE,if_pos h];rfl);have OK:=aA (show prg9 (nx9 I g c) ((frL (I.pg g) (celN9 c)).length+1) (frL (I.pg g) (celN9 c)) (I.pg g).fs=ok9c I g c from rfl);generalize ok9c I g c=okv at *;have HI:=aA hI;have HFR:=aA (fun W=>ZE (I.pg g) c hc h7 hpi W);have HNX:=aA (fun (i:Nat) (hi:i<celN9 c) (W:World) (hW:ImAt W b I V)=>ZX b I V k r hS g c i hg hc h7 hi W hW);have PB:=aA (PbI.mk' (w:=w) hI (Kt.refl _ w) (I.pg g));obtain⟨d0,d1,d2,d3,d4,d5,d6,d7,d8,d9,d10⟩:=hpc.c;obtain⟨n,hn⟩:=xe (I.np);rw[<-hn] at c5;have hgn:(g:Int)<n:=by omega
 have hnp:=hS.np1;rw[<-hn] at hnp;obtain⟨nf,hnf⟩:=xe (nx9 I g c);rw[<-hnf] at OK;have HNF:=aA (show ∀ i,nx9 I g c i=nf i from fun i=>by rw[hnf]);generalize celN9 c=cn at *;generalize hpp:I.pg g=p at *;clear hEE hI hp hpi hpc e2 e3 hn hc bp hpp hnf;go_enter func228,ntmps228;go_wp2_with fail;have SZ:=aA (show w.heap.size<(w.alloc (aV p)).heap.size by simp);generalize w.alloc (aV p)=W1 at *;generalize hgg:w.heap.size=gb at *;have HGB:=aA hgg;clear hgg d0 d1 d2 d3 d4 d5 d6 d7 d8 d9 d10 c0 c1 c2 c3 c4 c5 c6 c7 c8;refine(HFR.out W1).mono ?_;rintro e w2 ⟨sb,sc,ws,rfl,hst,hg1,hg2,hbt,hk2⟩;have PB2:=aA (PB.out.keep hk2);have LL:=aA (show L9 w w2 sb sc cn ws (frL p cn)from⟨hst,by have:=SZ.out;have:=HGB.out;omega,nT PB.out.k hk2,List.nodup_range.filter _,fun i hi=>by
  rw[hbt i hi,Bool.eq_iff_iff,decide_eq_true_eq];simp[frL,hi],fun i hi=>by simp[frL] at hi;exact hi.1⟩)
 obtain⟨q0,q1,q2,q3,q4,q5,q6,-⟩:=eK PB2.out.pb;clear hst hg1 hg2 hbt hk2;go_wp2_with fail;clear q0 q1 q2 q3 q4 q5 q6;go_loopw [6] (fun pv W=>∃ x:Int,pv=.int .i64 x/\Hid (∃ ws l,L9 w W sb sc cn ws l/\prg9 nf (l.length+1) l x=okv)) (fun _ W=>aT (cB W sc))
 case atStart=>exact⟨p.fs,rfl,aA ⟨_,_,LL.out,OK.out⟩⟩
 case round=>
  clear LL OK PB2 PB SZ;obtain⟨x,rfl,hL⟩:=hrel;obtain⟨ws,l,hl,hok⟩:=hL.out;have LL:=aA hl;have OK:=aA hok;clear hL hl hok;by_cases hx:x = -1
  ·have f0:(x != -1)=false:=(by rw[hx];rfl);have OK2:=aA (show okv=decide (aT ws=0)by rw[<-OK.out,hx,prg9_end,LL.out.empty]);obtain⟨cw,hcw⟩:=xe (aT ws);have HCT:=aA (rO sb sc cn ws wr LL.out.st);rw[<-hcw] at HCT OK2;clear hx hcw;by_cases g0:cw=0
   case neg=>
    have R2:=aA (FB.out (by rw[OK2.out,decide_eq_false g0]));have f4:((cw:Int) == 0)=false:=(by rw[beq_eq_false_iff_ne];omega);clear g0;go_wp2_with fail;refine HCT.out.mono ?_;rintro e w3 ⟨rfl,rfl⟩;go_wp2_with fail;refine(dC _ _).mono ?_;rintro e w4 ⟨rfl,rfl⟩;exact⟨rfl,R2.out,LL.out.k⟩
   have R2:=aA (FG.out (by rw[OK2.out,decide_eq_true g0]));have f4:((cw:Int) == 0)=true:=(by rw[beq_iff_eq];omega);clear g0;go_wp2_with fail;refine HCT.out.mono ?_;rintro e w3 ⟨rfl,rfl⟩;go_wp2_with fail;refine(cJ _ _).mono ?_;rintro e w4 ⟨rfl,rfl⟩;go_wp2_with fail;first|go_end0|go_ret
   exact⟨R2.out,LL.out.k⟩
  ·have f0:(x != -1)=true:=(by rw[bne_iff_ne];exact hx);have INS:=aA (LL.out.ins x)
   cases hin:bZ cn ws x with
   | false=>
    have R2:=aA (FB.out (by
     rw[<-OK.out];refine FZ hx ?_;have:=INS.out;rw[hin] at this;exact of_decide_eq_false this.symm))
    have HME:=aA (sR sb sc cn ws x (g:Int) wr LL.out.st hin);clear hin hx;go_wp2_with fail;refine HME.out.mono ?_;rintro e w3 ⟨rfl,rfl⟩;exact⟨rfl,R2.out,LL.out.k⟩
   | true=>
    have hm : 0<=x/\x.toNat∈l:=by
     have:=INS.out;rw[hin] at this;exact of_decide_eq_true this.symm
    obtain⟨i,rfl⟩:=Int.eq_ofNat_of_zero_le hm.1;have hil:i∈l:=(by have:=hm.2;rwa [Int.toNat_natCast] at this);have HIL:=aA hil;have HI1:=aA (LL.out.lt i hil);have HME:=aA (tL sb sc cn ws (i:Int) (g:Int) wr LL.out.st hin);clear hin hm hil hx;go_wp2_with fail;refine HME.out.mono ?_;rintro e wc ⟨rfl,h1,h2,h3⟩;have LM:=aA (show L9 w wc sb sc cn (bN cn ws (i:Int) false) (l.erase i)from LL.out.met h2 HIL.out h1);have MSR:=aA (show aT (cB wc sc)<aT (cB wr sc)by
     rw[gZ LM.out.st,gZ LL.out.st];have hb:aF ws i=true:=(by rw[LL.out.mem i HI1.out];exact decide_eq_true HIL.out);have:=tY LL.out.st LM.out.st HI1.out hb;omega)
    have IM2:=aA (HI.out.keep LM.out.k);have NC:=aA (HNX.out i HI1.out wc IM2.out);rw[HNF.out i] at NC;clear h1 h2 h3 HME
    cases hq:nf i with
    | none=>
     have R2:=aA (FB.out (by rw[<-OK.out];exact OT HIL.out hq));rw[hq] at NC;clear hq;go_wp2_with fail;refine NC.out.mono ?_;rintro e w4 ⟨rfl,hk4⟩;exact⟨rfl,R2.out,nT LM.out.k hk4⟩
    | some q=>
     have R2:=aA (show prg9 nf ((l.erase i).length+1) (l.erase i) q=okv by rw[<-OK.out];exact(prg9_yes HIL.out hq).symm);rw[hq] at NC;clear hq;go_wp2_with fail;refine NC.out.mono ?_;rintro e w4 ⟨rfl,hk4⟩;have R3:=aA (show ∃ ws l,L9 w w4 sb sc cn ws l/\prg9 nf (l.length+1) l q=okv from⟨_,_,LM.out.keep hk4,R2.out⟩);have MS2:=aA (show aT (cB w4 sc)<aT (cB wr sc)by
      rw[gZ (LM.out.keep hk4).st,<-gZ LM.out.st];exact MSR.out)
     clear hk4;dsimp only[vC];go_wp2_with fail;go_round
     case rel=>exact⟨q,rfl,R3⟩
     case measure=>exact MS2.out
theorem zcM(b:Nat)(I:Img)(V:ImV)(k r:Nat)(hS:Sn9 I k r)(w:World)(hI:ImAt w b I V):
  Calls prog 173 #[.pointer (some ⟨b,0,none⟩)] w fun e w'=>e=bB (fst1 I.np (ok9 I))/\Kt nO w w':=by
 obtain⟨-,⟨pa,pc,hp⟩,-,-,-,-,bp,-,-⟩:=hI.d.sl;obtain⟨c0,c1,c2,c3,c4,c5,c6,c7,c8⟩:=hI.cells;rw[hp] at c5;obtain⟨EE,hEE⟩:=xe (bB (fst1 I.np (ok9 I)));rw[<-hEE];have HE:=aA hEE;have HI:=aA hI;have HS:=aA hS;have SP:=aA hp;have hnp:=hS.np1;obtain⟨n,hn⟩:=xe (I.np);rw[<-hn] at hnp c5;have HN:=aA hn;clear hEE hI hp hS hn bp;go_enter func173,ntmps173;go_wp2_with fail;go_loopw [9] (fun i W=>∃ a:Nat,a<=n/\i=.int .i64 a/\Hid (Kt nO w W/\∀ x,x<a->ok9 I x=true)) (fun i _=>n-(intOf i).toNat)
 case atStart=>exact⟨0,Nat.zero_le _,rfl,aA ⟨Kt.refl _ _,fun x hx=>by omega⟩⟩
 case round=>
  clear c0 c1 c2 c3 c4 c5 c6 c7 c8;obtain⟨a,ha,rfl,hR⟩:=hrel;have A0:=aA (HI.out.keep hR.out.1);by_cases hlt:a<n
  ·have hai:(a:Int)<n:=(by omega);have hlt':a<I.np:=(by rw[<-HN.out];exact hlt);obtain⟨bl,o,oc',hv',hpi,hpc⟩:=A0.out.page a hlt';rw[SP.out] at hv';injection hv' with e1 e2 e3
   subst e1;obtain⟨kd,od,cc,ll,y1,y2,y3,y4,y5,y6,y7,y8,-⟩:=HS.out.pg a hlt';have FB:=aA (show ok9 I a=false->bM (a:Int)=EE from fun h=>by rw[HE.out,kE hlt' hR.out.2 h];rfl);have GA:=aA (show ok9 I a=true->∀ x,x<a+1->ok9 I x=true from fun h x hx=>by
    by_cases e:x=a
    ·rw[e];exact h
    ·exact hR.out.2 x (by omega))
   have OK:=aA (show ok9 I a=(!decide ((I.pg a).kd=4) || ok9c I a cc)by unfold ok9;rw[y5,Int.toNat_natCast]);have PB:=aA (PbI.mk' (w:=w) A0.out hR.out.1 (I.pg a));have HCL:=aA (zdq b I V k r HS.out a cc hlt' y5 y6 (wr.alloc (aV (I.pg a))) PB.out.im);generalize ok9c I a cc=o9 at *;generalize ok9 I a=okv at *;obtain⟨d0,d1,d2,d3,d4,d5,d6,d7,d8,d9,d10⟩:=hpc.c;generalize I.pg a=p at *;clear hpi hpc e2 e3 y1 y2 y3 y4 y5 y6 y7 y8;by_cases hk4:p.kd=4
   case neg=>
    have R2:=aA (show Kt nO w (wr.alloc (aV p))/\_ from⟨hR.out.1.alloc _,GA.out (by rw[OK.out];simp[hk4])⟩);have f2:(p.kd == 4)=false:=(by rw[beq_eq_false_iff_ne];exact hk4);clear hk4;go_wp2_with fail;go_round
    case rel=>exact⟨a+1,by omega,by go_num,R2⟩
    case measure=>simp[intOf];omega
   have f2:(p.kd == 4)=true:=(by rw[beq_iff_eq];exact hk4);have OK2:=aA (show okv=o9 by rw[OK.out,decide_eq_true hk4];rfl);clear hk4
   cases o9 with
   | false=>
    have R2:=aA (FB.out OK2.out);rw[if_neg (by decide)] at HCL;go_wp2_with fail;refine HCL.out.mono ?_;rintro e w3 ⟨rfl,hk3⟩;exact⟨rfl,R2.out,nT PB.out.k hk3⟩
   | true=>
    have R2:=aA (GA.out OK2.out);rw[if_pos rfl] at HCL;go_wp2_with fail;refine HCL.out.mono ?_;rintro e w3 ⟨rfl,hk3⟩;have R3:=aA (show Kt nO w w3/\_ from⟨nT PB.out.k hk3,R2.out⟩);clear hk3;dsimp only[bB];go_wp2_with fail;go_round
    case rel=>exact⟨a+1,by omega,by go_num,R3⟩
    case measure=>simp[intOf];omega
  ·obtain rfl:a=n:=(by omega);have hai:¬(a:Int)<a:=(by omega);have E:=aA (show Ending.returned (.tuple #[])=EE by rw[HE.out,fst1_ok (fun x hx=>hR.out.2 x (by rw[HN.out];exact hx))];rfl);go_wp2_with fail;first|go_end0|go_ret
   exact⟨E.out,hR.out.1⟩
end Go.Proofs.YtkfmheelhinjdaaGreatDoor.W
