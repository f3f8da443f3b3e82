import Derived.Laws.BitsAllLaws
import Derived.Test.YtkfmheelhinjdaaGreatDoorChecked
import Derived.WalkKit
import Derived.WalkSpells
import Derived.WalkLawsBesides
import Derived.Outline
import Derived.Laws.CopyOwn
import Derived.RegionTactic
import Derived.ChangeAlike
import Derived.Deep.RegionHeld3
import Derived.Deep.QuietTactic
import Derived.BigQuiet
set_option maxRecDepth 1000000
set_option maxHeartbeats 80000000
namespace Go.Proofs.YtkfmheelhinjdaaGreatDoor
open _root_.Go.Proofs.Tryz
theorem xe{α:Sort _}(a:α):∃ x,x=a:=⟨a,rfl⟩
set_option linter.unusedVariables false
def mT(x:Nat):Bool:=decide (x≠0/\x &&& (x-1)=0)
def lg(x:Nat):Int:=if x=0 then -1 else (Nat.log2 x:Int)
def cE:Nat->Nat->Nat
 | 0,_=>0
 | k+1,x=>x%2+cE k (x/2)
def cl(x:Nat):Nat:=if x<=1 then 0 else Nat.log2 (x-1)+1
def jZ(w x:Nat):Nat:=if cl x<w then 2 ^ cl x else 0
def oA(w x:Nat):Bool:=decide (cl x<w)
theorem nI(a b:Nat) : 2 ^ a<=2 ^ b↔a<=b:=Nat.pow_le_pow_iff_right (by decide)
theorem iY(a b:Nat) : 2 ^ a<2 ^ b↔a<b:=Nat.pow_lt_pow_iff_right (by decide)
theorem xA(a b:Nat)(h : 2 ^ a=2 ^ b):a=b:=by
 have h1:=(nI a b).1 (by omega);have h2:=(nI b a).1 (by omega);omega
theorem GH(x:Nat) : -1<=lg x:=by unfold lg;split <;> omega
theorem wZ:lg 0 = -1:=rfl
theorem nG(x:Nat)(h:x≠0):lg x=(Nat.log2 x:Int):=by unfold lg;simp[h]
theorem GF(x w:Nat)(h:x<2 ^ w):lg x<(w:Int)\/x=0:=by
 by_cases h0:x=0
 ·exact Or.inr h0
 ·left
  rw[nG x h0];have:=(Nat.log2_lt h0).2 h;omega
theorem yD(x k:Nat)(h0:x/2 ^ k=0)(h1:∀ j,j<k->x/2 ^ j≠0):(k:Int)-1=lg x:=by
 have hk:x<2 ^ k:=by
  rcases Nat.div_eq_zero_iff.1 h0 with h|h
  ·have:=Nat.two_pow_pos k;omega
  ·exact h
 by_cases hx:x=0
 ·subst hx;have:k=0:=by
   by_cases hk0:k=0
   ·exact hk0
   ·exact absurd (by simp) (h1 0 (by omega))
  subst this;rw[wZ];omega
 ·rw[nG x hx];have hlt:=(Nat.log2_lt hx).2 hk;have hge:k-1<=Nat.log2 x:=by
   by_cases hk0:k=0
   ·omega
   ·rw[Nat.le_log2 hx];have:=h1 (k-1) (by omega);rw[Ne,Nat.div_eq_zero_iff] at this;omega
  omega
theorem ID(x:Nat)(hx:x<2 ^ 64)(h1:∀ j,j<64->x/2 ^ j≠0):(63:Int)=lg x:=by
 have h:=yD x 64 (Nat.div_eq_of_lt hx) h1;omega
theorem IC(k x:Nat):cE k x<=k:=by
 induction k generalizing x with
 | zero=>simp[cE]
 | succ k ih=>have:=ih (x/2);simp only[cE];omega
theorem UK(x k n:Nat)(h:k<n):cE (n-k) (x/2 ^ k)=x/2 ^ k%2+cE (n-(k+1)) (x/2 ^ (k+1)):=by
 have e:n-k=(n-(k+1))+1:=by omega
 rw[e,cE,Nat.div_div_eq_div_mul,<-Nat.pow_succ]
theorem VZ(k:Nat):cE k 0=0:=by
 induction k with
 | zero=>rfl
 | succ k ih=>simp[cE,ih]
def cnt(x:Nat):Nat:=if h:x=0 then 0 else x%2+cnt (x/2)
 termination_by x
 decreasing_by omega
theorem sJ(k x:Nat)(h:x<2 ^ k):cnt x=cE k x:=by
 induction k generalizing x with
 | zero=>
      have:x=0:=by omega
      subst this;rw[cnt];rfl
 | succ k ih=>
  rw[cnt];split
  ·rename_i h0;subst h0;rw[VZ]
  ·rw[ih (x/2) (by rw[Nat.pow_succ] at h;omega)];rfl
theorem wF(x:Nat)(h:x<2 ^ 64):cnt x<=64:=by rw[sJ 64 x h];exact IC 64 x
theorem oP(x n:Nat):x<=2 ^ n↔cl x<=n:=by
 unfold cl;split
 ·rename_i h;have:=Nat.two_pow_pos n;constructor <;> intro <;> omega
 ·rename_i h;have h1:x-1≠0:=by omega
  have:=Nat.log2_lt (k:=n) h1;constructor
  ·intro h2;have:=this.2 (by omega);omega
  ·intro h2;have:=this.1 (by omega);omega
theorem FZ(x:Nat):lg (x-1)+1=(cl x:Int):=by
 unfold lg cl;by_cases h1:x<=1
 ·have:x-1=0:=by omega
  simp[this,h1]
 ·have:x-1≠0:=by omega
  simp[this,h1]
theorem FY(x w:Nat)(h:x<2 ^ w):cl x<=w:=(oP x w).1 (by omega)
theorem IB(n w:Nat)(h:n<=w) : 2 ^ n%2 ^ w=if n<w then 2 ^ n else 0:=by
 split
 ·rename_i h1;exact Nat.mod_eq_of_lt ((iY n w).2 h1)
 ·have:n=w:=by omega
  subst this;simp
theorem qD(x k:Nat)(_hx:x<2 ^ 64):((x:Int)/2 ^ k)=((x/2 ^ k:Nat):Int):=by simp
theorem DI(x w:Nat)(h:x<2 ^ w)(h0 : 1<=w):lg x+1<=(w:Int):=by
 rcases GF x w h with h|h
 ·omega
 ·subst h;rw[wZ];omega
theorem yC(W x:Nat)(hx:x<2 ^ W):((2:Int) ^ (lg (x-1)+1).toNat)%2 ^ W=((jZ W x:Nat):Int):=by
 rw[FZ,Int.toNat_natCast];have e:((2:Int) ^ cl x)%2 ^ W=((2 ^ cl x%2 ^ W:Nat):Int):=by simp
 rw[e,IB _ _ (FY x W hx)];rfl
theorem IA(W x:Nat):(((jZ W x:Nat):Int) != 0)=oA W x:=by
 unfold jZ oA;have:=Nat.two_pow_pos (cl x);by_cases h:cl x<W
 ·rw[if_pos h,decide_eq_true h];exact bne_iff_ne.2 (by omega)
 ·simp[h]
open Go.RowKit
theorem aA{p:Prop}(h:p):Hid p:=h
theorem eJ{k:IntKind}{a b:Int}(h:a=b):Ending.returned (.int k a)=.returned (.int k b):=by rw[h]
theorem cO{a b:Bool}(h:a=b):Ending.returned (.bool a)=.returned (.bool b):=by rw[h]
theorem pB(n:Int):IntKind.u8.wrap n=n%2 ^ 8:=IntKind.wrap_u8' n
theorem wrap_u64(n:Int):IntKind.u64.wrap n=n%2 ^ 64:=IntKind.wrap_u64 n
theorem RV{k:IntKind}{a b:Int}{p q:Bool}(h:a=b)(h2:p=q):Ending.returned (.tuple #[.int k a,.bool p])=.returned (.tuple #[.int k b,.bool q]):=by rw[h,h2]
theorem YT(x:Nat)(hx:x<2 ^ 64)(h:x≠0):(((x:Int) != 0) && (bits BinOp.and IntKind.u64 (x:Int) ((x:Int)-1) == 0))=mT x:=by
 have e:((x:Int)-1)=((x-1:Nat):Int):=by omega
 rw[e,u64_and_nat x (x-1) (by omega) (by omega)];unfold mT;by_cases h2:x &&& (x-1)=0 <;> simp[h,h2]
theorem YS(x:Nat)(hx:x<2 ^ 64)(w:World):
  Calls prog 91 #[.int .u64 x] w fun e w'=>e=.returned (.bool (mT x))/\w'=w:=by
 by_cases h:x=0
 ·subst h;go_enter func91,ntmps91;go_wp2
  go_ret;exact⟨rfl,rfl⟩
 ·have e:=YT x hx h;have E:Hid ((((x:Int) != 0) && (bits BinOp.and IntKind.u64 (x:Int) ((x:Int)-1) == 0))=mT x):=e;clear e;go_enter func91,ntmps91;go_wp2
  go_ret;exact⟨cO E.out,rfl⟩
theorem oJ(x:Nat)(hx:x<2 ^ 64)(w:World):
  Calls prog 160 #[.int .u64 x] w fun e w'=>e=.returned (.int .i64 (lg x))/\w'=w:=by
 go_enter func160,ntmps160;go_wp2
 go_loop [4] (fun i=>∃ k:Nat,k<=64/\i=.int .i64 k/\Hid (∀ j,j<k->x/2 ^ j≠0)) (fun i=>64-(intOf i).toNat)
 case atStart=>exact⟨0,by omega,rfl,fun j hj=>by omega⟩
 case round=>
  obtain⟨k,hk,rfl,hp⟩:=hrel;by_cases hlt:k<64
  ·go_wp2
   ·go_ret;have h:((x:Int)/2 ^ (k) == 0)=true:=(by assumption);rw[qD x k hx] at h;exact⟨eJ (yD x k (Int.natCast_eq_zero.1 (eq_of_beq h)) hp.out),rfl⟩
   ·have h:((x:Int)/2 ^ (k) == 0)=false:=(by assumption);rw[qD x k hx] at h;go_round
    case rel=>
     refine⟨k+1,by omega,by go_num,?_⟩;intro j hj;by_cases e:j<k
     ·exact hp.out j e
     ·have:j=k:=by omega
      subst this;intro h2;simp[h2] at h
    case measure=>simp[intOf];omega
  ·go_wp2
   go_ret;have:k=64:=by omega
   subst this;exact⟨eJ (ID x (by omega) hp.out),rfl⟩
theorem XV(x:Nat)(hx:x<2 ^ 64)(w:World):
  Calls prog 267 #[.int .u64 x] w fun e w'=>e=.returned (.int .i64 (cE 64 x))/\w'=w:=by
 go_enter func267,ntmps267;go_wp2
 go_loop [3,5] (fun c i=>∃ k n:Nat,k<=64/\n<=k/\i=.int .i64 k/\c=.int .i64 n/\Hid (n+cE (64-k) (x/2 ^ k)=cE 64 x)) (fun _ i=>64-(intOf i).toNat)
 case atStart=>exact⟨0,0,by omega,by omega,rfl,rfl,(by simp : 0+cE (64-0) (x/2 ^ 0)=cE 64 x)⟩
 case round=>
  obtain⟨k,n,hk,hn,rfl,rfl,hp⟩:=hrel;by_cases hlt:k<64
  ·go_wp2
   have hb:bits BinOp.and IntKind.u64 ((x:Int)/2 ^ (k)) 1=((x/2 ^ k%2:Nat):Int):=by
    rw[qD x k hx];have hd:x/2 ^ k<2 ^ 64:=Nat.lt_of_le_of_lt (Nat.div_le_self _ _) hx;have:=u64_and_nat (x/2 ^ k) 1 (by omega) (by decide);rw[nat_mask1] at this;exact this
   have hc:=UK x k 64 hlt;go_round
   case rel=>
    refine⟨k+1,n+x/2 ^ k%2,by omega,by omega,by go_num,?_,?_⟩
    ·rw[hb];congr 1
     rw[IntWalk.wrap64_in ((x/2 ^ k%2:Nat):Int) (by omega),IntWalk.wrap64_in _ (by omega)];omega
    ·have:=hp.out;show _=_
     omega
   case measure=>simp[intOf];omega
  ·go_wp2
   go_ret;have:k=64:=by omega
   subst this;have h:=hp.out;rw[show cE (64-64) (x/2 ^ 64)=0 from rfl] at h;exact⟨eJ (by rw[<-h];rfl),rfl⟩
theorem RU(x:Nat)(hx:x<2 ^ 64)(w:World):
  Calls prog 267 #[.int .u64 x] w fun e w'=>e=.returned (.int .i64 (cnt x))/\w'=w:=by
 rw[sJ 64 x (by omega)];exact XV x hx w
theorem KV(x:Nat)(hx:x<2 ^ 64)(w:World):
  Calls prog 127 #[.int .u64 x] w fun e w'=>e=.returned (.tuple #[.int .u64 (jZ 64 x),.bool (oA 64 x)])/\w'=w:=by
 by_cases h:x=0
 ·subst h;go_enter func127,ntmps127;go_wp2
  go_ret2;exact⟨rfl,rfl⟩
 ·have h1:=GH (x-1);have h0 : 0<=lg (x-1)+1:=by omega
  have h2:lg (x-1)+1<=64:=DI (x-1) 64 (by omega) (by decide);have e:((x:Int)-1)=((x-1:Nat):Int):=by omega
  go_enter func127,ntmps127;go_wp2_with (go_at_call 160;refine(oJ (x-1) (by omega) _).mono ?_;rintro e w' ⟨rfl,rfl⟩)
  go_ret2;have e2:IntKind.u64.wrap (2 ^ (lg (x-1)+1).toNat)=((jZ 64 x:Nat):Int):=by
   rw[wrap_u64];exact yC 64 x hx
  have e3:(2:Int) ^ (lg (x-1)+1).toNat%18446744073709551616=((jZ 64 x:Nat):Int):=yC 64 x hx;refine⟨?_,rfl⟩;exact RV e2 (by rw[e2];exact IA 64 x)
def bI(ws:List Nat):Array Value:=(ws.map fun (x:Nat)=>Value.int .u64 x).toArray
def dP(m:Nat):List Nat:=List.replicate m 0
theorem lQ(m:Nat):(dP m).length=m:=by simp[dP]
theorem nM(m i:Nat):(dP m).getD i 0=0:=by
 simp[dP,List.getD,List.getElem?_replicate];split <;> rfl
structure SetAt(w:World)(b c n:Nat)(ws:List Nat):Prop where
 ne:c≠b
 hb:w.heap[b]?=some (.cells #[.int .i64 n,.slice (some ⟨c,0,none⟩) ws.length ws.length] 181 (0,0))
 hc:w.heap[c]?=some (.cells (bI ws) 27 (0,0))
 len:ws.length=(n+63)/64
 nle:n<=1048576
 ok:∀ i,i<ws.length->ws.getD i 0<2 ^ (min 64 (n-64*i))
theorem SetAt.cb0{w b c n ws}(h:SetAt w b c n ws):w.cell? ⟨b,0,none⟩=some (.int .i64 n):=by simp[World.cell?,h.hb]
theorem SetAt.cb1{w b c n ws}(h:SetAt w b c n ws):w.cell? ⟨b,1,none⟩=some (.slice (some ⟨c,0,none⟩) ws.length ws.length):=by simp[World.cell?,h.hb]
theorem SetAt.cc{w b c n ws}(h:SetAt w b c n ws)(i:Nat)(hi:i<ws.length):w.cell? ⟨c,i,none⟩=some (.int .u64 ((ws.getD i 0:Nat):Int)):=by
 simp[World.cell?,h.hc,bI,hi]
theorem SetAt.fb{w b c n ws}(h:SetAt w b c n ws)(i:Nat):w.frozen? ⟨b,i,none⟩=false:=by simp[World.frozen?,h.hb]
theorem SetAt.fc{w b c n ws}(h:SetAt w b c n ws)(i:Nat):w.frozen? ⟨c,i,none⟩=false:=by simp[World.frozen?,h.hc]
theorem SetAt.lt64{w b c n ws}(h:SetAt w b c n ws)(i:Nat):ws.getD i 0<2 ^ 64:=by
 by_cases hi:i<ws.length
 ·exact Nat.lt_of_lt_of_le (h.ok i hi) ((nI _ _).2 (Nat.min_le_left _ _))
 ·have:ws.getD i 0=0:=by simp[List.getD,Nat.not_lt.1 hi]
  rw[this];decide
theorem xY:(prog.info? 27).map (fun i=>(i.zero,i.size,i.bytes))=some (some (.int .u64 0),1,8):=by kernel_rfl
theorem ZD(m:Nat):madeCells (Value.int .u64 0).cells (m*1)=bI (dP m):=by
 simp only[madeCells,bI,dP];apply Array.ext
 ·simp
 ·intro i h1 h2;have:i%1=0:=Nat.mod_one i;simp[Value.cells,this]
theorem rN(m:Nat)(hm:m<=1048576)(w:World):
  (Instr.makeSlice 35 (.int .i64 m) (.int .i64 m)).run prog w=.ok (.slice (some ⟨w.heap.size,0,none⟩) m m) (w.alloc (.cells (bI (dP m)) 27)):=by
 obtain⟨i,hi,hz0,hz1,hz2⟩:=info_parts xY;have:=run_make (P:=prog) w 35 27 i (.int .u64 0) Tryz.underlying35 hi hz0 .i64 .i64 (m:Int) (m:Int) (by omega) (by omega) (by rw[hz2];omega) (by omega);rw[hz1] at this;simp only[Int.toNat_natCast,ZD] at this;exact this
def dF(n:Int):Nat:=if n<0 then 0 else if 1048576<n then 1048576 else n.toNat
theorem ZB(n:Nat)(hn:n<=1048576)(w:World):
  Calls prog 116 #[.int .i64 n] w fun e w'=>e=.returned (.pointer (some ⟨w.heap.size+1,0,none⟩))/\w'=(w.alloc (.cells (bI (dP ((n+63)/64))) 27)).alloc (.cells #[.int .i64 n,.slice (some ⟨w.heap.size,0,none⟩) ((n+63)/64) ((n+63)/64)] 181):=by
 obtain⟨m,hm⟩:=xe ((n+63)/64);rw[<-hm];have hmk:=rN m (by omega);have hq:((n:Int)+64-1)/64=(m:Int):=by omega
 clear hm;go_enter func116,ntmps116;go_wp2
 go_ret;exact⟨rfl,rfl⟩
def aC(n:Nat)(i:Int):Bool:=decide (0<=i/\i<n)
theorem kV(b c n:Nat)(ws:List Nat)(i:Int)(w:World)(h:SetAt w b c n ws):
  Calls prog 268 #[.pointer (some ⟨b,0,none⟩),.int .i64 i] w fun e w'=>e=.returned (.bool (aC n i))/\w'=w:=by
 have h0:=h.cb0;have hn:=h.nle;clear h;by_cases hi : 0<=i
 ·go_enter func268,ntmps268;go_wp2
  go_ret;exact⟨cO (by simp[aC,hi]),rfl⟩
 ·go_enter func268,ntmps268;go_wp2
  go_ret;exact⟨cO (by simp[aC];omega),rfl⟩
theorem GQ(b c n:Nat)(ws:List Nat)(w:World)(h:SetAt w b c n ws):
  Calls prog 293 #[.pointer (some ⟨b,0,none⟩)] w fun e w'=>e=.returned (.int .i64 n)/\w'=w:=by
 have h0:=h.cb0;have hn:=h.nle;clear h;go_enter func293,ntmps293;go_wp2
 go_ret;exact⟨rfl,rfl⟩
def aF(ws:List Nat)(j:Nat):Bool:=(ws.getD (j/64) 0)/2 ^ (j%64)%2 == 1
def cA(n:Nat)(ws:List Nat)(i:Int):Bool:=aC n i && aF ws i.toNat
theorem mL(b c n:Nat)(ws:List Nat)(i:Int)(w:World)(h:SetAt w b c n ws):
  Calls prog 222 #[.pointer (some ⟨b,0,none⟩),.int .i64 i] w fun e w'=>e=.returned (.bool (cA n ws i))/\w'=w:=by
 by_cases hi : 0<=i/\i<n
 ·obtain⟨k,rfl⟩:=Int.eq_ofNat_of_zero_le hi.1;have hl:=h.len;have hn:=h.nle;have hkn:k<n:=by omega
  obtain⟨q,hq⟩:=xe (k/64);obtain⟨r,hr⟩:=xe (k%64);have hql:q<ws.length:=by omega
  have hr64:r<64:=by omega
  have hcc:=h.cc q hql;have hlt:=h.lt64 q;have h1:=h.cb1;obtain⟨x,hx⟩:=xe (ws.getD q 0);rw[<-hx] at hcc hlt;have hd:aC n (k:Int)=true:=by simpa [aC] using hi
  have E:Hid (((bits BinOp.and IntKind.u64 ((x:Int)/2 ^ r) 1) == 1)=cA n ws k):=by
   show _=_
   rw[qD x r hlt];have hd2:x/2 ^ r<2 ^ 64:=Nat.lt_of_le_of_lt (Nat.div_le_self _ _) hlt;have:=u64_and_nat (x/2 ^ r) 1 (by omega) (by decide);rw[nat_mask1] at this;rw[show(1:Int)=((1:Nat):Int)from rfl,this];unfold cA aF;rw[hd,Int.toNat_natCast,<-hq,<-hr,<-hx,Bool.true_and,Bool.eq_iff_iff];simp only[beq_iff_eq];omega
  have hq1:(k:Int)/64=(q:Int):=by omega
  have hr1:(k:Int)%64=(r:Int):=by omega
  have HA:=aA h;have hkb:k<=1048576:=by omega
  clear hx h hi hl hq hr hkn;go_enter func222,ntmps222;go_wp2_with (go_at_call 268;refine(kV b c n ws _ _ HA.out).mono ?_;rintro e w' ⟨rfl,rfl⟩)
  go_ret;exact⟨cO E.out,rfl⟩
 ·have hd:aC n i=false:=by simp only[aC];exact decide_eq_false hi
  clear hi;go_enter func222,ntmps222;go_wp2_with (go_at_call 268;refine(kV b c n ws _ _ h).mono ?_;rintro e w' ⟨rfl,rfl⟩)
  go_ret;exact⟨cO (by simp[cA,hd]),rfl⟩
structure Kt(S:Nat->Prop)(w w':World):Prop where
 os:w'.os=w.os
 tape:w'.tape=w.tape
 output:w'.output=w.output
 size:w.heap.size<=w'.heap.size
 block:∀ k,k<w.heap.size->¬S k->w'.heap[k]?=w.heap[k]?
theorem Kt.refl(S:Nat->Prop)(w:World):Kt S w w:=⟨rfl,rfl,rfl,Nat.le_refl _,fun _ _ _=>rfl⟩
theorem Kt.trans{S T U:Nat->Prop}{a b c:World}(h:Kt S a b)(k:Kt T b c)(hS:∀ x,x<a.heap.size->S x->U x)(hT:∀ x,x<a.heap.size->T x->U x):Kt U a c:=
 ⟨k.os.trans h.os,k.tape.trans h.tape,k.output.trans h.output,Nat.le_trans h.size k.size,fun i hi hU=>(k.block i (Nat.lt_of_lt_of_le hi h.size) (fun x=>hU (hT i hi x))).trans (h.block i hi (fun x=>hU (hS i hi x)))⟩
theorem Kt.mono{S T:Nat->Prop}{a b:World}(h:Kt S a b)(hS:∀ x,x<a.heap.size->S x->T x):Kt T a b:=
 ⟨h.os,h.tape,h.output,h.size,fun i hi hU=>h.block i hi (fun x=>hU (hS i hi x))⟩
theorem Kt.below{S:Nat->Prop}{B:Nat}{a b:World}(h:Kt S a b)(hB:B<=a.heap.size)(hS:∀ x,S x->B<=x):Below B a b:=
 ⟨h.os,h.tape,h.output,h.size,fun i hi=>h.block i (by omega) (fun x=>by have:=hS i x;omega)⟩
theorem Kt.drew{S:Nat->Prop}{a b:World}(h:Kt S a b):Kt S a b.drew:=⟨h.os,h.tape,h.output,h.size,h.block⟩
theorem Kt.alloc{S:Nat->Prop}{a b:World}(h:Kt S a b)(o:Obj):Kt S a (b.alloc o):=
 ⟨h.os,h.tape,h.output,by simp;have:=h.size;omega,fun i hi hU=>by rw[Below.heap_alloc _ _ _ (by have:=h.size;omega)];exact h.block i hi hU⟩
theorem Kt.setCell{S:Nat->Prop}{a b:World}(h:Kt S a b){p:Addr}(hp:S p.block)(u:Value):Kt S a (b.setCell p u):=
 ⟨h.os,h.tape,h.output,by simp;exact h.size,fun i hi hU=>by rw[Below.heap_setCell b p u i (fun e=>hU (by rw[e];exact hp))];exact h.block i hi hU⟩
structure RawAt(w:World)(b c n:Nat)(ws:List Nat):Prop where
 ne:c≠b
 hb:w.heap[b]?=some (.cells #[.int .i64 n,.slice (some ⟨c,0,none⟩) ws.length ws.length] 181 (0,0))
 hc:w.heap[c]?=some (.cells (bI ws) 27 (0,0))
 len:ws.length=(n+63)/64
 nle:n<=1048576
 lt:∀ i,ws.getD i 0<2 ^ 64
theorem SetAt.raw{w b c n ws}(h:SetAt w b c n ws):RawAt w b c n ws:=⟨h.ne,h.hb,h.hc,h.len,h.nle,h.lt64⟩
theorem RawAt.set{w b c n ws}(h:RawAt w b c n ws)(ok:∀ i,i<ws.length->ws.getD i 0<2 ^ (min 64 (n-64*i))):SetAt w b c n ws:=⟨h.ne,h.hb,h.hc,h.len,h.nle,ok⟩
theorem RawAt.cb0{w b c n ws}(h:RawAt w b c n ws):w.cell? ⟨b,0,none⟩=some (.int .i64 n):=by simp[World.cell?,h.hb]
theorem RawAt.cb1{w b c n ws}(h:RawAt w b c n ws):w.cell? ⟨b,1,none⟩=some (.slice (some ⟨c,0,none⟩) ws.length ws.length):=by simp[World.cell?,h.hb]
theorem RawAt.cc{w b c n ws}(h:RawAt w b c n ws)(i:Nat)(hi:i<ws.length):w.cell? ⟨c,i,none⟩=some (.int .u64 ((ws.getD i 0:Nat):Int)):=by
 simp[World.cell?,h.hc,bI,hi]
theorem RawAt.fc{w b c n ws}(h:RawAt w b c n ws)(i:Nat):w.frozen? ⟨c,i,none⟩=false:=by simp[World.frozen?,h.hc]
theorem RawAt.bc{w b c n ws}(h:RawAt w b c n ws):b<w.heap.size/\c<w.heap.size:=
 ⟨(Array.getElem?_eq_some_iff.1 h.hb).1,(Array.getElem?_eq_some_iff.1 h.hc).1⟩
theorem RawAt.kept{w w' b c n ws}{S:Nat->Prop}(h:RawAt w b c n ws)(k:Kt S w w')(hb:¬S b)(hc:¬S c):RawAt w' b c n ws:=
 ⟨h.ne,(k.block b h.bc.1 hb).trans h.hb,(k.block c h.bc.2 hc).trans h.hc,h.len,h.nle,h.lt⟩
theorem SetAt.kept{w w' b c n ws}{S:Nat->Prop}(h:SetAt w b c n ws)(k:Kt S w w')(hb:¬S b)(hc:¬S c):SetAt w' b c n ws:=
 (h.raw.kept k hb hc).set h.ok
theorem rY(ws:List Nat)(q y:Nat)(hq:q<ws.length):(ws.set q y).getD q 0=y:=by simp[List.getD,hq]
theorem getD_set_ne(ws:List Nat)(q y i:Nat)(h:i≠q):(ws.set q y).getD i 0=ws.getD i 0:=by
 simp[List.getD,Ne.symm h]
theorem RawAt.write{w b c n ws}(h:RawAt w b c n ws)(q y:Nat)(hq:q<ws.length)(hy:y<2 ^ 64):RawAt (w.setCell ⟨c,q,none⟩ (.int .u64 y)) b c n (ws.set q y):=by
 refine⟨h.ne,?_,?_,by simpa using h.len,h.nle,?_⟩
 ·rw[Below.heap_setCell _ _ _ _ (fun e=>h.ne e.symm),h.hb];simp
 ·have hlt:=h.bc.2;have hv:=(Array.getElem?_eq_some_iff.1 h.hc).2;simp only[World.setCell];rw[Array.getElem?_modify,if_pos rfl,h.hc];simp[bI,List.map_set]
 ·intro i;by_cases e:i=q
  ·subst e;rw[rY ws i y hq];exact hy
  ·rw[getD_set_ne ws q y i e];exact h.lt i
theorem RawAt.drew{w b c n ws}(h:RawAt w b c n ws):RawAt w.drew b c n ws:=⟨h.ne,h.hb,h.hc,h.len,h.nle,h.lt⟩
theorem nH(w:World)(o:Obj):(w.alloc o).heap[w.heap.size]?=some o:=by
 show(w.heap.push o)[w.heap.size]?=_
 simp
theorem rS(n:Int)(hlo : -9223372036854775808<=n)(hhi:n<=9223372036854775807)(w:World):
  Calls prog 116 #[.int .i64 n] w fun e w'=>e=.returned (.pointer (some ⟨w.heap.size+1,0,none⟩))/\RawAt w' (w.heap.size+1) w.heap.size (dF n) (dP ((dF n+63)/64))/\Kt (fun _=>False) w w'/\w'.heap.size=w.heap.size+2:=by
 have key:∀ (w':World) (N:Nat),N<=1048576->dF n=N->w'=(w.alloc (.cells (bI (dP ((N+63)/64))) 27)).alloc (.cells #[.int .i64 N,.slice (some ⟨w.heap.size,0,none⟩) ((N+63)/64) ((N+63)/64)] 181)->
   RawAt w' (w.heap.size+1) w.heap.size (dF n) (dP ((dF n+63)/64))/\Kt (fun _=>False) w w'/\w'.heap.size=w.heap.size+2:=by
  intro w' N hN hf hw;rw[hf];subst hw;refine⟨⟨by omega,?_,?_,by simp[lQ],hN,?_⟩,((Kt.refl _ w).alloc _).alloc _,by simp⟩
  ·have:=nH (w.alloc (.cells (bI (dP ((N+63)/64))) 27)) (.cells #[.int .i64 N,.slice (some ⟨w.heap.size,0,none⟩) ((N+63)/64) ((N+63)/64)] 181);rw[World.size_alloc] at this;rw[this,lQ]
  ·rw[Below.heap_alloc _ _ _ (by simp),nH]
  ·intro i;rw[nM];decide
 by_cases h1:n<0
 ·have hf:dF n=0:=by simp[dF,h1]
  have hmk:∀ w,(Instr.makeSlice 35 (.int .i64 0) (.int .i64 0)).run prog w=.ok (.slice (some ⟨w.heap.size,0,none⟩) 0 0) (w.alloc (.cells (bI (dP 0)) 27)):=rN 0 (by omega);have KEY:=aA (key _ 0 (by omega) hf rfl);clear key hf;go_enter func116,ntmps116;go_wp2
  go_ret;exact⟨rfl,KEY.out⟩
 ·by_cases h2 : 1048576<n
  ·have hf:dF n=1048576:=(by simp[dF,h1,h2]);have hmk:∀ w,(Instr.makeSlice 35 (.int .i64 16384) (.int .i64 16384)).run prog w=.ok (.slice (some ⟨w.heap.size,0,none⟩) 16384 16384) (w.alloc (.cells (bI (dP 16384)) 27)):=rN 16384 (by omega);have KEY:=aA (key _ 1048576 (by omega) hf rfl);clear key hf;go_enter func116,ntmps116;go_wp2
   go_ret;exact⟨rfl,KEY.out⟩
  ·obtain⟨k,rfl⟩:=Int.eq_ofNat_of_zero_le (by omega : 0<=n);have hf:dF (k:Int)=k:=(by simp[dF,h1,h2]);exact(ZB k (by omega) w).mono fun e w' ⟨he,hw⟩=>⟨he,key w' k (by omega) hf hw⟩
theorem MH(b c n:Nat)(ws:List Nat)(k:Nat)(w:World)(h:SetAt w b c n ws)(hk:k<n):
  Calls prog 285 #[.pointer (some ⟨b,0,none⟩),.int .i64 k] w fun e w'=>e=.returned (.bool true)/\RawAt w' b c n (ws.set (k/64) ((ws.getD (k/64) 0) ^^^ 2 ^ (k%64)))/\Kt (fun x=>x=c) w w'/\w'.heap.size=w.heap.size:=by
 obtain⟨q,hq⟩:=xe (k/64);obtain⟨r,hr⟩:=xe (k%64);rw[<-hq,<-hr];have hl:=h.len;have hn:=h.nle;have hql:q<ws.length:=by omega
 have hr64:r<64:=by omega
 have hcc:=h.cc q hql;have hlt:=h.lt64 q;have h1:=h.cb1;have hf:=h.fc q;obtain⟨x,hx⟩:=xe (ws.getD q 0);rw[<-hx] at hcc hlt ⊢;have hd:aC n (k:Int)=true:=by simp only[aC];exact decide_eq_true (by omega)
 have hq1:(k:Int)/64=(q:Int):=by omega
 have hr1:(k:Int)%64=(r:Int):=by omega
 have hkb:k<=1048576:=by omega
 have hp : 2 ^ r<2 ^ 64:=(iY r 64).2 hr64;have hy:x ^^^ 2 ^ r<2 ^ 64:=Nat.xor_lt_two_pow hlt hp;have E:bits BinOp.xor IntKind.u64 (x:Int) (2 ^ r)=((x ^^^ 2 ^ r:Nat):Int):=by
  have:=bits_xor_u64_nat x (2 ^ r) hlt hp;rw[<-this];simp
 obtain⟨y,hyd⟩:=xe (x ^^^ 2 ^ r);rw[<-hyd] at hy E ⊢;have fin:RawAt (w.setCell ⟨c,q,none⟩ (.int .u64 y)).drew b c n (ws.set q y)/\Kt (fun x=>x=c) w (w.setCell ⟨c,q,none⟩ (.int .u64 y)).drew/\(w.setCell ⟨c,q,none⟩ (.int .u64 y)).drew.heap.size=w.heap.size:=
  ⟨(h.raw.write q y hql hy).drew,((Kt.refl (fun x=>x=c) w).setCell (p:=⟨c,q,none⟩) rfl _).drew,by simp⟩
 have FIN:=aA fin;have HA:=aA h;have hw2:IntKind.u64.wrap (2 ^ r)=2 ^ r:=by
  rw[wrap_u64];have:((2:Int) ^ r)=((2 ^ r:Nat):Int):=by simp
  rw[this];obtain⟨p,hp2⟩:=xe (2 ^ r);rw[<-hp2] at hp ⊢;omega
 clear hx h hl hq hr hk fin hyd hp;go_enter func285,ntmps285;go_wp2_with (go_at_call 268;refine(kV b c n ws _ _ HA.out).mono ?_;rintro e w' ⟨rfl,rfl⟩)
 go_region
 all_goals (go_wp2;go_ret;exact⟨rfl,FIN.out⟩)
def jK(ws:List Nat)(k:Nat):List Nat:=ws.set (k/64) ((ws.getD (k/64) 0) ^^^ 2 ^ (k%64))
theorem zW(ws:List Nat)(k:Nat):(jK ws k).length=ws.length:=by simp[jK]
theorem TU(b c n:Nat)(ws:List Nat)(k:Nat)(w:World)(h:SetAt w b c n ws)(hk:k<n):
  Calls prog 285 #[.pointer (some ⟨b,0,none⟩),.int .i64 k] w fun e w'=>e=.returned (.bool true)/\SetAt w' b c n (jK ws k)/\Kt (fun x=>x=c) w w'/\w'.heap.size=w.heap.size:=by
 refine(MH b c n ws k w h hk).mono ?_;rintro e w' ⟨he,hr,hk',hs⟩;refine⟨he,hr.set ?_,hk',hs⟩;intro i hi;have hl:=h.len;by_cases e:i=k/64
 ·subst e;rw[rY _ _ _ (by omega)];exact Nat.xor_lt_two_pow (h.ok _ (by omega)) ((iY _ _).2 (by omega))
 ·rw[getD_set_ne _ _ _ _ e];exact h.ok i (by simpa using hi)
theorem MG(b c n:Nat)(ws:List Nat)(i:Int)(w:World)(h:SetAt w b c n ws)(hd:aC n i=false):
  Calls prog 285 #[.pointer (some ⟨b,0,none⟩),.int .i64 i] w fun e w'=>e=.returned (.bool false)/\w'=w:=by
 go_enter func285,ntmps285;go_wp2_with (go_at_call 268;refine(kV b c n ws _ _ h).mono ?_;rintro e w' ⟨rfl,rfl⟩)
 go_ret;exact⟨rfl,rfl⟩
theorem TT{n:Nat}{i:Int}(h:aC n i=true):∃ k:Nat,i=k/\k<n:=by
 simp[aC] at h;obtain⟨k,rfl⟩:=Int.eq_ofNat_of_zero_le h.1;exact⟨k,rfl,by omega⟩
def fO(n:Nat)(ws:List Nat)(i:Int):List Nat:=if aC n i=true then jK ws i.toNat else ws
theorem uC(b c n:Nat)(ws:List Nat)(i:Int)(w:World)(h:SetAt w b c n ws):
  Calls prog 285 #[.pointer (some ⟨b,0,none⟩),.int .i64 i] w fun e w'=>e=.returned (.bool (aC n i))/\SetAt w' b c n (fO n ws i)/\Kt (fun x=>x=c) w w'/\w'.heap.size=w.heap.size:=by
 cases hd:aC n i with
 | true=>
  obtain⟨k,rfl,hk⟩:=TT hd;refine(TU b c n ws k w h hk).mono ?_;rintro e w' ⟨he,h1⟩;simp only[fO,hd,if_true,Int.toNat_natCast];exact⟨he,h1⟩
 | false=>
  refine(MG b c n ws i w h hd).mono ?_;rintro e w' ⟨he,hw⟩;subst hw;have e1:fO n ws i=ws:=by simp[fO,hd]
  rw[e1];exact⟨he,h,Kt.refl _ _,rfl⟩
def bN(n:Nat)(ws:List Nat)(i:Int)(v:Bool):List Nat:=if cA n ws i=v then ws else fO n ws i
theorem sX(b c n:Nat)(ws:List Nat)(i:Int)(v:Bool)(w:World)(h:SetAt w b c n ws):
  Calls prog 269 #[.pointer (some ⟨b,0,none⟩),.int .i64 i,.bool v] w fun e w'=>e=.returned (.bool (aC n i))/\SetAt w' b c n (bN n ws i v)/\Kt (fun x=>x=c) w w'/\w'.heap.size=w.heap.size:=by
 by_cases hv:cA n ws i=v
 ·have ht:(cA n ws i == v)=true:=by rw[hv];simp
  have e1:bN n ws i v=ws:=by simp[bN,hv]
  rw[e1];clear e1 hv;go_enter func269,ntmps269;go_wp2_with (first|(go_at_call 222;refine(mL b c n ws _ _ h).mono ?_;rintro e w' ⟨rfl,rfl⟩)|(go_at_call 268;refine(kV b c n ws _ _ h).mono ?_;rintro e w' ⟨rfl,rfl⟩))
  go_ret;exact⟨rfl,h,Kt.refl _ _,rfl⟩
 ·have ht:(cA n ws i == v)=false:=by rw[beq_eq_false_iff_ne];exact hv
  have e1:bN n ws i v=fO n ws i:=by simp[bN,hv]
  rw[e1];clear e1 hv;go_enter func269,ntmps269;go_wp2_with (first|(go_at_call 222;refine(mL b c n ws _ _ h).mono ?_;rintro e w' ⟨rfl,rfl⟩)|(go_at_call 285;refine(uC b c n ws _ _ h).mono ?_;rintro e w' ⟨rfl,h1⟩))
  go_ret;exact⟨rfl,h1⟩
def jI(n:Nat)(ws:List Nat):List Nat:=if n%64=0 then ws else ws.set (ws.length-1) (ws.getD (ws.length-1) 0%2 ^ (n%64))
theorem tR(r:Nat):((2:Int) ^ r)=((2 ^ r:Nat):Int):=by simp
theorem vT(r:Nat)(h:r<64) : 1<=(2:Int) ^ r/\(2:Int) ^ r<18446744073709551616:=by
 have h1:=(iY r 64).2 h;have h2:=Nat.two_pow_pos r;rw[tR];obtain⟨p,hp⟩:=xe (2 ^ r);rw[<-hp] at h1 h2 ⊢;omega
theorem OM(r:Nat)(h:r<64):IntKind.u64.wrap (2 ^ r)=2 ^ r:=by
 have:=vT r h;rw[wrap_u64];omega
theorem JJ(b c n:Nat)(ws:List Nat)(w:World)(h:RawAt w b c n ws):
  Calls prog 266 #[.pointer (some ⟨b,0,none⟩)] w fun e w'=>e=.returned (.tuple #[])/\RawAt w' b c n (jI n ws)/\Kt (fun x=>x=c) w w'/\w'.heap.size=w.heap.size:=by
 have h0:=h.cb0;have hn:=h.nle;obtain⟨r,hr⟩:=xe (n%64);have hr1:(n:Int)%64=(r:Int):=by omega
 have hr64:r<64:=by omega
 by_cases hz:n%64=0
 ·have e1:jI n ws=ws:=by simp[jI,hz]
  rw[e1];have:r=0:=by omega
  subst this;clear hr e1 hz;go_enter func266,ntmps266;go_wp2
  go_end0
  exact⟨rfl,h,Kt.refl _ _,rfl⟩
 ·have hl:=h.len;obtain⟨q,hq⟩:=xe (ws.length-1);have hql:q<ws.length:=by omega
  have hcc:=h.cc q hql;have hlt:=h.lt q;have h1:=h.cb1;have hf:=h.fc q;obtain⟨x,hx⟩:=xe (ws.getD q 0);have e1:jI n ws=ws.set q (x%2 ^ r):=by simp only[jI,hz,if_false,hx,hq,hr]
  rw[e1];rw[<-hx] at hcc hlt;have hy:x%2 ^ r<2 ^ 64:=Nat.lt_of_le_of_lt (Nat.mod_le _ _) hlt;have E:bits BinOp.and IntKind.u64 (x:Int) (2 ^ r-1)=((x%2 ^ r:Nat):Int):=by
   have hp:=Nat.two_pow_pos r;have hp2:=(iY r 64).2 hr64;have:=u64_and_nat x (2 ^ r-1) hlt (by omega);rw[Nat.and_two_pow_sub_one_eq_mod] at this;rw[<-this];congr 1
   rw[tR];omega
  obtain⟨y,hyd⟩:=xe (x%2 ^ r);rw[<-hyd] at hy E ⊢;have hq1:(ws.length:Int)-1=(q:Int):=by omega
  have hpb:=vT r hr64;have hpb1:=hpb.1;have hpb2:=hpb.2;have hw:=OM r hr64;have hrn:((r:Int) != 0)=true:=by rw[bne_iff_ne];omega
  have hlm:ws.length<=1048576:=by omega
  have fin:RawAt (w.setCell ⟨c,q,none⟩ (.int .u64 y)).drew b c n (ws.set q y)/\Kt (fun x=>x=c) w (w.setCell ⟨c,q,none⟩ (.int .u64 y)).drew/\(w.setCell ⟨c,q,none⟩ (.int .u64 y)).drew.heap.size=w.heap.size:=
   ⟨(h.write q y hql hy).drew,((Kt.refl (fun x=>x=c) w).setCell (p:=⟨c,q,none⟩) rfl _).drew,by simp⟩
  have FIN:=aA fin;clear hx h hl hq hr fin hyd hpb e1 hz;go_enter func266,ntmps266;go_wp2
  go_region
  all_goals (go_wp2;go_end0;exact⟨rfl,FIN.out⟩)
def Src(w:World)(v:Value)(zs:List Nat):Prop:=
 (∀ i,zs.getD i 0<2 ^ 64)/\∃ ao cap,v=.slice ao zs.length cap/\(zs=[]\/∃ a:Addr,ao=some a/\a.block<w.heap.size/\∀ j,j<zs.length->w.cell? (a.add j)=some (.int .u64 ((zs.getD j 0:Nat):Int)))
theorem zdF(a:Addr)(j:Nat):(a.add j).block=a.block:=by unfold Addr.add;split <;> rfl
theorem Src.kept{w w':World}{S:Nat->Prop}{v:Value}{zs:List Nat}(h:Src w v zs)(k:Kt S w w')(hS:∀ b,v.ownBlock=some b->¬S b):Src w' v zs:=by
 obtain⟨h1,ao,cap,rfl,h2⟩:=h;refine⟨h1,ao,cap,rfl,?_⟩;rcases h2 with h2|⟨a,rfl,hb,hc⟩
 ·exact Or.inl h2
 ·refine Or.inr ⟨a,rfl,Nat.lt_of_lt_of_le hb k.size,fun j hj=>?_⟩;rw[<-hc j hj];exact World.cell?_of_block (by rw[zdF];exact k.block _ hb (hS a.block rfl))
def over(zs ws:List Nat):List Nat:=zs.take ws.length ++ ws.drop zs.length
theorem oS(zs ws:List Nat):(over zs ws).length=ws.length:=by simp[over];omega
theorem yT(zs ws:List Nat)(i:Nat)(hi:i<ws.length):(over zs ws).getD i 0=if i<zs.length then zs.getD i 0 else ws.getD i 0:=by
 simp only[over,List.getD,List.getElem?_append,List.length_take,List.getElem?_take,List.getElem?_drop];by_cases h:i<zs.length
 ·have h0:i<min ws.length zs.length:=by omega
  simp[h,hi,h0]
 ·have h2:¬i<min ws.length zs.length:=by omega
  simp only[h2,h,if_false];by_cases h3:zs.length<=ws.length
  ·congr 2;omega
  ·have:¬i<ws.length:=by omega
   exact absurd hi this
theorem ZS(zs ws:List Nat)(cs:List Value)(hcs:cs=(zs.take ws.length).map fun (x:Nat)=>Value.int .u64 x):((bI ws).toList.take 0 ++ cs ++ (bI ws).toList.drop (0 + cs.length)).toArray=bI (over zs ws):=by
 subst hcs;simp only[bI,over,List.take_zero,List.nil_append,Nat.zero_add,List.map_append,List.length_map,List.length_take];congr 2
 rw[<-List.map_drop];by_cases h:zs.length<=ws.length
 ·rw[Nat.min_eq_right h]
 ·rw[Nat.min_eq_left (by omega),List.drop_eq_nil_of_le (Nat.le_refl _),List.drop_eq_nil_of_le (by omega)]
theorem BP(w:World)(g:Nat)(ds:List Nat)(v:Value)(zs:List Nat)(hg:w.heap[g]?=some (.cells (bI ds) 27 (0,0)))(hs:Src w v zs):
  ∃ (k:Nat) (w2:World),(∀ ty,(Builtin.copy_ #[35,35] ty #[.slice (some ⟨g,0,none⟩) ds.length ds.length,v]).run prog w=.ok (goInt k) w2)/\w2.heap[g]?=some (.cells (bI (over zs ds)) 27 (0,0))/\Kt (fun x=>x=g) w w2/\w2.heap.size=w.heap.size:=by
 obtain⟨i,hi,hz0,hz1,hz2⟩:=info_parts xY;obtain⟨h1,ao,cap,rfl,h2⟩:=hs;rcases h2 with rfl|⟨a,rfl,hb,hc⟩
 ·refine⟨0,w,fun ty=>?_,?_,Kt.refl _ _,rfl⟩
  ·exact run_copy_none (P:=prog) w 35 35 ty 27 (some ⟨g,0,none⟩) ao ds.length ds.length 0 cap Tryz.underlying35 (by rw[hi];simp[hz1]) (Nat.zero_min _)
  ·simpa [over] using hg
 ·obtain⟨cs,hcs⟩:∃ cs:List Value,cs=(zs.take ds.length).map fun (x:Nat)=>Value.int .u64 x:=⟨_,rfl⟩
  have hlen:cs.length=min zs.length ds.length:=by rw[hcs];simp;omega
  refine⟨cs.length,w.setRow g ((bI ds).toList.take 0 ++ cs ++ (bI ds).toList.drop (0 + cs.length)).toArray,fun ty=>?_,?_,?_,by simp[World.setRow]⟩
  ·refine run_copy_row (P:=prog) w 35 35 ty 27 g 0 ds.length ds.length a zs.length cap (bI ds) 27 cs Tryz.underlying35 (by rw[hi];simp[hz1]) hg hlen ?_ ?_ ?_
   ·intro j u hj;rw[hcs] at hj;simp only[List.getElem?_map,List.getElem?_take] at hj;have hjl:j<cs.length:=by
     rcases Nat.lt_or_ge j cs.length with h|h
     ·exact h
     ·exfalso
      have:¬j<ds.length\/¬j<zs.length:=by omega
      rcases this with h3|h3
      ·simp[h3] at hj
      ·simp[Nat.not_lt.1 h3] at hj
    have h3:j<ds.length:=(by omega);have h4:j<zs.length:=(by omega);simp[h3,h4] at hj;rw[hc j h4,<-hj];simp[List.getD,h4]
   ·simp[bI];omega
   ·intro u hu;rw[hcs] at hu;obtain⟨_,_,rfl⟩:=List.mem_map.1 hu;rfl
  ·rw[setRow_heap w g (bI ds) _ 27 (0,0) hg,ZS zs ds cs hcs]
  ·exact⟨rfl,rfl,rfl,by simp[World.setRow],fun k hk hn=>setRow_other w g k _ hn⟩
def eY(zs:List Nat)(N:Nat):List Nat:=jI N (over zs (dP ((N+63)/64)))
theorem VR(n:Nat)(ws:List Nat):(jI n ws).length=ws.length:=by unfold jI;split <;> simp
theorem xG(zs:List Nat)(N:Nat):(eY zs N).length=(N+63)/64:=by rw[eY,VR,oS,lQ]
theorem uH(zs:List Nat)(m i:Nat)(hi:i<m):(over zs (dP m)).getD i 0=zs.getD i 0:=by
 rw[yT _ _ _ (by rw[lQ];exact hi),nM];split
 ·rfl
 ·simp[List.getD,Nat.not_lt.1 (by assumption)]
theorem zN(zs:List Nat)(N i:Nat)(hz:∀ i,zs.getD i 0<2 ^ 64)(hi:i<(N+63)/64):(eY zs N).getD i 0=zs.getD i 0%2 ^ (min 64 (N-64*i)):=by
 have hl:(over zs (dP ((N+63)/64))).length=(N+63)/64:=by rw[oS,lQ]
 unfold eY jI;split
 ·rename_i h0;rw[uH _ _ _ hi,Nat.min_eq_left (by omega),Nat.mod_eq_of_lt (hz i)]
 ·rename_i h0;rw[hl];by_cases e:i=(N+63)/64-1
  ·rw[<-e,rY _ _ _ (by omega),uH _ _ _ hi];congr 2
   omega
  ·rw[getD_set_ne _ _ _ _ e,uH _ _ _ hi,Nat.min_eq_left (by omega),Nat.mod_eq_of_lt (hz i)]
theorem FX(zs:List Nat)(N:Nat)(hz:∀ i,zs.getD i 0<2 ^ 64)(i:Nat)(hi:i<(eY zs N).length):(eY zs N).getD i 0<2 ^ (min 64 (N-64*i)):=by
 rw[xG] at hi;rw[zN zs N i hz hi];exact Nat.mod_lt _ (Nat.two_pow_pos _)
theorem RawAt.copied{w w2 b c n ws}(h:RawAt w b c n ws)(zs:List Nat)(hz:∀ i,zs.getD i 0<2 ^ 64)(hg:w2.heap[c]?=some (.cells (bI (over zs ws)) 27 (0,0)))(k:Kt (fun x=>x=c) w w2):RawAt w2 b c n (over zs ws):=by
 refine⟨h.ne,?_,hg,by rw[oS];exact h.len,h.nle,?_⟩
 ·rw[k.block b h.bc.1 (fun e=>h.ne e.symm),h.hb,oS]
 ·intro i;by_cases hi:i<ws.length
  ·rw[yT _ _ _ hi];split
   ·exact hz i
   ·exact h.lt i
  ·have:(over zs ws).getD i 0=0:=by simp[List.getD,oS,Nat.not_lt.1 hi]
   rw[this];decide
theorem qJ(v:Value)(zs:List Nat)(n:Int)(hlo : -9223372036854775808<=n)(hhi:n<=9223372036854775807)(w:World)(hs:Src w v zs):
  Calls prog 217 #[v,.int .i64 n] w fun e w'=>e=.returned (.pointer (some ⟨w.heap.size+1,0,none⟩))/\SetAt w' (w.heap.size+1) w.heap.size (dF n) (eY zs (dF n))/\Kt (fun _=>False) w w'/\w'.heap.size=w.heap.size+2:=by
 have HS:=aA hs;clear hs;go_enter func217,ntmps217;go_wp2_with (first|(go_at_call 116;refine(rS n hlo hhi _).mono ?_;rintro e w1 ⟨rfl,hraw,hk,hsz⟩;have h1:=hraw.cb1;obtain⟨kk,w2,hcp,hg2,hk2,hs2⟩:=BP w1 w.heap.size _ v zs hraw.hc (HS.out.kept hk (fun _ _ x=>x));have HR:=aA (hraw.copied zs HS.out.1 hg2 hk2);have HK:=aA hk;have HK2:=aA hk2;have HZ:=aA hsz;have HZ2:=aA hs2;clear hraw hk hk2 hg2 hsz hs2)|(go_at_call 266;refine(JJ _ _ _ _ _ HR.out).mono ?_;rintro e w3 ⟨rfl,hr3,hk3,hs3⟩))
 go_ret;have e1:=HZ.out;have e2:=HZ2.out;exact⟨rfl,hr3.set (FX zs _ HS.out.1),(HK.out.trans (U:=fun _=>False) HK2.out (fun _ _ x=>x) (fun x hx e=>by omega)).trans hk3 (fun _ _ x=>x) (fun x hx e=>by omega),by omega⟩
theorem tK(m:Nat)(hm:m<=1048576)(w:World):
  ∃ w1,(Instr.makeSlice 35 (.int .i64 m) (.int .i64 m)).run prog w=.ok (.slice (some ⟨w.heap.size,0,none⟩) m m) w1/\w1.heap[w.heap.size]?=some (.cells (bI (dP m)) 27 (0,0))/\Kt (fun _=>False) w w1/\w1.heap.size=w.heap.size+1:=
 ⟨_,rN m hm w,nH _ _,(Kt.refl _ w).alloc _,by simp⟩
theorem AJ{w:World}{g:Nat}{zs:List Nat}(hg:w.heap[g]?=some (.cells (bI zs) 27 (0,0)))(hz:∀ i,zs.getD i 0<2 ^ 64)(cap:Nat):Src w (.slice (some ⟨g,0,none⟩) zs.length cap) zs:=by
 refine⟨hz,some ⟨g,0,none⟩,cap,rfl,Or.inr ⟨⟨g,0,none⟩,rfl,(Array.getElem?_eq_some_iff.1 hg).1,fun j hj=>?_⟩⟩;rw[Addr.add_lit];simp[World.cell?,hg,bI,hj]
theorem AI(zs ws:List Nat)(h:zs.length=ws.length):over zs ws=zs:=by
 simp[over,h];rw[<-h,List.take_of_length_le (Nat.le_refl _)]
theorem YC(b c n:Nat)(ws:List Nat)(w:World)(h:SetAt w b c n ws):
  Calls prog 89 #[.pointer (some ⟨b,0,none⟩)] w fun e w'=>e=.returned (.slice (some ⟨w.heap.size,0,none⟩) ws.length ws.length)/\w'.heap[w.heap.size]?=some (.cells (bI ws) 27 (0,0))/\Kt (fun _=>False) w w'/\w'.heap.size=w.heap.size+1:=by
 have hl:=h.len;have hn:=h.nle;obtain⟨w1,hmk,hg1,hk1,hs1⟩:=tK ws.length (by omega) w;have h1:=h.cb1;have hA1:=h.kept hk1 (fun x=>x) (fun x=>x);have h11:=hA1.cb1;obtain⟨kk,w2,hcp,hg2,hk2,hs2⟩:=BP w1 w.heap.size (dP ws.length) (.slice (some ⟨c,0,none⟩) ws.length ws.length) ws hg1 (AJ hA1.hc hA1.lt64 _);rw[AI ws (dP ws.length) (lQ _).symm] at hg2;rw[lQ] at hcp;have hlm:ws.length<=1048576:=by omega
 have FIN:=aA (show w2.heap[w.heap.size]?=some (.cells (bI ws) 27 (0,0))/\Kt (fun _=>False) w w2/\w2.heap.size=w.heap.size+1 from⟨hg2,hk1.trans hk2 (fun _ _ x=>x) (fun x hx e=>by omega),by omega⟩);clear h hA1 hk1 hk2 hg1 hg2 hs1 hs2 hl;go_enter func89,ntmps89;go_wp2
 go_ret;exact⟨rfl,FIN.out⟩
def lK(ws:List Nat)(k:Nat):Nat:=((List.range k).map fun i=>cnt (ws.getD i 0)).sum
theorem uJ(ws:List Nat)(k:Nat):lK ws (k+1)=lK ws k+cnt (ws.getD k 0):=by
 simp[lK,List.range_succ]
theorem TH(ws:List Nat)(hz:∀ i,ws.getD i 0<2 ^ 64)(k:Nat):lK ws k<=64*k:=by
 induction k with
 | zero=>simp[lK]
 | succ k ih=>rw[uJ];have:=wF (ws.getD k 0) (hz k);omega
def aT(ws:List Nat):Nat:=lK ws ws.length
theorem rO(b c n:Nat)(ws:List Nat)(w:World)(h:SetAt w b c n ws):
  Calls prog 218 #[.pointer (some ⟨b,0,none⟩)] w fun e w'=>e=.returned (.int .i64 (aT ws))/\w'=w:=by
 have hl:=h.len;have hn:=h.nle;have hlm:ws.length<=1048576:=by omega
 have h1:=h.cb1;have HA:=aA h;clear h hl hn;go_enter func218,ntmps218;go_wp2
 go_loop [3,11] (fun t i=>∃ k:Nat,k<=ws.length/\i=.int .i64 k/\t=.int .i64 (lK ws k)) (fun _ i=>ws.length-(intOf i).toNat)
 case atStart=>exact⟨0,by omega,rfl,rfl⟩
 case round=>
  obtain⟨k,hk,rfl,rfl⟩:=hrel;by_cases hlt:k<ws.length
  ·have hcc:=HA.out.cc k hlt;have hx:=HA.out.lt64 k;have hb:=TH ws HA.out.lt64 k;have hc:=wF (ws.getD k 0) hx;have hs:=aA (uJ ws k);obtain⟨x,hxd⟩:=xe (ws.getD k 0);rw[<-hxd] at hcc hx hc hs;clear hxd;go_wp2_with (go_at_call 267;refine(RU x hx _).mono ?_;rintro e w' ⟨rfl,rfl⟩)
   go_round
   case rel=>exact⟨k+1,by omega,by go_num,by rw[hs.out];go_num⟩
   case measure=>simp[intOf];omega
  ·go_wp2
   go_ret;have:k=ws.length:=by omega
   subst this;exact⟨rfl,rfl⟩
theorem SetAt.stored{w:World}{b c n ws b' c' n' ws'}(hB:SetAt w b c n ws)(hA:SetAt w b' c' n' ws')(hne:c'≠b):
  SetAt ((w.setCell ⟨b,0,none⟩ (.int .i64 n')).setCell ⟨b,1,none⟩ (.slice (some ⟨c',0,none⟩) ws'.length ws'.length)) b c' n' ws':=by
 refine⟨hne,?_,?_,hA.len,hA.nle,hA.ok⟩
 ·simp[World.setCell,Array.getElem?_modify,hB.hb]
 ·rw[Below.heap_setCell _ _ _ _ hne,Below.heap_setCell _ _ _ _ hne];exact hA.hc
theorem YK(b c n:Nat)(ws:List Nat)(i:Int)(hlo : -9223372036854775808<=i)(hhi:i<=9223372036854775807)(w:World)(h:SetAt w b c n ws):
  Calls prog 288 #[.pointer (some ⟨b,0,none⟩),.int .i64 i] w fun e w'=>e=.returned (.tuple #[])/\SetAt w' b w.heap.size (dF i) (eY ws (dF i))/\Kt (fun x=>x=b) w w'/\w'.heap.size=w.heap.size+2:=by
 have h1:=h.cb1;have HA:=aA h;have HS:=aA (AJ h.hc h.lt64 ws.length);clear h;go_enter func288,ntmps288;go_wp2_with (go_at_call 217;refine(qJ _ ws i hlo hhi _ HS.out).mono ?_;rintro e w1 ⟨rfl,hA1,hk1,hs1⟩;have g0:=hA1.cb0;have g1:=hA1.cb1;have hB:=HA.out.kept hk1 (fun x=>x) (fun x=>x);have b0:=hB.cb0;have b1:=hB.cb1;have f0:=hB.fb 0;have f1:=hB.fb 1;have HA1:=aA hA1;have HB:=aA hB;have HK:=aA hk1;have HZ:=aA hs1;clear hA1 hB hk1 hs1)
 go_end0
 have hb:=HA.out.raw.bc;have hz:=HZ.out;refine⟨rfl,HB.out.stored HA1.out (by omega),?_,by simp;omega⟩;exact((HK.out.mono (T:=fun x=>x=b) (fun _ _ x=>x.elim)).setCell (p:=⟨b,0,none⟩) rfl _).setCell (p:=⟨b,1,none⟩) rfl _
def nO:Nat->Prop:=fun _=>False
theorem nT{a b c:World}(h:Kt nO a b)(k:Kt nO b c):Kt nO a c:=h.trans k (fun _ _ x=>x) (fun _ _ x=>x)
theorem Kt.setNew{S:Nat->Prop}{a b:World}(h:Kt S a b){p:Addr}(hp:p.block<a.heap.size->S p.block)(u:Value):Kt S a (b.setCell p u):=
 ⟨h.os,h.tape,h.output,by simp;exact h.size,fun i hi hU=>by rw[Below.heap_setCell b p u i (fun e=>hU (by rw[e];exact hp (e▸hi)))];exact h.block i hi hU⟩
theorem Kt.drewN{S:Nat->Prop}{a b:World}(h:Kt S a b)(n:Nat):Kt S a (b.drewN n):=⟨h.os,h.tape,h.output,h.size,h.block⟩
theorem uK{w:World}{p:Addr}{v:Value}(h:w.cell? p=some v):p.block<w.heap.size:=by
 rcases Nat.lt_or_ge p.block w.heap.size with h1|h1
 ·exact h1
 ·exfalso
  simp[World.cell?,Array.getElem?_eq_none h1] at h
theorem Kt.cell{S:Nat->Prop}{a b:World}(h:Kt S a b){p:Addr}{v:Value}(hp:¬S p.block)(hc:a.cell? p=some v):b.cell? p=some v:=by
 rw[<-hc];exact World.cell?_of_block (h.block _ (uK hc) hp)
theorem heap_set{w:World}{k:Nat}{cs:Array Value}{t:TypeId}{z:Nat×Nat}(h:w.heap[k]?=some (.cells cs t z))(i:Nat)(u:Value):(w.setCell ⟨k,i,none⟩ u).heap[k]?=some (.cells (cs.setIfInBounds i u) t z):=by
 obtain⟨hlt,hk⟩:=Array.getElem?_eq_some_iff.1 h;show(w.heap.modify k _)[k]?=_
 rw[Array.getElem?_eq_getElem (by rw[Array.size_modify];exact hlt),Array.getElem_modify_self,hk];rfl
theorem lH{w:World}{k:Nat}{o:Obj}(h:w.heap[k]?=some o):k<w.heap.size:=(Array.getElem?_eq_some_iff.1 h).1
theorem yY(w:World)(A B:Obj):((w.alloc A).alloc B).heap[w.heap.size+1]?=some B:=by
 have:=nH (w.alloc A) B;rwa [World.size_alloc] at this
theorem bT{w:World}{x y:Nat}{c d:Array Value}{s t:TypeId}{z u:Nat×Nat}(h:w.heap[x]?=some (.cells c s z))(k:w.heap[y]?=some (.cells d t u))(hst:s≠t):x≠y:=by
 rintro rfl;rw[h] at k
 cases k
 exact hst rfl
def dC(ao:Option Nat):Option Addr:=ao.map fun g=>⟨g,0,none⟩
structure Pg where
 kd:Int
 od:Int
 cl:Int
 lv:Int
 nx:Int
 pv:Int
 fs:Int
 b0:Nat
 b1:Nat
 b2:Nat
 b3:Nat
deriving DecidableEq
def Pg.fld(p:Pg):Nat->Value
 | 0=>.int .i64 p.kd
 | 1=>.int .i64 p.od
 | 2=>.int .i64 p.cl
 | 3=>.int .i64 p.lv
 | 4=>.int .i64 p.nx
 | 5=>.int .i64 p.pv
 | 6=>.int .i64 p.fs
 | 7=>.int .u64 p.b0
 | 8=>.int .u64 p.b1
 | 9=>.int .u64 p.b2
 | _=>.int .u64 p.b3
def aN(k o:Int):Pg:=⟨k,o,0,0,-1,-1,-1,0,0,0,0⟩
def aR:Pg:=⟨0,0,0,0,0,0,0,0,0,0,0⟩
def aU(w:World)(g n:Nat)(c:Nat->Nat->Value):Prop:=
 ∃ cs:Array Value,w.heap[g]?=some (.cells cs 99 (0,0))/\cs.size=n*11/\∀ i,i<n->∀ j,j<11->cs[i*11+j]?=some (c i j)
def bH(w:World)(g n:Nat)(pg:Nat->Pg):Prop:=aU w g n (fun i j=>(pg i).fld j)
def kM(c:Nat->Nat->Value)(i j:Nat)(v:Value):Nat->Nat->Value:=fun a b=>if a=i/\b=j then v else c a b
def aJ(pg:Nat->Pg)(i:Nat)(p:Pg):Nat->Pg:=fun a=>if a=i then p else pg a
theorem aU.lt{w g n c}(h:aU w g n c):g<w.heap.size:=by
 obtain⟨cs,hg,_⟩:=h;exact lH hg
theorem aU.set{w g n c}(h:aU w g n c)(i j:Nat)(hi:i<n)(hj:j<11)(v:Value):aU (w.setCell ⟨g,i*11+j,none⟩ v) g n (kM c i j v):=by
 obtain⟨cs,hg,hs,hc⟩:=h;refine⟨_,heap_set hg _ _,by simpa using hs,fun a ha b hb=>?_⟩;rw[Array.getElem?_setIfInBounds];unfold kM;by_cases e:a=i/\b=j
 ·obtain⟨rfl,rfl⟩:=e;rw[if_pos rfl,if_pos (by omega),if_pos ⟨rfl,rfl⟩]
 ·rw[if_neg (by omega),if_neg e];exact hc a ha b hb
theorem aU.kept{w w' g n c}{S:Nat->Prop}(h:aU w g n c)(k:Kt S w w')(hS:¬S g):aU w' g n c:=by
 obtain⟨cs,hg,hs,hc⟩:=h;exact⟨cs,(k.block g (lH hg) hS).trans hg,hs,hc⟩
theorem aU.congr{w g n c c'}(h:aU w g n c)(he:∀ i,i<n->∀ j,j<11->c i j=c' i j):aU w g n c':=by
 obtain⟨cs,hg,hs,hc⟩:=h;exact⟨cs,hg,hs,fun i hi j hj=>(hc i hi j hj).trans (congrArg some (he i hi j hj))⟩
theorem bH.kept{w w' g n pg}{S:Nat->Prop}(h:bH w g n pg)(k:Kt S w w')(hS:¬S g):bH w' g n pg:=aU.kept h k hS
theorem bH.congr{w g n pg pg'}(h:bH w g n pg)(he:∀ i,i<n->pg i=pg' i):bH w g n pg':=aU.congr h (fun i hi j _=>by rw[he i hi])
theorem bH.cell{w g n pg}(h:bH w g n pg)(i:Nat)(hi:i<n):
  w.cell? ⟨g,i*11,none⟩=some (.int .i64 (pg i).kd)/\w.cell? ⟨g,i*11+1,none⟩=some (.int .i64 (pg i).od)/\w.cell? ⟨g,i*11+2,none⟩=some (.int .i64 (pg i).cl)/\w.cell? ⟨g,i*11+3,none⟩=some (.int .i64 (pg i).lv)/\w.cell? ⟨g,i*11+4,none⟩=some (.int .i64 (pg i).nx)/\w.cell? ⟨g,i*11+5,none⟩=some (.int .i64 (pg i).pv)/\w.cell? ⟨g,i*11+6,none⟩=some (.int .i64 (pg i).fs)/\w.cell? ⟨g,i*11+7,none⟩=some (.int .u64 ((pg i).b0:Int))/\w.cell? ⟨g,i*11+8,none⟩=some (.int .u64 ((pg i).b1:Int))/\w.cell? ⟨g,i*11+9,none⟩=some (.int .u64 ((pg i).b2:Int))/\w.cell? ⟨g,i*11+10,none⟩=some (.int .u64 ((pg i).b3:Int)):=by
 obtain⟨cs,hg,_,hc⟩:=h;have key:∀ j,j<11->w.cell? ⟨g,i*11+j,none⟩=some ((pg i).fld j):=fun j hj=>by
  have:=hc i hi j hj;simpa [World.cell?,hg] using this
 exact⟨key 0 (by decide),key 1 (by decide),key 2 (by decide),key 3 (by decide),key 4 (by decide),key 5 (by decide),key 6 (by decide),key 7 (by decide),key 8 (by decide),key 9 (by decide),key 10 (by decide)⟩
theorem aU.froz{w g n c}(h:aU w g n c)(i:Nat):w.frozen? ⟨g,i,none⟩=false:=by
 obtain⟨cs,hg,_,hc⟩:=h;simp[World.frozen?,hg]
abbrev cY(w:World)(g i:Nat)(p:Pg):World:=
 ((((((((((w.setCell ⟨g,i*11,none⟩ (.int .i64 p.kd)).setCell ⟨g,i*11+1,none⟩ (.int .i64 p.od)).setCell ⟨g,i*11+2,none⟩ (.int .i64 p.cl)).setCell ⟨g,i*11+3,none⟩ (.int .i64 p.lv)).setCell ⟨g,i*11+4,none⟩ (.int .i64 p.nx)).setCell ⟨g,i*11+5,none⟩ (.int .i64 p.pv)).setCell ⟨g,i*11+6,none⟩ (.int .i64 p.fs)).setCell ⟨g,i*11+7,none⟩ (.int .u64 p.b0)).setCell ⟨g,i*11+8,none⟩ (.int .u64 p.b1)).setCell ⟨g,i*11+9,none⟩ (.int .u64 p.b2)).setCell ⟨g,i*11+10,none⟩ (.int .u64 p.b3)
theorem pK(w:World)(g i:Nat)(p:Pg):Kt (fun x=>x=g) w (cY w g i p):=
 ((((((((((((Kt.refl (fun x=>x=g) w).setCell (p:=⟨g,_,none⟩) rfl _).setCell (p:=⟨g,_,none⟩) rfl _).setCell (p:=⟨g,_,none⟩) rfl _).setCell (p:=⟨g,_,none⟩) rfl _).setCell (p:=⟨g,_,none⟩) rfl _).setCell (p:=⟨g,_,none⟩) rfl _).setCell (p:=⟨g,_,none⟩) rfl _).setCell (p:=⟨g,_,none⟩) rfl _).setCell (p:=⟨g,_,none⟩) rfl _).setCell (p:=⟨g,_,none⟩) rfl _).setCell (p:=⟨g,_,none⟩) rfl _)
theorem qK{c:Nat->Nat->Value}{pg:Nat->Pg}{i:Nat}{p:Pg}(a b:Nat)(hb:b<11)(h:∀ j,j<11->c i j=p.fld j)(h2:a≠i->c a b=(pg a).fld b):c a b=(aJ pg i p a).fld b:=by
 unfold aJ;by_cases e:a=i
 ·rw[if_pos e,e];exact h b hb
 ·rw[if_neg e];exact h2 e
theorem jR{P:Nat->Prop}(h0:P 0)(h1:P 1)(h2:P 2)(h3:P 3)(h4:P 4)(h5:P 5)(h6:P 6)(h7:P 7)(h8:P 8)(h9:P 9)(h10:P 10):∀ j,j<11->P j
 | 0,_=>h0 | 1,_=>h1 | 2,_=>h2 | 3,_=>h3 | 4,_=>h4 | 5,_=>h5 | 6,_=>h6 | 7,_=>h7 | 8,_=>h8 | 9,_=>h9 | 10,_=>h10
 | _+11,h=>absurd h (by omega)
theorem bH.put{w g n pg}(h:bH w g n pg)(i:Nat)(hi:i<n)(p:Pg):bH (cY w g i p) g n (aJ pg i p):=by
 have:=((((((((((aU.set h i 0 hi (by decide) (.int .i64 p.kd)).set i 1 hi (by decide) (.int .i64 p.od)).set i 2 hi (by decide) (.int .i64 p.cl)).set i 3 hi (by decide) (.int .i64 p.lv)).set i 4 hi (by decide) (.int .i64 p.nx)).set i 5 hi (by decide) (.int .i64 p.pv)).set i 6 hi (by decide) (.int .i64 p.fs)).set i 7 hi (by decide) (.int .u64 p.b0)).set i 8 hi (by decide) (.int .u64 p.b1)).set i 9 hi (by decide) (.int .u64 p.b2)).set i 10 hi (by decide) (.int .u64 p.b3);refine aU.congr this (fun a ha b hb=>qK a b hb (fun j hj=>?_) (fun e=>?_))
 ·revert j
  apply jR <;> simp[kM,Pg.fld]
 ·simp[kM,e]
structure Mp where
 o:Nat
 n:Nat
 pg:Nat->Pg
 wd:Nat->List Nat
structure Bs where
 g:Option Nat
 P:Option Nat
 S:Nat->Nat
 C:Nat->Nat
def mW(w:World)(P:Option Nat)(o cq:Nat)(S:Nat->Nat):Prop:=
 match P with
 | none=>o=0/\cq=0
 | some q=>∃ cs:Array Value,w.heap[q]?=some (.cells cs 150 (0,0))/\cs.size=cq/\o<=cq/\∀ k,k<o->cs[k]?=some (.pointer (some ⟨S k,0,none⟩))
def Rows(w:World)(g:Option Nat)(n:Nat)(pg:Nat->Pg):Prop:=
 match g with
 | none=>n=0
 | some q=>bH w q n pg
structure PgOk(p:Pg):Prop where
 o0 : 0<=p.od
 o8:p.od<=8
 c0 : 0<=p.cl
 c7:p.cl<=7
 b0:p.b0<18446744073709551616
 b1:p.b1<18446744073709551616
 b2:p.b2<18446744073709551616
 b3:p.b3<18446744073709551616
theorem PgOk.blank(k o:Int)(h0 : 0<=o)(h8:o<=8):PgOk (aN k o):=⟨h0,h8,Int.le_refl 0,by show(0:Int)<=7;decide,by show 0<_;decide,by show 0<_;decide,by show 0<_;decide,by show 0<_;decide⟩
theorem PgOk.zero:PgOk aR:=by constructor <;> decide
structure MpA(w:World)(b:Nat)(B:Bs)(m:Mp):Prop where
 o8:m.o<=8
 n1:m.n<=1024
 dv:∃ r,m.n=r*2 ^ m.o
 hb:∃ cq,w.heap[b]?=some (.cells #[.int .i64 m.o,.slice (dC B.g) m.n m.n,.slice (dC B.P) m.o cq] 149 (0,0))/\mW w B.P m.o cq B.S
 row:Rows w B.g m.n m.pg
 set:∀ k,k<m.o->SetAt w (B.S k) (B.C k) (m.n/2 ^ (k+1)) (m.wd k)
 injS:∀ j k,j<m.o->k<m.o->B.S j=B.S k->j=k
 injC:∀ j k,j<m.o->k<m.o->B.C j=B.C k->j=k
 ok:∀ i,i<m.n->PgOk (m.pg i)
def aM(b:Nat)(B:Bs)(o:Nat):Nat->Prop:=fun x=>x=b\/B.g=some x\/B.P=some x\/∃ k,k<o/\(x=B.S k\/x=B.C k)
theorem mW.kept{w w' P o cq S}{T:Nat->Prop}(h:mW w P o cq S)(k:Kt T w w')(hS:∀ x,P=some x->¬T x):mW w' P o cq S:=by
 cases P with
 | none=>exact h
 | some q=>
  obtain⟨cs,hg,h2,h3,h4⟩:=h;exact⟨cs,(k.block q (lH hg) (hS q rfl)).trans hg,h2,h3,h4⟩
theorem Rows.kept{w w' g n pg}{T:Nat->Prop}(h:Rows w g n pg)(k:Kt T w w')(hS:∀ x,g=some x->¬T x):Rows w' g n pg:=by
 cases g with
 | none=>exact h
 | some q=>exact bH.kept h k (hS q rfl)
theorem MpA.kept{w w' b B m}{T:Nat->Prop}(h:MpA w b B m)(k:Kt T w w')(hS:∀ x,aM b B m.o x->¬T x):MpA w' b B m:=by
 obtain⟨cq,hb,hp⟩:=h.hb;exact⟨h.o8,h.n1,h.dv,⟨cq,(k.block b (lH hb) (hS b (.inl rfl))).trans hb,hp.kept k (fun x e=>hS x (.inr (.inr (.inl e))))⟩,h.row.kept k (fun x e=>hS x (.inr (.inl e))),fun i hi=>(h.set i hi).kept k (hS _ (.inr (.inr (.inr ⟨i,hi,.inl rfl⟩)))) (hS _ (.inr (.inr (.inr ⟨i,hi,.inr rfl⟩)))),h.injS,h.injC,h.ok⟩
theorem MpA.keep{w w' b B m}(h:MpA w b B m)(k:Kt nO w w'):MpA w' b B m:=h.kept k (fun _ _ x=>x)
theorem MpA.own_lt{w b B m}(h:MpA w b B m)(x:Nat)(hx:aM b B m.o x):x<w.heap.size:=by
 obtain⟨cq,hb,hp⟩:=h.hb;rcases hx with rfl|hx|hx|⟨k,hk,rfl|rfl⟩
 ·exact lH hb
 ·have:=h.row;rw[hx] at this;exact aU.lt this
 ·rw[hx] at hp;obtain⟨cs,hg,_⟩:=hp;exact lH hg
 ·exact lH (h.set k hk).hb
 ·exact lH (h.set k hk).hc
theorem MpA.cb{w b B m}(h:MpA w b B m):∃ cq,w.cell? ⟨b,0,none⟩=some (.int .i64 m.o)/\w.cell? ⟨b,1,none⟩=some (.slice (dC B.g) m.n m.n)/\w.cell? ⟨b,2,none⟩=some (.slice (dC B.P) m.o cq):=by
 obtain⟨cq,hb,_⟩:=h.hb;exact⟨cq,by simp[World.cell?,hb],by simp[World.cell?,hb],by simp[World.cell?,hb]⟩
theorem MpA.c0{w b B m}(h:MpA w b B m):w.cell? ⟨b,0,none⟩=some (.int .i64 m.o):=by
 obtain⟨cq,hb,_⟩:=h.hb;simp[World.cell?,hb]
theorem MpA.c1{w b B m}{g:Nat}(h:MpA w b B m)(hg:B.g=some g):w.cell? ⟨b,1,none⟩=some (.slice (some ⟨g,0,none⟩) m.n m.n):=by
 obtain⟨cq,hb,_⟩:=h.hb;simp[World.cell?,hb,hg,dC]
theorem MpA.bz{w b B m}(h:MpA w b B m)(i:Nat):w.frozen? ⟨b,i,none⟩=false:=by
 obtain⟨cq,hb,_⟩:=h.hb;simp[World.frozen?,hb]
theorem MpA.cp{w b B m}(h:MpA w b B m)(k:Nat)(hk:k<m.o):∃ q,B.P=some q/\w.cell? ⟨q,k,none⟩=some (.pointer (some ⟨B.S k,0,none⟩)):=by
 obtain⟨cq,hb,hp⟩:=h.hb
 cases hP:B.P with
 | none=>
  rw[hP] at hp;obtain⟨h1,_⟩:=hp;omega
 | some q=>
  rw[hP] at hp;obtain⟨cs,hg,h2,h3,h4⟩:=hp;exact⟨q,rfl,by simp[World.cell?,hg,h4 k hk]⟩
theorem MpA.has_row{w b B m}(h:MpA w b B m)(hn : 0<m.n):∃ g,B.g=some g/\bH w g m.n m.pg:=by
 have hr:=h.row
 cases hg:B.g with
 | none=>
  rw[hg] at hr;have:m.n=0:=hr;omega
 | some q=>
  rw[hg] at hr;exact⟨q,rfl,hr⟩
theorem MpA.pages{w w' b B m g pg'}(h:MpA w b B m)(hg:B.g=some g)(k:Kt (fun x=>x=g) w w')(hr:bH w' g m.n pg')(ok:∀ i,i<m.n->PgOk (pg' i)):MpA w' b B { m with pg:=pg' }:=by
 obtain⟨cq,hb,hp⟩:=h.hb;have hrow:=h.row;rw[hg] at hrow;obtain⟨cs,hgb,_⟩:=hrow;refine⟨h.o8,h.n1,h.dv,⟨cq,(k.block b (lH hb) (bT hb hgb (by decide))).trans hb,hp.kept k (fun x e=>?_)⟩,?_,fun i hi=>(h.set i hi).kept k (bT (h.set i hi).hb hgb (by decide)) (bT (h.set i hi).hc hgb (by decide)),h.injS,h.injC,ok⟩
 ·rw[e] at hp;obtain⟨ds,hq,_⟩:=hp;exact bT hq hgb (by decide)
 ·show Rows w' B.g m.n pg'
  rw[hg];exact hr
abbrev cC(p:Pg):Value:=.agg #[.int .i64 p.kd,.int .i64 p.od,.int .i64 p.cl,.int .i64 p.lv,.int .i64 p.nx,.int .i64 p.pv,.int .i64 p.fs,.int .u64 p.b0,.int .u64 p.b1,.int .u64 p.b2,.int .u64 p.b3]
abbrev aI(p:Pg):Obj:=.cells #[.int .i64 p.kd,.int .i64 p.od,.int .i64 p.cl,.int .i64 p.lv,.int .i64 p.nx,.int .i64 p.pv,.int .i64 p.fs,.int .u64 p.b0,.int .u64 p.b1,.int .u64 p.b2,.int .u64 p.b3] 99
theorem eR(b:Nat)(B:Bs)(m:Mp)(i:Int)(w:World)(h:MpA w b B m):
  Calls prog 111 #[.pointer (some ⟨b,0,none⟩),.int .i64 i] w fun e w'=>e=.returned (.bool (aC m.n i))/\w'=w:=by
 obtain⟨cq,c0,c1,c2⟩:=h.cb;clear h;by_cases h0 : 0<=i
 ·have hd:aC m.n i=decide (i<(m.n:Int)):=by simp[aC,h0]
  rw[hd];go_enter func111,ntmps111;go_wp2
  go_ret;exact⟨rfl,rfl⟩
 ·have hd:aC m.n i=false:=by simp[aC];omega
  rw[hd];go_enter func111,ntmps111;go_wp2
  go_ret;exact⟨rfl,rfl⟩
theorem tW(b:Nat)(B:Bs)(m:Mp)(w:World)(h:MpA w b B m):
  Calls prog 71 #[.pointer (some ⟨b,0,none⟩)] w fun e w'=>e=.returned (.int .i64 m.n)/\w'=w:=by
 obtain⟨cq,c0,c1,c2⟩:=h.cb;clear h;go_enter func71,ntmps71;go_wp2
 go_ret;exact⟨rfl,rfl⟩
theorem kS{w:World}{x:Nat}{p:Pg}(h:w.heap[x]?=some (aI p)):w.cell? ⟨x,0,none⟩=some (.int .i64 p.kd)/\w.cell? ⟨x,1,none⟩=some (.int .i64 p.od)/\w.cell? ⟨x,2,none⟩=some (.int .i64 p.cl)/\w.cell? ⟨x,3,none⟩=some (.int .i64 p.lv)/\w.cell? ⟨x,4,none⟩=some (.int .i64 p.nx)/\w.cell? ⟨x,5,none⟩=some (.int .i64 p.pv)/\w.cell? ⟨x,6,none⟩=some (.int .i64 p.fs)/\w.cell? ⟨x,7,none⟩=some (.int .u64 p.b0)/\w.cell? ⟨x,8,none⟩=some (.int .u64 p.b1)/\w.cell? ⟨x,9,none⟩=some (.int .u64 p.b2)/\w.cell? ⟨x,10,none⟩=some (.int .u64 p.b3):=by
 refine⟨?_,?_,?_,?_,?_,?_,?_,?_,?_,?_,?_⟩ <;> simp[World.cell?,h]
theorem pZ{w:World}{x:Nat}{p:Pg}(h:w.heap[x]?=some (aI p))(i:Nat):w.frozen? ⟨x,i,none⟩=false:=by simp[World.frozen?,h]
abbrev vD(w:World)(x:Nat)(p:Pg):World:=(((((((((((w.setCell ⟨x,0,none⟩ (.int .i64 p.kd)).setCell ⟨x,1,none⟩ (.int .i64 p.od)).setCell ⟨x,2,none⟩ (.int .i64 p.cl)).setCell ⟨x,3,none⟩ (.int .i64 p.lv)).setCell ⟨x,4,none⟩ (.int .i64 p.nx)).setCell ⟨x,5,none⟩ (.int .i64 p.pv)).setCell ⟨x,6,none⟩ (.int .i64 p.fs)).setCell ⟨x,7,none⟩ (.int .u64 p.b0)).setCell ⟨x,8,none⟩ (.int .u64 p.b1)).setCell ⟨x,9,none⟩ (.int .u64 p.b2)).setCell ⟨x,10,none⟩ (.int .u64 p.b3))
theorem zH{S:Nat->Prop}{a w:World}(h:Kt S a w)(x:Nat)(hx:x<a.heap.size->S x)(p:Pg):Kt S a (vD w x p):=(((((((((((h.setNew (p:=⟨x,0,none⟩) hx _).setNew (p:=⟨x,1,none⟩) hx _).setNew (p:=⟨x,2,none⟩) hx _).setNew (p:=⟨x,3,none⟩) hx _).setNew (p:=⟨x,4,none⟩) hx _).setNew (p:=⟨x,5,none⟩) hx _).setNew (p:=⟨x,6,none⟩) hx _).setNew (p:=⟨x,7,none⟩) hx _).setNew (p:=⟨x,8,none⟩) hx _).setNew (p:=⟨x,9,none⟩) hx _).setNew (p:=⟨x,10,none⟩) hx _)
theorem pL(k o:Int)(w:World):
  Calls prog 246 #[.int .i64 k,.int .i64 o] w fun e w'=>e=.returned (cC (aN k o))/\w'=w.alloc (aI (aN k o)):=by
 go_enter func246,ntmps246;go_wp2
 exact⟨rfl,_,by simp[results,results246,go_sem,aN],rfl,rfl⟩
def cF(m:Mp)(i:Int):Pg:=if aC m.n i=true then m.pg i.toNat else aR
theorem gM{n:Nat}{i:Int}(h:aC n i=true):∃ k:Nat,i=k/\k<n:=by
 have hi0 : 0<=i/\i<(n:Int):=by simpa [aC] using h
 obtain⟨k,rfl⟩:=Int.eq_ofNat_of_zero_le hi0.1;exact⟨k,rfl,by omega⟩
theorem dI{n k:Nat}(h:k<n):aC n (k:Int)=true:=by simp[aC];omega
theorem qI(b:Nat)(B:Bs)(m:Mp)(i:Int)(w:World)(h:MpA w b B m)(hi:aC m.n i=false):
  Calls prog 72 #[.pointer (some ⟨b,0,none⟩),.int .i64 i] w fun e w'=>e=.returned (.tuple #[cC aR,.bool false])/\Kt nO w w':=by
 have K0:=aA ((Kt.refl nO w).alloc (aI aR));have HM:=aA (h.keep K0.out);have X0:=aA (nH w (aI aR));have HI:=aA hi;clear h hi;go_enter func72,ntmps72;go_wp2_with fail;refine(eR b B m i _ HM.out).mono ?_;rintro e w1 ⟨rfl,hw1⟩;rw[show(w.alloc (aI aR))=w1 from hw1.symm] at K0 HM X0;rw[HI.out];clear hw1;obtain⟨x0,x1,x2,x3,x4,x5,x6,x7,x8,x9,x10⟩:=kS X0.out;have z:=pZ X0.out;go_wp2_with fail;exact⟨rfl,_,by simp[results,results72,go_sem,aR,x0,x1,x2,x3,x4,x5,x6,x7,x8,x9,x10],rfl,zH (p:=aR) K0.out _ (fun h=>absurd h (Nat.lt_irrefl _))⟩
theorem mD(b:Nat)(B:Bs)(m:Mp)(k:Nat)(w:World)(h:MpA w b B m)(hk:k<m.n):
  Calls prog 72 #[.pointer (some ⟨b,0,none⟩),.int .i64 k] w fun e w'=>e=.returned (.tuple #[cC (m.pg k),.bool true])/\Kt nO w w':=by
 have K0:=aA ((Kt.refl nO w).alloc (aI aR));have HM:=aA (h.keep K0.out);have X0:=aA (nH w (aI aR));have HI:=aA (dI hk);clear h;go_enter func72,ntmps72;go_wp2_with fail;refine(eR b B m k _ HM.out).mono ?_;rintro e w1 ⟨rfl,hw1⟩;rw[show(w.alloc (aI aR))=w1 from hw1.symm] at K0 HM X0;rw[HI.out];clear hw1;obtain⟨g,hg,hr⟩:=HM.out.has_row (by omega);obtain⟨d0,d1,d2,d3,d4,d5,d6,d7,d8,d9,d10⟩:=hr.cell k hk;have c1:=HM.out.c1 hg;have hki:(k:Int)<m.n:=by omega
 obtain⟨x0,x1,x2,x3,x4,x5,x6,x7,x8,x9,x10⟩:=kS X0.out;have z:=pZ X0.out;clear hr hg;go_wp2_with fail;exact⟨rfl,_,by simp[results,results72,go_sem,x0,x1,x2,x3,x4,x5,x6,x7,x8,x9,x10],rfl,zH (p:=m.pg k) K0.out _ (fun h=>absurd h (Nat.lt_irrefl _))⟩
theorem jA(b:Nat)(B:Bs)(m:Mp)(i:Int)(w:World)(h:MpA w b B m):
  Calls prog 72 #[.pointer (some ⟨b,0,none⟩),.int .i64 i] w fun e w'=>e=.returned (.tuple #[cC (cF m i),.bool (aC m.n i)])/\Kt nO w w':=by
 cases hi:aC m.n i with
 | false=>
  rw[show cF m i=aR by simp[cF,hi]];exact qI b B m i w h hi
 | true=>
  obtain⟨k,rfl,hk⟩:=gM hi;rw[show cF m (k:Int)=m.pg k by simp[cF,hi]];exact mD b B m k w h hk
theorem OL(x:Nat)(h:x≠0):∃ p m,x=2 ^ p*(2*m+1):=by
 induction x using Nat.strongRecOn with
 | _ x ih=>
  by_cases h2:x%2=1
  ·exact⟨0,x/2,by omega⟩
  ·obtain⟨p,m,hp⟩:=ih (x/2) (by omega) (by omega);refine⟨p+1,m,?_⟩;rw[Nat.pow_succ,Nat.mul_right_comm,<-hp];omega
theorem OJ(p m i:Nat):((2 ^ p*(2*m+1)).testBit i && !(2 ^ p*(2*m+1)-1).testBit i)=decide (i=p):=by
 have hp:=Nat.two_pow_pos p;have e1 : 2 ^ p*(2*m+1)=2 ^ p*(2*m+1)+0:=rfl;have e2 : 2 ^ p*(2*m+1)-1=2 ^ p*(2*m)+(2 ^ p-1):=by rw[Nat.mul_add,Nat.mul_one];omega
 rw[e2];rw[Nat.testBit_two_pow_mul_add _ (by omega : 2 ^ p-1<2 ^ p)];rw[e1,Nat.testBit_two_pow_mul_add _ hp];by_cases h:i<p
 ·simp[h];omega
 ·simp only[h,if_false];by_cases e:i=p
  ·subst e;have : 2*m%2=0:=(by omega);simp[Nat.testBit_zero]
  ·obtain⟨t,ht⟩:∃ t,i-p=t+1:=⟨i-p-1,by omega⟩;rw[ht,Nat.testBit_succ,Nat.testBit_succ];have a1:(2*m+1)/2=m:=(by omega);have a2 : 2*m/2=m:=(by omega);rw[a1,a2];simp[e]
theorem JI(p m:Nat)(h : 2 ^ p*(2*m+1)<2 ^ 64) : 2 ^ p*(2*m+1) &&& (2 ^ 64-2 ^ p*(2*m+1))=2 ^ p:=by
 have hp:=Nat.two_pow_pos p;have h0 : 0<2 ^ p*(2*m+1):=Nat.mul_pos hp (by omega);apply Nat.eq_of_testBit_eq
 intro i;have e : 2 ^ 64-2 ^ p*(2*m+1)=2 ^ 64-((2 ^ p*(2*m+1)-1)+1):=by omega
 rw[Nat.testBit_and,e,Nat.testBit_two_pow_sub_succ (by omega),Nat.testBit_two_pow];have:=OJ p m i;by_cases h64:i<64
 ·rw[decide_eq_true h64,Bool.true_and,this];rw[decide_eq_decide];omega
 ·have hf:(2 ^ p*(2*m+1)).testBit i=false:=Nat.testBit_lt_two_pow (Nat.lt_of_lt_of_le h ((nI 64 i).2 (by omega)));have hpi:¬p=i:=by
   intro e2;subst e2;rw[hf] at this;simp at this
  rw[hf];simp[hpi]
theorem OI(x:Nat)(h:x≠0)(hx:x<2 ^ 64):∃ p,p<64/\x/2 ^ p%2=1/\(∀ j,j<p->x/2 ^ j%2=0)/\x &&& (2 ^ 64-x)=2 ^ p:=by
 obtain⟨p,m,rfl⟩:=OL x h;have hp:=Nat.two_pow_pos p;have hlt : 2 ^ p<2 ^ 64:=Nat.lt_of_le_of_lt (Nat.le_mul_of_pos_right _ (by omega)) hx;refine⟨p,(iY p 64).1 hlt,?_,?_,JI p m hx⟩
 ·rw[Nat.mul_div_cancel_left _ hp];omega
 ·intro j hj;have : 2 ^ p=2 ^ j*(2*2 ^ (p-j-1)):=by
   rw[<-Nat.mul_assoc,<-Nat.pow_succ,<-Nat.pow_add];congr 1;omega
  rw[this,Nat.mul_assoc,Nat.mul_div_cancel_left _ (Nat.two_pow_pos j),Nat.mul_assoc];omega
theorem VP(x r p:Nat)(hp:p<64):x/2 ^ r*2 ^ r%2 ^ 64/2 ^ p%2=if r<=p then x/2 ^ p%2 else 0:=by
 have e:∀ y q:Nat,y/2 ^ q%2=if y.testBit q then 1 else 0:=by
  intro y q;rw[Nat.testBit_eq_decide_div_mod_eq];by_cases h:y/2 ^ q%2=1
  ·simp[h]
  ·simp[h];omega
 rw[e,e,Nat.testBit_mod_two_pow,<-Nat.shiftRight_eq_div_pow,<-Nat.shiftLeft_eq,Nat.testBit_shiftLeft,Nat.testBit_shiftRight];by_cases h:r<=p
 ·have:r+(p-r)=p:=by omega
  simp[h,hp,this]
 ·simp[h]
def bQ(n:Nat)(ws:List Nat)(k:Nat):Int:=match (List.range n).find? (fun j=>decide (k<=j) && aF ws j)with|some j=>(j:Int)|none => -1
def nxt(n:Nat)(ws:List Nat)(i:Int):Int:=bQ n ws i.toNat
theorem qZ(n:Nat)(ws:List Nat)(k:Nat)(h:∀ j,k<=j->j<n->aF ws j=false):bQ n ws k = -1:=by
 unfold bQ;have:(List.range n).find? (fun j=>decide (k<=j) && aF ws j)=none:=by
  rw[List.find?_eq_none];intro j hj;rw[List.mem_range] at hj;by_cases hk:k<=j
  ·simp[h j hk hj]
  ·simp[hk]
 rw[this]
theorem VO(n:Nat)(ws:List Nat)(k j:Nat)(hj:j<n)(hk:k<=j)(hb:aF ws j=true)(h:∀ i,k<=i->i<j->aF ws i=false):bQ n ws k=(j:Int):=by
 unfold bQ;have:(List.range n).find? (fun j=>decide (k<=j) && aF ws j)=some j:=by
  rw[List.find?_range_eq_some];refine⟨by simp[hk,hb],by simpa using hj,?_⟩;intro i hi;by_cases hki:k<=i
  ·simp[h i hki hi]
  ·simp[hki]
 rw[this]
theorem tQ(ws:List Nat)(a p:Nat)(hp:p<64):aF ws (64*a+p)=(ws.getD a 0/2 ^ p%2 == 1):=by
 unfold aF;have h1:(64*a+p)/64=a:=by omega
 have h2:(64*a+p)%64=p:=by omega
 rw[h1,h2]
theorem SetAt.bit_past{w b c n ws}(h:SetAt w b c n ws)(j:Nat)(hj:n<=j):aF ws j=false:=by
 unfold aF;by_cases hl:j/64<ws.length
 ·have h1:=h.ok (j/64) hl;have h2:ws.getD (j/64) 0/2 ^ (j%64)=0:=by
   rw[Nat.div_eq_of_lt];refine Nat.lt_of_lt_of_le h1 ((nI _ _).2 ?_);omega
  rw[h2];rfl
 ·have:ws.getD (j/64) 0=0:=by simp[List.getD,Nat.not_lt.1 hl]
  rw[this];simp
end Go.Proofs.YtkfmheelhinjdaaGreatDoor
namespace Go.Proofs.YtkfmheelhinjdaaGreatDoor.W
open _root_.Go.Proofs.Tryz
set_option linter.unusedVariables false
def fst1(n:Nat)(ok:Nat->Bool):Option Nat:=(List.range n).find? fun i=>!ok i
theorem kF{n i:Nat}{ok:Nat->Bool}(hi:i<n)(h:∀ a,a<i->ok a=true)(hb:ok i=false):fst1 n ok=some i:=by
 unfold fst1;rw[List.find?_range_eq_some];exact⟨by simp[hb],List.mem_range.2 hi,fun a ha=>by simp[h a ha]⟩
theorem fst1_ok{n:Nat}{ok:Nat->Bool}(h:∀ a,a<n->ok a=true):fst1 n ok=none:=by
 unfold fst1;exact List.find?_eq_none.2 (fun a ha=>by simp[h a (List.mem_range.1 ha)])
theorem tS{n:Nat}{ok:Nat->Bool}(h:fst1 n ok=none)(a:Nat)(ha:a<n):ok a=true:=by
 have:=List.find?_eq_none.1 h a (List.mem_range.2 ha);simpa using this
def fstO(n:Nat)(f:Nat->Option Nat):Option Nat:=(List.range n).findSome? f
theorem QA{n i p:Nat}{f:Nat->Option Nat}(hi:i<n)(h:∀ a,a<i->f a=none)(hb:f i=some p):fstO n f=some p:=by
 unfold fstO;obtain⟨d,rfl⟩:∃ d,n=i+1+d:=⟨n-(i+1),by omega⟩;rw[List.range_add,List.findSome?_append,List.range_succ,List.findSome?_append,List.findSome?_eq_none_iff.2 (fun a ha=>h a (List.mem_range.1 ha))];simp[hb]
theorem fstO_ok{n:Nat}{f:Nat->Option Nat}(h:∀ a,a<n->f a=none):fstO n f=none:=by
 unfold fstO;exact List.findSome?_eq_none_iff.2 fun a ha=>h a (List.mem_range.1 ha)
section
variable {α : Type} [DecidableEq α] (dec : α->Option Nat) (nil : α) (nxt bk:Nat->α) (S:Nat->Bool)
def refL:Nat->α->α->Bool
 | 0,p,_=>decide (p=nil)
 | n+1,p,b=>match dec p with
  | none=>false
  | some i=>S i && (decide (bk i=b) && refL n (nxt i) p)
def bO:Nat->List Nat->α->α->Bool
 | 0,_,_,_=>false
 | n+1,l,p,b=>if p=nil then l.isEmpty else match dec p with
  | none=>false
  | some i=>decide (i∈l) && (decide (bk i=b) && bO n (l.erase i) (nxt i) p)
def mY(cod:Nat->α):List Nat->Prop
 | []=>True
 | v :: t=>bk v=(match t with | []=>nil | u :: _=>cod u)/\mY cod t
variable {dec nil nxt bk S}
omit [DecidableEq α] in
theorem PZ{cod:Nat->α}(hn:∀ i,cod i≠nil)(hi:∀ i j,cod i=cod j->i=j){x:Nat}{v:Nat}(hx:bk x=cod v):
  ∀ (V:List Nat),mY nil bk cod V->V.Nodup->v ∉ V.tail->x ∉ V:=by
 intro V;induction V with
 | nil=>intro _ _ _ h;cases h
 | cons a t ih=>
  intro hc hd hv hm;obtain⟨h1,h2⟩:=hc;rcases List.mem_cons.1 hm with e|e
  ·subst e;rw[hx] at h1
   cases t with
   | nil=>exact hn _ h1
   | cons u t'=>
    have:=hi _ _ h1;exact hv (by rw[this];exact List.mem_cons_self)
  ·exact ih h2 (List.nodup_cons.1 hd).2 (fun h=>hv (List.mem_of_mem_tail h)) e
theorem xF{cod:Nat->α}(hn:∀ i,cod i≠nil)(hi:∀ i j,cod i=cod j->i=j)(hdc:∀ p i,dec p=some i->p=cod i)(hnl:dec nil=none)(l0:List Nat)(h0:l0.Nodup)
  (hS:∀ p i,dec p=some i->(i∈l0↔S i=true)):
  ∀ (n:Nat) (l V:List Nat) (p b : α),l.length=n->l.Nodup->V.Nodup->(∀ i,i∈l0↔i∈l\/i∈V)->(∀ i,i∈l->i ∉ V)->mY nil bk cod V->b=(match V with|[]=>nil|u :: _=>cod u)->
   bO dec nil nxt bk (n+1) l p b=refL dec nil nxt bk S n p b:=by
 intro n;induction n with
 | zero=>
  intro l V p b hl _ _ _ _ _ _;have:l=[]:=List.eq_nil_of_length_eq_zero hl;subst this;by_cases hp:p=nil
  ·simp[bO,refL,hp]
  ·simp only[bO,refL,hp,if_false,decide_false]
   cases dec p <;> simp
 | succ n ih=>
  intro l V p b hl hd hV hm hdis hc hb;rw[bO];by_cases hp:p=nil
  ·rw[if_pos hp,hp];simp only[refL,hnl]
   cases l with
   | nil=>simp at hl
   | cons=>rfl
  ·rw[if_neg hp];simp only[refL]
   cases hdp:dec p with
   | none=>rfl
   | some i=>
    show(decide (i∈l) && _)=(S i && _)
    by_cases hbk:bk i=b
    ·have hnV:i ∉ V:=by
      cases V with
      | nil=>intro h;cases h
      | cons v t=>
       refine PZ hn hi (x:=i) (v:=v) (by rw[hbk,hb]) (v :: t) hc hV ?_;exact(List.nodup_cons.1 hV).1
     have hiff:i∈l↔S i=true:=by
      rw[<-hS p i hdp,hm i];exact⟨Or.inl,fun h=>h.resolve_right hnV⟩
     by_cases hil:i∈l
     ·rw[decide_eq_true hil,hiff.1 hil];congr 2
      have hpc:=hdc p i hdp;refine ih (l.erase i) (i :: V) (nxt i) p ?_ (hd.erase i) (List.nodup_cons.2 ⟨hnV,hV⟩) ?_ ?_ ⟨by rw[hbk,hb],hc⟩ hpc
      ·rw[List.length_erase_of_mem hil,hl];rfl
      ·intro j;rw[hm j,hd.mem_erase_iff,List.mem_cons];by_cases e:j=i
       ·subst e;simp[hil]
       ·simp[e]
      ·intro j hj;rw[hd.mem_erase_iff] at hj;rw[List.mem_cons];rintro (e|e)
       ·exact hj.1 e
       ·exact hdis j hj.2 e
     ·rw[decide_eq_false hil];have:S i=false:=by
       cases hs:S i with
       | false=>rfl
       | true=>exact absurd (hiff.2 hs) hil
      rw[this];rfl
    ·rw[decide_eq_false hbk];simp
end
end Go.Proofs.YtkfmheelhinjdaaGreatDoor.W
namespace Go.Proofs.YtkfmheelhinjdaaGreatDoor.W
open _root_.Go.Proofs.Tryz
open Go.RowKit
set_option linter.unusedVariables false
section
variable {P:Program} {ops:Array Oper} {md:Region.Mode} {C:World->Prop} {Q:Exit->Act->World->Prop}
def fY(P:Program)(Q:Exit->Act->World->Prop)(o:Oper)(a:Act)(w:World):Prop:=o.wp P a w (fun _ _=>False) (fun e _ w'=>∀ a',a'.defers=a.defers->Q e a' w')
theorem fY.other{o:Oper}{a b:Act}{w:World}(h:fY P Q o a w)(he:execOp b.eval o=execOp a.eval o)(hd:b.defers=a.defers):fY P Q o b w:=by
 unfold fY Oper.wp at *;rw[he,hd];generalize (execOp a.eval o).run P w=r at *
 cases r with
 | ok n w'=>cases n <;> exact h
 | halt x w'=>cases x <;> exact h
theorem fY.wp{o:Oper}{a:Act}{w:World}{K:Act->World->Prop}(h:fY P Q o a w):o.wp P a w K Q:=by
 unfold fY Oper.wp at *;generalize (execOp a.eval o).run P w=r at *
 cases r with
 | ok n w'=>
  cases n <;> simp only[Oper.upon] at*<;> try exact h.elim
  case enter f args=>
   refine h.mono ?_;intro e w'' h2
   cases e with
   | returned v=>exact h2.elim
   | panicked c=>exact h2 a rfl
   | outgrown=>
    have h3:LetsOut (fun (e:Exit) (_:Act) (w':World)=>∀ a',a'.defers=a.defers->Q e a' w'):=h2;obtain⟨b,w1,h4⟩:=h3;exact⟨a,w1,h4 a rfl⟩
  case row r args=>exact h.mono fun v w'' h2=>h2.elim
 | halt x w'=>
  cases x <;> simp only[Oper.upon] at*<;> first|exact h.elim|exact h a rfl
def pV(P:Program)(ops:Array Oper)(C:World->Prop)(Q:Exit->Act->World->Prop)(i:Nat)(K:Act->Prop)(a:Act):Prop:=
 qOp P ops C i K a\/∃ o,ops[i]?=some o/\Region.wanted o (yielded ops a.tmps)=true/\∀ w,C w->fY P Q o a w
def jW(P:Program)(md:Region.Mode)(ops:Array Oper)(C:World->Prop)(Q:Exit->Act->World->Prop):Nat->Array Bool->Act->Prop
 | 0,ls,a=>Region.ready md ops ls=[]/\∀ w,C w->Q .normal a w
 | n+1,ls,a=>(Region.ready md ops ls=[]->∀ w,C w->Q .normal a w)/\∀ i∈Region.ready md ops ls,pV P ops C Q i (jW P md ops C Q n (ls.setIfInBounds i true)) a
theorem TS{i:Nat}{a:Act}{K K':Act->Prop}(h:∀ a,K a->K' a)(hh:pV P ops C Q i K a):pV P ops C Q i K' a:=hh.imp (qOp_mono h) id
theorem yQ:∀ (n:Nat) (ls:Array Bool) (a:Act) (w:World),C w->jW P md ops C Q n ls a->wpAny P md ops Q n ls a w
 | 0,_,_,_,hw,h=>⟨h.1,h.2 _ hw⟩
 | n+1,_,_,_,hw,h=>⟨fun h0=>h.1 h0 _ hw,fun i hi=>by
   rcases h.2 i hi with h1|⟨o,ho,hwt,hd⟩
   ·exact wpOp_of_qOp hw (fun a' w' hw'=>yQ n _ a' w' hw') h1
   ·unfold wpOp;simp only[ho,hwt,if_true];exact .inl (hd _ hw).wp⟩
theorem MD{j:Nat}{oi oj:Oper}{v:Value}(hj:ops[j]?=some oj)(hap:oi.apart ops oj=true)(hsi:∀ cs b,oi.op≠.select cs b)(hsj:∀ cs b,oj.op≠.select cs b){K:Act->Prop}{a:Act}
  (hy:YieldsIn P ops C oi v a) (h:pV P ops C Q j K (a.put oi.dst v)):pV P ops C Q j (fun a'=>YieldsIn P ops C oi v a'/\K (a'.put oi.dst v)) a:=by
 rcases h with h|⟨o,ho,hwt,hd⟩
 ·exact .inl (qOp_put hj hap hsi hsj hy h)
 ·obtain rfl:oj=o:=Option.some.inj (hj.symm.trans ho);obtain⟨h1,h2,h3⟩:=Oper.apart_spec hap;refine .inr ⟨oj,ho,by rw[<-wanted_put oj a oi.dst v h1];exact hwt,fun w hw=>(hd w hw).other (execOp_put oj hsj a oi.dst v h1).symm (by cases oi.dst <;> rfl)⟩
theorem YN{i:Nat}{oi:Oper}{v:Value}(hi:ops[i]?=some oi)(hsel:∀ (j:Nat) (o:Oper) cs b,ops[j]?=some o->o.op≠.select cs b):∀ (n:Nat) (ls:Array Bool) (a:Act),
  (∀ j oj,ops[j]?=some oj->j≠i->ls.getD j true=false->(∀ e∈oj.after,Region.binds md e=true->e.on≠i)->oi.apart ops oj=true)->i∈Region.ready md ops ls->YieldsIn P ops C oi v a->
  jW P md ops C Q n (ls.setIfInBounds i true) (a.put oi.dst v)->jW P md ops C Q (n+1) ls a:=by
 intro n;induction n with
 | zero=>
  intro ls a _ hr hy H;refine⟨fun h0=>(by rw[h0] at hr;cases hr),fun j hj=>?_⟩;by_cases e:j=i
  ·rw[e];exact .inl (hy.qOp hi H)
  ·have:=ready_mono hj e;rw[H.1] at this
   cases this
 | succ n ih=>
  intro ls a hf hr hy H;refine⟨fun h0=>(by rw[h0] at hr;cases hr),fun j hj=>?_⟩;by_cases e:j=i
  ·rw[e];exact .inl (hy.qOp hi H)
  ·obtain⟨hun,oj,hoj,hall⟩:=mem_ready.1 hj;have hno:∀ e∈oj.after,Region.binds md e=true->e.on≠i:=fun d hd hb hq=>by
    have g1:=hall d hd hb;have g0:=(mem_ready.1 hr).1;rw[hq] at g1;rcases Nat.lt_or_ge i ls.size with hl|hl
    ·simp[hl] at g0 g1;rw[g0] at g1;cases g1
    ·simp[Array.getElem?_eq_none hl] at g1
   have g2:=MD hoj (hf j oj hoj e hun hno) (fun cs b=>hsel i oi cs b hi) (fun cs b=>hsel j oj cs b hoj) hy (H.2 j (ready_mono hj e));refine TS (fun a' g3=>ih (ls.setIfInBounds j true) a' (fun k ok hk hki hu hn=>?_) (ready_mono hr (Ne.symm e)) g3.1 ?_) g2
   ·refine hf k ok hk hki ?_ hn;by_cases e2:j=k
    ·rw[<-e2];exact hun
    ·rwa [Go.getD_set_ne true e2] at hu
   ·rw[Array.setIfInBounds_comm _ _ e];exact g3.2
theorem yP{o:Oper}(hs:Region.noSelect ops=true):∀ (l:List Oper) (k:Nat) (ls:Array Bool) (a:Act),(∀ j,(l ++ [o])[j]?=ops[k + j]?)->Region.lexFrom md ops (l ++ [o]).length k ls=true->
  wpQuiet P ops C (fun a'=>Region.wanted o (yielded ops a'.tmps)=true/\∀ w,C w->fY P Q o a' w) l a->jW P md ops C Q (l ++ [o]).length ls a
 | [],k,ls,a,hl,hB,h=>by
  have h0:ops[k]?=some o:=by simpa using (hl 0).symm
  simp only[List.nil_append,List.length_cons,List.length_nil,Region.lexFrom,Bool.and_eq_true] at hB;obtain⟨⟨hr,hf⟩,hB'⟩:=hB;have hr':k∈Region.ready md ops ls:=by simpa using hr
  refine⟨fun h0=>(by rw[h0] at hr';cases hr'),fun j hj=>?_⟩;by_cases e:j=k
  ·rw[e];exact .inr ⟨o,h0,h.1,h.2⟩
  ·have:=ready_mono hj e;rw[List.isEmpty_iff.1 hB'] at this
   cases this
 | x :: l,k,ls,a,hl,hB,h=>by
  have h0:ops[k]?=some x:=by simpa using (hl 0).symm
  simp only[List.cons_append,List.length_cons,Region.lexFrom,Bool.and_eq_true] at hB;obtain⟨⟨hr,hf⟩,hB'⟩:=hB;have hst:qOp P ops C k (wpQuiet P ops C (fun a'=>Region.wanted o (yielded ops a'.tmps)=true/\∀ w,C w->fY P Q o a' w) l) a:=by unfold qOp;simp only[h0];exact h
  obtain⟨v,hy,hK⟩:=yieldsIn_of_qOp h0 hst;exact YN h0 (Region.noSelect_spec hs) _ ls a (Region.free_spec h0 hf) (by simpa using hr) hy
   (yP hs l (k+1) _ _ (fun j=>by have:=hl (j+1);simpa [Nat.add_assoc,Nat.add_comm 1 j] using this) hB' hK)
end
theorem CI{P:Program}{id:Nat}{Q:Exit->Act->World->Prop}{a:Act}{w:World}{l:List Oper}{C:World->Prop}(hm:P.follows .mixedOrders=true)(hB:Region.lexB .any l.toArray=true)
  (hl:l≠[]) (hC:C w.drew) (h:wpQuiet P l.toArray C (fun a'=>Region.wanted (l.getLast hl) (yielded l.toArray a'.tmps)=true/\∀ w,C w->fY P Q (l.getLast hl) a' w) l.dropLast a):(Code.region id l.toArray true).wp P Q a w:=by
 have e:=List.dropLast_concat_getLast hl;generalize l.dropLast=l' at *;generalize l.getLast hl=o at *;subst e;simp only[Region.lexB,Bool.and_eq_true] at hB;refine wp_region_any hm (yQ _ _ _ _ hC ?_);have:=yP (P:=P) (Q:=Q) (C:=C) (md:=.any) hB.1 l' 0 (Array.replicate (l' ++ [o]).toArray.size false) a (by simp) (by simpa using hB.2) h;simpa using this
theorem AP{P:Program}{Q:Exit->Act->World->Prop}{o:Oper}{a:Act}{w:World}{f:FuncId}{args:Array Operand}{ts:Array TypeId}(hc:∀ xs w,Sem.run P (callFunc f xs) w=.ok (.enter f xs) w)(ho:o.op=.call { callee:=.value (.func f),args:=args,argTypes:=ts })
  (h:Calls P f (args.map a.eval) w fun e w'=>∃ ch,e=.panicked ch/\∀ a',a'.defers=a.defers->Q (.panic ch) a' w'):fY P Q o a w:=by
 have hr:(execOp a.eval o).run P w=.ok (.enter f (args.map a.eval)) w:=by
  unfold execOp;rw[ho];simp[go_sem,hc]
 unfold fY Oper.wp;rw[hr];refine h.mono ?_;rintro e w' ⟨ch,rfl,h2⟩;exact h2
theorem zcc{P:Program}{id:Nat}{Q:Exit->Act->World->Prop}{a:Act}{w:World}{l:List Oper}(hm:P.follows .mixedOrders=true)(hB:Region.lexB .any l.toArray=true)
  (hl:l≠[]) (h:wpQuiet P l.toArray (fun w'=>∃ n,w'=w.drewN n) (fun a'=>Region.wanted (l.getLast hl) (yielded l.toArray a'.tmps)=true/\∀ w',(∃ n,w'=w.drewN n)->fY P Q (l.getLast hl) a' w') l.dropLast a):(Code.region id l.toArray true).wp P Q a w:=
 CI (C:=fun w'=>∃ n,w'=w.drewN n) hm hB hl ⟨1,rfl⟩ h
end Go.Proofs.YtkfmheelhinjdaaGreatDoor.W
namespace Go.Proofs.YtkfmheelhinjdaaGreatDoor
open _root_.Go.Proofs.Tryz
set_option linter.unusedVariables false
theorem zX{α : Type}{lt : α->α->Prop}(irr:∀ a,¬lt a a)(tr:∀ a b c,lt a b->lt b c->lt a c):∀ (l m:List α),l.Pairwise lt->m.Pairwise lt->(∀ x,x∈l↔x∈m)->l=m
 | [],[],_,_,_=>rfl
 | [],b :: m,_,_,h=>by have:=(h b).2 List.mem_cons_self;cases this
 | a :: l,[],_,_,h=>by have:=(h a).1 List.mem_cons_self;cases this
 | a :: l,b :: m,hl,hm,h=>by
  obtain⟨a1,a2⟩:=List.pairwise_cons.1 hl;obtain⟨b1,b2⟩:=List.pairwise_cons.1 hm;have e:a=b:=by
   rcases List.mem_cons.1 ((h a).1 List.mem_cons_self)with e|e
   ·exact e
   ·rcases List.mem_cons.1 ((h b).2 List.mem_cons_self)with e2|e2
    ·exact e2.symm
    ·exact absurd (tr a b a (a1 b e2) (b1 a e)) (irr a)
  subst e;refine congrArg (a :: ·) (zX irr tr l m a2 b2 fun x=>⟨fun hx=>?_,fun hx=>?_⟩)
  ·rcases List.mem_cons.1 ((h x).1 (List.mem_cons_of_mem _ hx))with e|e
   ·subst e;exact absurd (a1 x hx) (irr x)
   ·exact e
  ·rcases List.mem_cons.1 ((h x).2 (List.mem_cons_of_mem _ hx))with e|e
   ·subst e;exact absurd (b1 x hx) (irr x)
   ·exact e
theorem wR{α : Type}[BEq α][LawfulBEq α](f : α->Nat)(a : α):∀ D:List α,D.Nodup->(D.map fun k=>if a == k then f k else 0).sum=if a∈D then f a else 0
 | [],_=>rfl
 | d :: D,h=>by
  obtain⟨h1,h2⟩:=List.nodup_cons.1 h;have ih:=wR f a D h2;rw[List.map_cons,List.sum_cons,ih];by_cases e:a=d
  ·subst e;simp[h1]
  ·simp[e]
theorem BI{α : Type}[BEq α][LawfulBEq α](f : α->Nat)(D:List α)(hD:D.Nodup):∀ xs:List α,(∀ x,x∈xs->x∈D)->(D.map fun k=>xs.count k*f k).sum=(xs.map f).sum
 | [],_=>by
  have:∀ D:List α,(D.map fun k=>([] : List α).count k*f k).sum=0:=fun D=>by
   induction D with
   | nil=>rfl
   | cons d D ih=>rw[List.map_cons,List.sum_cons,ih];simp
  rw[this];rfl
 | a :: xs,h=>by
  have ih:=BI f D hD xs fun x hx=>h x (List.mem_cons_of_mem _ hx)
  have e:(D.map fun k=>(a :: xs).count k*f k)=D.map fun k=>xs.count k*f k+if a == k then f k else 0:=by
   refine List.map_congr_left fun k _=>?_
   rw[List.count_cons,Nat.add_mul];congr 1
   split <;> simp
  have s:∀ (g g' : α->Nat) (D:List α),(D.map fun k=>g k+g' k).sum=(D.map g).sum+(D.map g').sum:=fun g g' D=>by
   induction D with
   | nil=>rfl
   | cons d D ih=>simp only[List.map_cons,List.sum_cons,ih];omega
  rw[e,s,ih,wR f a D hD,if_pos (h a List.mem_cons_self),List.map_cons,List.sum_cons,Nat.add_comm]
theorem TY{α : Type}(f : α->Nat){a b:List α}(h:a.Perm b):(a.map f).sum=(b.map f).sum:=(h.map f).sum_nat
end Go.Proofs.YtkfmheelhinjdaaGreatDoor
namespace Go.Proofs.YtkfmheelhinjdaaGreatDoor.W
open _root_.Go.Proofs.Tryz
set_option linter.unusedVariables false
def dU(a b:Nat×Nat):Prop:=a.1<b.1\/(a.1=b.1/\a.2<=b.2)
def dT(a b:Nat×Nat):Prop:=a.1<b.1\/(a.1=b.1/\a.2<b.2)
theorem QW(a:Nat×Nat):dU a a:=.inr ⟨rfl,Nat.le_refl _⟩
theorem XS{a b c:Nat×Nat}(h:dU a b)(k:dU b c):dU a c:=by unfold dU at *;omega
theorem QV{a b:Nat×Nat}(h:dU a b)(k:dU b a):a=b:=by unfold dU at *;exact Prod.ext (by omega) (by omega)
theorem BN{a b:Nat×Nat}(h:¬dT b a):dU a b:=by unfold dU dT at *;omega
theorem XR{a b:Nat×Nat}(h:dT a b):dU a b:=by unfold dU dT at *;omega
instance (a b:Nat×Nat):Decidable (dT a b):=by unfold dT;infer_instance
theorem xU:∀ (l m:List (Nat×Nat)),l.Pairwise dU->m.Pairwise dU->(∀ x,l.count x=m.count x)->l=m
 | [],[],_,_,_=>rfl
 | [],b :: m,_,_,h=>by have:=h b;simp at this
 | a :: l,[],_,_,h=>by have:=h a;simp at this
 | a :: l,b :: m,hl,hm,h=>by
  obtain⟨a1,a2⟩:=List.pairwise_cons.1 hl;obtain⟨b1,b2⟩:=List.pairwise_cons.1 hm;have e:a=b:=by
   have m1:a∈b :: m:=List.count_pos_iff.1 (by rw[<-h a];exact List.count_pos_iff.2 List.mem_cons_self);have m2:b∈a :: l:=List.count_pos_iff.1 (by rw[h b];exact List.count_pos_iff.2 List.mem_cons_self);rcases List.mem_cons.1 m1 with e|e
   ·exact e
   ·rcases List.mem_cons.1 m2 with e2|e2
    ·exact e2.symm
    ·exact QV (a1 b e2) (b1 a e)
  subst e;refine congrArg (a :: ·) (xU l m a2 b2 fun x=>?_);have:=h x;rw[List.count_cons,List.count_cons] at this;omega
def eO(a b l:List (Nat×Nat)):Prop:=l.Pairwise dU/\∀ x,l.count x=a.count x-b.count x
theorem eO.uniq{a b l m:List (Nat×Nat)}(h:eO a b l)(k:eO a b m):l=m:=xU l m h.1 k.1 fun x=>(h.2 x).trans (k.2 x).symm
theorem eO.perm{a b a' b' l:List (Nat×Nat)}(h:eO a b l)(p:a.Perm a')(q:b.Perm b'):eO a' b' l:=⟨h.1,fun x=>by rw[h.2,p.count_eq,q.count_eq]⟩
theorem eO.self{a l:List (Nat×Nat)}(h:eO a a l):l=[]:=by
 cases l with
 | nil=>rfl
 | cons x l=>have:=h.2 x;rw[Nat.sub_self] at this;simp at this
theorem rW{l m:List (Nat×Nat)}(h:∀ x,l.count x<=m.count x):l.length<=m.length:=by
 induction l generalizing m with
 | nil=>exact Nat.zero_le _
 | cons a l ih=>
  have ha:a∈m:=List.count_pos_iff.1 (Nat.lt_of_lt_of_le (List.count_pos_iff.2 List.mem_cons_self) (h a));have:=ih (m:=m.erase a) fun x=>by
   have h1:=h x;rw[List.count_cons] at h1;rw[List.count_erase];by_cases e:a=x
   ·subst e;simp at h1 ⊢;omega
   ·simp[e] at h1 ⊢;omega
  rw[List.length_erase_of_mem ha] at this;have:=List.length_pos_of_mem ha;rw[List.length_cons];omega
theorem eO.len{a b l:List (Nat×Nat)}(h:eO a b l):l.length<=a.length:=rW fun x=>by rw[h.2];omega
def fS(a b:List (Nat×Nat))(i:Nat)(l:List (Nat×Nat)):Prop:=l.Pairwise dU/\∀ x,l.count x=min ((a.take i).count x) (a.count x-b.count x)
theorem fS.nil(a b:List (Nat×Nat)):fS a b 0 []:=⟨.nil,fun x=>by simp⟩
theorem fS.done{a b l:List (Nat×Nat)}{i:Nat}(h:fS a b i l)(hi:a.length<=i):eO a b l:=⟨h.1,fun x=>by rw[h.2,List.take_of_length_le hi];omega⟩
theorem zQ{a:List (Nat×Nat)}{i:Nat}(hi:i<a.length)(x:Nat×Nat):(a.take (i+1)).count x=(a.take i).count x+if a.getD i (0,0)=x then 1 else 0:=by
 have:a.take (i + 1)=a.take i ++ [a.getD i (0,0)]:=by rw[List.take_succ_eq_append_getElem hi,List.getD_eq_getElem?_getD,List.getElem?_eq_getElem hi];rfl
 rw[this,List.count_append,List.count_singleton];simp
theorem fS.skip{a b l:List (Nat×Nat)}{i:Nat}(h:fS a b i l)(hi:i<a.length)(hs:a.count (a.getD i (0,0))-b.count (a.getD i (0,0))<=l.count (a.getD i (0,0))):fS a b (i+1) l:=by
 refine⟨h.1,fun x=>?_⟩;rw[zQ hi,h.2];have h2:=h.2 (a.getD i (0,0));split
 ·rename_i e;subst e;omega
 ·simp
theorem fS.len{a b l:List (Nat×Nat)}{i:Nat}(h:fS a b i l):l.length<=a.length:=rW fun x=>by rw[h.2];omega
theorem IX{l:List (Nat×Nat)}{k:Nat}(x:Nat×Nat)(hl:l.Pairwise dU)(hk:k<=l.length)(h1:∀ y∈l.drop k,dT x y)(h2 : 0<k->¬dT x (l.getD (k-1) (0,0))):(l.take k ++ x :: l.drop k).Pairwise dU:=by
 have hsp:l=l.take k ++ l.drop k:=(List.take_append_drop k l).symm;have hl':=hl;rw[hsp] at hl';obtain⟨p1,p2,p3⟩:=List.pairwise_append.1 hl';refine List.pairwise_append.2 ⟨p1,List.pairwise_cons.2 ⟨fun y hy=>XR (h1 y hy),p2⟩,fun y hy z hz=>?_⟩;rcases List.mem_cons.1 hz with rfl|hz
 ·have hk0 : 0<k:=by
             rcases Nat.eq_zero_or_pos k with e|e;· subst e;simp at hy
             ·exact e
  have hlast:=BN (h2 hk0);have e1:l.getD (k-1) (0,0)=l[k-1]'(by omega):=by rw[List.getD_eq_getElem?_getD,List.getElem?_eq_getElem (by omega)];rfl
  rw[e1] at hlast;obtain⟨j,hj,rfl⟩:=List.getElem_of_mem hy;rw[List.length_take] at hj;rw[List.getElem_take];rcases Nat.lt_or_ge j (k-1)with h|h
  ·exact XS (List.pairwise_iff_getElem.1 hl j (k-1) (by omega) (by omega) h) hlast
  ·have:j=k-1:=by omega
   subst this;exact hlast
 ·exact p3 y hy z hz
theorem fS.put{a b l m:List (Nat×Nat)}{i:Nat}(h:fS a b i l)(hi:i<a.length)(hs:¬a.count (a.getD i (0,0))-b.count (a.getD i (0,0))<=l.count (a.getD i (0,0)))(hm:m.Pairwise dU)(hc:∀ x,m.count x=l.count x+if a.getD i (0,0)=x then 1 else 0):fS a b (i+1) m:=by
 refine⟨hm,fun x=>?_⟩;rw[zQ hi,hc,h.2];have h2:=h.2 (a.getD i (0,0));split
 ·rename_i e;subst e;omega
 ·simp
theorem NN(l:List (Nat×Nat))(k:Nat)(x y:Nat×Nat):(l.take k ++ x :: l.drop k).count y=l.count y + if x=y then 1 else 0:=by
 rw[List.count_append,List.count_cons];have:(l.take k).count y+(l.drop k).count y=l.count y:=by rw[<-List.count_append,List.take_append_drop]
 by_cases e:x=y
 ·subst e;simp;omega
 ·simp[e];omega
def fD(f:Nat×Nat->Nat)(ks:List (Nat×Nat)):List (Nat×Nat):=(ks.map fun k=>List.replicate (f k) k).flatten
theorem xT(f:Nat×Nat->Nat)(ks:List (Nat×Nat))(k:Nat×Nat):fD f (ks ++ [k])=fD f ks ++ List.replicate (f k) k:=by unfold fD;simp
theorem NM{f:Nat×Nat->Nat}{ks:List (Nat×Nat)}{x:Nat×Nat}(h:x∈fD f ks):x∈ks:=by
 unfold fD at h;obtain⟨l,hl,hx⟩:=List.mem_flatten.1 h;obtain⟨k,hk,rfl⟩:=List.mem_map.1 hl;rw[(List.mem_replicate.1 hx).2];exact hk
theorem BM(f:Nat×Nat->Nat):∀ ks:List (Nat×Nat),ks.Pairwise dU->(fD f ks).Pairwise dU
 | [],_=>.nil
 | k :: ks,h=>by
  obtain⟨h1,h2⟩:=List.pairwise_cons.1 h;have e:fD f (k :: ks)=List.replicate (f k) k ++ fD f ks:=by unfold fD;simp
  rw[e];refine List.pairwise_append.2 ⟨List.pairwise_replicate.2 (.inr (QW k)),BM f ks h2,fun x hx y hy=>?_⟩;rw[(List.mem_replicate.1 hx).2];exact h1 y (NM hy)
theorem uP(f:Nat×Nat->Nat):∀ ks:List (Nat×Nat),ks.Nodup->∀ x,(fD f ks).count x=if x∈ks then f x else 0
 | [],_,x=>by simp[fD]
 | k :: ks,h,x=>by
  obtain⟨h1,h2⟩:=List.nodup_cons.1 h;have e:fD f (k :: ks)=List.replicate (f k) k ++ fD f ks:=by unfold fD;simp
  rw[e,List.count_append,uP f ks h2,List.count_replicate];by_cases e2:k=x
  ·subst e2;simp[h1]
  ·have e3:¬x=k:=fun h=>e2 h.symm
   simp[e2,e3]
theorem NK{a b ks:List (Nat×Nat)}(hs:ks.Pairwise dU)(hn:ks.Nodup)(hm:∀ x,x∈ks↔x∈a):eO a b (fD (fun x=>a.count x-b.count x) ks):=by
 refine⟨BM _ _ hs,fun x=>?_⟩;rw[uP _ _ hn];split
 ·rfl
 ·rename_i h;rw[hm] at h;rw[List.count_eq_zero.2 h];omega
theorem NJ(f:Nat×Nat->Nat)(a:List (Nat×Nat))(ks:List (Nat×Nat))(hn:ks.Nodup)(hf:∀ x,f x<=a.count x):(fD f ks).length<=a.length:=
 rW fun x=>by
  rw[uP _ _ hn];split
  ·exact hf x
  ·omega
end Go.Proofs.YtkfmheelhinjdaaGreatDoor.W
