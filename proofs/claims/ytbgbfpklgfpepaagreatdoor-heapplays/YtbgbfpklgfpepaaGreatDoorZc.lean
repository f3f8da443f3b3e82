import Derived.Laws.BitsAllLaws
import Derived.Test.YtbgbfpklgfpepaaGreatDoorChecked
import Derived.WalkKit
import Derived.WalkSpells
import Derived.WalkLawsBesides
import Derived.Outline
import Derived.Laws.CopyOwn
import Derived.RegionTactic
import Derived.ChangeAlike
set_option maxRecDepth 1000000
set_option maxHeartbeats 80000000
namespace Go.Proofs.YtbgbfpklgfpepaaGreatDoor
open Tryz
theorem xe{α:Sort _}(a:α):∃ x,x=a:=⟨a,rfl⟩
set_option linter.unusedVariables false
def cL(x:Nat):Bool:=decide (x≠0/\x &&& (x-1)=0)
def lg(x:Nat):Int:=if x=0 then -1 else (Nat.log2 x:Int)
def cl(x:Nat):Nat:=if x<=1 then 0 else Nat.log2 (x-1)+1
def fR(w x:Nat):Nat:=if cl x<w then 2 ^ cl x else 0
def mN(w x:Nat):Bool:=decide (cl x<w)
def mM(x a:Nat):Nat:=if cL a=true then x/a*a else 0
theorem jZ(x:Nat):cL x=true↔∃ n,x=2 ^ n:=by
 unfold cL;by_cases h:x=0
 ·subst h;simp
  intro n hn;have:=Nat.two_pow_pos n;omega
 ·rw[decide_eq_true_iff];have:=Nat.and_sub_one_eq_zero_iff_isPowerOfTwo h;unfold Nat.isPowerOfTwo at this;rw[this];simp[h]
theorem qT(a b:Nat) : 2 ^ a<=2 ^ b↔a<=b:=Nat.pow_le_pow_iff_right (by decide)
theorem jX(a b:Nat) : 2 ^ a<2 ^ b↔a<b:=Nat.pow_lt_pow_iff_right (by decide)
theorem DJ(a b:Nat)(h : 2 ^ a=2 ^ b):a=b:=by
 have h1:=(qT a b).1 (by omega);have h2:=(qT b a).1 (by omega);omega
theorem OO(x:Nat) : -1<=lg x:=by unfold lg;split <;> omega
theorem DI:lg 0 = -1:=rfl
theorem tI(x:Nat)(h:x≠0):lg x=(Nat.log2 x:Int):=by unfold lg;simp[h]
theorem ON(x w:Nat)(h:x<2 ^ w):lg x<(w:Int)\/x=0:=by
 by_cases h0:x=0
 ·exact Or.inr h0
 ·left
  rw[tI x h0];have:=(Nat.log2_lt h0).2 h;omega
theorem FZ(x k:Nat)(h0:x/2 ^ k=0)(h1:∀ j,j<k->x/2 ^ j≠0):(k:Int)-1=lg x:=by
 have hk:x<2 ^ k:=by
  rcases Nat.div_eq_zero_iff.1 h0 with h|h
  ·have:=Nat.two_pow_pos k;omega
  ·exact h
 by_cases hx:x=0
 ·subst hx;have:k=0:=by
   by_cases hk0:k=0
   ·exact hk0
   ·exact absurd (by simp) (h1 0 (by omega))
  subst this;rw[DI];omega
 ·rw[tI x hx];have hlt:=(Nat.log2_lt hx).2 hk;have hge:k-1<=Nat.log2 x:=by
   by_cases hk0:k=0
   ·omega
   ·rw[Nat.le_log2 hx];have:=h1 (k-1) (by omega);rw[Ne,Nat.div_eq_zero_iff] at this;omega
  omega
theorem UE(x:Nat)(hx:x<2 ^ 64)(h1:∀ j,j<64->x/2 ^ j≠0):(63:Int)=lg x:=by
 have h:=FZ x 64 (Nat.div_eq_of_lt hx) h1;omega
theorem nR(x n:Nat):x<=2 ^ n↔cl x<=n:=by
 unfold cl;split
 ·rename_i h;have:=Nat.two_pow_pos n;constructor <;> intro <;> omega
 ·rename_i h;have h1:x-1≠0:=by omega
  have:=Nat.log2_lt (k:=n) h1;constructor
  ·intro h2;have:=this.2 (by omega);omega
  ·intro h2;have:=this.1 (by omega);omega
theorem OM(x:Nat):lg (x-1)+1=(cl x:Int):=by
 unfold lg cl;by_cases h1:x<=1
 ·have:x-1=0:=by omega
  simp[this,h1]
 ·have:x-1≠0:=by omega
  simp[this,h1]
theorem OL(x w:Nat)(h:x<2 ^ w):cl x<=w:=(nR x w).1 (by omega)
theorem UD(n w:Nat)(h:n<=w) : 2 ^ n%2 ^ w=if n<w then 2 ^ n else 0:=by
 split
 ·rename_i h1;exact Nat.mod_eq_of_lt ((jX n w).2 h1)
 ·have:n=w:=by omega
  subst this;simp
theorem zfL(x n w:Nat)(hx:x<2 ^ w)(hn:n<w):x &&& (2 ^ w-1-(2 ^ n-1))=x/2 ^ n*2 ^ n:=by
 have hp : 2 ^ n-1<2 ^ w:=by have:=(jX n w).2 hn;omega
 apply Nat.eq_of_testBit_eq
 intro i;have e : 2 ^ w-1-(2 ^ n-1)=2 ^ w-((2 ^ n-1)+1):=by omega
 rw[Nat.testBit_and,e,Nat.testBit_two_pow_sub_succ hp,Nat.testBit_two_pow_sub_one];rw[<-Nat.shiftRight_eq_div_pow,<-Nat.shiftLeft_eq,Nat.testBit_shiftLeft,Nat.testBit_shiftRight];by_cases h1:i<n
 ·simp[h1,Nat.not_le.2 h1]
 ·have h2:n<=i:=by omega
  have h3:n+(i-n)=i:=by omega
  simp[h1,h2,h3];intro hb;by_cases h4:i<w
  ·exact h4
  ·have:=Nat.testBit_lt_two_pow (x:=x) (i:=i) (by have:=(qT w i).2 (by omega);omega);rw[this] at hb;cases hb
theorem vO(x k:Nat)(_hx:x<2 ^ 64):((x:Int)/2 ^ k)=((x/2 ^ k:Nat):Int):=by simp
theorem YM(x a:Nat)(h:cL a=false):mM x a=0:=by simp[mM,h]
theorem xT(x a:Nat)(h:cL a=true):mM x a=x/a*a:=by simp[mM,h]
theorem UC(a:Nat)(h:cL a=true) : 1<=a:=by
 obtain⟨n,rfl⟩:=(jZ a).1 h;exact Nat.two_pow_pos n
theorem zfh(x a w:Nat)(hx:x<2 ^ w)(ha:a<2 ^ w)(h:cL a=true):x &&& (2 ^ w-1-(a-1))=mM x a:=by
 rw[xT x a h];obtain⟨n,rfl⟩:=(jZ a).1 h;exact zfL x n w hx ((jX n w).1 ha)
theorem OJ(x w:Nat)(h:x<2 ^ w)(h0 : 1<=w):lg x+1<=(w:Int):=by
 rcases ON x w h with h|h
 ·omega
 ·subst h;rw[DI];omega
theorem FY(W x:Nat)(hx:x<2 ^ W):((2:Int) ^ (lg (x-1)+1).toNat)%2 ^ W=((fR W x:Nat):Int):=by
 rw[OM,Int.toNat_natCast];have e:((2:Int) ^ cl x)%2 ^ W=((2 ^ cl x%2 ^ W:Nat):Int):=by simp
 rw[e,UD _ _ (OL x W hx)];rfl
theorem YL(W x:Nat):fR W x<2 ^ W:=by
 unfold fR;split
 ·rename_i h;exact(jX _ _).2 h
 ·exact Nat.two_pow_pos W
theorem DH(W x:Nat):(((fR W x:Nat):Int) != 0)=mN W x:=by
 unfold fR mN;have:=Nat.two_pow_pos (cl x);by_cases h:cl x<W
 ·rw[if_pos h,decide_eq_true h];exact bne_iff_ne.2 (by omega)
 ·simp[h]
open Go.RowKit
theorem aA{p:Prop}(h:p):Hid p:=h
theorem eJ{k:IntKind}{a b:Int}(h:a=b):Ending.returned (.int k a)=.returned (.int k b):=by rw[h]
theorem cE{a b:Bool}(h:a=b):Ending.returned (.bool a)=.returned (.bool b):=by rw[h]
theorem wrap_u64(n:Int):IntKind.u64.wrap n=n%2 ^ 64:=IntKind.wrap_u64 n
theorem YK{k:IntKind}{a b:Int}{p q:Bool}(h:a=b)(h2:p=q):Ending.returned (.tuple #[.int k a,.bool p])=.returned (.tuple #[.int k b,.bool q]):=by rw[h,h2]
theorem IZ(x:Nat)(hx:x<2 ^ 64)(h:x≠0):(((x:Int) != 0) && (bits BinOp.and IntKind.u64 (x:Int) ((x:Int)-1) == 0))=cL x:=by
 have e:((x:Int)-1)=((x-1:Nat):Int):=by omega
 rw[e,u64_and_nat x (x-1) (by omega) (by omega)];unfold cL;by_cases h2:x &&& (x-1)=0 <;> simp[h,h2]
theorem uW(x:Nat)(hx:x<2 ^ 64)(w:World):
  Calls prog 38 #[.int .u64 x] w fun e w'=>e=.returned (.bool (cL x))/\w'=w:=by
 by_cases h:x=0
 ·subst h;go_enter func38,ntmps38;go_wp2
  go_ret;exact⟨rfl,rfl⟩
 ·have e:=IZ x hx h;have E:Hid ((((x:Int) != 0) && (bits BinOp.and IntKind.u64 (x:Int) ((x:Int)-1) == 0))=cL x):=e;clear e;go_enter func38,ntmps38;go_wp2
  go_ret;exact⟨cE E.out,rfl⟩
theorem wD(x:Nat)(hx:x<2 ^ 64)(w:World):
  Calls prog 84 #[.int .u64 x] w fun e w'=>e=.returned (.int .i64 (lg x))/\w'=w:=by
 go_enter func84,ntmps84;go_wp2
 go_loop [4] (fun i=>∃ k:Nat,k<=64/\i=.int .i64 k/\Hid (∀ j,j<k->x/2 ^ j≠0)) (fun i=>64-(intOf i).toNat)
 case atStart=>exact⟨0,by omega,rfl,fun j hj=>by omega⟩
 case round=>
  obtain⟨k,hk,rfl,hp⟩:=hrel;by_cases hlt:k<64
  ·go_wp2
   ·go_ret;have h:((x:Int)/2 ^ (k) == 0)=true:=(by assumption);rw[vO x k hx] at h;exact⟨eJ (FZ x k (Int.natCast_eq_zero.1 (eq_of_beq h)) hp.out),rfl⟩
   ·have h:((x:Int)/2 ^ (k) == 0)=false:=(by assumption);rw[vO x k hx] at h;go_round
    case rel=>
     refine⟨k+1,by omega,by go_num,?_⟩;intro j hj;by_cases e:j<k
     ·exact hp.out j e
     ·have:j=k:=by omega
      subst this;intro h2;simp[h2] at h
    case measure=>simp[intOf];omega
  ·go_wp2
   go_ret;have:k=64:=by omega
   subst this;exact⟨eJ (UE x (by omega) hp.out),rfl⟩
theorem UB(x:Nat)(hx:x<2 ^ 64)(w:World):
  Calls prog 81 #[.int .u64 x] w fun e w'=>e=.returned (.tuple #[.int .u64 (fR 64 x),.bool (mN 64 x)])/\w'=w:=by
 by_cases h:x=0
 ·subst h;go_enter func81,ntmps81;go_wp2
  go_ret2;exact⟨rfl,rfl⟩
 ·have h1:=OO (x-1);have h0 : 0<=lg (x-1)+1:=by omega
  have h2:lg (x-1)+1<=64:=OJ (x-1) 64 (by omega) (by decide);have e:((x:Int)-1)=((x-1:Nat):Int):=by omega
  go_enter func81,ntmps81;go_wp2_with (go_at_call 84;refine(wD (x-1) (by omega) _).mono ?_;rintro e w' ⟨rfl,rfl⟩)
  go_ret2;have e2:IntKind.u64.wrap (2 ^ (lg (x-1)+1).toNat)=((fR 64 x:Nat):Int):=by
   rw[wrap_u64];exact FY 64 x hx
  have e3:(2:Int) ^ (lg (x-1)+1).toNat%18446744073709551616=((fR 64 x:Nat):Int):=FY 64 x hx;refine⟨?_,rfl⟩;exact YK e2 (by rw[e2];exact DH 64 x)
theorem UA(x a:Nat)(hx:x<2 ^ 64)(ha:a<2 ^ 64)(w:World):
  Calls prog 126 #[.int .u64 x,.int .u64 a] w fun e w'=>e=.returned (.tuple #[.int .u64 (mM x a),.bool (cL a)])/\w'=w:=by
 by_cases h:cL a=true
 ·have hp:=UC a h;have e:bits BinOp.andNot IntKind.u64 (x:Int) ((a:Int)-1)=((mM x a:Nat):Int):=by
   have e:((a:Int)-1)=((a-1:Nat):Int):=(by omega);rw[e,u64_andNot_nat x (a-1) (by omega) (by omega)];congr 1
   exact zfh x a 64 hx ha h
  have E:Hid (bits BinOp.andNot IntKind.u64 (x:Int) ((a:Int)-1)=((mM x a:Nat):Int)):=e;clear e;go_enter func126,ntmps126;go_wp2_with (go_at_call 38;refine(uW a ha _).mono ?_;rintro e w' ⟨rfl,rfl⟩)
  go_ret2;refine⟨?_,rfl⟩;simp only[E.out,h];rfl
 ·have h:cL a=false:=by simpa using h
  have e:=YM x a h;go_enter func126,ntmps126;go_wp2_with (go_at_call 38;refine(uW a ha _).mono ?_;rintro e w' ⟨rfl,rfl⟩)
  go_ret2;refine⟨?_,rfl⟩;simp only[e,h];rfl
def dY(ws:List Nat):Array Value:=(ws.map fun (x:Nat)=>Value.int .u64 x).toArray
def gQ(m:Nat):List Nat:=List.replicate m 0
theorem pW(m:Nat):(gQ m).length=m:=by simp[gQ]
theorem uI(m i:Nat):(gQ m).getD i 0=0:=by
 simp[gQ,List.getD,List.getElem?_replicate];split <;> rfl
structure SetAt(w:World)(b c n:Nat)(ws:List Nat):Prop where
 ne:c≠b
 hb:w.heap[b]?=some (.cells #[.int .i64 n,.slice (some ⟨c,0,none⟩) ws.length ws.length] 223 (0,0))
 hc:w.heap[c]?=some (.cells (dY ws) 27 (0,0))
 len:ws.length=(n+63)/64
 nle:n<=1048576
 ok:∀ i,i<ws.length->ws.getD i 0<2 ^ (min 64 (n-64*i))
theorem SetAt.cb0{w b c n ws}(h:SetAt w b c n ws):w.cell? ⟨b,0,none⟩=some (.int .i64 n):=by simp[World.cell?,h.hb]
theorem SetAt.cb1{w b c n ws}(h:SetAt w b c n ws):w.cell? ⟨b,1,none⟩=some (.slice (some ⟨c,0,none⟩) ws.length ws.length):=by simp[World.cell?,h.hb]
theorem SetAt.cc{w b c n ws}(h:SetAt w b c n ws)(i:Nat)(hi:i<ws.length):w.cell? ⟨c,i,none⟩=some (.int .u64 ((ws.getD i 0:Nat):Int)):=by
 simp[World.cell?,h.hc,dY,hi]
theorem SetAt.fb{w b c n ws}(h:SetAt w b c n ws)(i:Nat):w.frozen? ⟨b,i,none⟩=false:=by simp[World.frozen?,h.hb]
theorem SetAt.fc{w b c n ws}(h:SetAt w b c n ws)(i:Nat):w.frozen? ⟨c,i,none⟩=false:=by simp[World.frozen?,h.hc]
theorem SetAt.lt64{w b c n ws}(h:SetAt w b c n ws)(i:Nat):ws.getD i 0<2 ^ 64:=by
 by_cases hi:i<ws.length
 ·exact Nat.lt_of_lt_of_le (h.ok i hi) ((qT _ _).2 (Nat.min_le_left _ _))
 ·have:ws.getD i 0=0:=by simp[List.getD,Nat.not_lt.1 hi]
  rw[this];decide
theorem uT:(prog.info? 27).map (fun i=>(i.zero,i.size,i.bytes))=some (some (.int .u64 0),1,8):=by kernel_rfl
theorem zhq(m:Nat):madeCells (Value.int .u64 0).cells (m*1)=dY (gQ m):=by
 simp only[madeCells,dY,gQ];apply Array.ext
 ·simp
 ·intro i h1 h2;have:i%1=0:=Nat.mod_one i;simp[Value.cells,this]
theorem vA(m:Nat)(hm:m<=1048576)(w:World):
  (Instr.makeSlice 59 (.int .i64 m) (.int .i64 m)).run prog w=.ok (.slice (some ⟨w.heap.size,0,none⟩) m m) (w.alloc (.cells (dY (gQ m)) 27)):=by
 obtain⟨i,hi,hz0,hz1,hz2⟩:=info_parts uT;have:=run_make (P:=prog) w 59 27 i (.int .u64 0) Tryz.underlying59 hi hz0 .i64 .i64 (m:Int) (m:Int) (by omega) (by omega) (by rw[hz2];omega) (by omega);rw[hz1] at this;simp only[Int.toNat_natCast,zhq] at this;exact this
def iV(n:Int):Nat:=if n<0 then 0 else if 1048576<n then 1048576 else n.toNat
theorem zhr(n:Nat)(hn:n<=1048576)(w:World):
  Calls prog 114 #[.int .i64 n] w fun e w'=>e=.returned (.pointer (some ⟨w.heap.size+1,0,none⟩))/\w'=(w.alloc (.cells (dY (gQ ((n+63)/64))) 27)).alloc (.cells #[.int .i64 n,.slice (some ⟨w.heap.size,0,none⟩) ((n+63)/64) ((n+63)/64)] 223):=by
 obtain⟨m,hm⟩:=xe ((n+63)/64);rw[<-hm];have hmk:=vA m (by omega);have hq:((n:Int)+64-1)/64=(m:Int):=by omega
 clear hm;go_enter func114,ntmps114;go_wp2
 go_ret;exact⟨rfl,rfl⟩
def aJ(n:Nat)(i:Int):Bool:=decide (0<=i/\i<n)
theorem tO(b c n:Nat)(ws:List Nat)(i:Int)(w:World)(h:SetAt w b c n ws):
  Calls prog 230 #[.pointer (some ⟨b,0,none⟩),.int .i64 i] w fun e w'=>e=.returned (.bool (aJ n i))/\w'=w:=by
 have h0:=h.cb0;have hn:=h.nle;clear h;by_cases hi : 0<=i
 ·go_enter func230,ntmps230;go_wp2
  go_ret;exact⟨cE (by simp[aJ,hi]),rfl⟩
 ·go_enter func230,ntmps230;go_wp2
  go_ret;exact⟨cE (by simp[aJ];omega),rfl⟩
def iF(ws:List Nat)(j:Nat):Bool:=(ws.getD (j/64) 0)/2 ^ (j%64)%2 == 1
def kI(n:Nat)(ws:List Nat)(i:Int):Bool:=aJ n i && iF ws i.toNat
theorem DG(b c n:Nat)(ws:List Nat)(i:Int)(w:World)(h:SetAt w b c n ws):
  Calls prog 229 #[.pointer (some ⟨b,0,none⟩),.int .i64 i] w fun e w'=>e=.returned (.bool (kI n ws i))/\w'=w:=by
 by_cases hi : 0<=i/\i<n
 ·obtain⟨k,rfl⟩:=Int.eq_ofNat_of_zero_le hi.1;have hl:=h.len;have hn:=h.nle;have hkn:k<n:=by omega
  obtain⟨q,hq⟩:=xe (k/64);obtain⟨r,hr⟩:=xe (k%64);have hql:q<ws.length:=by omega
  have hr64:r<64:=by omega
  have hcc:=h.cc q hql;have hlt:=h.lt64 q;have h1:=h.cb1;obtain⟨x,hx⟩:=xe (ws.getD q 0);rw[<-hx] at hcc hlt;have hd:aJ n (k:Int)=true:=by simpa [aJ] using hi
  have E:Hid (((bits BinOp.and IntKind.u64 ((x:Int)/2 ^ r) 1) == 1)=kI n ws k):=by
   show _=_
   rw[vO x r hlt];have hd2:x/2 ^ r<2 ^ 64:=Nat.lt_of_le_of_lt (Nat.div_le_self _ _) hlt;have:=u64_and_nat (x/2 ^ r) 1 (by omega) (by decide);rw[nat_mask1] at this;rw[show(1:Int)=((1:Nat):Int)from rfl,this];unfold kI iF;rw[hd,Int.toNat_natCast,<-hq,<-hr,<-hx,Bool.true_and,Bool.eq_iff_iff];simp only[beq_iff_eq];omega
  have hq1:(k:Int)/64=(q:Int):=by omega
  have hr1:(k:Int)%64=(r:Int):=by omega
  have HA:=aA h;have hkb:k<=1048576:=by omega
  clear hx h hi hl hq hr hkn;go_enter func229,ntmps229;go_wp2_with (go_at_call 230;refine(tO b c n ws _ _ HA.out).mono ?_;rintro e w' ⟨rfl,rfl⟩)
  go_ret;exact⟨cE E.out,rfl⟩
 ·have hd:aJ n i=false:=by simp only[aJ];exact decide_eq_false hi
  clear hi;go_enter func229,ntmps229;go_wp2_with (go_at_call 230;refine(tO b c n ws _ _ h).mono ?_;rintro e w' ⟨rfl,rfl⟩)
  go_ret;exact⟨cE (by simp[kI,hd]),rfl⟩
structure Kt(S:Nat->Prop)(w w':World):Prop where
 os:w'.os=w.os
 tape:w'.tape=w.tape
 output:w'.output=w.output
 size:w.heap.size<=w'.heap.size
 block:∀ k,k<w.heap.size->¬S k->w'.heap[k]?=w.heap[k]?
theorem Kt.refl(S:Nat->Prop)(w:World):Kt S w w:=⟨rfl,rfl,rfl,Nat.le_refl _,fun _ _ _=>rfl⟩
theorem Kt.trans{S T U:Nat->Prop}{a b c:World}(h:Kt S a b)(k:Kt T b c)(hS:∀ x,x<a.heap.size->S x->U x)(hT:∀ x,x<a.heap.size->T x->U x):Kt U a c:=
 ⟨k.os.trans h.os,k.tape.trans h.tape,k.output.trans h.output,Nat.le_trans h.size k.size,fun i hi hU=>(k.block i (Nat.lt_of_lt_of_le hi h.size) (fun x=>hU (hT i hi x))).trans (h.block i hi (fun x=>hU (hS i hi x)))⟩
theorem Kt.mono{S T:Nat->Prop}{a b:World}(h:Kt S a b)(hS:∀ x,x<a.heap.size->S x->T x):Kt T a b:=
 ⟨h.os,h.tape,h.output,h.size,fun i hi hU=>h.block i hi (fun x=>hU (hS i hi x))⟩
theorem Kt.below{S:Nat->Prop}{B:Nat}{a b:World}(h:Kt S a b)(hB:B<=a.heap.size)(hS:∀ x,S x->B<=x):Below B a b:=
 ⟨h.os,h.tape,h.output,h.size,fun i hi=>h.block i (by omega) (fun x=>by have:=hS i x;omega)⟩
theorem Kt.drew{S:Nat->Prop}{a b:World}(h:Kt S a b):Kt S a b.drew:=⟨h.os,h.tape,h.output,h.size,h.block⟩
theorem Kt.alloc{S:Nat->Prop}{a b:World}(h:Kt S a b)(o:Obj):Kt S a (b.alloc o):=
 ⟨h.os,h.tape,h.output,by simp;have:=h.size;omega,fun i hi hU=>by rw[Below.heap_alloc _ _ _ (by have:=h.size;omega)];exact h.block i hi hU⟩
theorem Kt.setCell{S:Nat->Prop}{a b:World}(h:Kt S a b){p:Addr}(hp:S p.block)(u:Value):Kt S a (b.setCell p u):=
 ⟨h.os,h.tape,h.output,by simp;exact h.size,fun i hi hU=>by rw[Below.heap_setCell b p u i (fun e=>hU (by rw[e];exact hp))];exact h.block i hi hU⟩
structure RawAt(w:World)(b c n:Nat)(ws:List Nat):Prop where
 ne:c≠b
 hb:w.heap[b]?=some (.cells #[.int .i64 n,.slice (some ⟨c,0,none⟩) ws.length ws.length] 223 (0,0))
 hc:w.heap[c]?=some (.cells (dY ws) 27 (0,0))
 len:ws.length=(n+63)/64
 nle:n<=1048576
 lt:∀ i,ws.getD i 0<2 ^ 64
theorem SetAt.raw{w b c n ws}(h:SetAt w b c n ws):RawAt w b c n ws:=⟨h.ne,h.hb,h.hc,h.len,h.nle,h.lt64⟩
theorem RawAt.set{w b c n ws}(h:RawAt w b c n ws)(ok:∀ i,i<ws.length->ws.getD i 0<2 ^ (min 64 (n-64*i))):SetAt w b c n ws:=⟨h.ne,h.hb,h.hc,h.len,h.nle,ok⟩
theorem RawAt.cb0{w b c n ws}(h:RawAt w b c n ws):w.cell? ⟨b,0,none⟩=some (.int .i64 n):=by simp[World.cell?,h.hb]
theorem RawAt.cb1{w b c n ws}(h:RawAt w b c n ws):w.cell? ⟨b,1,none⟩=some (.slice (some ⟨c,0,none⟩) ws.length ws.length):=by simp[World.cell?,h.hb]
theorem RawAt.cc{w b c n ws}(h:RawAt w b c n ws)(i:Nat)(hi:i<ws.length):w.cell? ⟨c,i,none⟩=some (.int .u64 ((ws.getD i 0:Nat):Int)):=by
 simp[World.cell?,h.hc,dY,hi]
theorem RawAt.fc{w b c n ws}(h:RawAt w b c n ws)(i:Nat):w.frozen? ⟨c,i,none⟩=false:=by simp[World.frozen?,h.hc]
theorem RawAt.bc{w b c n ws}(h:RawAt w b c n ws):b<w.heap.size/\c<w.heap.size:=
 ⟨(Array.getElem?_eq_some_iff.1 h.hb).1,(Array.getElem?_eq_some_iff.1 h.hc).1⟩
theorem RawAt.kept{w w' b c n ws}{S:Nat->Prop}(h:RawAt w b c n ws)(k:Kt S w w')(hb:¬S b)(hc:¬S c):RawAt w' b c n ws:=
 ⟨h.ne,(k.block b h.bc.1 hb).trans h.hb,(k.block c h.bc.2 hc).trans h.hc,h.len,h.nle,h.lt⟩
theorem SetAt.kept{w w' b c n ws}{S:Nat->Prop}(h:SetAt w b c n ws)(k:Kt S w w')(hb:¬S b)(hc:¬S c):SetAt w' b c n ws:=
 (h.raw.kept k hb hc).set h.ok
theorem vB(ws:List Nat)(q y:Nat)(hq:q<ws.length):(ws.set q y).getD q 0=y:=by simp[List.getD,hq]
theorem uV(ws:List Nat)(q y i:Nat)(h:i≠q):(ws.set q y).getD i 0=ws.getD i 0:=by
 simp[List.getD,Ne.symm h]
theorem RawAt.write{w b c n ws}(h:RawAt w b c n ws)(q y:Nat)(hq:q<ws.length)(hy:y<2 ^ 64):RawAt (w.setCell ⟨c,q,none⟩ (.int .u64 y)) b c n (ws.set q y):=by
 refine⟨h.ne,?_,?_,by simpa using h.len,h.nle,?_⟩
 ·rw[Below.heap_setCell _ _ _ _ (fun e=>h.ne e.symm),h.hb];simp
 ·have hlt:=h.bc.2;have hv:=(Array.getElem?_eq_some_iff.1 h.hc).2;simp only[World.setCell];rw[Array.getElem?_modify,if_pos rfl,h.hc];simp[dY,List.map_set]
 ·intro i;by_cases e:i=q
  ·subst e;rw[vB ws i y hq];exact hy
  ·rw[uV ws q y i e];exact h.lt i
theorem RawAt.drew{w b c n ws}(h:RawAt w b c n ws):RawAt w.drew b c n ws:=⟨h.ne,h.hb,h.hc,h.len,h.nle,h.lt⟩
theorem nH(w:World)(o:Obj):(w.alloc o).heap[w.heap.size]?=some o:=by
 show(w.heap.push o)[w.heap.size]?=_
 simp
theorem IY(n:Int)(hlo : -9223372036854775808<=n)(hhi:n<=9223372036854775807)(w:World):
  Calls prog 114 #[.int .i64 n] w fun e w'=>e=.returned (.pointer (some ⟨w.heap.size+1,0,none⟩))/\RawAt w' (w.heap.size+1) w.heap.size (iV n) (gQ ((iV n+63)/64))/\Kt (fun _=>False) w w'/\w'.heap.size=w.heap.size+2:=by
 have key:∀ (w':World) (N:Nat),N<=1048576->iV n=N->w'=(w.alloc (.cells (dY (gQ ((N+63)/64))) 27)).alloc (.cells #[.int .i64 N,.slice (some ⟨w.heap.size,0,none⟩) ((N+63)/64) ((N+63)/64)] 223)->
   RawAt w' (w.heap.size+1) w.heap.size (iV n) (gQ ((iV n+63)/64))/\Kt (fun _=>False) w w'/\w'.heap.size=w.heap.size+2:=by
  intro w' N hN hf hw;rw[hf];subst hw;refine⟨⟨by omega,?_,?_,by simp[pW],hN,?_⟩,((Kt.refl _ w).alloc _).alloc _,by simp⟩
  ·have:=nH (w.alloc (.cells (dY (gQ ((N+63)/64))) 27)) (.cells #[.int .i64 N,.slice (some ⟨w.heap.size,0,none⟩) ((N+63)/64) ((N+63)/64)] 223);rw[World.size_alloc] at this;rw[this,pW]
  ·rw[Below.heap_alloc _ _ _ (by simp),nH]
  ·intro i;rw[uI];decide
 by_cases h1:n<0
 ·have hf:iV n=0:=by simp[iV,h1]
  have hmk:∀ w,(Instr.makeSlice 59 (.int .i64 0) (.int .i64 0)).run prog w=.ok (.slice (some ⟨w.heap.size,0,none⟩) 0 0) (w.alloc (.cells (dY (gQ 0)) 27)):=vA 0 (by omega);have KEY:=aA (key _ 0 (by omega) hf rfl);clear key hf;go_enter func114,ntmps114;go_wp2
  go_ret;exact⟨rfl,KEY.out⟩
 ·by_cases h2 : 1048576<n
  ·have hf:iV n=1048576:=(by simp[iV,h1,h2]);have hmk:∀ w,(Instr.makeSlice 59 (.int .i64 16384) (.int .i64 16384)).run prog w=.ok (.slice (some ⟨w.heap.size,0,none⟩) 16384 16384) (w.alloc (.cells (dY (gQ 16384)) 27)):=vA 16384 (by omega);have KEY:=aA (key _ 1048576 (by omega) hf rfl);clear key hf;go_enter func114,ntmps114;go_wp2
   go_ret;exact⟨rfl,KEY.out⟩
  ·obtain⟨k,rfl⟩:=Int.eq_ofNat_of_zero_le (by omega : 0<=n);have hf:iV (k:Int)=k:=(by simp[iV,h1,h2]);exact(zhr k (by omega) w).mono fun e w' ⟨he,hw⟩=>⟨he,key w' k (by omega) hf hw⟩
theorem TZ(b c n:Nat)(ws:List Nat)(k:Nat)(w:World)(h:SetAt w b c n ws)(hk:k<n):
  Calls prog 224 #[.pointer (some ⟨b,0,none⟩),.int .i64 k] w fun e w'=>e=.returned (.bool true)/\RawAt w' b c n (ws.set (k/64) ((ws.getD (k/64) 0) ^^^ 2 ^ (k%64)))/\Kt (fun x=>x=c) w w'/\w'.heap.size=w.heap.size:=by
 obtain⟨q,hq⟩:=xe (k/64);obtain⟨r,hr⟩:=xe (k%64);rw[<-hq,<-hr];have hl:=h.len;have hn:=h.nle;have hql:q<ws.length:=by omega
 have hr64:r<64:=by omega
 have hcc:=h.cc q hql;have hlt:=h.lt64 q;have h1:=h.cb1;have hf:=h.fc q;obtain⟨x,hx⟩:=xe (ws.getD q 0);rw[<-hx] at hcc hlt ⊢;have hd:aJ n (k:Int)=true:=by simp only[aJ];exact decide_eq_true (by omega)
 have hq1:(k:Int)/64=(q:Int):=by omega
 have hr1:(k:Int)%64=(r:Int):=by omega
 have hkb:k<=1048576:=by omega
 have hp : 2 ^ r<2 ^ 64:=(jX r 64).2 hr64;have hy:x ^^^ 2 ^ r<2 ^ 64:=Nat.xor_lt_two_pow hlt hp;have E:bits BinOp.xor IntKind.u64 (x:Int) (2 ^ r)=((x ^^^ 2 ^ r:Nat):Int):=by
  have:=bits_xor_u64_nat x (2 ^ r) hlt hp;rw[<-this];simp
 obtain⟨y,hyd⟩:=xe (x ^^^ 2 ^ r);rw[<-hyd] at hy E ⊢;have fin:RawAt (w.setCell ⟨c,q,none⟩ (.int .u64 y)).drew b c n (ws.set q y)/\Kt (fun x=>x=c) w (w.setCell ⟨c,q,none⟩ (.int .u64 y)).drew/\(w.setCell ⟨c,q,none⟩ (.int .u64 y)).drew.heap.size=w.heap.size:=
  ⟨(h.raw.write q y hql hy).drew,((Kt.refl (fun x=>x=c) w).setCell (p:=⟨c,q,none⟩) rfl _).drew,by simp⟩
 have FIN:=aA fin;have HA:=aA h;have hw2:IntKind.u64.wrap (2 ^ r)=2 ^ r:=by
  rw[wrap_u64];have:((2:Int) ^ r)=((2 ^ r:Nat):Int):=by simp
  rw[this];obtain⟨p,hp2⟩:=xe (2 ^ r);rw[<-hp2] at hp ⊢;omega
 clear hx h hl hq hr hk fin hyd hp;go_enter func224,ntmps224;go_wp2_with (go_at_call 230;refine(tO b c n ws _ _ HA.out).mono ?_;rintro e w' ⟨rfl,rfl⟩)
 go_region
 all_goals (go_wp2;go_ret;exact⟨rfl,FIN.out⟩)
def oE(ws:List Nat)(k:Nat):List Nat:=ws.set (k/64) ((ws.getD (k/64) 0) ^^^ 2 ^ (k%64))
theorem ziV(ws:List Nat)(k:Nat):(oE ws k).length=ws.length:=by simp[oE]
theorem YJ(b c n:Nat)(ws:List Nat)(k:Nat)(w:World)(h:SetAt w b c n ws)(hk:k<n):
  Calls prog 224 #[.pointer (some ⟨b,0,none⟩),.int .i64 k] w fun e w'=>e=.returned (.bool true)/\SetAt w' b c n (oE ws k)/\Kt (fun x=>x=c) w w'/\w'.heap.size=w.heap.size:=by
 refine(TZ b c n ws k w h hk).mono ?_;rintro e w' ⟨he,hr,hk',hs⟩;refine⟨he,hr.set ?_,hk',hs⟩;intro i hi;have hl:=h.len;by_cases e:i=k/64
 ·subst e;rw[vB _ _ _ (by omega)];exact Nat.xor_lt_two_pow (h.ok _ (by omega)) ((jX _ _).2 (by omega))
 ·rw[uV _ _ _ _ e];exact h.ok i (by simpa using hi)
theorem TY(b c n:Nat)(ws:List Nat)(i:Int)(w:World)(h:SetAt w b c n ws)(hd:aJ n i=false):
  Calls prog 224 #[.pointer (some ⟨b,0,none⟩),.int .i64 i] w fun e w'=>e=.returned (.bool false)/\w'=w:=by
 go_enter func224,ntmps224;go_wp2_with (go_at_call 230;refine(tO b c n ws _ _ h).mono ?_;rintro e w' ⟨rfl,rfl⟩)
 go_ret;exact⟨rfl,rfl⟩
theorem YH{n:Nat}{i:Int}(h:aJ n i=true):∃ k:Nat,i=k/\k<n:=by
 simp[aJ] at h;obtain⟨k,rfl⟩:=Int.eq_ofNat_of_zero_le h.1;exact⟨k,rfl,by omega⟩
def kP(n:Nat)(ws:List Nat)(i:Int):List Nat:=if aJ n i=true then oE ws i.toNat else ws
theorem YG(b c n:Nat)(ws:List Nat)(i:Int)(w:World)(h:SetAt w b c n ws):
  Calls prog 224 #[.pointer (some ⟨b,0,none⟩),.int .i64 i] w fun e w'=>e=.returned (.bool (aJ n i))/\SetAt w' b c n (kP n ws i)/\Kt (fun x=>x=c) w w'/\w'.heap.size=w.heap.size:=by
 cases hd:aJ n i with
 | true=>
  obtain⟨k,rfl,hk⟩:=YH hd;refine(YJ b c n ws k w h hk).mono ?_;rintro e w' ⟨he,h1⟩;simp only[kP,hd,if_true,Int.toNat_natCast];exact⟨he,h1⟩
 | false=>
  refine(TY b c n ws i w h hd).mono ?_;rintro e w' ⟨he,hw⟩;subst hw;have e1:kP n ws i=ws:=by simp[kP,hd]
  rw[e1];exact⟨he,h,Kt.refl _ _,rfl⟩
def mL(n:Nat)(ws:List Nat):List Nat:=if n%64=0 then ws else ws.set (ws.length-1) (ws.getD (ws.length-1) 0%2 ^ (n%64))
theorem FX(r:Nat):((2:Int) ^ r)=((2 ^ r:Nat):Int):=by simp
theorem zM(r:Nat)(h:r<64) : 1<=(2:Int) ^ r/\(2:Int) ^ r<18446744073709551616:=by
 have h1:=(jX r 64).2 h;have h2:=Nat.two_pow_pos r;rw[FX];obtain⟨p,hp⟩:=xe (2 ^ r);rw[<-hp] at h1 h2 ⊢;omega
theorem YF(r:Nat)(h:r<64):IntKind.u64.wrap (2 ^ r)=2 ^ r:=by
 have:=zM r h;rw[wrap_u64];omega
theorem VG(b c n:Nat)(ws:List Nat)(w:World)(h:RawAt w b c n ws):
  Calls prog 235 #[.pointer (some ⟨b,0,none⟩)] w fun e w'=>e=.returned (.tuple #[])/\RawAt w' b c n (mL n ws)/\Kt (fun x=>x=c) w w'/\w'.heap.size=w.heap.size:=by
 have h0:=h.cb0;have hn:=h.nle;obtain⟨r,hr⟩:=xe (n%64);have hr1:(n:Int)%64=(r:Int):=by omega
 have hr64:r<64:=by omega
 by_cases hz:n%64=0
 ·have e1:mL n ws=ws:=by simp[mL,hz]
  rw[e1];have:r=0:=by omega
  subst this;clear hr e1 hz;go_enter func235,ntmps235;go_wp2
  go_end0
  exact⟨rfl,h,Kt.refl _ _,rfl⟩
 ·have hl:=h.len;obtain⟨q,hq⟩:=xe (ws.length-1);have hql:q<ws.length:=by omega
  have hcc:=h.cc q hql;have hlt:=h.lt q;have h1:=h.cb1;have hf:=h.fc q;obtain⟨x,hx⟩:=xe (ws.getD q 0);have e1:mL n ws=ws.set q (x%2 ^ r):=by simp only[mL,hz,if_false,hx,hq,hr]
  rw[e1];rw[<-hx] at hcc hlt;have hy:x%2 ^ r<2 ^ 64:=Nat.lt_of_le_of_lt (Nat.mod_le _ _) hlt;have E:bits BinOp.and IntKind.u64 (x:Int) (2 ^ r-1)=((x%2 ^ r:Nat):Int):=by
   have hp:=Nat.two_pow_pos r;have hp2:=(jX r 64).2 hr64;have:=u64_and_nat x (2 ^ r-1) hlt (by omega);rw[Nat.and_two_pow_sub_one_eq_mod] at this;rw[<-this];congr 1
   rw[FX];omega
  obtain⟨y,hyd⟩:=xe (x%2 ^ r);rw[<-hyd] at hy E ⊢;have hq1:(ws.length:Int)-1=(q:Int):=by omega
  have hpb:=zM r hr64;have hpb1:=hpb.1;have hpb2:=hpb.2;have hw:=YF r hr64;have hrn:((r:Int) != 0)=true:=by rw[bne_iff_ne];omega
  have hlm:ws.length<=1048576:=by omega
  have fin:RawAt (w.setCell ⟨c,q,none⟩ (.int .u64 y)).drew b c n (ws.set q y)/\Kt (fun x=>x=c) w (w.setCell ⟨c,q,none⟩ (.int .u64 y)).drew/\(w.setCell ⟨c,q,none⟩ (.int .u64 y)).drew.heap.size=w.heap.size:=
   ⟨(h.write q y hql hy).drew,((Kt.refl (fun x=>x=c) w).setCell (p:=⟨c,q,none⟩) rfl _).drew,by simp⟩
  have FIN:=aA fin;clear hx h hl hq hr fin hyd hpb e1 hz;go_enter func235,ntmps235;go_wp2
  go_region
  all_goals (go_wp2;go_end0;exact⟨rfl,FIN.out⟩)
def pB(w:World)(v:Value)(zs:List Nat):Prop:=
 (∀ i,zs.getD i 0<2 ^ 64)/\∃ ao cap,v=.slice ao zs.length cap/\(zs=[]\/∃ a:Addr,ao=some a/\a.block<w.heap.size/\∀ j,j<zs.length->w.cell? (a.add j)=some (.int .u64 ((zs.getD j 0:Nat):Int)))
theorem addr_add_block(a:Addr)(j:Nat):(a.add j).block=a.block:=by unfold Addr.add;split <;> rfl
theorem pB.kept{w w':World}{S:Nat->Prop}{v:Value}{zs:List Nat}(h:pB w v zs)(k:Kt S w w')(hS:∀ b,v.ownBlock=some b->¬S b):pB w' v zs:=by
 obtain⟨h1,ao,cap,rfl,h2⟩:=h;refine⟨h1,ao,cap,rfl,?_⟩;rcases h2 with h2|⟨a,rfl,hb,hc⟩
 ·exact Or.inl h2
 ·refine Or.inr ⟨a,rfl,Nat.lt_of_lt_of_le hb k.size,fun j hj=>?_⟩;rw[<-hc j hj];exact World.cell?_of_block (by rw[addr_add_block];exact k.block _ hb (hS a.block rfl))
def over(zs ws:List Nat):List Nat:=zs.take ws.length ++ ws.drop zs.length
theorem rJ(zs ws:List Nat):(over zs ws).length=ws.length:=by simp[over];omega
theorem FW(zs ws:List Nat)(i:Nat)(hi:i<ws.length):(over zs ws).getD i 0=if i<zs.length then zs.getD i 0 else ws.getD i 0:=by
 simp only[over,List.getD,List.getElem?_append,List.length_take,List.getElem?_take,List.getElem?_drop];by_cases h:i<zs.length
 ·have h0:i<min ws.length zs.length:=by omega
  simp[h,hi,h0]
 ·have h2:¬i<min ws.length zs.length:=by omega
  simp only[h2,h,if_false];by_cases h3:zs.length<=ws.length
  ·congr 2;omega
  ·have:¬i<ws.length:=by omega
   exact absurd hi this
theorem zfN(zs ws:List Nat)(cs:List Value)(hcs:cs=(zs.take ws.length).map fun (x:Nat)=>Value.int .u64 x):((dY ws).toList.take 0 ++ cs ++ (dY ws).toList.drop (0 + cs.length)).toArray=dY (over zs ws):=by
 subst hcs;simp only[dY,over,List.take_zero,List.nil_append,Nat.zero_add,List.map_append,List.length_map,List.length_take];congr 2
 rw[<-List.map_drop];by_cases h:zs.length<=ws.length
 ·rw[Nat.min_eq_right h]
 ·rw[Nat.min_eq_left (by omega),List.drop_eq_nil_of_le (Nat.le_refl _),List.drop_eq_nil_of_le (by omega)]
theorem zhs(w:World)(g:Nat)(ds:List Nat)(v:Value)(zs:List Nat)(hg:w.heap[g]?=some (.cells (dY ds) 27 (0,0)))(hs:pB w v zs):
  ∃ (k:Nat) (w2:World),(∀ ty,(Builtin.copy_ #[59,59] ty #[.slice (some ⟨g,0,none⟩) ds.length ds.length,v]).run prog w=.ok (goInt k) w2)/\w2.heap[g]?=some (.cells (dY (over zs ds)) 27 (0,0))/\Kt (fun x=>x=g) w w2/\w2.heap.size=w.heap.size:=by
 obtain⟨i,hi,hz0,hz1,hz2⟩:=info_parts uT;obtain⟨h1,ao,cap,rfl,h2⟩:=hs;rcases h2 with rfl|⟨a,rfl,hb,hc⟩
 ·refine⟨0,w,fun ty=>?_,?_,Kt.refl _ _,rfl⟩
  ·exact run_copy_none (P:=prog) w 59 59 ty 27 (some ⟨g,0,none⟩) ao ds.length ds.length 0 cap Tryz.underlying59 (by rw[hi];simp[hz1]) (Nat.zero_min _)
  ·simpa [over] using hg
 ·obtain⟨cs,hcs⟩:∃ cs:List Value,cs=(zs.take ds.length).map fun (x:Nat)=>Value.int .u64 x:=⟨_,rfl⟩
  have hlen:cs.length=min zs.length ds.length:=by rw[hcs];simp;omega
  refine⟨cs.length,w.setRow g ((dY ds).toList.take 0 ++ cs ++ (dY ds).toList.drop (0 + cs.length)).toArray,fun ty=>?_,?_,?_,by simp[World.setRow]⟩
  ·refine run_copy_row (P:=prog) w 59 59 ty 27 g 0 ds.length ds.length a zs.length cap (dY ds) 27 cs Tryz.underlying59 (by rw[hi];simp[hz1]) hg hlen ?_ ?_ ?_
   ·intro j u hj;rw[hcs] at hj;simp only[List.getElem?_map,List.getElem?_take] at hj;have hjl:j<cs.length:=by
     rcases Nat.lt_or_ge j cs.length with h|h
     ·exact h
     ·exfalso
      have:¬j<ds.length\/¬j<zs.length:=by omega
      rcases this with h3|h3
      ·simp[h3] at hj
      ·simp[Nat.not_lt.1 h3] at hj
    have h3:j<ds.length:=(by omega);have h4:j<zs.length:=(by omega);simp[h3,h4] at hj;rw[hc j h4,<-hj];simp[List.getD,h4]
   ·simp[dY];omega
   ·intro u hu;rw[hcs] at hu;obtain⟨_,_,rfl⟩:=List.mem_map.1 hu;rfl
  ·rw[setRow_heap w g (dY ds) _ 27 (0,0) hg,zfN zs ds cs hcs]
  ·exact⟨rfl,rfl,rfl,by simp[World.setRow],fun k hk hn=>setRow_other w g k _ hn⟩
def jU(zs:List Nat)(N:Nat):List Nat:=mL N (over zs (gQ ((N+63)/64)))
theorem ziW(n:Nat)(ws:List Nat):(mL n ws).length=ws.length:=by unfold mL;split <;> simp
theorem wM(zs:List Nat)(N:Nat):(jU zs N).length=(N+63)/64:=by rw[jU,ziW,rJ,pW]
theorem yG(zs:List Nat)(m i:Nat)(hi:i<m):(over zs (gQ m)).getD i 0=zs.getD i 0:=by
 rw[FW _ _ _ (by rw[pW];exact hi),uI];split
 ·rfl
 ·simp[List.getD,Nat.not_lt.1 (by assumption)]
theorem DB(zs:List Nat)(N i:Nat)(hz:∀ i,zs.getD i 0<2 ^ 64)(hi:i<(N+63)/64):(jU zs N).getD i 0=zs.getD i 0%2 ^ (min 64 (N-64*i)):=by
 have hl:(over zs (gQ ((N+63)/64))).length=(N+63)/64:=by rw[rJ,pW]
 unfold jU mL;split
 ·rename_i h0;rw[yG _ _ _ hi,Nat.min_eq_left (by omega),Nat.mod_eq_of_lt (hz i)]
 ·rename_i h0;rw[hl];by_cases e:i=(N+63)/64-1
  ·rw[<-e,vB _ _ _ (by omega),yG _ _ _ hi];congr 2
   omega
  ·rw[uV _ _ _ _ e,yG _ _ _ hi,Nat.min_eq_left (by omega),Nat.mod_eq_of_lt (hz i)]
theorem MG(zs:List Nat)(N:Nat)(hz:∀ i,zs.getD i 0<2 ^ 64)(i:Nat)(hi:i<(jU zs N).length):(jU zs N).getD i 0<2 ^ (min 64 (N-64*i)):=by
 rw[wM] at hi;rw[DB zs N i hz hi];exact Nat.mod_lt _ (Nat.two_pow_pos _)
theorem RawAt.copied{w w2 b c n ws}(h:RawAt w b c n ws)(zs:List Nat)(hz:∀ i,zs.getD i 0<2 ^ 64)(hg:w2.heap[c]?=some (.cells (dY (over zs ws)) 27 (0,0)))(k:Kt (fun x=>x=c) w w2):RawAt w2 b c n (over zs ws):=by
 refine⟨h.ne,?_,hg,by rw[rJ];exact h.len,h.nle,?_⟩
 ·rw[k.block b h.bc.1 (fun e=>h.ne e.symm),h.hb,rJ]
 ·intro i;by_cases hi:i<ws.length
  ·rw[FW _ _ _ hi];split
   ·exact hz i
   ·exact h.lt i
  ·have:(over zs ws).getD i 0=0:=by simp[List.getD,rJ,Nat.not_lt.1 hi]
   rw[this];decide
theorem ME(v:Value)(zs:List Nat)(n:Int)(hlo : -9223372036854775808<=n)(hhi:n<=9223372036854775807)(w:World)(hs:pB w v zs):
  Calls prog 228 #[v,.int .i64 n] w fun e w'=>e=.returned (.pointer (some ⟨w.heap.size+1,0,none⟩))/\SetAt w' (w.heap.size+1) w.heap.size (iV n) (jU zs (iV n))/\Kt (fun _=>False) w w'/\w'.heap.size=w.heap.size+2:=by
 have HS:=aA hs;clear hs;go_enter func228,ntmps228;go_wp2_with (first|(go_at_call 114;refine(IY n hlo hhi _).mono ?_;rintro e w1 ⟨rfl,hraw,hk,hsz⟩;have h1:=hraw.cb1;obtain⟨kk,w2,hcp,hg2,hk2,hs2⟩:=zhs w1 w.heap.size _ v zs hraw.hc (HS.out.kept hk (fun _ _ x=>x));have HR:=aA (hraw.copied zs HS.out.1 hg2 hk2);have HK:=aA hk;have HK2:=aA hk2;have HZ:=aA hsz;have HZ2:=aA hs2;clear hraw hk hk2 hg2 hsz hs2)|(go_at_call 235;refine(VG _ _ _ _ _ HR.out).mono ?_;rintro e w3 ⟨rfl,hr3,hk3,hs3⟩))
 go_ret;have e1:=HZ.out;have e2:=HZ2.out;exact⟨rfl,hr3.set (MG zs _ HS.out.1),(HK.out.trans (U:=fun _=>False) HK2.out (fun _ _ x=>x) (fun x hx e=>by omega)).trans hk3 (fun _ _ x=>x) (fun x hx e=>by omega),by omega⟩
theorem YE(m:Nat)(hm:m<=1048576)(w:World):
  ∃ w1,(Instr.makeSlice 59 (.int .i64 m) (.int .i64 m)).run prog w=.ok (.slice (some ⟨w.heap.size,0,none⟩) m m) w1/\w1.heap[w.heap.size]?=some (.cells (dY (gQ m)) 27 (0,0))/\Kt (fun _=>False) w w1/\w1.heap.size=w.heap.size+1:=
 ⟨_,vA m hm w,nH _ _,(Kt.refl _ w).alloc _,by simp⟩
theorem ziY{w:World}{g:Nat}{zs:List Nat}(hg:w.heap[g]?=some (.cells (dY zs) 27 (0,0)))(hz:∀ i,zs.getD i 0<2 ^ 64)(cap:Nat):pB w (.slice (some ⟨g,0,none⟩) zs.length cap) zs:=by
 refine⟨hz,some ⟨g,0,none⟩,cap,rfl,Or.inr ⟨⟨g,0,none⟩,rfl,(Array.getElem?_eq_some_iff.1 hg).1,fun j hj=>?_⟩⟩;rw[Addr.add_lit];simp[World.cell?,hg,dY,hj]
theorem SetAt.stored{w:World}{b c n ws b' c' n' ws'}(hB:SetAt w b c n ws)(hA:SetAt w b' c' n' ws')(hne:c'≠b):
  SetAt ((w.setCell ⟨b,0,none⟩ (.int .i64 n')).setCell ⟨b,1,none⟩ (.slice (some ⟨c',0,none⟩) ws'.length ws'.length)) b c' n' ws':=by
 refine⟨hne,?_,?_,hA.len,hA.nle,hA.ok⟩
 ·simp[World.setCell,Array.getElem?_modify,hB.hb]
 ·rw[Below.heap_setCell _ _ _ _ hne,Below.heap_setCell _ _ _ _ hne];exact hA.hc
theorem zht(b c n:Nat)(ws:List Nat)(i:Int)(hlo : -9223372036854775808<=i)(hhi:i<=9223372036854775807)(w:World)(h:SetAt w b c n ws):
  Calls prog 218 #[.pointer (some ⟨b,0,none⟩),.int .i64 i] w fun e w'=>e=.returned (.tuple #[])/\SetAt w' b w.heap.size (iV i) (jU ws (iV i))/\Kt (fun x=>x=b) w w'/\w'.heap.size=w.heap.size+2:=by
 have h1:=h.cb1;have HA:=aA h;have HS:=aA (ziY h.hc h.lt64 ws.length);clear h;go_enter func218,ntmps218;go_wp2_with (go_at_call 228;refine(ME _ ws i hlo hhi _ HS.out).mono ?_;rintro e w1 ⟨rfl,hA1,hk1,hs1⟩;have g0:=hA1.cb0;have g1:=hA1.cb1;have hB:=HA.out.kept hk1 (fun x=>x) (fun x=>x);have b0:=hB.cb0;have b1:=hB.cb1;have f0:=hB.fb 0;have f1:=hB.fb 1;have HA1:=aA hA1;have HB:=aA hB;have HK:=aA hk1;have HZ:=aA hs1;clear hA1 hB hk1 hs1)
 go_end0
 have hb:=HA.out.raw.bc;have hz:=HZ.out;refine⟨rfl,HB.out.stored HA1.out (by omega),?_,by simp;omega⟩;exact((HK.out.mono (T:=fun x=>x=b) (fun _ _ x=>x.elim)).setCell (p:=⟨b,0,none⟩) rfl _).setCell (p:=⟨b,1,none⟩) rfl _
end Go.Proofs.YtbgbfpklgfpepaaGreatDoor
