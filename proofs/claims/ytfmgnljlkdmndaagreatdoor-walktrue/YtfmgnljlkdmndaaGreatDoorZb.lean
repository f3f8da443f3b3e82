import Derived.Laws.BitsAllLaws
import Derived.Test.YtfmgnljlkdmndaaGreatDoorChecked
import Derived.WalkKit
import Derived.WalkSpells
import Derived.WalkLawsBesides
import Derived.Outline
import Derived.Laws.CopyOwn
import Derived.RegionTactic
import Derived.ChangeAlike
import Derived.Deep.RegionHeld3
import Derived.Deep.QuietTactic
import Derived.BigQuiet
import Derived.Test.YtfmgnljlkdmndaaGreatDoorHd
set_option maxRecDepth 1000000
set_option maxHeartbeats 80000000
namespace Go.Proofs.YtfmgnljlkdmndaaGreatDoor
open Tryz
set_option linter.unusedVariables false
def gJ(x:Nat):Bool:=decide (x≠0/\x &&& (x-1)=0)
def lg(x:Nat):Int:=if x=0 then -1 else (Nat.log2 x:Int)
def dB:Nat->Nat->Nat
 | 0,_=>0
 | k+1,x=>x%2+dB k (x/2)
def cl(x:Nat):Nat:=if x<=1 then 0 else Nat.log2 (x-1)+1
def lE(w x:Nat):Nat:=if cl x<w then 2 ^ cl x else 0
def pI(w x:Nat):Bool:=decide (cl x<w)
def lS(x a:Nat):Nat:=if gJ a=true then x/a*a else 0
theorem vI(x:Nat):gJ x=true↔∃ n,x=2 ^ n:=by
 unfold gJ;by_cases h:x=0
 ·subst h;simp
  intro n a;have:=ax n;omega
 ·rw[decide_eq_true_iff];have:=Nat.and_sub_one_eq_zero_iff_isPowerOfTwo h;unfold Nat.isPowerOfTwo at this;rw[this];simp[h]
theorem mM(a b:Nat) : 2 ^ a<=2 ^ b↔a<=b:=Nat.pow_le_pow_iff_right (by decide)
theorem iI(a b:Nat) : 2 ^ a<2 ^ b↔a<b:=Nat.pow_lt_pow_iff_right (by decide)
theorem CX(a b:Nat)(h : 2 ^ a=2 ^ b):a=b:=by have c:=(mM a b).1 (by omega);have d:=(mM b a).1 (by omega);omega
theorem QA(x:Nat) : -1<=lg x:=by unfold lg;split <;> omega
theorem CW:lg 0 = -1:=rfl
theorem oN(x:Nat)(h:x≠0):lg x=(Nat.log2 x:Int):=by unfold lg;simp[h]
theorem PZ(x w:Nat)(h:x<2 ^ w):lg x<(w:Int)\/x=0:=by
 by_cases h0:x=0
 ·exact Or.inr h0
 ·left
  rw[oN x h0];have:=(Nat.log2_lt h0).2 h;omega
theorem EV(x k:Nat)(h0:x/2 ^ k=0)(b:∀ j,j<k->x/2 ^ j≠0):(k:Int)-1=lg x:=by
 have e:x<2 ^ k:=by
  rcases Nat.div_eq_zero_iff.1 h0 with h|h
  ·have:=ax k;omega
  ·exact h
 by_cases hx:x=0
 ·subst hx;have:k=0:=by
   by_cases a:k=0
   ·exact a
   ·exact absurd (by simp) (b 0 (by omega))
  subst this;rw[CW];omega
 ·rw[oN x hx];have d:=(Nat.log2_lt hx).2 e;have c:k-1<=Nat.log2 x:=by
   by_cases a:k=0
   ·omega
   ·rw[Nat.le_log2 hx];have:=b (k-1) (by omega);rw[Ne,Nat.div_eq_zero_iff] at this;omega
  omega
theorem UN(x:Nat)(hx:x<2 ^ 64)(a:∀ j,j<64->x/2 ^ j≠0):(63:Int)=lg x:=by have h:=EV x 64 (Nat.div_eq_of_lt hx) a;omega
theorem UM(k x:Nat):dB k x<=k:=by
 induction k generalizing x with
 | zero=>simp[dB]
 | succ k a=>have:=a (x/2);simp only[dB];omega
theorem zjx(x k n:Nat)(h:k<n):dB (n-k) (x/2 ^ k)=x/2 ^ k%2+dB (n-(k+1)) (x/2 ^ (k+1)):=by
 have e:n-k=(n-(k+1))+1:=by omega
 rw[e,dB,Nat.div_div_eq_div_mul,<-ci]
theorem zjy(k:Nat):dB k 0=0:=by
 induction k with
 | zero=>rfl
 | succ k a=>simp[dB,a]
def cnt(x:Nat):Nat:=if h:x=0 then 0 else x%2+cnt (x/2)
 termination_by x
 decreasing_by omega
theorem uU(k x:Nat)(h:x<2 ^ k):cnt x=dB k x:=by
 induction k generalizing x with
 | zero=>
      have:x=0:=by omega
      subst this;rw[cnt];rfl
 | succ k a=>
  rw[cnt];split
  ·rename_i h0;subst h0;rw[zjy]
  ·rw[a (x/2) (by rw[ci] at h;omega)];rfl
theorem AU(x:Nat)(h:x<2 ^ 64):cnt x<=64:=by rw[uU 64 x h];exact UM 64 x
theorem DO(x n:Nat):x<=2 ^ n↔cl x<=n:=by
 unfold cl;split
 ·rename_i h;have:=ax n;constructor <;> intro <;> omega
 ·rename_i h;have a:x-1≠0:=by omega
  have:=Nat.log2_lt (k:=n) a;constructor
  ·intro b;have:=this.2 (by omega);omega
  ·intro b;have:=this.1 (by omega);omega
theorem PY(x:Nat):lg (x-1)+1=(cl x:Int):=by
 unfold lg cl;by_cases a:x<=1
 ·have:x-1=0:=by omega
  simp[this,a]
 ·have:x-1≠0:=by omega
  simp[this,a]
theorem PX(x w:Nat)(h:x<2 ^ w):cl x<=w:=(DO x w).1 (by omega)
theorem UK(n w:Nat)(h:n<=w) : 2 ^ n%2 ^ w=if n<w then 2 ^ n else 0:=by
 split
 ·rename_i a;exact Nat.mod_eq_of_lt ((iI n w).2 a)
 ·have:n=w:=by omega
  subst this;simp
theorem zgx(x n w:Nat)(hx:x<2 ^ w)(c:n<w):x &&& (2 ^ w-1-(2 ^ n-1))=x/2 ^ n*2 ^ n:=by
 have hp : 2 ^ n-1<2 ^ w:=by have:=(iI n w).2 c;omega
 apply Nat.eq_of_testBit_eq
 intro i;have e : 2 ^ w-1-(2 ^ n-1)=2 ^ w-((2 ^ n-1)+1):=by omega
 rw[Nat.testBit_and,e,Nat.testBit_two_pow_sub_succ hp,Nat.testBit_two_pow_sub_one];rw[<-Nat.shiftRight_eq_div_pow,<-Nat.shiftLeft_eq,Nat.testBit_shiftLeft,Nat.testBit_shiftRight];by_cases a:i<n
 ·simp[a,Nat.not_le.2 a]
 ·have f:n<=i:=by omega
  have d:n+(i-n)=i:=by omega
  simp[a,f,d];intro hb;by_cases b:i<w
  ·exact b
  ·have:=Nat.testBit_lt_two_pow (x:=x) (i:=i) (by have:=(mM w i).2 (by omega);omega);rw[this] at hb;cases hb
theorem rY(x k:Nat)(a:x<2 ^ 64):((x:Int)/2 ^ k)=((x/2 ^ k:Nat):Int):=by simp
theorem ZG(x a:Nat)(h:gJ a=false):lS x a=0:=by simp[lS,h]
theorem xD(x a:Nat)(h:gJ a=true):lS x a=x/a*a:=by simp[lS,h]
theorem UJ(a:Nat)(h:gJ a=true) : 1<=a:=by obtain⟨n,rfl⟩:=(vI a).1 h;exact ax n
theorem zfT(x a w:Nat)(hx:x<2 ^ w)(ha:a<2 ^ w)(h:gJ a=true):x &&& (2 ^ w-1-(a-1))=lS x a:=by rw[xD x a h];obtain⟨n,rfl⟩:=(vI a).1 h;exact zgx x n w hx ((iI n w).1 ha)
theorem PV(x w:Nat)(h:x<2 ^ w)(h0 : 1<=w):lg x+1<=(w:Int):=by
 rcases PZ x w h with h|h
 ·omega
 ·subst h;rw[CW];omega
theorem EU(W x:Nat)(hx:x<2 ^ W):((2:Int) ^ (lg (x-1)+1).toNat)%2 ^ W=((lE W x:Nat):Int):=by
 rw[PY,aa];have e:((2:Int) ^ cl x)%2 ^ W=((2 ^ cl x%2 ^ W:Nat):Int):=by simp
 rw[e,UK _ _ (PX x W hx)];rfl
theorem UI(W x:Nat):(((lE W x:Nat):Int) != 0)=pI W x:=by
 unfold lE pI;have:=ax (cl x);by_cases h:cl x<W
 ·rw[ae h,af h];exact cu.2 (by omega)
 ·simp[h]
open Go.RowKit
theorem aA{p:Prop}(h:p):Hd p:=h
theorem dZ{k:IntKind}{a b:Int}(h:a=b):Ending.returned (.int k a)=.returned (.int k b):=by rw[h]
theorem cO{a b:Bool}(h:a=b):Ending.returned (.bool a)=.returned (.bool b):=by rw[h]
theorem wrap_u64(n:Int):IntKind.u64.wrap n=n%2 ^ 64:=IntKind.wrap_u64 n
theorem YZ{k:IntKind}{a b:Int}{p q:Bool}(h:a=b)(c:p=q):Ending.returned (.tuple #[.int k a,.bool p])=.returned (.tuple #[.int k b,.bool q]):=by rw[h,c]
theorem zh7(x:Nat)(hx:x<2 ^ 64)(h:x≠0):(((x:Int) != 0) && (bits BinOp.and IntKind.u64 (x:Int) ((x:Int)-1) == 0))=gJ x:=by
 have e:((x:Int)-1)=((x-1:Nat):Int):=by omega
 rw[e,u64_and_nat x (x-1) (by omega) (by omega)];unfold gJ;by_cases a:x &&& (x-1)=0 <;> simp[h,a]
theorem tX(x:Nat)(hx:x<2 ^ 64)(w:World):
  Calls prog 58 #[.int .u64 x] w fun e a=>e=.returned (.bool (gJ x))/\a=w:=by
 by_cases h:x=0
 ·subst h;go_enter func58,ntmps58;go_wp2
  go_ret;exact⟨rfl,rfl⟩
 ·have e:=zh7 x hx h;have E:Hd ((((x:Int) != 0) && (bits BinOp.and IntKind.u64 (x:Int) ((x:Int)-1) == 0))=gJ x):=e;clear e;go_enter func58,ntmps58;go_wp2
  go_ret;exact⟨cO E.o,rfl⟩
theorem pS(x:Nat)(hx:x<2 ^ 64)(w:World):
  Calls prog 116 #[.int .u64 x] w fun e d=>e=.returned (.int .i64 (lg x))/\d=w:=by
 go_enter func116,ntmps116;go_wp2
 go_loop [4] (fun i=>∃ k:Nat,k<=64/\i=.int .i64 k/\Hd (∀ j,j<k->x/2 ^ j≠0)) (fun i=>64-(intOf i).toNat)
 case atStart=>exact⟨0,by omega,rfl,fun j c=>by omega⟩
 case round=>
  obtain⟨k,f,rfl,hp⟩:=hrel;by_cases a:k<64
  ·go_wp2
   ·go_ret;have h:((x:Int)/2 ^ (k) == 0)=true:=(by assumption);rw[rY x k hx] at h;exact⟨dZ (EV x k (Int.natCast_eq_zero.1 (eq_of_beq h)) hp.o),rfl⟩
   ·have h:((x:Int)/2 ^ (k) == 0)=false:=(by assumption);rw[rY x k hx] at h;go_round
    case rel=>
     refine⟨k+1,by omega,by go_num,?_⟩;intro j c;by_cases e:j<k
     ·exact hp.o j e
     ·have:j=k:=by omega
      subst this;intro b;simp[b] at h
    case measure=>simp[intOf];omega
  ·go_wp2
   go_ret;have:k=64:=by omega
   subst this;exact⟨dZ (UN x (by omega) hp.o),rfl⟩
theorem zjC(x:Nat)(hx:x<2 ^ 64)(w:World):
  Calls prog 234 #[.int .u64 x] w fun e b=>e=.returned (.int .i64 (dB 64 x))/\b=w:=by
 go_enter func234,ntmps234;go_wp2
 go_loop [3,5] (fun c i=>∃ k n:Nat,k<=64/\n<=k/\i=.int .i64 k/\c=.int .i64 n/\Hd (n+dB (64-k) (x/2 ^ k)=dB 64 x)) (fun _ i=>64-(intOf i).toNat)
 case atStart=>exact⟨0,0,by omega,by omega,rfl,rfl,(by simp : 0+dB (64-0) (x/2 ^ 0)=dB 64 x)⟩
 case round=>
  obtain⟨k,n,f,d,rfl,rfl,hp⟩:=hrel;by_cases a:k<64
  ·go_wp2
   have hb:bits BinOp.and IntKind.u64 ((x:Int)/2 ^ (k)) 1=((x/2 ^ k%2:Nat):Int):=by rw[rY x k hx];have hd:x/2 ^ k<2 ^ 64:=Nat.lt_of_le_of_lt (df _ _) hx;have:=u64_and_nat (x/2 ^ k) 1 (by omega) (by decide);rw[nat_mask1] at this;exact this
   have hc:=zjx x k 64 a;go_round
   case rel=>
    refine⟨k+1,n+x/2 ^ k%2,by omega,by omega,by go_num,?_,?_⟩
    ·rw[hb];congr 1
     rw[IntWalk.wrap64_in ((x/2 ^ k%2:Nat):Int) (by omega),IntWalk.wrap64_in _ (by omega)];omega
    ·have:=hp.o;show _=_
     omega
   case measure=>simp[intOf];omega
  ·go_wp2
   go_ret;have:k=64:=by omega
   subst this;have h:=hp.o;rw[show dB (64-64) (x/2 ^ 64)=0 from rfl] at h;exact⟨dZ (by rw[<-h];rfl),rfl⟩
theorem YY(x:Nat)(hx:x<2 ^ 64)(w:World):
  Calls prog 234 #[.int .u64 x] w fun e a=>e=.returned (.int .i64 (cnt x))/\a=w:=by
 rw[uU 64 x (by omega)];exact zjC x hx w
theorem UE(x:Nat)(hx:x<2 ^ 64)(w:World):
  Calls prog 106 #[.int .u64 x] w fun e b=>e=.returned (.tuple #[.int .u64 (lE 64 x),.bool (pI 64 x)])/\b=w:=by
 by_cases h:x=0
 ·subst h;go_enter func106,ntmps106;go_wp2
  go_ret2;exact⟨rfl,rfl⟩
 ·have d:=QA (x-1);have h0 : 0<=lg (x-1)+1:=by omega
  have f:lg (x-1)+1<=64:=PV (x-1) 64 (by omega) (by decide);have e:((x:Int)-1)=((x-1:Nat):Int):=by omega
  go_enter func106,ntmps106;go_wp2_with (go_at_call 116;refine(pS (x-1) (by omega) _).mono ?_;rintro e b ⟨rfl,rfl⟩)
  go_ret2;have a:IntKind.u64.wrap (2 ^ (lg (x-1)+1).toNat)=((lE 64 x:Nat):Int):=by rw[wrap_u64];exact EU 64 x hx
  have c:(2:Int) ^ (lg (x-1)+1).toNat%18446744073709551616=((lE 64 x:Nat):Int):=EU 64 x hx;refine⟨?_,rfl⟩;exact YZ a (by rw[a];exact UI 64 x)
theorem WF(x a:Nat)(hx:x<2 ^ 64)(ha:a<2 ^ 64)(w:World):
  Calls prog 164 #[.int .u64 x,.int .u64 a] w fun e b=>e=.returned (.tuple #[.int .u64 (lS x a),.bool (gJ a)])/\b=w:=by
 by_cases h:gJ a=true
 ·have hp:=UJ a h;have e:bits BinOp.andNot IntKind.u64 (x:Int) ((a:Int)-1)=((lS x a:Nat):Int):=by
   have e:((a:Int)-1)=((a-1:Nat):Int):=(by omega);rw[e,u64_andNot_nat x (a-1) (by omega) (by omega)];congr 1
   exact zfT x a 64 hx ha h
  have E:Hd (bits BinOp.andNot IntKind.u64 (x:Int) ((a:Int)-1)=((lS x a:Nat):Int)):=e;clear e;go_enter func164,ntmps164;go_wp2_with (go_at_call 58;refine(tX a ha _).mono ?_;rintro e b ⟨rfl,rfl⟩)
  go_ret2;refine⟨?_,rfl⟩;simp only[E.o,h];rfl
 ·have h:gJ a=false:=by simpa using h
  have e:=ZG x a h;go_enter func164,ntmps164;go_wp2_with (go_at_call 58;refine(tX a ha _).mono ?_;rintro e b ⟨rfl,rfl⟩)
  go_ret2;refine⟨?_,rfl⟩;simp only[e,h];rfl
def bU(ws:List Nat):Array Value:=(ws.map fun (x:Nat)=>Value.int .u64 x).toArray
def eW(m:Nat):List Nat:=List.replicate m 0
theorem mS(m:Nat):(eW m).length=m:=by simp[eW]
theorem oZ(m i:Nat):(eW m).getD i 0=0:=by simp[eW,List.getD,List.getElem?_replicate];split <;> rfl
structure SetAt(w:World)(b c n:Nat)(ws:List Nat):Prop where
 ne:c≠b
 hb:w.heap[b]?=some (.cells #[.int .i64 n,.slice (some ⟨c,0,none⟩) ws.length ws.length] 181 (0,0))
 hc:w.heap[c]?=some (.cells (bU ws) 22 (0,0))
 len:ws.length=(n+63)/64
 nle:n<=1048576
 ok:∀ i,i<ws.length->ws.getD i 0<2 ^ (min 64 (n-64*i))
theorem SetAt.cb0{w b c n ws}(h:SetAt w b c n ws):w.cell? ⟨b,0,none⟩=some (.int .i64 n):=by simp[World.cell?,h.hb]
theorem SetAt.cb1{w b c n ws}(h:SetAt w b c n ws):w.cell? ⟨b,1,none⟩=some (.slice (some ⟨c,0,none⟩) ws.length ws.length):=by simp[World.cell?,h.hb]
theorem SetAt.cc{w b c n ws}(h:SetAt w b c n ws)(i:Nat)(hi:i<ws.length):w.cell? ⟨c,i,none⟩=some (.int .u64 ((ws.getD i 0:Nat):Int)):=by simp[World.cell?,h.hc,bU,hi]
theorem SetAt.fb{w b c n ws}(h:SetAt w b c n ws)(i:Nat):w.frozen? ⟨b,i,none⟩=false:=by simp[World.frozen?,h.hb]
theorem SetAt.fc{w b c n ws}(h:SetAt w b c n ws)(i:Nat):w.frozen? ⟨c,i,none⟩=false:=by simp[World.frozen?,h.hc]
theorem SetAt.lt64{w b c n ws}(h:SetAt w b c n ws)(i:Nat):ws.getD i 0<2 ^ 64:=by
 by_cases hi:i<ws.length
 ·exact bg (h.ok i hi) ((mM _ _).2 (Nat.min_le_left _ _))
 ·have:ws.getD i 0=0:=by simp[List.getD,Nat.not_lt.1 hi]
  rw[this];decide
theorem tK:(prog.info? 22).map (fun i=>(i.zero,i.size,i.bytes))=some (some (.int .u64 0),1,8):=by kernel_rfl
theorem zig(m:Nat):madeCells (Value.int .u64 0).cells (m*1)=bU (eW m):=by
 simp only[madeCells,bU,eW];apply Array.ext
 ·simp
 ·intro i a b;have:i%1=0:=Nat.mod_one i;simp[Value.cells,this]
theorem tO(m:Nat)(d:m<=1048576)(w:World):
  (Instr.makeSlice 39 (.int .i64 m) (.int .i64 m)).run prog w=.ok (.slice (some ⟨w.heap.size,0,none⟩) m m) (w.alloc (.cells (bU (eW m)) 22)):=by
 obtain⟨i,hi,c,b,a⟩:=info_parts tK;have:=run_make (P:=prog) w 39 22 i (.int .u64 0) Tryz.underlying39 hi c .i64 .i64 (m:Int) (m:Int) (by omega) (by omega) (by rw[a];omega) (by omega);rw[b] at this;simp only[aa,zig] at this;exact this
def dX(n:Int):Nat:=if n<0 then 0 else if 1048576<n then 1048576 else n.toNat
theorem zih(n:Nat)(d:n<=1048576)(w:World):
  Calls prog 102 #[.int .i64 n] w fun e c=>e=.returned (.pointer (some ⟨w.heap.size+1,0,none⟩))/\c=(w.alloc (.cells (bU (eW ((n+63)/64))) 22)).alloc (.cells #[.int .i64 n,.slice (some ⟨w.heap.size,0,none⟩) ((n+63)/64) ((n+63)/64)] 181):=by
 obtain⟨m,a⟩:=xe ((n+63)/64);rw[<-a];have b:=tO m (by omega);have hq:((n:Int)+64-1)/64=(m:Int):=by omega
 clear a;go_enter func102,ntmps102;go_wp2
 go_ret;exact⟨rfl,rfl⟩
def aD(n:Nat)(i:Int):Bool:=decide (0<=i/\i<n)
theorem lW(b c n:Nat)(ws:List Nat)(i:Int)(w:World)(h:SetAt w b c n ws):
  Calls prog 150 #[.pointer (some ⟨b,0,none⟩),.int .i64 i] w fun e a=>e=.returned (.bool (aD n i))/\a=w:=by
 have h0:=h.cb0;have d:=h.nle;clear h;by_cases hi : 0<=i
 ·go_enter func150,ntmps150;go_wp2
  go_ret;exact⟨cO (by simp[aD,hi]),rfl⟩
 ·go_enter func150,ntmps150;go_wp2
  go_ret;exact⟨cO (by simp[aD];omega),rfl⟩
theorem DG(b c n:Nat)(ws:List Nat)(w:World)(h:SetAt w b c n ws):
  Calls prog 154 #[.pointer (some ⟨b,0,none⟩)] w fun e a=>e=.returned (.int .i64 n)/\a=w:=by
 have h0:=h.cb0;have d:=h.nle;clear h;go_enter func154,ntmps154;go_wp2
 go_ret;exact⟨rfl,rfl⟩
def aE(ws:List Nat)(j:Nat):Bool:=(ws.getD (j/64) 0)/2 ^ (j%64)%2 == 1
def cT(n:Nat)(ws:List Nat)(i:Int):Bool:=aD n i && aE ws i.toNat
theorem nL(b c n:Nat)(ws:List Nat)(i:Int)(w:World)(h:SetAt w b c n ws):
  Calls prog 192 #[.pointer (some ⟨b,0,none⟩),.int .i64 i] w fun e g=>e=.returned (.bool (cT n ws i))/\g=w:=by
 by_cases hi : 0<=i/\i<n
 ·obtain⟨k,rfl⟩:=au hi.1;have hl:=h.len;have u:=h.nle;have f:k<n:=by omega
  obtain⟨q,hq⟩:=xe (k/64);obtain⟨r,l⟩:=xe (k%64);have j:q<ws.length:=by omega
  have m:r<64:=by omega
  have d:=h.cc q j;have a:=h.lt64 q;have v:=h.cb1;obtain⟨x,hx⟩:=xe (ws.getD q 0);rw[<-hx] at d a;have hd:aD n (k:Int)=true:=by simpa [aD] using hi
  have E:Hd (((bits BinOp.and IntKind.u64 ((x:Int)/2 ^ r) 1) == 1)=cT n ws k):=by
   show _=_
   rw[rY x r a];have o:x/2 ^ r<2 ^ 64:=Nat.lt_of_le_of_lt (df _ _) a;have:=u64_and_nat (x/2 ^ r) 1 (by omega) (by decide);rw[nat_mask1] at this;rw[show(1:Int)=((1:Nat):Int)from rfl,this];unfold cT aE;rw[hd,aa,<-hq,<-l,<-hx,bf,Bool.eq_iff_iff];simp only[co];omega
  have s:(k:Int)/64=(q:Int):=by omega
  have p:(k:Int)%64=(r:Int):=by omega
  have t:=aA h;have hkb:k<=1048576:=by omega
  clear hx h hi hl hq l f;go_enter func192,ntmps192;go_wp2_with (go_at_call 150;refine(lW b c n ws _ _ t.o).mono ?_;rintro e g ⟨rfl,rfl⟩)
  go_ret;exact⟨cO E.o,rfl⟩
 ·have hd:aD n i=false:=by simp only[aD];exact ah hi
  clear hi;go_enter func192,ntmps192;go_wp2_with (go_at_call 150;refine(lW b c n ws _ _ h).mono ?_;rintro e g ⟨rfl,rfl⟩)
  go_ret;exact⟨cO (by simp[cT,hd]),rfl⟩
structure Kt(S:Nat->Prop)(w w':World):Prop where
 os:w'.os=w.os
 tape:w'.tape=w.tape
 output:w'.output=w.output
 size:w.heap.size<=w'.heap.size
 block:∀ k,k<w.heap.size->¬S k->w'.heap[k]?=w.heap[k]?
theorem Kt.refl(S:Nat->Prop)(w:World):Kt S w w:=⟨rfl,rfl,rfl,aj _,fun _ _ _=>rfl⟩
theorem Kt.trans{S T U:Nat->Prop}{a b c:World}(h:Kt S a b)(k:Kt T b c)(hS:∀ x,x<a.heap.size->S x->U x)(e:∀ x,x<a.heap.size->T x->U x):Kt U a c:=
 ⟨k.os.trans h.os,k.tape.trans h.tape,k.output.trans h.output,an h.size k.size,fun i hi d=>(k.block i (bg hi h.size) (fun x=>d (e i hi x))).trans (h.block i hi (fun x=>d (hS i hi x)))⟩
theorem Kt.mono{S T:Nat->Prop}{a b:World}(h:Kt S a b)(hS:∀ x,x<a.heap.size->S x->T x):Kt T a b:=
 ⟨h.os,h.tape,h.output,h.size,fun i hi c=>h.block i hi (fun x=>c (hS i hi x))⟩
theorem Kt.below{S:Nat->Prop}{B:Nat}{a b:World}(h:Kt S a b)(c:B<=a.heap.size)(hS:∀ x,S x->B<=x):Below B a b:=
 ⟨h.os,h.tape,h.output,h.size,fun i hi=>h.block i (by omega) (fun x=>by have:=hS i x;omega)⟩
theorem Kt.drew{S:Nat->Prop}{a b:World}(h:Kt S a b):Kt S a b.drew:=⟨h.os,h.tape,h.output,h.size,h.block⟩
theorem Kt.alloc{S:Nat->Prop}{a b:World}(h:Kt S a b)(o:Obj):Kt S a (b.alloc o):=
 ⟨h.os,h.tape,h.output,by simp;have:=h.size;omega,fun i hi c=>by rw[Below.heap_alloc _ _ _ (by have:=h.size;omega)];exact h.block i hi c⟩
theorem Kt.setCell{S:Nat->Prop}{a b:World}(h:Kt S a b){p:Addr}(hp:S p.block)(u:Value):Kt S a (b.setCell p u):=
 ⟨h.os,h.tape,h.output,by simp;exact h.size,fun i hi c=>by rw[Below.heap_setCell b p u i (fun e=>c (by rw[e];exact hp))];exact h.block i hi c⟩
structure RawAt(w:World)(b c n:Nat)(ws:List Nat):Prop where
 ne:c≠b
 hb:w.heap[b]?=some (.cells #[.int .i64 n,.slice (some ⟨c,0,none⟩) ws.length ws.length] 181 (0,0))
 hc:w.heap[c]?=some (.cells (bU ws) 22 (0,0))
 len:ws.length=(n+63)/64
 nle:n<=1048576
 lt:∀ i,ws.getD i 0<2 ^ 64
theorem SetAt.raw{w b c n ws}(h:SetAt w b c n ws):RawAt w b c n ws:=⟨h.ne,h.hb,h.hc,h.len,h.nle,h.lt64⟩
theorem RawAt.set{w b c n ws}(h:RawAt w b c n ws)(ok:∀ i,i<ws.length->ws.getD i 0<2 ^ (min 64 (n-64*i))):SetAt w b c n ws:=⟨h.ne,h.hb,h.hc,h.len,h.nle,ok⟩
theorem RawAt.cb0{w b c n ws}(h:RawAt w b c n ws):w.cell? ⟨b,0,none⟩=some (.int .i64 n):=by simp[World.cell?,h.hb]
theorem RawAt.cb1{w b c n ws}(h:RawAt w b c n ws):w.cell? ⟨b,1,none⟩=some (.slice (some ⟨c,0,none⟩) ws.length ws.length):=by simp[World.cell?,h.hb]
theorem RawAt.cc{w b c n ws}(h:RawAt w b c n ws)(i:Nat)(hi:i<ws.length):w.cell? ⟨c,i,none⟩=some (.int .u64 ((ws.getD i 0:Nat):Int)):=by simp[World.cell?,h.hc,bU,hi]
theorem RawAt.fc{w b c n ws}(h:RawAt w b c n ws)(i:Nat):w.frozen? ⟨c,i,none⟩=false:=by simp[World.frozen?,h.hc]
theorem RawAt.bc{w b c n ws}(h:RawAt w b c n ws):b<w.heap.size/\c<w.heap.size:=
 ⟨(Array.getElem?_eq_some_iff.1 h.hb).1,(Array.getElem?_eq_some_iff.1 h.hc).1⟩
theorem RawAt.kept{w w' b c n ws}{S:Nat->Prop}(h:RawAt w b c n ws)(k:Kt S w w')(hb:¬S b)(hc:¬S c):RawAt w' b c n ws:=
 ⟨h.ne,(k.block b h.bc.1 hb).trans h.hb,(k.block c h.bc.2 hc).trans h.hc,h.len,h.nle,h.lt⟩
theorem SetAt.kept{w w' b c n ws}{S:Nat->Prop}(h:SetAt w b c n ws)(k:Kt S w w')(hb:¬S b)(hc:¬S c):SetAt w' b c n ws:=
 (h.raw.kept k hb hc).set h.ok
theorem uG(ws:List Nat)(q y:Nat)(hq:q<ws.length):(ws.set q y).getD q 0=y:=by simp[List.getD,hq]
theorem getD_set_ne(ws:List Nat)(q y i:Nat)(h:i≠q):(ws.set q y).getD i 0=ws.getD i 0:=by simp[List.getD,Ne.symm h]
theorem RawAt.write{w b c n ws}(h:RawAt w b c n ws)(q y:Nat)(hq:q<ws.length)(hy:y<2 ^ 64):RawAt (w.setCell ⟨c,q,none⟩ (.int .u64 y)) b c n (ws.set q y):=by
 refine⟨h.ne,?_,?_,by simpa using h.len,h.nle,?_⟩
 ·rw[Below.heap_setCell _ _ _ _ (fun e=>h.ne e.symm),h.hb];simp
 ·have a:=h.bc.2;have d:=(Array.getElem?_eq_some_iff.1 h.hc).2;simp only[World.setCell];rw[Array.getElem?_modify,ae rfl,h.hc];simp[bU,List.map_set]
 ·intro i;by_cases e:i=q
  ·subst e;rw[uG ws i y hq];exact hy
  ·rw[getD_set_ne ws q y i e];exact h.lt i
theorem RawAt.drew{w b c n ws}(h:RawAt w b c n ws):RawAt w.drew b c n ws:=⟨h.ne,h.hb,h.hc,h.len,h.nle,h.lt⟩
theorem nH(w:World)(o:Obj):(w.alloc o).heap[w.heap.size]?=some o:=by
 show(w.heap.push o)[w.heap.size]?=_
 simp
theorem uA(n:Int)(g : -9223372036854775808<=n)(j:n<=9223372036854775807)(w:World):
  Calls prog 102 #[.int .i64 n] w fun e b=>e=.returned (.pointer (some ⟨w.heap.size+1,0,none⟩))/\RawAt b (w.heap.size+1) w.heap.size (dX n) (eW ((dX n+63)/64))/\Kt (fun _=>False) w b/\b.heap.size=w.heap.size+2:=by
 have a:∀ (b:World) (N:Nat),N<=1048576->dX n=N->b=(w.alloc (.cells (bU (eW ((N+63)/64))) 22)).alloc (.cells #[.int .i64 N,.slice (some ⟨w.heap.size,0,none⟩) ((N+63)/64) ((N+63)/64)] 181)->
   RawAt b (w.heap.size+1) w.heap.size (dX n) (eW ((dX n+63)/64))/\Kt (fun _=>False) w b/\b.heap.size=w.heap.size+2:=by
  intro b N h hf hw;rw[hf];subst hw;refine⟨⟨by omega,?_,?_,by simp[mS],h,?_⟩,((Kt.refl _ w).alloc _).alloc _,by simp⟩
  ·have:=nH (w.alloc (.cells (bU (eW ((N+63)/64))) 22)) (.cells #[.int .i64 N,.slice (some ⟨w.heap.size,0,none⟩) ((N+63)/64) ((N+63)/64)] 181);rw[World.size_alloc] at this;rw[this,mS]
  ·rw[Below.heap_alloc _ _ _ (by simp),nH]
  ·intro i;rw[oZ];decide
 by_cases d:n<0
 ·have hf:dX n=0:=by simp[dX,d]
  have f:∀ w,(Instr.makeSlice 39 (.int .i64 0) (.int .i64 0)).run prog w=.ok (.slice (some ⟨w.heap.size,0,none⟩) 0 0) (w.alloc (.cells (bU (eW 0)) 22)):=tO 0 (by omega);have c:=aA (a _ 0 (by omega) hf rfl);clear a hf;go_enter func102,ntmps102;go_wp2
  go_ret;exact⟨rfl,c.o⟩
 ·by_cases h2 : 1048576<n
  ·have hf:dX n=1048576:=(by simp[dX,d,h2]);have f:∀ w,(Instr.makeSlice 39 (.int .i64 16384) (.int .i64 16384)).run prog w=.ok (.slice (some ⟨w.heap.size,0,none⟩) 16384 16384) (w.alloc (.cells (bU (eW 16384)) 22)):=tO 16384 (by omega);have c:=aA (a _ 1048576 (by omega) hf rfl);clear a hf;go_enter func102,ntmps102;go_wp2
   go_ret;exact⟨rfl,c.o⟩
  ·obtain⟨k,rfl⟩:=au (by omega : 0<=n);have hf:dX (k:Int)=k:=(by simp[dX,d,h2]);exact(zih k (by omega) w).mono fun e b ⟨he,hw⟩=>⟨he,a b k (by omega) hf hw⟩
theorem YM(b c n:Nat)(ws:List Nat)(k:Nat)(w:World)(h:SetAt w b c n ws)(v:k<n):
  Calls prog 251 #[.pointer (some ⟨b,0,none⟩),.int .i64 k] w fun e j=>e=.returned (.bool true)/\RawAt j b c n (ws.set (k/64) ((ws.getD (k/64) 0) ^^^ 2 ^ (k%64)))/\Kt (fun x=>x=c) w j/\j.heap.size=w.heap.size:=by
 obtain⟨q,hq⟩:=xe (k/64);obtain⟨r,s⟩:=xe (k%64);rw[<-hq,<-s];have hl:=h.len;have B:=h.nle;have i:q<ws.length:=by omega
 have g:r<64:=by omega
 have l:=h.cc q i;have a:=h.lt64 q;have C:=h.cb1;have hf:=h.fc q;obtain⟨x,hx⟩:=xe (ws.getD q 0);rw[<-hx] at l a ⊢;have hd:aD n (k:Int)=true:=by simp only[aD];exact af (by omega)
 have u:(k:Int)/64=(q:Int):=by omega
 have t:(k:Int)%64=(r:Int):=by omega
 have hkb:k<=1048576:=by omega
 have hp : 2 ^ r<2 ^ 64:=(iI r 64).2 g;have hy:x ^^^ 2 ^ r<2 ^ 64:=Nat.xor_lt_two_pow a hp;have E:bits BinOp.xor IntKind.u64 (x:Int) (2 ^ r)=((x ^^^ 2 ^ r:Nat):Int):=by have:=bits_xor_u64_nat x (2 ^ r) a hp;rw[<-this];simp
 obtain⟨y,f⟩:=xe (x ^^^ 2 ^ r);rw[<-f] at hy E ⊢;have d:RawAt (w.setCell ⟨c,q,none⟩ (.int .u64 y)).drew b c n (ws.set q y)/\Kt (fun x=>x=c) w (w.setCell ⟨c,q,none⟩ (.int .u64 y)).drew/\(w.setCell ⟨c,q,none⟩ (.int .u64 y)).drew.heap.size=w.heap.size:=
  ⟨(h.raw.write q y i hy).drew,((Kt.refl (fun x=>x=c) w).setCell (p:=⟨c,q,none⟩) rfl _).drew,by simp⟩
 have m:=aA d;have A:=aA h;have z:IntKind.u64.wrap (2 ^ r)=2 ^ r:=by
  rw[wrap_u64];have:((2:Int) ^ r)=((2 ^ r:Nat):Int):=by simp
  rw[this];obtain⟨p,o⟩:=xe (2 ^ r);rw[<-o] at hp ⊢;omega
 clear hx h hl hq s v d f hp;go_enter func251,ntmps251;go_wp2_with (go_at_call 150;refine(lW b c n ws _ _ A.o).mono ?_;rintro e j ⟨rfl,rfl⟩)
 go_region
 all_goals (go_wp2;go_ret;exact⟨rfl,m.o⟩)
def kK(ws:List Nat)(k:Nat):List Nat:=ws.set (k/64) ((ws.getD (k/64) 0) ^^^ 2 ^ (k%64))
theorem JO(ws:List Nat)(k:Nat):(kK ws k).length=ws.length:=by simp[kK]
theorem zkK(b c n:Nat)(ws:List Nat)(k:Nat)(w:World)(h:SetAt w b c n ws)(g:k<n):
  Calls prog 251 #[.pointer (some ⟨b,0,none⟩),.int .i64 k] w fun e a=>e=.returned (.bool true)/\SetAt a b c n (kK ws k)/\Kt (fun x=>x=c) w a/\a.heap.size=w.heap.size:=by
 refine(YM b c n ws k w h g).mono ?_;rintro e a ⟨he,f,d,hs⟩;refine⟨he,f.set ?_,d,hs⟩;intro i hi;have hl:=h.len;by_cases e:i=k/64
 ·subst e;rw[uG _ _ _ (by omega)];exact Nat.xor_lt_two_pow (h.ok _ (by omega)) ((iI _ _).2 (by omega))
 ·rw[getD_set_ne _ _ _ _ e];exact h.ok i (by simpa using hi)
theorem YL(b c n:Nat)(ws:List Nat)(i:Int)(w:World)(h:SetAt w b c n ws)(hd:aD n i=false):
  Calls prog 251 #[.pointer (some ⟨b,0,none⟩),.int .i64 i] w fun e a=>e=.returned (.bool false)/\a=w:=by
 go_enter func251,ntmps251;go_wp2_with (go_at_call 150;refine(lW b c n ws _ _ h).mono ?_;rintro e a ⟨rfl,rfl⟩)
 go_ret;exact⟨rfl,rfl⟩
theorem zkL{n:Nat}{i:Int}(h:aD n i=true):∃ k:Nat,i=k/\k<n:=by simp[aD] at h;obtain⟨k,rfl⟩:=au h.1;exact⟨k,rfl,by omega⟩
def gI(n:Nat)(ws:List Nat)(i:Int):List Nat:=if aD n i=true then kK ws i.toNat else ws
theorem wG(b c n:Nat)(ws:List Nat)(i:Int)(w:World)(h:SetAt w b c n ws):
  Calls prog 251 #[.pointer (some ⟨b,0,none⟩),.int .i64 i] w fun e a=>e=.returned (.bool (aD n i))/\SetAt a b c n (gI n ws i)/\Kt (fun x=>x=c) w a/\a.heap.size=w.heap.size:=by
 cases hd:aD n i with
 | true=>
  obtain⟨k,rfl,g⟩:=zkL hd;refine(zkK b c n ws k w h g).mono ?_;rintro e a ⟨he,f⟩;simp only[gI,hd,if_true,aa];exact⟨he,f⟩
 | false=>
  refine(YL b c n ws i w h hd).mono ?_;rintro e a ⟨he,hw⟩;subst hw;have d:gI n ws i=ws:=by simp[gI,hd]
  rw[d];exact⟨he,h,Kt.refl _ _,rfl⟩
def cJ(n:Nat)(ws:List Nat)(i:Int)(v:Bool):List Nat:=if cT n ws i=v then ws else gI n ws i
theorem vK(b c n:Nat)(ws:List Nat)(i:Int)(v:Bool)(w:World)(h:SetAt w b c n ws):
  Calls prog 235 #[.pointer (some ⟨b,0,none⟩),.int .i64 i,.bool v] w fun e a=>e=.returned (.bool (aD n i))/\SetAt a b c n (cJ n ws i v)/\Kt (fun x=>x=c) w a/\a.heap.size=w.heap.size:=by
 by_cases d:cT n ws i=v
 ·have j:(cT n ws i == v)=true:=by rw[d];simp
  have f:cJ n ws i v=ws:=by simp[cJ,d]
  rw[f];clear f d;go_enter func235,ntmps235;go_wp2_with (first|(go_at_call 192;refine(nL b c n ws _ _ h).mono ?_;rintro e a ⟨rfl,rfl⟩)|(go_at_call 150;refine(lW b c n ws _ _ h).mono ?_;rintro e a ⟨rfl,rfl⟩))
  go_ret;exact⟨rfl,h,Kt.refl _ _,rfl⟩
 ·have j:(cT n ws i == v)=false:=by rw[ag];exact d
  have f:cJ n ws i v=gI n ws i:=by simp[cJ,d]
  rw[f];clear f d;go_enter func235,ntmps235;go_wp2_with (first|(go_at_call 192;refine(nL b c n ws _ _ h).mono ?_;rintro e a ⟨rfl,rfl⟩)|(go_at_call 251;refine(wG b c n ws _ _ h).mono ?_;rintro e a ⟨rfl,g⟩))
  go_ret;exact⟨rfl,g⟩
def kE(n:Nat)(ws:List Nat):List Nat:=if n%64=0 then ws else ws.set (ws.length-1) (ws.getD (ws.length-1) 0%2 ^ (n%64))
theorem vY(r:Nat):((2:Int) ^ r)=((2 ^ r:Nat):Int):=by simp
theorem zL(r:Nat)(h:r<64) : 1<=(2:Int) ^ r/\(2:Int) ^ r<18446744073709551616:=by have a:=(iI r 64).2 h;have b:=ax r;rw[vY];obtain⟨p,hp⟩:=xe (2 ^ r);rw[<-hp] at a b ⊢;omega
theorem ZT(r:Nat)(h:r<64):IntKind.u64.wrap (2 ^ r)=2 ^ r:=by have:=zL r h;rw[wrap_u64];omega
theorem WJ(b c n:Nat)(ws:List Nat)(w:World)(h:RawAt w b c n ws):
  Calls prog 201 #[.pointer (some ⟨b,0,none⟩)] w fun e o=>e=.returned (.tuple #[])/\RawAt o b c n (kE n ws)/\Kt (fun x=>x=c) w o/\o.heap.size=w.heap.size:=by
 have h0:=h.cb0;have D:=h.nle;obtain⟨r,m⟩:=xe (n%64);have v:(n:Int)%64=(r:Int):=by omega
 have a:r<64:=by omega
 by_cases hz:n%64=0
 ·have j:kE n ws=ws:=by simp[kE,hz]
  rw[j];have:r=0:=by omega
  subst this;clear m j hz;go_enter func201,ntmps201;go_wp2
  go_end0
  exact⟨rfl,h,Kt.refl _ _,rfl⟩
 ·have hl:=h.len;obtain⟨q,hq⟩:=xe (ws.length-1);have k:q<ws.length:=by omega
  have l:=h.cc q k;have f:=h.lt q;have F:=h.cb1;have hf:=h.fc q;obtain⟨x,hx⟩:=xe (ws.getD q 0);have j:kE n ws=ws.set q (x%2 ^ r):=by simp only[kE,hz,if_false,hx,hq,m]
  rw[j];rw[<-hx] at l f;have hy:x%2 ^ r<2 ^ 64:=Nat.lt_of_le_of_lt (Nat.mod_le _ _) f;have E:bits BinOp.and IntKind.u64 (x:Int) (2 ^ r-1)=((x%2 ^ r:Nat):Int):=by
   have hp:=ax r;have C:=(iI r 64).2 a;have:=u64_and_nat x (2 ^ r-1) f (by omega);rw[Nat.and_two_pow_sub_one_eq_mod] at this;rw[<-this];congr 1
   rw[vY];omega
  obtain⟨y,i⟩:=xe (x%2 ^ r);rw[<-i] at hy E ⊢;have z:(ws.length:Int)-1=(q:Int):=by omega
  have d:=zL r a;have t:=d.1;have u:=d.2;have hw:=ZT r a;have A:((r:Int) != 0)=true:=by rw[cu];omega
  have B:ws.length<=1048576:=by omega
  have g:RawAt (w.setCell ⟨c,q,none⟩ (.int .u64 y)).drew b c n (ws.set q y)/\Kt (fun x=>x=c) w (w.setCell ⟨c,q,none⟩ (.int .u64 y)).drew/\(w.setCell ⟨c,q,none⟩ (.int .u64 y)).drew.heap.size=w.heap.size:=
   ⟨(h.write q y k hy).drew,((Kt.refl (fun x=>x=c) w).setCell (p:=⟨c,q,none⟩) rfl _).drew,by simp⟩
  have s:=aA g;clear hx h hl hq m g i d j hz;go_enter func201,ntmps201;go_wp2
  go_region
  all_goals (go_wp2;go_end0;exact⟨rfl,s.o⟩)
def Src(w:World)(v:Value)(zs:List Nat):Prop:=
 (∀ i,zs.getD i 0<2 ^ 64)/\∃ ao cap,v=.slice ao zs.length cap/\(zs=[]\/∃ a:Addr,ao=some a/\a.block<w.heap.size/\∀ j,j<zs.length->w.cell? (a.add j)=some (.int .u64 ((zs.getD j 0:Nat):Int)))
theorem addr_add_block(a:Addr)(j:Nat):(a.add j).block=a.block:=by unfold Addr.add;split <;> rfl
theorem Src.kept{w d:World}{S:Nat->Prop}{v:Value}{zs:List Nat}(h:Src w v zs)(k:Kt S w d)(hS:∀ b,v.ownBlock=some b->¬S b):Src d v zs:=by
 obtain⟨e,ao,cap,rfl,c⟩:=h;refine⟨e,ao,cap,rfl,?_⟩;rcases c with c|⟨a,rfl,hb,hc⟩
 ·exact Or.inl c
 ·refine Or.inr ⟨a,rfl,bg hb k.size,fun j f=>?_⟩;rw[<-hc j f];exact World.cell?_of_block (by rw[addr_add_block];exact k.block _ hb (hS a.block rfl))
def over(zs ws:List Nat):List Nat:=zs.take ws.length ++ ws.drop zs.length
theorem qG(zs ws:List Nat):(over zs ws).length=ws.length:=by simp[over];omega
theorem FZ(zs ws:List Nat)(i:Nat)(hi:i<ws.length):(over zs ws).getD i 0=if i<zs.length then zs.getD i 0 else ws.getD i 0:=by
 simp only[over,List.getD,List.getElem?_append,List.length_take,List.getElem?_take,List.getElem?_drop];by_cases h:i<zs.length
 ·have h0:i<min ws.length zs.length:=by omega
  simp[h,hi,h0]
 ·have a:¬i<min ws.length zs.length:=by omega
  simp only[a,h,if_false];by_cases b:zs.length<=ws.length
  ·congr 2;omega
  ·have:¬i<ws.length:=by omega
   exact absurd hi this
theorem zgL(zs ws:List Nat)(cs:List Value)(a:cs=(zs.take ws.length).map fun (x:Nat)=>Value.int .u64 x):((bU ws).toList.take 0 ++ cs ++ (bU ws).toList.drop (0 + cs.length)).toArray=bU (over zs ws):=by
 subst a;simp only[bU,over,List.take_zero,List.nil_append,Nat.zero_add,List.map_append,List.length_map,List.length_take];congr 2
 rw[<-List.map_drop];by_cases h:zs.length<=ws.length
 ·rw[Nat.min_eq_right h]
 ·rw[Nat.min_eq_left (by omega),List.drop_eq_nil_of_le (aj _),List.drop_eq_nil_of_le (by omega)]
theorem JX(w:World)(g:Nat)(ds:List Nat)(v:Value)(zs:List Nat)(hg:w.heap[g]?=some (.cells (bU ds) 22 (0,0)))(hs:Src w v zs):
  ∃ (k:Nat) (m:World),(∀ e,(Builtin.copy_ #[39,39] e #[.slice (some ⟨g,0,none⟩) ds.length ds.length,v]).run prog w=.ok (goInt k) m)/\m.heap[g]?=some (.cells (bU (over zs ds)) 22 (0,0))/\Kt (fun x=>x=g) w m/\m.heap.size=w.heap.size:=by
 obtain⟨i,hi,r,l,t⟩:=info_parts tK;obtain⟨z,ao,cap,rfl,s⟩:=hs;rcases s with rfl|⟨a,rfl,hb,hc⟩
 ·refine⟨0,w,fun e=>?_,?_,Kt.refl _ _,rfl⟩
  ·exact run_copy_none (P:=prog) w 39 39 e 22 (some ⟨g,0,none⟩) ao ds.length ds.length 0 cap Tryz.underlying39 (by rw[hi];simp[l]) (Nat.zero_min _)
  ·simpa [over] using hg
 ·obtain⟨cs,b⟩:∃ cs:List Value,cs=(zs.take ds.length).map fun (x:Nat)=>Value.int .u64 x:=⟨_,rfl⟩
  have f:cs.length=min zs.length ds.length:=by rw[b];simp;omega
  refine⟨cs.length,w.setRow g ((bU ds).toList.take 0 ++ cs ++ (bU ds).toList.drop (0 + cs.length)).toArray,fun e=>?_,?_,?_,by simp[World.setRow]⟩
  ·refine run_copy_row (P:=prog) w 39 39 e 22 g 0 ds.length ds.length a zs.length cap (bU ds) 22 cs Tryz.underlying39 (by rw[hi];simp[l]) hg f ?_ ?_ ?_
   ·intro j u c;rw[b] at c;simp only[List.getElem?_map,List.getElem?_take] at c;have p:j<cs.length:=by
     rcases Nat.lt_or_ge j cs.length with h|h
     ·exact h
     ·exfalso
      have:¬j<ds.length\/¬j<zs.length:=by omega
      rcases this with d|d
      ·simp[d] at c
      ·simp[Nat.not_lt.1 d] at c
    have d:j<ds.length:=(by omega);have n:j<zs.length:=(by omega);simp[d,n] at c;rw[hc j n,<-c];simp[List.getD,n]
   ·simp[bU];omega
   ·intro u o;rw[b] at o;obtain⟨_,_,rfl⟩:=List.mem_map.1 o;rfl
  ·rw[setRow_heap w g (bU ds) _ 22 (0,0) hg,zgL zs ds cs b]
  ·exact⟨rfl,rfl,rfl,by simp[World.setRow],fun k y q=>setRow_other w g k _ q⟩
def dA(zs:List Nat)(N:Nat):List Nat:=kE N (over zs (eW ((N+63)/64)))
theorem zki(n:Nat)(ws:List Nat):(kE n ws).length=ws.length:=by unfold kE;split <;> simp
theorem sN(zs:List Nat)(N:Nat):(dA zs N).length=(N+63)/64:=by rw[dA,zki,qG,mS]
theorem xW(zs:List Nat)(m i:Nat)(hi:i<m):(over zs (eW m)).getD i 0=zs.getD i 0:=by
 rw[FZ _ _ _ (by rw[mS];exact hi),oZ];split
 ·rfl
 ·simp[List.getD,Nat.not_lt.1 (by assumption)]
theorem vX(zs:List Nat)(N i:Nat)(hz:∀ i,zs.getD i 0<2 ^ 64)(hi:i<(N+63)/64):(dA zs N).getD i 0=zs.getD i 0%2 ^ (min 64 (N-64*i)):=by
 have hl:(over zs (eW ((N+63)/64))).length=(N+63)/64:=by rw[qG,mS]
 unfold dA kE;split
 ·rename_i h0;rw[xW _ _ _ hi,Nat.min_eq_left (by omega),Nat.mod_eq_of_lt (hz i)]
 ·rename_i h0;rw[hl];by_cases e:i=(N+63)/64-1
  ·rw[<-e,uG _ _ _ (by omega),xW _ _ _ hi];congr 2
   omega
  ·rw[getD_set_ne _ _ _ _ e,xW _ _ _ hi,Nat.min_eq_left (by omega),Nat.mod_eq_of_lt (hz i)]
theorem OL(zs:List Nat)(N:Nat)(hz:∀ i,zs.getD i 0<2 ^ 64)(i:Nat)(hi:i<(dA zs N).length):(dA zs N).getD i 0<2 ^ (min 64 (N-64*i)):=by rw[sN] at hi;rw[vX zs N i hz hi];exact Nat.mod_lt _ (ax _)
theorem RawAt.copied{w w2 b c n ws}(h:RawAt w b c n ws)(zs:List Nat)(hz:∀ i,zs.getD i 0<2 ^ 64)(hg:w2.heap[c]?=some (.cells (bU (over zs ws)) 22 (0,0)))(k:Kt (fun x=>x=c) w w2):RawAt w2 b c n (over zs ws):=by
 refine⟨h.ne,?_,hg,by rw[qG];exact h.len,h.nle,?_⟩
 ·rw[k.block b h.bc.1 (fun e=>h.ne e.symm),h.hb,qG]
 ·intro i;by_cases hi:i<ws.length
  ·rw[FZ _ _ _ hi];split
   ·exact hz i
   ·exact h.lt i
  ·have:(over zs ws).getD i 0=0:=by simp[List.getD,qG,Nat.not_lt.1 hi]
   rw[this];decide
theorem pP(v:Value)(zs:List Nat)(n:Int)(k : -9223372036854775808<=n)(m:n<=9223372036854775807)(w:World)(hs:Src w v zs):
  Calls prog 148 #[v,.int .i64 n] w fun e j=>e=.returned (.pointer (some ⟨w.heap.size+1,0,none⟩))/\SetAt j (w.heap.size+1) w.heap.size (dX n) (dA zs (dX n))/\Kt (fun _=>False) w j/\j.heap.size=w.heap.size+2:=by
 have h:=aA hs;clear hs;go_enter func148,ntmps148;go_wp2_with (first|(go_at_call 102;refine(uA n k m _).mono ?_;rintro e y ⟨rfl,a,g,c⟩;have z:=a.cb1;obtain⟨D,C,u,d,b,f⟩:=JX y w.heap.size _ v zs a.hc (h.o.kept g (fun _ _ x=>x));have r:=aA (a.copied zs h.o.1 d b);have s:=aA g;have l:=aA b;have t:=aA c;have i:=aA f;clear a g b d c f)|(go_at_call 201;refine(WJ _ _ _ _ _ r.o).mono ?_;rintro e B ⟨rfl,p,o,q⟩))
 go_ret;have A:=t.o;have E:=i.o;exact⟨rfl,p.set (OL zs _ h.o.1),(s.o.trans (U:=fun _=>False) l.o (fun _ _ x=>x) (fun x hx e=>by omega)).trans o (fun _ _ x=>x) (fun x hx e=>by omega),by omega⟩
theorem wS(m:Nat)(b:m<=1048576)(w:World):
  ∃ a,(Instr.makeSlice 39 (.int .i64 m) (.int .i64 m)).run prog w=.ok (.slice (some ⟨w.heap.size,0,none⟩) m m) a/\a.heap[w.heap.size]?=some (.cells (bU (eW m)) 22 (0,0))/\Kt (fun _=>False) w a/\a.heap.size=w.heap.size+1:=
 ⟨_,tO m b w,nH _ _,(Kt.refl _ w).alloc _,by simp⟩
theorem JI{w:World}{g:Nat}{zs:List Nat}(hg:w.heap[g]?=some (.cells (bU zs) 22 (0,0)))(hz:∀ i,zs.getD i 0<2 ^ 64)(cap:Nat):Src w (.slice (some ⟨g,0,none⟩) zs.length cap) zs:=by refine⟨hz,some ⟨g,0,none⟩,cap,rfl,Or.inr ⟨⟨g,0,none⟩,rfl,(Array.getElem?_eq_some_iff.1 hg).1,fun j a=>?_⟩⟩;rw[Addr.add_lit];simp[World.cell?,hg,bU,a]
theorem JH(zs ws:List Nat)(h:zs.length=ws.length):over zs ws=zs:=by simp[over,h];rw[<-h,List.take_of_length_le (aj _)]
theorem JG(b c n:Nat)(ws:List Nat)(w:World)(h:SetAt w b c n ws):
  Calls prog 77 #[.pointer (some ⟨b,0,none⟩)] w fun e j=>e=.returned (.slice (some ⟨w.heap.size,0,none⟩) ws.length ws.length)/\j.heap[w.heap.size]?=some (.cells (bU ws) 22 (0,0))/\Kt (fun _=>False) w j/\j.heap.size=w.heap.size+1:=by
 have hl:=h.len;have u:=h.nle;obtain⟨r,t,i,f,p⟩:=wS ws.length (by omega) w;have v:=h.cb1;have a:=h.kept f (fun x=>x) (fun x=>x);have s:=a.cb1;obtain⟨y,l,k,d,g,m⟩:=JX r w.heap.size (eW ws.length) (.slice (some ⟨c,0,none⟩) ws.length ws.length) ws i (JI a.hc a.lt64 _);rw[JH ws (eW ws.length) (mS _).symm] at d;rw[mS] at k;have q:ws.length<=1048576:=by omega
 have o:=aA (show l.heap[w.heap.size]?=some (.cells (bU ws) 22 (0,0))/\Kt (fun _=>False) w l/\l.heap.size=w.heap.size+1 from⟨d,f.trans g (fun _ _ x=>x) (fun x hx e=>by omega),by omega⟩);clear h a f g i d p m hl;go_enter func77,ntmps77;go_wp2
 go_ret;exact⟨rfl,o.o⟩
def mK(ws:List Nat)(k:Nat):Nat:=((List.range k).map fun i=>cnt (ws.getD i 0)).sum
theorem xT(ws:List Nat)(k:Nat):mK ws (k+1)=mK ws k+cnt (ws.getD k 0):=by simp[mK,List.range_succ]
theorem ZK(ws:List Nat)(hz:∀ i,ws.getD i 0<2 ^ 64)(k:Nat):mK ws k<=64*k:=by
 induction k with
 | zero=>simp[mK]
 | succ k a=>rw[xT];have:=AU (ws.getD k 0) (hz k);omega
def aZ(ws:List Nat):Nat:=mK ws ws.length
theorem tZ(b c n:Nat)(ws:List Nat)(w:World)(h:SetAt w b c n ws):
  Calls prog 190 #[.pointer (some ⟨b,0,none⟩)] w fun e j=>e=.returned (.int .i64 (aZ ws))/\j=w:=by
 have hl:=h.len;have l:=h.nle;have m:ws.length<=1048576:=by omega
 have p:=h.cb1;have f:=aA h;clear h hl l;go_enter func190,ntmps190;go_wp2
 go_loop [3,11] (fun t i=>∃ k:Nat,k<=ws.length/\i=.int .i64 k/\t=.int .i64 (mK ws k)) (fun _ i=>ws.length-(intOf i).toNat)
 case atStart=>exact⟨0,by omega,rfl,rfl⟩
 case round=>
  obtain⟨k,o,rfl,rfl⟩:=hrel;by_cases g:k<ws.length
  ·have d:=f.o.cc k g;have hx:=f.o.lt64 k;have hb:=ZK ws f.o.lt64 k;have hc:=AU (ws.getD k 0) hx;have hs:=aA (xT ws k);obtain⟨x,a⟩:=xe (ws.getD k 0);rw[<-a] at d hx hc hs;clear a;go_wp2_with (go_at_call 234;refine(YY x hx _).mono ?_;rintro e j ⟨rfl,rfl⟩)
   go_round
   case rel=>exact⟨k+1,by omega,by go_num,by rw[hs.o];go_num⟩
   case measure=>simp[intOf];omega
  ·go_wp2
   go_ret;have:k=ws.length:=by omega
   subst this;exact⟨rfl,rfl⟩
theorem SetAt.stored{w:World}{b c n ws b' c' n' ws'}(e:SetAt w b c n ws)(d:SetAt w b' c' n' ws')(a:c'≠b):
  SetAt ((w.setCell ⟨b,0,none⟩ (.int .i64 n')).setCell ⟨b,1,none⟩ (.slice (some ⟨c',0,none⟩) ws'.length ws'.length)) b c' n' ws':=by
 refine⟨a,?_,?_,d.len,d.nle,d.ok⟩
 ·simp[World.setCell,Array.getElem?_modify,e.hb]
 ·rw[Below.heap_setCell _ _ _ _ a,Below.heap_setCell _ _ _ _ a];exact d.hc
theorem zh3(b c n:Nat)(ws:List Nat)(i:Int)(k : -9223372036854775808<=i)(m:i<=9223372036854775807)(w:World)(h:SetAt w b c n ws):
  Calls prog 203 #[.pointer (some ⟨b,0,none⟩),.int .i64 i] w fun e j=>e=.returned (.tuple #[])/\SetAt j b w.heap.size (dX i) (dA ws (dX i))/\Kt (fun x=>x=b) w j/\j.heap.size=w.heap.size+2:=by
 have v:=h.cb1;have o:=aA h;have q:=aA (JI h.hc h.lt64 ws.length);clear h;go_enter func203,ntmps203;go_wp2_with (go_at_call 148;refine(pP _ ws i k m _ q.o).mono ?_;rintro e y ⟨rfl,a,d,g⟩;have B:=a.cb0;have A:=a.cb1;have f:=o.o.kept d (fun x=>x) (fun x=>x);have b0:=f.cb0;have b1:=f.cb1;have z:=f.fb 0;have u:=f.fb 1;have l:=aA a;have t:=aA f;have r:=aA d;have s:=aA g;clear a f d g)
 go_end0
 have hb:=o.o.raw.bc;have hz:=s.o;refine⟨rfl,t.o.stored l.o (by omega),?_,by simp;omega⟩;exact((r.o.mono (T:=fun x=>x=b) (fun _ _ x=>x.elim)).setCell (p:=⟨b,0,none⟩) rfl _).setCell (p:=⟨b,1,none⟩) rfl _
def nO:Nat->Prop:=fun _=>False
theorem nT{a b c:World}(h:Kt nO a b)(k:Kt nO b c):Kt nO a c:=h.trans k (fun _ _ x=>x) (fun _ _ x=>x)
theorem Kt.setNew{S:Nat->Prop}{a b:World}(h:Kt S a b){p:Addr}(hp:p.block<a.heap.size->S p.block)(u:Value):Kt S a (b.setCell p u):=
 ⟨h.os,h.tape,h.output,by simp;exact h.size,fun i hi c=>by rw[Below.heap_setCell b p u i (fun e=>c (by rw[e];exact hp (e▸hi)))];exact h.block i hi c⟩
theorem Kt.drewN{S:Nat->Prop}{a b:World}(h:Kt S a b)(n:Nat):Kt S a (b.drewN n):=⟨h.os,h.tape,h.output,h.size,h.block⟩
theorem qQ{w:World}{p:Addr}{v:Value}(h:w.cell? p=some v):p.block<w.heap.size:=by
 rcases Nat.lt_or_ge p.block w.heap.size with a|a
 ·exact a
 ·exfalso
  simp[World.cell?,Array.getElem?_eq_none a] at h
theorem Kt.cell{S:Nat->Prop}{a b:World}(h:Kt S a b){p:Addr}{v:Value}(hp:¬S p.block)(hc:a.cell? p=some v):b.cell? p=some v:=by rw[<-hc];exact World.cell?_of_block (h.block _ (qQ hc) hp)
theorem cF{w:World}{k:Nat}{cs:Array Value}{t:TypeId}{z:Nat×Nat}(h:w.heap[k]?=some (.cells cs t z))(i:Nat)(u:Value):(w.setCell ⟨k,i,none⟩ u).heap[k]?=some (.cells (cs.setIfInBounds i u) t z):=by
 obtain⟨a,b⟩:=Array.getElem?_eq_some_iff.1 h;show(w.heap.modify k _)[k]?=_
 rw[Array.getElem?_eq_getElem (by rw[Array.size_modify];exact a),Array.getElem_modify_self,b];rfl
theorem lH{w:World}{k:Nat}{o:Obj}(h:w.heap[k]?=some o):k<w.heap.size:=(Array.getElem?_eq_some_iff.1 h).1
theorem mU(w:World)(A B:Obj):((w.alloc A).alloc B).heap[w.heap.size+1]?=some B:=by have:=nH (w.alloc A) B;rwa [World.size_alloc] at this
theorem bY{w:World}{x y:Nat}{c d:Array Value}{s t:TypeId}{z u:Nat×Nat}(h:w.heap[x]?=some (.cells c s z))(k:w.heap[y]?=some (.cells d t u))(a:s≠t):x≠y:=by
 rintro rfl;rw[h] at k
 cases k
 exact a rfl
def adr(ao:Option Nat):Option Addr:=ao.map fun g=>⟨g,0,none⟩
structure Pg where
 kd:Int
 od:Int
 cl:Int
 lv:Int
 nx:Int
 pv:Int
 fs:Int
 b0:Nat
 b1:Nat
 b2:Nat
 b3:Nat
deriving DecidableEq
def Pg.fld(p:Pg):Nat->Value
 | 0=>.int .i64 p.kd
 | 1=>.int .i64 p.od
 | 2=>.int .i64 p.cl
 | 3=>.int .i64 p.lv
 | 4=>.int .i64 p.nx
 | 5=>.int .i64 p.pv
 | 6=>.int .i64 p.fs
 | 7=>.int .u64 p.b0
 | 8=>.int .u64 p.b1
 | 9=>.int .u64 p.b2
 | _=>.int .u64 p.b3
def aU(k o:Int):Pg:=⟨k,o,0,0,-1,-1,-1,0,0,0,0⟩
def aV:Pg:=⟨0,0,0,0,0,0,0,0,0,0,0⟩
def bA(w:World)(g n:Nat)(c:Nat->Nat->Value):Prop:=
 ∃ cs:Array Value,w.heap[g]?=some (.cells cs 97 (0,0))/\cs.size=n*11/\∀ i,i<n->∀ j,j<11->cs[i*11+j]?=some (c i j)
def bP(w:World)(g n:Nat)(pg:Nat->Pg):Prop:=bA w g n (fun i j=>(pg i).fld j)
def lP(c:Nat->Nat->Value)(i j:Nat)(v:Value):Nat->Nat->Value:=fun a b=>if a=i/\b=j then v else c a b
def aG(pg:Nat->Pg)(i:Nat)(p:Pg):Nat->Pg:=fun a=>if a=i then p else pg a
theorem bA.lt{w g n c}(h:bA w g n c):g<w.heap.size:=by obtain⟨cs,hg,_⟩:=h;exact lH hg
theorem bA.set{w g n c}(h:bA w g n c)(i j:Nat)(hi:i<n)(d:j<11)(v:Value):bA (w.setCell ⟨g,i*11+j,none⟩ v) g n (lP c i j v):=by
 obtain⟨cs,hg,hs,hc⟩:=h;refine⟨_,cF hg _ _,by simpa using hs,fun a ha b hb=>?_⟩;rw[Array.getElem?_setIfInBounds];unfold lP;by_cases e:a=i/\b=j
 ·obtain⟨rfl,rfl⟩:=e;rw[ae rfl,ae (by omega),ae ⟨rfl,rfl⟩]
 ·rw[ac (by omega),ac e];exact hc a ha b hb
theorem bA.kept{w w' g n c}{S:Nat->Prop}(h:bA w g n c)(k:Kt S w w')(hS:¬S g):bA w' g n c:=by obtain⟨cs,hg,hs,hc⟩:=h;exact⟨cs,(k.block g (lH hg) hS).trans hg,hs,hc⟩
theorem bA.congr{w g n c c'}(h:bA w g n c)(he:∀ i,i<n->∀ j,j<11->c i j=c' i j):bA w g n c':=by obtain⟨cs,hg,hs,hc⟩:=h;exact⟨cs,hg,hs,fun i hi j a=>(hc i hi j a).trans (congrArg some (he i hi j a))⟩
theorem bP.kept{w w' g n pg}{S:Nat->Prop}(h:bP w g n pg)(k:Kt S w w')(hS:¬S g):bP w' g n pg:=bA.kept h k hS
theorem bP.congr{w g n pg pg'}(h:bP w g n pg)(he:∀ i,i<n->pg i=pg' i):bP w g n pg':=bA.congr h (fun i hi j _=>by rw[he i hi])
theorem bP.cell{w g n pg}(h:bP w g n pg)(i:Nat)(hi:i<n):
  w.cell? ⟨g,i*11,none⟩=some (.int .i64 (pg i).kd)/\w.cell? ⟨g,i*11+1,none⟩=some (.int .i64 (pg i).od)/\w.cell? ⟨g,i*11+2,none⟩=some (.int .i64 (pg i).cl)/\w.cell? ⟨g,i*11+3,none⟩=some (.int .i64 (pg i).lv)/\w.cell? ⟨g,i*11+4,none⟩=some (.int .i64 (pg i).nx)/\w.cell? ⟨g,i*11+5,none⟩=some (.int .i64 (pg i).pv)/\w.cell? ⟨g,i*11+6,none⟩=some (.int .i64 (pg i).fs)/\w.cell? ⟨g,i*11+7,none⟩=some (.int .u64 ((pg i).b0:Int))/\w.cell? ⟨g,i*11+8,none⟩=some (.int .u64 ((pg i).b1:Int))/\w.cell? ⟨g,i*11+9,none⟩=some (.int .u64 ((pg i).b2:Int))/\w.cell? ⟨g,i*11+10,none⟩=some (.int .u64 ((pg i).b3:Int)):=by
 obtain⟨cs,hg,_,hc⟩:=h;have a:∀ j,j<11->w.cell? ⟨g,i*11+j,none⟩=some ((pg i).fld j):=fun j b=>by have:=hc i hi j b;simpa [World.cell?,hg] using this
 exact⟨a 0 (by decide),a 1 (by decide),a 2 (by decide),a 3 (by decide),a 4 (by decide),a 5 (by decide),a 6 (by decide),a 7 (by decide),a 8 (by decide),a 9 (by decide),a 10 (by decide)⟩
theorem bA.froz{w g n c}(h:bA w g n c)(i:Nat):w.frozen? ⟨g,i,none⟩=false:=by obtain⟨cs,hg,_,hc⟩:=h;simp[World.frozen?,hg]
abbrev cZ(w:World)(g i:Nat)(p:Pg):World:=
 ((((((((((w.setCell ⟨g,i*11,none⟩ (.int .i64 p.kd)).setCell ⟨g,i*11+1,none⟩ (.int .i64 p.od)).setCell ⟨g,i*11+2,none⟩ (.int .i64 p.cl)).setCell ⟨g,i*11+3,none⟩ (.int .i64 p.lv)).setCell ⟨g,i*11+4,none⟩ (.int .i64 p.nx)).setCell ⟨g,i*11+5,none⟩ (.int .i64 p.pv)).setCell ⟨g,i*11+6,none⟩ (.int .i64 p.fs)).setCell ⟨g,i*11+7,none⟩ (.int .u64 p.b0)).setCell ⟨g,i*11+8,none⟩ (.int .u64 p.b1)).setCell ⟨g,i*11+9,none⟩ (.int .u64 p.b2)).setCell ⟨g,i*11+10,none⟩ (.int .u64 p.b3)
theorem nR(w:World)(g i:Nat)(p:Pg):Kt (fun x=>x=g) w (cZ w g i p):=
 ((((((((((((Kt.refl (fun x=>x=g) w).setCell (p:=⟨g,_,none⟩) rfl _).setCell (p:=⟨g,_,none⟩) rfl _).setCell (p:=⟨g,_,none⟩) rfl _).setCell (p:=⟨g,_,none⟩) rfl _).setCell (p:=⟨g,_,none⟩) rfl _).setCell (p:=⟨g,_,none⟩) rfl _).setCell (p:=⟨g,_,none⟩) rfl _).setCell (p:=⟨g,_,none⟩) rfl _).setCell (p:=⟨g,_,none⟩) rfl _).setCell (p:=⟨g,_,none⟩) rfl _).setCell (p:=⟨g,_,none⟩) rfl _)
theorem sG{c:Nat->Nat->Value}{pg:Nat->Pg}{i:Nat}{p:Pg}(a b:Nat)(hb:b<11)(h:∀ j,j<11->c i j=p.fld j)(d:a≠i->c a b=(pg a).fld b):c a b=(aG pg i p a).fld b:=by
 unfold aG;by_cases e:a=i
 ·rw[ae e,e];exact h b hb
 ·rw[ac e];exact d e
theorem kU{P:Nat->Prop}(h0:P 0)(c:P 1)(l:P 2)(i:P 3)(f:P 4)(b:P 5)(d:P 6)(e:P 7)(k:P 8)(g:P 9)(a:P 10):∀ j,j<11->P j
 | 0,_=>h0 | 1,_=>c | 2,_=>l | 3,_=>i | 4,_=>f | 5,_=>b | 6,_=>d | 7,_=>e | 8,_=>k | 9,_=>g | 10,_=>a
 | _+11,h=>absurd h (by omega)
theorem bP.put{w g n pg}(h:bP w g n pg)(i:Nat)(hi:i<n)(p:Pg):bP (cZ w g i p) g n (aG pg i p):=by
 have:=((((((((((bA.set h i 0 hi (by decide) (.int .i64 p.kd)).set i 1 hi (by decide) (.int .i64 p.od)).set i 2 hi (by decide) (.int .i64 p.cl)).set i 3 hi (by decide) (.int .i64 p.lv)).set i 4 hi (by decide) (.int .i64 p.nx)).set i 5 hi (by decide) (.int .i64 p.pv)).set i 6 hi (by decide) (.int .i64 p.fs)).set i 7 hi (by decide) (.int .u64 p.b0)).set i 8 hi (by decide) (.int .u64 p.b1)).set i 9 hi (by decide) (.int .u64 p.b2)).set i 10 hi (by decide) (.int .u64 p.b3);refine bA.congr this (fun a ha b hb=>sG a b hb (fun j c=>?_) (fun e=>?_))
 ·revert j
  apply kU <;> simp[lP,Pg.fld]
 ·simp[lP,e]
structure Mp where
 o:Nat
 n:Nat
 pg:Nat->Pg
 wd:Nat->List Nat
structure Bs where
 g:Option Nat
 P:Option Nat
 S:Nat->Nat
 C:Nat->Nat
def nB(w:World)(P:Option Nat)(o cq:Nat)(S:Nat->Nat):Prop:=
 match P with
 | none=>o=0/\cq=0
 | some q=>∃ cs:Array Value,w.heap[q]?=some (.cells cs 141 (0,0))/\cs.size=cq/\o<=cq/\∀ k,k<o->cs[k]?=some (.pointer (some ⟨S k,0,none⟩))
def Rows(w:World)(g:Option Nat)(n:Nat)(pg:Nat->Pg):Prop:=
 match g with
 | none=>n=0
 | some q=>bP w q n pg
structure PgOk(p:Pg):Prop where
 o0 : 0<=p.od
 o8:p.od<=8
 c0 : 0<=p.cl
 c7:p.cl<=7
 b0:p.b0<18446744073709551616
 b1:p.b1<18446744073709551616
 b2:p.b2<18446744073709551616
 b3:p.b3<18446744073709551616
theorem PgOk.blank(k o:Int)(h0 : 0<=o)(a:o<=8):PgOk (aU k o):=⟨h0,a,Int.le_refl 0,by show(0:Int)<=7;decide,by show 0<_;decide,by show 0<_;decide,by show 0<_;decide,by show 0<_;decide⟩
theorem PgOk.zero:PgOk aV:=by constructor <;> decide
structure MpA(w:World)(b:Nat)(B:Bs)(m:Mp):Prop where
 o8:m.o<=8
 n1:m.n<=1024
 dv:∃ r,m.n=r*2 ^ m.o
 hb:∃ cq,w.heap[b]?=some (.cells #[.int .i64 m.o,.slice (adr B.g) m.n m.n,.slice (adr B.P) m.o cq] 140 (0,0))/\nB w B.P m.o cq B.S
 row:Rows w B.g m.n m.pg
 set:∀ k,k<m.o->SetAt w (B.S k) (B.C k) (m.n/2 ^ (k+1)) (m.wd k)
 injS:∀ j k,j<m.o->k<m.o->B.S j=B.S k->j=k
 injC:∀ j k,j<m.o->k<m.o->B.C j=B.C k->j=k
 ok:∀ i,i<m.n->PgOk (m.pg i)
def aO(b:Nat)(B:Bs)(o:Nat):Nat->Prop:=fun x=>x=b\/B.g=some x\/B.P=some x\/∃ k,k<o/\(x=B.S k\/x=B.C k)
theorem nB.kept{w w' P o cq S}{T:Nat->Prop}(h:nB w P o cq S)(k:Kt T w w')(hS:∀ x,P=some x->¬T x):nB w' P o cq S:=by
 cases P with
 | none=>exact h
 | some q=>
  obtain⟨cs,hg,c,b,a⟩:=h;exact⟨cs,(k.block q (lH hg) (hS q rfl)).trans hg,c,b,a⟩
theorem Rows.kept{w w' g n pg}{T:Nat->Prop}(h:Rows w g n pg)(k:Kt T w w')(hS:∀ x,g=some x->¬T x):Rows w' g n pg:=by
 cases g with
 | none=>exact h
 | some q=>exact bP.kept h k (hS q rfl)
theorem Rows.congr{w g n pg pg'}(h:Rows w g n pg)(he:∀ i,i<n->pg i=pg' i):Rows w g n pg':=by
 cases g with
 | none=>exact h
 | some q=>exact bP.congr h he
theorem MpA.kept{w w' b B m}{T:Nat->Prop}(h:MpA w b B m)(k:Kt T w w')(hS:∀ x,aO b B m.o x->¬T x):MpA w' b B m:=by obtain⟨a,hb,hp⟩:=h.hb;exact⟨h.o8,h.n1,h.dv,⟨a,(k.block b (lH hb) (hS b (.inl rfl))).trans hb,hp.kept k (fun x e=>hS x (.inr (.inr (.inl e))))⟩,h.row.kept k (fun x e=>hS x (.inr (.inl e))),fun i hi=>(h.set i hi).kept k (hS _ (.inr (.inr (.inr ⟨i,hi,.inl rfl⟩)))) (hS _ (.inr (.inr (.inr ⟨i,hi,.inr rfl⟩)))),h.injS,h.injC,h.ok⟩
theorem MpA.keep{w w' b B m}(h:MpA w b B m)(k:Kt nO w w'):MpA w' b B m:=h.kept k (fun _ _ x=>x)
theorem MpA.own_lt{w b B m}(h:MpA w b B m)(x:Nat)(hx:aO b B m.o x):x<w.heap.size:=by
 obtain⟨c,hb,hp⟩:=h.hb;rcases hx with rfl|hx|hx|⟨k,a,rfl|rfl⟩
 ·exact lH hb
 ·have:=h.row;rw[hx] at this;exact bA.lt this
 ·rw[hx] at hp;obtain⟨cs,hg,_⟩:=hp;exact lH hg
 ·exact lH (h.set k a).hb
 ·exact lH (h.set k a).hc
theorem MpA.cb{w b B m}(h:MpA w b B m):∃ a,w.cell? ⟨b,0,none⟩=some (.int .i64 m.o)/\w.cell? ⟨b,1,none⟩=some (.slice (adr B.g) m.n m.n)/\w.cell? ⟨b,2,none⟩=some (.slice (adr B.P) m.o a):=by obtain⟨a,hb,_⟩:=h.hb;exact⟨a,by simp[World.cell?,hb],by simp[World.cell?,hb],by simp[World.cell?,hb]⟩
theorem MpA.c0{w b B m}(h:MpA w b B m):w.cell? ⟨b,0,none⟩=some (.int .i64 m.o):=by obtain⟨a,hb,_⟩:=h.hb;simp[World.cell?,hb]
theorem MpA.c1{w b B m}{g:Nat}(h:MpA w b B m)(hg:B.g=some g):w.cell? ⟨b,1,none⟩=some (.slice (some ⟨g,0,none⟩) m.n m.n):=by obtain⟨a,hb,_⟩:=h.hb;simp[World.cell?,hb,hg,adr]
theorem MpA.bz{w b B m}(h:MpA w b B m)(i:Nat):w.frozen? ⟨b,i,none⟩=false:=by obtain⟨a,hb,_⟩:=h.hb;simp[World.frozen?,hb]
theorem MpA.cp{w b B m}(h:MpA w b B m)(k:Nat)(c:k<m.o):∃ q,B.P=some q/\w.cell? ⟨q,k,none⟩=some (.pointer (some ⟨B.S k,0,none⟩)):=by
 obtain⟨f,hb,hp⟩:=h.hb
 cases hP:B.P with
 | none=>
  rw[hP] at hp;obtain⟨d,_⟩:=hp;omega
 | some q=>
  rw[hP] at hp;obtain⟨cs,hg,g,e,a⟩:=hp;exact⟨q,rfl,by simp[World.cell?,hg,a k c]⟩
theorem MpA.has_row{w b B m}(h:MpA w b B m)(c : 0<m.n):∃ g,B.g=some g/\bP w g m.n m.pg:=by
 have a:=h.row
 cases hg:B.g with
 | none=>
  rw[hg] at a;have:m.n=0:=a;omega
 | some q=>
  rw[hg] at a;exact⟨q,rfl,a⟩
theorem MpA.congr{w b B m}{pg':Nat->Pg}(h:MpA w b B m)(he:∀ i,i<m.n->m.pg i=pg' i):MpA w b B { m with pg:=pg' }:=
 ⟨h.o8,h.n1,h.dv,h.hb,Rows.congr h.row he,h.set,h.injS,h.injC,fun i hi=>(by show PgOk (pg' i);rw[<-he i hi];exact h.ok i hi)⟩
theorem MpA.pages{w w' b B m g pg'}(h:MpA w b B m)(hg:B.g=some g)(k:Kt (fun x=>x=g) w w')(d:bP w' g m.n pg')(ok:∀ i,i<m.n->PgOk (pg' i)):MpA w' b B { m with pg:=pg' }:=by
 obtain⟨f,hb,hp⟩:=h.hb;have c:=h.row;rw[hg] at c;obtain⟨cs,a,_⟩:=c;refine⟨h.o8,h.n1,h.dv,⟨f,(k.block b (lH hb) (bY hb a (by decide))).trans hb,hp.kept k (fun x e=>?_)⟩,?_,fun i hi=>(h.set i hi).kept k (bY (h.set i hi).hb a (by decide)) (bY (h.set i hi).hc a (by decide)),h.injS,h.injC,ok⟩
 ·rw[e] at hp;obtain⟨ds,hq,_⟩:=hp;exact bY hq a (by decide)
 ·show Rows w' B.g m.n pg'
  rw[hg];exact d
abbrev cD(p:Pg):Value:=.agg #[.int .i64 p.kd,.int .i64 p.od,.int .i64 p.cl,.int .i64 p.lv,.int .i64 p.nx,.int .i64 p.pv,.int .i64 p.fs,.int .u64 p.b0,.int .u64 p.b1,.int .u64 p.b2,.int .u64 p.b3]
abbrev aN(p:Pg):Obj:=.cells #[.int .i64 p.kd,.int .i64 p.od,.int .i64 p.cl,.int .i64 p.lv,.int .i64 p.nx,.int .i64 p.pv,.int .i64 p.fs,.int .u64 p.b0,.int .u64 p.b1,.int .u64 p.b2,.int .u64 p.b3] 97
theorem fN(b:Nat)(B:Bs)(m:Mp)(i:Int)(w:World)(h:MpA w b B m):
  Calls prog 94 #[.pointer (some ⟨b,0,none⟩),.int .i64 i] w fun e a=>e=.returned (.bool (aD m.n i))/\a=w:=by
 obtain⟨c,c0,c1,c2⟩:=h.cb;clear h;by_cases h0 : 0<=i
 ·have hd:aD m.n i=decide (i<(m.n:Int)):=by simp[aD,h0]
  rw[hd];go_enter func94,ntmps94;go_wp2
  go_ret;exact⟨rfl,rfl⟩
 ·have hd:aD m.n i=false:=by simp[aD];omega
  rw[hd];go_enter func94,ntmps94;go_wp2
  go_ret;exact⟨rfl,rfl⟩
theorem tN(b:Nat)(B:Bs)(m:Mp)(w:World)(h:MpA w b B m):
  Calls prog 44 #[.pointer (some ⟨b,0,none⟩)] w fun e a=>e=.returned (.int .i64 m.n)/\a=w:=by
 obtain⟨c,c0,c1,c2⟩:=h.cb;clear h;go_enter func44,ntmps44;go_wp2
 go_ret;exact⟨rfl,rfl⟩
theorem iU{w:World}{x:Nat}{p:Pg}(h:w.heap[x]?=some (aN p)):w.cell? ⟨x,0,none⟩=some (.int .i64 p.kd)/\w.cell? ⟨x,1,none⟩=some (.int .i64 p.od)/\w.cell? ⟨x,2,none⟩=some (.int .i64 p.cl)/\w.cell? ⟨x,3,none⟩=some (.int .i64 p.lv)/\w.cell? ⟨x,4,none⟩=some (.int .i64 p.nx)/\w.cell? ⟨x,5,none⟩=some (.int .i64 p.pv)/\w.cell? ⟨x,6,none⟩=some (.int .i64 p.fs)/\w.cell? ⟨x,7,none⟩=some (.int .u64 p.b0)/\w.cell? ⟨x,8,none⟩=some (.int .u64 p.b1)/\w.cell? ⟨x,9,none⟩=some (.int .u64 p.b2)/\w.cell? ⟨x,10,none⟩=some (.int .u64 p.b3):=by refine⟨?_,?_,?_,?_,?_,?_,?_,?_,?_,?_,?_⟩ <;> simp[World.cell?,h]
theorem oE{w:World}{x:Nat}{p:Pg}(h:w.heap[x]?=some (aN p))(i:Nat):w.frozen? ⟨x,i,none⟩=false:=by simp[World.frozen?,h]
abbrev yJ(w:World)(x:Nat)(p:Pg):World:=(((((((((((w.setCell ⟨x,0,none⟩ (.int .i64 p.kd)).setCell ⟨x,1,none⟩ (.int .i64 p.od)).setCell ⟨x,2,none⟩ (.int .i64 p.cl)).setCell ⟨x,3,none⟩ (.int .i64 p.lv)).setCell ⟨x,4,none⟩ (.int .i64 p.nx)).setCell ⟨x,5,none⟩ (.int .i64 p.pv)).setCell ⟨x,6,none⟩ (.int .i64 p.fs)).setCell ⟨x,7,none⟩ (.int .u64 p.b0)).setCell ⟨x,8,none⟩ (.int .u64 p.b1)).setCell ⟨x,9,none⟩ (.int .u64 p.b2)).setCell ⟨x,10,none⟩ (.int .u64 p.b3))
theorem xA{S:Nat->Prop}{a w:World}(h:Kt S a w)(x:Nat)(hx:x<a.heap.size->S x)(p:Pg):Kt S a (yJ w x p):=(((((((((((h.setNew (p:=⟨x,0,none⟩) hx _).setNew (p:=⟨x,1,none⟩) hx _).setNew (p:=⟨x,2,none⟩) hx _).setNew (p:=⟨x,3,none⟩) hx _).setNew (p:=⟨x,4,none⟩) hx _).setNew (p:=⟨x,5,none⟩) hx _).setNew (p:=⟨x,6,none⟩) hx _).setNew (p:=⟨x,7,none⟩) hx _).setNew (p:=⟨x,8,none⟩) hx _).setNew (p:=⟨x,9,none⟩) hx _).setNew (p:=⟨x,10,none⟩) hx _)
theorem qV(k o:Int)(w:World):
  Calls prog 233 #[.int .i64 k,.int .i64 o] w fun e a=>e=.returned (cD (aU k o))/\a=w.alloc (aN (aU k o)):=by
 go_enter func233,ntmps233;go_wp2
 exact⟨rfl,_,by simp[results,results233,go_sem,aU],rfl,rfl⟩
def cM(m:Mp)(i:Int):Pg:=if aD m.n i=true then m.pg i.toNat else aV
theorem gR{n:Nat}{i:Int}(h:aD n i=true):∃ k:Nat,i=k/\k<n:=by
 have a : 0<=i/\i<(n:Int):=by simpa [aD] using h
 obtain⟨k,rfl⟩:=au a.1;exact⟨k,rfl,by omega⟩
theorem dQ{n k:Nat}(h:k<n):aD n (k:Int)=true:=by simp[aD];omega
theorem sH(b:Nat)(B:Bs)(m:Mp)(i:Int)(w:World)(h:MpA w b B m)(hi:aD m.n i=false):
  Calls prog 45 #[.pointer (some ⟨b,0,none⟩),.int .i64 i] w fun e r=>e=.returned (.tuple #[cD aV,.bool false])/\Kt nO w r:=by
 have d:=aA ((Kt.refl nO w).alloc (aN aV));have g:=aA (h.keep d.o);have f:=aA (nH w (aN aV));have A:=aA hi;clear h hi;go_enter func45,ntmps45;go_wp2_with fail;refine(fN b B m i _ g.o).mono ?_;rintro e x ⟨rfl,a⟩;rw[show(w.alloc (aN aV))=x from a.symm] at d g f;rw[A.o];clear a;obtain⟨l,v,o,t,j,s,k,y,u,q,c⟩:=iU f.o;have z:=oE f.o;go_wp2_with fail;exact⟨rfl,_,by simp[results,results45,go_sem,aV,l,v,o,t,j,s,k,y,u,q,c],rfl,xA (p:=aV) d.o _ (fun h=>absurd h (dc _))⟩
theorem kH(b:Nat)(B:Bs)(m:Mp)(k:Nat)(w:World)(h:MpA w b B m)(j:k<m.n):
  Calls prog 45 #[.pointer (some ⟨b,0,none⟩),.int .i64 k] w fun e x=>e=.returned (.tuple #[cD (m.pg k),.bool true])/\Kt nO w x:=by
 have f:=aA ((Kt.refl nO w).alloc (aN aV));have c:=aA (h.keep f.o);have i:=aA (nH w (aN aV));have G:=aA (dQ j);clear h;go_enter func45,ntmps45;go_wp2_with fail;refine(fN b B m k _ c.o).mono ?_;rintro e E ⟨rfl,a⟩;rw[show(w.alloc (aN aV))=E from a.symm] at f c i;rw[G.o];clear a;obtain⟨g,hg,l⟩:=c.o.has_row (by omega);obtain⟨L,Q,P,R,T,J,U,I,N,K,q⟩:=l.cell k j;have c1:=c.o.c1 hg;have s:(k:Int)<m.n:=by omega
 obtain⟨t,D,u,A,o,y,r,F,C,v,d⟩:=iU i.o;have z:=oE i.o;clear l hg;go_wp2_with fail;exact⟨rfl,_,by simp[results,results45,go_sem,t,D,u,A,o,y,r,F,C,v,d],rfl,xA (p:=m.pg k) f.o _ (fun h=>absurd h (dc _))⟩
theorem jC(b:Nat)(B:Bs)(m:Mp)(i:Int)(w:World)(h:MpA w b B m):
  Calls prog 45 #[.pointer (some ⟨b,0,none⟩),.int .i64 i] w fun e a=>e=.returned (.tuple #[cD (cM m i),.bool (aD m.n i)])/\Kt nO w a:=by
 cases hi:aD m.n i with
 | false=>
  rw[show cM m i=aV by simp[cM,hi]];exact sH b B m i w h hi
 | true=>
  obtain⟨k,rfl,c⟩:=gR hi;rw[show cM m (k:Int)=m.pg k by simp[cM,hi]];exact kH b B m k w h c
theorem zkV(x:Nat)(h:x≠0):∃ p m,x=2 ^ p*(2*m+1):=by
 induction x using Nat.strongRecOn with
 | _ x a=>
  by_cases b:x%2=1
  ·exact⟨0,x/2,by omega⟩
  ·obtain⟨p,m,hp⟩:=a (x/2) (by omega) (by omega);refine⟨p+1,m,?_⟩;rw[ci,Nat.mul_right_comm,<-hp];omega
theorem zkW(p m i:Nat):((2 ^ p*(2*m+1)).testBit i && !(2 ^ p*(2*m+1)-1).testBit i)=decide (i=p):=by
 have hp:=ax p;have a : 2 ^ p*(2*m+1)=2 ^ p*(2*m+1)+0:=rfl;have f : 2 ^ p*(2*m+1)-1=2 ^ p*(2*m)+(2 ^ p-1):=by rw[Nat.mul_add,Nat.mul_one];omega
 rw[f];rw[Nat.testBit_two_pow_mul_add _ (by omega : 2 ^ p-1<2 ^ p)];rw[a,Nat.testBit_two_pow_mul_add _ hp];by_cases h:i<p
 ·simp[h];omega
 ·simp only[h,if_false];by_cases e:i=p
  ·subst e;have : 2*m%2=0:=(by omega);simp[Nat.testBit_zero]
  ·obtain⟨t,b⟩:∃ t,i-p=t+1:=⟨i-p-1,by omega⟩;rw[b,Nat.testBit_succ,Nat.testBit_succ];have c:(2*m+1)/2=m:=(by omega);have d : 2*m/2=m:=(by omega);rw[c,d];simp[e]
theorem YJ(p m:Nat)(h : 2 ^ p*(2*m+1)<2 ^ 64) : 2 ^ p*(2*m+1) &&& (2 ^ 64-2 ^ p*(2*m+1))=2 ^ p:=by
 have hp:=ax p;have h0 : 0<2 ^ p*(2*m+1):=Nat.mul_pos hp (by omega);apply Nat.eq_of_testBit_eq
 intro i;have e : 2 ^ 64-2 ^ p*(2*m+1)=2 ^ 64-((2 ^ p*(2*m+1)-1)+1):=by omega
 rw[Nat.testBit_and,e,Nat.testBit_two_pow_sub_succ (by omega),Nat.testBit_two_pow];have:=zkW p m i;by_cases h64:i<64
 ·rw[af h64,bf,this];rw[decide_eq_decide];omega
 ·have hf:(2 ^ p*(2*m+1)).testBit i=false:=Nat.testBit_lt_two_pow (bg h ((mM 64 i).2 (by omega)));have a:¬p=i:=by
   intro b;subst b;rw[hf] at this;simp at this
  rw[hf];simp[a]
theorem zkX(x:Nat)(h:x≠0)(hx:x<2 ^ 64):∃ p,p<64/\x/2 ^ p%2=1/\(∀ j,j<p->x/2 ^ j%2=0)/\x &&& (2 ^ 64-x)=2 ^ p:=by
 obtain⟨p,m,rfl⟩:=zkV x h;have hp:=ax p;have a : 2 ^ p<2 ^ 64:=Nat.lt_of_le_of_lt (Nat.le_mul_of_pos_right _ (by omega)) hx;refine⟨p,(iI p 64).1 a,?_,?_,YJ p m hx⟩
 ·rw[Nat.mul_div_cancel_left _ hp];omega
 ·intro j b;have : 2 ^ p=2 ^ j*(2*2 ^ (p-j-1)):=by
   rw[<-cx,<-ci,<-Nat.pow_add];congr 1;omega
  rw[this,cx,Nat.mul_div_cancel_left _ (ax j),cx];omega
theorem zi3(x r p:Nat)(hp:p<64):x/2 ^ r*2 ^ r%2 ^ 64/2 ^ p%2=if r<=p then x/2 ^ p%2 else 0:=by
 have e:∀ y q:Nat,y/2 ^ q%2=if y.testBit q then 1 else 0:=by
  intro y q;rw[Nat.testBit_eq_decide_div_mod_eq];by_cases h:y/2 ^ q%2=1
  ·simp[h]
  ·simp[h];omega
 rw[e,e,Nat.testBit_mod_two_pow,<-Nat.shiftRight_eq_div_pow,<-Nat.shiftLeft_eq,Nat.testBit_shiftLeft,Nat.testBit_shiftRight];by_cases h:r<=p
 ·have:r+(p-r)=p:=by omega
  simp[h,hp,this]
 ·simp[h]
def bI(n:Nat)(ws:List Nat)(k:Nat):Int:=match (List.range n).find? (fun j=>decide (k<=j) && aE ws j)with|some j=>(j:Int)|none => -1
def nxt(n:Nat)(ws:List Nat)(i:Int):Int:=bI n ws i.toNat
theorem tR(n:Nat)(ws:List Nat)(k:Nat)(h:∀ j,k<=j->j<n->aE ws j=false):bI n ws k = -1:=by
 unfold bI;have:(List.range n).find? (fun j=>decide (k<=j) && aE ws j)=none:=by
  rw[List.find?_eq_none];intro j a;rw[List.mem_range] at a;by_cases b:k<=j
  ·simp[h j b a]
  ·simp[b]
 rw[this]
theorem zi4(n:Nat)(ws:List Nat)(k j:Nat)(b:j<n)(c:k<=j)(hb:aE ws j=true)(h:∀ i,k<=i->i<j->aE ws i=false):bI n ws k=(j:Int):=by
 unfold bI;have:(List.range n).find? (fun j=>decide (k<=j) && aE ws j)=some j:=by
  rw[List.find?_range_eq_some];refine⟨by simp[c,hb],by simpa using b,?_⟩;intro i hi;by_cases a:k<=i
  ·simp[h i a hi]
  ·simp[a]
 rw[this]
theorem wD(ws:List Nat)(a p:Nat)(hp:p<64):aE ws (64*a+p)=(ws.getD a 0/2 ^ p%2 == 1):=by
 unfold aE;have b:(64*a+p)/64=a:=by omega
 have c:(64*a+p)%64=p:=by omega
 rw[b,c]
theorem SetAt.bit_past{w b c n ws}(h:SetAt w b c n ws)(j:Nat)(e:n<=j):aE ws j=false:=by
 unfold aE;by_cases hl:j/64<ws.length
 ·have a:=h.ok (j/64) hl;have d:ws.getD (j/64) 0/2 ^ (j%64)=0:=by
   rw[Nat.div_eq_of_lt];refine bg a ((mM _ _).2 ?_);omega
  rw[d];rfl
 ·have:ws.getD (j/64) 0=0:=by simp[List.getD,Nat.not_lt.1 hl]
  rw[this];simp
end Go.Proofs.YtfmgnljlkdmndaaGreatDoor
namespace Go.Proofs.YtfmgnljlkdmndaaGreatDoor.W
open Tryz
set_option linter.unusedVariables false
def fst1(n:Nat)(ok:Nat->Bool):Option Nat:=(List.range n).find? fun i=>!ok i
theorem gA{n i:Nat}{ok:Nat->Bool}(hi:i<n)(h:∀ a,a<i->ok a=true)(hb:ok i=false):fst1 n ok=some i:=by unfold fst1;rw[List.find?_range_eq_some];exact⟨by simp[hb],List.mem_range.2 hi,fun a ha=>by simp[h a ha]⟩
theorem fst1_ok{n:Nat}{ok:Nat->Bool}(h:∀ a,a<n->ok a=true):fst1 n ok=none:=by unfold fst1;exact List.find?_eq_none.2 (fun a ha=>by simp[h a (List.mem_range.1 ha)])
theorem fst1_none{n:Nat}{ok:Nat->Bool}(h:fst1 n ok=none)(a:Nat)(ha:a<n):ok a=true:=by have:=List.find?_eq_none.1 h a (List.mem_range.2 ha);simpa using this
def fstO(n:Nat)(f:Nat->Option Nat):Option Nat:=(List.range n).findSome? f
theorem FK{n i p:Nat}{f:Nat->Option Nat}(hi:i<n)(h:∀ a,a<i->f a=none)(hb:f i=some p):fstO n f=some p:=by unfold fstO;obtain⟨d,rfl⟩:∃ d,n=i+1+d:=⟨n-(i+1),by omega⟩;rw[List.range_add,List.findSome?_append,List.range_succ,List.findSome?_append,List.findSome?_eq_none_iff.2 (fun a ha=>h a (List.mem_range.1 ha))];simp[hb]
theorem fstO_ok{n:Nat}{f:Nat->Option Nat}(h:∀ a,a<n->f a=none):fstO n f=none:=by unfold fstO;exact List.findSome?_eq_none_iff.2 fun a ha=>h a (List.mem_range.1 ha)
section
variable {α : Type} [DecidableEq α] (dec : α->Option Nat) (nil : α) (nxt bk:Nat->α) (S:Nat->Bool)
def refL:Nat->α->α->Bool
 | 0,p,_=>decide (p=nil)
 | n+1,p,b=>match dec p with
  | none=>false
  | some i=>S i && (decide (bk i=b) && refL n (nxt i) p)
def prgL:Nat->List Nat->α->α->Bool
 | 0,_,_,_=>false
 | n+1,l,p,b=>if p=nil then l.isEmpty else match dec p with
  | none=>false
  | some i=>decide (i∈l) && (decide (bk i=b) && prgL n (l.erase i) (nxt i) p)
def oI(cod:Nat->α):List Nat->Prop
 | []=>True
 | v :: t=>bk v=(match t with | []=>nil | u :: _=>cod u)/\oI cod t
variable {dec nil nxt bk S}
omit [DecidableEq α] in
theorem ZN{cod:Nat->α}(d:∀ i,cod i≠nil)(hi:∀ i j,cod i=cod j->i=j){x:Nat}{v:Nat}(hx:bk x=cod v):
  ∀ (V:List Nat),oI nil bk cod V->V.Nodup->v ∉ V.tail->x ∉ V:=by
 intro V;induction V with
 | nil=>intro _ _ _ h;cases h
 | cons a t k=>
  intro hc hd c g;obtain⟨b,f⟩:=hc;rcases List.mem_cons.1 g with e|e
  ·subst e;rw[hx] at b
   cases t with
   | nil=>exact d _ b
   | cons u l=>
    have:=hi _ _ b;exact c (by rw[this];exact aw)
  ·exact k f (List.nodup_cons.1 hd).2 (fun h=>c (List.mem_of_mem_tail h)) e
theorem DA{cod:Nat->α}(y:∀ i,cod i≠nil)(hi:∀ i j,cod i=cod j->i=j)(s:∀ p i,dec p=some i->p=cod i)(m:dec nil=none)(r:List Nat)(h0:r.Nodup)
  (hS:∀ p i,dec p=some i->(i∈r↔S i=true)):
  ∀ (n:Nat) (l V:List Nat) (p b : α),l.length=n->l.Nodup->V.Nodup->(∀ i,i∈r↔i∈l\/i∈V)->(∀ i,i∈l->i ∉ V)->oI nil bk cod V->b=(match V with|[]=>nil|u :: _=>cod u)->
   prgL dec nil nxt bk (n+1) l p b=refL dec nil nxt bk S n p b:=by
 intro n;induction n with
 | zero=>
  intro l V p b hl _ _ _ _ _ _;have:l=[]:=bq hl;subst this;by_cases hp:p=nil
  ·simp[prgL,refL,hp]
  ·simp only[prgL,refL,hp,if_false,decide_false]
   cases dec p <;> simp
 | succ n z=>
  intro l V p b hl hd o w f hc hb;rw[prgL];by_cases hp:p=nil
  ·rw[ae hp,hp];simp only[refL,m]
   cases l with
   | nil=>simp at hl
   | cons=>rfl
  ·rw[ac hp];simp only[refL]
   cases hdp:dec p with
   | none=>rfl
   | some i=>
    show(decide (i∈l) && _)=(S i && _)
    by_cases d:bk i=b
    ·have g:i ∉ V:=by
      cases V with
      | nil=>intro h;cases h
      | cons v t=>
       refine ZN y hi (x:=i) (v:=v) (by rw[d,hb]) (v :: t) hc o ?_;exact(List.nodup_cons.1 o).1
     have c:i∈l↔S i=true:=by rw[<-hS p i hdp,w i];exact⟨Or.inl,fun h=>h.resolve_right g⟩
     by_cases a:i∈l
     ·rw[af a,c.1 a];congr 2
      have k:=s p i hdp;refine z (l.erase i) (i :: V) (nxt i) p ?_ (hd.erase i) (List.nodup_cons.2 ⟨g,o⟩) ?_ ?_ ⟨by rw[d,hb],hc⟩ k
      ·rw[List.length_erase_of_mem a,hl];rfl
      ·intro j;rw[w j,hd.mem_erase_iff,List.mem_cons];by_cases e:j=i
       ·subst e;simp[a]
       ·simp[e]
      ·intro j q;rw[hd.mem_erase_iff] at q;rw[List.mem_cons];rintro (e|e)
       ·exact q.1 e
       ·exact f j q.2 e
     ·rw[ah a];have:S i=false:=by
       cases hs:S i with
       | false=>rfl
       | true=>exact absurd (c.2 hs) a
      rw[this];rfl
    ·rw[ah d];simp
end
end Go.Proofs.YtfmgnljlkdmndaaGreatDoor.W
