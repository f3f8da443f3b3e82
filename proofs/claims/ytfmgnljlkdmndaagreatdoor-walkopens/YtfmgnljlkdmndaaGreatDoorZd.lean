import Derived.Laws.BitsAllLaws
import Derived.Test.YtfmgnljlkdmndaaGreatDoorChecked
import Derived.WalkKit
import Derived.WalkSpells
import Derived.WalkLawsBesides
import Derived.Outline
import Derived.Laws.CopyOwn
import Derived.RegionTactic
import Derived.ChangeAlike
import Derived.Deep.RegionHeld3
import Derived.Deep.QuietTactic
import Derived.BigQuiet
import Derived.Laws.StructEq
import Derived.Test.YtfmgnljlkdmndaaGreatDoorHd
set_option maxRecDepth 1000000
set_option maxHeartbeats 0
namespace Go.Proofs.YtfmgnljlkdmndaaGreatDoor
open Tryz
set_option linter.unusedVariables false
def gH(x:Nat):Bool:=decide (x≠0/\x &&& (x-1)=0)
def lg(x:Nat):Int:=if x=0 then -1 else (Nat.log2 x:Int)
def dA:Nat->Nat->Nat
 | 0,_=>0
 | k+1,x=>x%2+dA k (x/2)
def cl(x:Nat):Nat:=if x<=1 then 0 else Nat.log2 (x-1)+1
def lD(w x:Nat):Nat:=if cl x<w then 2 ^ cl x else 0
def pL(w x:Nat):Bool:=decide (cl x<w)
def lR(x a:Nat):Nat:=if gH a=true then x/a*a else 0
theorem wA(x:Nat):gH x=true↔∃ n,x=2 ^ n:=by
 unfold gH;by_cases h:x=0
 ·subst h;simp
  intro n a;have:=ax n;omega
 ·rw[decide_eq_true_iff];have:=Nat.and_sub_one_eq_zero_iff_isPowerOfTwo h;unfold Nat.isPowerOfTwo at this;rw[this];simp[h]
theorem mM(a b:Nat) : 2 ^ a<=2 ^ b↔a<=b:=Nat.pow_le_pow_iff_right (by decide)
theorem iG(a b:Nat) : 2 ^ a<2 ^ b↔a<b:=Nat.pow_lt_pow_iff_right (by decide)
theorem ED(a b:Nat)(h : 2 ^ a=2 ^ b):a=b:=by have c:=(mM a b).1 (by omega);have d:=(mM b a).1 (by omega);omega
theorem TG(x:Nat) : -1<=lg x:=by unfold lg;split <;> omega
theorem EC:lg 0 = -1:=rfl
theorem oN(x:Nat)(h:x≠0):lg x=(Nat.log2 x:Int):=by unfold lg;simp[h]
theorem TF(x w:Nat)(h:x<2 ^ w):lg x<(w:Int)\/x=0:=by
 by_cases h0:x=0;·exact Or.inr h0
 ·left
  rw[oN x h0];have:=(Nat.log2_lt h0).2 h;omega
theorem FK(x k:Nat)(h0:x/2 ^ k=0)(b:∀ j,j<k->x/2 ^ j≠0):(k:Int)-1=lg x:=by
 have e:x<2 ^ k:=by
  rcases Nat.div_eq_zero_iff.1 h0 with h|h
  ·have:=ax k;omega
  ·exact h
 by_cases hx:x=0
 ·subst hx;have:k=0:=by
   by_cases a:k=0;·exact a
   ·exact absurd (by simp) (b 0 (by omega))
  subst this;rw[EC];omega
 ·rw[oN x hx];have c:=(Nat.log2_lt hx).2 e;have d:k-1<=Nat.log2 x:=by
   by_cases a:k=0;·omega
   ·rw[Nat.le_log2 hx];have:=b (k-1) (by omega);rw[Ne,Nat.div_eq_zero_iff] at this;omega
  omega
theorem XJ(x:Nat)(hx:x<2 ^ 64)(a:∀ j,j<64->x/2 ^ j≠0):(63:Int)=lg x:=by have h:=FK x 64 (Nat.div_eq_of_lt hx) a;omega
theorem XI(k x:Nat):dA k x<=k:=by
 induction k generalizing x with
 | zero=>simp[dA]
 | succ k a=>have:=a (x/2);simp only[dA];omega
theorem zjG(x k n:Nat)(h:k<n):dA (n-k) (x/2 ^ k)=x/2 ^ k%2+dA (n-(k+1)) (x/2 ^ (k+1)):=by
 have e:n-k=(n-(k+1))+1:=by omega
 rw[e,dA,Nat.div_div_eq_div_mul,<-co]
theorem zjH(k:Nat):dA k 0=0:=by
 induction k with
 | zero=>rfl
 | succ k a=>simp[dA,a]
def ju(x:Nat):Nat:=if h:x=0 then 0 else x%2+ju (x/2)
 termination_by x
 decreasing_by omega
theorem vE(k x:Nat)(h:x<2 ^ k):ju x=dA k x:=by
 induction k generalizing x with
 | zero=>
      have:x=0:=by omega
      subst this;rw[ju];rfl
 | succ k a=>
  rw[ju];split;·rename_i h0;subst h0;rw[zjH]
  ·rw[a (x/2) (by rw[co] at h;omega)];rfl
theorem DE(x:Nat)(h:x<2 ^ 64):ju x<=64:=by rw[vE 64 x h];exact XI 64 x
theorem EA(x n:Nat):x<=2 ^ n↔cl x<=n:=by
 unfold cl;split;·rename_i h;have:=ax n;constructor <;> intro <;> omega
 ·rename_i h;have a:x-1≠0:=by omega
  have:=Nat.log2_lt (k:=n) a;constructor;·intro b;have:=this.2 (by omega);omega
  ·intro b;have:=this.1 (by omega);omega
theorem TE(x:Nat):lg (x-1)+1=(cl x:Int):=by
 unfold lg cl;by_cases a:x<=1
 ·have:x-1=0:=by omega
  simp[this,a]
 ·have:x-1≠0:=by omega
  simp[this,a]
theorem TD(x w:Nat)(h:x<2 ^ w):cl x<=w:=(EA x w).1 (by omega)
theorem XH(n w:Nat)(h:n<=w) : 2 ^ n%2 ^ w=if n<w then 2 ^ n else 0:=by
 split;·rename_i a;exact Nat.mod_eq_of_lt ((iG n w).2 a)
 ·have:n=w:=by omega
  subst this;simp
theorem zgB(x n w:Nat)(hx:x<2 ^ w)(d:n<w):x &&& (2 ^ w-1-(2 ^ n-1))=x/2 ^ n*2 ^ n:=by
 have hp : 2 ^ n-1<2 ^ w:=by have:=(iG n w).2 d;omega
 apply Nat.eq_of_testBit_eq
 intro i;have e : 2 ^ w-1-(2 ^ n-1)=2 ^ w-((2 ^ n-1)+1):=by omega
 rw[Nat.testBit_and,e,Nat.testBit_two_pow_sub_succ hp,Nat.testBit_two_pow_sub_one];rw[<-Nat.shiftRight_eq_div_pow,<-Nat.shiftLeft_eq,Nat.testBit_shiftLeft,Nat.testBit_shiftRight];by_cases a:i<n;·simp[a,Nat.not_le.2 a]
 ·have f:n<=i:=by omega
  have b:n+(i-n)=i:=by omega
  simp[a,f,b];intro hb;by_cases c:i<w;·exact c
  ·have:=Nat.testBit_lt_two_pow (x:=x) (i:=i) (by have:=(mM w i).2 (by omega);omega);rw[this] at hb;cases hb
theorem rX(x k:Nat)(a:x<2 ^ 64):((x:Int)/2 ^ k)=((x/2 ^ k:Nat):Int):=by simp
theorem zlA(x a:Nat)(h:gH a=false):lR x a=0:=by simp[lR,h]
theorem xS(x a:Nat)(h:gH a=true):lR x a=x/a*a:=by simp[lR,h]
theorem XG(a:Nat)(h:gH a=true) : 1<=a:=by obtain⟨n,rfl⟩:=(wA a).1 h;exact ax n
theorem zfX(x a w:Nat)(hx:x<2 ^ w)(ha:a<2 ^ w)(h:gH a=true):x &&& (2 ^ w-1-(a-1))=lR x a:=by rw[xS x a h];obtain⟨n,rfl⟩:=(wA a).1 h;exact zgB x n w hx ((iG n w).1 ha)
theorem TA(x w:Nat)(h:x<2 ^ w)(h0 : 1<=w):lg x+1<=(w:Int):=by
 rcases TF x w h with h|h
 ·omega
 ·subst h;rw[EC];omega
theorem FJ(W x:Nat)(hx:x<2 ^ W):((2:Int) ^ (lg (x-1)+1).toNat)%2 ^ W=((lD W x:Nat):Int):=by
 rw[TE,aa];have e:((2:Int) ^ cl x)%2 ^ W=((2 ^ cl x%2 ^ W:Nat):Int):=by simp
 rw[e,XH _ _ (TD x W hx)];rfl
theorem XF(W x:Nat):(((lD W x:Nat):Int) != 0)=pL W x:=by
 unfold lD pL;have:=ax (cl x);by_cases h:cl x<W;·rw[ae h,af h];exact cx.2 (by omega)
 ·simp[h]
open Go.RowKit
theorem aA{p:Prop}(h:p):Hd p:=h
theorem dX{k:IntKind}{a b:Int}(h:a=b):Ending.returned (.int k a)=.returned (.int k b):=by rw[h]
theorem cN{a b:Bool}(h:a=b):Ending.returned (.bool a)=.returned (.bool b):=by rw[h]
theorem wrap_u64(n:Int):IntKind.u64.wrap n=n%2 ^ 64:=IntKind.wrap_u64 n
theorem zlF{k:IntKind}{a b:Int}{p q:Bool}(h:a=b)(c:p=q):Ending.returned (.tuple #[.int k a,.bool p])=.returned (.tuple #[.int k b,.bool q]):=by rw[h,c]
theorem zid(x:Nat)(hx:x<2 ^ 64)(h:x≠0):(((x:Int) != 0) && (bits BinOp.and IntKind.u64 (x:Int) ((x:Int)-1) == 0))=gH x:=by
 have e:((x:Int)-1)=((x-1:Nat):Int):=by omega
 rw[e,u64_and_nat x (x-1) (by omega) (by omega)];unfold gH;by_cases a:x &&& (x-1)=0 <;> simp[h,a]
theorem uA(x:Nat)(hx:x<2 ^ 64)(w:Wd):Calls prog 58 #[.int .u64 x] w fun e a=>e=.returned (.bool (gH x))/\a=w:=by
 by_cases h:x=0
 ·subst h;go_enter func58,ntmps58;go_wp2
  go_ret;exact⟨rfl,rfl⟩
 ·have e:=zid x hx h;have E:Hd ((((x:Int) != 0) && (bits BinOp.and IntKind.u64 (x:Int) ((x:Int)-1) == 0))=gH x):=e;clear e;go_enter func58,ntmps58;go_wp2
  go_ret;exact⟨cN E.o,rfl⟩
theorem pV(x:Nat)(hx:x<2 ^ 64)(w:Wd):Calls prog 116 #[.int .u64 x] w fun e a=>e=.returned (.int .i64 (lg x))/\a=w:=by
 go_enter func116,ntmps116;go_wp2
 go_loop [4] (fun i=>∃ k:Nat,k<=64/\i=.int .i64 k/\Hd (∀ j,j<k->x/2 ^ j≠0)) (fun i=>64-(intOf i).toNat)
 case atStart=>exact⟨0,by omega,rfl,fun j b=>by omega⟩
 case round=>
  obtain⟨k,f,rfl,hp⟩:=hrel;by_cases c:k<64
  ·go_wp2
   ·go_ret;have h:((x:Int)/2 ^ (k) == 0)=true:=(by assumption);rw[rX x k hx] at h;exact⟨dX (FK x k (Int.natCast_eq_zero.1 (eq_of_beq h)) hp.o),rfl⟩
   ·have h:((x:Int)/2 ^ (k) == 0)=false:=(by assumption);rw[rX x k hx] at h;go_round
    case rel=>
     refine⟨k+1,by omega,by go_num,?_⟩;intro j b;by_cases e:j<k;·exact hp.o j e
     ·have:j=k:=by omega
      subst this;intro d;simp[d] at h
    case measure=>simp[intOf];omega
  ·go_wp2
   go_ret;have:k=64:=by omega
   subst this;exact⟨dX (XJ x (by omega) hp.o),rfl⟩
theorem zjM(x:Nat)(hx:x<2 ^ 64)(w:Wd):Calls prog 234 #[.int .u64 x] w fun e b=>e=.returned (.int .i64 (dA 64 x))/\b=w:=by
 go_enter func234,ntmps234;go_wp2
 go_loop [3,5] (fun c i=>∃ k n:Nat,k<=64/\n<=k/\i=.int .i64 k/\c=.int .i64 n/\Hd (n+dA (64-k) (x/2 ^ k)=dA 64 x)) (fun _ i=>64-(intOf i).toNat)
 case atStart=>exact⟨0,0,by omega,by omega,rfl,rfl,(by simp : 0+dA (64-0) (x/2 ^ 0)=dA 64 x)⟩
 case round=>
  obtain⟨k,n,f,d,rfl,rfl,hp⟩:=hrel;by_cases a:k<64
  ·go_wp2
   have hb:bits BinOp.and IntKind.u64 ((x:Int)/2 ^ (k)) 1=((x/2 ^ k%2:Nat):Int):=by rw[rX x k hx];have hd:x/2 ^ k<2 ^ 64:=Nat.lt_of_le_of_lt (dg _ _) hx;have:=u64_and_nat (x/2 ^ k) 1 (by omega) (by decide);rw[nat_mask1] at this;exact this
   have hc:=zjG x k 64 a;go_round
   case rel=>
    refine⟨k+1,n+x/2 ^ k%2,by omega,by omega,by go_num,?_,?_⟩
    ·rw[hb];congr 1
     rw[IntWalk.wrap64_in ((x/2 ^ k%2:Nat):Int) (by omega),IntWalk.wrap64_in _ (by omega)];omega
    ·have:=hp.o;show _=_
     omega
   case measure=>simp[intOf];omega
  ·go_wp2
   go_ret;have:k=64:=by omega
   subst this;have h:=hp.o;rw[show dA (64-64) (x/2 ^ 64)=0 from rfl] at h;exact⟨dX (by rw[<-h];rfl),rfl⟩
theorem zlG(x:Nat)(hx:x<2 ^ 64)(w:Wd):Calls prog 234 #[.int .u64 x] w fun e a=>e=.returned (.int .i64 (ju x))/\a=w:=by
 rw[vE 64 x (by omega)];exact zjM x hx w
theorem WY(x:Nat)(hx:x<2 ^ 64)(w:Wd):Calls prog 106 #[.int .u64 x] w fun e a=>e=.returned (.tuple #[.int .u64 (lD 64 x),.bool (pL 64 x)])/\a=w:=by
 by_cases h:x=0
 ·subst h;go_enter func106,ntmps106;go_wp2
  go_ret2;exact⟨rfl,rfl⟩
 ·have c:=TG (x-1);have h0 : 0<=lg (x-1)+1:=by omega
  have f:lg (x-1)+1<=64:=TA (x-1) 64 (by omega) (by decide);have e:((x:Int)-1)=((x-1:Nat):Int):=by omega
  go_enter func106,ntmps106;go_wp2_with (go_at_call 116;refine(pV (x-1) (by omega) _).mono ?_;rintro e a ⟨rfl,rfl⟩)
  go_ret2;have b:IntKind.u64.wrap (2 ^ (lg (x-1)+1).toNat)=((lD 64 x:Nat):Int):=by rw[wrap_u64];exact FJ 64 x hx
  have d:(2:Int) ^ (lg (x-1)+1).toNat%18446744073709551616=((lD 64 x:Nat):Int):=FJ 64 x hx;refine⟨?_,rfl⟩;exact zlF b (by rw[b];exact XF 64 x)
theorem WX(x a:Nat)(hx:x<2 ^ 64)(ha:a<2 ^ 64)(w:Wd):Calls prog 164 #[.int .u64 x,.int .u64 a] w fun e b=>e=.returned (.tuple #[.int .u64 (lR x a),.bool (gH a)])/\b=w:=by
 by_cases h:gH a=true
 ·have hp:=XG a h;have e:bits BinOp.andNot IntKind.u64 (x:Int) ((a:Int)-1)=((lR x a:Nat):Int):=by
   have e:((a:Int)-1)=((a-1:Nat):Int):=(by omega);rw[e,u64_andNot_nat x (a-1) (by omega) (by omega)];congr 1
   exact zfX x a 64 hx ha h
  have E:Hd (bits BinOp.andNot IntKind.u64 (x:Int) ((a:Int)-1)=((lR x a:Nat):Int)):=e;clear e;go_enter func164,ntmps164;go_wp2_with (go_at_call 58;refine(uA a ha _).mono ?_;rintro e b ⟨rfl,rfl⟩)
  go_ret2;refine⟨?_,rfl⟩;simp only[E.o,h];rfl
 ·have h:gH a=false:=by simpa using h
  have e:=zlA x a h;go_enter func164,ntmps164;go_wp2_with (go_at_call 58;refine(uA a ha _).mono ?_;rintro e b ⟨rfl,rfl⟩)
  go_ret2;refine⟨?_,rfl⟩;simp only[e,h];rfl
def bT(ws:List Nat):Array Vl:=(ws.map fun (x:Nat)=>Value.int .u64 x).toArray
def eS(m:Nat):List Nat:=List.replicate m 0
theorem mS(m:Nat):(eS m).length=m:=by simp[eS]
theorem oZ(m i:Nat):(eS m).getD i 0=0:=by simp[eS,List.getD,List.getElem?_replicate];split <;> rfl
structure SetAt(w:Wd)(b c n:Nat)(ws:List Nat):Prop where
 ne:c≠b
 hb:w.heap[b]?=some (.cells #[.int .i64 n,.slice (some ⟨c,0,none⟩) ws.length ws.length] 181 (0,0))
 hc:w.heap[c]?=some (.cells (bT ws) 22 (0,0))
 len:ws.length=(n+63)/64
 fk:n<=1048576
 ok:∀ i,i<ws.length->ws.getD i 0<2 ^ (min 64 (n-64*i))
theorem SetAt.lq{w b c n ws}(h:SetAt w b c n ws):w.cell? ⟨b,0,none⟩=some (.int .i64 n):=by simp[World.cell?,h.hb]
theorem SetAt.ja{w b c n ws}(h:SetAt w b c n ws):w.cell? ⟨b,1,none⟩=some (.slice (some ⟨c,0,none⟩) ws.length ws.length):=by simp[World.cell?,h.hb]
theorem SetAt.cc{w b c n ws}(h:SetAt w b c n ws)(i:Nat)(hi:i<ws.length):w.cell? ⟨c,i,none⟩=some (.int .u64 ((ws.getD i 0:Nat):Int)):=by simp[World.cell?,h.hc,bT,hi]
theorem SetAt.fb{w b c n ws}(h:SetAt w b c n ws)(i:Nat):w.frozen? ⟨b,i,none⟩=false:=by simp[World.frozen?,h.hb]
theorem SetAt.fc{w b c n ws}(h:SetAt w b c n ws)(i:Nat):w.frozen? ⟨c,i,none⟩=false:=by simp[World.frozen?,h.hc]
theorem SetAt.gk{w b c n ws}(h:SetAt w b c n ws)(i:Nat):ws.getD i 0<2 ^ 64:=by
 by_cases hi:i<ws.length;·exact bg (h.ok i hi) ((mM _ _).2 (Nat.min_le_left _ _))
 ·have:ws.getD i 0=0:=by simp[List.getD,Nat.not_lt.1 hi]
  rw[this];decide
theorem tK:(prog.info? 22).map (fun i=>(i.zero,i.size,i.bytes))=some (some (.int .u64 0),1,8):=by kernel_rfl
theorem zin(m:Nat):madeCells (Value.int .u64 0).cells (m*1)=bT (eS m):=by
 simp only[madeCells,bT,eS];apply Array.ext;·simp
 ·intro i a b;have:i%1=0:=Nat.mod_one i;simp[Value.cells,this]
theorem tO(m:Nat)(d:m<=1048576)(w:Wd):(Instr.makeSlice 39 (.int .i64 m) (.int .i64 m)).run prog w=.ok (.slice (some ⟨w.heap.size,0,none⟩) m m) (w.alloc (.cells (bT (eS m)) 22)):=by
 obtain⟨i,hi,a,b,c⟩:=info_parts tK;have:=run_make (P:=prog) w 39 22 i (.int .u64 0) Tryz.underlying39 hi a .i64 .i64 (m:Int) (m:Int) (by omega) (by omega) (by rw[c];omega) (by omega);rw[b] at this;simp only[aa,zin] at this;exact this
def dU(n:Int):Nat:=if n<0 then 0 else if 1048576<n then 1048576 else n.toNat
theorem zio(n:Nat)(d:n<=1048576)(w:Wd):Calls prog 102 #[.int .i64 n] w fun e b=>e=.returned (.pointer (some ⟨w.heap.size+1,0,none⟩))/\b=(w.alloc (.cells (bT (eS ((n+63)/64))) 22)).alloc (.cells #[.int .i64 n,.slice (some ⟨w.heap.size,0,none⟩) ((n+63)/64) ((n+63)/64)] 181):=by
 obtain⟨m,a⟩:=xe ((n+63)/64);rw[<-a];have c:=tO m (by omega);have hq:((n:Int)+64-1)/64=(m:Int):=by omega
 clear a;go_enter func102,ntmps102;go_wp2
 go_ret;exact⟨rfl,rfl⟩
def aD(n:Nat)(i:Int):Bool:=decide (0<=i/\i<n)
theorem lV(b c n:Nat)(ws:List Nat)(i:Int)(w:Wd)(h:SetAt w b c n ws):Calls prog 150 #[.pointer (some ⟨b,0,none⟩),.int .i64 i] w fun e a=>e=.returned (.bool (aD n i))/\a=w:=by
 have h0:=h.lq;have d:=h.fk;clear h;by_cases hi : 0<=i
 ·go_enter func150,ntmps150;go_wp2
  go_ret;exact⟨cN (by simp[aD,hi]),rfl⟩
 ·go_enter func150,ntmps150;go_wp2
  go_ret;exact⟨cN (by simp[aD];omega),rfl⟩
theorem DQ(b c n:Nat)(ws:List Nat)(w:Wd)(h:SetAt w b c n ws):Calls prog 154 #[.pointer (some ⟨b,0,none⟩)] w fun e a=>e=.returned (.int .i64 n)/\a=w:=by
 have h0:=h.lq;have d:=h.fk;clear h;go_enter func154,ntmps154;go_wp2
 go_ret;exact⟨rfl,rfl⟩
def aE(ws:List Nat)(j:Nat):Bool:=(ws.getD (j/64) 0)/2 ^ (j%64)%2 == 1
def cS(n:Nat)(ws:List Nat)(i:Int):Bool:=aD n i && aE ws i.toNat
theorem nJ(b c n:Nat)(ws:List Nat)(i:Int)(w:Wd)(h:SetAt w b c n ws):Calls prog 192 #[.pointer (some ⟨b,0,none⟩),.int .i64 i] w fun e d=>e=.returned (.bool (cS n ws i))/\d=w:=by
 by_cases hi : 0<=i/\i<n
 ·obtain⟨k,rfl⟩:=au hi.1;have hl:=h.len;have v:=h.fk;have f:k<n:=by omega
  obtain⟨q,hq⟩:=xe (k/64);obtain⟨r,m⟩:=xe (k%64);have j:q<ws.length:=by omega
  have l:r<64:=by omega
  have g:=h.cc q j;have a:=h.gk q;have u:=h.ja;obtain⟨x,hx⟩:=xe (ws.getD q 0);rw[<-hx] at g a;have hd:aD n (k:Int)=true:=by simpa [aD] using hi
  have E:Hd (((bits BinOp.and IntKind.u64 ((x:Int)/2 ^ r) 1) == 1)=cS n ws k):=by
   show _=_
   rw[rX x r a];have s:x/2 ^ r<2 ^ 64:=Nat.lt_of_le_of_lt (dg _ _) a;have:=u64_and_nat (x/2 ^ r) 1 (by omega) (by decide);rw[nat_mask1] at this;rw[show(1:Int)=((1:Nat):Int)from rfl,this];unfold cS aE;rw[hd,aa,<-hq,<-m,<-hx,bf,Bool.eq_iff_iff];simp only[cu];omega
  have o:(k:Int)/64=(q:Int):=by omega
  have t:(k:Int)%64=(r:Int):=by omega
  have p:=aA h;have jw:k<=1048576:=by omega
  clear hx h hi hl hq m f;go_enter func192,ntmps192;go_wp2_with (go_at_call 150;refine(lV b c n ws _ _ p.o).mono ?_;rintro e d ⟨rfl,rfl⟩)
  go_ret;exact⟨cN E.o,rfl⟩
 ·have hd:aD n i=false:=by simp only[aD];exact ah hi
  clear hi;go_enter func192,ntmps192;go_wp2_with (go_at_call 150;refine(lV b c n ws _ _ h).mono ?_;rintro e d ⟨rfl,rfl⟩)
  go_ret;exact⟨cN (by simp[cS,hd]),rfl⟩
structure Kt(S:Nat->Prop)(w w':Wd):Prop where
 os:w'.os=w.os
 tape:w'.tape=w.tape
 output:w'.output=w.output
 size:w.heap.size<=w'.heap.size
 block:∀ k,k<w.heap.size->¬S k->w'.heap[k]?=w.heap[k]?
theorem Kt.refl(S:Nat->Prop)(w:Wd):Kt S w w:=⟨rfl,rfl,rfl,aj _,fun _ _ _=>rfl⟩
theorem Kt.trans{S T U:Nat->Prop}{a b c:Wd}(h:Kt S a b)(k:Kt T b c)(hS:∀ x,x<a.heap.size->S x->U x)(e:∀ x,x<a.heap.size->T x->U x):Kt U a c:=
 ⟨k.os.trans h.os,k.tape.trans h.tape,k.output.trans h.output,an h.size k.size,fun i hi d=>(k.block i (bg hi h.size) (fun x=>d (e i hi x))).trans (h.block i hi (fun x=>d (hS i hi x)))⟩
theorem Kt.mono{S T:Nat->Prop}{a b:Wd}(h:Kt S a b)(hS:∀ x,x<a.heap.size->S x->T x):Kt T a b:=
 ⟨h.os,h.tape,h.output,h.size,fun i hi c=>h.block i hi (fun x=>c (hS i hi x))⟩
theorem Kt.below{S:Nat->Prop}{B:Nat}{a b:Wd}(h:Kt S a b)(c:B<=a.heap.size)(hS:∀ x,S x->B<=x):Below B a b:=
 ⟨h.os,h.tape,h.output,h.size,fun i hi=>h.block i (by omega) (fun x=>by have:=hS i x;omega)⟩
theorem Kt.drew{S:Nat->Prop}{a b:Wd}(h:Kt S a b):Kt S a b.drew:=⟨h.os,h.tape,h.output,h.size,h.block⟩
theorem Kt.alloc{S:Nat->Prop}{a b:Wd}(h:Kt S a b)(o:Obj):Kt S a (b.alloc o):=
 ⟨h.os,h.tape,h.output,by simp;have:=h.size;omega,fun i hi c=>by rw[Below.heap_alloc _ _ _ (by have:=h.size;omega)];exact h.block i hi c⟩
theorem Kt.setCell{S:Nat->Prop}{a b:Wd}(h:Kt S a b){p:Addr}(hp:S p.block)(u:Vl):Kt S a (b.setCell p u):=
 ⟨h.os,h.tape,h.output,by simp;exact h.size,fun i hi c=>by rw[Below.heap_setCell b p u i (fun e=>c (by rw[e];exact hp))];exact h.block i hi c⟩
structure RawAt(w:Wd)(b c n:Nat)(ws:List Nat):Prop where
 ne:c≠b
 hb:w.heap[b]?=some (.cells #[.int .i64 n,.slice (some ⟨c,0,none⟩) ws.length ws.length] 181 (0,0))
 hc:w.heap[c]?=some (.cells (bT ws) 22 (0,0))
 len:ws.length=(n+63)/64
 fk:n<=1048576
 lt:∀ i,ws.getD i 0<2 ^ 64
theorem SetAt.raw{w b c n ws}(h:SetAt w b c n ws):RawAt w b c n ws:=⟨h.ne,h.hb,h.hc,h.len,h.fk,h.gk⟩
theorem RawAt.set{w b c n ws}(h:RawAt w b c n ws)(ok:∀ i,i<ws.length->ws.getD i 0<2 ^ (min 64 (n-64*i))):SetAt w b c n ws:=⟨h.ne,h.hb,h.hc,h.len,h.fk,ok⟩
theorem RawAt.lq{w b c n ws}(h:RawAt w b c n ws):w.cell? ⟨b,0,none⟩=some (.int .i64 n):=by simp[World.cell?,h.hb]
theorem RawAt.ja{w b c n ws}(h:RawAt w b c n ws):w.cell? ⟨b,1,none⟩=some (.slice (some ⟨c,0,none⟩) ws.length ws.length):=by simp[World.cell?,h.hb]
theorem RawAt.cc{w b c n ws}(h:RawAt w b c n ws)(i:Nat)(hi:i<ws.length):w.cell? ⟨c,i,none⟩=some (.int .u64 ((ws.getD i 0:Nat):Int)):=by simp[World.cell?,h.hc,bT,hi]
theorem RawAt.fc{w b c n ws}(h:RawAt w b c n ws)(i:Nat):w.frozen? ⟨c,i,none⟩=false:=by simp[World.frozen?,h.hc]
theorem RawAt.bc{w b c n ws}(h:RawAt w b c n ws):b<w.heap.size/\c<w.heap.size:=
 ⟨(am.1 h.hb).1,(am.1 h.hc).1⟩
theorem RawAt.kept{w w' b c n ws}{S:Nat->Prop}(h:RawAt w b c n ws)(k:Kt S w w')(hb:¬S b)(hc:¬S c):RawAt w' b c n ws:=
 ⟨h.ne,(k.block b h.bc.1 hb).trans h.hb,(k.block c h.bc.2 hc).trans h.hc,h.len,h.fk,h.lt⟩
theorem SetAt.kept{w w' b c n ws}{S:Nat->Prop}(h:SetAt w b c n ws)(k:Kt S w w')(hb:¬S b)(hc:¬S c):SetAt w' b c n ws:=
 (h.raw.kept k hb hc).set h.ok
theorem uJ(ws:List Nat)(q y:Nat)(hq:q<ws.length):(ws.set q y).getD q 0=y:=by simp[List.getD,hq]
theorem getD_set_ne(ws:List Nat)(q y i:Nat)(h:i≠q):(ws.set q y).getD i 0=ws.getD i 0:=by simp[List.getD,Ne.symm h]
theorem RawAt.write{w b c n ws}(h:RawAt w b c n ws)(q y:Nat)(hq:q<ws.length)(hy:y<2 ^ 64):RawAt (w.setCell ⟨c,q,none⟩ (.int .u64 y)) b c n (ws.set q y):=by
 refine⟨h.ne,?_,?_,by simpa using h.len,h.fk,?_⟩;·rw[Below.heap_setCell _ _ _ _ (fun e=>h.ne e.symm),h.hb];simp
 ·have a:=h.bc.2;have d:=(am.1 h.hc).2;simp only[World.setCell];rw[Array.getElem?_modify,ae rfl,h.hc];simp[bT,List.map_set]
 ·intro i;by_cases e:i=q
  ·subst e;rw[uJ ws i y hq];exact hy
  ·rw[getD_set_ne ws q y i e];exact h.lt i
theorem RawAt.drew{w b c n ws}(h:RawAt w b c n ws):RawAt w.drew b c n ws:=⟨h.ne,h.hb,h.hc,h.len,h.fk,h.lt⟩
theorem nH(w:Wd)(o:Obj):(w.alloc o).heap[w.heap.size]?=some o:=by
 show(w.heap.push o)[w.heap.size]?=_
 simp
theorem uD(n:Int)(h : -9223372036854775808<=n)(j:n<=9223372036854775807)(w:Wd):Calls prog 102 #[.int .i64 n] w fun e b=>e=.returned (.pointer (some ⟨w.heap.size+1,0,none⟩))/\RawAt b (w.heap.size+1) w.heap.size (dU n) (eS ((dU n+63)/64))/\Kt (fun _=>False) w b/\b.heap.size=w.heap.size+2:=by
 have a:∀ (b:Wd) (N:Nat),N<=1048576->dU n=N->b=(w.alloc (.cells (bT (eS ((N+63)/64))) 22)).alloc (.cells #[.int .i64 N,.slice (some ⟨w.heap.size,0,none⟩) ((N+63)/64) ((N+63)/64)] 181)->
   RawAt b (w.heap.size+1) w.heap.size (dU n) (eS ((dU n+63)/64))/\Kt (fun _=>False) w b/\b.heap.size=w.heap.size+2:=by
  intro b N g hf hw;rw[hf];subst hw;refine⟨⟨by omega,?_,?_,by simp[mS],g,?_⟩,((Kt.refl _ w).alloc _).alloc _,by simp⟩;·have:=nH (w.alloc (.cells (bT (eS ((N+63)/64))) 22)) (.cells #[.int .i64 N,.slice (some ⟨w.heap.size,0,none⟩) ((N+63)/64) ((N+63)/64)] 181);rw[World.size_alloc] at this;rw[this,mS]
  ·rw[Below.heap_alloc _ _ _ (by simp),nH]
  ·intro i;rw[oZ];decide
 by_cases d:n<0
 ·have hf:dU n=0:=by simp[dU,d]
  have f:∀ w,(Instr.makeSlice 39 (.int .i64 0) (.int .i64 0)).run prog w=.ok (.slice (some ⟨w.heap.size,0,none⟩) 0 0) (w.alloc (.cells (bT (eS 0)) 22)):=tO 0 (by omega);have c:=aA (a _ 0 (by omega) hf rfl);clear a hf;go_enter func102,ntmps102;go_wp2
  go_ret;exact⟨rfl,c.o⟩
 ·by_cases h2 : 1048576<n
  ·have hf:dU n=1048576:=(by simp[dU,d,h2]);have f:∀ w,(Instr.makeSlice 39 (.int .i64 16384) (.int .i64 16384)).run prog w=.ok (.slice (some ⟨w.heap.size,0,none⟩) 16384 16384) (w.alloc (.cells (bT (eS 16384)) 22)):=tO 16384 (by omega);have c:=aA (a _ 1048576 (by omega) hf rfl);clear a hf;go_enter func102,ntmps102;go_wp2
   go_ret;exact⟨rfl,c.o⟩
  ·obtain⟨k,rfl⟩:=au (by omega : 0<=n);have hf:dU (k:Int)=k:=(by simp[dU,d,h2]);exact(zio k (by omega) w).mono fun e b ⟨he,hw⟩=>⟨he,a b k (by omega) hf hw⟩
theorem WA(b c n:Nat)(ws:List Nat)(k:Nat)(w:Wd)(h:SetAt w b c n ws)(A:k<n):Calls prog 251 #[.pointer (some ⟨b,0,none⟩),.int .i64 k] w fun e j=>e=.returned (.bool true)/\RawAt j b c n (ws.set (k/64) ((ws.getD (k/64) 0) ^^^ 2 ^ (k%64)))/\Kt (fun x=>x=c) w j/\j.heap.size=w.heap.size:=by
 obtain⟨q,hq⟩:=xe (k/64);obtain⟨r,s⟩:=xe (k%64);rw[<-hq,<-s];have hl:=h.len;have D:=h.fk;have i:q<ws.length:=by omega
 have g:r<64:=by omega
 have m:=h.cc q i;have a:=h.gk q;have B:=h.ja;have hf:=h.fc q;obtain⟨x,hx⟩:=xe (ws.getD q 0);rw[<-hx] at m a ⊢;have hd:aD n (k:Int)=true:=by simp only[aD];exact af (by omega)
 have t:(k:Int)/64=(q:Int):=by omega
 have z:(k:Int)%64=(r:Int):=by omega
 have jw:k<=1048576:=by omega
 have hp : 2 ^ r<2 ^ 64:=(iG r 64).2 g;have hy:x ^^^ 2 ^ r<2 ^ 64:=Nat.xor_lt_two_pow a hp;have E:bits BinOp.xor IntKind.u64 (x:Int) (2 ^ r)=((x ^^^ 2 ^ r:Nat):Int):=by have:=bits_xor_u64_nat x (2 ^ r) a hp;rw[<-this];simp
 obtain⟨y,f⟩:=xe (x ^^^ 2 ^ r);rw[<-f] at hy E ⊢;have d:RawAt (w.setCell ⟨c,q,none⟩ (.int .u64 y)).drew b c n (ws.set q y)/\Kt (fun x=>x=c) w (w.setCell ⟨c,q,none⟩ (.int .u64 y)).drew/\(w.setCell ⟨c,q,none⟩ (.int .u64 y)).drew.heap.size=w.heap.size:=
  ⟨(h.raw.write q y i hy).drew,((Kt.refl (fun x=>x=c) w).setCell (p:=⟨c,q,none⟩) rfl _).drew,by simp⟩
 have l:=aA d;have v:=aA h;have u:IntKind.u64.wrap (2 ^ r)=2 ^ r:=by
  rw[wrap_u64];have:((2:Int) ^ r)=((2 ^ r:Nat):Int):=by simp
  rw[this];obtain⟨p,o⟩:=xe (2 ^ r);rw[<-o] at hp ⊢;omega
 clear hx h hl hq s A d f hp;go_enter func251,ntmps251;go_wp2_with (go_at_call 150;refine(lV b c n ws _ _ v.o).mono ?_;rintro e j ⟨rfl,rfl⟩)
 go_region
 all_goals (go_wp2;go_ret;exact⟨rfl,l.o⟩)
def kJ(ws:List Nat)(k:Nat):List Nat:=ws.set (k/64) ((ws.getD (k/64) 0) ^^^ 2 ^ (k%64))
theorem JY(ws:List Nat)(k:Nat):(kJ ws k).length=ws.length:=by simp[kJ]
theorem zkY(b c n:Nat)(ws:List Nat)(k:Nat)(w:Wd)(h:SetAt w b c n ws)(g:k<n):Calls prog 251 #[.pointer (some ⟨b,0,none⟩),.int .i64 k] w fun e a=>e=.returned (.bool true)/\SetAt a b c n (kJ ws k)/\Kt (fun x=>x=c) w a/\a.heap.size=w.heap.size:=by
 refine(WA b c n ws k w h g).mono ?_;rintro e a ⟨he,f,d,hs⟩;refine⟨he,f.set ?_,d,hs⟩;intro i hi;have hl:=h.len;by_cases e:i=k/64;·subst e;rw[uJ _ _ _ (by omega)];exact Nat.xor_lt_two_pow (h.ok _ (by omega)) ((iG _ _).2 (by omega))
 ·rw[getD_set_ne _ _ _ _ e];exact h.ok i (by simpa using hi)
theorem VZ(b c n:Nat)(ws:List Nat)(i:Int)(w:Wd)(h:SetAt w b c n ws)(hd:aD n i=false):Calls prog 251 #[.pointer (some ⟨b,0,none⟩),.int .i64 i] w fun e a=>e=.returned (.bool false)/\a=w:=by
 go_enter func251,ntmps251;go_wp2_with (go_at_call 150;refine(lV b c n ws _ _ h).mono ?_;rintro e a ⟨rfl,rfl⟩)
 go_ret;exact⟨rfl,rfl⟩
theorem zkZ{n:Nat}{i:Int}(h:aD n i=true):∃ k:Nat,i=k/\k<n:=by simp[aD] at h;obtain⟨k,rfl⟩:=au h.1;exact⟨k,rfl,by omega⟩
def gG(n:Nat)(ws:List Nat)(i:Int):List Nat:=if aD n i=true then kJ ws i.toNat else ws
theorem wN(b c n:Nat)(ws:List Nat)(i:Int)(w:Wd)(h:SetAt w b c n ws):Calls prog 251 #[.pointer (some ⟨b,0,none⟩),.int .i64 i] w fun e a=>e=.returned (.bool (aD n i))/\SetAt a b c n (gG n ws i)/\Kt (fun x=>x=c) w a/\a.heap.size=w.heap.size:=by
 cases hd:aD n i with
 | true=>obtain⟨k,rfl,g⟩:=zkZ hd;refine(zkY b c n ws k w h g).mono ?_;rintro e a ⟨he,d⟩;simp only[gG,hd,if_true,aa];exact⟨he,d⟩
 | false=>
  refine(VZ b c n ws i w h hd).mono ?_;rintro e a ⟨he,hw⟩;subst hw;have f:gG n ws i=ws:=by simp[gG,hd]
  rw[f];exact⟨he,h,Kt.refl _ _,rfl⟩
def cH(n:Nat)(ws:List Nat)(i:Int)(v:Bool):List Nat:=if cS n ws i=v then ws else gG n ws i
theorem vN(b c n:Nat)(ws:List Nat)(i:Int)(v:Bool)(w:Wd)(h:SetAt w b c n ws):Calls prog 235 #[.pointer (some ⟨b,0,none⟩),.int .i64 i,.bool v] w fun e a=>e=.returned (.bool (aD n i))/\SetAt a b c n (cH n ws i v)/\Kt (fun x=>x=c) w a/\a.heap.size=w.heap.size:=by
 by_cases d:cS n ws i=v
 ·have j:(cS n ws i == v)=true:=by rw[d];simp
  have f:cH n ws i v=ws:=by simp[cH,d]
  rw[f];clear f d;go_enter func235,ntmps235;go_wp2_with (first|(go_at_call 192;refine(nJ b c n ws _ _ h).mono ?_;rintro e a ⟨rfl,rfl⟩)|(go_at_call 150;refine(lV b c n ws _ _ h).mono ?_;rintro e a ⟨rfl,rfl⟩))
  go_ret;exact⟨rfl,h,Kt.refl _ _,rfl⟩
 ·have j:(cS n ws i == v)=false:=by rw[ag];exact d
  have f:cH n ws i v=gG n ws i:=by simp[cH,d]
  rw[f];clear f d;go_enter func235,ntmps235;go_wp2_with (first|(go_at_call 192;refine(nJ b c n ws _ _ h).mono ?_;rintro e a ⟨rfl,rfl⟩)|(go_at_call 251;refine(wN b c n ws _ _ h).mono ?_;rintro e a ⟨rfl,g⟩))
  go_ret;exact⟨rfl,g⟩
def jZ(n:Nat)(ws:List Nat):List Nat:=if n%64=0 then ws else ws.set (ws.length-1) (ws.getD (ws.length-1) 0%2 ^ (n%64))
theorem wC(r:Nat):((2:Int) ^ r)=((2 ^ r:Nat):Int):=by simp
theorem zQ(r:Nat)(h:r<64) : 1<=(2:Int) ^ r/\(2:Int) ^ r<18446744073709551616:=by have a:=(iG r 64).2 h;have b:=ax r;rw[wC];obtain⟨p,hp⟩:=xe (2 ^ r);rw[<-hp] at a b ⊢;omega
theorem YI(r:Nat)(h:r<64):IntKind.u64.wrap (2 ^ r)=2 ^ r:=by have:=zQ r h;rw[wrap_u64];omega
theorem TN(b c n:Nat)(ws:List Nat)(w:Wd)(h:RawAt w b c n ws):Calls prog 201 #[.pointer (some ⟨b,0,none⟩)] w fun e l=>e=.returned (.tuple #[])/\RawAt l b c n (jZ n ws)/\Kt (fun x=>x=c) w l/\l.heap.size=w.heap.size:=by
 have h0:=h.lq;have G:=h.fk;obtain⟨r,s⟩:=xe (n%64);have A:(n:Int)%64=(r:Int):=by omega
 have a:r<64:=by omega
 by_cases hz:n%64=0
 ·have j:jZ n ws=ws:=by simp[jZ,hz]
  rw[j];have:r=0:=by omega
  subst this;clear s j hz;go_enter func201,ntmps201;go_wp2
  go_end0
  exact⟨rfl,h,Kt.refl _ _,rfl⟩
 ·have hl:=h.len;obtain⟨q,hq⟩:=xe (ws.length-1);have k:q<ws.length:=by omega
  have o:=h.cc q k;have f:=h.lt q;have F:=h.ja;have hf:=h.fc q;obtain⟨x,hx⟩:=xe (ws.getD q 0);have j:jZ n ws=ws.set q (x%2 ^ r):=by simp only[jZ,hz,if_false,hx,hq,s]
  rw[j];rw[<-hx] at o f;have hy:x%2 ^ r<2 ^ 64:=Nat.lt_of_le_of_lt (Nat.mod_le _ _) f;have E:bits BinOp.and IntKind.u64 (x:Int) (2 ^ r-1)=((x%2 ^ r:Nat):Int):=by
   have hp:=ax r;have B:=(iG r 64).2 a;have:=u64_and_nat x (2 ^ r-1) f (by omega);rw[Nat.and_two_pow_sub_one_eq_mod] at this;rw[<-this];congr 1
   rw[wC];omega
  obtain⟨y,i⟩:=xe (x%2 ^ r);rw[<-i] at hy E ⊢;have z:(ws.length:Int)-1=(q:Int):=by omega
  have d:=zQ r a;have u:=d.1;have t:=d.2;have hw:=YI r a;have v:((r:Int) != 0)=true:=by rw[cx];omega
  have D:ws.length<=1048576:=by omega
  have g:RawAt (w.setCell ⟨c,q,none⟩ (.int .u64 y)).drew b c n (ws.set q y)/\Kt (fun x=>x=c) w (w.setCell ⟨c,q,none⟩ (.int .u64 y)).drew/\(w.setCell ⟨c,q,none⟩ (.int .u64 y)).drew.heap.size=w.heap.size:=
   ⟨(h.write q y k hy).drew,((Kt.refl (fun x=>x=c) w).setCell (p:=⟨c,q,none⟩) rfl _).drew,by simp⟩
  have m:=aA g;clear hx h hl hq s g i d j hz;go_enter func201,ntmps201;go_wp2
  go_region
  all_goals (go_wp2;go_end0;exact⟨rfl,m.o⟩)
def Src(w:Wd)(v:Vl)(zs:List Nat):Prop:=
 (∀ i,zs.getD i 0<2 ^ 64)/\∃ ao cap,v=.slice ao zs.length cap/\(zs=[]\/∃ a:Addr,ao=some a/\a.block<w.heap.size/\∀ j,j<zs.length->w.cell? (a.add j)=some (.int .u64 ((zs.getD j 0:Nat):Int)))
theorem addr_add_block(a:Addr)(j:Nat):(a.add j).block=a.block:=by unfold Addr.add;split <;> rfl
theorem Src.kept{w d:Wd}{S:Nat->Prop}{v:Vl}{zs:List Nat}(h:Src w v zs)(k:Kt S w d)(hS:∀ b,v.ownBlock=some b->¬S b):Src d v zs:=by
 obtain⟨e,ao,cap,rfl,c⟩:=h;refine⟨e,ao,cap,rfl,?_⟩;rcases c with c|⟨a,rfl,hb,hc⟩
 ·exact Or.inl c
 ·refine Or.inr ⟨a,rfl,bg hb k.size,fun j f=>?_⟩;rw[<-hc j f];exact World.cell?_of_block (by rw[addr_add_block];exact k.block _ hb (hS a.block rfl))
def over(zs ws:List Nat):List Nat:=zs.take ws.length ++ ws.drop zs.length
theorem qI(zs ws:List Nat):(over zs ws).length=ws.length:=by simp[over];omega
theorem GM(zs ws:List Nat)(i:Nat)(hi:i<ws.length):(over zs ws).getD i 0=if i<zs.length then zs.getD i 0 else ws.getD i 0:=by
 simp only[over,List.getD,List.getElem?_append,List.length_take,dc,List.getElem?_drop];by_cases h:i<zs.length
 ·have h0:i<min ws.length zs.length:=by omega
  simp[h,hi,h0]
 ·have a:¬i<min ws.length zs.length:=by omega
  simp only[a,h,if_false];by_cases b:zs.length<=ws.length;·congr 2;omega
  ·have:¬i<ws.length:=by omega
   exact absurd hi this
theorem zgP(zs ws:List Nat)(cs:List Vl)(a:cs=(zs.take ws.length).map fun (x:Nat)=>Value.int .u64 x):((bT ws).toList.take 0 ++ cs ++ (bT ws).toList.drop (0 + cs.length)).toArray=bT (over zs ws):=by
 subst a;simp only[bT,over,List.take_zero,List.nil_append,dz,List.map_append,List.length_map,List.length_take];congr 2
 rw[<-List.map_drop];by_cases h:zs.length<=ws.length;·rw[Nat.min_eq_right h]
 ·rw[Nat.min_eq_left (by omega),List.drop_eq_nil_of_le (aj _),List.drop_eq_nil_of_le (by omega)]
theorem LQ(w:Wd)(g:Nat)(ds:List Nat)(v:Vl)(zs:List Nat)(hg:w.heap[g]?=some (.cells (bT ds) 22 (0,0)))(hs:Src w v zs):∃ (k:Nat) (m:Wd),(∀ f,(Builtin.copy_ #[39,39] f #[.slice (some ⟨g,0,none⟩) ds.length ds.length,v]).run prog w=.ok (goInt k) m)/\m.heap[g]?=some (.cells (bT (over zs ds)) 22 (0,0))/\Kt (fun x=>x=g) w m/\m.heap.size=w.heap.size:=by
 obtain⟨i,hi,s,e,t⟩:=info_parts tK;obtain⟨y,ao,cap,rfl,q⟩:=hs;rcases q with rfl|⟨a,rfl,hb,hc⟩
 ·refine⟨0,w,fun f=>?_,?_,Kt.refl _ _,rfl⟩
  ·exact run_copy_none (P:=prog) w 39 39 f 22 (some ⟨g,0,none⟩) ao ds.length ds.length 0 cap Tryz.underlying39 (by rw[hi];simp[e]) (Nat.zero_min _)
  ·simpa [over] using hg
 ·obtain⟨cs,b⟩:∃ cs:List Vl,cs=(zs.take ds.length).map fun (x:Nat)=>Value.int .u64 x:=⟨_,rfl⟩
  have l:cs.length=min zs.length ds.length:=by rw[b];simp;omega
  refine⟨cs.length,w.setRow g ((bT ds).toList.take 0 ++ cs ++ (bT ds).toList.drop (0 + cs.length)).toArray,fun f=>?_,?_,?_,by simp[World.setRow]⟩
  ·refine run_copy_row (P:=prog) w 39 39 f 22 g 0 ds.length ds.length a zs.length cap (bT ds) 22 cs Tryz.underlying39 (by rw[hi];simp[e]) hg l ?_ ?_ ?_
   ·intro j u c;rw[b] at c;simp only[List.getElem?_map,dc] at c;have r:j<cs.length:=by
     rcases du j cs.length with h|h
     ·exact h
     ·exfalso
      have:¬j<ds.length\/¬j<zs.length:=by omega
      rcases this with d|d
      ·simp[d] at c
      ·simp[Nat.not_lt.1 d] at c
    have d:j<ds.length:=(by omega);have n:j<zs.length:=(by omega);simp[d,n] at c;rw[hc j n,<-c];simp[List.getD,n]
   ·simp[bT];omega
   ·intro u o;rw[b] at o;obtain⟨_,_,rfl⟩:=List.mem_map.1 o;rfl
  ·rw[setRow_heap w g (bT ds) _ 22 (0,0) hg,zgP zs ds cs b]
  ·exact⟨rfl,rfl,rfl,by simp[World.setRow],fun k z p=>setRow_other w g k _ p⟩
def cZ(zs:List Nat)(N:Nat):List Nat:=jZ N (over zs (eS ((N+63)/64)))
theorem zky(n:Nat)(ws:List Nat):(jZ n ws).length=ws.length:=by unfold jZ;split <;> simp
theorem sN(zs:List Nat)(N:Nat):(cZ zs N).length=(N+63)/64:=by rw[cZ,zky,qI,mS]
theorem xZ(zs:List Nat)(m i:Nat)(hi:i<m):(over zs (eS m)).getD i 0=zs.getD i 0:=by
 rw[GM _ _ _ (by rw[mS];exact hi),oZ];split;·rfl
 ·simp[List.getD,Nat.not_lt.1 (by assumption)]
theorem wB(zs:List Nat)(N i:Nat)(hz:∀ i,zs.getD i 0<2 ^ 64)(hi:i<(N+63)/64):(cZ zs N).getD i 0=zs.getD i 0%2 ^ (min 64 (N-64*i)):=by
 have hl:(over zs (eS ((N+63)/64))).length=(N+63)/64:=by rw[qI,mS]
 unfold cZ jZ;split;·rename_i h0;rw[xZ _ _ _ hi,Nat.min_eq_left (by omega),Nat.mod_eq_of_lt (hz i)]
 ·rename_i h0;rw[hl];by_cases e:i=(N+63)/64-1
  ·rw[<-e,uJ _ _ _ (by omega),xZ _ _ _ hi];congr 2
   omega
  ·rw[getD_set_ne _ _ _ _ e,xZ _ _ _ hi,Nat.min_eq_left (by omega),Nat.mod_eq_of_lt (hz i)]
theorem SU(zs:List Nat)(N:Nat)(hz:∀ i,zs.getD i 0<2 ^ 64)(i:Nat)(hi:i<(cZ zs N).length):(cZ zs N).getD i 0<2 ^ (min 64 (N-64*i)):=by rw[sN] at hi;rw[wB zs N i hz hi];exact Nat.mod_lt _ (ax _)
theorem RawAt.copied{w w2 b c n ws}(h:RawAt w b c n ws)(zs:List Nat)(hz:∀ i,zs.getD i 0<2 ^ 64)(hg:w2.heap[c]?=some (.cells (bT (over zs ws)) 22 (0,0)))(k:Kt (fun x=>x=c) w w2):RawAt w2 b c n (over zs ws):=by
 refine⟨h.ne,?_,hg,by rw[qI];exact h.len,h.fk,?_⟩;·rw[k.block b h.bc.1 (fun e=>h.ne e.symm),h.hb,qI]
 ·intro i;by_cases hi:i<ws.length
  ·rw[GM _ _ _ hi];split
   ·exact hz i
   ·exact h.lt i
  ·have:(over zs ws).getD i 0=0:=by simp[List.getD,qI,Nat.not_lt.1 hi]
   rw[this];decide
theorem pQ(v:Vl)(zs:List Nat)(n:Int)(l : -9223372036854775808<=n)(p:n<=9223372036854775807)(w:Wd)(hs:Src w v zs):Calls prog 148 #[v,.int .i64 n] w fun e j=>e=.returned (.pointer (some ⟨w.heap.size+1,0,none⟩))/\SetAt j (w.heap.size+1) w.heap.size (dU n) (cZ zs (dU n))/\Kt (fun _=>False) w j/\j.heap.size=w.heap.size+2:=by
 have g:=aA hs;clear hs;go_enter func148,ntmps148;go_wp2_with (first|(go_at_call 102;refine(uD n l p _).mono ?_;rintro e t ⟨rfl,a,o,d⟩;have z:=a.ja;obtain⟨F,E,u,c,b,f⟩:=LQ t w.heap.size _ v zs a.hc (g.o.kept o (fun _ _ x=>x));have r:=aA (a.copied zs g.o.1 c b);have s:=aA o;have m:=aA b;have y:=aA d;have i:=aA f;clear a o b c d f)|(go_at_call 201;refine(TN _ _ _ _ _ r.o).mono ?_;rintro e D ⟨rfl,h,k,q⟩))
 go_ret;have B:=y.o;have A:=i.o;exact⟨rfl,h.set (SU zs _ g.o.1),(s.o.trans (U:=fun _=>False) m.o (fun _ _ x=>x) (fun x hx e=>by omega)).trans k (fun _ _ x=>x) (fun x hx e=>by omega),by omega⟩
theorem wG(m:Nat)(b:m<=1048576)(w:Wd):∃ a,(Instr.makeSlice 39 (.int .i64 m) (.int .i64 m)).run prog w=.ok (.slice (some ⟨w.heap.size,0,none⟩) m m) a/\a.heap[w.heap.size]?=some (.cells (bT (eS m)) 22 (0,0))/\Kt (fun _=>False) w a/\a.heap.size=w.heap.size+1:=
 ⟨_,tO m b w,nH _ _,(Kt.refl _ w).alloc _,by simp⟩
theorem JU{w:Wd}{g:Nat}{zs:List Nat}(hg:w.heap[g]?=some (.cells (bT zs) 22 (0,0)))(hz:∀ i,zs.getD i 0<2 ^ 64)(cap:Nat):Src w (.slice (some ⟨g,0,none⟩) zs.length cap) zs:=by refine⟨hz,some ⟨g,0,none⟩,cap,rfl,Or.inr ⟨⟨g,0,none⟩,rfl,(am.1 hg).1,fun j a=>?_⟩⟩;rw[Addr.add_lit];simp[World.cell?,hg,bT,a]
theorem JT(zs ws:List Nat)(h:zs.length=ws.length):over zs ws=zs:=by simp[over,h];rw[<-h,List.take_of_length_le (aj _)]
theorem JR(b c n:Nat)(ws:List Nat)(w:Wd)(h:SetAt w b c n ws):Calls prog 77 #[.pointer (some ⟨b,0,none⟩)] w fun e j=>e=.returned (.slice (some ⟨w.heap.size,0,none⟩) ws.length ws.length)/\j.heap[w.heap.size]?=some (.cells (bT ws) 22 (0,0))/\Kt (fun _=>False) w j/\j.heap.size=w.heap.size+1:=by
 have hl:=h.len;have v:=h.fk;obtain⟨r,q,g,f,m⟩:=wG ws.length (by omega) w;have u:=h.ja;have a:=h.kept f (fun x=>x) (fun x=>x);have t:=a.ja;obtain⟨y,p,o,d,i,l⟩:=LQ r w.heap.size (eS ws.length) (.slice (some ⟨c,0,none⟩) ws.length ws.length) ws g (JU a.hc a.gk _);rw[JT ws (eS ws.length) (mS _).symm] at d;rw[mS] at o;have s:ws.length<=1048576:=by omega
 have k:=aA (show p.heap[w.heap.size]?=some (.cells (bT ws) 22 (0,0))/\Kt (fun _=>False) w p/\p.heap.size=w.heap.size+1 from⟨d,f.trans i (fun _ _ x=>x) (fun x hx e=>by omega),by omega⟩);clear h a f i g d m l hl;go_enter func77,ntmps77;go_wp2
 go_ret;exact⟨rfl,k.o⟩
def mK(ws:List Nat)(k:Nat):Nat:=((List.range k).map fun i=>ju (ws.getD i 0)).sum
theorem yB(ws:List Nat)(k:Nat):mK ws (k+1)=mK ws k+ju (ws.getD k 0):=by simp[mK,List.range_succ]
theorem ZN(ws:List Nat)(hz:∀ i,ws.getD i 0<2 ^ 64)(k:Nat):mK ws k<=64*k:=by
 induction k with
 | zero=>simp[mK]
 | succ k a=>rw[yB];have:=DE (ws.getD k 0) (hz k);omega
def aY(ws:List Nat):Nat:=mK ws ws.length
theorem uC(b c n:Nat)(ws:List Nat)(w:Wd)(h:SetAt w b c n ws):Calls prog 190 #[.pointer (some ⟨b,0,none⟩)] w fun e j=>e=.returned (.int .i64 (aY ws))/\j=w:=by
 have hl:=h.len;have l:=h.fk;have m:ws.length<=1048576:=by omega
 have o:=h.ja;have d:=aA h;clear h hl l;go_enter func190,ntmps190;go_wp2
 go_loop [3,11] (fun t i=>∃ k:Nat,k<=ws.length/\i=.int .i64 k/\t=.int .i64 (mK ws k)) (fun _ i=>ws.length-(intOf i).toNat)
 case atStart=>exact⟨0,by omega,rfl,rfl⟩
 case round=>
  obtain⟨k,p,rfl,rfl⟩:=hrel;by_cases g:k<ws.length
  ·have f:=d.o.cc k g;have hx:=d.o.gk k;have hb:=ZN ws d.o.gk k;have hc:=DE (ws.getD k 0) hx;have hs:=aA (yB ws k);obtain⟨x,a⟩:=xe (ws.getD k 0);rw[<-a] at f hx hc hs;clear a;go_wp2_with (go_at_call 234;refine(zlG x hx _).mono ?_;rintro e j ⟨rfl,rfl⟩)
   go_round
   case rel=>exact⟨k+1,by omega,by go_num,by rw[hs.o];go_num⟩
   case measure=>simp[intOf];omega
  ·go_wp2
   go_ret;have:k=ws.length:=by omega
   subst this;exact⟨rfl,rfl⟩
theorem SetAt.stored{w:Wd}{b c n ws b' c' n' ws'}(e:SetAt w b c n ws)(d:SetAt w b' c' n' ws')(a:c'≠b):SetAt ((w.setCell ⟨b,0,none⟩ (.int .i64 n')).setCell ⟨b,1,none⟩ (.slice (some ⟨c',0,none⟩) ws'.length ws'.length)) b c' n' ws':=by
 refine⟨a,?_,?_,d.len,d.fk,d.ok⟩;·simp[World.setCell,Array.getElem?_modify,e.hb]
 ·rw[Below.heap_setCell _ _ _ _ a,Below.heap_setCell _ _ _ _ a];exact d.hc
theorem zh9(b c n:Nat)(ws:List Nat)(i:Int)(l : -9223372036854775808<=i)(m:i<=9223372036854775807)(w:Wd)(h:SetAt w b c n ws):Calls prog 203 #[.pointer (some ⟨b,0,none⟩),.int .i64 i] w fun e j=>e=.returned (.tuple #[])/\SetAt j b w.heap.size (dU i) (cZ ws (dU i))/\Kt (fun x=>x=b) w j/\j.heap.size=w.heap.size+2:=by
 have u:=h.ja;have o:=aA h;have q:=aA (JU h.hc h.gk ws.length);clear h;go_enter func203,ntmps203;go_wp2_with (go_at_call 148;refine(pQ _ ws i l m _ q.o).mono ?_;rintro e z ⟨rfl,a,d,g⟩;have A:=a.lq;have v:=a.ja;have f:=o.o.kept d (fun x=>x) (fun x=>x);have b0:=f.lq;have b1:=f.ja;have y:=f.fb 0;have B:=f.fb 1;have k:=aA a;have s:=aA f;have r:=aA d;have t:=aA g;clear a f d g)
 go_end0
 have hb:=o.o.raw.bc;have hz:=t.o;refine⟨rfl,s.o.stored k.o (by omega),?_,by simp;omega⟩;exact((r.o.mono (T:=fun x=>x=b) (fun _ _ x=>x.elim)).setCell (p:=⟨b,0,none⟩) rfl _).setCell (p:=⟨b,1,none⟩) rfl _
theorem zla(x:Nat)(h:x≠0):∃ p m,x=2 ^ p*(2*m+1):=by
 induction x using Nat.strongRecOn with
 | _ x a=>
  by_cases b:x%2=1;·exact⟨0,x/2,by omega⟩
  ·obtain⟨p,m,hp⟩:=a (x/2) (by omega) (by omega);refine⟨p+1,m,?_⟩;rw[co,Nat.mul_right_comm,<-hp];omega
theorem zlb(p m i:Nat):((2 ^ p*(2*m+1)).testBit i && !(2 ^ p*(2*m+1)-1).testBit i)=decide (i=p):=by
 have hp:=ax p;have b : 2 ^ p*(2*m+1)=2 ^ p*(2*m+1)+0:=rfl;have a : 2 ^ p*(2*m+1)-1=2 ^ p*(2*m)+(2 ^ p-1):=by rw[Nat.mul_add,Nat.mul_one];omega
 rw[a];rw[Nat.testBit_two_pow_mul_add _ (by omega : 2 ^ p-1<2 ^ p)];rw[b,Nat.testBit_two_pow_mul_add _ hp];by_cases h:i<p;·simp[h];omega
 ·simp only[h,if_false];by_cases e:i=p
  ·subst e;have : 2*m%2=0:=(by omega);simp[Nat.testBit_zero]
  ·obtain⟨t,f⟩:∃ t,i-p=t+1:=⟨i-p-1,by omega⟩;rw[f,Nat.testBit_succ,Nat.testBit_succ];have c:(2*m+1)/2=m:=(by omega);have d : 2*m/2=m:=(by omega);rw[c,d];simp[e]
theorem VY(p m:Nat)(h : 2 ^ p*(2*m+1)<2 ^ 64) : 2 ^ p*(2*m+1) &&& (2 ^ 64-2 ^ p*(2*m+1))=2 ^ p:=by
 have hp:=ax p;have h0 : 0<2 ^ p*(2*m+1):=Nat.mul_pos hp (by omega);apply Nat.eq_of_testBit_eq
 intro i;have e : 2 ^ 64-2 ^ p*(2*m+1)=2 ^ 64-((2 ^ p*(2*m+1)-1)+1):=by omega
 rw[Nat.testBit_and,e,Nat.testBit_two_pow_sub_succ (by omega),Nat.testBit_two_pow];have:=zlb p m i;by_cases eN:i<64;·rw[af eN,bf,this];rw[decide_eq_decide];omega
 ·have hf:(2 ^ p*(2*m+1)).testBit i=false:=Nat.testBit_lt_two_pow (bg h ((mM 64 i).2 (by omega)));have a:¬p=i:=by
   intro b;subst b;rw[hf] at this;simp at this
  rw[hf];simp[a]
theorem zlc(x:Nat)(h:x≠0)(hx:x<2 ^ 64):∃ p,p<64/\x/2 ^ p%2=1/\(∀ j,j<p->x/2 ^ j%2=0)/\x &&& (2 ^ 64-x)=2 ^ p:=by
 obtain⟨p,m,rfl⟩:=zla x h;have hp:=ax p;have a : 2 ^ p<2 ^ 64:=Nat.lt_of_le_of_lt (Nat.le_mul_of_pos_right _ (by omega)) hx;refine⟨p,(iG p 64).1 a,?_,?_,VY p m hx⟩;·rw[Nat.mul_div_cancel_left _ hp];omega
 ·intro j b;have : 2 ^ p=2 ^ j*(2*2 ^ (p-j-1)):=by
   rw[<-cy,<-co,<-Nat.pow_add];congr 1;omega
  rw[this,cy,Nat.mul_div_cancel_left _ (ax j),cy];omega
theorem zjc(x r p:Nat)(hp:p<64):x/2 ^ r*2 ^ r%2 ^ 64/2 ^ p%2=if r<=p then x/2 ^ p%2 else 0:=by
 have e:∀ y q:Nat,y/2 ^ q%2=if y.testBit q then 1 else 0:=by
  intro y q;rw[dn];by_cases h:y/2 ^ q%2=1;·simp[h]
  ·simp[h];omega
 rw[e,e,Nat.testBit_mod_two_pow,<-Nat.shiftRight_eq_div_pow,<-Nat.shiftLeft_eq,Nat.testBit_shiftLeft,Nat.testBit_shiftRight];by_cases h:r<=p
 ·have:r+(p-r)=p:=by omega
  simp[h,hp,this]
 ·simp[h]
def bI(n:Nat)(ws:List Nat)(k:Nat):Int:=match (List.range n).find? (fun j=>decide (k<=j) && aE ws j)with|some j=>(j:Int)|none => -1
def ez(n:Nat)(ws:List Nat)(i:Int):Int:=bI n ws i.toNat
theorem tU(n:Nat)(ws:List Nat)(k:Nat)(h:∀ j,k<=j->j<n->aE ws j=false):bI n ws k = -1:=by
 unfold bI;have:(List.range n).find? (fun j=>decide (k<=j) && aE ws j)=none:=by
  rw[List.find?_eq_none];intro j a;rw[List.mem_range] at a;by_cases b:k<=j;·simp[h j b a]
  ·simp[b]
 rw[this]
theorem zjd(n:Nat)(ws:List Nat)(k j:Nat)(b:j<n)(c:k<=j)(hb:aE ws j=true)(h:∀ i,k<=i->i<j->aE ws i=false):bI n ws k=(j:Int):=by
 unfold bI;have:(List.range n).find? (fun j=>decide (k<=j) && aE ws j)=some j:=by
  rw[List.find?_range_eq_some];refine⟨by simp[c,hb],by simpa using b,?_⟩;intro i hi;by_cases a:k<=i;·simp[h i a hi]
  ·simp[a]
 rw[this]
theorem xC(ws:List Nat)(a p:Nat)(hp:p<64):aE ws (64*a+p)=(ws.getD a 0/2 ^ p%2 == 1):=by
 unfold aE;have b:(64*a+p)/64=a:=by omega
 have c:(64*a+p)%64=p:=by omega
 rw[b,c]
theorem SetAt.gc{w b c n ws}(h:SetAt w b c n ws)(j:Nat)(e:n<=j):aE ws j=false:=by
 unfold aE;by_cases hl:j/64<ws.length
 ·have a:=h.ok (j/64) hl;have d:ws.getD (j/64) 0/2 ^ (j%64)=0:=by
   rw[Nat.div_eq_of_lt];refine bg a ((mM _ _).2 ?_);omega
  rw[d];rfl
 ·have:ws.getD (j/64) 0=0:=by simp[List.getD,Nat.not_lt.1 hl]
  rw[this];simp
def nO:Nat->Prop:=fun _=>False
theorem kz(w:Wd):Kt nO w w:=Kt.refl _ _
theorem nT{a b c:Wd}(h:Kt nO a b)(k:Kt nO b c):Kt nO a c:=h.trans k (fun _ _ x=>x) (fun _ _ x=>x)
theorem Kt.em{S:Nat->Prop}{a b:Wd}(h:Kt S a b){p:Addr}(hp:p.block<a.heap.size->S p.block)(u:Vl):Kt S a (b.setCell p u):=
 ⟨h.os,h.tape,h.output,by simp;exact h.size,fun i hi c=>by rw[Below.heap_setCell b p u i (fun e=>c (by rw[e];exact hp (e▸hi)))];exact h.block i hi c⟩
theorem Kt.drewN{S:Nat->Prop}{a b:Wd}(h:Kt S a b)(n:Nat):Kt S a (b.drewN n):=⟨h.os,h.tape,h.output,h.size,h.block⟩
theorem oV{w:Wd}{p:Addr}{v:Vl}(h:w.cell? p=some v):p.block<w.heap.size:=by
 rcases du p.block w.heap.size with a|a
 ·exact a
 ·exfalso
  simp[World.cell?,Array.getElem?_eq_none a] at h
theorem Kt.cell{S:Nat->Prop}{a b:Wd}(h:Kt S a b){p:Addr}{v:Vl}(hp:¬S p.block)(hc:a.cell? p=some v):b.cell? p=some v:=by rw[<-hc];exact World.cell?_of_block (h.block _ (oV hc) hp)
theorem cD{w:Wd}{k:Nat}{cs:Array Vl}{t:TypeId}{z:Nat×Nat}(h:w.heap[k]?=some (.cells cs t z))(i:Nat)(u:Vl):(w.setCell ⟨k,i,none⟩ u).heap[k]?=some (.cells (cs.setIfInBounds i u) t z):=by
 obtain⟨a,b⟩:=am.1 h;show(w.heap.modify k _)[k]?=_
 rw[Array.getElem?_eq_getElem (by rw[Array.size_modify];exact a),Array.getElem_modify_self,b];rfl
theorem lH{w:Wd}{k:Nat}{o:Obj}(h:w.heap[k]?=some o):k<w.heap.size:=(am.1 h).1
theorem mB(w:Wd)(A B:Obj):((w.alloc A).alloc B).heap[w.heap.size+1]?=some B:=by have:=nH (w.alloc A) B;rwa [World.size_alloc] at this
theorem bX{w:Wd}{x y:Nat}{c d:Array Vl}{s t:TypeId}{z u:Nat×Nat}(h:w.heap[x]?=some (.cells c s z))(k:w.heap[y]?=some (.cells d t u))(a:s≠t):x≠y:=by
 rintro rfl;rw[h] at k
 cases k
 exact a rfl
def adr(ao:Option Nat):Option Addr:=ao.map fun g=>⟨g,0,none⟩
structure Pg where
 kd:Int
 od:Int
 cl:Int
 lv:Int
 nx:Int
 pv:Int
 fs:Int
 b0:Nat
 b1:Nat
 b2:Nat
 b3:Nat
deriving DecidableEq
def Pg.es(p:Pg):Nat->Vl
 | 0=>.int .i64 p.kd
 | 1=>.int .i64 p.od
 | 2=>.int .i64 p.cl
 | 3=>.int .i64 p.lv
 | 4=>.int .i64 p.nx
 | 5=>.int .i64 p.pv
 | 6=>.int .i64 p.fs
 | 7=>.int .u64 p.b0
 | 8=>.int .u64 p.b1
 | 9=>.int .u64 p.b2
 | _=>.int .u64 p.b3
def aT(k o:Int):Pg:=⟨k,o,0,0,-1,-1,-1,0,0,0,0⟩
def aU:Pg:=⟨0,0,0,0,0,0,0,0,0,0,0⟩
def aZ(w:Wd)(g n:Nat)(c:Nat->Nat->Vl):Prop:=
 ∃ cs:Array Vl,w.heap[g]?=some (.cells cs 97 (0,0))/\cs.size=n*11/\∀ i,i<n->∀ j,j<11->cs[i*11+j]?=some (c i j)
def bO(w:Wd)(g n:Nat)(pg:Nat->Pg):Prop:=aZ w g n (fun i j=>(pg i).es j)
def lO(c:Nat->Nat->Vl)(i j:Nat)(v:Vl):Nat->Nat->Vl:=fun a b=>if a=i/\b=j then v else c a b
def aH(pg:Nat->Pg)(i:Nat)(p:Pg):Nat->Pg:=fun a=>if a=i then p else pg a
theorem aZ.lt{w g n c}(h:aZ w g n c):g<w.heap.size:=by obtain⟨cs,hg,_⟩:=h;exact lH hg
theorem aZ.set{w g n c}(h:aZ w g n c)(i j:Nat)(hi:i<n)(d:j<11)(v:Vl):aZ (w.setCell ⟨g,i*11+j,none⟩ v) g n (lO c i j v):=by
 obtain⟨cs,hg,hs,hc⟩:=h;refine⟨_,cD hg _ _,by simpa using hs,fun a ha b hb=>?_⟩;rw[Array.getElem?_setIfInBounds];unfold lO;by_cases e:a=i/\b=j;·obtain⟨rfl,rfl⟩:=e;rw[ae rfl,ae (by omega),ae ⟨rfl,rfl⟩]
 ·rw[ac (by omega),ac e];exact hc a ha b hb
theorem aZ.kept{w w' g n c}{S:Nat->Prop}(h:aZ w g n c)(k:Kt S w w')(hS:¬S g):aZ w' g n c:=by obtain⟨cs,hg,hs,hc⟩:=h;exact⟨cs,(k.block g (lH hg) hS).trans hg,hs,hc⟩
theorem aZ.congr{w g n c c'}(h:aZ w g n c)(he:∀ i,i<n->∀ j,j<11->c i j=c' i j):aZ w g n c':=by obtain⟨cs,hg,hs,hc⟩:=h;exact⟨cs,hg,hs,fun i hi j a=>(hc i hi j a).trans (congrArg some (he i hi j a))⟩
theorem bO.kept{w w' g n pg}{S:Nat->Prop}(h:bO w g n pg)(k:Kt S w w')(hS:¬S g):bO w' g n pg:=aZ.kept h k hS
theorem bO.congr{w g n pg pg'}(h:bO w g n pg)(he:∀ i,i<n->pg i=pg' i):bO w g n pg':=aZ.congr h (fun i hi j _=>by rw[he i hi])
theorem bO.cell{w g n pg}(h:bO w g n pg)(i:Nat)(hi:i<n):w.cell? ⟨g,i*11,none⟩=some (.int .i64 (pg i).kd)/\w.cell? ⟨g,i*11+1,none⟩=some (.int .i64 (pg i).od)/\w.cell? ⟨g,i*11+2,none⟩=some (.int .i64 (pg i).cl)/\w.cell? ⟨g,i*11+3,none⟩=some (.int .i64 (pg i).lv)/\w.cell? ⟨g,i*11+4,none⟩=some (.int .i64 (pg i).nx)/\w.cell? ⟨g,i*11+5,none⟩=some (.int .i64 (pg i).pv)/\w.cell? ⟨g,i*11+6,none⟩=some (.int .i64 (pg i).fs)/\w.cell? ⟨g,i*11+7,none⟩=some (.int .u64 ((pg i).b0:Int))/\w.cell? ⟨g,i*11+8,none⟩=some (.int .u64 ((pg i).b1:Int))/\w.cell? ⟨g,i*11+9,none⟩=some (.int .u64 ((pg i).b2:Int))/\w.cell? ⟨g,i*11+10,none⟩=some (.int .u64 ((pg i).b3:Int)):=by
 obtain⟨cs,hg,_,hc⟩:=h;have a:∀ j,j<11->w.cell? ⟨g,i*11+j,none⟩=some ((pg i).es j):=fun j b=>by have:=hc i hi j b;simpa [World.cell?,hg] using this
 exact⟨a 0 (by decide),a 1 (by decide),a 2 (by decide),a 3 (by decide),a 4 (by decide),a 5 (by decide),a 6 (by decide),a 7 (by decide),a 8 (by decide),a 9 (by decide),a 10 (by decide)⟩
theorem aZ.ic{w g n c}(h:aZ w g n c)(i:Nat):w.frozen? ⟨g,i,none⟩=false:=by obtain⟨cs,hg,_,hc⟩:=h;simp[World.frozen?,hg]
abbrev cY(w:Wd)(g i:Nat)(p:Pg):Wd:=
 ((((((((((w.setCell ⟨g,i*11,none⟩ (.int .i64 p.kd)).setCell ⟨g,i*11+1,none⟩ (.int .i64 p.od)).setCell ⟨g,i*11+2,none⟩ (.int .i64 p.cl)).setCell ⟨g,i*11+3,none⟩ (.int .i64 p.lv)).setCell ⟨g,i*11+4,none⟩ (.int .i64 p.nx)).setCell ⟨g,i*11+5,none⟩ (.int .i64 p.pv)).setCell ⟨g,i*11+6,none⟩ (.int .i64 p.fs)).setCell ⟨g,i*11+7,none⟩ (.int .u64 p.b0)).setCell ⟨g,i*11+8,none⟩ (.int .u64 p.b1)).setCell ⟨g,i*11+9,none⟩ (.int .u64 p.b2)).setCell ⟨g,i*11+10,none⟩ (.int .u64 p.b3)
theorem nP(w:Wd)(g i:Nat)(p:Pg):Kt (fun x=>x=g) w (cY w g i p):=
 ((((((((((((Kt.refl (fun x=>x=g) w).setCell (p:=⟨g,_,none⟩) rfl _).setCell (p:=⟨g,_,none⟩) rfl _).setCell (p:=⟨g,_,none⟩) rfl _).setCell (p:=⟨g,_,none⟩) rfl _).setCell (p:=⟨g,_,none⟩) rfl _).setCell (p:=⟨g,_,none⟩) rfl _).setCell (p:=⟨g,_,none⟩) rfl _).setCell (p:=⟨g,_,none⟩) rfl _).setCell (p:=⟨g,_,none⟩) rfl _).setCell (p:=⟨g,_,none⟩) rfl _).setCell (p:=⟨g,_,none⟩) rfl _)
theorem sF{c:Nat->Nat->Vl}{pg:Nat->Pg}{i:Nat}{p:Pg}(a b:Nat)(hb:b<11)(h:∀ j,j<11->c i j=p.es j)(d:a≠i->c a b=(pg a).es b):c a b=(aH pg i p a).es b:=by
 unfold aH;by_cases e:a=i;·rw[ae e,e];exact h b hb
 ·rw[ac e];exact d e
theorem jG{P:Nat->Prop}(h0:P 0)(c:P 1)(l:P 2)(d:P 3)(e:P 4)(f:P 5)(k:P 6)(i:P 7)(g:P 8)(b:P 9)(a:P 10):∀ j,j<11->P j
 | 0,_=>h0 | 1,_=>c | 2,_=>l | 3,_=>d | 4,_=>e | 5,_=>f | 6,_=>k | 7,_=>i | 8,_=>g | 9,_=>b | 10,_=>a
 | _+11,h=>absurd h (by omega)
theorem bO.put{w g n pg}(h:bO w g n pg)(i:Nat)(hi:i<n)(p:Pg):bO (cY w g i p) g n (aH pg i p):=by
 have:=((((((((((aZ.set h i 0 hi (by decide) (.int .i64 p.kd)).set i 1 hi (by decide) (.int .i64 p.od)).set i 2 hi (by decide) (.int .i64 p.cl)).set i 3 hi (by decide) (.int .i64 p.lv)).set i 4 hi (by decide) (.int .i64 p.nx)).set i 5 hi (by decide) (.int .i64 p.pv)).set i 6 hi (by decide) (.int .i64 p.fs)).set i 7 hi (by decide) (.int .u64 p.b0)).set i 8 hi (by decide) (.int .u64 p.b1)).set i 9 hi (by decide) (.int .u64 p.b2)).set i 10 hi (by decide) (.int .u64 p.b3);refine aZ.congr this (fun a ha b hb=>sF a b hb (fun j c=>?_) (fun e=>?_))
 ·revert j
  apply jG <;> simp[lO,Pg.es]
 ·simp[lO,e]
structure Mp where
 o:Nat
 n:Nat
 pg:Nat->Pg
 wd:Nat->List Nat
structure Bs where
 g:Option Nat
 P:Option Nat
 S:Nat->Nat
 C:Nat->Nat
def mZ(w:Wd)(P:Option Nat)(o cq:Nat)(S:Nat->Nat):Prop:=
 match P with
 | none=>o=0/\cq=0
 | some q=>∃ cs:Array Vl,w.heap[q]?=some (.cells cs 141 (0,0))/\cs.size=cq/\o<=cq/\∀ k,k<o->cs[k]?=some (.pointer (some ⟨S k,0,none⟩))
def Rows(w:Wd)(g:Option Nat)(n:Nat)(pg:Nat->Pg):Prop:=
 match g with
 | none=>n=0
 | some q=>bO w q n pg
structure PgOk(p:Pg):Prop where
 o0 : 0<=p.od
 o8:p.od<=8
 c0 : 0<=p.cl
 c7:p.cl<=7
 b0:p.b0<18446744073709551616
 b1:p.b1<18446744073709551616
 b2:p.b2<18446744073709551616
 b3:p.b3<18446744073709551616
theorem PgOk.blank(k o:Int)(h0 : 0<=o)(a:o<=8):PgOk (aT k o):=⟨h0,a,Int.le_refl 0,by show(0:Int)<=7;decide,by show 0<_;decide,by show 0<_;decide,by show 0<_;decide,by show 0<_;decide⟩
theorem PgOk.zero:PgOk aU:=by constructor <;> decide
structure MpA(w:Wd)(b:Nat)(B:Bs)(m:Mp):Prop where
 o8:m.o<=8
 n1:m.n<=1024
 dv:∃ r,m.n=r*2 ^ m.o
 hb:∃ cq,w.heap[b]?=some (.cells #[.int .i64 m.o,.slice (adr B.g) m.n m.n,.slice (adr B.P) m.o cq] 140 (0,0))/\mZ w B.P m.o cq B.S
 row:Rows w B.g m.n m.pg
 set:∀ k,k<m.o->SetAt w (B.S k) (B.C k) (m.n/2 ^ (k+1)) (m.wd k)
 ik:∀ j k,j<m.o->k<m.o->B.S j=B.S k->j=k
 ih:∀ j k,j<m.o->k<m.o->B.C j=B.C k->j=k
 ok:∀ i,i<m.n->PgOk (m.pg i)
def aP(b:Nat)(B:Bs)(o:Nat):Nat->Prop:=fun x=>x=b\/B.g=some x\/B.P=some x\/∃ k,k<o/\(x=B.S k\/x=B.C k)
theorem mZ.kept{w w' P o cq S}{T:Nat->Prop}(h:mZ w P o cq S)(k:Kt T w w')(hS:∀ x,P=some x->¬T x):mZ w' P o cq S:=by
 cases P with
 | none=>exact h
 | some q=>obtain⟨cs,hg,c,a,b⟩:=h;exact⟨cs,(k.block q (lH hg) (hS q rfl)).trans hg,c,a,b⟩
theorem Rows.kept{w w' g n pg}{T:Nat->Prop}(h:Rows w g n pg)(k:Kt T w w')(hS:∀ x,g=some x->¬T x):Rows w' g n pg:=by
 cases g with
 | none=>exact h
 | some q=>exact bO.kept h k (hS q rfl)
theorem Rows.congr{w g n pg pg'}(h:Rows w g n pg)(he:∀ i,i<n->pg i=pg' i):Rows w g n pg':=by
 cases g with
 | none=>exact h
 | some q=>exact bO.congr h he
theorem MpA.kept{w w' b B m}{T:Nat->Prop}(h:MpA w b B m)(k:Kt T w w')(hS:∀ x,aP b B m.o x->¬T x):MpA w' b B m:=by obtain⟨a,hb,hp⟩:=h.hb;exact⟨h.o8,h.n1,h.dv,⟨a,(k.block b (lH hb) (hS b (.inl rfl))).trans hb,hp.kept k (fun x e=>hS x (.inr (.inr (.inl e))))⟩,h.row.kept k (fun x e=>hS x (.inr (.inl e))),fun i hi=>(h.set i hi).kept k (hS _ (.inr (.inr (.inr ⟨i,hi,.inl rfl⟩)))) (hS _ (.inr (.inr (.inr ⟨i,hi,.inr rfl⟩)))),h.ik,h.ih,h.ok⟩
theorem MpA.dk{w w' b B m}(h:MpA w b B m)(k:Kt nO w w'):MpA w' b B m:=h.kept k (fun _ _ x=>x)
theorem MpA.fa{w b B m}(h:MpA w b B m)(x:Nat)(hx:aP b B m.o x):x<w.heap.size:=by
 obtain⟨c,hb,hp⟩:=h.hb;rcases hx with rfl|hx|hx|⟨k,a,rfl|rfl⟩
 ·exact lH hb
 ·have:=h.row;rw[hx] at this;exact aZ.lt this
 ·rw[hx] at hp;obtain⟨cs,hg,_⟩:=hp;exact lH hg
 ·exact lH (h.set k a).hb
 ·exact lH (h.set k a).hc
theorem MpA.cb{w b B m}(h:MpA w b B m):∃ a,w.cell? ⟨b,0,none⟩=some (.int .i64 m.o)/\w.cell? ⟨b,1,none⟩=some (.slice (adr B.g) m.n m.n)/\w.cell? ⟨b,2,none⟩=some (.slice (adr B.P) m.o a):=by obtain⟨a,hb,_⟩:=h.hb;exact⟨a,by simp[World.cell?,hb],by simp[World.cell?,hb],by simp[World.cell?,hb]⟩
theorem MpA.c0{w b B m}(h:MpA w b B m):w.cell? ⟨b,0,none⟩=some (.int .i64 m.o):=by obtain⟨a,hb,_⟩:=h.hb;simp[World.cell?,hb]
theorem MpA.c1{w b B m}{g:Nat}(h:MpA w b B m)(hg:B.g=some g):w.cell? ⟨b,1,none⟩=some (.slice (some ⟨g,0,none⟩) m.n m.n):=by obtain⟨a,hb,_⟩:=h.hb;simp[World.cell?,hb,hg,adr]
theorem MpA.bz{w b B m}(h:MpA w b B m)(i:Nat):w.frozen? ⟨b,i,none⟩=false:=by obtain⟨a,hb,_⟩:=h.hb;simp[World.frozen?,hb]
theorem MpA.cp{w b B m}(h:MpA w b B m)(k:Nat)(c:k<m.o):∃ q,B.P=some q/\w.cell? ⟨q,k,none⟩=some (.pointer (some ⟨B.S k,0,none⟩)):=by
 obtain⟨d,hb,hp⟩:=h.hb
 cases hP:B.P with
 | none=>rw[hP] at hp;obtain⟨e,_⟩:=hp;omega
 | some q=>rw[hP] at hp;obtain⟨cs,hg,g,f,a⟩:=hp;exact⟨q,rfl,by simp[World.cell?,hg,a k c]⟩
theorem MpA.et{w b B m}(h:MpA w b B m)(c : 0<m.n):∃ g,B.g=some g/\bO w g m.n m.pg:=by
 have a:=h.row
 cases hg:B.g with
 | none=>rw[hg] at a;have:m.n=0:=a;omega
 | some q=>rw[hg] at a;exact⟨q,rfl,a⟩
theorem MpA.congr{w b B m}{pg':Nat->Pg}(h:MpA w b B m)(he:∀ i,i<m.n->m.pg i=pg' i):MpA w b B { m with pg:=pg' }:=
 ⟨h.o8,h.n1,h.dv,h.hb,Rows.congr h.row he,h.set,h.ik,h.ih,fun i hi=>(by show PgOk (pg' i);rw[<-he i hi];exact h.ok i hi)⟩
theorem MpA.fh{w w' b B m g pg'}(h:MpA w b B m)(hg:B.g=some g)(k:Kt (fun x=>x=g) w w')(f:bO w' g m.n pg')(ok:∀ i,i<m.n->PgOk (pg' i)):MpA w' b B { m with pg:=pg' }:=by
 obtain⟨d,hb,hp⟩:=h.hb;have c:=h.row;rw[hg] at c;obtain⟨cs,a,_⟩:=c;refine⟨h.o8,h.n1,h.dv,⟨d,(k.block b (lH hb) (bX hb a (by decide))).trans hb,hp.kept k (fun x e=>?_)⟩,?_,fun i hi=>(h.set i hi).kept k (bX (h.set i hi).hb a (by decide)) (bX (h.set i hi).hc a (by decide)),h.ik,h.ih,ok⟩;·rw[e] at hp;obtain⟨ds,hq,_⟩:=hp;exact bX hq a (by decide)
 ·show Rows w' B.g m.n pg'
  rw[hg];exact f
namespace W
def fst1(n:Nat)(ok:Nat->Bool):Option Nat:=(List.range n).find? fun i=>!ok i
theorem fY{n i:Nat}{ok:Nat->Bool}(hi:i<n)(h:∀ a,a<i->ok a=true)(hb:ok i=false):fst1 n ok=some i:=by unfold fst1;rw[List.find?_range_eq_some];exact⟨by simp[hb],List.mem_range.2 hi,fun a ha=>by simp[h a ha]⟩
theorem fst1_ok{n:Nat}{ok:Nat->Bool}(h:∀ a,a<n->ok a=true):fst1 n ok=none:=by unfold fst1;exact List.find?_eq_none.2 (fun a ha=>by simp[h a (List.mem_range.1 ha)])
theorem fst1_none{n:Nat}{ok:Nat->Bool}(h:fst1 n ok=none)(a:Nat)(ha:a<n):ok a=true:=by have:=List.find?_eq_none.1 h a (List.mem_range.2 ha);simpa using this
def fstO(n:Nat)(f:Nat->Option Nat):Option Nat:=(List.range n).findSome? f
theorem FV{n i p:Nat}{f:Nat->Option Nat}(hi:i<n)(h:∀ a,a<i->f a=none)(hb:f i=some p):fstO n f=some p:=by unfold fstO;obtain⟨d,rfl⟩:∃ d,n=i+1+d:=⟨n-(i+1),by omega⟩;rw[List.range_add,List.findSome?_append,List.range_succ,List.findSome?_append,List.findSome?_eq_none_iff.2 (fun a ha=>h a (List.mem_range.1 ha))];simp[hb]
theorem fstO_ok{n:Nat}{f:Nat->Option Nat}(h:∀ a,a<n->f a=none):fstO n f=none:=by unfold fstO;exact List.findSome?_eq_none_iff.2 fun a ha=>h a (List.mem_range.1 ha)
section
variable {α : Type} [DecidableEq α] (dec : α->Option Nat) (nil : α) (ez bk:Nat->α) (S:Nat->Bool)
def refL:Nat->α->α->Bool
 | 0,p,_=>decide (p=nil)
 | n+1,p,b=>match dec p with
  | none=>false
  | some i=>S i && (decide (bk i=b) && refL n (ez i) p)
def prgL:Nat->List Nat->α->α->Bool
 | 0,_,_,_=>false
 | n+1,l,p,b=>if p=nil then l.isEmpty else match dec p with
  | none=>false
  | some i=>decide (i∈l) && (decide (bk i=b) && prgL n (l.erase i) (ez i) p)
def oI(cod:Nat->α):List Nat->Prop
 | []=>True
 | v :: t=>bk v=(match t with | []=>nil | u :: _=>cod u)/\oI cod t
variable {dec nil ez bk S}
omit [DecidableEq α] in
theorem ZR{cod:Nat->α}(f:∀ i,cod i≠nil)(hi:∀ i j,cod i=cod j->i=j){x:Nat}{v:Nat}(hx:bk x=cod v):∀ (V:List Nat),oI nil bk cod V->V.Nodup->v ∉ V.tail->x ∉ V:=by
 intro V;induction V with
 | nil=>intro _ _ _ h;cases h
 | cons a t k=>
  intro hc hd c d;obtain⟨b,g⟩:=hc;rcases eg.1 d with e|e
  ·subst e;rw[hx] at b
   cases t with
   | nil=>exact f _ b
   | cons u l=>have:=hi _ _ b;exact c (by rw[this];exact aw)
  ·exact k g (dr.1 hd).2 (fun h=>c (List.mem_of_mem_tail h)) e
theorem DT{cod:Nat->α}(y:∀ i,cod i≠nil)(hi:∀ i j,cod i=cod j->i=j)(m:∀ p i,dec p=some i->p=cod i)(o:dec nil=none)(q:List Nat)(h0:q.Nodup)(hS:∀ p i,dec p=some i->(i∈q↔S i=true)):∀ (n:Nat) (l V:List Nat) (p b : α),l.length=n->l.Nodup->V.Nodup->(∀ i,i∈q↔i∈l\/i∈V)->(∀ i,i∈l->i ∉ V)->oI nil bk cod V->b=(match V with|[]=>nil|u :: _=>cod u)->
   prgL dec nil ez bk (n+1) l p b=refL dec nil ez bk S n p b:=by
 intro n;induction n with
 | zero=>
  intro l V p b hl _ _ _ _ _ _;have:l=[]:=bq hl;subst this;by_cases hp:p=nil;·simp[prgL,refL,hp]
  ·simp only[prgL,refL,hp,if_false,decide_false]
   cases dec p <;> simp
 | succ n z=>
  intro l V p b hl hd r w g hc hb;rw[prgL];by_cases hp:p=nil
  ·rw[ae hp,hp];simp only[refL,o]
   cases l with
   | nil=>simp at hl
   | cons=>rfl
  ·rw[ac hp];simp only[refL]
   cases hdp:dec p with
   | none=>rfl
   | some i=>
    show(decide (i∈l) && _)=(S i && _)
    by_cases d:bk i=b
    ·have f:i ∉ V:=by
      cases V with
      | nil=>intro h;cases h
      | cons v t=>refine ZR y hi (x:=i) (v:=v) (by rw[d,hb]) (v :: t) hc r ?_;exact(dr.1 r).1
     have c:i∈l↔S i=true:=by rw[<-hS p i hdp,w i];exact⟨Or.inl,fun h=>h.resolve_right f⟩
     by_cases a:i∈l
     ·rw[af a,c.1 a];congr 2
      have s:=m p i hdp;refine z (l.erase i) (i :: V) (ez i) p ?_ (hd.erase i) (dr.2 ⟨f,r⟩) ?_ ?_ ⟨by rw[d,hb],hc⟩ s;·rw[dp a,hl];rfl
      ·intro j;rw[w j,hd.mem_erase_iff,eg];by_cases e:j=i
       ·subst e;simp[a]
       ·simp[e]
      ·intro j k;rw[hd.mem_erase_iff] at k;rw[eg];rintro (e|e)
       ·exact k.1 e
       ·exact g j k.2 e
     ·rw[ah a];have:S i=false:=by
       cases hs:S i with
       | false=>rfl
       | true=>exact absurd (c.2 hs) a
      rw[this];rfl
    ·rw[ah d];simp
end
section
variable {P:Program} {ops:Array Oper} {md:Region.Mode} {C:Wd->Prop} {Q:Exit->Act->Wd->Prop}
def gR(P:Program)(Q:Exit->Act->Wd->Prop)(o:Oper)(a:Act)(w:Wd):Prop:=o.wp P a w (fun _ _=>False) (fun e _ w'=>∀ a',a'.defers=a.defers->Q e a' w')
theorem gR.other{o:Oper}{a b:Act}{w:Wd}(h:gR P Q o a w)(he:execOp b.eval o=execOp a.eval o)(hd:b.defers=a.defers):gR P Q o b w:=by
 unfold gR Oper.wp at *;rw[he,hd];generalize (execOp a.eval o).run P w=r at *
 cases r with
 | ok n c=>cases n <;> exact h
 | halt x c=>cases x <;> exact h
theorem gR.wp{o:Oper}{a:Act}{w:Wd}{K:Act->Wd->Prop}(h:gR P Q o a w):o.wp P a w K Q:=by
 unfold gR Oper.wp at *;generalize (execOp a.eval o).run P w=r at *
 cases r with
 | ok n g=>
  cases n <;> simp only[Oper.upon] at*<;> try exact h.elim
  case enter f args=>
   refine h.mono ?_;intro e i d
   cases e with
   | returned v=>exact d.elim
   | panicked c=>exact d a rfl
   | outgrown=>have j:LetsOut (fun (e:Exit) (_:Act) (g:Wd)=>∀ a',a'.defers=a.defers->Q e a' g):=d;obtain⟨b,l,k⟩:=j;exact⟨a,l,k a rfl⟩
  case row r args=>exact h.mono fun v i d=>d.elim
 | halt x g=>
  cases x <;> simp only[Oper.upon] at*<;> first|exact h.elim|exact h a rfl
def rL(P:Program)(ops:Array Oper)(C:Wd->Prop)(Q:Exit->Act->Wd->Prop)(i:Nat)(K:Act->Prop)(a:Act):Prop:=
 qOp P ops C i K a\/∃ o,ops[i]?=some o/\Region.wanted o (yielded ops a.tmps)=true/\∀ w,C w->gR P Q o a w
def kZ(P:Program)(md:Region.Mode)(ops:Array Oper)(C:Wd->Prop)(Q:Exit->Act->Wd->Prop):Nat->Array Bool->Act->Prop
 | 0,ls,a=>Region.ready md ops ls=[]/\∀ w,C w->Q .normal a w
 | n+1,ls,a=>(Region.ready md ops ls=[]->∀ w,C w->Q .normal a w)/\∀ i∈Region.ready md ops ls,rL P ops C Q i (kZ P md ops C Q n (ls.setIfInBounds i true)) a
theorem zkS{i:Nat}{a:Act}{K b:Act->Prop}(h:∀ a,K a->b a)(c:rL P ops C Q i K a):rL P ops C Q i b a:=c.imp (qOp_mono h) id
theorem JB:∀ (n:Nat) (ls:Array Bool) (a:Act) (w:Wd),C w->kZ P md ops C Q n ls a->wpAny P md ops Q n ls a w
 | 0,_,_,_,hw,h=>⟨h.1,h.2 _ hw⟩
 | n+1,_,_,_,hw,h=>⟨fun h0=>h.1 h0 _ hw,fun i hi=>by
   rcases h.2 i hi with e|⟨o,f,b,hd⟩
   ·exact wpOp_of_qOp hw (fun a' d c=>JB n _ a' d c) e
   ·unfold wpOp;simp only[f,b,if_true];exact .inl (hd _ hw).wp⟩
theorem ZA{j:Nat}{c d:Oper}{v:Vl}(l:ops[j]?=some d)(f:c.apart ops d=true)(g:∀ cs b,c.op≠.select cs b)(e:∀ cs b,d.op≠.select cs b){K:Act->Prop}{a:Act}(hy:YieldsIn P ops C c v a) (h:rL P ops C Q j K (a.put c.dst v)):rL P ops C Q j (fun a'=>YieldsIn P ops C c v a'/\K (a'.put c.dst v)) a:=by
 rcases h with h|⟨o,m,i,hd⟩
 ·exact .inl (qOp_put l f g e hy h)
 ·obtain rfl:d=o:=Option.some.inj (l.symm.trans m);obtain⟨k,n,p⟩:=Oper.apart_spec f;refine .inr ⟨d,m,by rw[<-wanted_put d a c.dst v k];exact i,fun w hw=>(hd w hw).other (execOp_put d e a c.dst v k).symm (by cases c.dst <;> rfl)⟩
theorem zhV{i:Nat}{m:Oper}{v:Vl}(hi:ops[i]?=some m)(c:∀ (j:Nat) (o:Oper) cs b,ops[j]?=some o->o.op≠.select cs b):∀ (n:Nat) (ls:Array Bool) (a:Act),
  (∀ j h,ops[j]?=some h->j≠i->ls.getD j true=false->(∀ e∈h.after,Region.binds md e=true->e.on≠i)->m.apart ops h=true)->i∈Region.ready md ops ls->YieldsIn P ops C m v a->
  kZ P md ops C Q n (ls.setIfInBounds i true) (a.put m.dst v)->kZ P md ops C Q (n+1) ls a:=by
 intro n;induction n with
 | zero=>
  intro ls a _ g hy H;refine⟨fun h0=>(by rw[h0] at g;cases g),fun j r=>?_⟩;by_cases e:j=i;·rw[e];exact .inl (hy.qOp hi H)
  ·have:=ready_mono r e;rw[H.1] at this
   cases this
 | succ n A=>
  intro ls a hf g hy H;refine⟨fun h0=>(by rw[h0] at g;cases g),fun j r=>?_⟩;by_cases e:j=i;·rw[e];exact .inl (hy.qOp hi H)
  ·obtain⟨p,h,f,q⟩:=mem_ready.1 r;have t:∀ e∈h.after,Region.binds md e=true->e.on≠i:=fun d hd hb hq=>by
    have l:=q d hd hb;have x:=(mem_ready.1 g).1;rw[hq] at l;rcases du i ls.size with hl|hl
    ·simp[hl] at x l;rw[x] at l;cases l
    ·simp[Array.getElem?_eq_none hl] at l
   have z:=ZA f (hf j h f e p t) (fun cs b=>c i m cs b hi) (fun cs b=>c j h cs b f) hy (H.2 j (ready_mono r e));refine zkS (fun a' w=>A (ls.setIfInBounds j true) a' (fun k ok D s B y=>?_) (ready_mono g (Ne.symm e)) w.1 ?_) z
   ·refine hf k ok D s ?_ y;by_cases u:j=k
    ·rw[<-u];exact p
    ·rwa [ec true u] at B
   ·rw[Array.setIfInBounds_comm _ _ e];exact w.2
theorem GL{o:Oper}(hs:Region.noSelect ops=true):∀ (l:List Oper) (k:Nat) (ls:Array Bool) (a:Act),(∀ j,(l ++ [o])[j]?=ops[k + j]?)->Region.lexFrom md ops (l ++ [o]).length k ls=true->
  wpQuiet P ops C (fun a'=>Region.wanted o (yielded ops a'.tmps)=true/\∀ w,C w->gR P Q o a' w) l a->kZ P md ops C Q (l ++ [o]).length ls a
 | [],k,ls,a,hl,c,h=>by
  have h0:ops[k]?=some o:=by simpa using (hl 0).symm
  simp only[List.nil_append,ee,List.length_nil,Region.lexFrom,bu] at c;obtain⟨⟨g,hf⟩,b⟩:=c;have d:k∈Region.ready md ops ls:=by simpa using g
  refine⟨fun h0=>(by rw[h0] at d;cases d),fun j i=>?_⟩;by_cases e:j=k;·rw[e];exact .inr ⟨o,h0,h.1,h.2⟩
  ·have:=ready_mono i e;rw[List.isEmpty_iff.1 b] at this
   cases this
 | x :: l,k,ls,a,hl,c,h=>by
  have h0:ops[k]?=some x:=by simpa using (hl 0).symm
  simp only[List.cons_append,ee,Region.lexFrom,bu] at c;obtain⟨⟨g,hf⟩,b⟩:=c;have f:qOp P ops C k (wpQuiet P ops C (fun a'=>Region.wanted o (yielded ops a'.tmps)=true/\∀ w,C w->gR P Q o a' w) l) a:=by unfold qOp;simp only[h0];exact h
  obtain⟨v,hy,hK⟩:=yieldsIn_of_qOp h0 f;exact zhV h0 (Region.noSelect_spec hs) _ ls a (Region.free_spec h0 hf) (by simpa using g) hy
   (GL hs l (k+1) _ _ (fun j=>by have:=hl (j+1);simpa [Nat.add_assoc,Nat.add_comm 1 j] using this) b hK)
end
theorem MY{P:Program}{id:Nat}{Q:Exit->Act->Wd->Prop}{a:Act}{w:Wd}{l:List Oper}{C:Wd->Prop}(d:P.follows .mixedOrders=true)(b:Region.lexB .any l.toArray=true)(hl:l≠[]) (f:C w.drew) (h:wpQuiet P l.toArray C (fun a'=>Region.wanted (l.getLast hl) (yielded l.toArray a'.tmps)=true/\∀ w,C w->gR P Q (l.getLast hl) a' w) l.dropLast a):(Code.region id l.toArray true).wp P Q a w:=by
 have e:=List.dropLast_concat_getLast hl;generalize l.dropLast=c at *;generalize l.getLast hl=o at *;subst e;simp only[Region.lexB,bu] at b;refine wp_region_any d (JB _ _ _ _ f ?_);have:=GL (P:=P) (Q:=Q) (C:=C) (md:=.any) b.1 c 0 (Array.replicate (c ++ [o]).toArray.size false) a (by simp) (by simpa using b.2) h;simpa using this
theorem KC{P:Program}{Q:Exit->Act->Wd->Prop}{o:Oper}{a:Act}{w:Wd}{f:FuncId}{args:Array Operand}{i:Array TypeId}(hc:∀ c w,Sem.run P (callFunc f c) w=.ok (.enter f c) w)(g:o.op=.call { callee:=.value (.func f),args:=args,argTypes:=i })(h:Calls P f (args.map a.eval) w fun e b=>∃ ch,e=.panicked ch/\∀ a',a'.defers=a.defers->Q (.panic ch) a' b):gR P Q o a w:=by
 have j:(execOp a.eval o).run P w=.ok (.enter f (args.map a.eval)) w:=by unfold execOp;rw[g];simp[go_sem,hc]
 unfold gR Oper.wp;rw[j];refine h.mono ?_;rintro e b ⟨ch,rfl,d⟩;exact d
theorem zcD{P:Program}{id:Nat}{Q:Exit->Act->Wd->Prop}{a:Act}{w:Wd}{l:List Oper}(d:P.follows .mixedOrders=true)(c:Region.lexB .any l.toArray=true)(hl:l≠[]) (h:wpQuiet P l.toArray (fun b=>∃ n,b=w.drewN n) (fun a'=>Region.wanted (l.getLast hl) (yielded l.toArray a'.tmps)=true/\∀ b,(∃ n,b=w.drewN n)->gR P Q (l.getLast hl) a' b) l.dropLast a):(Code.region id l.toArray true).wp P Q a w:=
 MY (C:=fun b=>∃ n,b=w.drewN n) d c hl ⟨1,rfl⟩ h
end W
abbrev cA(p:Pg):Vl:=.agg #[.int .i64 p.kd,.int .i64 p.od,.int .i64 p.cl,.int .i64 p.lv,.int .i64 p.nx,.int .i64 p.pv,.int .i64 p.fs,.int .u64 p.b0,.int .u64 p.b1,.int .u64 p.b2,.int .u64 p.b3]
abbrev aO(p:Pg):Obj:=.cells #[.int .i64 p.kd,.int .i64 p.od,.int .i64 p.cl,.int .i64 p.lv,.int .i64 p.nx,.int .i64 p.pv,.int .i64 p.fs,.int .u64 p.b0,.int .u64 p.b1,.int .u64 p.b2,.int .u64 p.b3] 97
theorem fL(b:Nat)(B:Bs)(m:Mp)(i:Int)(w:Wd)(h:MpA w b B m):Calls prog 94 #[.pointer (some ⟨b,0,none⟩),.int .i64 i] w fun e a=>e=.returned (.bool (aD m.n i))/\a=w:=by
 obtain⟨c,c0,c1,c2⟩:=h.cb;clear h;by_cases h0 : 0<=i
 ·have hd:aD m.n i=decide (i<(m.n:Int)):=by simp[aD,h0]
  rw[hd];go_enter func94,ntmps94;go_wp2
  go_ret;exact⟨rfl,rfl⟩
 ·have hd:aD m.n i=false:=by simp[aD];omega
  rw[hd];go_enter func94,ntmps94;go_wp2
  go_ret;exact⟨rfl,rfl⟩
theorem tN(b:Nat)(B:Bs)(m:Mp)(w:Wd)(h:MpA w b B m):Calls prog 44 #[.pointer (some ⟨b,0,none⟩)] w fun e a=>e=.returned (.int .i64 m.n)/\a=w:=by
 obtain⟨c,c0,c1,c2⟩:=h.cb;clear h;go_enter func44,ntmps44;go_wp2
 go_ret;exact⟨rfl,rfl⟩
theorem iR{w:Wd}{x:Nat}{p:Pg}(h:w.heap[x]?=some (aO p)):w.cell? ⟨x,0,none⟩=some (.int .i64 p.kd)/\w.cell? ⟨x,1,none⟩=some (.int .i64 p.od)/\w.cell? ⟨x,2,none⟩=some (.int .i64 p.cl)/\w.cell? ⟨x,3,none⟩=some (.int .i64 p.lv)/\w.cell? ⟨x,4,none⟩=some (.int .i64 p.nx)/\w.cell? ⟨x,5,none⟩=some (.int .i64 p.pv)/\w.cell? ⟨x,6,none⟩=some (.int .i64 p.fs)/\w.cell? ⟨x,7,none⟩=some (.int .u64 p.b0)/\w.cell? ⟨x,8,none⟩=some (.int .u64 p.b1)/\w.cell? ⟨x,9,none⟩=some (.int .u64 p.b2)/\w.cell? ⟨x,10,none⟩=some (.int .u64 p.b3):=by refine⟨?_,?_,?_,?_,?_,?_,?_,?_,?_,?_,?_⟩ <;> simp[World.cell?,h]
theorem oE{w:Wd}{x:Nat}{p:Pg}(h:w.heap[x]?=some (aO p))(i:Nat):w.frozen? ⟨x,i,none⟩=false:=by simp[World.frozen?,h]
abbrev yN(w:Wd)(x:Nat)(p:Pg):Wd:=(((((((((((w.setCell ⟨x,0,none⟩ (.int .i64 p.kd)).setCell ⟨x,1,none⟩ (.int .i64 p.od)).setCell ⟨x,2,none⟩ (.int .i64 p.cl)).setCell ⟨x,3,none⟩ (.int .i64 p.lv)).setCell ⟨x,4,none⟩ (.int .i64 p.nx)).setCell ⟨x,5,none⟩ (.int .i64 p.pv)).setCell ⟨x,6,none⟩ (.int .i64 p.fs)).setCell ⟨x,7,none⟩ (.int .u64 p.b0)).setCell ⟨x,8,none⟩ (.int .u64 p.b1)).setCell ⟨x,9,none⟩ (.int .u64 p.b2)).setCell ⟨x,10,none⟩ (.int .u64 p.b3))
theorem xD{S:Nat->Prop}{a w:Wd}(h:Kt S a w)(x:Nat)(hx:x<a.heap.size->S x)(p:Pg):Kt S a (yN w x p):=(((((((((((h.em (p:=⟨x,0,none⟩) hx _).em (p:=⟨x,1,none⟩) hx _).em (p:=⟨x,2,none⟩) hx _).em (p:=⟨x,3,none⟩) hx _).em (p:=⟨x,4,none⟩) hx _).em (p:=⟨x,5,none⟩) hx _).em (p:=⟨x,6,none⟩) hx _).em (p:=⟨x,7,none⟩) hx _).em (p:=⟨x,8,none⟩) hx _).em (p:=⟨x,9,none⟩) hx _).em (p:=⟨x,10,none⟩) hx _)
theorem qV(k o:Int)(w:Wd):Calls prog 233 #[.int .i64 k,.int .i64 o] w fun e a=>e=.returned (cA (aT k o))/\a=w.alloc (aO (aT k o)):=by
 go_enter func233,ntmps233;go_wp2
 exact⟨rfl,_,by simp[results,results233,go_sem,aT],rfl,rfl⟩
def cL(m:Mp)(i:Int):Pg:=if aD m.n i=true then m.pg i.toNat else aU
theorem gP{n:Nat}{i:Int}(h:aD n i=true):∃ k:Nat,i=k/\k<n:=by
 have a : 0<=i/\i<(n:Int):=by simpa [aD] using h
 obtain⟨k,rfl⟩:=au a.1;exact⟨k,rfl,by omega⟩
theorem dN{n k:Nat}(h:k<n):aD n (k:Int)=true:=by simp[aD];omega
theorem sG(b:Nat)(B:Bs)(m:Mp)(i:Int)(w:Wd)(h:MpA w b B m)(hi:aD m.n i=false):Calls prog 45 #[.pointer (some ⟨b,0,none⟩),.int .i64 i] w fun e o=>e=.returned (.tuple #[cA aU,.bool false])/\Kt nO w o:=by
 have f:=aA ((kz w).alloc (aO aU));have g:=aA (h.dk f.o);have d:=aA (nH w (aO aU));have q:=aA hi;clear h hi;go_enter func45,ntmps45;go_wp2_with fail;refine(fL b B m i _ g.o).mono ?_;rintro e s ⟨rfl,a⟩;rw[show(w.alloc (aO aU))=s from a.symm] at f g d;rw[q.o];clear a;obtain⟨r,l,y,j,k,v,x,A,u,t,c⟩:=iR d.o;have z:=oE d.o;go_wp2_with fail;exact⟨rfl,_,by simp[results,results45,go_sem,aU,r,l,y,j,k,v,x,A,u,t,c],rfl,xD (p:=aU) f.o _ (fun h=>absurd h (de _))⟩
theorem kH(b:Nat)(B:Bs)(m:Mp)(k:Nat)(w:Wd)(h:MpA w b B m)(l:k<m.n):Calls prog 45 #[.pointer (some ⟨b,0,none⟩),.int .i64 k] w fun e s=>e=.returned (.tuple #[cA (m.pg k),.bool true])/\Kt nO w s:=by
 have i:=aA ((kz w).alloc (aO aU));have c:=aA (h.dk i.o);have f:=aA (nH w (aO aU));have t:=aA (dN l);clear h;go_enter func45,ntmps45;go_wp2_with fail;refine(fL b B m k _ c.o).mono ?_;rintro e v ⟨rfl,a⟩;rw[show(w.alloc (aO aU))=v from a.symm] at i c f;rw[t.o];clear a;obtain⟨g,hg,j⟩:=c.o.et (by omega);obtain⟨Y,J,T,R,K,V,X,N,L,U,x⟩:=j.cell k l;have c1:=c.o.c1 hg;have o:(k:Int)<m.n:=by omega
 obtain⟨u,r,A,G,q,E,F,I,D,y,d⟩:=iR f.o;have z:=oE f.o;clear j hg;go_wp2_with fail;exact⟨rfl,_,by simp[results,results45,go_sem,u,r,A,G,q,E,F,I,D,y,d],rfl,xD (p:=m.pg k) i.o _ (fun h=>absurd h (de _))⟩
theorem jB(b:Nat)(B:Bs)(m:Mp)(i:Int)(w:Wd)(h:MpA w b B m):Calls prog 45 #[.pointer (some ⟨b,0,none⟩),.int .i64 i] w fun e a=>e=.returned (.tuple #[cA (cL m i),.bool (aD m.n i)])/\Kt nO w a:=by
 cases hi:aD m.n i with
 | false=>rw[show cL m i=aU by simp[cL,hi]];exact sG b B m i w h hi
 | true=>obtain⟨k,rfl,c⟩:=gP hi;rw[show cL m (k:Int)=m.pg k by simp[cL,hi]];exact kH b B m k w h c
theorem sE(a c b d b0 b1 b2 b3:Int)(w:Wd):(Op.equalIn 9999 95 (.agg #[.int .u64 a,.int .u64 c,.int .u64 b,.int .u64 d]) (.agg #[.int .u64 b0,.int .u64 b1,.int .u64 b2,.int .u64 b3])).run prog w=.ok (a == b0 && (c == b1 && (b == b2 && d == b3))) w:=by
 have u3:=Tryz.underlying22;have s3:=Tryz.isAgg22;have i:=Tryz.sizeOf22;rw[show(9999:Nat)=9998+1 from rfl,Op.equalIn];simp only[Sem.run_bind,run_underlying Tryz.underlying95,Result.andThen_ok];simp only[Std.Legacy.Range.forIn_eq_forIn_range',Std.Legacy.Range.size,Nat.sub_zero,eh,Nat.div_one,List.range'_succ,List.range'_zero,List.forIn_cons,List.forIn_nil];go_simp
 by_cases e:a=b0 <;> by_cases h:c=b1 <;> by_cases f:b=b2 <;> by_cases g:d=b3 <;> simp[e,h,f,g]
end Go.Proofs.YtfmgnljlkdmndaaGreatDoor
