import Derived.Laws.IdiomStrings
import Derived.Lib.UnsafeStr
import Derived.Test.YtkfmheelhinjdaaGreatDoorWs
import Derived.Test.YtkfmheelhinjdaaGreatDoorWq
import Derived.Test.YtkfmheelhinjdaaGreatDoorWr
import Derived.Test.YtkfmheelhinjdaaGreatDoorWj
set_option maxRecDepth 1000000
set_option maxHeartbeats 80000000
namespace Go.Proofs.YtkfmheelhinjdaaGreatDoor.W
open Tryz
open Go.RowKit
set_option linter.unusedVariables false
set_option maxHeartbeats 8000000
set_option maxRecDepth 6000
theorem uX(I:Img)(V:ImV)(w:World)(hI:ImD w I V):
  Calls prog 47 #[imA I V] w fun e w'=>e=.returned (.bool ((chk I).1 == 0))/\Kt nO w w':=by
 obtain⟨⟨ma,mc,hm⟩,⟨pa,pc,hp⟩,⟨ra,rc,hr⟩,⟨ha,hc,hh⟩,⟨ta,tc,ht⟩,-⟩:=hI.sl;have HCK:=aA (YJ I V (w.alloc (aE I V)) (hI.keep ((Kt.refl _ w).alloc _)));have K0:=aA (show Kt nO w (w.alloc (aE I V))from(Kt.refl _ w).alloc _);obtain⟨ru,hru⟩:=xe ((chk I).1);obtain⟨pl,hpl⟩:=xe ((chk I).2);rw[<-hru,<-hpl] at HCK;rw[<-hru];show Calls prog 47 #[.agg #[.int .u64 I.bS,.int .i64 I.lim,.int .i64 I.ord,.int .i64 I.reg,V.m,V.p,V.r,V.h,V.t]] w _
 rw[hm,hp,hr,hh,ht] at HCK ⊢;have EW:=aA (show(w.alloc (.cells #[.int .u64 I.bS,.int .i64 I.lim,.int .i64 I.ord,.int .i64 I.reg,.slice ma I.nm mc,.slice pa I.np pc,.slice ra I.no rc,.slice ha I.hd.length hc,.slice ta I.pt.length tc] 38 (0,0)))=w.alloc (aE I V)by rw[<-hm,<-hp,<-hr,<-hh,<-ht]);clear hm hp hr hh ht hI hru hpl;have hz:((ru:Int) == 0)=(ru == 0):=by rw[Bool.eq_iff_iff,beq_iff_eq,beq_iff_eq];omega
 go_enter func47,ntmps47;go_wp2_with fail;rw[EW.out];refine HCK.out.mono ?_;rintro e w1 ⟨rfl,hk1⟩;have K1:=aA (nT K0.out hk1);clear hk1 EW K0;generalize w.alloc (aE I V)=W0 at *;go_wp2_with fail;go_ret;exact⟨by first|rfl|rw[hz],K1.out⟩
theorem nG(c:Nat)(h7:c<=7):IntKind.u64.wrap ((16:Int)*2 ^ c)=((16*2 ^ c:Nat):Int):=by
 have hp:=jU c h7;have e:((2:Int) ^ c)=((2 ^ c:Nat):Int):=by simp
 rw[wrap_u64,e];generalize 2 ^ c=P at *;omega
theorem EC(kd od lv:Int)(c:Nat)(h7:c<=7)(w:World):
  Calls prog 135 #[eS (kd,od,(c:Int),lv)] w fun e w'=>e=.returned (.int .u64 ((16*2 ^ c:Nat):Int))/\Kt nO w w':=by
 have hp:=jU c h7;have E:=nG c h7;generalize 16*2 ^ c=q at *;show Calls prog 135 #[.agg #[.int .i64 kd,.int .i64 od,.int .i64 c,.int .i64 lv]] w _
 go_enter func135,ntmps135;go_wp2
 go_ret;exact⟨by first|rfl|simp_all,(Kt.refl _ w).alloc _⟩
theorem SJ(c:Nat)(h7:c<=7):(4096:Int)/((16*2 ^ c:Nat):Int)=((celN9 c:Nat):Int):=by
 unfold celN9;match c,h7 with
 | 0,_=>decide
 | 1,_=>decide
 | 2,_=>decide
 | 3,_=>decide
 | 4,_=>decide
 | 5,_=>decide
 | 6,_=>decide
 | 7,_=>decide
theorem ES(kd od:Int)(c l:Nat)(h7:c<=7)(hl:l<=256)(w:World):
  Calls prog 93 #[eS (kd,od,(c:Int),(l:Int))] w fun e w'=>e=.returned (.int .i64 ((celN9 c:Nat)-(l:Int)))/\Kt nO w w':=by
 have HCS:=aA (fun W=>EC kd od (l:Int) c h7 W);have hq:=SJ c h7;have hq2:(4096:Int).tdiv ((16*2 ^ c:Nat):Int)=((celN9 c:Nat):Int):=by rw[Int.tdiv_eq_ediv_of_nonneg (by decide)];exact hq
 have hb:=mP c h7;have hp:=jU c h7;have h0:¬((16*2 ^ c:Nat):Int)=0:=by generalize 2 ^ c=P at *;omega
 generalize celN9 c=cn at *;generalize hqq : 16*2 ^ c=q at *;clear hqq hp;have e1:IntKind.i64.wrap (cn:Int)=cn:=by rw[IntKind.wrap_i64];omega
 have e2:IntKind.i64.wrap ((cn:Int)-(l:Int))=(cn:Int)-(l:Int):=by rw[IntKind.wrap_i64];omega
 have e3:IntKind.u64.wrap (cn:Int)=cn:=by rw[wrap_u64];omega
 have K0:=aA (show Kt nO w (w.alloc (.cells #[.int .i64 kd,.int .i64 od,.int .i64 c,.int .i64 l] 101 (0,0)))from(Kt.refl _ w).alloc _);have C0:=aA (show ∀ x:KW (w.alloc (.cells #[.int .i64 kd,.int .i64 od,.int .i64 c,.int .i64 l] 101 (0,0))),x.v.heap[w.heap.size]?=some (.cells #[.int .i64 kd,.int .i64 od,.int .i64 c,.int .i64 l] 101 (0,0))from fun x=>(x.k.block _ (lH (nH w _)) (fun x=>x)).trans (nH w _));show Calls prog 93 #[.agg #[.int .i64 kd,.int .i64 od,.int .i64 c,.int .i64 l]] w _
 go_enter func93,ntmps93;go_upto_region 1 with fail;generalize w.alloc _=W0 at *;generalize w.heap.size=gb at *;have c0:∀ x:KW W0,x.v.cell? ⟨gb,0,none⟩=some (.int .i64 kd):=fun x=>by simp[World.cell?,C0.out x]
 have c1:∀ x:KW W0,x.v.cell? ⟨gb,1,none⟩=some (.int .i64 od):=fun x=>by simp[World.cell?,C0.out x]
 have c2:∀ x:KW W0,x.v.cell? ⟨gb,2,none⟩=some (.int .i64 c):=fun x=>by simp[World.cell?,C0.out x]
 have c3:∀ x:KW W0,x.v.cell? ⟨gb,3,none⟩=some (.int .i64 l):=fun x=>by simp[World.cell?,C0.out x]
 refine bU (by kernel_rfl) (by kernel_rfl) ?_;repeat (go_big_quiet_step (first|(go_at_call 135;exact Calls.kept_of (HCS.out _))))
 refine wpQuiet_nil ?_;intro x;have R:=aA (nT K0.out x.k);go_wp2_with fail;go_ret;exact⟨by first|rfl|simp_all,R.out⟩
set_option maxHeartbeats 8000000
set_option maxRecDepth 6000
def eQ(p:Pg):Nat:=if p.kd=2 then 48+p.od.toNat else if p.kd=3 then 61 else if p.kd=4 then (if p.lv=(celN9 p.cl.toNat:Int) then 65+p.cl.toNat else 97+p.cl.toNat) else 46
def fD(p:Pg):UInt8:=UInt8.ofNat (eQ p)
theorem yA{p:Pg}{o c:Nat}(ho:p.od=(o:Int))(h8:o<=8)(hc:p.cl=(c:Int))(h7:c<=7):eQ p<256:=by
 unfold eQ;rw[ho,hc,Int.toNat_natCast,Int.toNat_natCast];split
 ·omega
 ·split
  ·omega
  ·split
   ·split <;> omega
   ·omega
theorem UI{p:Pg}{o c:Nat}(ho:p.od=(o:Int))(h8:o<=8)(hc:p.cl=(c:Int))(h7:c<=7):((fD p).toNat:Int)=(eQ p:Int):=by
 have h:=yA ho h8 hc h7;unfold fD;rw[UInt8.toNat_ofNat_of_lt' h]
theorem zgZ(p:Pg)(o c l:Nat)(ho:p.od=(o:Int))(h8:o<=8)(hc:p.cl=(c:Int))(h7:c<=7)(hl:p.lv=(l:Int))(h256:l<=256)(w:World):
  Calls prog 52 #[dS p] w fun e w'=>e=.returned (.int .u8 (eQ p:Int))/\Kt nO w w':=by
 obtain⟨kd,od,cl,lv,nx,pv,fs,b0,b1,b2,b3⟩:=p;dsimp only at ho hc hl;subst ho hc hl;have KS:=aA (fun W=>BO ⟨kd,(o:Int),(c:Int),(l:Int),nx,pv,fs,b0,b1,b2,b3⟩ W);have FC:=aA (fun W=>ES kd (o:Int) c l h7 h256 W);obtain⟨cn,hcn⟩:=xe (celN9 c);rw[<-hcn] at FC;have o1:IntKind.u8.wrap (o:Int)=o:=by rw[pG];omega
 have c1:IntKind.u8.wrap (c:Int)=c:=by rw[pG];omega
 have o1':(o:Int)%256=(o:Int):=by omega
 have c1':(c:Int)%256=(c:Int):=by omega
 have KA:=aA (fun o=>(Kt.refl nO w).alloc o);by_cases k2:kd=2
 ·subst k2;have e1:IntKind.u8.wrap (48+(o:Int))=48+(o:Int):=by rw[pG];omega
  have e1':(48+(o:Int))%256=48+(o:Int):=by omega
  have E:=aA (show((eQ ⟨2,(o:Int),(c:Int),(l:Int),nx,pv,fs,b0,b1,b2,b3⟩:Nat):Int)=48+(o:Int)by unfold eQ;simp);rw[E.out];go_enter func52,ntmps52;go_wp2_with fail;go_ret;exact⟨rfl,KA.out _⟩
 by_cases k3:kd=3
 ·subst k3;have E:=aA (show((eQ ⟨3,(o:Int),(c:Int),(l:Int),nx,pv,fs,b0,b1,b2,b3⟩:Nat):Int)=61 by unfold eQ;simp);rw[E.out];go_enter func52,ntmps52;go_wp2_with fail;go_ret;exact⟨rfl,KA.out _⟩
 by_cases k4:kd=4
 ·subst k4;by_cases hf:cn=l
  ·have E:=aA (show((eQ ⟨4,(o:Int),(c:Int),(l:Int),nx,pv,fs,b0,b1,b2,b3⟩:Nat):Int)=65+(c:Int)by unfold eQ;simp[<-hcn,hf]);rw[E.out];have f0:((cn:Int)-(l:Int) == 0)=true:=(by rw[beq_iff_eq];omega);have e1:IntKind.u8.wrap (65+(c:Int))=65+(c:Int):=(by rw[pG];omega);have e1':(65+(c:Int))%256=65+(c:Int):=(by omega);clear hf hcn;go_enter func52,ntmps52;go_wp2_with fail;refine(KS.out _).mono ?_;rintro e w1 ⟨rfl,hk1⟩;have K1:=aA (nT (KA.out _) hk1);go_wp2_with fail;refine(FC.out _).mono ?_;rintro e w2 ⟨rfl,hk2⟩;have K2:=aA (nT K1.out hk2);have c2:=aA (show w2.cell? ⟨w.heap.size,2,none⟩=some (.int .i64 c)from hk2.cell (fun x=>x) (hk1.cell (fun x=>x) (cF (nH w (aQ ⟨4,(o:Int),(c:Int),(l:Int),nx,pv,fs,b0,b1,b2,b3⟩))).2.2.1));have c2:=c2.out;clear hk1 hk2;go_wp2_with fail;go_ret;exact⟨rfl,K2.out⟩
  ·have E:=aA (show((eQ ⟨4,(o:Int),(c:Int),(l:Int),nx,pv,fs,b0,b1,b2,b3⟩:Nat):Int)=97+(c:Int)by
    have:¬((l:Int)=(celN9 c:Int)):=by rw[<-hcn];omega
    unfold eQ;simp;rw[if_neg (by omega)];simp)
   rw[E.out];have f0:((cn:Int)-(l:Int) == 0)=false:=(by rw[beq_eq_false_iff_ne];omega);have e1:IntKind.u8.wrap (97+(c:Int))=97+(c:Int):=(by rw[pG];omega);have e1':(97+(c:Int))%256=97+(c:Int):=(by omega);clear hf hcn;go_enter func52,ntmps52;go_wp2_with fail;refine(KS.out _).mono ?_;rintro e w1 ⟨rfl,hk1⟩;have K1:=aA (nT (KA.out _) hk1);go_wp2_with fail;refine(FC.out _).mono ?_;rintro e w2 ⟨rfl,hk2⟩;have K2:=aA (nT K1.out hk2);have c2:=aA (show w2.cell? ⟨w.heap.size,2,none⟩=some (.int .i64 c)from hk2.cell (fun x=>x) (hk1.cell (fun x=>x) (cF (nH w (aQ ⟨4,(o:Int),(c:Int),(l:Int),nx,pv,fs,b0,b1,b2,b3⟩))).2.2.1));have c2:=c2.out;clear hk1 hk2;go_wp2_with fail;go_ret;exact⟨rfl,K2.out⟩
 ·have E:=aA (show((eQ ⟨kd,(o:Int),(c:Int),(l:Int),nx,pv,fs,b0,b1,b2,b3⟩:Nat):Int)=46 by unfold eQ;simp[k2,k3,k4]);rw[E.out];have f2:(kd == 2)=false:=by rw[beq_eq_false_iff_ne];exact k2
  have f3:(kd == 3)=false:=by rw[beq_eq_false_iff_ne];exact k3
  have f4:(kd == 4)=false:=by rw[beq_eq_false_iff_ne];exact k4
  clear k2 k3 k4;go_enter func52,ntmps52;go_wp2_with fail;go_ret;exact⟨rfl,KA.out _⟩
abbrev TX(w0 W:World)(v:Value)(l:List UInt8):Prop:=GS w0 W 5 1 v l.length (Lib.byteCells l)
theorem YI:(prog.info? 5).map (fun i=>(i.zero,i.size,i.bytes))=some (some (.int .u8 0),1,1):=by kernel_rfl
theorem TX.push{w0 W:World}{v:Value}{l:List UInt8}(h:TX w0 W v l)(b:UInt8)(hn:l.length<140737488355328):
  ∃ g cap w',(∀ t,(Builtin.append_ #[32,32] t #[v,.slice (some ⟨W.heap.size,0,none⟩) 1 1]).run prog (W.alloc (.cells #[.int .u8 b.toNat] 5))=.ok (.slice (some ⟨g,0,none⟩) (l.length + 1) cap) w')/\TX w0 w' (.slice (some ⟨g,0,none⟩) (l.length + 1) cap) (l ++ [b])/\Kt (fun b=>v.ownBlock=some b) W w':=by
 obtain⟨i,hi,hzz⟩:=Option.map_eq_some_iff.1 YI;simp only[Prod.mk.injEq] at hzz;have ka:=(Kt.refl nO W).alloc (.cells #[.int .u8 b.toNat] 5);obtain⟨g,cap,w',h1,h2,h5,h6,h7⟩:=(GS.keep h ka).pushM 32 i (.int .u8 0) 1 Tryz.underlying32 hi hzz.1 hzz.2.1 hzz.2.2 rfl (by decide) ⟨W.heap.size,0,none⟩ 1 1 (by decide) [.int .u8 b.toNat] rfl (fun j u hj=>pY (cs:=#[.int .u8 b.toNat]) j u hj) (by simp[Value.oneCell']) (by simp only[maxLen];omega) (by omega);refine⟨g,cap,w',h1,?_,ka.trans h6 (fun _ _ e=>e.elim) (fun _ _ e=>e)⟩;show GS _ _ _ _ _ (l ++ [b]).length (Lib.byteCells (l ++ [b]))
 rw[List.length_append,show Lib.byteCells (l ++ [b])=Lib.byteCells l ++ [.int .u8 b.toNat] by simp[Lib.byteCells]];exact h2
theorem TX.str{w0 W:World}{v:Value}{l:List UInt8}(h:TX w0 W v l):(convert 32 9 v).run prog W=.ok (.string ⟨l.toArray⟩) W:=by
 rcases h.own.2 with ⟨rfl,h0⟩|⟨g,cap,cur,rfl,hb,hg,hnc,hcm,hcs,htake⟩
 ·obtain rfl:=List.eq_nil_of_length_eq_zero h0;show(convert 32 9 (.slice none 0 0)).run prog W=_
  rw[run_convert_bytes_string W 32 9 5 none 0 0 Tryz.underlying32 Tryz.underlying5 Tryz.underlying9];simp[Conv.bytesToString];rfl
 ·refine run_convert_bytes_back W 32 9 5 ⟨g,0,none⟩ cap l Tryz.underlying32 Tryz.underlying5 Tryz.underlying9 fun j hj=>?_
  rw[Addr.add_lit,Nat.zero_add];have e1:(Lib.byteCells l)[j]?=some (.int .u8 (l[j].toNat:Int)):=by
   unfold Lib.byteCells;rw[List.getElem?_map,List.getElem?_eq_getElem hj];rfl
  rw[<-htake,List.getElem?_take] at e1;split at e1
  ·simp only[World.cell?,hg];rw[<-Array.getElem?_toList,e1];rfl
  ·cases e1
set_option maxHeartbeats 8000000
set_option maxRecDepth 6000
def gB(I:Img)(k:Nat):Nat->List UInt8
 | 0=>[]
 | j + 1=>gB I k j ++ (fD (I.pg j) :: if (j + 1)%2 ^ k=0 then [10] else [])
def gU(I:Img):List UInt8:=if (chk I).1=0 then gB I I.ord.toNat I.np else []
theorem zF(I:Img)(k:Nat):∀ j,(gB I k j).length<=2*j
 | 0=>Nat.le_refl _
 | j+1=>by
  have:=zF I k j;unfold gB;rw[List.length_append,List.length_cons];split <;> simp <;> omega
theorem DR(I:Img)(V:ImV)(w:World)(hI:ImD w I V):
  Calls prog 16 #[imA I V] w fun e w'=>e=.returned (.string ⟨(gU I).toArray⟩)/\Kt nO w w':=by
 obtain⟨⟨ma,mc,hm⟩,⟨pa,pc,hp⟩,⟨ra,rc,hr⟩,⟨ha,hc,hh⟩,⟨ta,tc,ht⟩,-⟩:=hI.sl;have IM0:=aA (show ImAt (w.alloc (aE I V)) w.heap.size I V from⟨nH _ _,hI.keep ((Kt.refl _ w).alloc _)⟩);have K0:=aA (show Kt nO w (w.alloc (aE I V))from(Kt.refl _ w).alloc _);have HCK:=aA (show Calls prog 47 #[.agg #[.int .u64 I.bS,.int .i64 I.lim,.int .i64 I.ord,.int .i64 I.reg,V.m,V.p,V.r,V.h,V.t]] (w.alloc (aE I V)) fun e w'=>e=.returned (.bool ((chk I).1 == 0))/\Kt nO (w.alloc (aE I V)) w' from uX I V (w.alloc (aE I V)) IM0.out.d);have SP:=aA hp;obtain⟨bL,hbL⟩:=xe (gU I);rw[<-hbL];have BAD:=aA (show(chk I).1≠0->bL=[] from fun h=>by rw[hbL,gU,if_neg h]);have GOOD:=aA (show(chk I).1=0->bL=gB I I.ord.toNat I.np from fun h=>by rw[hbL,gU,if_pos h]);obtain⟨ru,hru⟩:=xe ((chk I).1);rw[<-hru] at HCK;show Calls prog 16 #[.agg #[.int .u64 I.bS,.int .i64 I.lim,.int .i64 I.ord,.int .i64 I.reg,V.m,V.p,V.r,V.h,V.t]] w _
 rw[hm,hp,hr,hh,ht] at HCK ⊢;have HRU:=aA hru;clear hbL hru;have EW:=aA (show(w.alloc (.cells #[.int .u64 I.bS,.int .i64 I.lim,.int .i64 I.ord,.int .i64 I.reg,.slice ma I.nm mc,.slice pa I.np pc,.slice ra I.no rc,.slice ha I.hd.length hc,.slice ta I.pt.length tc] 38 (0,0)))=w.alloc (aE I V)by rw[<-hm,<-hp,<-hr,<-hh,<-ht]);clear hm hp hr hh ht hI;go_enter func16,ntmps16;go_wp2_with fail;rw[EW.out];refine HCK.out.mono ?_;rintro e w1 ⟨rfl,hk1⟩;have IM1:=aA (IM0.out.keep hk1);have K1:=aA (nT K0.out hk1);clear hk1 EW;generalize w.alloc (aE I V)=W0 at *;generalize w.heap.size=ib at *;by_cases h0:ru=0
 case neg=>
  have f0:(ru == 0)=false:=by rw[beq_eq_false_iff_ne];exact h0
  have E:=aA (BAD.out (by rw[<-HRU.out];exact h0));rw[f0];clear h0 f0;go_wp2_with fail;go_ret;exact⟨by rw[E.out];rfl,K1.out⟩
 have f0:(ru == 0)=true:=by rw[beq_iff_eq];exact h0
 have hz:(chk I).1=0:=by rw[<-HRU.out];exact h0
 have E:=aA (GOOD.out hz);obtain⟨r,hS⟩:=mV hz;have HS:=aA hS;have hnp:=hS.np1;have hk8:=hS.k8;have hord:=hS.ord;obtain⟨n,hn⟩:=xe (I.np);obtain⟨k,hk⟩:=xe (I.ord.toNat);rw[<-hn] at hnp E SP;rw[<-hk] at hord hk8 E HS;have HN:=aA hn;have HO:=aA hord;rw[f0];clear h0 f0 hz hS hn hk hord;obtain⟨P,hP⟩:=xe (2 ^ k);have HP:=aA hP;obtain⟨s1,s2,-⟩:=oN hk8 hP;have hP1 : 1<=P:=by rw[hP];exact Nat.two_pow_pos k
 have hP2:P<=256:=by rw[hP];exact Nat.pow_le_pow_right (n:=2) (by decide) hk8
 have HP1:=aA hP1;have hP0:¬(P:Int)=0:=by omega
 have hPm:¬(P:Int) = -1:=by omega
 clear hP;obtain⟨c0,c1,c2,c3,c4,c5,c6,c7,c8⟩:=IM1.out.cells;rw[SP.out] at c5;rw[<-HN.out];go_wp2_with fail;clear c0 c1 c2 c3 c4 c5 c6 c7 c8;go_loopw [3,12] (fun tv iv W=>∃ (a:Nat) (l:List UInt8) (oa:Option Addr) (oc:Nat),a<=n/\iv=.int .i64 a/\tv=.slice oa l.length oc/\Hid (l=gB I k a/\TX w1 W (.slice oa l.length oc) l)) (fun _ iv _=>n-(intOf iv).toNat)
 case atStart=>exact⟨0,[],none,0,Nat.zero_le _,rfl,rfl,aA ⟨rfl,GS.nil _ _ _ _ (Kt.refl _ _)⟩⟩
 case round=>
  obtain⟨a,l,oa,oc,ha,rfl,rfl,HI⟩:=hrel;have HL:=aA (show l.length<=2*n from by rw[HI.out.1];exact Nat.le_trans (zF I k a) (by omega));by_cases hlt:a<n
  ·have hai:(a:Int)<n:=(by omega);obtain⟨bl,o,oc',hv',hpi,hpc⟩:=(IM1.out.keep HI.out.2.kp).page a (by rw[<-HN.out];exact hlt);rw[SP.out] at hv';injection hv' with e1 e2 e3
   subst e1;obtain⟨d0,d1,d2,d3,d4,d5,d6,d7,d8,d9,d10⟩:=hpc.c;obtain⟨kd,od,cl,lv,y1,y2,y3,y4,y5,y6,y7,y8,-⟩:=HS.out.pg a (by rw[<-HN.out];exact hlt);have LT:=aA (fun W=>zgZ (I.pg a) od cl lv y3 (by omega) y5 (by omega) y7 y8 W);rw[<-UI y3 (by omega) y5 (by omega)] at LT;have KB:=aA ((Kt.refl nO wr).alloc (aQ (I.pg a)));have PB:=aA (nH wr (aQ (I.pg a)));have XT:=aA (show gB I k (a + 1)=gB I k a ++ (fD (I.pg a) :: if (a + 1)%P=0 then [10] else [])from by rw[HP.out];rfl);generalize hpp:I.pg a=p at *;clear hpi hpc e2 e3 y1 y2 y3 y4 y5 y6 y7 y8 hpp;go_wp2_with fail;generalize wr.alloc (aQ p)=W2 at *;generalize wr.heap.size=gb at *;obtain⟨p0,p1,p2,p3,p4,p5,p6,p7,p8,p9,p10⟩:=cF PB.out;clear d0 d1 d2 d3 d4 d5 d6 d7 d8 d9 d10;refine(LT.out _).mono ?_;rintro e w3 ⟨rfl,hk3⟩;have T3:=aA (HI.out.2.keep (nT KB.out hk3));obtain⟨g4,cap4,w4,ap4,t4,k4⟩:=TX.push T3.out (fD p) (by have:=HL.out;omega);have AP4:=aA ap4;have T4:=aA t4;have IM4:=aA (IM1.out.keep t4.kp);clear hk3 ap4 t4 k4 p0 p1 p2 p3 p4 p5 p6 p7 p8 p9 p10;obtain⟨q,hq⟩:=xe ((a+1)%P);have m1:((a:Int)+1)%(P:Int)=q:=(by rw[hq];simp);have m2:((a:Int)+1).tmod (P:Int)=q:=(by rw[Int.tmod_eq_emod_of_nonneg (by omega)];exact m1);rw[<-hq] at XT;have HA1:=aA (show a+1<=n from hlt);obtain⟨c0,c1,c2,c3,c4,c5,c6,c7,c8⟩:=IM4.out.cells;rw[HO.out] at c2;by_cases hq0:q=0
   ·have m3:((q:Int) == 0)=true:=(by rw[beq_iff_eq];omega);have X5:=aA (show(l ++ [fD p]) ++ [10]=gB I k (a + 1)from by rw[XT.out,if_pos hq0,HI.out.1];simp);obtain⟨g5,cap5,w5,ap5,t5,k5⟩:=TX.push T4.out 10 (by have:=HL.out;simp;omega);have AP5:=aA ap5;have T5:=aA t5;clear ap5 t5 k5 hq hq0;go_wp2_with (at_builtin;first|(with_reducible refine Lib.wpList_append_run _ rfl _ _ _ _ rfl (.slice oa l.length oc) _ rfl rfl _ _ (AP4.out _) ?_)|(refine Lib.wpList_append_run _ rfl _ _ _ _ rfl (.slice (some ⟨g4,0,none⟩) (l.length+1) cap4) _ rfl rfl _ _ (AP5.out _) ?_))
    refine⟨⟨a + 1,(l ++ [fD p]) ++ [10],some ⟨g5,0,none⟩,cap5,HA1.out,by simp,by simp,aA ⟨X5.out,?_⟩⟩,by simp[intOf];omega⟩;have:=T5.out;simpa using this
   ·have m3:((q:Int) == 0)=false:=(by rw[beq_eq_false_iff_ne];omega);have X5:=aA (show l ++ [fD p]=gB I k (a + 1)from by rw[XT.out,if_neg hq0,HI.out.1]);clear hq hq0;go_wp2_with (at_builtin;refine Lib.wpList_append_run _ rfl _ _ _ _ rfl (.slice oa l.length oc) _ rfl rfl _ _ (AP4.out _) ?_)
    refine⟨⟨a + 1,l ++ [fD p],some ⟨g4,0,none⟩,cap4,HA1.out,by simp,by simp,aA ⟨X5.out,?_⟩⟩,by simp[intOf];omega⟩;have:=T4.out;simpa using this
  ·have hai:¬(a:Int)<n:=(by omega);have ea:a=n:=(by omega);have ST:=aA (TX.str HI.out.2);have FIN:=aA (show bL=l from by rw[E.out,HI.out.1,ea]);have KF:=aA (nT K1.out HI.out.2.kp);have st:=ST.out;clear HI HL;go_wp2_with fail;go_ret;exact⟨by rw[FIN.out];rfl,KF.out⟩
set_option maxHeartbeats 8000000
set_option maxRecDepth 6000
theorem YU(I:Img)(V:ImV)(k r:Nat)(hS:Sn9 I k r)(h5:fst1 I.np (fun i=>ok5 (I.pg i))=none)(w:World)(hI:ImD w I V):
  Calls prog 109 #[imA I V] w fun e w'=>e=.returned (.int .i64 (dY (fst1 8 (bQ I))))/\Kt nO w w':=by
 obtain⟨⟨ma,mc,hm⟩,⟨pa,pc,hp⟩,⟨ra,rc,hr⟩,⟨ha,hc,hh⟩,⟨ta,tc,ht⟩,-⟩:=hI.sl;obtain⟨vm,vp,vr,vh,vt⟩:=V;dsimp only at hm hp hr hh ht;subst hm hp hr hh ht;have IM0:=aA (show ImAt (w.alloc (aE I _)) w.heap.size I _ from⟨nH _ _,hI.keep ((Kt.refl _ w).alloc _)⟩);have K0:=aA (show Kt nO w (w.alloc (aE I _))from(Kt.refl _ w).alloc (aE I ⟨.slice ma I.nm mc,.slice pa I.np pc,.slice ra I.no rc,.slice ha I.hd.length hc,.slice ta I.pt.length tc⟩));obtain⟨c0,c1,c2,c3,c4,c5,c6,c7,c8⟩:=IM0.out.cells;have HNP:=aA hS.np1;have HTL:=aA hS.tl;have HS:=aA hS;obtain⟨rr,hrr⟩:=xe (dY (fst1 8 (bQ I)));rw[<-hrr];have BAD:=aA (show ∀ a,a<8->(∀ j,j<a->bQ I j=true)->bQ I a=false->rr=(a:Int)from fun a h1 h2 h3=>by rw[hrr,fG h1 h2 h3];rfl);have GOOD:=aA (show(∀ j,j<8->bQ I j=true)->rr = -1 from fun h=>by rw[hrr,fst1_ok h];rfl);have RM:=aA (show ∀ (g c:Nat),g<I.np->∀ W,ImD W I ⟨.slice ma I.nm mc,.slice pa I.np pc,.slice ra I.no rc,.slice ha I.hd.length hc,.slice ta I.pt.length tc⟩->Calls prog 150 #[imA I ⟨.slice ma I.nm mc,.slice pa I.np pc,.slice ra I.no rc,.slice ha I.hd.length hc,.slice ta I.pt.length tc⟩,.int .i64 g,.int .i64 c] W fun e w'=>e=.returned (.bool (prS (c:Int) (I.pg g)))/\Kt nO W w' from fun g c hg W hW=>by
  obtain⟨kd,od,cc,ll,y1,y2,y3,y4,y5,y6,y7,y8,-⟩:=hS.pg g hg;obtain⟨-,-,-,-,hpi,-⟩:=IM0.out.page g hg;exact GQ I ⟨.slice ma I.nm mc,.slice pa I.np pc,.slice ra I.no rc,.slice ha I.hd.length hc,.slice ta I.pt.length tc⟩ g c cc hg y5 y6 (fun h4=>by
   obtain⟨l,h1,h2,h3,-⟩:=tH hpi y5 y6 h4 (mU h5 g hg);exact⟨l,h1,h3⟩) W hW)
 clear hI hrr hS h5;go_enter func109,ntmps109;go_wp2_with fail;clear c0 c1 c2 c3 c4 c5 c6 c7 c8;generalize w.heap.size=ib at *;generalize w.alloc (aE I ⟨.slice ma I.nm mc,.slice pa I.np pc,.slice ra I.no rc,.slice ha I.hd.length hc,.slice ta I.pt.length tc⟩)=W0 at *;go_loopw [3] (fun iv W=>∃ a:Nat,a<=8/\iv=.int .i64 a/\Hid (Kt nO W0 W/\∀ j,j<a->bQ I j=true)) (fun iv _=>8-(intOf iv).toNat)
 case atStart=>exact⟨0,Nat.zero_le _,rfl,aA ⟨Kt.refl _ _,fun j hj=>by omega⟩⟩
 case round=>
  obtain⟨a,ha',rfl,hG⟩:=hrel;have IMa:=aA (IM0.out.keep hG.out.1);obtain⟨c0,c1,c2,c3,c4,c5,c6,c7,c8⟩:=IMa.out.cells;dsimp only at c5 c8;by_cases hlt:a<8
  ·have hai:(a:Int)<8:=(by omega);have HLT:=aA hlt;have BADA:=aA (BAD.out a hlt hG.out.2);have NEXT:=aA (show bQ I a=true->∀ j,j<a+1->bQ I j=true from fun eo j hj=>by
    by_cases e:j=a
    ·rw[e];exact eo
    ·exact hG.out.2 j (by omega))
   have KG:=aA hG.out.1;have OKA:=aA (ok10_eq I a);obtain⟨S,hSS⟩:=xe (fun i=>prS (a:Int) (I.pg i));have SE:=aA (show ∀ i,S i=prS (a:Int) (I.pg i)from fun i=>by rw[hSS]);have LEN:=aA (show(pgL I (prS (a:Int))).length=aF S I.np by rw[yR,hSS]);rw[LEN.out,<-hSS] at OKA;have OPa:=aA (show ∀ g,g<I.np->∀ W,ImD W I ⟨.slice ma I.nm mc,.slice pa I.np pc,.slice ra I.no rc,.slice ha I.hd.length hc,.slice ta I.pt.length tc⟩->Calls prog 150 #[imA I ⟨.slice ma I.nm mc,.slice pa I.np pc,.slice ra I.no rc,.slice ha I.hd.length hc,.slice ta I.pt.length tc⟩,.int .i64 g,.int .i64 a] W fun e w'=>e=.returned (.bool (S g))/\Kt nO W w' from fun g hg W hW=>by rw[SE.out];exact RM.out g a hg W hW);have HW:=aA (show wrap64 ((a:Int)+1)=((a+1:Nat):Int)by rw[wrap64];omega);obtain⟨h0,hh0⟩:∃ h,h=I.pt.getD a 0:=⟨_,rfl⟩;have hHD:=IMa.out.d.pts;obtain⟨_,oa,oc,hv,hr3⟩:=hHD;rcases hr3 with hr3|⟨bl,o,rfl,hbl,hcc⟩
   ·have:=HTL.out;omega
   obtain⟨hx1,hx2⟩:=hcc a (by have:=HTL.out;omega);rw[<-hh0] at hx1 hx2 OKA;injection hv with e1 e2 e3
   subst e1;clear e2 e3 hcc hbl;have HX1:=aA hx1;have HX2:=aA hx2;clear hSS hlt ha' hG hh0 hx1 hx2;go_wp2_with fail;clear c0 c1 c2 c3 c4 c5 c6 c7 c8;obtain⟨wq,hwq⟩:∃ W,W=wr:=⟨_,rfl⟩;rw[<-hwq] at KG IMa HX2;rw[<-hwq];clear hwq;go_loopw [4,5] (fun nv iv W=>∃ j:Nat,j<=I.np/\iv=.int .i64 j/\nv=.int .i64 (aF S j:Int)/\Hid (Kt nO wq W)) (fun _ iv _=>I.np-(intOf iv).toNat)
   case atStart=>exact⟨0,Nat.zero_le _,rfl,rfl,aA (Kt.refl _ _)⟩
   case round=>
    obtain⟨j,hj,rfl,rfl,hJ⟩:=hrel;have IMb:=aA (IMa.out.keep hJ.out);obtain⟨c0,c1,c2,c3,c4,c5,c6,c7,c8⟩:=IMb.out.cells;dsimp only at c5 c8;obtain⟨C,hC⟩:=xe (aF S j);have hCm:C<=1024:=(by rw[hC];exact Nat.le_trans (rK _ _) (Nat.le_trans hj HNP.out));have HCE:=aA hC;rw[<-hC];clear hC;by_cases hjk:j<I.np
    ·have hji:(j:Int)<I.np:=(by omega);have HJK:=aA hjk;have HW2:=aA (show wrap64 ((j:Int)+1)=((j+1:Nat):Int)by have:=HNP.out;rw[wrap64];omega);have HC1:=aA hCm;have HW3:=aA (show wrap64 ((C:Int)+1)=((C+1:Nat):Int)by rw[wrap64];omega);have KJ:=aA hJ.out;obtain⟨b,hb⟩:=xe (S j);have HB:=aA hb;have OPj:=aA (fun W hW=>OPa.out j hjk W hW);rw[<-hb] at OPj;clear hjk hj hJ hb;go_wp2_with fail;refine(OPj.out _ IMb.out.d).mono ?_;rintro e w1 ⟨rfl,k1⟩;have KJ1:=aA (nT KJ.out k1);clear k1 c0 c1 c2 c3 c4 c5 c6 c7 c8
     cases b with
     | false=>
      have C1:=aA (show aF S (j+1)=C by rw[kL _ _ HB.out.symm];exact HCE.out.symm);go_wp2_with fail;exact⟨⟨j+1,HJK.out,by first|go_num|rw[HW2.out],by rw[C1.out],KJ1⟩,by have:=HJK.out;have:=HNP.out;first|(simp[intOf];omega)|(rw[HW2.out];simp only[intOf,Int.toNat_natCast];omega)⟩
     | true=>
      have C1:=aA (show aF S (j+1)=C+1 by rw[lE _ _ HB.out.symm,HCE.out]);go_wp2_with fail;exact⟨⟨j+1,HJK.out,by first|go_num|rw[HW2.out],by rw[C1.out];first|go_num|rw[HW3.out],KJ1⟩,by have:=HJK.out;have:=HNP.out;first|(simp[intOf];omega)|(rw[HW2.out];simp only[intOf,Int.toNat_natCast];omega)⟩
    ·have hji:¬(j:Int)<I.np:=(by omega);have CN:=aA (show aF S I.np=C by rw[HCE.out,show j=I.np by omega]);rw[CN.out] at OKA;have KE:=aA (nT KG.out hJ.out);have hx2:=hJ.out.cell (fun x=>x) HX2.out;have HCM:=aA hCm;have hah:(a:Int)<I.pt.length:=(by have:=HTL.out;have:=HLT.out;omega);clear hjk hj HCE;go_wp2_with fail;clear c0 c1 c2 c3 c4 c5 c6 c7 c8 hx2 hah;obtain⟨wz,hwz⟩:∃ W,W=wr:=⟨_,rfl⟩;rw[<-hwz] at KE IMb;rw[<-hwz];clear hwz hJ;have Q0:=aA (show bQ I a=refL (dec10 I) (-1) (fun i=>(I.pg i).nx) (fun i=>(I.pg i).pv) S C h0 (-1)from OKA.out);go_loopw [6,7,8] (fun pv bv gv W=>∃ (p b:Int) (g d:Nat),g+d=C/\pv=.int .i64 p/\bv=.int .i64 b/\gv=.int .i64 g/\Hid (Kt nO wz W/\bQ I a=refL (dec10 I) (-1) (fun i=>(I.pg i).nx) (fun i=>(I.pg i).pv) S d p b)) (fun _ _ gv _=>C-(intOf gv).toNat)
     case atStart=>exact⟨h0,-1,0,C,by omega,rfl,rfl,rfl,aA ⟨Kt.refl _ _,Q0.out⟩⟩
     case round=>
      obtain⟨p,b,g,d,hgd,rfl,rfl,rfl,hL⟩:=hrel;have IMc:=aA (IMb.out.keep hL.out.1);have KL:=aA hL.out.1;have OKP:=aA hL.out.2;obtain⟨c0,c1,c2,c3,c4,c5,c6,c7,c8⟩:=IMc.out.cells;dsimp only at c5 c8;clear hL;by_cases hgc:g<C
      ·have hgi:(g:Int)<C:=(by omega);obtain⟨d,rfl⟩:∃ d',d=d'+1:=⟨d-1,by omega⟩;have HWG:=aA (show wrap64 ((g:Int)+1)=((g+1:Nat):Int)by have:=HCM.out;rw[wrap64];omega);have GD:=aA (show g+1+d=C/\g<C from⟨by omega,hgc⟩);clear hgd hgc;by_cases p1:p<0
       ·have hdp:dec10 I p=none:=(by unfold dec10;rw[if_neg (by omega)]);have er:=BADA.out (OKP.out.trans (vE hdp));have KE1:=aA (nT KE.out KL.out);clear hdp;subst er;go_wp2_with fail;go_ret;exact⟨rfl,nT K0.out KE1.out⟩
       by_cases p2:p<(I.np:Int)
       case neg=>
        have hdp:dec10 I p=none:=(by unfold dec10;rw[if_neg (by omega)]);have er:=BADA.out (OKP.out.trans (vE hdp));have KE1:=aA (nT KE.out KL.out);have q2:(I.np:Int)<=p:=(by omega);clear hdp;subst er;go_wp2_with fail;go_ret;exact⟨rfl,nT K0.out KE1.out⟩
       obtain⟨i,rfl⟩:=Int.eq_ofNat_of_zero_le (show 0<=p by omega);have hi:i<I.np:=(by omega);have hdp:dec10 I (i:Int)=some i:=(by unfold dec10;rw[if_pos (by omega),Int.toNat_natCast]);have q1:¬(i:Int)<0:=(by omega);have q2:¬(I.np:Int)<=i:=(by omega);have q3:(i:Int)<I.np:=p2;have OKQ:=aA (OKP.out.trans (DH hdp));have OPi:=aA (fun W hW=>OPa.out i hi W hW);obtain⟨sb,hsb⟩:∃ b,b=S i:=⟨_,rfl⟩;rw[<-hsb] at OKQ OPi;have HI:=aA hi;clear hdp hsb hi p1 p2 OKP;go_wp2_with fail;refine(OPi.out _ IMc.out.d).mono ?_;rintro e w2 ⟨rfl,k2⟩;have IMe:=aA (IMc.out.keep k2);have KL2:=aA (nT KL.out k2);clear k2 c0 c1 c2 c3 c4 c5 c6 c7 c8
       cases sb with
       | false=>
        have er:=BADA.out OKQ.out;subst er;have KE2:=aA (nT KE.out KL2.out);go_wp2_with fail;go_ret;exact⟨rfl,nT K0.out KE2.out⟩
       | true=>
        obtain⟨c0,c1,c2,c3,c4,c5,c6,c7,c8⟩:=IMe.out.cells;dsimp only at c5 c8;obtain⟨bl2,oo,oc,hv,-,hpc⟩:=IMe.out.page i HI.out;injection hv with e1 e2 e3
        subst e1;clear e2 e3;obtain⟨d0,d1,d2,d3,d4,d5,d6,d7,d8,d9,d10⟩:=hpc.c;generalize I.pg i=q at *;by_cases h3:q.pv=b
        case neg=>
         have q4:(q.pv != b)=true:=(by rw[bne_iff_ne];exact h3);have er:=BADA.out (by rw[OKQ.out,decide_eq_false h3];rfl);have KE3:=aA (nT KE.out KL2.out);clear h3;subst er;go_wp2_with fail;go_ret;exact⟨rfl,nT K0.out KE3.out⟩
        have q4:(q.pv != b)=false:=(by rw[bne_eq_false_iff_eq];exact h3);have OKS:=aA (OKQ.out.trans (by rw[decide_eq_true h3,Bool.true_and,Bool.true_and]));clear h3;go_wp2_with fail;exact⟨⟨q.nx,(i:Int),g+1,d,GD.out.1,rfl,rfl,by first|go_num|rw[HWG.out],aA ⟨KL2.out,OKS.out⟩⟩,by have:=GD.out.2;have:=HCM.out;first|(simp[intOf];omega)|(rw[HWG.out];simp only[intOf,Int.toNat_natCast];omega)⟩
      ·have hgi:¬(g:Int)<C:=(by omega);obtain rfl:d=0:=(by omega);have KE3:=aA (nT KE.out KL.out);by_cases p0:p = -1
       case neg=>
        have q1:(p != -1)=true:=(by rw[bne_iff_ne];exact p0);have er:=BADA.out (by rw[OKP.out,sF,decide_eq_false p0]);clear p0 hgd hgc;subst er;go_wp2_with fail;go_ret;exact⟨rfl,nT K0.out KE3.out⟩
       have q1:(p != -1)=false:=(by rw[bne_eq_false_iff_eq];exact p0);have EO:=aA (NEXT.out (by rw[OKP.out,sF,decide_eq_true p0]));clear p0 hgd hgc;go_wp2_with fail;go_round
       case rel=>exact⟨a+1,HLT.out,by first|go_num|rw[HW.out],aA ⟨KE3.out,EO.out⟩⟩
       case measure=>have:=HLT.out;first|(simp[intOf];omega)|(rw[HW.out];simp only[intOf,Int.toNat_natCast];omega)
  ·have hai:¬(a:Int)<8:=(by omega);have er:=GOOD.out (fun j hj=>hG.out.2 j (by omega));subst er;go_wp2_with fail;go_ret;exact⟨rfl,nT K0.out hG.out.1⟩
set_option maxHeartbeats 8000000
set_option maxRecDepth 6000
theorem OB(I:Img)(V:ImV)(pl:Int)(w:World)(hI:ImD w I V)(hcl:∀ W,ImD W I V->Calls prog 101 #[imA I V] W fun e w'=>e=.returned (.int .i64 pl)/\Kt nO W w'):
  Calls prog 70 #[imA I V,.int .i64 2] w fun e w'=>e=.returned (.int .i64 pl)/\Kt nO w w':=by
 obtain⟨⟨ma,mc,hm⟩,⟨pa,pc,hp⟩,⟨ra,rc,hr⟩,⟨ha,hc,hh⟩,⟨ta,tc,ht⟩,-⟩:=hI.sl;obtain⟨vm,vp,vr,vh,vt⟩:=V;dsimp only at hm hp hr hh ht;subst hm hp hr hh ht;have IM0:=aA (show ImAt (w.alloc (aE I _)) w.heap.size I _ from⟨nH _ _,hI.keep ((Kt.refl _ w).alloc _)⟩);have K0:=aA (show Kt nO w (w.alloc (aE I _))from(Kt.refl _ w).alloc (aE I ⟨.slice ma I.nm mc,.slice pa I.np pc,.slice ra I.no rc,.slice ha I.hd.length hc,.slice ta I.pt.length tc⟩));obtain⟨c0,c1,c2,c3,c4,c5,c6,c7,c8⟩:=IM0.out.cells;have CC:=aA hcl;clear hI hcl;go_enter func70,ntmps70;go_wp2_with fail;refine(CC.out _ IM0.out.d).mono ?_;rintro e w1 ⟨rfl,k1⟩;have K1:=aA (nT K0.out k1);clear k1 c0 c1 c2 c3 c4 c5 c6 c7 c8;go_wp2_with fail;go_ret;exact⟨rfl,K1.out⟩
theorem OA(I:Img)(V:ImV)(pl:Int)(w:World)(hI:ImD w I V)(hcl:∀ W,ImD W I V->Calls prog 102 #[imA I V] W fun e w'=>e=.returned (.int .i64 pl)/\Kt nO W w'):
  Calls prog 70 #[imA I V,.int .i64 3] w fun e w'=>e=.returned (.int .i64 pl)/\Kt nO w w':=by
 obtain⟨⟨ma,mc,hm⟩,⟨pa,pc,hp⟩,⟨ra,rc,hr⟩,⟨ha,hc,hh⟩,⟨ta,tc,ht⟩,-⟩:=hI.sl;obtain⟨vm,vp,vr,vh,vt⟩:=V;dsimp only at hm hp hr hh ht;subst hm hp hr hh ht;have IM0:=aA (show ImAt (w.alloc (aE I _)) w.heap.size I _ from⟨nH _ _,hI.keep ((Kt.refl _ w).alloc _)⟩);have K0:=aA (show Kt nO w (w.alloc (aE I _))from(Kt.refl _ w).alloc (aE I ⟨.slice ma I.nm mc,.slice pa I.np pc,.slice ra I.no rc,.slice ha I.hd.length hc,.slice ta I.pt.length tc⟩));obtain⟨c0,c1,c2,c3,c4,c5,c6,c7,c8⟩:=IM0.out.cells;have CC:=aA hcl;clear hI hcl;go_enter func70,ntmps70;go_wp2_with fail;refine(CC.out _ IM0.out.d).mono ?_;rintro e w1 ⟨rfl,k1⟩;have K1:=aA (nT K0.out k1);clear k1 c0 c1 c2 c3 c4 c5 c6 c7 c8;go_wp2_with fail;go_ret;exact⟨rfl,K1.out⟩
theorem NV(I:Img)(V:ImV)(pl:Int)(w:World)(hI:ImD w I V)(hcl:∀ W,ImD W I V->Calls prog 103 #[imA I V] W fun e w'=>e=.returned (.int .i64 pl)/\Kt nO W w'):
  Calls prog 70 #[imA I V,.int .i64 4] w fun e w'=>e=.returned (.int .i64 pl)/\Kt nO w w':=by
 obtain⟨⟨ma,mc,hm⟩,⟨pa,pc,hp⟩,⟨ra,rc,hr⟩,⟨ha,hc,hh⟩,⟨ta,tc,ht⟩,-⟩:=hI.sl;obtain⟨vm,vp,vr,vh,vt⟩:=V;dsimp only at hm hp hr hh ht;subst hm hp hr hh ht;have IM0:=aA (show ImAt (w.alloc (aE I _)) w.heap.size I _ from⟨nH _ _,hI.keep ((Kt.refl _ w).alloc _)⟩);have K0:=aA (show Kt nO w (w.alloc (aE I _))from(Kt.refl _ w).alloc (aE I ⟨.slice ma I.nm mc,.slice pa I.np pc,.slice ra I.no rc,.slice ha I.hd.length hc,.slice ta I.pt.length tc⟩));obtain⟨c0,c1,c2,c3,c4,c5,c6,c7,c8⟩:=IM0.out.cells;have CC:=aA hcl;clear hI hcl;go_enter func70,ntmps70;go_wp2_with fail;refine(CC.out _ IM0.out.d).mono ?_;rintro e w1 ⟨rfl,k1⟩;have K1:=aA (nT K0.out k1);clear k1 c0 c1 c2 c3 c4 c5 c6 c7 c8;go_wp2_with fail;go_ret;exact⟨rfl,K1.out⟩
theorem NR(I:Img)(V:ImV)(pl:Int)(w:World)(hI:ImD w I V)(hcl:∀ W,ImD W I V->Calls prog 104 #[imA I V] W fun e w'=>e=.returned (.int .i64 pl)/\Kt nO W w'):
  Calls prog 70 #[imA I V,.int .i64 5] w fun e w'=>e=.returned (.int .i64 pl)/\Kt nO w w':=by
 obtain⟨⟨ma,mc,hm⟩,⟨pa,pc,hp⟩,⟨ra,rc,hr⟩,⟨ha,hc,hh⟩,⟨ta,tc,ht⟩,-⟩:=hI.sl;obtain⟨vm,vp,vr,vh,vt⟩:=V;dsimp only at hm hp hr hh ht;subst hm hp hr hh ht;have IM0:=aA (show ImAt (w.alloc (aE I _)) w.heap.size I _ from⟨nH _ _,hI.keep ((Kt.refl _ w).alloc _)⟩);have K0:=aA (show Kt nO w (w.alloc (aE I _))from(Kt.refl _ w).alloc (aE I ⟨.slice ma I.nm mc,.slice pa I.np pc,.slice ra I.no rc,.slice ha I.hd.length hc,.slice ta I.pt.length tc⟩));obtain⟨c0,c1,c2,c3,c4,c5,c6,c7,c8⟩:=IM0.out.cells;have CC:=aA hcl;clear hI hcl;go_enter func70,ntmps70;go_wp2_with fail;refine(CC.out _ IM0.out.d).mono ?_;rintro e w1 ⟨rfl,k1⟩;have K1:=aA (nT K0.out k1);clear k1 c0 c1 c2 c3 c4 c5 c6 c7 c8;go_wp2_with fail;go_ret;exact⟨rfl,K1.out⟩
theorem NQ(I:Img)(V:ImV)(pl:Int)(w:World)(hI:ImD w I V)(hcl:∀ W,ImD W I V->Calls prog 105 #[imA I V] W fun e w'=>e=.returned (.int .i64 pl)/\Kt nO W w'):
  Calls prog 70 #[imA I V,.int .i64 6] w fun e w'=>e=.returned (.int .i64 pl)/\Kt nO w w':=by
 obtain⟨⟨ma,mc,hm⟩,⟨pa,pc,hp⟩,⟨ra,rc,hr⟩,⟨ha,hc,hh⟩,⟨ta,tc,ht⟩,-⟩:=hI.sl;obtain⟨vm,vp,vr,vh,vt⟩:=V;dsimp only at hm hp hr hh ht;subst hm hp hr hh ht;have IM0:=aA (show ImAt (w.alloc (aE I _)) w.heap.size I _ from⟨nH _ _,hI.keep ((Kt.refl _ w).alloc _)⟩);have K0:=aA (show Kt nO w (w.alloc (aE I _))from(Kt.refl _ w).alloc (aE I ⟨.slice ma I.nm mc,.slice pa I.np pc,.slice ra I.no rc,.slice ha I.hd.length hc,.slice ta I.pt.length tc⟩));obtain⟨c0,c1,c2,c3,c4,c5,c6,c7,c8⟩:=IM0.out.cells;have CC:=aA hcl;clear hI hcl;go_enter func70,ntmps70;go_wp2_with fail;refine(CC.out _ IM0.out.d).mono ?_;rintro e w1 ⟨rfl,k1⟩;have K1:=aA (nT K0.out k1);clear k1 c0 c1 c2 c3 c4 c5 c6 c7 c8;go_wp2_with fail;go_ret;exact⟨rfl,K1.out⟩
theorem NN(I:Img)(V:ImV)(pl:Int)(w:World)(hI:ImD w I V)(hcl:∀ W,ImD W I V->Calls prog 106 #[imA I V] W fun e w'=>e=.returned (.int .i64 pl)/\Kt nO W w'):
  Calls prog 70 #[imA I V,.int .i64 7] w fun e w'=>e=.returned (.int .i64 pl)/\Kt nO w w':=by
 obtain⟨⟨ma,mc,hm⟩,⟨pa,pc,hp⟩,⟨ra,rc,hr⟩,⟨ha,hc,hh⟩,⟨ta,tc,ht⟩,-⟩:=hI.sl;obtain⟨vm,vp,vr,vh,vt⟩:=V;dsimp only at hm hp hr hh ht;subst hm hp hr hh ht;have IM0:=aA (show ImAt (w.alloc (aE I _)) w.heap.size I _ from⟨nH _ _,hI.keep ((Kt.refl _ w).alloc _)⟩);have K0:=aA (show Kt nO w (w.alloc (aE I _))from(Kt.refl _ w).alloc (aE I ⟨.slice ma I.nm mc,.slice pa I.np pc,.slice ra I.no rc,.slice ha I.hd.length hc,.slice ta I.pt.length tc⟩));obtain⟨c0,c1,c2,c3,c4,c5,c6,c7,c8⟩:=IM0.out.cells;have CC:=aA hcl;clear hI hcl;go_enter func70,ntmps70;go_wp2_with fail;refine(CC.out _ IM0.out.d).mono ?_;rintro e w1 ⟨rfl,k1⟩;have K1:=aA (nT K0.out k1);clear k1 c0 c1 c2 c3 c4 c5 c6 c7 c8;go_wp2_with fail;go_ret;exact⟨rfl,K1.out⟩
theorem NK(I:Img)(V:ImV)(pl:Int)(w:World)(hI:ImD w I V)(hcl:∀ W,ImD W I V->Calls prog 107 #[imA I V] W fun e w'=>e=.returned (.int .i64 pl)/\Kt nO W w'):
  Calls prog 70 #[imA I V,.int .i64 8] w fun e w'=>e=.returned (.int .i64 pl)/\Kt nO w w':=by
 obtain⟨⟨ma,mc,hm⟩,⟨pa,pc,hp⟩,⟨ra,rc,hr⟩,⟨ha,hc,hh⟩,⟨ta,tc,ht⟩,-⟩:=hI.sl;obtain⟨vm,vp,vr,vh,vt⟩:=V;dsimp only at hm hp hr hh ht;subst hm hp hr hh ht;have IM0:=aA (show ImAt (w.alloc (aE I _)) w.heap.size I _ from⟨nH _ _,hI.keep ((Kt.refl _ w).alloc _)⟩);have K0:=aA (show Kt nO w (w.alloc (aE I _))from(Kt.refl _ w).alloc (aE I ⟨.slice ma I.nm mc,.slice pa I.np pc,.slice ra I.no rc,.slice ha I.hd.length hc,.slice ta I.pt.length tc⟩));obtain⟨c0,c1,c2,c3,c4,c5,c6,c7,c8⟩:=IM0.out.cells;have CC:=aA hcl;clear hI hcl;go_enter func70,ntmps70;go_wp2_with fail;refine(CC.out _ IM0.out.d).mono ?_;rintro e w1 ⟨rfl,k1⟩;have K1:=aA (nT K0.out k1);clear k1 c0 c1 c2 c3 c4 c5 c6 c7 c8;go_wp2_with fail;go_ret;exact⟨rfl,K1.out⟩
theorem NJ(I:Img)(V:ImV)(pl:Int)(w:World)(hI:ImD w I V)(hcl:∀ W,ImD W I V->Calls prog 108 #[imA I V] W fun e w'=>e=.returned (.int .i64 pl)/\Kt nO W w'):
  Calls prog 70 #[imA I V,.int .i64 9] w fun e w'=>e=.returned (.int .i64 pl)/\Kt nO w w':=by
 obtain⟨⟨ma,mc,hm⟩,⟨pa,pc,hp⟩,⟨ra,rc,hr⟩,⟨ha,hc,hh⟩,⟨ta,tc,ht⟩,-⟩:=hI.sl;obtain⟨vm,vp,vr,vh,vt⟩:=V;dsimp only at hm hp hr hh ht;subst hm hp hr hh ht;have IM0:=aA (show ImAt (w.alloc (aE I _)) w.heap.size I _ from⟨nH _ _,hI.keep ((Kt.refl _ w).alloc _)⟩);have K0:=aA (show Kt nO w (w.alloc (aE I _))from(Kt.refl _ w).alloc (aE I ⟨.slice ma I.nm mc,.slice pa I.np pc,.slice ra I.no rc,.slice ha I.hd.length hc,.slice ta I.pt.length tc⟩));obtain⟨c0,c1,c2,c3,c4,c5,c6,c7,c8⟩:=IM0.out.cells;have CC:=aA hcl;clear hI hcl;go_enter func70,ntmps70;go_wp2_with fail;refine(CC.out _ IM0.out.d).mono ?_;rintro e w1 ⟨rfl,k1⟩;have K1:=aA (nT K0.out k1);clear k1 c0 c1 c2 c3 c4 c5 c6 c7 c8;go_wp2_with fail;go_ret;exact⟨rfl,K1.out⟩
theorem SU(I:Img)(V:ImV)(pl:Int)(w:World)(hI:ImD w I V)(hcl:∀ W,ImD W I V->Calls prog 109 #[imA I V] W fun e w'=>e=.returned (.int .i64 pl)/\Kt nO W w'):
  Calls prog 70 #[imA I V,.int .i64 10] w fun e w'=>e=.returned (.int .i64 pl)/\Kt nO w w':=by
 obtain⟨⟨ma,mc,hm⟩,⟨pa,pc,hp⟩,⟨ra,rc,hr⟩,⟨ha,hc,hh⟩,⟨ta,tc,ht⟩,-⟩:=hI.sl;obtain⟨vm,vp,vr,vh,vt⟩:=V;dsimp only at hm hp hr hh ht;subst hm hp hr hh ht;have IM0:=aA (show ImAt (w.alloc (aE I _)) w.heap.size I _ from⟨nH _ _,hI.keep ((Kt.refl _ w).alloc _)⟩);have K0:=aA (show Kt nO w (w.alloc (aE I _))from(Kt.refl _ w).alloc (aE I ⟨.slice ma I.nm mc,.slice pa I.np pc,.slice ra I.no rc,.slice ha I.hd.length hc,.slice ta I.pt.length tc⟩));obtain⟨c0,c1,c2,c3,c4,c5,c6,c7,c8⟩:=IM0.out.cells;have CC:=aA hcl;clear hI hcl;go_enter func70,ntmps70;go_wp2_with fail;refine(CC.out _ IM0.out.d).mono ?_;rintro e w1 ⟨rfl,k1⟩;have K1:=aA (nT K0.out k1);clear k1 c0 c1 c2 c3 c4 c5 c6 c7 c8;go_wp2_with fail;go_ret;exact⟨rfl,K1.out⟩
theorem SS(I:Img)(V:ImV)(pl:Int)(w:World)(hI:ImD w I V)(hcl:∀ W,ImD W I V->Calls prog 110 #[imA I V] W fun e w'=>e=.returned (.int .i64 pl)/\Kt nO W w'):
  Calls prog 70 #[imA I V,.int .i64 11] w fun e w'=>e=.returned (.int .i64 pl)/\Kt nO w w':=by
 obtain⟨⟨ma,mc,hm⟩,⟨pa,pc,hp⟩,⟨ra,rc,hr⟩,⟨ha,hc,hh⟩,⟨ta,tc,ht⟩,-⟩:=hI.sl;obtain⟨vm,vp,vr,vh,vt⟩:=V;dsimp only at hm hp hr hh ht;subst hm hp hr hh ht;have IM0:=aA (show ImAt (w.alloc (aE I _)) w.heap.size I _ from⟨nH _ _,hI.keep ((Kt.refl _ w).alloc _)⟩);have K0:=aA (show Kt nO w (w.alloc (aE I _))from(Kt.refl _ w).alloc (aE I ⟨.slice ma I.nm mc,.slice pa I.np pc,.slice ra I.no rc,.slice ha I.hd.length hc,.slice ta I.pt.length tc⟩));obtain⟨c0,c1,c2,c3,c4,c5,c6,c7,c8⟩:=IM0.out.cells;have CC:=aA hcl;clear hI hcl;go_enter func70,ntmps70;go_wp2_with fail;refine(CC.out _ IM0.out.d).mono ?_;rintro e w1 ⟨rfl,k1⟩;have K1:=aA (nT K0.out k1);clear k1 c0 c1 c2 c3 c4 c5 c6 c7 c8;go_wp2_with fail;go_ret;exact⟨rfl,K1.out⟩
theorem vW(I:Img)(V:ImV)(j:Nat)(hj1 : 1<=j)(hj:j<11)(h:∀ a,a<j->rl I a=none)(w:World)(hI:ImD w I V):
  Calls prog 70 #[imA I V,.int .i64 ((j+1:Nat):Int)] w fun e w'=>e=.returned (.int .i64 (dY (rl I j)))/\Kt nO w w':=by
 match j,hj1,hj with
 | 1,_,_=>
  obtain⟨k,L,hk,hL,k8,L64,-⟩:=may_facts (oY (h 0 (by decide)));have e:rl I 1=r2 I k:=by show r2 I I.ord.toNat=_;rw[hk,Int.toNat_natCast]
  rw[e];exact OB I V _ w hI (fun W hW=>WT I V k L k8 L64 hk hL W hW)
 | 2,_,_=>
  obtain⟨k,L,hk,hL,k8,L64,hLk,-⟩:=may_facts (oY (h 0 (by decide)));have hnp:I.np<=1024:=by
   have hr:r2 I k=none:=(by have:=h 1 (by decide);rw[show rl I 1=r2 I I.ord.toNat from rfl,hk,Int.toNat_natCast] at this;exact this);unfold r2 at hr;by_cases c1:wiB I.reg 0 I.lim=false
   ·rw[if_pos c1] at hr;cases hr
   rw[if_neg c1] at hr;by_cases c2:I.nm≠I.reg.toNat*2 ^ k*4096
   ·rw[if_pos c2] at hr;cases hr
   rw[if_neg c2] at hr;by_cases c3:I.np≠I.reg.toNat*2 ^ k
   ·rw[if_pos c3] at hr;cases hr
   have c1' : 0<=I.reg/\I.reg<=I.lim:=by
    have:wiB I.reg 0 I.lim=true:=by simpa using c1
    unfold wiB at this;exact of_decide_eq_true this
   have hnp:I.np=I.reg.toNat*2 ^ k:=Decidable.not_not.1 c3;have hle:I.np<=L*2 ^ k:=(by rw[hnp];exact Nat.mul_le_mul_right _ (by omega));omega
  exact OA I V _ w hI (fun W hW=>TH I V hnp W hW)
 | 3,_,_=>
  obtain⟨r,hS⟩:=sn9_of (h 0 (by decide)) (h 1 (by decide)) (h 2 (by decide));exact NV I V _ w hI (fun W hW=>GY I V I.ord.toNat r hS W hW)
 | 4,_,_=>
  obtain⟨r,hS⟩:=sn9_of (h 0 (by decide)) (h 1 (by decide)) (h 2 (by decide));exact NR I V _ w hI (fun W hW=>IK I V I.ord.toNat r hS W hW)
 | 5,_,_=>
  obtain⟨r,hS⟩:=sn9_of (h 0 (by decide)) (h 1 (by decide)) (h 2 (by decide));exact NQ I V _ w hI (fun W hW=>MB I V I.ord.toNat r hS W hW)
 | 6,_,_=>
  obtain⟨r,hS⟩:=sn9_of (h 0 (by decide)) (h 1 (by decide)) (h 2 (by decide));exact NN I V _ w hI (fun W hW=>SY I V I.ord.toNat r hS W hW)
 | 7,_,_=>
  obtain⟨r,hS⟩:=sn9_of (h 0 (by decide)) (h 1 (by decide)) (h 2 (by decide));exact NK I V _ w hI (fun W hW=>JU I V I.ord.toNat r hS W hW)
 | 8,_,_=>
  obtain⟨r,hS⟩:=sn9_of (h 0 (by decide)) (h 1 (by decide)) (h 2 (by decide));exact NJ I V _ w hI (fun W hW=>OC I V I.ord.toNat r hS (h 4 (by decide)) W hW)
 | 9,_,_=>
  obtain⟨r,hS⟩:=sn9_of (h 0 (by decide)) (h 1 (by decide)) (h 2 (by decide));exact SU I V _ w hI (fun W hW=>YU I V I.ord.toNat r hS (h 4 (by decide)) W hW)
 | 10,_,_=>
  obtain⟨r,hS⟩:=sn9_of (h 0 (by decide)) (h 1 (by decide)) (h 2 (by decide));exact SS I V _ w hI (fun W hW=>FW I V I.ord.toNat r hS W hW)
theorem PH(I:Img)(V:ImV)(w:World)(hI:ImD w I V):
  Calls prog 30 #[imA I V] w fun e w'=>e=.returned (.tuple #[.int .i64 ((chk I).1:Int),.int .i64 ((chk I).2:Int)])/\Kt nO w w':=by
 have hb64:=hI.b64;obtain⟨hl1,hl2⟩:=hI.lim;obtain⟨ho1,ho2⟩:=hI.ord;obtain⟨⟨ma,mc,hm⟩,⟨pa,pc,hp⟩,⟨ra,rc,hr⟩,⟨ha,hc,hh⟩,⟨ta,tc,ht⟩,-⟩:=hI.sl;obtain⟨vm,vp,vr,vh,vt⟩:=V;dsimp only at hm hp hr hh ht;subst hm hp hr hh ht;have IM0:=aA (show ImAt (w.alloc (aE I _)) w.heap.size I _ from⟨nH _ _,hI.keep ((Kt.refl _ w).alloc _)⟩);have K0:=aA (show Kt nO w (w.alloc (aE I _))from(Kt.refl _ w).alloc (aE I ⟨.slice ma I.nm mc,.slice pa I.np pc,.slice ra I.no rc,.slice ha I.hd.length hc,.slice ta I.pt.length tc⟩));obtain⟨c0,c1,c2,c3,c4,c5,c6,c7,c8⟩:=IM0.out.cells;have MAY:=aA (fun W=>(M.May_any I.bS hb64 I.lim I.ord hl1 hl2 ho1 ho2 W).mono (fun e w' (h:e=.returned (.bool (M.mayB I.bS I.lim I.ord))/\M.Kt M.nO W w')=>(⟨h.1,qG h.2⟩:e=.returned (.bool (M.mayB I.bS I.lim I.ord))/\Kt nO W w')));have ONE:=aA (fun j hj1 hj h W hW=>vW I ⟨.slice ma I.nm mc,.slice pa I.np pc,.slice ra I.no rc,.slice ha I.hd.length hc,.slice ta I.pt.length tc⟩ j hj1 hj h W hW);obtain⟨r1,hr1⟩:∃ r,r=(chk I).1:=⟨_,rfl⟩;obtain⟨r2',hr2⟩:∃ r,r=(chk I).2:=⟨_,rfl⟩;rw[<-hr1,<-hr2];have FB:=aA (show ∀ j p,j<11->(∀ a,a<j->rl I a=none)->rl I j=some p->j+1=r1/\p=r2' from fun j p h1 h2 h3=>by rw[hr1,hr2,zB h1 h2 h3];exact⟨rfl,rfl⟩);have FG:=aA (show(∀ a,a<11->rl I a=none)->0=r1/\0=r2' from fun h=>by rw[hr1,hr2,chk_ok h];exact⟨rfl,rfl⟩);have R0:=aA (show rl I 0=if M.mayB I.bS I.lim I.ord=true then none else some 0 from rfl);obtain⟨mb,hmb⟩:∃ b,b=M.mayB I.bS I.lim I.ord:=⟨_,rfl⟩;rw[<-hmb] at MAY R0;clear hI hr1 hr2 hmb hb64 hl1 hl2 ho1 ho2;go_enter func30,ntmps30;go_wp2_with fail;refine(MAY.out _).mono ?_;rintro e w1 ⟨rfl,k1⟩;have IM1:=aA (IM0.out.keep k1);have K1:=aA (nT K0.out k1);clear k1 c0 c1 c2 c3 c4 c5 c6 c7 c8;generalize w.heap.size=ib at *;generalize w.alloc (aE I ⟨.slice ma I.nm mc,.slice pa I.np pc,.slice ra I.no rc,.slice ha I.hd.length hc,.slice ta I.pt.length tc⟩)=W0 at *
 cases mb with
 | false=>
  obtain⟨e1,e2⟩:=FB.out 0 0 (by decide) (fun a ha=>by omega) (by rw[R0.out];rfl);subst e1 e2;go_wp2_with fail;go_ret2;exact⟨rfl,K1.out⟩
 | true=>
  have N0:=aA (show rl I 0=none by rw[R0.out];rfl);go_wp2_with fail;go_loopw [4] (fun iv W=>∃ r:Nat,2<=r/\r<=12/\iv=.int .i64 r/\Hid (Kt nO w1 W/\∀ a,a+1<r->rl I a=none)) (fun iv _=>12-(intOf iv).toNat)
  case atStart=>exact⟨2,by decide,by decide,rfl,aA ⟨Kt.refl _ _,fun a ha=>by rw[show a=0 by omega];exact N0.out⟩⟩
  case round=>
   obtain⟨r,hr2,hr12,rfl,hG⟩:=hrel;have KG:=aA hG.out.1;have PREV:=aA hG.out.2;have IMa:=aA (IM1.out.keep KG.out);obtain⟨c0,c1,c2,c3,c4,c5,c6,c7,c8⟩:=IMa.out.cells;clear hG;by_cases hlt:r<=11
   ·have hri:(r:Int)<=11:=(by omega);obtain⟨j,rfl⟩:∃ j,r=j+1:=⟨r-1,by omega⟩;have ONEj:=aA (fun W hW=>ONE.out j (by omega) (by omega) (fun a ha=>PREV.out a (by omega)) W hW);obtain⟨r,hr⟩:=xe (j+1);rw[<-hr] at ONEj hri hr2;rw[<-hr];have HRE:=aA (show r=j+1/\r<=11 from⟨hr,by omega⟩);have HW:=aA (show wrap64 ((r:Int)+1)=((r+1:Nat):Int)by rw[wrap64];omega);obtain⟨x,hx⟩:=xe (rl I j);rw[<-hx] at ONEj;have HX:=aA hx.symm;clear hr hx hlt hr12;go_wp2_with fail;refine(ONEj.out _ IMa.out.d).mono ?_;rintro e w2 ⟨rfl,k2⟩;have K2:=aA (nT KG.out k2);clear k2 c0 c1 c2 c3 c4 c5 c6 c7 c8
    cases x with
    | none=>
     have P2:=aA (show ∀ a,a+1<r+1->rl I a=none from fun a ha=>by
      by_cases e:a=j
      ·rw[e];exact HX.out
      ·exact PREV.out a (by have:=HRE.out;omega))
     have q1:¬(0:Int)<=dY none:=(by decide);have q2:dY none = -1:=rfl;rw[q2];clear q1 q2;go_wp2_with fail;exact⟨⟨r+1,by omega,by have:=HRE.out;omega,by first|go_num|rw[HW.out],aA ⟨K2.out,P2.out⟩⟩,by have:=HRE.out;first|(rw[HW.out];simp only[intOf,Int.toNat_natCast];omega)|(simp[intOf];omega)⟩
    | some p=>
     rw[show dY (some p)=(p:Int)from rfl];have q1:(0:Int)<=(p:Int):=(by omega);obtain⟨e1,e2⟩:=FB.out j p (by have:=HRE.out;omega) (fun a ha=>PREV.out a (by have:=HRE.out;omega)) HX.out;rw[<-HRE.out.1] at e1;subst e1 e2;go_wp2_with fail;go_ret2;exact⟨rfl,nT K1.out K2.out⟩
   ·have hri:¬(r:Int)<=11:=(by omega);obtain⟨e1,e2⟩:=FG.out (fun a ha=>PREV.out a (by omega));subst e1 e2;go_wp2_with fail;go_ret2;exact⟨rfl,nT K1.out KG.out⟩
set_option maxHeartbeats 8000000
set_option maxRecDepth 6000
end Go.Proofs.YtkfmheelhinjdaaGreatDoor.W
