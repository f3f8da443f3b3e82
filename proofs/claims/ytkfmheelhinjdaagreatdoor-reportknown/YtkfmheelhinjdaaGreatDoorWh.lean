import Derived.Test.YtkfmheelhinjdaaGreatDoorWa
import Derived.DeepKeys4
import Derived.Laws.IdiomStrings
import Derived.Lib.UnsafeStr
set_option maxRecDepth 1000000
set_option maxHeartbeats 80000000
namespace Go.Proofs.YtkfmheelhinjdaaGreatDoor.W
open _root_.Go.Proofs.Tryz
open Go.RowKit
set_option linter.unusedVariables false
set_option maxHeartbeats 8000000
set_option maxRecDepth 6000
abbrev eU(n:Nat):Value:=.int .u64 n
abbrev gI(n:Nat):Prop:=n<18446744073709551616
theorem pS(n:Nat)(hn:n<18446744073709551616):(Lit.int .u64 n).wf=true:=by
 simp[Lit.wf,IntKind.min,IntKind.max,IntKind.signed,IntKind.bits];omega
theorem mS:KT 27 eU gI:=
 ⟨Maps.int_keyed Tryz.underlying27,fun a h=>⟨_,Maps.keyOf_int_mk Tryz.underlying27 (pS a h)⟩,fun a b _ _ e=>by injection e with _ e;omega⟩
theorem wC:laidOutB prog=true:=by kernel_rfl
theorem wZ:∃ m,prog.types.size=m+1:=⟨prog.types.size-1,by have : 0<prog.types.size:=of_decide_eq_true (by kernel_rfl);omega⟩
theorem vO{m:Nat}(n:Nat)(h:n<18446744073709551616):prog.keyLits (m+1) 27 [.int .u64 n]=some [.int .u64 n]:=by
 unfold Program.keyLits;rw[Tryz.underlying27];exact if_pos ⟨rfl,pS n h⟩
theorem qG{m:Nat}(n:Int)(h:N64 n):prog.keyLits (m+1) 3 [.int .i64 n]=some [.int .i64 n]:=by
 unfold Program.keyLits;rw[Tryz.underlying3];refine if_pos ⟨rfl,?_⟩;simp[Lit.wf,IntKind.min,IntKind.max,IntKind.signed,IntKind.bits];exact h
abbrev eB(b:Nat×Nat):Value:=.agg #[.int .u64 b.1,.int .u64 b.2]
abbrev fY(b:Nat×Nat):Prop:=gI b.1/\gI b.2
theorem jR:KT 45 eB fY:=by
 refine⟨Maps.Keyed.of_law (deep_law_laid wC (m:=2) (by omega) (of_decide_eq_true (by kernel_rfl)) (by kernel_rfl) (by kernel_rfl)),fun a h=>?_,fun a b _ _ e=>?_⟩
 ·obtain⟨m,hm⟩:=wZ;have f1:(eB a).formed prog 45=true:=by
   simp only[Value.formed,Tryz.underlying45];exact decide_eq_true (by kernel_rfl)
  have k1:prog.keyType 45=true:=by kernel_rfl
  unfold keyOf;rw[Tryz.underlying45];simp only[f1,k1,Bool.and_self,if_true];have c2:prog.cellsOf 45=2:=by kernel_rfl
  have c1:prog.cellsOf 27=1:=by kernel_rfl
  have key:prog.keyLits (prog.types.size+1) 45 (eB a).cells.toList=some [.int .u64 a.1,.int .u64 a.2]:=by
   rw[hm];unfold Program.keyLits;rw[Tryz.underlying45];simp[Value.cells,c2,c1,vO _ h.1,vO _ h.2]
  rw[key];exact⟨_,rfl⟩
 ·injection e with e
  simp only[Array.mk.injEq,List.cons.injEq,Value.int.injEq,true_and,and_true] at e;exact Prod.ext (by omega) (by omega)
abbrev fL:=Int×Int×Int×Int
abbrev eS(s:fL):Value:=.agg #[.int .i64 s.1,.int .i64 s.2.1,.int .i64 s.2.2.1,.int .i64 s.2.2.2]
abbrev iA(s:fL):Prop:=N64 s.1/\N64 s.2.1/\N64 s.2.2.1/\N64 s.2.2.2
theorem qF:KT 101 eS iA:=by
 refine⟨Maps.Keyed.of_law (deep_law_laid wC (m:=2) (by omega) (of_decide_eq_true (by kernel_rfl)) (by kernel_rfl) (by kernel_rfl)),fun a h=>?_,fun a b _ _ e=>?_⟩
 ·obtain⟨m,hm⟩:=wZ;have f1:(eS a).formed prog 101=true:=by
   simp only[Value.formed,Tryz.underlying101];exact decide_eq_true (by kernel_rfl)
  have k1:prog.keyType 101=true:=by kernel_rfl
  unfold keyOf;rw[Tryz.underlying101];simp only[f1,k1,Bool.and_self,if_true];have c2:prog.cellsOf 101=4:=by kernel_rfl
  have c1:prog.cellsOf 3=1:=by kernel_rfl
  have key:prog.keyLits (prog.types.size+1) 101 (eS a).cells.toList=some [.int .i64 a.1,.int .i64 a.2.1,.int .i64 a.2.2.1,.int .i64 a.2.2.2]:=by
   rw[hm];unfold Program.keyLits;rw[Tryz.underlying101];simp[Value.cells,c2,c1,qG _ h.1,qG _ h.2.1,qG _ h.2.2.1,qG _ h.2.2.2]
  rw[key];exact⟨_,rfl⟩
 ·injection e with e
  simp only[Array.mk.injEq,List.cons.injEq,Value.int.injEq,true_and,and_true] at e;obtain⟨e1,e2,e3,e4⟩:=e;exact Prod.ext e1 (Prod.ext e2 (Prod.ext e3 e4))
abbrev cE(p:Pg):fL:=(p.kd,p.od,p.cl,p.lv)
theorem yX(p:Pg)(W:World):Calls prog 49 #[fF p] W fun e w'=>e=.returned (eS (cE p))/\Kt nO W w':=by
 obtain⟨kd,od,cl,lv,nx,pv,fs,b0,b1,b2,b3⟩:=p;go_enter func49,ntmps49;go_wp2
 exact⟨rfl,_,by simp[results,results49,go_sem],rfl,((Kt.refl _ W).alloc _).alloc _⟩
theorem TY(b:Nat×Nat)(W:World):Calls prog 59 #[eB b] W fun e w'=>e=.returned (eB b)/\Kt nO W w':=by
 go_enter func59,ntmps59;go_wp2
 exact⟨rfl,_,by simp[results,results59,go_sem],rfl,((Kt.refl _ W).alloc _).alloc _⟩
set_option maxHeartbeats 8000000
set_option maxRecDepth 6000
theorem tX(I:Img)(V:ImV)(w:World)(hI:ImD w I V):
  Calls prog 47 #[imA I V] w fun e w'=>e=.returned (.bool ((chk I).1 == 0))/\Kt nO w w':=by
 obtain⟨⟨ma,mc,hm⟩,⟨pa,pc,hp⟩,⟨ra,rc,hr⟩,⟨ha,hc,hh⟩,⟨ta,tc,ht⟩,-⟩:=hI.sl;have HCK:=aA (VA I V (w.alloc (cA I V)) (hI.keep ((Kt.refl _ w).alloc _)));have K0:=aA (show Kt nO w (w.alloc (cA I V))from(Kt.refl _ w).alloc _);obtain⟨ru,hru⟩:=xe ((chk I).1);obtain⟨pl,hpl⟩:=xe ((chk I).2);rw[<-hru,<-hpl] at HCK;rw[<-hru];show Calls prog 47 #[.agg #[.int .u64 I.bS,.int .i64 I.lim,.int .i64 I.ord,.int .i64 I.reg,V.m,V.p,V.r,V.h,V.t]] w _
 rw[hm,hp,hr,hh,ht] at HCK ⊢;have EW:=aA (show(w.alloc (.cells #[.int .u64 I.bS,.int .i64 I.lim,.int .i64 I.ord,.int .i64 I.reg,.slice ma I.nm mc,.slice pa I.np pc,.slice ra I.no rc,.slice ha I.hd.length hc,.slice ta I.pt.length tc] 38 (0,0)))=w.alloc (cA I V)by rw[<-hm,<-hp,<-hr,<-hh,<-ht]);clear hm hp hr hh ht hI hru hpl;have hz:((ru:Int) == 0)=(ru == 0):=by rw[Bool.eq_iff_iff,beq_iff_eq,beq_iff_eq];omega
 go_enter func47,ntmps47;go_wp2_with fail;rw[EW.out];refine HCK.out.mono ?_;rintro e w1 ⟨rfl,hk1⟩;have K1:=aA (nT K0.out hk1);clear hk1 EW K0;generalize w.alloc (cA I V)=W0 at *;go_wp2_with fail;go_ret;exact⟨by first|rfl|rw[hz],K1.out⟩
theorem mU(c:Nat)(h7:c<=7):IntKind.u64.wrap ((16:Int)*2 ^ c)=((16*2 ^ c:Nat):Int):=by
 have hp:=kZ c h7;have e:((2:Int) ^ c)=((2 ^ c:Nat):Int):=by simp
 rw[wrap_u64,e];generalize 2 ^ c=P at *;omega
theorem BI(kd od lv:Int)(c:Nat)(h7:c<=7)(w:World):
  Calls prog 135 #[eS (kd,od,(c:Int),lv)] w fun e w'=>e=.returned (.int .u64 ((16*2 ^ c:Nat):Int))/\Kt nO w w':=by
 have hp:=kZ c h7;have E:=mU c h7;generalize 16*2 ^ c=q at *;show Calls prog 135 #[.agg #[.int .i64 kd,.int .i64 od,.int .i64 c,.int .i64 lv]] w _
 go_enter func135,ntmps135;go_wp2
 go_ret;exact⟨by first|rfl|simp_all,(Kt.refl _ w).alloc _⟩
theorem LU(c:Nat)(h7:c<=7):(4096:Int)/((16*2 ^ c:Nat):Int)=((celN9 c:Nat):Int):=by
 unfold celN9;match c,h7 with
 | 0,_=>decide
 | 1,_=>decide
 | 2,_=>decide
 | 3,_=>decide
 | 4,_=>decide
 | 5,_=>decide
 | 6,_=>decide
 | 7,_=>decide
theorem BR(kd od:Int)(c l:Nat)(h7:c<=7)(hl:l<=256)(w:World):
  Calls prog 93 #[eS (kd,od,(c:Int),(l:Int))] w fun e w'=>e=.returned (.int .i64 ((celN9 c:Nat)-(l:Int)))/\Kt nO w w':=by
 have HCS:=aA (fun W=>BI kd od (l:Int) c h7 W);have hq:=LU c h7;have hq2:(4096:Int).tdiv ((16*2 ^ c:Nat):Int)=((celN9 c:Nat):Int):=by rw[Int.tdiv_eq_ediv_of_nonneg (by decide)];exact hq
 have hb:=mI c h7;have hp:=kZ c h7;have h0:¬((16*2 ^ c:Nat):Int)=0:=by generalize 2 ^ c=P at *;omega
 generalize celN9 c=cn at *;generalize hqq : 16*2 ^ c=q at *;clear hqq hp;have e1:IntKind.i64.wrap (cn:Int)=cn:=by rw[IntKind.wrap_i64];omega
 have e2:IntKind.i64.wrap ((cn:Int)-(l:Int))=(cn:Int)-(l:Int):=by rw[IntKind.wrap_i64];omega
 have e3:IntKind.u64.wrap (cn:Int)=cn:=by rw[wrap_u64];omega
 have K0:=aA (show Kt nO w (w.alloc (.cells #[.int .i64 kd,.int .i64 od,.int .i64 c,.int .i64 l] 101 (0,0)))from(Kt.refl _ w).alloc _);have C0:=aA (show ∀ x:KW (w.alloc (.cells #[.int .i64 kd,.int .i64 od,.int .i64 c,.int .i64 l] 101 (0,0))),x.v.heap[w.heap.size]?=some (.cells #[.int .i64 kd,.int .i64 od,.int .i64 c,.int .i64 l] 101 (0,0))from fun x=>(x.k.block _ (lH (nH w _)) (fun x=>x)).trans (nH w _));show Calls prog 93 #[.agg #[.int .i64 kd,.int .i64 od,.int .i64 c,.int .i64 l]] w _
 go_enter func93,ntmps93;go_upto_region 1 with fail;generalize w.alloc _=W0 at *;generalize w.heap.size=gb at *;have c0:∀ x:KW W0,x.v.cell? ⟨gb,0,none⟩=some (.int .i64 kd):=fun x=>by simp[World.cell?,C0.out x]
 have c1:∀ x:KW W0,x.v.cell? ⟨gb,1,none⟩=some (.int .i64 od):=fun x=>by simp[World.cell?,C0.out x]
 have c2:∀ x:KW W0,x.v.cell? ⟨gb,2,none⟩=some (.int .i64 c):=fun x=>by simp[World.cell?,C0.out x]
 have c3:∀ x:KW W0,x.v.cell? ⟨gb,3,none⟩=some (.int .i64 l):=fun x=>by simp[World.cell?,C0.out x]
 refine dM (by kernel_rfl) (by kernel_rfl) ?_;repeat (go_big_quiet_step (first|(go_at_call 135;exact Calls.kept_of (HCS.out _))))
 refine wpQuiet_nil ?_;intro x;have R:=aA (nT K0.out x.k);go_wp2_with fail;go_ret;exact⟨by first|rfl|simp_all,R.out⟩
set_option maxHeartbeats 8000000
set_option maxRecDepth 6000
def fH(p:Pg):Nat:=if p.kd=2 then 48+p.od.toNat else if p.kd=3 then 61 else if p.kd=4 then (if p.lv=(celN9 p.cl.toNat:Int) then 65+p.cl.toNat else 97+p.cl.toNat) else 46
def fZ(p:Pg):UInt8:=UInt8.ofNat (fH p)
theorem JD{p:Pg}{o c:Nat}(ho:p.od=(o:Int))(h8:o<=8)(hc:p.cl=(c:Int))(h7:c<=7):fH p<256:=by
 unfold fH;rw[ho,hc,Int.toNat_natCast,Int.toNat_natCast];split
 ·omega
 ·split
  ·omega
  ·split
   ·split <;> omega
   ·omega
theorem PF{p:Pg}{o c:Nat}(ho:p.od=(o:Int))(h8:o<=8)(hc:p.cl=(c:Int))(h7:c<=7):((fZ p).toNat:Int)=(fH p:Int):=by
 have h:=JD ho h8 hc h7;unfold fZ;rw[UInt8.toNat_ofNat_of_lt' h]
theorem XS(p:Pg)(o c l:Nat)(ho:p.od=(o:Int))(h8:o<=8)(hc:p.cl=(c:Int))(h7:c<=7)(hl:p.lv=(l:Int))(h256:l<=256)(w:World):
  Calls prog 52 #[fF p] w fun e w'=>e=.returned (.int .u8 (fH p:Int))/\Kt nO w w':=by
 obtain⟨kd,od,cl,lv,nx,pv,fs,b0,b1,b2,b3⟩:=p;dsimp only at ho hc hl;subst ho hc hl;have KS:=aA (fun W=>yX ⟨kd,(o:Int),(c:Int),(l:Int),nx,pv,fs,b0,b1,b2,b3⟩ W);have FC:=aA (fun W=>BR kd (o:Int) c l h7 h256 W);obtain⟨cn,hcn⟩:=xe (celN9 c);rw[<-hcn] at FC;have o1:IntKind.u8.wrap (o:Int)=o:=by rw[pA];omega
 have c1:IntKind.u8.wrap (c:Int)=c:=by rw[pA];omega
 have o1':(o:Int)%256=(o:Int):=by omega
 have c1':(c:Int)%256=(c:Int):=by omega
 have KA:=aA (fun o=>(Kt.refl nO w).alloc o);by_cases k2:kd=2
 ·subst k2;have e1:IntKind.u8.wrap (48+(o:Int))=48+(o:Int):=by rw[pA];omega
  have e1':(48+(o:Int))%256=48+(o:Int):=by omega
  have E:=aA (show((fH ⟨2,(o:Int),(c:Int),(l:Int),nx,pv,fs,b0,b1,b2,b3⟩:Nat):Int)=48+(o:Int)by unfold fH;simp);rw[E.out];go_enter func52,ntmps52;go_wp2_with fail;go_ret;exact⟨rfl,KA.out _⟩
 by_cases k3:kd=3
 ·subst k3;have E:=aA (show((fH ⟨3,(o:Int),(c:Int),(l:Int),nx,pv,fs,b0,b1,b2,b3⟩:Nat):Int)=61 by unfold fH;simp);rw[E.out];go_enter func52,ntmps52;go_wp2_with fail;go_ret;exact⟨rfl,KA.out _⟩
 by_cases k4:kd=4
 ·subst k4;by_cases hf:cn=l
  ·have E:=aA (show((fH ⟨4,(o:Int),(c:Int),(l:Int),nx,pv,fs,b0,b1,b2,b3⟩:Nat):Int)=65+(c:Int)by unfold fH;simp[<-hcn,hf]);rw[E.out];have f0:((cn:Int)-(l:Int) == 0)=true:=(by rw[beq_iff_eq];omega);have e1:IntKind.u8.wrap (65+(c:Int))=65+(c:Int):=(by rw[pA];omega);have e1':(65+(c:Int))%256=65+(c:Int):=(by omega);clear hf hcn;go_enter func52,ntmps52;go_wp2_with fail;refine(KS.out _).mono ?_;rintro e w1 ⟨rfl,hk1⟩;have K1:=aA (nT (KA.out _) hk1);go_wp2_with fail;refine(FC.out _).mono ?_;rintro e w2 ⟨rfl,hk2⟩;have K2:=aA (nT K1.out hk2);have c2:=aA (show w2.cell? ⟨w.heap.size,2,none⟩=some (.int .i64 c)from hk2.cell (fun x=>x) (hk1.cell (fun x=>x) (eK (nH w (aV ⟨4,(o:Int),(c:Int),(l:Int),nx,pv,fs,b0,b1,b2,b3⟩))).2.2.1));have c2:=c2.out;clear hk1 hk2;go_wp2_with fail;go_ret;exact⟨rfl,K2.out⟩
  ·have E:=aA (show((fH ⟨4,(o:Int),(c:Int),(l:Int),nx,pv,fs,b0,b1,b2,b3⟩:Nat):Int)=97+(c:Int)by
    have:¬((l:Int)=(celN9 c:Int)):=by rw[<-hcn];omega
    unfold fH;simp;rw[if_neg (by omega)];simp)
   rw[E.out];have f0:((cn:Int)-(l:Int) == 0)=false:=(by rw[beq_eq_false_iff_ne];omega);have e1:IntKind.u8.wrap (97+(c:Int))=97+(c:Int):=(by rw[pA];omega);have e1':(97+(c:Int))%256=97+(c:Int):=(by omega);clear hf hcn;go_enter func52,ntmps52;go_wp2_with fail;refine(KS.out _).mono ?_;rintro e w1 ⟨rfl,hk1⟩;have K1:=aA (nT (KA.out _) hk1);go_wp2_with fail;refine(FC.out _).mono ?_;rintro e w2 ⟨rfl,hk2⟩;have K2:=aA (nT K1.out hk2);have c2:=aA (show w2.cell? ⟨w.heap.size,2,none⟩=some (.int .i64 c)from hk2.cell (fun x=>x) (hk1.cell (fun x=>x) (eK (nH w (aV ⟨4,(o:Int),(c:Int),(l:Int),nx,pv,fs,b0,b1,b2,b3⟩))).2.2.1));have c2:=c2.out;clear hk1 hk2;go_wp2_with fail;go_ret;exact⟨rfl,K2.out⟩
 ·have E:=aA (show((fH ⟨kd,(o:Int),(c:Int),(l:Int),nx,pv,fs,b0,b1,b2,b3⟩:Nat):Int)=46 by unfold fH;simp[k2,k3,k4]);rw[E.out];have f2:(kd == 2)=false:=by rw[beq_eq_false_iff_ne];exact k2
  have f3:(kd == 3)=false:=by rw[beq_eq_false_iff_ne];exact k3
  have f4:(kd == 4)=false:=by rw[beq_eq_false_iff_ne];exact k4
  clear k2 k3 k4;go_enter func52,ntmps52;go_wp2_with fail;go_ret;exact⟨rfl,KA.out _⟩
abbrev TX(w0 W:World)(v:Value)(l:List UInt8):Prop:=GS w0 W 5 1 v l.length (Lib.byteCells l)
theorem UZ:(prog.info? 5).map (fun i=>(i.zero,i.size,i.bytes))=some (some (.int .u8 0),1,1):=by kernel_rfl
theorem TX.push{w0 W:World}{v:Value}{l:List UInt8}(h:TX w0 W v l)(b:UInt8)(hn:l.length<140737488355328):
  ∃ g cap w',(∀ t,(Builtin.append_ #[32,32] t #[v,.slice (some ⟨W.heap.size,0,none⟩) 1 1]).run prog (W.alloc (.cells #[.int .u8 b.toNat] 5))=.ok (.slice (some ⟨g,0,none⟩) (l.length + 1) cap) w')/\TX w0 w' (.slice (some ⟨g,0,none⟩) (l.length + 1) cap) (l ++ [b])/\Kt (fun b=>v.ownBlock=some b) W w':=by
 obtain⟨i,hi,hzz⟩:=Option.map_eq_some_iff.1 UZ;simp only[Prod.mk.injEq] at hzz;have ka:=(Kt.refl nO W).alloc (.cells #[.int .u8 b.toNat] 5);obtain⟨g,cap,w',h1,h2,h5,h6,h7⟩:=(GS.keep h ka).pushM 32 i (.int .u8 0) 1 Tryz.underlying32 hi hzz.1 hzz.2.1 hzz.2.2 rfl (by decide) ⟨W.heap.size,0,none⟩ 1 1 (by decide) [.int .u8 b.toNat] rfl (fun j u hj=>mK (cs:=#[.int .u8 b.toNat]) j u hj) (by simp[Value.oneCell']) (by simp only[maxLen];omega) (by omega);refine⟨g,cap,w',h1,?_,ka.trans h6 (fun _ _ e=>e.elim) (fun _ _ e=>e)⟩;show GS _ _ _ _ _ (l ++ [b]).length (Lib.byteCells (l ++ [b]))
 rw[List.length_append,show Lib.byteCells (l ++ [b])=Lib.byteCells l ++ [.int .u8 b.toNat] by simp[Lib.byteCells]];exact h2
theorem TX.str{w0 W:World}{v:Value}{l:List UInt8}(h:TX w0 W v l):(convert 32 9 v).run prog W=.ok (.string ⟨l.toArray⟩) W:=by
 rcases h.own.2 with ⟨rfl,h0⟩|⟨g,cap,cur,rfl,hb,hg,hnc,hcm,hcs,htake⟩
 ·obtain rfl:=List.eq_nil_of_length_eq_zero h0;show(convert 32 9 (.slice none 0 0)).run prog W=_
  rw[run_convert_bytes_string W 32 9 5 none 0 0 Tryz.underlying32 Tryz.underlying5 Tryz.underlying9];simp[Conv.bytesToString];rfl
 ·refine run_convert_bytes_back W 32 9 5 ⟨g,0,none⟩ cap l Tryz.underlying32 Tryz.underlying5 Tryz.underlying9 fun j hj=>?_
  rw[Addr.add_lit,Nat.zero_add];have e1:(Lib.byteCells l)[j]?=some (.int .u8 (l[j].toNat:Int)):=by
   unfold Lib.byteCells;rw[List.getElem?_map,List.getElem?_eq_getElem hj];rfl
  rw[<-htake,List.getElem?_take] at e1;split at e1
  ·simp only[World.cell?,hg];rw[<-Array.getElem?_toList,e1];rfl
  ·cases e1
end Go.Proofs.YtkfmheelhinjdaaGreatDoor.W
