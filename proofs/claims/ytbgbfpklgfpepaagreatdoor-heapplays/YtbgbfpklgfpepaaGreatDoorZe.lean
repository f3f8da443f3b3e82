import Derived.Test.YtbgbfpklgfpepaaGreatDoorZd
import Derived.ArgAppend
import Derived.Laws.OwnMore
import Derived.Maps.AppendAt
import Derived.Deep.RegionLaw
import Derived.Deep.OwnRows
import Derived.Lib.AppendZeros
set_option maxRecDepth 1000000
set_option maxHeartbeats 80000000
namespace Go.Proofs.YtbgbfpklgfpepaaGreatDoor
open Tryz
open Go.RowKit
set_option linter.unusedVariables false
def jH(wd:Nat->List Nat)(k:Nat)(ws:List Nat):Nat->List Nat:=fun j=>if j=k then ws else wd j
theorem MpA.words{w w' b B m}{ws:List Nat}(h:MpA w b B m)(k:Nat)(hk:k<m.o)(kp:Kt (fun x=>x=B.C k) w w')(hS:SetAt w' (B.S k) (B.C k) (m.n/2 ^ (k+1)) ws):MpA w' b B { m with wd:=jH m.wd k ws }:=by
 obtain⟨cq,hb,hp⟩:=h.hb;have s0:=h.set k hk;refine⟨h.o8,h.n1,h.dv,⟨cq,(kp.block b (lH hb) (dN hb s0.hc (by decide))).trans hb,hp.kept kp (fun x e=>?_)⟩,dD.kept h.row kp (fun x e=>?_),fun j hj=>?_,h.injS,h.injC,h.ok⟩
 ·rw[e] at hp;obtain⟨ds,hq,_⟩:=hp;exact dN hq s0.hc (by decide)
 ·have hr:=h.row;rw[e] at hr;obtain⟨cs,hgb,_⟩:=hr;exact dN hgb s0.hc (by decide)
 ·show SetAt w' (B.S j) (B.C j) (m.n/2 ^ (j+1)) (jH m.wd k ws j)
  unfold jH;by_cases e:j=k
  ·rw[if_pos e,e];exact hS
  ·rw[if_neg e];have s:=h.set j hj;exact s.kept kp (dN s.hb s0.hc (by decide)) (fun e2=>e (h.injC j k hj hk e2))
theorem UQ(i k:Nat)(hk:k<8)(W:World):Sem.run prog (Op.shift BinOp.shr IntKind.i64 (i:Int) IntKind.i64 (IntKind.i64.wrap ((k:Int)+1))) W=Result.ok (.int .i64 ((i/2 ^ (k+1):Nat):Int)) W:=by
 have hw:IntKind.i64.wrap ((k:Int)+1)=((k+1:Nat):Int):=by rw[IntKind.wrap_i64];omega
 rw[hw];unfold Op.shift;simp[go_sem];rw[if_neg (by omega),Nat.min_eq_left (by omega),Int.fdiv_eq_ediv_of_nonneg _ (Int.le_of_lt (Int.pow_pos (by decide)))]
theorem UP(b:Nat)(B:Bs)(m:Mp)(k i:Int)(w:World)(h:MpA w b B m)(hp:(aJ m.o k && aJ m.n i)=false):
  Calls prog 214 #[.pointer (some ⟨b,0,none⟩),.int .i64 k,.int .i64 i] w fun e w'=>e=.returned (.tuple #[.bool false,.int .i64 1])/\Kt nO w w':=by
 have HM:=aA h;have HP:=aA hp;clear h hp;go_enter func214,ntmps214;go_wp2_with fail;refine(sA b B m k i _ HM.out).mono ?_;rintro e w1 ⟨rfl,rfl⟩;rw[HP.out];go_wp2_with fail;exact⟨rfl,_,by simp[results,results214,go_sem],rfl,Kt.refl nO _⟩
theorem UO(b:Nat)(B:Bs)(m:Mp)(k i:Nat)(w:World)(h:MpA w b B m)(hk:k<m.o)(hi:i<m.n):
  Calls prog 214 #[.pointer (some ⟨b,0,none⟩),.int .i64 k,.int .i64 i] w fun e w'=>e=.returned (.tuple #[.bool (kI (m.n/2 ^ (k+1)) (kP (m.n/2 ^ (k+1)) (m.wd k) ((i/2 ^ (k+1):Nat):Int)) ((i/2 ^ (k+1):Nat):Int)),.int .i64 0])/\MpA w' b B { m with wd:=jH m.wd k (kP (m.n/2 ^ (k+1)) (m.wd k) ((i/2 ^ (k+1):Nat):Int)) }/\Kt (aY b B m.o) w w':=by
 have HM:=aA h;have HP:=aA (show(aJ m.o (k:Int) && aJ m.n (i:Int))=true by rw[dQ hk,dQ hi];rfl);obtain⟨q,hq,cp⟩:=h.cp k hk;obtain⟨cq,c2⟩:=h.c2 hq;have FL:=aA (fun w' (kk:Kt nO w w')=>YG (B.S k) (B.C k) _ (m.wd k) ((i/2 ^ (k+1):Nat):Int) w' ((h.set k hk).kept kk (fun x=>x) (fun x=>x)));have hk8:k<8:=by have:=h.o8;omega
 have hi10:i<1024:=by have:=h.n1;omega
 have hki:(k:Int)<m.o:=by omega
 have hsh:=UQ i k hk8;have HK:=aA hk;have HI:=aA hi;clear h hq hk hi;go_enter func214,ntmps214;go_wp2_with fail;refine(sA b B m k i _ HM.out).mono ?_;rintro e w1 ⟨rfl,rfl⟩;rw[HP.out];go_wp2_with fail;go_region_with ((go_at_call 224;refine(FL.out _ (Kt.refl nO w1).drew).mono ?_;rintro e w2 ⟨rfl,hS,hK,hsz⟩))
 all_goals
  have M2:=aA ((HM.out.keep (Kt.refl nO _).drew).words k HK.out hK hS);have K2:=aA (show Kt (aY b B m.o) w1 w2 from(Kt.refl nO w1).drew.trans hK (fun _ _ x=>x.elim) (fun x _ e=>.inr (.inr (.inr ⟨k,HK.out,.inr e⟩))));clear hS hK hsz;have PI:=aA (TN b B _ k i w2 M2.out HK.out HI.out);go_wp2_with fail;refine PI.out.mono ?_;rintro e w3 ⟨rfl,hK3⟩;have M3:=aA (M2.out.keep hK3);have K3:=aA (K2.out.trans (U:=aY b B m.o) hK3 (fun _ _ x=>x) (fun _ _ x=>x.elim));clear hK3;go_wp2_with fail;exact⟨rfl,_,by simp[results,results214,go_sem,jH],rfl,M3.out,K3.out⟩
theorem ziA:(prog.info? 103).map (fun i=>(i.zero,i.size,i.bytes))=some (some (cW bD),11,88):=by kernel_rfl
theorem yM:∃ i,prog.info? 103=some i/\i.zero=some (cW bD)/\i.size=11/\i.bytes=88:=by
 obtain⟨i,hi,hzz⟩:=Option.map_eq_some_iff.1 ziA;simp only[Prod.mk.injEq] at hzz;exact⟨i,hi,hzz.1,hzz.2.1,hzz.2.2⟩
theorem UN(p:Pg)(j:Nat):(p.fld j).oneCell'=true:=by unfold Pg.fld;split <;> rfl
theorem JC(c:Nat)(hc:c<=1024)(w:World):
  ∃ w1,(Instr.makeSlice 138 (.int .i64 c) (.int .i64 c)).run prog w=.ok (.slice (some ⟨w.heap.size,0,none⟩) c c) w1/\cR w1 w.heap.size c (fun _=>bD)/\Kt nO w w1/\w1.heap.size=w.heap.size+1:=by
 obtain⟨i,hi,hz,hs,hb⟩:=yM;have hr:=run_make (P:=prog) w 138 103 i (cW bD) Tryz.underlying138 hi hz .i64 .i64 (c:Int) (c:Int) (by omega) (Int.le_refl _) (by rw[hb];omega) (by omega);simp only[Int.toNat_natCast] at hr;refine⟨_,hr,⟨_,nH w _,by rw[size_madeCells,hs],fun a ha b hb=>?_⟩,(Kt.refl nO w).alloc _,by simp⟩;rw[hs];have hlt:a*11+b<c*11:=by omega
 have hsz:(Value.cells (cW bD)).size=11:=rfl;simp only[madeCells];rw[Array.getElem?_map,Array.getElem?_range,if_pos hlt,Option.map_some,hsz,show(a*11+b)%11=b by omega];exact lK (P:=fun b=>some ((Value.cells (cW bD))[b]!)=some (bD.fld b)) rfl rfl rfl rfl rfl rfl rfl rfl rfl rfl rfl b hb
theorem zdJ(w:World)(ty:TypeId)(g dLen dCap:Nat)(a:Addr)(sLen sCap:Nat)(cur:Array Value)(cs:List Value)
  (hg:w.heap[g]?=some (.cells cur 103 (0,0))) (hn:cs.length=Nat.min sLen dLen*11)
  (hsrc:∀ j v,cs[j]?=some v->w.cell? (a.add j)=some v) (hfit:cs.length<=cur.size) (h1:∀ v∈cs,v.oneCell'=true):
  (Builtin.copy_ #[138,138] ty #[.slice (some ⟨g,0,none⟩) dLen dCap,.slice (some a) sLen sCap]).run prog w=
   .ok (goInt (Nat.min sLen dLen:Nat)) (w.setRow g (cur.toList.take 0 ++ cs ++ cur.toList.drop (0 + cs.length)).toArray):=by
 have hl:=run_loadCells_list (P:=prog) w a cs hsrc;have hst:=run_storeCells_at prog g 0 103 cs 0 cur w hg (by simpa using hfit) h1;obtain⟨i,hi,hz,hs,hb⟩:=yM;rw[hn] at hl;simp[Builtin.copy_,run_underlying Tryz.underlying138,Builtin.lenOf,Builtin.firstCells,sizeOf,typeInfo,hi,hs,hl,hst]
theorem JB(w:World)(g c:Nat)(gs:Option Nat)(n:Nat)(pd pg:Nat->Pg)(hg:cR w g c pd)(hs:dD w gs n pg):
  ∃ (k:Nat) (w2:World),(∀ ty,(Builtin.copy_ #[138,138] ty #[.slice (some ⟨g,0,none⟩) c c,.slice (adr gs) n n]).run prog w=.ok (goInt k) w2)/\cR w2 g c (fun i=>if i<n then pg i else pd i)/\Kt (fun x=>x=g) w w2/\w2.heap.size=w.heap.size:=by
 cases gs with
 | none=>
  have h0:n=0:=hs;subst h0;refine⟨0,w,fun ty=>?_,?_,Kt.refl _ _,rfl⟩
  ·exact run_copy_nil (P:=prog) w 138 138 ty 103 _ c c Tryz.underlying138 (by obtain⟨i,hi,_⟩:=yM;rw[hi];rfl)
  ·exact cR.congr hg (fun i hi=>by simp)
 | some q=>
  obtain⟨cur,hgb,hsz,hcc⟩:=hg;obtain⟨sr,hqb,hsz2,hsc⟩:=hs;obtain⟨cs,hcs⟩:∃ cs:List Value,cs=sr.toList.take (Nat.min n c*11):=⟨_,rfl⟩;have hmn:Nat.min n c<=n/\Nat.min n c<=c:=⟨Nat.min_le_left _ _,Nat.min_le_right _ _⟩;have hmm:(n<=c/\Nat.min n c=n)\/(c<=n/\Nat.min n c=c):=(Nat.le_total n c).imp (fun h=>⟨h,Nat.min_eq_left h⟩) (fun h=>⟨h,Nat.min_eq_right h⟩);have hlen:cs.length=Nat.min n c*11:=by rw[hcs,List.length_take,Array.length_toList,hsz2];omega
  refine⟨Nat.min n c,w.setRow g (cur.toList.take 0 ++ cs ++ cur.toList.drop (0 + cs.length)).toArray,fun ty=>?_,?_,⟨rfl,rfl,rfl,by simp[World.setRow],fun k hk hn=>setRow_other w g k _ hn⟩,by simp[World.setRow]⟩
  ·refine zdJ w ty g c c ⟨q,0,none⟩ n n cur cs hgb hlen (fun j v hj=>?_) (by omega) (fun v hv=>?_)
   ·rw[Addr.add_lit,Nat.zero_add];rw[hcs,List.getElem?_take] at hj;split at hj
    ·simpa [World.cell?,hqb] using hj
    ·cases hj
   ·rw[hcs] at hv;have hv2:=List.mem_of_mem_take hv;obtain⟨j,hj,rfl⟩:=List.mem_iff_getElem.1 hv2;have hj2:j<n*11:=(by simpa [hsz2] using hj);have:=hsc (j/11) (by omega) (j%11) (by omega);rw[show j/11*11+j%11=j by omega] at this;have e:sr.toList[j]=((pg (j/11)).fld (j%11)):=by
     have h2:sr[j]?=some sr.toList[j]:=(by simp);rw[h2] at this;exact Option.some.inj this
    rw[e];exact UN _ _
  ·refine⟨_,setRow_heap w g cur _ 103 (0,0) hgb,?_,fun a ha b hb=>?_⟩
   ·simp[hlen,hsz];omega
   ·simp only[List.take_zero,List.nil_append,Nat.zero_add,List.getElem?_toArray];by_cases hl:a*11+b<cs.length
    ·rw[List.getElem?_append_left hl,if_pos (by omega),hcs,List.getElem?_take,if_pos (by omega)];simpa using hsc a (by omega) b hb
    ·rw[List.getElem?_append_right (by omega),List.getElem?_drop,if_neg (by omega)];rw[show cs.length+(a*11+b-cs.length)=a*11+b by omega];simpa using hcc a ha b hb
def gU(m:Mp)(c:Nat):Mp:=⟨m.o,c,fun i=>if i<m.n then m.pg i else bD,fun k=>jU (m.wd k) (c/2 ^ (k+1))⟩
def dP(w:World)(b:Nat)(B B':Bs)(o:Nat):Prop:=∀ x,aY b B' o x->aY b B o x\/w.heap.size<=x
structure Rz(w W:World)(b:Nat)(B:Bs)(m:Mp)(c g k:Nat)(C:Nat->Nat):Prop where
 hb:∃ cq,W.heap[b]?=some (.cells #[.int .i64 m.o,.slice (some ⟨g,0,none⟩) c c,.slice (adr B.P) m.o cq] 141 (0,0))/\pC W B.P m.o cq B.S
 row:cR W g c (fun i=>if i<m.n then m.pg i else bD)
 old:∀ j,k<=j->j<m.o->SetAt W (B.S j) (C j) (m.n/2 ^ (j+1)) (m.wd j)
 new:∀ j,j<k->j<m.o->SetAt W (B.S j) (C j) (c/2 ^ (j+1)) (jU (m.wd j) (c/2 ^ (j+1)))
 inj:∀ i j,i<m.o->j<m.o->C i=C j->i=j
 kp:Kt (aY b B m.o) w W
 hg:w.heap.size<=g
 fr:∀ j,j<m.o->C j=B.C j\/w.heap.size<=C j
theorem Rz.any{w W b B m c g k C}(h:Rz w W b B m c g k C)(j:Nat)(hj:j<m.o):∃ n ws,SetAt W (B.S j) (C j) n ws:=by
 by_cases e:j<k
 ·exact⟨_,_,h.new j e hj⟩
 ·exact⟨_,_,h.old j (by omega) hj⟩
theorem Rz.next{w W W' b B m c g k C}(h:Rz w W b B m c g k C)(hk:k<m.o)(kI:∀ i j,i<m.o->j<m.o->B.S i=B.S j->i=j)(hS:SetAt W' (B.S k) W.heap.size (c/2 ^ (k+1)) (jU (m.wd k) (c/2 ^ (k+1))))(kp:Kt (fun x=>x=B.S k) W W'):
  Rz w W' b B m c g (k+1) (fun j=>if j=k then W.heap.size else C j):=by
 obtain⟨cq,hb,hp⟩:=h.hb;obtain⟨n0,ws0,s0⟩:=h.any k hk;obtain⟨cs,hgb,hrow⟩:=h.row;have lt:∀ j,j<m.o->C j<W.heap.size:=fun j hj=>by
  obtain⟨_,_,s⟩:=h.any j hj;exact lH s.hc
 refine⟨⟨cq,(kp.block b (lH hb) (dN hb s0.hb (by decide))).trans hb,hp.kept kp (fun x e=>?_)⟩,bF.kept h.row kp (dN hgb s0.hb (by decide)),fun j hj hj2=>?_,fun j hj hj2=>?_,fun i j hi hj e=>?_,h.kp.trans kp (fun _ _ x=>x) (fun x _ e=>.inr (.inr (.inr ⟨k,hk,.inl e⟩))),h.hg,fun j hj=>?_⟩
 ·rw[e] at hp;obtain⟨ds,hq,_⟩:=hp;exact dN hq s0.hb (by decide)
 ·rw[if_neg (by omega)];have s:=h.old j (by omega) hj2;exact s.kept kp (fun e=>by have:=kI j k hj2 hk e;omega) (dN s.hc s0.hb (by decide))
 ·by_cases e:j=k
  ·rw[if_pos e,e];exact hS
  ·rw[if_neg e];have s:=h.new j (by omega) hj2;exact s.kept kp (fun e=>by have:=kI j k hj2 hk e;omega) (dN s.hc s0.hb (by decide))
 ·by_cases e1:i=k <;> by_cases e2:j=k
  ·omega
  ·rw[if_pos e1,if_neg e2] at e;have:=lt j hj;omega
  ·rw[if_neg e1,if_pos e2] at e;have:=lt i hi;omega
  ·rw[if_neg e1,if_neg e2] at e;exact h.inj i j hi hj e
 ·by_cases e:j=k
  ·rw[if_pos e];exact .inr h.kp.size
  ·rw[if_neg e];exact h.fr j hj
theorem UM(n:Nat)(h:n<=1048576):iV (n:Int)=n:=by unfold iV;split <;> (try split) <;> omega
theorem pC.cell{w q o cq S}(h:pC w (some q) o cq S)(k:Nat)(hk:k<o):w.cell? ⟨q,k,none⟩=some (.pointer (some ⟨S k,0,none⟩)):=by
 obtain⟨cs,hg,h2,h3,h4⟩:=h;simp[World.cell?,hg,h4 k hk]
theorem ziB(b:Nat)(B:Bs)(m:Mp)(c:Nat)(hc:c<=1024)(hd:∃ r,c=r*2 ^ m.o)(w:World)(h:MpA w b B m)(h0:m.o=0):
  Calls prog 189 #[.pointer (some ⟨b,0,none⟩),.int .i64 c] w fun e w'=>e=.returned (.tuple #[])/\∃ B',MpA w' b B' (gU m c)/\Kt (aY b B m.o) w w'/\dP w b B B' m.o:=by
 obtain⟨cq,c0,c1,c2⟩:=h.cb;obtain⟨w1,hmk,hr1,hk1,hs1⟩:=JC c hc w;have M1:=aA (h.keep hk1);obtain⟨kk,w2,hcp,hr2,hk2,hs2⟩:=JB w1 w.heap.size c B.g m.n (fun _=>bD) m.pg hr1 M1.out.row;obtain⟨cq1,d0,d1,d2⟩:=M1.out.cb;have R2:=aA hr2;have K2:=aA (show Kt nO w w2 from hk1.trans hk2 (fun _ _ x=>x) (fun x hx e=>by omega));have M2:=aA (h.keep K2.out);obtain⟨cq2,e0,e1,e2⟩:=M2.out.cb;have z:=M2.out.bz;have HO:=aA h;have hbl:b<w.heap.size:=h.own_lt b (.inl rfl);have HBL:=aA hbl;have HD:=aA hd;have HZ:=aA h0;clear h hr1 hk1 hr2 hk2 hd h0;go_enter func189,ntmps189;go_wp2_with fail;have H0:=aA (show Rz w (w2.setCell ⟨b,1,none⟩ (.slice (some ⟨w.heap.size,0,none⟩) c c)) b B m c w.heap.size 0 B.C from by
  obtain⟨cq,hb,hp⟩:=M2.out.hb;obtain⟨cs,hgb,_⟩:=R2.out;have k:Kt (fun x=>x=b) w2 (w2.setCell ⟨b,1,none⟩ (.slice (some ⟨w.heap.size,0,none⟩) c c)):=(Kt.refl (fun x=>x=b) w2).setCell (p:=⟨b,1,none⟩) rfl _;refine⟨⟨cq,(bB hb 1 _).trans (by simp),hp.kept k (fun x e=>?_)⟩,cR.kept R2.out k (fun e=>by have:=HBL.out;omega),fun j _ hj=>(M2.out.set j hj).kept k (dN (M2.out.set j hj).hb hb (by decide)) (dN (M2.out.set j hj).hc hb (by decide)),fun j hj=>absurd hj (by omega),M2.out.injC,K2.out.trans k (fun _ _ x=>x.elim) (fun x _ e=>.inl e),Nat.le_refl _,fun j _=>.inl rfl⟩;rw[e] at hp;obtain⟨ds,hq,_⟩:=hp;exact dN hq hb (by decide))
 clear M1 M2 R2 K2 c0 c1 c2 d0 d1 d2 e0 e1 e2 z hmk hcp hs1 hs2;go_loopw [5,6,24] (fun x y i W=>∃ k:Nat,k<=m.o/\i=.int .i64 k/\Hid (∃ C,Rz w W b B m c w.heap.size k C)) (fun _ _ i _=>m.o-(intOf i).toNat)
 case atStart=>exact⟨0,by omega,rfl,⟨B.C,H0.out⟩⟩
 case round=>
  clear H0;obtain⟨k,hk,rfl,hR⟩:=hrel;obtain⟨C,hR⟩:=hR.out;have HR:=aA hR;clear hR;have hki:¬(k:Int)<m.o:=by have:=HZ.out;omega
  ·obtain rfl:k=m.o:=(by have:=HZ.out;omega);go_wp2_with fail;go_end0
   refine⟨rfl,⟨some w.heap.size,B.P,B.S,C⟩,?_,HR.out.kp,?_⟩
   ·refine⟨HO.out.o8,hc,HD.out,HR.out.hb,HR.out.row,fun j hj=>HR.out.new j hj hj,HO.out.injS,HR.out.inj,fun i hi=>?_⟩;show PgOk (if i<m.n then m.pg i else bD)
    split
    ·rename_i e;exact HO.out.ok i e
    ·exact PgOk.zero
   ·rintro x (e|e|e|⟨j,hj,e|e⟩)
    ·exact .inl (.inl e)
    ·cases e
     exact .inr (Nat.le_refl _)
    ·exact .inl (.inr (.inr (.inl e)))
    ·exact .inl (.inr (.inr (.inr ⟨j,hj,.inl e⟩)))
    ·rcases HR.out.fr j hj with e2|e2
     ·exact .inl (.inr (.inr (.inr ⟨j,hj,.inr (e.trans e2)⟩)))
     ·exact .inr (by rw[show x=C j from e];exact e2)
theorem ziC(b q:Nat)(B:Bs)(m:Mp)(c:Nat)(hc:c<=1024)(hd:∃ r,c=r*2 ^ m.o)(w:World)(h:MpA w b B m)(hq:B.P=some q):
  Calls prog 189 #[.pointer (some ⟨b,0,none⟩),.int .i64 c] w fun e w'=>e=.returned (.tuple #[])/\∃ B',MpA w' b B' (gU m c)/\Kt (aY b B m.o) w w'/\dP w b B B' m.o:=by
 obtain⟨cq,c0,c1,c2⟩:=h.cb;obtain⟨w1,hmk,hr1,hk1,hs1⟩:=JC c hc w;have M1:=aA (h.keep hk1);obtain⟨kk,w2,hcp,hr2,hk2,hs2⟩:=JB w1 w.heap.size c B.g m.n (fun _=>bD) m.pg hr1 M1.out.row;obtain⟨cq1,d0,d1,d2⟩:=M1.out.cb;have R2:=aA hr2;have K2:=aA (show Kt nO w w2 from hk1.trans hk2 (fun _ _ x=>x) (fun x hx e=>by omega));have M2:=aA (h.keep K2.out);obtain⟨cq2,e0,e1,e2⟩:=M2.out.cb;have z:=M2.out.bz;rw[show adr B.P=some ⟨q,0,none⟩by rw[hq];rfl] at c2 d2 e2;have HQ:=aA hq;have HO:=aA h;have hbl:b<w.heap.size:=h.own_lt b (.inl rfl);have HBL:=aA hbl;have HD:=aA hd;clear h hr1 hk1 hr2 hk2 hd hq;go_enter func189,ntmps189;go_wp2_with fail;have H0:=aA (show Rz w (w2.setCell ⟨b,1,none⟩ (.slice (some ⟨w.heap.size,0,none⟩) c c)) b B m c w.heap.size 0 B.C from by
  obtain⟨cq,hb,hp⟩:=M2.out.hb;obtain⟨cs,hgb,_⟩:=R2.out;have k:Kt (fun x=>x=b) w2 (w2.setCell ⟨b,1,none⟩ (.slice (some ⟨w.heap.size,0,none⟩) c c)):=(Kt.refl (fun x=>x=b) w2).setCell (p:=⟨b,1,none⟩) rfl _;refine⟨⟨cq,(bB hb 1 _).trans (by simp),hp.kept k (fun x e=>?_)⟩,cR.kept R2.out k (fun e=>by have:=HBL.out;omega),fun j _ hj=>(M2.out.set j hj).kept k (dN (M2.out.set j hj).hb hb (by decide)) (dN (M2.out.set j hj).hc hb (by decide)),fun j hj=>absurd hj (by omega),M2.out.injC,K2.out.trans k (fun _ _ x=>x.elim) (fun x _ e=>.inl e),Nat.le_refl _,fun j _=>.inl rfl⟩;rw[e] at hp;obtain⟨ds,hq,_⟩:=hp;exact dN hq hb (by decide))
 clear M1 M2 R2 K2 c0 c1 c2 d0 d1 d2 e0 e1 e2 z hmk hcp hs1 hs2;go_loopw [5,6,24] (fun x y i W=>∃ k:Nat,k<=m.o/\i=.int .i64 k/\Hid (∃ C,Rz w W b B m c w.heap.size k C)) (fun _ _ i _=>m.o-(intOf i).toNat)
 case atStart=>exact⟨0,by omega,rfl,⟨B.C,H0.out⟩⟩
 case round=>
  clear H0;obtain⟨k,hk,rfl,hR⟩:=hrel;obtain⟨C,hR⟩:=hR.out;have HR:=aA hR;clear hR;by_cases hlt:k<m.o
  ·have hki:(k:Int)<m.o:=(by omega);have hpc:wr.cell? ⟨q,k,none⟩=some (.pointer (some ⟨B.S k,0,none⟩)):=by
    obtain⟨cq,_,hp⟩:=HR.out.hb;rw[HQ.out] at hp;exact hp.cell k hlt
   have hk8:k<8:=(by have:=HO.out.o8;omega);have PC:=aA (zef k c hk8 hc);have hle:c/2 ^ (k+1)<=1024:=Nat.le_trans (Nat.div_le_self _ _) hc;have HN:=aA (fun W2 hS hK=>HR.out.next (W':=W2) hlt HO.out.injS hS hK);generalize c/2 ^ (k+1)=d at PC hle HN;have RS:=aA (zht (B.S k) (C k) (m.n/2 ^ (k+1)) (m.wd k) (d:Int) (by omega) (by omega) wr (HR.out.old k (Nat.le_refl _) hlt));rw[UM _ (by omega)] at RS;clear hle;go_wp2_with fail;refine(PC.out _).mono ?_;rintro e W1 ⟨rfl,rfl⟩;go_wp2_with fail;refine RS.out.mono ?_;rintro e W2 ⟨rfl,hS,hK,hsz⟩;have HN:=aA (HN.out W2 hS hK);clear hS hK hsz;go_wp2_with fail;exact⟨⟨k+1,by omega,by simp,⟨_,HN.out⟩⟩,by simp[intOf];omega⟩
  ·obtain rfl:k=m.o:=(by omega);go_wp2_with fail;go_end0
   refine⟨rfl,⟨some w.heap.size,B.P,B.S,C⟩,?_,HR.out.kp,?_⟩
   ·refine⟨HO.out.o8,hc,HD.out,HR.out.hb,HR.out.row,fun j hj=>HR.out.new j hj hj,HO.out.injS,HR.out.inj,fun i hi=>?_⟩;show PgOk (if i<m.n then m.pg i else bD)
    split
    ·rename_i e;exact HO.out.ok i e
    ·exact PgOk.zero
   ·rintro x (e|e|e|⟨j,hj,e|e⟩)
    ·exact .inl (.inl e)
    ·cases e
     exact .inr (Nat.le_refl _)
    ·exact .inl (.inr (.inr (.inl e)))
    ·exact .inl (.inr (.inr (.inr ⟨j,hj,.inl e⟩)))
    ·rcases HR.out.fr j hj with e2|e2
     ·exact .inl (.inr (.inr (.inr ⟨j,hj,.inr (e.trans e2)⟩)))
     ·exact .inr (by rw[show x=C j from e];exact e2)
theorem IQ(b:Nat)(B:Bs)(m:Mp)(c:Nat)(hc:c<=1024)(hd:∃ r,c=r*2 ^ m.o)(w:World)(h:MpA w b B m):
  Calls prog 189 #[.pointer (some ⟨b,0,none⟩),.int .i64 c] w fun e w'=>e=.returned (.tuple #[])/\∃ B',MpA w' b B' (gU m c)/\Kt (aY b B m.o) w w'/\dP w b B B' m.o:=by
 by_cases h0:m.o=0
 ·exact ziB b B m c hc hd w h h0
 ·obtain⟨q,hq,_⟩:=h.cp 0 (by omega);exact ziC b q B m c hc hd w h hq
def fU(pg:Nat->Pg)(p o:Nat)(k:Int):Nat->Pg:=fun i=>if i=p then bR k o else if p<i/\i<p+2 ^ o then bR (k+1) o else pg i
theorem YT{n mo p o r:Nat}(hn:n=r*2 ^ mo)(ho:o<=mo)(hp:p<n)(hm:p%2 ^ o=0):p+2 ^ o<=n:=by
 obtain⟨d,rfl⟩:∃ d,mo=o+d:=⟨mo-o,by omega⟩;obtain⟨a,ha⟩:∃ a,p=a*2 ^ o:=⟨p/2 ^ o,by have:=Nat.div_add_mod p (2 ^ o);rw[hm,Nat.add_zero,Nat.mul_comm] at this;exact this.symm⟩;obtain⟨b,hb⟩:∃ b,n=b*2 ^ o:=⟨r*2 ^ d,by rw[hn,Nat.pow_add,Nat.mul_comm (2 ^ o),Nat.mul_assoc]⟩;have h0 : 0<2 ^ o:=tG o;generalize 2 ^ o=z at *;subst ha hb;have:a<b:=Nat.lt_of_mul_lt_mul_right hp;calc a*z+z=(a+1)*z:=by rw[Nat.add_mul,Nat.one_mul]
  _<=b*z:=Nat.mul_le_mul_right _ this
theorem AC(b:Nat)(B:Bs)(m:Mp)(p o k:Nat)(w:World)(h:MpA w b B m)(hp:p<m.n)(ho:o<=m.o)(hm:p%2 ^ o=0)(hk:k=0\/k=2):
  Calls prog 138 #[.pointer (some ⟨b,0,none⟩),.int .i64 p,.int .i64 o,.int .i64 k] w fun e w'=>e=.returned (.int .i64 0)/\MpA w' b B { m with pg:=fU m.pg p o k }/\Kt (aY b B m.o) w w':=by
 obtain⟨r,hr⟩:=h.dv;have hfit:=YT hr ho hp hm;have ho8:o<=8:=by have:=h.o8;omega
 have hn1:=h.n1;obtain⟨g,hg,hrow⟩:=h.has_row (by omega);have HM:=aA h;have HI:=aA (dQ hp);have HG:=aA hg;have HP:=aA hp;have c0:=h.c0;have c1:=h.c1 hg;have hoi:¬(m.o:Int)<o:=by omega
 have hmi:(p:Int)%2 ^ o=0:=by
  have:((p%2 ^ o:Nat):Int)=0:=by rw[hm];rfl
  simpa using this
 have hpw : 1<=2 ^ o:=tG o;have hpw2 : 2 ^ o<=256:=Nat.pow_le_pow_right (n:=2) (by decide) ho8;obtain⟨z,hz⟩:=xe (2 ^ o);have hzi:(2:Int) ^ o=(z:Int):=by rw[hz];simp
 rw[<-hz] at hfit hpw hpw2;rw[hzi] at hmi;have HZ:=aA hz;clear h hr hg hrow hm hz;rcases hk with rfl|rfl
 ·go_enter func138,ntmps138;go_wp2_with fail;refine(gI b B m p _ HM.out).mono ?_;rintro e w1 ⟨rfl,rfl⟩;rw[HI.out];go_wp2_with fail;go_region_with ((go_at_call 184;refine(rX 0 o _).mono ?_;rintro e w2 ⟨rfl,hw2⟩;have K2:=aA (show Kt nO w1 w2 by rw[hw2];exact((Kt.refl nO w1).drew).alloc _);have R2:=aA (cR.kept (HM.out.rowg HG.out) K2.out (fun x=>x));obtain⟨d0,d1,d2,d3,d4,d5,d6,d7,d8,d9,d10⟩:=R2.out.cell p HP.out;have zz:=bF.froz R2.out;have c1:=(HM.out.keep K2.out).c1 HG.out;clear hw2))
  all_goals
   have R3:=aA (R2.out.put p HP.out (bR 0 o));have K3:=aA (show Kt (fun x=>x=g) w1 (eC w2 g p (bR 0 o))from K2.out.trans (rY w2 g p _) (fun _ _ x=>x.elim) (fun _ _ x=>x));generalize hW:eC w2 g p (bR 0 o)=W at R3 K3;unfold eC at hW;rw[hW];clear hW K2 R2 d0 d1 d2 d3 d4 d5 d6 d7 d8 d9 d10 zz c1;go_wp2_with fail;have H0:=aA (show cR W g m.n (fun i=>if i=p then bR 0 o else if p<i/\i<p+1 then bR 1 o else m.pg i)from R3.out.congr (fun i hi=>by unfold aI;by_cases e:i=p <;> simp[e];omega));go_loopw [10] (fun i W=>∃ q:Nat,p+1<=q/\q<=p+z/\i=.int .i64 q/\Hid (cR W g m.n (fun i=>if i=p then bR 0 o else if p<i/\i<q then bR 1 o else m.pg i)/\Kt (fun x=>x=g) w1 W)) (fun i _=>p+z-(intOf i).toNat)
   case atStart=>exact⟨p+1,Nat.le_refl _,by omega,by simp,⟨H0.out,K3.out⟩⟩
   case round=>
    clear H0 K3 R3;obtain⟨q,hq1,hqz,rfl,hR⟩:=hrel;have HR:=aA hR.out;clear hR;have KW:=aA (show MpA wr b B _ from HM.out.pages HG.out HR.out.2 HR.out.1 (fun i hi=>by
     by_cases e:i=p
     ·simp only[e,if_true];exact PgOk.blank _ _ (by omega) (by omega)
     ·simp only[e,if_false];split
      ·exact PgOk.blank _ _ (by omega) (by omega)
      ·exact HM.out.ok i hi))
    by_cases hlt:q<p+z
    ·have hji:(q:Int)<p+z:=(by omega);have hjn:(q:Int)<m.n:=(by omega);have HQ:=aA (show q<m.n/\q<p+z/\p+1<=q by omega);have c1:=KW.out.c1 HG.out;clear hlt hq1 hqz;go_wp2_with fail;go_region_with ((go_at_call 184;refine(rX 1 o _).mono ?_;rintro e w3 ⟨rfl,hw3⟩;have K4:=aA (show Kt nO wr w3 by rw[hw3];exact((Kt.refl nO wr).drew).alloc _);have R4:=aA (cR.kept HR.out.1 K4.out (fun x=>x));obtain⟨d0,d1,d2,d3,d4,d5,d6,d7,d8,d9,d10⟩:=R4.out.cell q HQ.out.1;have zz:=bF.froz R4.out;have c1:=(KW.out.keep K4.out).c1 HG.out;clear hw3))
     all_goals
      have R5:=aA (R4.out.put q HQ.out.1 (bR 1 o));have K5:=aA (show Kt (fun x=>x=g) w1 (eC w3 g q (bR 1 o))from(HR.out.2.trans (U:=fun x=>x=g) K4.out (fun _ _ x=>x) (fun _ _ x=>x.elim)).trans (rY w3 g q _) (fun _ _ x=>x) (fun _ _ x=>x));generalize hW:eC w3 g q (bR 1 o)=W5 at R5 K5;unfold eC at hW;rw[hW];clear hW K4 R4 d0 d1 d2 d3 d4 d5 d6 d7 d8 d9 d10 zz c1;have R6:=aA (show cR W5 g m.n (fun i=>if i=p then bR 0 o else if p<i/\i<q+1 then bR 1 o else m.pg i)from R5.out.congr (fun i hi=>by
       have:=HQ.out;unfold aI;by_cases e:i=q
       ·simp only[e,if_true];rw[if_neg (by omega),if_pos (by omega)]
       ·simp only[e,if_false];by_cases e2:i=p
        ·simp only[e2,if_true]
        ·simp only[e2,if_false];by_cases e3:p<i/\i<q
         ·rw[if_pos e3,if_pos (by omega)]
         ·rw[if_neg e3,if_neg (by omega)]))
      go_wp2_with fail;exact⟨⟨q+1,by have:=HQ.out;omega,by have:=HQ.out;omega,by simp,⟨R6.out,K5.out⟩⟩,by have:=HQ.out;simp[intOf];omega⟩
    ·have hji:¬(q:Int)<p+z:=(by omega);have HQ:=aA (show q=p+z by omega);clear hlt hq1 hqz;go_wp2_with fail;go_ret;refine⟨rfl,?_,HR.out.2.mono (fun x _ e=>.inr (.inl (by rw[e];exact HG.out)))⟩;have:=KW.out;rw[HQ.out,HZ.out] at this;exact this
 ·go_enter func138,ntmps138;go_wp2_with fail;refine(gI b B m p _ HM.out).mono ?_;rintro e w1 ⟨rfl,rfl⟩;rw[HI.out];go_wp2_with fail;go_region_with ((go_at_call 184;refine(rX 2 o _).mono ?_;rintro e w2 ⟨rfl,hw2⟩;have K2:=aA (show Kt nO w1 w2 by rw[hw2];exact((Kt.refl nO w1).drew).alloc _);have R2:=aA (cR.kept (HM.out.rowg HG.out) K2.out (fun x=>x));obtain⟨d0,d1,d2,d3,d4,d5,d6,d7,d8,d9,d10⟩:=R2.out.cell p HP.out;have zz:=bF.froz R2.out;have c1:=(HM.out.keep K2.out).c1 HG.out;clear hw2))
  all_goals
   have R3:=aA (R2.out.put p HP.out (bR 2 o));have K3:=aA (show Kt (fun x=>x=g) w1 (eC w2 g p (bR 2 o))from K2.out.trans (rY w2 g p _) (fun _ _ x=>x.elim) (fun _ _ x=>x));generalize hW:eC w2 g p (bR 2 o)=W at R3 K3;unfold eC at hW;rw[hW];clear hW K2 R2 d0 d1 d2 d3 d4 d5 d6 d7 d8 d9 d10 zz c1;go_wp2_with fail;have H0:=aA (show cR W g m.n (fun i=>if i=p then bR 2 o else if p<i/\i<p+1 then bR 3 o else m.pg i)from R3.out.congr (fun i hi=>by unfold aI;by_cases e:i=p <;> simp[e];omega));go_loopw [10] (fun i W=>∃ q:Nat,p+1<=q/\q<=p+z/\i=.int .i64 q/\Hid (cR W g m.n (fun i=>if i=p then bR 2 o else if p<i/\i<q then bR 3 o else m.pg i)/\Kt (fun x=>x=g) w1 W)) (fun i _=>p+z-(intOf i).toNat)
   case atStart=>exact⟨p+1,Nat.le_refl _,by omega,by simp,⟨H0.out,K3.out⟩⟩
   case round=>
    clear H0 K3 R3;obtain⟨q,hq1,hqz,rfl,hR⟩:=hrel;have HR:=aA hR.out;clear hR;have KW:=aA (show MpA wr b B _ from HM.out.pages HG.out HR.out.2 HR.out.1 (fun i hi=>by
     by_cases e:i=p
     ·simp only[e,if_true];exact PgOk.blank _ _ (by omega) (by omega)
     ·simp only[e,if_false];split
      ·exact PgOk.blank _ _ (by omega) (by omega)
      ·exact HM.out.ok i hi))
    by_cases hlt:q<p+z
    ·have hji:(q:Int)<p+z:=(by omega);have hjn:(q:Int)<m.n:=(by omega);have HQ:=aA (show q<m.n/\q<p+z/\p+1<=q by omega);have c1:=KW.out.c1 HG.out;clear hlt hq1 hqz;go_wp2_with fail;go_region_with ((go_at_call 184;refine(rX 3 o _).mono ?_;rintro e w3 ⟨rfl,hw3⟩;have K4:=aA (show Kt nO wr w3 by rw[hw3];exact((Kt.refl nO wr).drew).alloc _);have R4:=aA (cR.kept HR.out.1 K4.out (fun x=>x));obtain⟨d0,d1,d2,d3,d4,d5,d6,d7,d8,d9,d10⟩:=R4.out.cell q HQ.out.1;have zz:=bF.froz R4.out;have c1:=(KW.out.keep K4.out).c1 HG.out;clear hw3))
     all_goals
      have R5:=aA (R4.out.put q HQ.out.1 (bR 3 o));have K5:=aA (show Kt (fun x=>x=g) w1 (eC w3 g q (bR 3 o))from(HR.out.2.trans (U:=fun x=>x=g) K4.out (fun _ _ x=>x) (fun _ _ x=>x.elim)).trans (rY w3 g q _) (fun _ _ x=>x) (fun _ _ x=>x));generalize hW:eC w3 g q (bR 3 o)=W5 at R5 K5;unfold eC at hW;rw[hW];clear hW K4 R4 d0 d1 d2 d3 d4 d5 d6 d7 d8 d9 d10 zz c1;have R6:=aA (show cR W5 g m.n (fun i=>if i=p then bR 2 o else if p<i/\i<q+1 then bR 3 o else m.pg i)from R5.out.congr (fun i hi=>by
       have:=HQ.out;unfold aI;by_cases e:i=q
       ·simp only[e,if_true];rw[if_neg (by omega),if_pos (by omega)]
       ·simp only[e,if_false];by_cases e2:i=p
        ·simp only[e2,if_true]
        ·simp only[e2,if_false];by_cases e3:p<i/\i<q
         ·rw[if_pos e3,if_pos (by omega)]
         ·rw[if_neg e3,if_neg (by omega)]))
      go_wp2_with fail;exact⟨⟨q+1,by have:=HQ.out;omega,by have:=HQ.out;omega,by simp,⟨R6.out,K5.out⟩⟩,by have:=HQ.out;simp[intOf];omega⟩
    ·have hji:¬(q:Int)<p+z:=(by omega);have HQ:=aA (show q=p+z by omega);clear hlt hq1 hqz;go_wp2_with fail;go_ret;refine⟨rfl,?_,HR.out.2.mono (fun x _ e=>.inr (.inl (by rw[e];exact HG.out)))⟩;have:=KW.out;rw[HQ.out,HZ.out] at this;exact this
def kT(m:Mp)(p o k:Int):Bool:=decide ((k=0\/k=2)/\0<=o/\o<=m.o) && (aJ m.n p && decide (p%2 ^ o.toNat=0))
theorem MR(b:Nat)(B:Bs)(m:Mp)(p o k:Int)(w:World)(h:MpA w b B m)(hc:¬((k=0\/k=2)/\0<=o/\o<=m.o)):
  Calls prog 138 #[.pointer (some ⟨b,0,none⟩),.int .i64 p,.int .i64 o,.int .i64 k] w fun e w'=>e=.returned (.int .i64 1)/\w'=w:=by
 have c0:=h.c0;clear h;by_cases h0:k=0
 ·subst h0;by_cases h1:o<0
  ·clear hc;go_enter func138,ntmps138;go_wp2_with fail;go_ret;exact⟨rfl,rfl⟩
  ·have h2:(m.o:Int)<o:=(by omega);clear hc;go_enter func138,ntmps138;go_wp2_with fail;go_ret;exact⟨rfl,rfl⟩
 ·by_cases h2k:k=2
  ·subst h2k;by_cases h1:o<0
   ·clear hc;go_enter func138,ntmps138;go_wp2_with fail;go_ret;exact⟨rfl,rfl⟩
   ·have h2:(m.o:Int)<o:=(by omega);clear hc;go_enter func138,ntmps138;go_wp2_with fail;go_ret;exact⟨rfl,rfl⟩
  ·clear hc;go_enter func138,ntmps138;go_wp2_with fail;go_ret;exact⟨rfl,rfl⟩
theorem MQ(b:Nat)(B:Bs)(m:Mp)(p:Int)(o k:Nat)(w:World)(h:MpA w b B m)(hk:k=0\/k=2)(ho:o<=m.o)(hp:aJ m.n p=false):
  Calls prog 138 #[.pointer (some ⟨b,0,none⟩),.int .i64 p,.int .i64 o,.int .i64 k] w fun e w'=>e=.returned (.int .i64 1)/\w'=w:=by
 have c0:=h.c0;have HM:=aA h;have HP:=aA hp;have hoi:¬(m.o:Int)<o:=by omega
 have ho0:¬(o:Int)<0:=by omega
 clear h hp;rcases hk with rfl|rfl
 all_goals
  go_enter func138,ntmps138;go_wp2_with fail;refine(gI b B m p _ HM.out).mono ?_;rintro e w1 ⟨rfl,rfl⟩;rw[HP.out];go_wp2_with fail;go_ret;exact⟨rfl,rfl⟩
theorem OU(b:Nat)(B:Bs)(m:Mp)(p o k:Nat)(w:World)(h:MpA w b B m)(hk:k=0\/k=2)(ho:o<=m.o)(hp:p<m.n)(hm:p%2 ^ o≠0):
  Calls prog 138 #[.pointer (some ⟨b,0,none⟩),.int .i64 p,.int .i64 o,.int .i64 k] w fun e w'=>e=.returned (.int .i64 1)/\w'=w:=by
 have c0:=h.c0;have HM:=aA h;have HP:=aA (dQ hp);have ho8:o<=8:=by have:=h.o8;omega
 have hn1:=h.n1;have hoi:¬(m.o:Int)<o:=by omega
 have ho0:¬(o:Int)<0:=by omega
 obtain⟨z,hz⟩:=xe (2 ^ o);have hzi:(2:Int) ^ o=(z:Int):=by rw[hz];simp
 have hz1 : 1<=z:=by rw[hz];exact tG o
 have hz2:z<=256:=by rw[hz];exact Nat.pow_le_pow_right (n:=2) (by decide) ho8
 rw[<-hz] at hm;have hmi:((p:Int)%(z:Int) == 0)=false:=beq_eq_false_iff_ne.2 (by omega);have hmj:((p:Int)%(z:Int) != 0)=true:=by simp only[bne,hmi,Bool.not_false]
 clear h hp hz hm;rcases hk with rfl|rfl
 all_goals
  go_enter func138,ntmps138;go_wp2_with fail;refine(gI b B m p _ HM.out).mono ?_;rintro e w1 ⟨rfl,rfl⟩;rw[HP.out];go_wp2_with fail;go_ret;exact⟨rfl,rfl⟩
def cN(m:Mp)(p o k:Int):Mp:=if kT m p o k=true then { m with pg:=fU m.pg p.toNat o.toNat k } else m
def gL(m:Mp)(p o k:Int):Int:=if kT m p o k=true then 0 else 1
theorem DP(b:Nat)(B:Bs)(m:Mp)(p o k:Int)(w:World)(h:MpA w b B m):
  Calls prog 138 #[.pointer (some ⟨b,0,none⟩),.int .i64 p,.int .i64 o,.int .i64 k] w fun e w'=>e=.returned (.int .i64 (gL m p o k))/\MpA w' b B (cN m p o k)/\Kt (aY b B m.o) w w':=by
 have no:∀ {E:Ending} {w':World},kT m p o k=false->E=.returned (.int .i64 1)/\w'=w->E=.returned (.int .i64 (gL m p o k))/\MpA w' b B (cN m p o k)/\Kt (aY b B m.o) w w':=by
  rintro E w' hc ⟨rfl,rfl⟩;rw[show gL m p o k=1 by simp[gL,hc],show cN m p o k=m by simp[cN,hc]];exact⟨rfl,h,Kt.refl _ _⟩
 by_cases h1:(k=0\/k=2)/\0<=o/\o<=m.o
 ·obtain⟨o',rfl⟩:=Int.eq_ofNat_of_zero_le h1.2.1;obtain⟨k',rfl⟩:=Int.eq_ofNat_of_zero_le (show 0<=k by omega);have ho:o'<=m.o:=by omega
  have hk:k'=0\/k'=2:=by omega
  cases h2:aJ m.n p with
  | false=>exact(MQ b B m p o' k' w h hk ho h2).mono (fun _ _=>no (by simp[kT,h2]))
  | true=>
   obtain⟨q,rfl,hq⟩:=iO h2;have e1:((q:Int)%2 ^ (o':Int).toNat=0)↔q%2 ^ o'=0:=by
    have:((q:Int)%2 ^ (o':Int).toNat)=((q%2 ^ o':Nat):Int):=by simp
    rw[this];omega
   by_cases h3:q%2 ^ o'=0
   ·have hc:kT m (q:Int) (o':Int) (k':Int)=true:=by
     unfold kT;rw[decide_eq_true h1,h2,decide_eq_true (e1.2 h3)];rfl
    rw[show gL m (q:Int) (o':Int) (k':Int)=0 by simp[gL,hc],show cN m (q:Int) (o':Int) (k':Int)={ m with pg:=fU m.pg q o' k' } by simp[cN,hc]];exact AC b B m q o' k' w h hq ho h3 hk
   ·exact(OU b B m q o' k' w h hk ho hq h3).mono (fun _ _=>no (by
     unfold kT;rw[show decide ((q:Int)%2 ^ (o':Int).toNat=0)=false from decide_eq_false (fun e=>h3 (e1.1 e))];simp))
 ·exact(MR b B m p o k w h h1).mono (fun _ _=>no (by
   unfold kT;rw[decide_eq_false h1];rfl))
theorem dP.kept{w w1 w2:World}{b:Nat}{B B':Bs}{o:Nat}(k:Kt (aY b B o) w w1)(f:dP w b B B' o)(k2:Kt (aY b B' o) w1 w2):Kt (aY b B o) w w2:=
 k.trans k2 (fun _ _ x=>x) (fun x hx e=>(f x e).resolve_right (by omega))
def dH(m:Mp):Mp:=if 1024<m.n+2 ^ m.o then m else { gU m (m.n+2 ^ m.o)with pg:=fU (gU m (m.n+2 ^ m.o)).pg m.n m.o 2 }
theorem ziE(b:Nat)(B:Bs)(m:Mp)(w:World)(h:MpA w b B m)(hf : 1024<m.n+2 ^ m.o):
  Calls prog 199 #[.pointer (some ⟨b,0,none⟩)] w fun e w'=>e=.returned (.tuple #[])/\w'=w:=by
 obtain⟨cq,c0,c1,c2⟩:=h.cb;have ho8:=h.o8;have hn1:=h.n1;obtain⟨z,hz⟩:=xe (2 ^ m.o);have hzi:(2:Int) ^ m.o=(z:Int):=by rw[hz];simp
 have hz2:z<=256:=by rw[hz];exact Nat.pow_le_pow_right (n:=2) (by decide) ho8
 rw[<-hz] at hf;have hfi:(1024:Int)<(m.n:Int)+z:=by omega
 clear h hz;go_enter func199,ntmps199;go_wp2_with fail;exact⟨rfl,.tuple #[],by simp[results,results199,go_sem],rfl,rfl⟩
theorem MN{n o:Nat}(h:∃ r,n=r*2 ^ o):∃ r,n+2 ^ o=r*2 ^ o:=by
 obtain⟨r,hr⟩:=h;exact⟨r+1,by rw[hr,Nat.add_mul,Nat.one_mul]⟩
theorem ML{n o:Nat}(h:∃ r,n=r*2 ^ o):n%2 ^ o=0:=by
 obtain⟨r,hr⟩:=h;rw[hr];exact Nat.mul_mod_left _ _
theorem UK(b:Nat)(B:Bs)(m:Mp)(w:World)(h:MpA w b B m)(hf:¬ 1024<m.n+2 ^ m.o):
  Calls prog 199 #[.pointer (some ⟨b,0,none⟩)] w fun e w'=>e=.returned (.tuple #[])/\∃ B',MpA w' b B' (dH m)/\Kt (aY b B m.o) w w'/\dP w b B B' m.o:=by
 rw[show dH m={ gU m (m.n+2 ^ m.o)with pg:=fU (gU m (m.n+2 ^ m.o)).pg m.n m.o 2 } by simp only[dH,if_neg hf]];obtain⟨cq,c0,c1,c2⟩:=h.cb;have ho8:=h.o8;have hn1:=h.n1;have RZ:=aA (IQ b B m (m.n+2 ^ m.o) (by omega) (MN h.dv) w h);have RN:=aA (fun w1 B1 (h1:MpA w1 b B1 (gU m (m.n+2 ^ m.o)))=>AC b B1 (gU m (m.n+2 ^ m.o)) m.n m.o 2 w1 h1 (by show m.n<m.n+2 ^ m.o;have:=tG m.o;omega) (Nat.le_refl _) (ML h.dv) (.inr rfl));obtain⟨z,hz⟩:=xe (2 ^ m.o);have hzi:(2:Int) ^ m.o=(z:Int):=by rw[hz];simp
 have hz2:z<=256:=by rw[hz];exact Nat.pow_le_pow_right (n:=2) (by decide) ho8
 rw[<-hz] at hf RZ RN ⊢;have hfi:¬(1024:Int)<(m.n:Int)+z:=by omega
 have hcast:((m.n+z:Nat):Int)=(m.n:Int)+z:=by omega
 rw[hcast] at RZ;have HOM:=aA (show(gU m (m.n+z)).o=m.o from rfl);generalize gU m (m.n+z)=m2 at *;clear h hz hcast;go_enter func199,ntmps199;go_wp2_with fail;refine RZ.out.mono ?_;rintro e w1 ⟨rfl,B1,hM1,hK1,hF1⟩;have M1:=aA hM1;have K1:=aA hK1;have F1:=aA hF1;have c0:=hM1.c0;rw[HOM.out] at c0;clear hM1 hK1 hF1;go_wp2_with fail;refine(RN.out w1 B1 M1.out).mono ?_;rintro e w2 ⟨rfl,hM2,hK2⟩;have M2:=aA hM2;have K2:=aA hK2;rw[HOM.out] at K2;clear hM2 hK2;go_wp2_with fail;go_end0
 exact⟨rfl,B1,M2.out,dP.kept K1.out F1.out K2.out,F1.out⟩
theorem dP.refl(w:World)(b:Nat)(B:Bs)(o:Nat):dP w b B B o:=fun _ h=>.inl h
theorem YS(b:Nat)(B:Bs)(m:Mp)(w:World)(h:MpA w b B m):
  Calls prog 199 #[.pointer (some ⟨b,0,none⟩)] w fun e w'=>e=.returned (.tuple #[])/\∃ B',MpA w' b B' (dH m)/\Kt (aY b B m.o) w w'/\dP w b B B' m.o:=by
 by_cases hf : 1024<m.n+2 ^ m.o
 ·refine(ziE b B m w h hf).mono ?_;rintro e w' ⟨rfl,rfl⟩;rw[show dH m=m by simp only[dH,if_pos hf]];exact⟨rfl,B,h,Kt.refl _ _,dP.refl _ _ _ _⟩
 ·exact UK b B m w h hf
theorem MJ{n o k:Nat}(h:∃ r,n=r*2 ^ o):∃ r,n-k*2 ^ o=r*2 ^ o:=by
 obtain⟨r,hr⟩:=h;exact⟨r-k,by rw[hr,Nat.sub_mul]⟩
theorem UJ(n o d:Nat)(ho:o<=8)(hd:(n:Int)*2 ^ o=d)(hd2:d<=1024)(W:World):Sem.run prog (Op.shift BinOp.shl IntKind.i64 (n:Int) IntKind.i64 (o:Int)) W=Result.ok (.int .i64 d) W:=by
 unfold Op.shift;simp[go_sem];rw[if_neg (by omega),Nat.min_eq_left (by omega),hd,show IntKind.i64.wrap (d:Int)=d by rw[IntKind.wrap_i64];omega]
theorem ziF(b:Nat)(B:Bs)(m:Mp)(n:Nat)(w:World)(h:MpA w b B m)(hn:n<=m.n/2 ^ m.o):
  Calls prog 141 #[.pointer (some ⟨b,0,none⟩),.int .i64 n] w fun e w'=>e=.returned (.int .i64 0)/\∃ B',MpA w' b B' (gU m (m.n-n*2 ^ m.o))/\Kt (aY b B m.o) w w'/\dP w b B B' m.o:=by
 obtain⟨cq,c0,c1,c2⟩:=h.cb;have ho8:=h.o8;have hn1:=h.n1;have RZ:=aA (fun w' (kk:Kt nO w w')=>IQ b B m (m.n-n*2 ^ m.o) (by omega) (MJ h.dv) w' (h.keep kk));have hle:n*2 ^ m.o<=m.n:=Nat.le_trans (Nat.mul_le_mul_right _ hn) (Nat.div_mul_le_self _ _);have hn0:¬(n:Int)<0:=by omega
 have hdi:¬(m.n:Int)/2 ^ m.o<(n:Int):=by
  have:(m.n:Int)/2 ^ m.o=((m.n/2 ^ m.o:Nat):Int):=by simp
  rw[this];omega
 have hmul:(n:Int)*2 ^ m.o=((n*2 ^ m.o:Nat):Int):=by simp
 obtain⟨d,hd⟩:=xe (n*2 ^ m.o);rw[<-hd] at hle hmul RZ ⊢;have hcast:((m.n-d:Nat):Int)=(m.n:Int)-d:=by omega
 rw[hcast] at RZ;have hd10:d<=1024:=by omega
 have hdn:decide ((n:Int)<0)=false:=decide_eq_false hn0;have hdd:decide ((m.n:Int)/2 ^ m.o<(n:Int))=false:=decide_eq_false hdi;have hsh:=UJ n m.o d ho8 hmul hd10;have hws:IntKind.i64.wrap ((m.n:Int)-d)=(m.n:Int)-d:=by rw[IntKind.wrap_i64];omega
 clear h hd hcast hn;go_enter func141,ntmps141;go_wp2_with fail;go_quiet (fail)
 go_wp2_with fail;obtain⟨W,hW⟩:=xe (w.drewN nq);have KW:=aA (show Kt nO w W by rw[hW];exact(Kt.refl nO w).drewN nq);have c0:=KW.out.cell (fun x=>x) c0;have c1:=KW.out.cell (fun x=>x) c1;rw[<-hW];have HAR:=aA (show IntKind.i64.wrap ((m.n:Int)-IntKind.i64.wrap ((n:Int)*2 ^ min m.o 64))=(m.n:Int)-d by rw[Nat.min_eq_left (by omega),hmul,show IntKind.i64.wrap (d:Int)=d by rw[IntKind.wrap_i64];omega];exact hws);clear hW hmul hdi hdd hdn hn0 c2 hle ho8 hn1 hsh hws;go_region_with ((go_at_call 189;rw[HAR.out];refine(RZ.out _ (KW.out.drew)).mono ?_;rintro e w1 ⟨rfl,B1,hM1,hK1,hF1⟩))
 all_goals
  have F1:=aA (show ∃ B',MpA w1 b B' (gU m (m.n-d))/\Kt (aY b B m.o) w w1/\dP w b B B' m.o from⟨B1,hM1,KW.out.drew.trans hK1 (fun _ _ x=>x.elim) (fun _ _ x=>x),fun x hx=>(hF1 x hx).imp (fun h=>h) (fun h=>Nat.le_trans KW.out.size h)⟩);clear hM1 hK1 hF1;go_wp2_with fail;go_ret;exact⟨rfl,F1.out⟩
def gT(w w':World)(b:Nat)(B:Bs)(o:Nat)(m':Mp):Prop:=MpA w' b B m'/\Kt (aY b B o) w w'
theorem gT.same{w w' b B m}(h:MpA w b B m)(k:Kt nO w w'):gT w w' b B m.o m:=⟨h.keep k,k.mono (fun _ _ x=>x.elim)⟩
theorem gT.mk{w w' b B o m'}(h:MpA w' b B m')(k:Kt (aY b B o) w w'):gT w w' b B o m':=⟨h,k⟩
theorem MI(b:Nat)(B:Bs)(m:Mp)(i c:Int)(w:World)(h:MpA w b B m)(hc:¬(aJ m.n i=true/\0<=c/\c<=7)):
  Calls prog 192 #[.pointer (some ⟨b,0,none⟩),.int .i64 i,.int .i64 c] w fun e w'=>e=.returned (.int .i64 1)/\Kt nO w w':=by
 have HM:=aA h
 cases hi:aJ m.n i with
 | false=>
  have HI:=aA hi;clear h hc hi;go_enter func192,ntmps192;go_wp2_with fail;refine(gI b B m i _ HM.out).mono ?_;rintro e w1 ⟨rfl,rfl⟩;rw[HI.out];go_wp2_with fail;go_ret;exact⟨rfl,Kt.refl nO _⟩
 | true=>
  have HI:=aA hi;by_cases h0:c<0
  ·clear h hc hi;go_enter func192,ntmps192;go_wp2_with fail;refine(gI b B m i _ HM.out).mono ?_;rintro e w1 ⟨rfl,rfl⟩;rw[HI.out];go_wp2_with fail;go_ret;exact⟨rfl,Kt.refl nO _⟩
  ·have h8 : 8<=c:=by
    by_cases h7:c<=7
    ·exact absurd ⟨hi,by omega,h7⟩ hc
    ·omega
   clear h hc hi;go_enter func192,ntmps192;go_wp2_with fail;refine(gI b B m i _ HM.out).mono ?_;rintro e w1 ⟨rfl,rfl⟩;rw[HI.out];go_wp2_with fail;go_ret;exact⟨rfl,Kt.refl nO _⟩
theorem YR(b:Nat)(B:Bs)(m:Mp)(i c:Int)(w:World)(h:MpA w b B m):
  Calls prog 192 #[.pointer (some ⟨b,0,none⟩),.int .i64 i,.int .i64 c] w fun e w'=>e=.returned (.int .i64 (qP m i c))/\gT w w' b B m.o (kQ m i c):=by
 by_cases hc:aJ m.n i=true/\0<=c/\c<=7
 ·rw[show qP m i c=0 from if_pos hc,show kQ m i c={ m with pg:=aI m.pg i.toNat (eK c) } from if_pos hc];obtain⟨k,rfl,hk⟩:=iO hc.1;obtain⟨d,rfl⟩:=Int.eq_ofNat_of_zero_le hc.2.1;refine(TU b B m k d w h hk (by omega)).mono ?_;rintro e w' ⟨rfl,h1,h2⟩;exact⟨rfl,gT.mk h1 h2⟩
 ·rw[show qP m i c=1 from if_neg hc,show kQ m i c=m from if_neg hc];refine(MI b B m i c w h hc).mono ?_;rintro e w' ⟨rfl,hk⟩;exact⟨rfl,gT.same h hk⟩
def pI(m:Mp)(i c:Int):Bool:=aJ m.n i && (decide ((m.pg i.toNat).kd=4) && aJ (fD (m.pg i.toNat).cl) c)
def kS(m:Mp)(i c:Int)(live:Bool):Bool:=pI m i c && (aN (m.pg i.toNat) c.toNat != live)
def cG(m:Mp)(i c:Int)(live:Bool):Mp:=if kS m i c live=true then { m with pg:=aI m.pg i.toNat (aW (m.pg i.toNat) c.toNat) } else m
def eW(m:Mp)(i c:Int)(live:Bool):Int:=if kS m i c live=true then 0 else 1
theorem UI(b:Nat)(B:Bs)(m:Mp)(i c:Int)(live:Bool)(w:World)(h:MpA w b B m):
  Calls prog 128 #[.pointer (some ⟨b,0,none⟩),.int .i64 i,.int .i64 c,.bool live] w fun e w'=>e=.returned (.int .i64 (eW m i c live))/\gT w w' b B m.o (cG m i c live):=by
 have no:∀ {E:Ending} {w':World},kS m i c live=false->E=.returned (.int .i64 1)/\w'=w->E=.returned (.int .i64 (eW m i c live))/\gT w w' b B m.o (cG m i c live):=by
  rintro E w' hc ⟨rfl,rfl⟩;rw[show eW m i c live=1 by simp[eW,hc],show cG m i c live=m by simp[cG,hc]];exact⟨rfl,gT.same h (Kt.refl _ _)⟩
 cases hi:aJ m.n i with
 | false=>exact(TS b B m i c live w h hi).mono (fun _ _=>no (by simp[kS,pI,hi]))
 | true=>
  obtain⟨k,rfl,hk⟩:=iO hi;by_cases hkd:(m.pg k).kd=4
  ·cases hc:aJ (fD (m.pg k).cl) c with
   | false=>exact(XT b B m k c live w h hk hkd hc).mono (fun _ _=>no (by simp[kS,pI,hc]))
   | true=>
    obtain⟨d,rfl,hd⟩:=QS (h.ok k hk).c0 hc;by_cases hl:aN (m.pg k) d=live
    ·subst hl;refine(XS b B m k d w h hk hkd hc hd).mono ?_;rintro E w' ⟨rfl,hkk⟩;have hcc:kS m (k:Int) (d:Int) (aN (m.pg k) d)=false:=(by simp[kS]);rw[show eW m (k:Int) (d:Int) (aN (m.pg k) d)=1 by simp[eW,hcc],show cG m (k:Int) (d:Int) (aN (m.pg k) d)=m by simp[cG,hcc]];exact⟨rfl,gT.same h hkk⟩
    ·obtain rfl:live=!aN (m.pg k) d:=(by revert hl;cases aN (m.pg k) d <;> cases live <;> simp);have hcc:kS m (k:Int) (d:Int) (!aN (m.pg k) d)=true:=by
      unfold kS pI;rw[hi,Int.toNat_natCast,Int.toNat_natCast,decide_eq_true hkd,hc]
      cases aN (m.pg k) d <;> rfl
     rw[show eW m (k:Int) (d:Int) (!aN (m.pg k) d)=0 by simp[eW,hcc],show cG m (k:Int) (d:Int) (!aN (m.pg k) d)={ m with pg:=aI m.pg k (aW (m.pg k) d) } by simp[cG,hcc]];refine(XR b B m k d w h hk hkd hc hd).mono ?_;rintro E w' ⟨rfl,h1,h2⟩;exact⟨rfl,gT.mk h1 h2⟩
  ·exact(XU b B m k c live w h hk hkd).mono (fun _ _=>no (by simp[kS,pI,hkd]))
def mA(m:Mp)(i c:Int):Bool:=aJ m.n i && (decide ((m.pg i.toNat).kd=4) && (c == -1 || aJ (fD (m.pg i.toNat).cl) c))
def gR(m:Mp)(i c:Int):Mp:=if mA m i c=true then { m with pg:=aI m.pg i.toNat { m.pg i.toNat with fs:=c } } else m
def lG(m:Mp)(i c:Int):Int:=if mA m i c=true then 0 else 1
theorem ziG(b:Nat)(B:Bs)(m:Mp)(i c:Int)(w:World)(h:MpA w b B m):
  Calls prog 179 #[.pointer (some ⟨b,0,none⟩),.int .i64 i,.int .i64 c] w fun e w'=>e=.returned (.int .i64 (lG m i c))/\gT w w' b B m.o (gR m i c):=by
 have no:∀ {E:Ending} {w':World},mA m i c=false->E=.returned (.int .i64 1)/\w'=w->E=.returned (.int .i64 (lG m i c))/\gT w w' b B m.o (gR m i c):=by
  rintro E w' hc ⟨rfl,rfl⟩;rw[show lG m i c=1 by simp[lG,hc],show gR m i c=m by simp[gR,hc]];exact⟨rfl,gT.same h (Kt.refl _ _)⟩
 cases hi:aJ m.n i with
 | false=>exact(zhV b B m i c w h hi).mono (fun _ _=>no (by simp[mA,hi]))
 | true=>
  obtain⟨k,rfl,hk⟩:=iO hi;by_cases hkd:(m.pg k).kd=4
  ·by_cases hc:c = -1\/aJ (fD (m.pg k).cl) c=true
   ·have hcc:mA m (k:Int) c=true:=by
     unfold mA;rw[hi,Int.toNat_natCast,decide_eq_true hkd];rcases hc with rfl|hc
     ·rfl
     ·simp[hc]
    rw[show lG m (k:Int) c=0 by simp[lG,hcc],show gR m (k:Int) c={ m with pg:=aI m.pg k { m.pg k with fs:=c } } by simp[gR,hcc]];refine(XO b B m k c w h hk hkd hc).mono ?_;rintro E w' ⟨rfl,h1,h2⟩;exact⟨rfl,gT.mk h1 h2⟩
   ·have h1:c ≠ -1:=fun e=>hc (.inl e)
    have h2:aJ (fD (m.pg k).cl) c=false:=by cases e:aJ (fD (m.pg k).cl) c with|false=>rfl|true=>exact absurd (.inr e) hc
    exact(zha b B m k c w h hk hkd h1 h2).mono (fun _ _=>no (by simp[mA,h1,h2]))
  ·exact(zg9 b B m k c w h hk hkd).mono (fun _ _=>no (by simp[mA,hkd]))
def lI(m:Mp)(i x y:Int):Bool:=aJ m.n i && (decide ((m.pg i.toNat).kd=4) && (dF m.n x && dF m.n y))
def eQ(m:Mp)(i x y:Int):Mp:=if lI m i x y=true then { m with pg:=aI m.pg i.toNat { m.pg i.toNat with nx:=x,pv:=y } } else m
def oH(m:Mp)(i x y:Int):Int:=if lI m i x y=true then 0 else 1
theorem ziH(b:Nat)(B:Bs)(m:Mp)(i x y:Int)(w:World)(h:MpA w b B m):
  Calls prog 177 #[.pointer (some ⟨b,0,none⟩),.int .i64 i,.int .i64 x,.int .i64 y] w fun e w'=>e=.returned (.int .i64 (oH m i x y))/\gT w w' b B m.o (eQ m i x y):=by
 have no:∀ {E:Ending} {w':World},lI m i x y=false->E=.returned (.int .i64 1)/\w'=w->E=.returned (.int .i64 (oH m i x y))/\gT w w' b B m.o (eQ m i x y):=by
  rintro E w' hc ⟨rfl,rfl⟩;rw[show oH m i x y=1 by simp[oH,hc],show eQ m i x y=m by simp[eQ,hc]];exact⟨rfl,gT.same h (Kt.refl _ _)⟩
 cases hi:aJ m.n i with
 | false=>exact(zhW b B m i x y w h hi).mono (fun _ _=>no (by simp[lI,hi]))
 | true=>
  obtain⟨k,rfl,hk⟩:=iO hi;by_cases hkd:(m.pg k).kd=4
  ·cases hx:dF m.n x with
   | false=>
    have h1:x ≠ -1:=fun e=>by subst e;simp[dF] at hx
    have h2:aJ m.n x=false:=(by simpa [dF,h1] using hx);exact(zhc b B m k x y w h hk hkd h1 h2).mono (fun _ _=>no (by simp[lI,hx]))
   | true=>
    cases hy:dF m.n y with
    | false=>exact(JE b B m k x y w h hk hkd hx 1 w (.inl ⟨hy,rfl,rfl⟩)).mono (fun _ _=>no (by simp[lI,hy]))
    | true=>
     obtain⟨g,hg,hr⟩:=h.has_row (by omega);have hcc:lI m (k:Int) x y=true:=by
      unfold lI;rw[hi,Int.toNat_natCast,decide_eq_true hkd,hx,hy];rfl
     rw[show oH m (k:Int) x y=0 by simp[oH,hcc],show eQ m (k:Int) x y={ m with pg:=aI m.pg k { m.pg k with nx:=x,pv:=y } } by simp[eQ,hcc]];refine(JE b B m k x y w h hk hkd hx 0 _ (.inr ⟨hy,rfl,g,hg,rfl⟩)).mono ?_;rintro E w' ⟨rfl,rfl⟩;refine⟨rfl,gT.mk (h.pages hg (((Kt.refl (fun x=>x=g) w).setCell (p:=⟨g,_,none⟩) rfl _).setCell (p:=⟨g,_,none⟩) rfl _) (hr.f45 k hk x y) (fun j hj=>?_)) (((Kt.refl (aY b B m.o) w).setCell (p:=⟨g,_,none⟩) (.inr (.inl hg)) _).setCell (p:=⟨g,_,none⟩) (.inr (.inl hg)) _)⟩;unfold aI;split
     ·exact⟨(h.ok k hk).o0,(h.ok k hk).o8,(h.ok k hk).c0,(h.ok k hk).c7,(h.ok k hk).b0,(h.ok k hk).b1,(h.ok k hk).b2,(h.ok k hk).b3⟩
     ·exact h.ok j hj
  ·exact(zhb b B m k x y w h hk hkd).mono (fun _ _=>no (by simp[lI,hkd]))
def oQ(k i:Int):Nat:=i.toNat/2 ^ (k.toNat+1)
def oR(m:Mp)(k:Int):Nat:=m.n/2 ^ (k.toNat+1)
def eG(m:Mp)(k i:Int):Bool:=aJ m.o k && aJ m.n i
def gB(m:Mp)(k i:Int):Mp:=if eG m k i=true then { m with wd:=jH m.wd k.toNat (kP (oR m k) (m.wd k.toNat) (oQ k i:Int)) } else m
def qN(m:Mp)(k i:Int):Int:=if eG m k i=true then 0 else 1
def jQ(m:Mp)(k i:Int):Bool:=eG m k i && kI (oR m k) (m.wd k.toNat) (oQ k i:Int)
def dI(s:Nat):Value:=.pointer (some ⟨s,0,none⟩)
def PL(w:World)(v:Value)(xs:List Nat):Prop:=w.ownsRow 0 174 1 v xs.length (xs.map dI)
theorem YQ:(prog.info? 174).map (fun i=>(i.zero,i.size,i.bytes))=some (some (.pointer none),1,8):=by kernel_rfl
theorem zdK:∃ i,prog.info? 174=some i/\i.zero=some (.pointer none)/\i.size=1/\i.bytes=8:=by
 obtain⟨i,hi,hzz⟩:=Option.map_eq_some_iff.1 YQ;simp only[Prod.mk.injEq] at hzz;exact⟨i,hi,hzz.1,hzz.2.1,hzz.2.2⟩
theorem lX{w w':World}{row:Option Nat}(h:w.grownBy w' row):Kt (fun b=>row=some b) w w':=⟨h.os,h.tape,h.output,h.size,fun k hk hn=>h.block k hk (fun e=>hn e.symm)⟩
theorem PL.blk{w v xs r}(h:PL w v xs)(hr:v.ownBlock=some r):∃ cs,w.heap[r]?=some (.cells cs 174 (0,0)):=by
 rcases h.2 with ⟨rfl,_⟩|⟨g,cap,cur,rfl,hb,hg,h3⟩
 ·simp[Value.ownBlock] at hr
 ·simp[Value.ownBlock] at hr;subst hr;exact⟨_,hg⟩
theorem PL.kept{w w' v xs}{S:Nat->Prop}(h:PL w v xs)(k:Kt S w w')(hS:∀ r,v.ownBlock=some r->¬S r):PL w' v xs:=by
 refine⟨h.1,?_⟩;rcases h.2 with h0|⟨g,cap,cur,rfl,hb,hg,h3⟩
 ·exact .inl h0
 ·exact .inr ⟨g,cap,cur,rfl,hb,(k.block g (lH hg) (hS g rfl)).trans hg,h3⟩
theorem PL.push(w:World)(v:Value)(xs:List Nat)(x:Nat)(h:PL w v xs)(hlen:xs.length+1<=8)(a:Addr)(c:Nat)(ha:w.cell? (a.add 0)=some (dI x)):
  ∃ v' w',(∀ ty,(Builtin.append_ #[139,139] ty #[v,.slice (some a) 1 c]).run prog w=.ok v' w')/\PL w' v' (xs ++ [x])/\Kt (fun b=>v.ownBlock=some b) w w'/\
   (v'.ownBlock=v.ownBlock\/∃ r,v'.ownBlock=some r/\w.heap.size<=r)/\∃ g cap,v'=.slice (some ⟨g,0,none⟩) (xs.length+1) cap:=by
 obtain⟨i,hi,hz0,hz1,hz2⟩:=zdK;have hmax:xs.length+1<=maxLen:=by simp only[maxLen];omega
 have hnews:∀ j u,[dI x][j]?=some u->w.cell? (a.add j)=some u:=by
  intro j u hj;match j,hj with
  | 0,hj=>simp at hj;subst hj;exact ha
  | j+1,hj=>simp at hj
 have hmap:(xs ++ [x]).map dI=xs.map dI ++ [dI x]:=by simp
 have hl1:(xs ++ [x]).length=xs.length + 1:=by simp
 by_cases hr:∃ g cap,v=.slice (some ⟨g,0,none⟩) xs.length cap/\xs.length+1<=cap
 ·obtain⟨g,cap,rfl,hroom⟩:=hr;obtain⟨w',hrun,hown,hgr⟩:=run_append_fits (P:=prog) w 0 139 0 174 i 1 Tryz.underlying139 hi hz1 g xs.length cap (xs.map dI) h a 1 c [dI x] rfl hnews (by simp[Value.oneCell',dI]) hroom;refine⟨.slice (some ⟨g,0,none⟩) (xs.length+1) cap,w',fun ty=>?_,?_,lX hgr,.inl rfl,g,cap,rfl⟩
  ·rw[<-hrun];simp[Builtin.append_]
  ·unfold PL;rw[hmap,hl1];exact hown
 ·have key:∃ v' w',(Builtin.append_ #[139,139] 0 #[v,.slice (some a) 1 c]).run prog w=.ok v' w'/\w'.ownsRow w.heap.size 174 1 v' (xs.length + 1) (xs.map dI ++ [dI x])/\Kt (fun b=>v.ownBlock=some b) w w':=by
   have ho:=h;rcases ho.2 with ⟨rfl,h0⟩|⟨g,cap,cur,rfl,hb,hg,hnc,hcm,hcs,htake⟩
   ·have:xs=[]:=List.eq_nil_of_length_eq_zero h0;subst this;obtain⟨v',w',hrun,hown,hgr,_⟩:=run_append_own (P:=prog) w w.heap.size 139 0 174 i (.pointer none) 1 8 Tryz.underlying139 hi hz0 hz1 hz2 rfl (by decide) (.slice none 0 0) 0 [] (World.ownsRow_nil _ _ _ _) a 1 c [dI x] rfl hnews (by simp[Value.oneCell',dI]) hmax (by simp) (Nat.le_refl _);exact⟨v',w',hrun,hown,lX hgr⟩
   ·obtain⟨v',w',hrun,hown,hgr⟩:=run_append_arg_grows (P:=prog) w 139 0 174 i (.pointer none) 1 8 Tryz.underlying139 hi hz0 hz1 hz2 rfl (by decide) ⟨g,0,none⟩ xs.length cap (xs.map dI) (by simp) (fun j u hj=>by
     rw[Addr.add_lit,Nat.zero_add];rw[<-htake,List.getElem?_take] at hj;split at hj
     ·simp only[World.cell?,hg];rw[<-Array.getElem?_toList,hj];rfl
     ·cases hj) a 1 c [dI x] rfl hnews (Nat.lt_of_not_le fun hle=>hr ⟨g,cap,rfl,hle⟩) hmax (by omega)
    exact⟨v',w',hrun,hown,(lX hgr).mono (fun _ _ e=>by cases e)⟩
  obtain⟨v',w',hrun,hown,hk⟩:=key;rcases hown.2 with ⟨_,h0⟩|⟨g,cap,cur,rfl,hb,hg,h3⟩
  ·omega
  ·refine⟨_,w',fun ty=>?_,?_,hk,.inr ⟨g,rfl,hb⟩,g,cap,rfl⟩
   ·rw[<-hrun];simp[Builtin.append_]
   ·unfold PL;rw[hmap,hl1];exact⟨hown.1,.inr ⟨g,cap,cur,rfl,Nat.zero_le _,hg,h3⟩⟩
theorem uU(w:World)(v:Value)(t:TypeId):(w.alloc (.cells #[v] t)).cell? ⟨w.heap.size,0+0,none⟩=some v:=by
 have:=nH w (.cells #[v] t);simp only[World.cell?,this];rfl
structure Pushed(w w':World)(v v':Value)(xs:List Nat)(x:Nat):Prop where
 pl:PL w' v' (xs ++ [x])
 kp:Kt (fun b=>v.ownBlock=some b) w w'
 ob:v'.ownBlock=v.ownBlock\/∃ r,v'.ownBlock=some r/\w.heap.size<=r
 sl:∃ g cap,v'=.slice (some ⟨g,0,none⟩) (xs.length+1) cap
theorem xU{ops:Array Oper}{o:Oper}{a:Act}{w:World}{K:Act->World->Prop}{Q:Exit->Act->World->Prop}{E:Prop}(hgd:o.guard=none)(s x:Operand)
  (hop:o.op=Op.call { callee:=Callee.builtin Builtin.append,args:=#[s,x],argTypes:=#[139,139] }) (v:Value) (xs:List Nat) (n y b:Nat) (c0 c1:Value) (h:PL w v xs) (hn:xs.length=n) (hl:n+1<=8)
  (hb:w.heap[b]?=some (.cells #[c0,c1,v] 141 (0,0))) (ad:Addr) (c:Nat)
  (hs:a.eval s=v) (hx:a.eval x=.slice (some ad) 1 c) (ha:w.cell? (ad.add 0)=some (dI y))
  (hK:∀ g' cap' w',Hid (Pushed w w' v (.slice (some ⟨g',0,none⟩) (n+1) cap') xs y)->w'.cell? ⟨b,2,none⟩=some v->w'.frozen? ⟨b,2,none⟩=false->K (a.put o.dst (.slice (some ⟨g',0,none⟩) (n+1) cap')) w'):
  if Region.wanted o (yielded ops a.tmps)=true then Oper.wp prog o a w K Q else E:=by
 have hw:Region.wanted o (yielded ops a.tmps)=true:=by simp[Region.wanted,hgd]
 rw[if_pos hw];obtain⟨v',w',hrun,h1,h2,h3,g',cap',rfl⟩:=h.push w v xs y (by omega) ad c ha;rw[hn] at hrun h1 h3;have hrun:=hrun o.type;have hb':w'.heap[b]?=some (.cells #[c0,c1,v] 141 (0,0)):=(h2.block b (lH hb) (fun e=>by
  obtain⟨cs,hcs⟩:=h.blk e;exact dN hb hcs (by decide) rfl)).trans hb
 unfold Oper.wp;simp[execOp,hop,resolve,invoke,builtin,hs,hx,hrun,Result.andThen];exact hK g' cap' w' ⟨h1,h2,h3,g',cap',by rw[hn]⟩ (by simp[World.cell?,hb']) (by simp[World.frozen?,hb'])
theorem yL{ops:Array Oper}{o:Oper}{a:Act}{w:World}{K:Act->World->Prop}{Q:Exit->Act->World->Prop}{E:Prop}(hgd:o.guard=none)
  (hop:o.op=Op.call { callee:=Callee.value (Operand.func 114),args:=#[Operand.const (Value.int .i64 0)],argTypes:=#[3] }) (b:Nat) (v:Value) (hc:w.cell? ⟨b,2,none⟩=some v)
  (hK:∀ W2,Hid (SetAt W2 (w.heap.size+1) w.heap.size 0 [])->Hid (Kt nO w W2)->W2.cell? ⟨b,2,none⟩=some v->K (a.put o.dst (.pointer (some ⟨w.heap.size+1,0,none⟩))) W2):
  if Region.wanted o (yielded ops a.tmps)=true then Oper.wp prog o a w K Q else E:=by
 have hw:Region.wanted o (yielded ops a.tmps)=true:=by simp[Region.wanted,hgd]
 rw[if_pos hw];unfold Oper.wp;simp[execOp,hop,resolve,invoke,Deferred.ofValue,Act.eval,callFunc,Result.andThen,go_sem];rw[if_neg (by decide +kernel),if_neg (by decide +kernel)];show Calls prog 114 _ _ _
 refine(IY 0 (by decide) (by decide) w).mono ?_;rintro e W2 ⟨rfl,hS,hk,hsz⟩;exact hK W2 (RawAt.set hS (fun i hi=>absurd hi (by simp))) hk (hk.cell (fun x=>x) hc)
structure Nw(w W:World)(b o k:Nat)(v:Value)(S C:Nat->Nat):Prop where
 hb:W.heap[b]?=some (.cells #[.int .i64 o,.slice none 0 0,v] 141 (0,0))
 pl:PL W v ((List.range k).map S)
 vs:v=.slice none 0 0/\k=0\/∃ g cap,v=.slice (some ⟨g,0,none⟩) k cap/\w.heap.size<=g
 st:∀ j,j<k->SetAt W (S j) (C j) 0 []
 iS:∀ i j,i<k->j<k->S i=S j->i=j
 iC:∀ i j,i<k->j<k->C i=C j->i=j
 hS:∀ j,j<k->w.heap.size<=S j/\w.heap.size<=C j
 hw:w.heap.size<=b
 kp:Kt nO w W
theorem Nw.next{w W W2 W3 b o k v v' S C}(h:Nw w W b o k v S C)(hS:SetAt W2 (W.heap.size+1) W.heap.size 0 [])(k2:Kt nO W W2)(hp:Pushed W2 W3 v v' ((List.range k).map S) (W.heap.size+1)):
  Nw w (W3.setCell ⟨b,2,none⟩ v') b o (k+1) v' (fun j=>if j=k then W.heap.size+1 else S j) (fun j=>if j=k then W.heap.size else C j):=by
 have hvb:∀ r,v.ownBlock=some r->∃ cs,W.heap[r]?=some (.cells cs 174 (0,0)):=fun r hr=>h.pl.blk hr
 have kv:Kt (fun x=>v.ownBlock=some x) W W3:=k2.trans hp.kp (fun _ _ x=>x.elim) (fun _ _ x=>x);have hb3:W3.heap[b]?=some (.cells #[.int .i64 o,.slice none 0 0,v] 141 (0,0)):=(kv.block b (lH h.hb) (fun e=>by
  obtain⟨cs,hcs⟩:=hvb _ e;exact dN h.hb hcs (by decide) rfl)).trans h.hb
 have ks:Kt (fun x=>x=b) W3 (W3.setCell ⟨b,2,none⟩ v'):=(Kt.refl (fun x=>x=b) W3).setCell (p:=⟨b,2,none⟩) rfl _;have set3:∀ {s c n ws},SetAt W2 s c n ws->SetAt (W3.setCell ⟨b,2,none⟩ v') s c n ws:=fun {s c n ws} hs=>by
  have hvb2:∀ r,v.ownBlock=some r->∃ cs,W2.heap[r]?=some (.cells cs 174 (0,0)):=fun r hr=>by
   obtain⟨cs,hcs⟩:=hvb r hr;exact⟨cs,(k2.block r (lH hcs) (fun x=>x)).trans hcs⟩
  have h3:=hs.kept hp.kp (fun e=>by obtain⟨cs,hcs⟩:=hvb2 _ e;exact dN hs.hb hcs (by decide) rfl) (fun e=>by obtain⟨cs,hcs⟩:=hvb2 _ e;exact dN hs.hc hcs (by decide) rfl);exact h3.kept ks (dN h3.hb hb3 (by decide)) (dN h3.hc hb3 (by decide))
 have hmap:(List.range (k + 1)).map (fun j=>if j=k then W.heap.size + 1 else S j)=(List.range k).map S ++ [W.heap.size + 1]:=by
  rw[List.range_succ,List.map_append];congr 1
  ·exact List.map_congr_left (fun j hj=>by rw[if_neg (by have:=List.mem_range.1 hj;omega)])
  ·simp
 obtain⟨g,cap,hv'⟩:=hp.sl;rw[List.length_map,List.length_range] at hv';have ltS:∀ j,j<k->S j<W.heap.size:=fun j hj=>lH (h.st j hj).hb
 have ltC:∀ j,j<k->C j<W.heap.size:=fun j hj=>lH (h.st j hj).hc
 refine⟨(bB hb3 2 _).trans (by simp),?_,.inr ⟨g,cap,hv',?_⟩,fun j hj=>?_,fun i j hi hj e=>?_,fun i j hi hj e=>?_,fun j hj=>?_,h.hw,?_⟩
 ·rw[hmap];exact hp.pl.kept ks (fun r hr e=>by obtain⟨cs,hcs⟩:=hp.pl.blk hr;exact dN hcs hb3 (by decide) e)
 ·rcases hp.ob with e|⟨r,e,hr⟩
  ·rw[hv'] at e;rcases h.vs with ⟨h0,_⟩|⟨g2,cap2,h0,hg2⟩
   ·rw[h0] at e;simp[Value.ownBlock] at e
   ·rw[h0] at e;simp[Value.ownBlock] at e;omega
  ·rw[hv'] at e;simp[Value.ownBlock] at e;have:=h.kp.size;have:=k2.size;omega
 ·by_cases e:j=k
  ·simp only[e,if_true];exact set3 hS
  ·simp only[e,if_false];exact set3 ((h.st j (by omega)).kept k2 (fun x=>x) (fun x=>x))
 ·by_cases e1:i=k <;> by_cases e2:j=k <;> simp only[e1,e2,if_true,if_false] at e
  ·omega
  ·have:=ltS j (by omega);omega
  ·have:=ltS i (by omega);omega
  ·exact h.iS i j (by omega) (by omega) e
 ·by_cases e1:i=k <;> by_cases e2:j=k <;> simp only[e1,e2,if_true,if_false] at e
  ·omega
  ·have:=ltC j (by omega);omega
  ·have:=ltC i (by omega);omega
  ·exact h.iC i j (by omega) (by omega) e
 ·have hz:=h.kp.size;by_cases e:j=k
  ·simp only[e,if_true];omega
  ·simp only[e,if_false];exact h.hS j (by omega)
 ·refine(h.kp.trans (U:=nO) kv (fun _ _ x=>x) (fun x hx e=>?_)).setNew (p:=⟨b,2,none⟩) (fun e=>absurd e (Nat.not_lt.2 h.hw)) _;rcases h.vs with ⟨h0,_⟩|⟨g2,cap2,h0,hg2⟩
  ·rw[h0] at e;simp[Value.ownBlock] at e
  ·rw[h0] at e;simp[Value.ownBlock] at e;omega
def cX(o:Nat):Mp:=⟨o,0,fun _=>bD,fun _=>[]⟩
def jA(w:World)(b:Nat)(B:Bs)(o:Nat):Prop:=∀ x,aY b B o x->w.heap.size<=x
theorem Nw.fin{w W b o v S C}(h:Nw w W b o o v S C)(ho:o<=8):∃ B,MpA W b B (cX o)/\jA w b B o:=by
 have hs:∀ k,k<o->SetAt W (S k) (C k) (0/2 ^ (k+1)) []:=fun k hk=>by rw[Nat.zero_div];exact h.st k hk
 rcases h.vs with ⟨hv,h0⟩|⟨g,cap,hv,hg⟩
 ·refine⟨⟨none,none,S,C⟩,⟨ho,Nat.zero_le _,⟨0,by simp[cX]⟩,⟨0,?_,h0,rfl⟩,rfl,hs,h.iS,h.iC,fun i hi=>absurd hi (Nat.not_lt_zero _)⟩,?_⟩
  ·have:=h.hb;rw[hv] at this;subst h0;exact this
  ·rintro x (rfl|e|e|⟨k,hk,_⟩)
   ·exact h.hw
   ·cases e
   ·cases e
   ·omega
 ·have hp:=h.pl;rcases hp.2 with ⟨h0,_⟩|⟨g2,cap2,cur,h0,hb2,hg2,h3,h4,h5,h6⟩
  ·rw[hv] at h0;cases h0
  ·rw[hv] at h0;simp at h0;obtain⟨rfl,-,rfl⟩:=h0;refine⟨⟨none,some g,S,C⟩,⟨ho,Nat.zero_le _,⟨0,by simp[cX]⟩,⟨cap,?_,cur,hg2,by have:=h5;omega,by show o<=cap;have:=h3;simp at this;omega,fun k hk=>?_⟩,rfl,hs,h.iS,h.iC,fun i hi=>absurd hi (Nat.not_lt_zero _)⟩,?_⟩
   ·have:=h.hb;rw[hv] at this;exact this
   ·have e:(cur.toList.take (((List.range o).map S).length*1))[k]?=(((List.range o).map S).map dI)[k]?:=(by rw[h6]);rw[List.getElem?_take,if_pos (by simp;exact hk)] at e;have hk2:k<o:=hk;simpa [hk2,dI] using e
   ·rintro x (rfl|e|e|⟨k,hk,rfl|rfl⟩)
    ·exact h.hw
    ·cases e
    ·cases e;exact hg
    ·exact(h.hS k hk).1
    ·exact(h.hS k hk).2
theorem OT(o:Nat)(ho:o<=8)(w:World):
  Calls prog 71 #[.int .i64 o] w fun e w'=>∃ b B,e=.returned (.pointer (some ⟨b,0,none⟩))/\MpA w' b B (cX o)/\Kt nO w w'/\jA w b B o:=by
 have HO:=aA (show o<=8 by omega);go_enter func71,ntmps71;go_wp2
 have H0:=aA (show Nw w (w.alloc (.cells #[.int .i64 o,.slice none 0 0,.slice none 0 0] 141)) w.heap.size o 0 (.slice none 0 0) (fun _=>0) (fun _=>0)from
  ⟨nH w _,World.ownsRow_nil _ _ _ _,.inl ⟨rfl,rfl⟩,fun j hj=>absurd hj (by omega),fun i j hi=>absurd hi (by omega),fun i j hi=>absurd hi (by omega),fun j hj=>absurd hj (by omega),Nat.le_refl _,(Kt.refl nO w).alloc _⟩)
 go_loopw [13] (fun i W=>∃ k:Nat,k<=o/\i=.int .i64 k/\Hid (∃ v S C,Nw w W w.heap.size o k v S C)) (fun i _=>o-(intOf i).toNat)
 case atStart=>exact⟨0,by omega,rfl,⟨_,_,_,H0.out⟩⟩
 case round=>
  clear H0;obtain⟨k,hk,rfl,hR⟩:=hrel;obtain⟨v,S,C,hR⟩:=hR.out;have HR:=aA hR;have c2:wr.cell? ⟨w.heap.size,2,none⟩=some v:=by simp[World.cell?,hR.hb]
  clear hR;by_cases hlt:k<o
  ·have hki:(k:Int)<o:=(by omega);go_wp2_with fail;go_region_law (first|(refine yL rfl rfl w.heap.size v c2 ?_;intro W2 HS K2 c2;have K2:=aA (nT (Kt.refl nO wr).drew K2.out);have c22:=((Kt.refl nO W2).alloc (.cells #[.pointer (some ⟨wr.heap.size+1,0,none⟩)] 174)).cell (fun x=>x) c2)|(refine xU rfl (.tmp 19) (.tmp 21) rfl v _ k (wr.heap.size+1) w.heap.size _ _ ((HR.out.pl.kept K2.out (fun _ _ x=>x)).kept ((Kt.refl nO W2).alloc _) (fun _ _ x=>x)) (by simp) (by have:=HO.out;omega) (((K2.out.alloc _).block w.heap.size (lH HR.out.hb) (fun x=>x)).trans HR.out.hb) ⟨W2.heap.size,0,none⟩ 1 rfl rfl (by rw[Addr.add_lit];exact uU _ _ _) ?_;intro g' cap' W3 HPU e2 z2))
   all_goals
    have HN:=aA (HR.out.next (HS.out.kept ((Kt.refl nO W2).alloc _) (fun x=>x) (fun x=>x)) (K2.out.alloc _) HPU.out);generalize hW:W3.setCell ⟨w.heap.size,2,none⟩ (.slice (some ⟨g',0,none⟩) (k+1) cap')=W4 at HN;clear hW HPU e2 z2 c22 c2;go_wp2_with fail;exact⟨⟨k+1,by omega,by simp,⟨_,_,_,HN.out⟩⟩,by simp[intOf];omega⟩
  ·have hki:¬(k:Int)<o:=(by omega);obtain⟨B,hB,hN⟩:=(show Nw w wr w.heap.size o o v S C from by
    have e:k=o:=(by omega);rw[e] at HR;exact HR.out).fin HO.out
   have HF:=aA (show MpA wr w.heap.size B (cX o)/\Kt nO w wr/\jA w w.heap.size B o from⟨hB,HR.out.kp,hN⟩);clear hB hN;go_wp2_with fail;go_ret;exact⟨w.heap.size,rfl,B,HF.out⟩
theorem OS(i:Int)(hi:i<0)(w:World):
  Calls prog 71 #[.int .i64 i] w fun e w'=>∃ b B,e=.returned (.pointer (some ⟨b,0,none⟩))/\MpA w' b B (cX 0)/\Kt nO w w'/\jA w b B 0:=by
 have HO:=aA (show 0<=8 by omega);go_enter func71,ntmps71;go_wp2
 have H0:=aA (show Nw w (w.alloc (.cells #[.int .i64 0,.slice none 0 0,.slice none 0 0] 141)) w.heap.size 0 0 (.slice none 0 0) (fun _=>0) (fun _=>0)from
  ⟨nH w _,World.ownsRow_nil _ _ _ _,.inl ⟨rfl,rfl⟩,fun j hj=>absurd hj (by omega),fun i j hi=>absurd hi (by omega),fun i j hi=>absurd hi (by omega),fun j hj=>absurd hj (by omega),Nat.le_refl _,(Kt.refl nO w).alloc _⟩)
 go_loopw [13] (fun i W=>∃ k:Nat,k<=0/\i=.int .i64 k/\Hid (∃ v S C,Nw w W w.heap.size 0 k v S C)) (fun i _=>0-(intOf i).toNat)
 case atStart=>exact⟨0,by omega,rfl,⟨_,_,_,H0.out⟩⟩
 case round=>
  clear H0;obtain⟨k,hk,rfl,hR⟩:=hrel;obtain⟨v,S,C,hR⟩:=hR.out;have HR:=aA hR;have c2:wr.cell? ⟨w.heap.size,2,none⟩=some v:=by simp[World.cell?,hR.hb]
  clear hR;by_cases hlt:k<0
  ·have hki:(k:Int)<0:=(by omega);go_wp2_with fail;go_region_law (first|(refine yL rfl rfl w.heap.size v c2 ?_;intro W2 HS K2 c2;have K2:=aA (nT (Kt.refl nO wr).drew K2.out);have c22:=((Kt.refl nO W2).alloc (.cells #[.pointer (some ⟨wr.heap.size+1,0,none⟩)] 174)).cell (fun x=>x) c2)|(refine xU rfl (.tmp 19) (.tmp 21) rfl v _ k (wr.heap.size+1) w.heap.size _ _ ((HR.out.pl.kept K2.out (fun _ _ x=>x)).kept ((Kt.refl nO W2).alloc _) (fun _ _ x=>x)) (by simp) (by have:=HO.out;omega) (((K2.out.alloc _).block w.heap.size (lH HR.out.hb) (fun x=>x)).trans HR.out.hb) ⟨W2.heap.size,0,none⟩ 1 rfl rfl (by rw[Addr.add_lit];exact uU _ _ _) ?_;intro g' cap' W3 HPU e2 z2))
   all_goals
    have HN:=aA (HR.out.next (HS.out.kept ((Kt.refl nO W2).alloc _) (fun x=>x) (fun x=>x)) (K2.out.alloc _) HPU.out);generalize hW:W3.setCell ⟨w.heap.size,2,none⟩ (.slice (some ⟨g',0,none⟩) (k+1) cap')=W4 at HN;clear hW HPU e2 z2 c22 c2;go_wp2_with fail;exact⟨⟨k+1,by omega,by simp,⟨_,_,_,HN.out⟩⟩,by simp[intOf];omega⟩
  ·have hki:¬(k:Int)<0:=(by omega);obtain⟨B,hB,hN⟩:=(show Nw w wr w.heap.size 0 0 v S C from by
    have e:k=0:=(by omega);rw[e] at HR;exact HR.out).fin HO.out
   have HF:=aA (show MpA wr w.heap.size B (cX 0)/\Kt nO w wr/\jA w w.heap.size B 0 from⟨hB,HR.out.kp,hN⟩);clear hB hN;go_wp2_with fail;go_ret;exact⟨w.heap.size,rfl,B,HF.out⟩
theorem OQ(i:Int)(hi : 8<i)(w:World):
  Calls prog 71 #[.int .i64 i] w fun e w'=>∃ b B,e=.returned (.pointer (some ⟨b,0,none⟩))/\MpA w' b B (cX 8)/\Kt nO w w'/\jA w b B 8:=by
 have HO:=aA (show 8<=8 by omega);go_enter func71,ntmps71;go_wp2
 have H0:=aA (show Nw w (w.alloc (.cells #[.int .i64 8,.slice none 0 0,.slice none 0 0] 141)) w.heap.size 8 0 (.slice none 0 0) (fun _=>0) (fun _=>0)from
  ⟨nH w _,World.ownsRow_nil _ _ _ _,.inl ⟨rfl,rfl⟩,fun j hj=>absurd hj (by omega),fun i j hi=>absurd hi (by omega),fun i j hi=>absurd hi (by omega),fun j hj=>absurd hj (by omega),Nat.le_refl _,(Kt.refl nO w).alloc _⟩)
 go_loopw [13] (fun i W=>∃ k:Nat,k<=8/\i=.int .i64 k/\Hid (∃ v S C,Nw w W w.heap.size 8 k v S C)) (fun i _=>8-(intOf i).toNat)
 case atStart=>exact⟨0,by omega,rfl,⟨_,_,_,H0.out⟩⟩
 case round=>
  clear H0;obtain⟨k,hk,rfl,hR⟩:=hrel;obtain⟨v,S,C,hR⟩:=hR.out;have HR:=aA hR;have c2:wr.cell? ⟨w.heap.size,2,none⟩=some v:=by simp[World.cell?,hR.hb]
  clear hR;by_cases hlt:k<8
  ·have hki:(k:Int)<8:=(by omega);go_wp2_with fail;go_region_law (first|(refine yL rfl rfl w.heap.size v c2 ?_;intro W2 HS K2 c2;have K2:=aA (nT (Kt.refl nO wr).drew K2.out);have c22:=((Kt.refl nO W2).alloc (.cells #[.pointer (some ⟨wr.heap.size+1,0,none⟩)] 174)).cell (fun x=>x) c2)|(refine xU rfl (.tmp 19) (.tmp 21) rfl v _ k (wr.heap.size+1) w.heap.size _ _ ((HR.out.pl.kept K2.out (fun _ _ x=>x)).kept ((Kt.refl nO W2).alloc _) (fun _ _ x=>x)) (by simp) (by have:=HO.out;omega) (((K2.out.alloc _).block w.heap.size (lH HR.out.hb) (fun x=>x)).trans HR.out.hb) ⟨W2.heap.size,0,none⟩ 1 rfl rfl (by rw[Addr.add_lit];exact uU _ _ _) ?_;intro g' cap' W3 HPU e2 z2))
   all_goals
    have HN:=aA (HR.out.next (HS.out.kept ((Kt.refl nO W2).alloc _) (fun x=>x) (fun x=>x)) (K2.out.alloc _) HPU.out);generalize hW:W3.setCell ⟨w.heap.size,2,none⟩ (.slice (some ⟨g',0,none⟩) (k+1) cap')=W4 at HN;clear hW HPU e2 z2 c22 c2;go_wp2_with fail;exact⟨⟨k+1,by omega,by simp,⟨_,_,_,HN.out⟩⟩,by simp[intOf];omega⟩
  ·have hki:¬(k:Int)<8:=(by omega);obtain⟨B,hB,hN⟩:=(show Nw w wr w.heap.size 8 8 v S C from by
    have e:k=8:=(by omega);rw[e] at HR;exact HR.out).fin HO.out
   have HF:=aA (show MpA wr w.heap.size B (cX 8)/\Kt nO w wr/\jA w w.heap.size B 8 from⟨hB,HR.out.kp,hN⟩);clear hB hN;go_wp2_with fail;go_ret;exact⟨w.heap.size,rfl,B,HF.out⟩
def fN(i:Int):Nat:=if i<0 then 0 else if 8<i then 8 else i.toNat
theorem UH(i:Int)(w:World):
  Calls prog 71 #[.int .i64 i] w fun e w'=>∃ b B,e=.returned (.pointer (some ⟨b,0,none⟩))/\MpA w' b B (cX (fN i))/\Kt nO w w'/\jA w b B (fN i):=by
 by_cases h:i<0
 ·rw[show fN i=0 by simp[fN,h]];exact OS i h w
 ·by_cases h8 : 8<i
  ·rw[show fN i=8 by simp[fN,h,h8]];exact OQ i h8 w
  ·obtain⟨o,rfl⟩:=Int.eq_ofNat_of_zero_le (show 0<=i by omega);rw[show fN (o:Int)=o by unfold fN;rw[if_neg (by omega),if_neg (by omega)];rfl];exact OT o (by omega) w
structure GS(w0 W:World)(e:TypeId)(size:Nat)(v:Value)(n:Nat)(xs:List Value):Prop where
 own:W.ownsRow 0 e size v n xs
 new:∀ g cap,v=.slice (some ⟨g,0,none⟩) n cap->cap<=n\/w0.heap.size<=g
 kp:Kt nO w0 W
theorem yF{w w':World}{row:Option Nat}(h:w.grownBy w' row):Kt (fun b=>row=some b) w w':=⟨h.os,h.tape,h.output,h.size,fun k hk hn=>h.block k hk (fun e=>hn e.symm)⟩
theorem GS.nil(w0 W:World)(e:TypeId)(size:Nat)(k:Kt nO w0 W):GS w0 W e size (.slice none 0 0) 0 []:=
 ⟨World.ownsRow_nil _ _ _ _,fun g cap h=>by simp at h,k⟩
theorem GS.keep{w0 W W' e size v n xs}(h:GS w0 W e size v n xs)(k:Kt nO W W'):GS w0 W' e size v n xs:=by
 refine⟨⟨h.own.1,?_⟩,h.new,nT h.kp k⟩;rcases h.own.2 with h0|⟨g,cap,cur,rfl,hb,hg,h3⟩
 ·exact .inl h0
 ·exact .inr ⟨g,cap,cur,rfl,hb,(k.block g (lH hg) (fun x=>x)).trans hg,h3⟩
theorem YP:(prog.info? 27).map (fun i=>(i.zero,i.size,i.bytes))=some (some (.int .u64 0),1,8):=by kernel_rfl
theorem pX{w:World}{cs:Array Value}{t:TypeId}(j:Nat)(u:Value)(h:cs.toList[j]?=some u):(w.alloc (.cells cs t)).cell? (Addr.add ⟨w.heap.size,0,none⟩ j)=some u:=by
 rw[Addr.add_lit,Nat.zero_add];have:=nH w (.cells cs t);simp only[World.cell?,this];rw[<-Array.getElem?_toList,h];rfl
end Go.Proofs.YtbgbfpklgfpepaaGreatDoor
