import Derived.Test.YtkfmheelhinjdaaGreatDoorZc
import Derived.Deep.OwnRows
import Derived.ArgAppend
import Derived.Laws.OwnMore
import Derived.Maps.AppendAt
import Derived.Lib.AppendZeros
set_option maxRecDepth 1000000
set_option maxHeartbeats 80000000
namespace Go.Proofs.YtkfmheelhinjdaaGreatDoor
open _root_.Go.Proofs.Tryz
open Go.RowKit
set_option linter.unusedVariables false
theorem zec(k c:Nat)(hk:k<8)(hc:c<=1024)(w:World):
  Calls prog 289 #[.int .i64 k,.int .i64 c] w fun e w'=>e=.returned (.int .i64 ((c/2 ^ (k+1):Nat):Int))/\w'=w:=by
 go_enter func289,ntmps289;go_wp2_with fail;go_ret;exact⟨eJ (by simp),rfl⟩
theorem pP(b:Nat)(B:Bs)(m:Mp)(k i:Int)(w:World)(h:MpA w b B m):
  Calls prog 284 #[.pointer (some ⟨b,0,none⟩),.int .i64 k,.int .i64 i] w fun e w'=>e=.returned (.bool (aC m.o k && aC m.n i))/\w'=w:=by
 have HM:=aA h;have c0:=h.c0;clear h
 cases hk:aC m.o k with
 | true=>
  obtain⟨j,rfl,hj⟩:=gM hk;rw[Bool.true_and];have hji:(j:Int)<m.o:=by omega
  clear hk;go_enter func284,ntmps284;go_wp2_with fail;refine(eR b B m i _ HM.out).mono ?_;rintro e w1 ⟨rfl,rfl⟩;go_wp2_with fail;go_ret;exact⟨rfl,rfl⟩
 | false=>
  rw[Bool.false_and];by_cases h0 : 0<=k
  ·have h1:¬k<(m.o:Int):=(by simp[aC,h0] at hk;omega);clear hk;go_enter func284,ntmps284;go_wp2_with fail;go_ret;exact⟨rfl,rfl⟩
  ·clear hk;go_enter func284,ntmps284;go_wp2_with fail;go_ret;exact⟨rfl,rfl⟩
theorem MpA.c2{w b B m}{q:Nat}(h:MpA w b B m)(hq:B.P=some q):∃ cq,w.cell? ⟨b,2,none⟩=some (.slice (some ⟨q,0,none⟩) m.o cq):=by
 obtain⟨cq,hb,_⟩:=h.hb;exact⟨cq,by simp[World.cell?,hb,hq,dC]⟩
theorem qH(k:Nat) : 0<2 ^ k:=Nat.pow_pos (by decide)
theorem OE(b:Nat)(B:Bs)(m:Mp)(k i:Nat)(w:World)(h:MpA w b B m)(hk:k<m.o)(hi:i<m.n):
  Calls prog 286 #[.pointer (some ⟨b,0,none⟩),.int .i64 k,.int .i64 i] w fun e w'=>e=.returned (.bool (cA (m.n/2 ^ (k+1)) (m.wd k) ((i/2 ^ (k+1):Nat):Int)))/\Kt nO w w':=by
 have HQ:=aA (fun q=>pP b B m k i (w.drewN q) (h.keep ((Kt.refl nO w).drewN q)));rw[show(aC m.o (k:Int) && aC m.n (i:Int))=true by rw[dI hk,dI hi];rfl] at HQ;obtain⟨q,hq,cp⟩:=h.cp k hk;obtain⟨cq,c2⟩:=h.c2 hq;have HG:=aA (fun z=>mL (B.S k) (B.C k) _ (m.wd k) ((i/2 ^ (k+1):Nat):Int) (w.drewN z) ((h.set k hk).kept ((Kt.refl nO w).drewN z) (fun x=>x) (fun x=>x)));have hk8:k<8:=by have:=h.o8;omega
 have hi10:i<1024:=by have:=h.n1;omega
 have hki:(k:Int)<m.o:=by omega
 clear h hq;go_enter func286,ntmps286;go_wp2_with fail;go_quiet (first|(go_at_call 284;exact Calls.quiet_of_same (HQ.out _))|(go_at_call 222;exact Calls.quiet_of_same (HG.out _)))
 go_wp2_with fail;go_ret;exact⟨rfl,(Kt.refl nO w).drewN _⟩
theorem XH:(prog.info? 99).map (fun i=>(i.zero,i.size,i.bytes))=some (some (cC aR),11,88):=by kernel_rfl
theorem uV:∃ i,prog.info? 99=some i/\i.zero=some (cC aR)/\i.size=11/\i.bytes=88:=by
 obtain⟨i,hi,hzz⟩:=Option.map_eq_some_iff.1 XH;simp only[Prod.mk.injEq] at hzz;exact⟨i,hi,hzz.1,hzz.2.1,hzz.2.2⟩
theorem MX(p:Pg)(j:Nat):(p.fld j).oneCell'=true:=by unfold Pg.fld;split <;> rfl
theorem rV(c:Nat)(hc:c<=1024)(w:World):
  ∃ w1,(Instr.makeSlice 33 (.int .i64 c) (.int .i64 c)).run prog w=.ok (.slice (some ⟨w.heap.size,0,none⟩) c c) w1/\bH w1 w.heap.size c (fun _=>aR)/\Kt nO w w1/\w1.heap.size=w.heap.size+1:=by
 obtain⟨i,hi,hz,hs,hb⟩:=uV;have hr:=run_make (P:=prog) w 33 99 i (cC aR) Tryz.underlying33 hi hz .i64 .i64 (c:Int) (c:Int) (by omega) (Int.le_refl _) (by rw[hb];omega) (by omega);simp only[Int.toNat_natCast] at hr;refine⟨_,hr,⟨_,nH w _,by rw[size_madeCells,hs],fun a ha b hb=>?_⟩,(Kt.refl nO w).alloc _,by simp⟩;rw[hs];have hlt:a*11+b<c*11:=by omega
 have hsz:(Value.cells (cC aR)).size=11:=rfl;simp only[madeCells];rw[Array.getElem?_map,Array.getElem?_range,if_pos hlt,Option.map_some,hsz,show(a*11+b)%11=b by omega];exact jR (P:=fun b=>some ((Value.cells (cC aR))[b]!)=some (aR.fld b)) rfl rfl rfl rfl rfl rfl rfl rfl rfl rfl rfl b hb
theorem zdz(w:World)(ty:TypeId)(g dLen dCap:Nat)(a:Addr)(sLen sCap:Nat)(cur:Array Value)(cs:List Value)
  (hg:w.heap[g]?=some (.cells cur 99 (0,0))) (hn:cs.length=Nat.min sLen dLen*11)
  (hsrc:∀ j v,cs[j]?=some v->w.cell? (a.add j)=some v) (hfit:cs.length<=cur.size) (h1:∀ v∈cs,v.oneCell'=true):
  (Builtin.copy_ #[33,33] ty #[.slice (some ⟨g,0,none⟩) dLen dCap,.slice (some a) sLen sCap]).run prog w=
   .ok (goInt (Nat.min sLen dLen:Nat)) (w.setRow g (cur.toList.take 0 ++ cs ++ cur.toList.drop (0 + cs.length)).toArray):=by
 have hl:=run_loadCells_list (P:=prog) w a cs hsrc;have hst:=run_storeCells_at prog g 0 99 cs 0 cur w hg (by simpa using hfit) h1;obtain⟨i,hi,hz,hs,hb⟩:=uV;rw[hn] at hl;simp[Builtin.copy_,run_underlying Tryz.underlying33,Builtin.lenOf,Builtin.firstCells,sizeOf,typeInfo,hi,hs,hl,hst]
theorem rU(w:World)(g c:Nat)(gs:Option Nat)(n:Nat)(pd pg:Nat->Pg)(hg:bH w g c pd)(hs:Rows w gs n pg):
  ∃ (k:Nat) (w2:World),(∀ ty,(Builtin.copy_ #[33,33] ty #[.slice (some ⟨g,0,none⟩) c c,.slice (dC gs) n n]).run prog w=.ok (goInt k) w2)/\bH w2 g c (fun i=>if i<n then pg i else pd i)/\Kt (fun x=>x=g) w w2/\w2.heap.size=w.heap.size:=by
 cases gs with
 | none=>
  have h0:n=0:=hs;subst h0;refine⟨0,w,fun ty=>?_,?_,Kt.refl _ _,rfl⟩
  ·exact run_copy_nil (P:=prog) w 33 33 ty 99 _ c c Tryz.underlying33 (by obtain⟨i,hi,_⟩:=uV;rw[hi];rfl)
  ·exact bH.congr hg (fun i hi=>by simp)
 | some q=>
  obtain⟨cur,hgb,hsz,hcc⟩:=hg;obtain⟨sr,hqb,hsz2,hsc⟩:=hs;obtain⟨cs,hcs⟩:∃ cs:List Value,cs=sr.toList.take (Nat.min n c*11):=⟨_,rfl⟩;have hmn:Nat.min n c<=n/\Nat.min n c<=c:=⟨Nat.min_le_left _ _,Nat.min_le_right _ _⟩;have hmm:(n<=c/\Nat.min n c=n)\/(c<=n/\Nat.min n c=c):=(Nat.le_total n c).imp (fun h=>⟨h,Nat.min_eq_left h⟩) (fun h=>⟨h,Nat.min_eq_right h⟩);have hlen:cs.length=Nat.min n c*11:=by rw[hcs,List.length_take,Array.length_toList,hsz2];omega
  refine⟨Nat.min n c,w.setRow g (cur.toList.take 0 ++ cs ++ cur.toList.drop (0 + cs.length)).toArray,fun ty=>?_,?_,⟨rfl,rfl,rfl,by simp[World.setRow],fun k hk hn=>setRow_other w g k _ hn⟩,by simp[World.setRow]⟩
  ·refine zdz w ty g c c ⟨q,0,none⟩ n n cur cs hgb hlen (fun j v hj=>?_) (by omega) (fun v hv=>?_)
   ·rw[Addr.add_lit,Nat.zero_add];rw[hcs,List.getElem?_take] at hj;split at hj
    ·simpa [World.cell?,hqb] using hj
    ·cases hj
   ·rw[hcs] at hv;have hv2:=List.mem_of_mem_take hv;obtain⟨j,hj,rfl⟩:=List.mem_iff_getElem.1 hv2;have hj2:j<n*11:=(by simpa [hsz2] using hj);have:=hsc (j/11) (by omega) (j%11) (by omega);rw[show j/11*11+j%11=j by omega] at this;have e:sr.toList[j]=((pg (j/11)).fld (j%11)):=by
     have h2:sr[j]?=some sr.toList[j]:=(by simp);rw[h2] at this;exact Option.some.inj this
    rw[e];exact MX _ _
  ·refine⟨_,setRow_heap w g cur _ 99 (0,0) hgb,?_,fun a ha b hb=>?_⟩
   ·simp[hlen,hsz];omega
   ·simp only[List.take_zero,List.nil_append,Nat.zero_add,List.getElem?_toArray];by_cases hl:a*11+b<cs.length
    ·rw[List.getElem?_append_left hl,if_pos (by omega),hcs,List.getElem?_take,if_pos (by omega)];simpa using hsc a (by omega) b hb
    ·rw[List.getElem?_append_right (by omega),List.getElem?_drop,if_neg (by omega)];rw[show cs.length+(a*11+b-cs.length)=a*11+b by omega];simpa using hcc a ha b hb
def iK(m:Mp)(c:Nat):Mp:=⟨m.o,c,fun i=>if i<m.n then m.pg i else aR,fun k=>eY (m.wd k) (c/2 ^ (k+1))⟩
def dL(w:World)(b:Nat)(B B':Bs)(o:Nat):Prop:=∀ x,aM b B' o x->aM b B o x\/w.heap.size<=x
structure Rz(w W:World)(b:Nat)(B:Bs)(m:Mp)(c g k:Nat)(C:Nat->Nat):Prop where
 hb:∃ cq,W.heap[b]?=some (.cells #[.int .i64 m.o,.slice (some ⟨g,0,none⟩) c c,.slice (dC B.P) m.o cq] 149 (0,0))/\mW W B.P m.o cq B.S
 row:bH W g c (fun i=>if i<m.n then m.pg i else aR)
 old:∀ j,k<=j->j<m.o->SetAt W (B.S j) (C j) (m.n/2 ^ (j+1)) (m.wd j)
 new:∀ j,j<k->j<m.o->SetAt W (B.S j) (C j) (c/2 ^ (j+1)) (eY (m.wd j) (c/2 ^ (j+1)))
 inj:∀ i j,i<m.o->j<m.o->C i=C j->i=j
 kp:Kt (aM b B m.o) w W
 hg:w.heap.size<=g
 fr:∀ j,j<m.o->C j=B.C j\/w.heap.size<=C j
theorem Rz.any{w W b B m c g k C}(h:Rz w W b B m c g k C)(j:Nat)(hj:j<m.o):∃ n ws,SetAt W (B.S j) (C j) n ws:=by
 by_cases e:j<k
 ·exact⟨_,_,h.new j e hj⟩
 ·exact⟨_,_,h.old j (by omega) hj⟩
theorem Rz.next{w W W' b B m c g k C}(h:Rz w W b B m c g k C)(hk:k<m.o)(cA:∀ i j,i<m.o->j<m.o->B.S i=B.S j->i=j)(hS:SetAt W' (B.S k) W.heap.size (c/2 ^ (k+1)) (eY (m.wd k) (c/2 ^ (k+1))))(kp:Kt (fun x=>x=B.S k) W W'):
  Rz w W' b B m c g (k+1) (fun j=>if j=k then W.heap.size else C j):=by
 obtain⟨cq,hb,hp⟩:=h.hb;obtain⟨n0,ws0,s0⟩:=h.any k hk;obtain⟨cs,hgb,hrow⟩:=h.row;have lt:∀ j,j<m.o->C j<W.heap.size:=fun j hj=>by
  obtain⟨_,_,s⟩:=h.any j hj;exact lH s.hc
 refine⟨⟨cq,(kp.block b (lH hb) (bT hb s0.hb (by decide))).trans hb,hp.kept kp (fun x e=>?_)⟩,aU.kept h.row kp (bT hgb s0.hb (by decide)),fun j hj hj2=>?_,fun j hj hj2=>?_,fun i j hi hj e=>?_,h.kp.trans kp (fun _ _ x=>x) (fun x _ e=>.inr (.inr (.inr ⟨k,hk,.inl e⟩))),h.hg,fun j hj=>?_⟩
 ·rw[e] at hp;obtain⟨ds,hq,_⟩:=hp;exact bT hq s0.hb (by decide)
 ·rw[if_neg (by omega)];have s:=h.old j (by omega) hj2;exact s.kept kp (fun e=>by have:=cA j k hj2 hk e;omega) (bT s.hc s0.hb (by decide))
 ·by_cases e:j=k
  ·rw[if_pos e,e];exact hS
  ·rw[if_neg e];have s:=h.new j (by omega) hj2;exact s.kept kp (fun e=>by have:=cA j k hj2 hk e;omega) (bT s.hc s0.hb (by decide))
 ·by_cases e1:i=k <;> by_cases e2:j=k
  ·omega
  ·rw[if_pos e1,if_neg e2] at e;have:=lt j hj;omega
  ·rw[if_neg e1,if_pos e2] at e;have:=lt i hi;omega
  ·rw[if_neg e1,if_neg e2] at e;exact h.inj i j hi hj e
 ·by_cases e:j=k
  ·rw[if_pos e];exact .inr h.kp.size
  ·rw[if_neg e];exact h.fr j hj
theorem NH(n:Nat)(h:n<=1048576):dF (n:Int)=n:=by unfold dF;split <;> (try split) <;> omega
theorem mW.cell{w q o cq S}(h:mW w (some q) o cq S)(k:Nat)(hk:k<o):w.cell? ⟨q,k,none⟩=some (.pointer (some ⟨S k,0,none⟩)):=by
 obtain⟨cs,hg,h2,h3,h4⟩:=h;simp[World.cell?,hg,h4 k hk]
theorem XO(b:Nat)(B:Bs)(m:Mp)(c:Nat)(hc:c<=1024)(hd:∃ r,c=r*2 ^ m.o)(w:World)(h:MpA w b B m)(h0:m.o=0):
  Calls prog 261 #[.pointer (some ⟨b,0,none⟩),.int .i64 c] w fun e w'=>e=.returned (.tuple #[])/\∃ B',MpA w' b B' (iK m c)/\Kt (aM b B m.o) w w'/\dL w b B B' m.o:=by
 obtain⟨cq,c0,c1,c2⟩:=h.cb;obtain⟨w1,hmk,hr1,hk1,hs1⟩:=rV c hc w;have M1:=aA (h.keep hk1);obtain⟨kk,w2,hcp,hr2,hk2,hs2⟩:=rU w1 w.heap.size c B.g m.n (fun _=>aR) m.pg hr1 M1.out.row;obtain⟨cq1,d0,d1,d2⟩:=M1.out.cb;have R2:=aA hr2;have K2:=aA (show Kt nO w w2 from hk1.trans hk2 (fun _ _ x=>x) (fun x hx e=>by omega));have M2:=aA (h.keep K2.out);obtain⟨cq2,e0,e1,e2⟩:=M2.out.cb;have z:=M2.out.bz;have HO:=aA h;have hbl:b<w.heap.size:=h.own_lt b (.inl rfl);have HBL:=aA hbl;have HD:=aA hd;have HZ:=aA h0;clear h hr1 hk1 hr2 hk2 hd h0;go_enter func261,ntmps261;go_wp2_with fail;have H0:=aA (show Rz w (w2.setCell ⟨b,1,none⟩ (.slice (some ⟨w.heap.size,0,none⟩) c c)) b B m c w.heap.size 0 B.C from by
  obtain⟨cq,hb,hp⟩:=M2.out.hb;obtain⟨cs,hgb,_⟩:=R2.out;have k:Kt (fun x=>x=b) w2 (w2.setCell ⟨b,1,none⟩ (.slice (some ⟨w.heap.size,0,none⟩) c c)):=(Kt.refl (fun x=>x=b) w2).setCell (p:=⟨b,1,none⟩) rfl _;refine⟨⟨cq,(heap_set hb 1 _).trans (by simp),hp.kept k (fun x e=>?_)⟩,bH.kept R2.out k (fun e=>by have:=HBL.out;omega),fun j _ hj=>(M2.out.set j hj).kept k (bT (M2.out.set j hj).hb hb (by decide)) (bT (M2.out.set j hj).hc hb (by decide)),fun j hj=>absurd hj (by omega),M2.out.injC,K2.out.trans k (fun _ _ x=>x.elim) (fun x _ e=>.inl e),Nat.le_refl _,fun j _=>.inl rfl⟩;rw[e] at hp;obtain⟨ds,hq,_⟩:=hp;exact bT hq hb (by decide))
 clear M1 M2 R2 K2 c0 c1 c2 d0 d1 d2 e0 e1 e2 z hmk hcp hs1 hs2;go_loopw [5,6,24] (fun x y i W=>∃ k:Nat,k<=m.o/\i=.int .i64 k/\Hid (∃ C,Rz w W b B m c w.heap.size k C)) (fun _ _ i _=>m.o-(intOf i).toNat)
 case atStart=>exact⟨0,by omega,rfl,⟨B.C,H0.out⟩⟩
 case round=>
  clear H0;obtain⟨k,hk,rfl,hR⟩:=hrel;obtain⟨C,hR⟩:=hR.out;have HR:=aA hR;clear hR;have hki:¬(k:Int)<m.o:=by have:=HZ.out;omega
  ·obtain rfl:k=m.o:=(by have:=HZ.out;omega);go_wp2_with fail;go_end0
   refine⟨rfl,⟨some w.heap.size,B.P,B.S,C⟩,?_,HR.out.kp,?_⟩
   ·refine⟨HO.out.o8,hc,HD.out,HR.out.hb,HR.out.row,fun j hj=>HR.out.new j hj hj,HO.out.injS,HR.out.inj,fun i hi=>?_⟩;show PgOk (if i<m.n then m.pg i else aR)
    split
    ·rename_i e;exact HO.out.ok i e
    ·exact PgOk.zero
   ·rintro x (e|e|e|⟨j,hj,e|e⟩)
    ·exact .inl (.inl e)
    ·cases e
     exact .inr (Nat.le_refl _)
    ·exact .inl (.inr (.inr (.inl e)))
    ·exact .inl (.inr (.inr (.inr ⟨j,hj,.inl e⟩)))
    ·rcases HR.out.fr j hj with e2|e2
     ·exact .inl (.inr (.inr (.inr ⟨j,hj,.inr (e.trans e2)⟩)))
     ·exact .inr (by rw[show x=C j from e];exact e2)
theorem XN(b q:Nat)(B:Bs)(m:Mp)(c:Nat)(hc:c<=1024)(hd:∃ r,c=r*2 ^ m.o)(w:World)(h:MpA w b B m)(hq:B.P=some q):
  Calls prog 261 #[.pointer (some ⟨b,0,none⟩),.int .i64 c] w fun e w'=>e=.returned (.tuple #[])/\∃ B',MpA w' b B' (iK m c)/\Kt (aM b B m.o) w w'/\dL w b B B' m.o:=by
 obtain⟨cq,c0,c1,c2⟩:=h.cb;obtain⟨w1,hmk,hr1,hk1,hs1⟩:=rV c hc w;have M1:=aA (h.keep hk1);obtain⟨kk,w2,hcp,hr2,hk2,hs2⟩:=rU w1 w.heap.size c B.g m.n (fun _=>aR) m.pg hr1 M1.out.row;obtain⟨cq1,d0,d1,d2⟩:=M1.out.cb;have R2:=aA hr2;have K2:=aA (show Kt nO w w2 from hk1.trans hk2 (fun _ _ x=>x) (fun x hx e=>by omega));have M2:=aA (h.keep K2.out);obtain⟨cq2,e0,e1,e2⟩:=M2.out.cb;have z:=M2.out.bz;rw[show dC B.P=some ⟨q,0,none⟩by rw[hq];rfl] at c2 d2 e2;have HQ:=aA hq;have HO:=aA h;have hbl:b<w.heap.size:=h.own_lt b (.inl rfl);have HBL:=aA hbl;have HD:=aA hd;clear h hr1 hk1 hr2 hk2 hd hq;go_enter func261,ntmps261;go_wp2_with fail;have H0:=aA (show Rz w (w2.setCell ⟨b,1,none⟩ (.slice (some ⟨w.heap.size,0,none⟩) c c)) b B m c w.heap.size 0 B.C from by
  obtain⟨cq,hb,hp⟩:=M2.out.hb;obtain⟨cs,hgb,_⟩:=R2.out;have k:Kt (fun x=>x=b) w2 (w2.setCell ⟨b,1,none⟩ (.slice (some ⟨w.heap.size,0,none⟩) c c)):=(Kt.refl (fun x=>x=b) w2).setCell (p:=⟨b,1,none⟩) rfl _;refine⟨⟨cq,(heap_set hb 1 _).trans (by simp),hp.kept k (fun x e=>?_)⟩,bH.kept R2.out k (fun e=>by have:=HBL.out;omega),fun j _ hj=>(M2.out.set j hj).kept k (bT (M2.out.set j hj).hb hb (by decide)) (bT (M2.out.set j hj).hc hb (by decide)),fun j hj=>absurd hj (by omega),M2.out.injC,K2.out.trans k (fun _ _ x=>x.elim) (fun x _ e=>.inl e),Nat.le_refl _,fun j _=>.inl rfl⟩;rw[e] at hp;obtain⟨ds,hq,_⟩:=hp;exact bT hq hb (by decide))
 clear M1 M2 R2 K2 c0 c1 c2 d0 d1 d2 e0 e1 e2 z hmk hcp hs1 hs2;go_loopw [5,6,24] (fun x y i W=>∃ k:Nat,k<=m.o/\i=.int .i64 k/\Hid (∃ C,Rz w W b B m c w.heap.size k C)) (fun _ _ i _=>m.o-(intOf i).toNat)
 case atStart=>exact⟨0,by omega,rfl,⟨B.C,H0.out⟩⟩
 case round=>
  clear H0;obtain⟨k,hk,rfl,hR⟩:=hrel;obtain⟨C,hR⟩:=hR.out;have HR:=aA hR;clear hR;by_cases hlt:k<m.o
  ·have hki:(k:Int)<m.o:=(by omega);have hpc:wr.cell? ⟨q,k,none⟩=some (.pointer (some ⟨B.S k,0,none⟩)):=by
    obtain⟨cq,_,hp⟩:=HR.out.hb;rw[HQ.out] at hp;exact hp.cell k hlt
   have hk8:k<8:=(by have:=HO.out.o8;omega);have PC:=aA (zec k c hk8 hc);have hle:c/2 ^ (k+1)<=1024:=Nat.le_trans (Nat.div_le_self _ _) hc;have HN:=aA (fun W2 hS hK=>HR.out.next (W':=W2) hlt HO.out.injS hS hK);generalize c/2 ^ (k+1)=d at PC hle HN;have RS:=aA (YK (B.S k) (C k) (m.n/2 ^ (k+1)) (m.wd k) (d:Int) (by omega) (by omega) wr (HR.out.old k (Nat.le_refl _) hlt));rw[NH _ (by omega)] at RS;clear hle;go_wp2_with fail;refine(PC.out _).mono ?_;rintro e W1 ⟨rfl,rfl⟩;go_wp2_with fail;refine RS.out.mono ?_;rintro e W2 ⟨rfl,hS,hK,hsz⟩;have HN:=aA (HN.out W2 hS hK);clear hS hK hsz;go_wp2_with fail;exact⟨⟨k+1,by omega,by simp,⟨_,HN.out⟩⟩,by simp[intOf];omega⟩
  ·obtain rfl:k=m.o:=(by omega);go_wp2_with fail;go_end0
   refine⟨rfl,⟨some w.heap.size,B.P,B.S,C⟩,?_,HR.out.kp,?_⟩
   ·refine⟨HO.out.o8,hc,HD.out,HR.out.hb,HR.out.row,fun j hj=>HR.out.new j hj hj,HO.out.injS,HR.out.inj,fun i hi=>?_⟩;show PgOk (if i<m.n then m.pg i else aR)
    split
    ·rename_i e;exact HO.out.ok i e
    ·exact PgOk.zero
   ·rintro x (e|e|e|⟨j,hj,e|e⟩)
    ·exact .inl (.inl e)
    ·cases e
     exact .inr (Nat.le_refl _)
    ·exact .inl (.inr (.inr (.inl e)))
    ·exact .inl (.inr (.inr (.inr ⟨j,hj,.inl e⟩)))
    ·rcases HR.out.fr j hj with e2|e2
     ·exact .inl (.inr (.inr (.inr ⟨j,hj,.inr (e.trans e2)⟩)))
     ·exact .inr (by rw[show x=C j from e];exact e2)
theorem ZY(b:Nat)(B:Bs)(m:Mp)(c:Nat)(hc:c<=1024)(hd:∃ r,c=r*2 ^ m.o)(w:World)(h:MpA w b B m):
  Calls prog 261 #[.pointer (some ⟨b,0,none⟩),.int .i64 c] w fun e w'=>e=.returned (.tuple #[])/\∃ B',MpA w' b B' (iK m c)/\Kt (aM b B m.o) w w'/\dL w b B B' m.o:=by
 by_cases h0:m.o=0
 ·exact XO b B m c hc hd w h h0
 ·obtain⟨q,hq,_⟩:=h.cp 0 (by omega);exact XN b q B m c hc hd w h hq
theorem WC:(prog.info? 35).map (fun i=>(i.zero,i.size,i.bytes))=some (some (.slice none 0 0),1,24):=by kernel_rfl
abbrev pQ(D:Nat->Nat)(wd:Nat->List Nat)(j:Nat):Value:=.slice (some ⟨D j,0,none⟩) (wd j).length (wd j).length
structure Told(w W:World)(gp gq:Nat)(m:Mp)(k:Nat)(D:Nat->Nat):Prop where
 row:bH W gp m.n m.pg
 q:∃ cs:Array Value,W.heap[gq]?=some (.cells cs 35 (0,0))/\cs.size=m.o/\∀ j,j<k->cs[j]?=some (pQ D m.wd j)
 d:∀ j,j<k->W.heap[D j]?=some (.cells (bI (m.wd j)) 27 (0,0))
 iD:∀ i j,i<k->j<k->D i=D j->i=j
 fp:w.heap.size<=gp
 fq:w.heap.size<=gq
 fd:∀ j,j<k->w.heap.size<=D j
 kp:Kt nO w W
theorem Told.cell{w W gp gq m k D}(h:Told w W gp gq m k D)(j:Nat)(hj:j<m.o):∃ v,W.cell? ⟨gq,j,none⟩=some v:=by
 obtain⟨cs,hg,hs,_⟩:=h.q;exact⟨cs[j]'(by omega),by simp[World.cell?,hg,hs,hj]⟩
theorem Told.froz{w W gp gq m k D}(h:Told w W gp gq m k D)(j:Nat):W.frozen? ⟨gq,j,none⟩=false:=by
 obtain⟨cs,hg,hs,_⟩:=h.q;simp[World.frozen?,hg]
theorem Told.keep{w W W' gp gq m k D}(h:Told w W gp gq m k D)(kp:Kt nO W W'):Told w W' gp gq m k D:=by
 obtain⟨cs,hg,hs⟩:=h.q;exact⟨bH.kept h.row kp (fun x=>x),⟨cs,(kp.block _ (lH hg) (fun x=>x)).trans hg,hs⟩,fun j hj=>(kp.block _ (lH (h.d j hj)) (fun x=>x)).trans (h.d j hj),h.iD,h.fp,h.fq,h.fd,nT h.kp kp⟩
theorem Told.next{w W W2 gp gq m k D}(h:Told w W gp gq m k D)(hk:k<m.o)(kp:Kt nO W W2)(hx:W2.heap[W.heap.size]?=some (.cells (bI (m.wd k)) 27 (0,0))):
  Told w (W2.setCell ⟨gq,k,none⟩ (.slice (some ⟨W.heap.size,0,none⟩) (m.wd k).length (m.wd k).length)) gp gq m (k+1) (fun j=>if j=k then W.heap.size else D j):=by
 have h2:=h.keep kp;obtain⟨cs,hg,hs,hc⟩:=h2.q;obtain⟨rs,hrb,_⟩:=h2.row;have ks:Kt (fun x=>x=gq) W2 (W2.setCell ⟨gq,k,none⟩ (.slice (some ⟨W.heap.size,0,none⟩) (m.wd k).length (m.wd k).length)):=(Kt.refl (fun x=>x=gq) W2).setCell (p:=⟨gq,k,none⟩) rfl _;have lt:∀ j,j<k->D j<W.heap.size:=fun j hj=>lH (h.d j hj)
 refine⟨bH.kept h2.row ks (bT hrb hg (by decide)),⟨_,heap_set hg k _,by simpa using hs,fun j hj=>?_⟩,fun j hj=>?_,fun i j hi hj e=>?_,h.fp,h.fq,fun j hj=>?_,h2.kp.setNew (p:=⟨gq,k,none⟩) (fun e=>absurd e (Nat.not_lt.2 h.fq)) _⟩
 ·rw[Array.getElem?_setIfInBounds];by_cases e:j=k
  ·subst e;rw[if_pos rfl,if_pos (by omega)];simp[pQ]
  ·rw[if_neg (by omega),hc j (by omega)];simp[pQ,e]
 ·by_cases e:j=k
  ·simp only[e,if_true];exact(ks.block _ (lH hx) (bT hx hg (by decide))).trans hx
  ·simp only[e,if_false];exact(ks.block _ (lH (h2.d j (by omega))) (bT (h2.d j (by omega)) hg (by decide))).trans (h2.d j (by omega))
 ·by_cases e1:i=k <;> by_cases e2:j=k <;> simp only[e1,e2,if_true,if_false] at e
  ·omega
  ·have:=lt j (by omega);omega
  ·have:=lt i (by omega);omega
  ·exact h.iD i j (by omega) (by omega) e
 ·by_cases e:j=k
  ·simp only[e,if_true];exact h.kp.size
  ·simp only[e,if_false];exact h.fd j (by omega)
theorem zM(o:Nat)(ho:o<=8)(w:World):∃ w1,(Instr.makeSlice 34 (.int .i64 o) (.int .i64 o)).run prog w=.ok (.slice (some ⟨w.heap.size,0,none⟩) o o) w1/\(∃ cs:Array Value,w1.heap[w.heap.size]?=some (.cells cs 35 (0,0))/\cs.size=o)/\Kt nO w w1/\w1.heap.size=w.heap.size+1:=by
 have hr:=run_make_row' (P:=prog) 34 35 (.slice none 0 0) 24 Tryz.underlying34 WC rfl .i64 .i64 o (by omega) (by omega) w;exact⟨_,hr,⟨_,nH _ _,size_madeCells _ _⟩,(Kt.refl nO w).alloc _,by simp⟩
theorem QF(b:Nat)(B:Bs)(m:Mp)(w:World)(h:MpA w b B m)(h0:m.o=0):
  Calls prog 46 #[.pointer (some ⟨b,0,none⟩)] w fun e w'=>∃ gp gq D,e=.returned (.tuple #[.slice (some ⟨gp,0,none⟩) m.n m.n,.slice (some ⟨gq,0,none⟩) m.o m.o])/\Told w w' gp gq m m.o D:=by
 obtain⟨cq,c0,c1,c2⟩:=h.cb;have ho8:=h.o8;have hn1:=h.n1;obtain⟨w1,hmk,hr1,hk1,hs1⟩:=rV m.n hn1 w;have M1:=aA (h.keep hk1);obtain⟨kk,w2,hcp,hr2,hk2,hs2⟩:=rU w1 w.heap.size m.n B.g m.n (fun _=>aR) m.pg hr1 M1.out.row;have K2:=aA (show Kt nO w w2 from hk1.trans hk2 (fun _ _ x=>x) (fun x hx e=>by omega));obtain⟨w3,hmk2,hq3,hk3,hs3⟩:=zM m.o ho8 w2;have K3:=aA (nT K2.out hk3);obtain⟨cq1,d0,d1,d2⟩:=M1.out.cb;obtain⟨cq2,e0,e1,e2⟩:=(h.keep K2.out).cb;obtain⟨cq3,f0,f1,f2⟩:=(h.keep K3.out).cb;have HO:=aA h;have T0:=aA (show Told w w3 w.heap.size w2.heap.size m 0 (fun _=>0)from⟨(bH.kept hr2 hk3 (fun x=>x)).congr (fun i hi=>by simp[hi]),by obtain⟨cs,h1,h2⟩:=hq3;exact⟨cs,h1,h2,fun j hj=>absurd hj (by omega)⟩,fun j hj=>absurd hj (by omega),fun i j hi=>absurd hi (by omega),Nat.le_refl _,K2.out.size,fun j hj=>absurd hj (by omega),K3.out⟩);have HZ:=aA h0;clear h hr1 hk1 hr2 hk2 hq3 hk3 hs1 hs2 hs3 h0;go_enter func46,ntmps46;go_wp2_with fail;obtain⟨gq,hgq⟩:=xe (w2.heap.size);rw[<-hgq] at T0;rw[<-hgq];clear hgq c0 c1 c2 d0 d1 d2 e0 e1 e2 f0 f1 f2 hmk hcp hmk2;go_loopw [4,5,28] (fun x y i W=>∃ k:Nat,k<=m.o/\i=.int .i64 k/\Hid (∃ D,Told w W w.heap.size gq m k D)) (fun _ _ i _=>m.o-(intOf i).toNat)
 case atStart=>exact⟨0,by omega,rfl,⟨_,T0.out⟩⟩
 case round=>
  clear T0;obtain⟨k,hk,rfl,hR⟩:=hrel;obtain⟨D,hR⟩:=hR.out;have HR:=aA hR;clear hR;have hki:¬(k:Int)<m.o:=by have:=HZ.out;omega
  ·obtain rfl:k=m.o:=(by have:=HZ.out;omega);go_wp2_with fail;skip
   exact⟨rfl,.tuple #[.slice (some ⟨w.heap.size,0,none⟩) m.n m.n,.slice (some ⟨gq,0,none⟩) m.o m.o],by simp[results,results46,go_sem],w.heap.size,gq,rfl,D,HR.out⟩
theorem QE(b q:Nat)(B:Bs)(m:Mp)(w:World)(h:MpA w b B m)(hq:B.P=some q):
  Calls prog 46 #[.pointer (some ⟨b,0,none⟩)] w fun e w'=>∃ gp gq D,e=.returned (.tuple #[.slice (some ⟨gp,0,none⟩) m.n m.n,.slice (some ⟨gq,0,none⟩) m.o m.o])/\Told w w' gp gq m m.o D:=by
 obtain⟨cq,c0,c1,c2⟩:=h.cb;have ho8:=h.o8;have hn1:=h.n1;obtain⟨w1,hmk,hr1,hk1,hs1⟩:=rV m.n hn1 w;have M1:=aA (h.keep hk1);obtain⟨kk,w2,hcp,hr2,hk2,hs2⟩:=rU w1 w.heap.size m.n B.g m.n (fun _=>aR) m.pg hr1 M1.out.row;have K2:=aA (show Kt nO w w2 from hk1.trans hk2 (fun _ _ x=>x) (fun x hx e=>by omega));obtain⟨w3,hmk2,hq3,hk3,hs3⟩:=zM m.o ho8 w2;have K3:=aA (nT K2.out hk3);obtain⟨cq1,d0,d1,d2⟩:=M1.out.cb;obtain⟨cq2,e0,e1,e2⟩:=(h.keep K2.out).cb;obtain⟨cq3,f0,f1,f2⟩:=(h.keep K3.out).cb;have HO:=aA h;have T0:=aA (show Told w w3 w.heap.size w2.heap.size m 0 (fun _=>0)from⟨(bH.kept hr2 hk3 (fun x=>x)).congr (fun i hi=>by simp[hi]),by obtain⟨cs,h1,h2⟩:=hq3;exact⟨cs,h1,h2,fun j hj=>absurd hj (by omega)⟩,fun j hj=>absurd hj (by omega),fun i j hi=>absurd hi (by omega),Nat.le_refl _,K2.out.size,fun j hj=>absurd hj (by omega),K3.out⟩);rw[show dC B.P=some ⟨q,0,none⟩by rw[hq];rfl] at c2 d2 e2 f2;have HQ:=aA hq;clear h hr1 hk1 hr2 hk2 hq3 hk3 hs1 hs2 hs3 hq;go_enter func46,ntmps46;go_wp2_with fail;obtain⟨gq,hgq⟩:=xe (w2.heap.size);rw[<-hgq] at T0;rw[<-hgq];clear hgq c0 c1 c2 d0 d1 d2 e0 e1 e2 f0 f1 f2 hmk hcp hmk2;go_loopw [4,5,28] (fun x y i W=>∃ k:Nat,k<=m.o/\i=.int .i64 k/\Hid (∃ D,Told w W w.heap.size gq m k D)) (fun _ _ i _=>m.o-(intOf i).toNat)
 case atStart=>exact⟨0,by omega,rfl,⟨_,T0.out⟩⟩
 case round=>
  clear T0;obtain⟨k,hk,rfl,hR⟩:=hrel;obtain⟨D,hR⟩:=hR.out;have HR:=aA hR;clear hR;by_cases hlt:k<m.o
  ·have hki:(k:Int)<m.o:=(by omega);have hpc:wr.cell? ⟨q,k,none⟩=some (.pointer (some ⟨B.S k,0,none⟩)):=by
    obtain⟨q',hq',hc⟩:=(HO.out.keep HR.out.kp).cp k hlt;rw[HQ.out] at hq'
    cases hq'
    exact hc
   have WD:=aA (fun w' (kk:Kt nO w w')=>YC (B.S k) (B.C k) _ (m.wd k) w' ((HO.out.keep kk).set k hlt));obtain⟨v0,hv0⟩:=HR.out.cell k hlt;have HLT:=aA hlt;go_wp2_with fail;refine(WD.out _ HR.out.kp).mono ?_;rintro e W2 ⟨rfl,hx,hK,hsz⟩;have HX:=aA (HR.out.next HLT.out hK hx);have zz:=(HR.out.keep hK).froz k;have hv2:=Kt.cell (S:=nO) hK (fun x=>x) hv0;clear hx hK hsz;go_wp2_with fail;exact⟨⟨k+1,by omega,by simp,⟨_,HX.out⟩⟩,by simp[intOf];omega⟩
  ·obtain rfl:k=m.o:=(by omega);go_wp2_with fail;skip
   exact⟨rfl,.tuple #[.slice (some ⟨w.heap.size,0,none⟩) m.n m.n,.slice (some ⟨gq,0,none⟩) m.o m.o],by simp[results,results46,go_sem],w.heap.size,gq,D,rfl,HR.out⟩
theorem WQ(b:Nat)(B:Bs)(m:Mp)(w:World)(h:MpA w b B m):
  Calls prog 46 #[.pointer (some ⟨b,0,none⟩)] w fun e w'=>∃ gp gq D,e=.returned (.tuple #[.slice (some ⟨gp,0,none⟩) m.n m.n,.slice (some ⟨gq,0,none⟩) m.o m.o])/\Told w w' gp gq m m.o D:=by
 by_cases h0:m.o=0
 ·exact QF b B m w h h0
 ·obtain⟨q,hq,_⟩:=h.cp 0 (by omega);exact QE b q B m w h hq
structure GS(w0 W:World)(e:TypeId)(size:Nat)(v:Value)(n:Nat)(xs:List Value):Prop where
 own:W.ownsRow 0 e size v n xs
 new:∀ g cap,v=.slice (some ⟨g,0,none⟩) n cap->cap<=n\/w0.heap.size<=g
 kp:Kt nO w0 W
theorem kZ{w w':World}{row:Option Nat}(h:w.grownBy w' row):Kt (fun b=>row=some b) w w':=⟨h.os,h.tape,h.output,h.size,fun k hk hn=>h.block k hk (fun e=>hn e.symm)⟩
theorem GS.nil(w0 W:World)(e:TypeId)(size:Nat)(k:Kt nO w0 W):GS w0 W e size (.slice none 0 0) 0 []:=
 ⟨World.ownsRow_nil _ _ _ _,fun g cap h=>by simp at h,k⟩
theorem GS.keep{w0 W W' e size v n xs}(h:GS w0 W e size v n xs)(k:Kt nO W W'):GS w0 W' e size v n xs:=by
 refine⟨⟨h.own.1,?_⟩,h.new,nT h.kp k⟩;rcases h.own.2 with h0|⟨g,cap,cur,rfl,hb,hg,h3⟩
 ·exact .inl h0
 ·exact .inr ⟨g,cap,cur,rfl,hb,(k.block g (lH hg) (fun x=>x)).trans hg,h3⟩
theorem kK{w:World}{cs:Array Value}{t:TypeId}(j:Nat)(u:Value)(h:cs.toList[j]?=some u):(w.alloc (.cells cs t)).cell? (Addr.add ⟨w.heap.size,0,none⟩ j)=some u:=by
 rw[Addr.add_lit,Nat.zero_add];have:=nH w (.cells cs t);simp only[World.cell?,this];rw[<-Array.getElem?_toList,h];rfl
end Go.Proofs.YtkfmheelhinjdaaGreatDoor
