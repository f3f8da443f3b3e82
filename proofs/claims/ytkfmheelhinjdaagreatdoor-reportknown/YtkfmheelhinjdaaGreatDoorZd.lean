import Derived.Test.YtkfmheelhinjdaaGreatDoorZc
set_option maxRecDepth 1000000
set_option maxHeartbeats 80000000
namespace Go.Proofs.YtkfmheelhinjdaaGreatDoor
open _root_.Go.Proofs.Tryz
open Go.RowKit
set_option linter.unusedVariables false
theorem ZS(k c:Nat)(hk:k<8)(hc:c<=1024)(w:World):
  Calls prog 289 #[.int .i64 k,.int .i64 c] w fun e w'=>e=.returned (.int .i64 ((c/2 ^ (k+1):Nat):Int))/\w'=w:=by
 go_enter func289,ntmps289;go_wp2_with fail;go_ret;exact⟨eH (by simp),rfl⟩
theorem pQ(b:Nat)(B:Bs)(m:Mp)(k i:Int)(w:World)(h:MpA w b B m):
  Calls prog 284 #[.pointer (some ⟨b,0,none⟩),.int .i64 k,.int .i64 i] w fun e w'=>e=.returned (.bool (aC m.o k && aC m.n i))/\w'=w:=by
 have HM:=aA h;have c0:=h.c0;clear h
 cases hk:aC m.o k with
 | true=>
  obtain⟨j,rfl,hj⟩:=gH hk;rw[Bool.true_and];have hji:(j:Int)<m.o:=by omega
  clear hk;go_enter func284,ntmps284;go_wp2_with fail;refine(eO b B m i _ HM.out).mono ?_;rintro e w1 ⟨rfl,rfl⟩;go_wp2_with fail;go_ret;exact⟨rfl,rfl⟩
 | false=>
  rw[Bool.false_and];by_cases h0 : 0<=k
  ·have h1:¬k<(m.o:Int):=(by simp[aC,h0] at hk;omega);clear hk;go_enter func284,ntmps284;go_wp2_with fail;go_ret;exact⟨rfl,rfl⟩
  ·clear hk;go_enter func284,ntmps284;go_wp2_with fail;go_ret;exact⟨rfl,rfl⟩
theorem MpA.c2{w b B m}{q:Nat}(h:MpA w b B m)(hq:B.P=some q):∃ cq,w.cell? ⟨b,2,none⟩=some (.slice (some ⟨q,0,none⟩) m.o cq):=by
 obtain⟨cq,hb,_⟩:=h.hb;exact⟨cq,by simp[World.cell?,hb,hq,dB]⟩
theorem qQ(k:Nat) : 0<2 ^ k:=Nat.pow_pos (by decide)
theorem LR(b:Nat)(B:Bs)(m:Mp)(k i:Nat)(w:World)(h:MpA w b B m)(hk:k<m.o)(hi:i<m.n):
  Calls prog 286 #[.pointer (some ⟨b,0,none⟩),.int .i64 k,.int .i64 i] w fun e w'=>e=.returned (.bool (bZ (m.n/2 ^ (k+1)) (m.wd k) ((i/2 ^ (k+1):Nat):Int)))/\Kt nO w w':=by
 have HQ:=aA (fun q=>pQ b B m k i (w.drewN q) (h.keep ((Kt.refl nO w).drewN q)));rw[show(aC m.o (k:Int) && aC m.n (i:Int))=true by rw[dH hk,dH hi];rfl] at HQ;obtain⟨q,hq,cp⟩:=h.cp k hk;obtain⟨cq,c2⟩:=h.c2 hq;have HG:=aA (fun z=>mJ (B.S k) (B.C k) _ (m.wd k) ((i/2 ^ (k+1):Nat):Int) (w.drewN z) ((h.set k hk).kept ((Kt.refl nO w).drewN z) (fun x=>x) (fun x=>x)));have hk8:k<8:=by have:=h.o8;omega
 have hi10:i<1024:=by have:=h.n1;omega
 have hki:(k:Int)<m.o:=by omega
 clear h hq;go_enter func286,ntmps286;go_wp2_with fail;go_quiet (first|(go_at_call 284;exact Calls.quiet_of_same (HQ.out _))|(go_at_call 222;exact Calls.quiet_of_same (HG.out _)))
 go_wp2_with fail;go_ret;exact⟨rfl,(Kt.refl nO w).drewN _⟩
theorem WV:(prog.info? 99).map (fun i=>(i.zero,i.size,i.bytes))=some (some (cC aR),11,88):=by kernel_rfl
theorem uR:∃ i,prog.info? 99=some i/\i.zero=some (cC aR)/\i.size=11/\i.bytes=88:=by
 obtain⟨i,hi,hzz⟩:=Option.map_eq_some_iff.1 WV;simp only[Prod.mk.injEq] at hzz;exact⟨i,hi,hzz.1,hzz.2.1,hzz.2.2⟩
theorem MN(p:Pg)(j:Nat):(p.fld j).oneCell'=true:=by unfold Pg.fld;split <;> rfl
theorem rV(c:Nat)(hc:c<=1024)(w:World):
  ∃ w1,(Instr.makeSlice 33 (.int .i64 c) (.int .i64 c)).run prog w=.ok (.slice (some ⟨w.heap.size,0,none⟩) c c) w1/\bH w1 w.heap.size c (fun _=>aR)/\Kt nO w w1/\w1.heap.size=w.heap.size+1:=by
 obtain⟨i,hi,hz,hs,hb⟩:=uR;have hr:=run_make (P:=prog) w 33 99 i (cC aR) Tryz.underlying33 hi hz .i64 .i64 (c:Int) (c:Int) (by omega) (Int.le_refl _) (by rw[hb];omega) (by omega);simp only[Int.toNat_natCast] at hr;refine⟨_,hr,⟨_,nH w _,by rw[size_madeCells,hs],fun a ha b hb=>?_⟩,(Kt.refl nO w).alloc _,by simp⟩;rw[hs];have hlt:a*11+b<c*11:=by omega
 have hsz:(Value.cells (cC aR)).size=11:=rfl;simp only[madeCells];rw[Array.getElem?_map,Array.getElem?_range,if_pos hlt,Option.map_some,hsz,show(a*11+b)%11=b by omega];exact jQ (P:=fun b=>some ((Value.cells (cC aR))[b]!)=some (aR.fld b)) rfl rfl rfl rfl rfl rfl rfl rfl rfl rfl rfl b hb
theorem zdz(w:World)(ty:TypeId)(g dLen dCap:Nat)(a:Addr)(sLen sCap:Nat)(cur:Array Value)(cs:List Value)
  (hg:w.heap[g]?=some (.cells cur 99 (0,0))) (hn:cs.length=Nat.min sLen dLen*11)
  (hsrc:∀ j v,cs[j]?=some v->w.cell? (a.add j)=some v) (hfit:cs.length<=cur.size) (h1:∀ v∈cs,v.oneCell'=true):
  (Builtin.copy_ #[33,33] ty #[.slice (some ⟨g,0,none⟩) dLen dCap,.slice (some a) sLen sCap]).run prog w=
   .ok (goInt (Nat.min sLen dLen:Nat)) (w.setRow g (cur.toList.take 0 ++ cs ++ cur.toList.drop (0 + cs.length)).toArray):=by
 have hl:=run_loadCells_list (P:=prog) w a cs hsrc;have hst:=run_storeCells_at prog g 0 99 cs 0 cur w hg (by simpa using hfit) h1;obtain⟨i,hi,hz,hs,hb⟩:=uR;rw[hn] at hl;simp[Builtin.copy_,run_underlying Tryz.underlying33,Builtin.lenOf,Builtin.firstCells,sizeOf,typeInfo,hi,hs,hl,hst]
theorem rU(w:World)(g c:Nat)(gs:Option Nat)(n:Nat)(pd pg:Nat->Pg)(hg:bH w g c pd)(hs:Rows w gs n pg):
  ∃ (k:Nat) (w2:World),(∀ ty,(Builtin.copy_ #[33,33] ty #[.slice (some ⟨g,0,none⟩) c c,.slice (dB gs) n n]).run prog w=.ok (goInt k) w2)/\bH w2 g c (fun i=>if i<n then pg i else pd i)/\Kt (fun x=>x=g) w w2/\w2.heap.size=w.heap.size:=by
 cases gs with
 | none=>
  have h0:n=0:=hs;subst h0;refine⟨0,w,fun ty=>?_,?_,Kt.refl _ _,rfl⟩
  ·exact run_copy_nil (P:=prog) w 33 33 ty 99 _ c c Tryz.underlying33 (by obtain⟨i,hi,_⟩:=uR;rw[hi];rfl)
  ·exact bH.congr hg (fun i hi=>by simp)
 | some q=>
  obtain⟨cur,hgb,hsz,hcc⟩:=hg;obtain⟨sr,hqb,hsz2,hsc⟩:=hs;obtain⟨cs,hcs⟩:∃ cs:List Value,cs=sr.toList.take (Nat.min n c*11):=⟨_,rfl⟩;have hmn:Nat.min n c<=n/\Nat.min n c<=c:=⟨Nat.min_le_left _ _,Nat.min_le_right _ _⟩;have hmm:(n<=c/\Nat.min n c=n)\/(c<=n/\Nat.min n c=c):=(Nat.le_total n c).imp (fun h=>⟨h,Nat.min_eq_left h⟩) (fun h=>⟨h,Nat.min_eq_right h⟩);have hlen:cs.length=Nat.min n c*11:=by rw[hcs,List.length_take,Array.length_toList,hsz2];omega
  refine⟨Nat.min n c,w.setRow g (cur.toList.take 0 ++ cs ++ cur.toList.drop (0 + cs.length)).toArray,fun ty=>?_,?_,⟨rfl,rfl,rfl,by simp[World.setRow],fun k hk hn=>setRow_other w g k _ hn⟩,by simp[World.setRow]⟩
  ·refine zdz w ty g c c ⟨q,0,none⟩ n n cur cs hgb hlen (fun j v hj=>?_) (by omega) (fun v hv=>?_)
   ·rw[Addr.add_lit,Nat.zero_add];rw[hcs,List.getElem?_take] at hj;split at hj
    ·simpa [World.cell?,hqb] using hj
    ·cases hj
   ·rw[hcs] at hv;have hv2:=List.mem_of_mem_take hv;obtain⟨j,hj,rfl⟩:=List.mem_iff_getElem.1 hv2;have hj2:j<n*11:=(by simpa [hsz2] using hj);have:=hsc (j/11) (by omega) (j%11) (by omega);rw[show j/11*11+j%11=j by omega] at this;have e:sr.toList[j]=((pg (j/11)).fld (j%11)):=by
     have h2:sr[j]?=some sr.toList[j]:=(by simp);rw[h2] at this;exact Option.some.inj this
    rw[e];exact MN _ _
  ·refine⟨_,setRow_heap w g cur _ 99 (0,0) hgb,?_,fun a ha b hb=>?_⟩
   ·simp[hlen,hsz];omega
   ·simp only[List.take_zero,List.nil_append,Nat.zero_add,List.getElem?_toArray];by_cases hl:a*11+b<cs.length
    ·rw[List.getElem?_append_left hl,if_pos (by omega),hcs,List.getElem?_take,if_pos (by omega)];simpa using hsc a (by omega) b hb
    ·rw[List.getElem?_append_right (by omega),List.getElem?_drop,if_neg (by omega)];rw[show cs.length+(a*11+b-cs.length)=a*11+b by omega];simpa using hcc a ha b hb
def iI(m:Mp)(c:Nat):Mp:=⟨m.o,c,fun i=>if i<m.n then m.pg i else aR,fun k=>eX (m.wd k) (c/2 ^ (k+1))⟩
def dL(w:World)(b:Nat)(B B':Bs)(o:Nat):Prop:=∀ x,aM b B' o x->aM b B o x\/w.heap.size<=x
structure Rz(w W:World)(b:Nat)(B:Bs)(m:Mp)(c g k:Nat)(C:Nat->Nat):Prop where
 hb:∃ cq,W.heap[b]?=some (.cells #[.int .i64 m.o,.slice (some ⟨g,0,none⟩) c c,.slice (dB B.P) m.o cq] 149 (0,0))/\mX W B.P m.o cq B.S
 row:bH W g c (fun i=>if i<m.n then m.pg i else aR)
 old:∀ j,k<=j->j<m.o->SetAt W (B.S j) (C j) (m.n/2 ^ (j+1)) (m.wd j)
 new:∀ j,j<k->j<m.o->SetAt W (B.S j) (C j) (c/2 ^ (j+1)) (eX (m.wd j) (c/2 ^ (j+1)))
 inj:∀ i j,i<m.o->j<m.o->C i=C j->i=j
 kp:Kt (aM b B m.o) w W
 hg:w.heap.size<=g
 fr:∀ j,j<m.o->C j=B.C j\/w.heap.size<=C j
theorem Rz.any{w W b B m c g k C}(h:Rz w W b B m c g k C)(j:Nat)(hj:j<m.o):∃ n ws,SetAt W (B.S j) (C j) n ws:=by
 by_cases e:j<k
 ·exact⟨_,_,h.new j e hj⟩
 ·exact⟨_,_,h.old j (by omega) hj⟩
theorem Rz.next{w W W' b B m c g k C}(h:Rz w W b B m c g k C)(hk:k<m.o)(bZ:∀ i j,i<m.o->j<m.o->B.S i=B.S j->i=j)(hS:SetAt W' (B.S k) W.heap.size (c/2 ^ (k+1)) (eX (m.wd k) (c/2 ^ (k+1))))(kp:Kt (fun x=>x=B.S k) W W'):
  Rz w W' b B m c g (k+1) (fun j=>if j=k then W.heap.size else C j):=by
 obtain⟨cq,hb,hp⟩:=h.hb;obtain⟨n0,ws0,s0⟩:=h.any k hk;obtain⟨cs,hgb,hrow⟩:=h.row;have lt:∀ j,j<m.o->C j<W.heap.size:=fun j hj=>by
  obtain⟨_,_,s⟩:=h.any j hj;exact lH s.hc
 refine⟨⟨cq,(kp.block b (lH hb) (bR hb s0.hb (by decide))).trans hb,hp.kept kp (fun x e=>?_)⟩,aU.kept h.row kp (bR hgb s0.hb (by decide)),fun j hj hj2=>?_,fun j hj hj2=>?_,fun i j hi hj e=>?_,h.kp.trans kp (fun _ _ x=>x) (fun x _ e=>.inr (.inr (.inr ⟨k,hk,.inl e⟩))),h.hg,fun j hj=>?_⟩
 ·rw[e] at hp;obtain⟨ds,hq,_⟩:=hp;exact bR hq s0.hb (by decide)
 ·rw[if_neg (by omega)];have s:=h.old j (by omega) hj2;exact s.kept kp (fun e=>by have:=bZ j k hj2 hk e;omega) (bR s.hc s0.hb (by decide))
 ·by_cases e:j=k
  ·rw[if_pos e,e];exact hS
  ·rw[if_neg e];have s:=h.new j (by omega) hj2;exact s.kept kp (fun e=>by have:=bZ j k hj2 hk e;omega) (bR s.hc s0.hb (by decide))
 ·by_cases e1:i=k <;> by_cases e2:j=k
  ·omega
  ·rw[if_pos e1,if_neg e2] at e;have:=lt j hj;omega
  ·rw[if_neg e1,if_pos e2] at e;have:=lt i hi;omega
  ·rw[if_neg e1,if_neg e2] at e;exact h.inj i j hi hj e
 ·by_cases e:j=k
  ·rw[if_pos e];exact .inr h.kp.size
  ·rw[if_neg e];exact h.fr j hj
theorem MS(n:Nat)(h:n<=1048576):dE (n:Int)=n:=by unfold dE;split <;> (try split) <;> omega
theorem mX.cell{w q o cq S}(h:mX w (some q) o cq S)(k:Nat)(hk:k<o):w.cell? ⟨q,k,none⟩=some (.pointer (some ⟨S k,0,none⟩)):=by
 obtain⟨cs,hg,h2,h3,h4⟩:=h;simp[World.cell?,hg,h4 k hk]
theorem XA(b:Nat)(B:Bs)(m:Mp)(c:Nat)(hc:c<=1024)(hd:∃ r,c=r*2 ^ m.o)(w:World)(h:MpA w b B m)(h0:m.o=0):
  Calls prog 261 #[.pointer (some ⟨b,0,none⟩),.int .i64 c] w fun e w'=>e=.returned (.tuple #[])/\∃ B',MpA w' b B' (iI m c)/\Kt (aM b B m.o) w w'/\dL w b B B' m.o:=by
 obtain⟨cq,c0,c1,c2⟩:=h.cb;obtain⟨w1,hmk,hr1,hk1,hs1⟩:=rV c hc w;have M1:=aA (h.keep hk1);obtain⟨kk,w2,hcp,hr2,hk2,hs2⟩:=rU w1 w.heap.size c B.g m.n (fun _=>aR) m.pg hr1 M1.out.row;obtain⟨cq1,d0,d1,d2⟩:=M1.out.cb;have R2:=aA hr2;have K2:=aA (show Kt nO w w2 from hk1.trans hk2 (fun _ _ x=>x) (fun x hx e=>by omega));have M2:=aA (h.keep K2.out);obtain⟨cq2,e0,e1,e2⟩:=M2.out.cb;have z:=M2.out.bz;have HO:=aA h;have hbl:b<w.heap.size:=h.own_lt b (.inl rfl);have HBL:=aA hbl;have HD:=aA hd;have HZ:=aA h0;clear h hr1 hk1 hr2 hk2 hd h0;go_enter func261,ntmps261;go_wp2_with fail;have H0:=aA (show Rz w (w2.setCell ⟨b,1,none⟩ (.slice (some ⟨w.heap.size,0,none⟩) c c)) b B m c w.heap.size 0 B.C from by
  obtain⟨cq,hb,hp⟩:=M2.out.hb;obtain⟨cs,hgb,_⟩:=R2.out;have k:Kt (fun x=>x=b) w2 (w2.setCell ⟨b,1,none⟩ (.slice (some ⟨w.heap.size,0,none⟩) c c)):=(Kt.refl (fun x=>x=b) w2).setCell (p:=⟨b,1,none⟩) rfl _;refine⟨⟨cq,(heap_set hb 1 _).trans (by simp),hp.kept k (fun x e=>?_)⟩,bH.kept R2.out k (fun e=>by have:=HBL.out;omega),fun j _ hj=>(M2.out.set j hj).kept k (bR (M2.out.set j hj).hb hb (by decide)) (bR (M2.out.set j hj).hc hb (by decide)),fun j hj=>absurd hj (by omega),M2.out.injC,K2.out.trans k (fun _ _ x=>x.elim) (fun x _ e=>.inl e),Nat.le_refl _,fun j _=>.inl rfl⟩;rw[e] at hp;obtain⟨ds,hq,_⟩:=hp;exact bR hq hb (by decide))
 clear M1 M2 R2 K2 c0 c1 c2 d0 d1 d2 e0 e1 e2 z hmk hcp hs1 hs2;go_loopw [5,6,24] (fun x y i W=>∃ k:Nat,k<=m.o/\i=.int .i64 k/\Hid (∃ C,Rz w W b B m c w.heap.size k C)) (fun _ _ i _=>m.o-(intOf i).toNat)
 case atStart=>exact⟨0,by omega,rfl,⟨B.C,H0.out⟩⟩
 case round=>
  clear H0;obtain⟨k,hk,rfl,hR⟩:=hrel;obtain⟨C,hR⟩:=hR.out;have HR:=aA hR;clear hR;have hki:¬(k:Int)<m.o:=by have:=HZ.out;omega
  ·obtain rfl:k=m.o:=(by have:=HZ.out;omega);go_wp2_with fail;go_end0
   refine⟨rfl,⟨some w.heap.size,B.P,B.S,C⟩,?_,HR.out.kp,?_⟩
   ·refine⟨HO.out.o8,hc,HD.out,HR.out.hb,HR.out.row,fun j hj=>HR.out.new j hj hj,HO.out.injS,HR.out.inj,fun i hi=>?_⟩;show PgOk (if i<m.n then m.pg i else aR)
    split
    ·rename_i e;exact HO.out.ok i e
    ·exact PgOk.zero
   ·rintro x (e|e|e|⟨j,hj,e|e⟩)
    ·exact .inl (.inl e)
    ·cases e
     exact .inr (Nat.le_refl _)
    ·exact .inl (.inr (.inr (.inl e)))
    ·exact .inl (.inr (.inr (.inr ⟨j,hj,.inl e⟩)))
    ·rcases HR.out.fr j hj with e2|e2
     ·exact .inl (.inr (.inr (.inr ⟨j,hj,.inr (e.trans e2)⟩)))
     ·exact .inr (by rw[show x=C j from e];exact e2)
theorem WZ(b q:Nat)(B:Bs)(m:Mp)(c:Nat)(hc:c<=1024)(hd:∃ r,c=r*2 ^ m.o)(w:World)(h:MpA w b B m)(hq:B.P=some q):
  Calls prog 261 #[.pointer (some ⟨b,0,none⟩),.int .i64 c] w fun e w'=>e=.returned (.tuple #[])/\∃ B',MpA w' b B' (iI m c)/\Kt (aM b B m.o) w w'/\dL w b B B' m.o:=by
 obtain⟨cq,c0,c1,c2⟩:=h.cb;obtain⟨w1,hmk,hr1,hk1,hs1⟩:=rV c hc w;have M1:=aA (h.keep hk1);obtain⟨kk,w2,hcp,hr2,hk2,hs2⟩:=rU w1 w.heap.size c B.g m.n (fun _=>aR) m.pg hr1 M1.out.row;obtain⟨cq1,d0,d1,d2⟩:=M1.out.cb;have R2:=aA hr2;have K2:=aA (show Kt nO w w2 from hk1.trans hk2 (fun _ _ x=>x) (fun x hx e=>by omega));have M2:=aA (h.keep K2.out);obtain⟨cq2,e0,e1,e2⟩:=M2.out.cb;have z:=M2.out.bz;rw[show dB B.P=some ⟨q,0,none⟩by rw[hq];rfl] at c2 d2 e2;have HQ:=aA hq;have HO:=aA h;have hbl:b<w.heap.size:=h.own_lt b (.inl rfl);have HBL:=aA hbl;have HD:=aA hd;clear h hr1 hk1 hr2 hk2 hd hq;go_enter func261,ntmps261;go_wp2_with fail;have H0:=aA (show Rz w (w2.setCell ⟨b,1,none⟩ (.slice (some ⟨w.heap.size,0,none⟩) c c)) b B m c w.heap.size 0 B.C from by
  obtain⟨cq,hb,hp⟩:=M2.out.hb;obtain⟨cs,hgb,_⟩:=R2.out;have k:Kt (fun x=>x=b) w2 (w2.setCell ⟨b,1,none⟩ (.slice (some ⟨w.heap.size,0,none⟩) c c)):=(Kt.refl (fun x=>x=b) w2).setCell (p:=⟨b,1,none⟩) rfl _;refine⟨⟨cq,(heap_set hb 1 _).trans (by simp),hp.kept k (fun x e=>?_)⟩,bH.kept R2.out k (fun e=>by have:=HBL.out;omega),fun j _ hj=>(M2.out.set j hj).kept k (bR (M2.out.set j hj).hb hb (by decide)) (bR (M2.out.set j hj).hc hb (by decide)),fun j hj=>absurd hj (by omega),M2.out.injC,K2.out.trans k (fun _ _ x=>x.elim) (fun x _ e=>.inl e),Nat.le_refl _,fun j _=>.inl rfl⟩;rw[e] at hp;obtain⟨ds,hq,_⟩:=hp;exact bR hq hb (by decide))
 clear M1 M2 R2 K2 c0 c1 c2 d0 d1 d2 e0 e1 e2 z hmk hcp hs1 hs2;go_loopw [5,6,24] (fun x y i W=>∃ k:Nat,k<=m.o/\i=.int .i64 k/\Hid (∃ C,Rz w W b B m c w.heap.size k C)) (fun _ _ i _=>m.o-(intOf i).toNat)
 case atStart=>exact⟨0,by omega,rfl,⟨B.C,H0.out⟩⟩
 case round=>
  clear H0;obtain⟨k,hk,rfl,hR⟩:=hrel;obtain⟨C,hR⟩:=hR.out;have HR:=aA hR;clear hR;by_cases hlt:k<m.o
  ·have hki:(k:Int)<m.o:=(by omega);have hpc:wr.cell? ⟨q,k,none⟩=some (.pointer (some ⟨B.S k,0,none⟩)):=by
    obtain⟨cq,_,hp⟩:=HR.out.hb;rw[HQ.out] at hp;exact hp.cell k hlt
   have hk8:k<8:=(by have:=HO.out.o8;omega);have PC:=aA (ZS k c hk8 hc);have hle:c/2 ^ (k+1)<=1024:=Nat.le_trans (Nat.div_le_self _ _) hc;have HN:=aA (fun W2 hS hK=>HR.out.next (W':=W2) hlt HO.out.injS hS hK);generalize c/2 ^ (k+1)=d at PC hle HN;have RS:=aA (YE (B.S k) (C k) (m.n/2 ^ (k+1)) (m.wd k) (d:Int) (by omega) (by omega) wr (HR.out.old k (Nat.le_refl _) hlt));rw[MS _ (by omega)] at RS;clear hle;go_wp2_with fail;refine(PC.out _).mono ?_;rintro e W1 ⟨rfl,rfl⟩;go_wp2_with fail;refine RS.out.mono ?_;rintro e W2 ⟨rfl,hS,hK,hsz⟩;have HN:=aA (HN.out W2 hS hK);clear hS hK hsz;go_wp2_with fail;exact⟨⟨k+1,by omega,by simp,⟨_,HN.out⟩⟩,by simp[intOf];omega⟩
  ·obtain rfl:k=m.o:=(by omega);go_wp2_with fail;go_end0
   refine⟨rfl,⟨some w.heap.size,B.P,B.S,C⟩,?_,HR.out.kp,?_⟩
   ·refine⟨HO.out.o8,hc,HD.out,HR.out.hb,HR.out.row,fun j hj=>HR.out.new j hj hj,HO.out.injS,HR.out.inj,fun i hi=>?_⟩;show PgOk (if i<m.n then m.pg i else aR)
    split
    ·rename_i e;exact HO.out.ok i e
    ·exact PgOk.zero
   ·rintro x (e|e|e|⟨j,hj,e|e⟩)
    ·exact .inl (.inl e)
    ·cases e
     exact .inr (Nat.le_refl _)
    ·exact .inl (.inr (.inr (.inl e)))
    ·exact .inl (.inr (.inr (.inr ⟨j,hj,.inl e⟩)))
    ·rcases HR.out.fr j hj with e2|e2
     ·exact .inl (.inr (.inr (.inr ⟨j,hj,.inr (e.trans e2)⟩)))
     ·exact .inr (by rw[show x=C j from e];exact e2)
theorem ZB(b:Nat)(B:Bs)(m:Mp)(c:Nat)(hc:c<=1024)(hd:∃ r,c=r*2 ^ m.o)(w:World)(h:MpA w b B m):
  Calls prog 261 #[.pointer (some ⟨b,0,none⟩),.int .i64 c] w fun e w'=>e=.returned (.tuple #[])/\∃ B',MpA w' b B' (iI m c)/\Kt (aM b B m.o) w w'/\dL w b B B' m.o:=by
 by_cases h0:m.o=0
 ·exact XA b B m c hc hd w h h0
 ·obtain⟨q,hq,_⟩:=h.cp 0 (by omega);exact WZ b q B m c hc hd w h hq
def gN(wd:Nat->List Nat)(k:Nat)(ws:List Nat):Nat->List Nat:=fun j=>if j=k then ws else wd j
theorem MpA.words{w w' b B m}{ws:List Nat}(h:MpA w b B m)(k:Nat)(hk:k<m.o)(kp:Kt (fun x=>x=B.C k) w w')(hS:SetAt w' (B.S k) (B.C k) (m.n/2 ^ (k+1)) ws):MpA w' b B { m with wd:=gN m.wd k ws }:=by
 obtain⟨cq,hb,hp⟩:=h.hb;have s0:=h.set k hk;refine⟨h.o8,h.n1,h.dv,⟨cq,(kp.block b (lH hb) (bR hb s0.hc (by decide))).trans hb,hp.kept kp (fun x e=>?_)⟩,Rows.kept h.row kp (fun x e=>?_),fun j hj=>?_,h.injS,h.injC,h.ok⟩
 ·rw[e] at hp;obtain⟨ds,hq,_⟩:=hp;exact bR hq s0.hc (by decide)
 ·have hr:=h.row;rw[e] at hr;obtain⟨cs,hgb,_⟩:=hr;exact bR hgb s0.hc (by decide)
 ·show SetAt w' (B.S j) (B.C j) (m.n/2 ^ (j+1)) (gN m.wd k ws j)
  unfold gN;by_cases e:j=k
  ·rw[if_pos e,e];exact hS
  ·rw[if_neg e];have s:=h.set j hj;exact s.kept kp (bR s.hb s0.hc (by decide)) (fun e2=>e (h.injC j k hj hk e2))
theorem KE(i k:Nat)(hk:k<8)(W:World):Sem.run prog (Op.shift BinOp.shr IntKind.i64 (i:Int) IntKind.i64 (IntKind.i64.wrap ((k:Int)+1))) W=Result.ok (.int .i64 ((i/2 ^ (k+1):Nat):Int)) W:=by
 have hw:IntKind.i64.wrap ((k:Int)+1)=((k+1:Nat):Int):=by rw[IntKind.wrap_i64];omega
 rw[hw];unfold Op.shift;simp[go_sem];rw[if_neg (by omega),Nat.min_eq_left (by omega),Int.fdiv_eq_ediv_of_nonneg _ (Int.le_of_lt (Int.pow_pos (by decide)))]
theorem KC(b:Nat)(B:Bs)(m:Mp)(k i:Int)(w:World)(h:MpA w b B m)(hp:(aC m.o k && aC m.n i)=false):
  Calls prog 258 #[.pointer (some ⟨b,0,none⟩),.int .i64 k,.int .i64 i] w fun e w'=>e=.returned (.tuple #[.bool false,.int .i64 1])/\Kt nO w w':=by
 have HM:=aA h;have HP:=aA hp;clear h hp;go_enter func258,ntmps258;go_wp2_with fail;refine(pQ b B m k i _ HM.out).mono ?_;rintro e w1 ⟨rfl,rfl⟩;rw[HP.out];go_wp2_with fail;exact⟨rfl,_,by simp[results,results258,go_sem],rfl,Kt.refl nO _⟩
theorem JZ(b:Nat)(B:Bs)(m:Mp)(k i:Nat)(w:World)(h:MpA w b B m)(hk:k<m.o)(hi:i<m.n):
  Calls prog 258 #[.pointer (some ⟨b,0,none⟩),.int .i64 k,.int .i64 i] w fun e w'=>e=.returned (.tuple #[.bool (bZ (m.n/2 ^ (k+1)) (fN (m.n/2 ^ (k+1)) (m.wd k) ((i/2 ^ (k+1):Nat):Int)) ((i/2 ^ (k+1):Nat):Int)),.int .i64 0])/\MpA w' b B { m with wd:=gN m.wd k (fN (m.n/2 ^ (k+1)) (m.wd k) ((i/2 ^ (k+1):Nat):Int)) }/\Kt (aM b B m.o) w w':=by
 have HM:=aA h;have HP:=aA (show(aC m.o (k:Int) && aC m.n (i:Int))=true by rw[dH hk,dH hi];rfl);obtain⟨q,hq,cp⟩:=h.cp k hk;obtain⟨cq,c2⟩:=h.c2 hq;have FL:=aA (fun w' (kk:Kt nO w w')=>tZ (B.S k) (B.C k) _ (m.wd k) ((i/2 ^ (k+1):Nat):Int) w' ((h.set k hk).kept kk (fun x=>x) (fun x=>x)));have hk8:k<8:=by have:=h.o8;omega
 have hi10:i<1024:=by have:=h.n1;omega
 have hki:(k:Int)<m.o:=by omega
 have hsh:=KE i k hk8;have HK:=aA hk;have HI:=aA hi;clear h hq hk hi;go_enter func258,ntmps258;go_wp2_with fail;refine(pQ b B m k i _ HM.out).mono ?_;rintro e w1 ⟨rfl,rfl⟩;rw[HP.out];go_wp2_with fail;go_region_with ((go_at_call 285;refine(FL.out _ (Kt.refl nO w1).drew).mono ?_;rintro e w2 ⟨rfl,hS,hK,hsz⟩))
 all_goals
  have M2:=aA ((HM.out.keep (Kt.refl nO _).drew).words k HK.out hK hS);have K2:=aA (show Kt (aM b B m.o) w1 w2 from(Kt.refl nO w1).drew.trans hK (fun _ _ x=>x.elim) (fun x _ e=>.inr (.inr (.inr ⟨k,HK.out,.inr e⟩))));clear hS hK hsz;have PI:=aA (LR b B _ k i w2 M2.out HK.out HI.out);go_wp2_with fail;refine PI.out.mono ?_;rintro e w3 ⟨rfl,hK3⟩;have M3:=aA (M2.out.keep hK3);have K3:=aA (K2.out.trans (U:=aM b B m.o) hK3 (fun _ _ x=>x) (fun _ _ x=>x.elim));clear hK3;go_wp2_with fail;exact⟨rfl,_,by simp[results,results258,go_sem,gN],rfl,M3.out,K3.out⟩
end Go.Proofs.YtkfmheelhinjdaaGreatDoor
