import Derived.Test.YtfmgnljlkdmndaaGreatDoorZb
import Derived.Laws.StructEq
set_option maxRecDepth 1000000
set_option maxHeartbeats 80000000
namespace Go.Proofs.YtfmgnljlkdmndaaGreatDoor
open Tryz
open Go.RowKit
set_option linter.unusedVariables false
theorem zfn(k c:Nat)(b:k<8)(hc:c<=1024)(w:World):
  Calls prog 204 #[.int .i64 k,.int .i64 c] w fun e a=>e=.returned (.int .i64 ((c/2 ^ (k+1):Nat):Int))/\a=w:=by
 go_enter func204,ntmps204;go_wp2_with fail;go_ret;exact⟨dZ (by simp),rfl⟩
theorem qR(b:Nat)(B:Bs)(m:Mp)(k i:Int)(w:World)(h:MpA w b B m):
  Calls prog 256 #[.pointer (some ⟨b,0,none⟩),.int .i64 k,.int .i64 i] w fun e c=>e=.returned (.bool (aD m.o k && aD m.n i))/\c=w:=by
 have a:=aA h;have c0:=h.c0;clear h
 cases hk:aD m.o k with
 | true=>
  obtain⟨j,rfl,l⟩:=gR hk;rw[bf];have d:(j:Int)<m.o:=by omega
  clear hk;go_enter func256,ntmps256;go_wp2_with fail;refine(fN b B m i _ a.o).mono ?_;rintro e f ⟨rfl,rfl⟩;go_wp2_with fail;go_ret;exact⟨rfl,rfl⟩
 | false=>
  rw[Bool.false_and];by_cases h0 : 0<=k
  ·have g:¬k<(m.o:Int):=(by simp[aD,h0] at hk;omega);clear hk;go_enter func256,ntmps256;go_wp2_with fail;go_ret;exact⟨rfl,rfl⟩
  ·clear hk;go_enter func256,ntmps256;go_wp2_with fail;go_ret;exact⟨rfl,rfl⟩
theorem MpA.c2{w b B m}{q:Nat}(h:MpA w b B m)(hq:B.P=some q):∃ a,w.cell? ⟨b,2,none⟩=some (.slice (some ⟨q,0,none⟩) m.o a):=by obtain⟨a,hb,_⟩:=h.hb;exact⟨a,by simp[World.cell?,hb,hq,adr]⟩
theorem pQ(k:Nat) : 0<2 ^ k:=ap (by decide)
theorem WK(b:Nat)(B:Bs)(m:Mp)(k i:Nat)(w:World)(h:MpA w b B m)(a:k<m.o)(hi:i<m.n):
  Calls prog 257 #[.pointer (some ⟨b,0,none⟩),.int .i64 k,.int .i64 i] w fun e j=>e=.returned (.bool (cT (m.n/2 ^ (k+1)) (m.wd k) ((i/2 ^ (k+1):Nat):Int)))/\Kt nO w j:=by
 have d:=aA (fun q=>qR b B m k i (w.drewN q) (h.keep ((Kt.refl nO w).drewN q)));rw[show(aD m.o (k:Int) && aD m.n (i:Int))=true by rw[dQ a,dQ hi];rfl] at d;obtain⟨q,hq,r⟩:=h.cp k a;obtain⟨p,c2⟩:=h.c2 hq;have g:=aA (fun z=>nL (B.S k) (B.C k) _ (m.wd k) ((i/2 ^ (k+1):Nat):Int) (w.drewN z) ((h.set k a).kept ((Kt.refl nO w).drewN z) (fun x=>x) (fun x=>x)));have l:k<8:=by have:=h.o8;omega
 have c:i<1024:=by have:=h.n1;omega
 have f:(k:Int)<m.o:=by omega
 clear h hq;go_enter func257,ntmps257;go_wp2_with fail;go_quiet (first|(go_at_call 256;exact Calls.quiet_of_same (d.o _))|(go_at_call 192;exact Calls.quiet_of_same (g.o _)))
 go_wp2_with fail;go_ret;exact⟨rfl,(Kt.refl nO w).drewN _⟩
theorem ziK:(prog.info? 97).map (fun i=>(i.zero,i.size,i.bytes))=some (some (cD aV),11,88):=by kernel_rfl
theorem xZ:∃ i,prog.info? 97=some i/\i.zero=some (cD aV)/\i.size=11/\i.bytes=88:=by obtain⟨i,hi,a⟩:=Option.map_eq_some_iff.1 ziK;simp only[Prod.mk.injEq] at a;exact⟨i,hi,a.1,a.2.1,a.2.2⟩
theorem XJ(p:Pg)(j:Nat):(p.fld j).oneCell'=true:=by unfold Pg.fld;split <;> rfl
theorem uE(c:Nat)(hc:c<=1024)(w:World):
  ∃ d,(Instr.makeSlice 37 (.int .i64 c) (.int .i64 c)).run prog w=.ok (.slice (some ⟨w.heap.size,0,none⟩) c c) d/\bP d w.heap.size c (fun _=>aV)/\Kt nO w d/\d.heap.size=w.heap.size+1:=by
 obtain⟨i,hi,hz,hs,hb⟩:=xZ;have g:=run_make (P:=prog) w 37 97 i (cD aV) Tryz.underlying37 hi hz .i64 .i64 (c:Int) (c:Int) (by omega) (Int.le_refl _) (by rw[hb];omega) (by omega);simp only[aa] at g;refine⟨_,g,⟨_,nH w _,by rw[size_madeCells,hs],fun a ha b hb=>?_⟩,(Kt.refl nO w).alloc _,by simp⟩;rw[hs];have e:a*11+b<c*11:=by omega
 have f:(Value.cells (cD aV)).size=11:=rfl;simp only[madeCells];rw[Array.getElem?_map,Array.getElem?_range,ae e,Option.map_some,f,show(a*11+b)%11=b by omega];exact kU (P:=fun b=>some ((Value.cells (cD aV))[b]!)=some (aV.fld b)) rfl rfl rfl rfl rfl rfl rfl rfl rfl rfl rfl b hb
theorem zeh(w:World)(n:TypeId)(g c k:Nat)(a:Addr)(b h:Nat)(d:Array Value)(cs:List Value)
  (hg:w.heap[g]?=some (.cells d 97 (0,0))) (m:cs.length=Nat.min b c*11)
  (e:∀ j v,cs[j]?=some v->w.cell? (a.add j)=some v) (f:cs.length<=d.size) (o:∀ v∈cs,v.oneCell'=true):
  (Builtin.copy_ #[37,37] n #[.slice (some ⟨g,0,none⟩) c k,.slice (some a) b h]).run prog w=
   .ok (goInt (Nat.min b c:Nat)) (w.setRow g (d.toList.take 0 ++ cs ++ d.toList.drop (0 + cs.length)).toArray):=by
 have hl:=run_loadCells_list (P:=prog) w a cs e;have l:=run_storeCells_at prog g 0 97 cs 0 d w hg (by simpa using f) o;obtain⟨i,hi,hz,hs,hb⟩:=xZ;rw[m] at hl;simp[Builtin.copy_,run_underlying Tryz.underlying37,Builtin.lenOf,Builtin.firstCells,sizeOf,typeInfo,hi,hs,hl,l]
theorem uD(w:World)(g c:Nat)(A:Option Nat)(n:Nat)(D pg:Nat->Pg)(hg:bP w g c D)(hs:Rows w A n pg):
  ∃ (k:Nat) (t:World),(∀ p,(Builtin.copy_ #[37,37] p #[.slice (some ⟨g,0,none⟩) c c,.slice (adr A) n n]).run prog w=.ok (goInt k) t)/\bP t g c (fun i=>if i<n then pg i else D i)/\Kt (fun x=>x=g) w t/\t.heap.size=w.heap.size:=by
 cases A with
 | none=>
  have h0:n=0:=hs;subst h0;refine⟨0,w,fun p=>?_,?_,Kt.refl _ _,rfl⟩
  ·exact run_copy_nil (P:=prog) w 37 37 p 97 _ c c Tryz.underlying37 (by obtain⟨i,hi,_⟩:=xZ;rw[hi];rfl)
  ·exact bP.congr hg (fun i hi=>by simp)
 | some q=>
  obtain⟨d,s,z,y⟩:=hg;obtain⟨u,C,m,r⟩:=hs;obtain⟨cs,f⟩:∃ cs:List Value,cs=u.toList.take (Nat.min n c*11):=⟨_,rfl⟩;have G:Nat.min n c<=n/\Nat.min n c<=c:=⟨Nat.min_le_left _ _,Nat.min_le_right _ _⟩;have K:(n<=c/\Nat.min n c=n)\/(c<=n/\Nat.min n c=c):=(Nat.le_total n c).imp (fun h=>⟨h,Nat.min_eq_left h⟩) (fun h=>⟨h,Nat.min_eq_right h⟩);have l:cs.length=Nat.min n c*11:=by rw[f,List.length_take,Array.length_toList,m];omega
  refine⟨Nat.min n c,w.setRow g (d.toList.take 0 ++ cs ++ d.toList.drop (0 + cs.length)).toArray,fun p=>?_,?_,⟨rfl,rfl,rfl,by simp[World.setRow],fun k L F=>setRow_other w g k _ F⟩,by simp[World.setRow]⟩
  ·refine zeh w p g c c ⟨q,0,none⟩ n n d cs s l (fun j v o=>?_) (by omega) (fun v E=>?_)
   ·rw[Addr.add_lit,Nat.zero_add];rw[f,List.getElem?_take] at o;split at o
    ·simpa [World.cell?,C] using o
    ·cases o
   ·rw[f] at E;have B:=List.mem_of_mem_take E;obtain⟨j,o,rfl⟩:=List.mem_iff_getElem.1 B;have I:j<n*11:=(by simpa [m] using o);have:=r (j/11) (by omega) (j%11) (by omega);rw[show j/11*11+j%11=j by omega] at this;have e:u.toList[j]=((pg (j/11)).fld (j%11)):=by
     have J:u[j]?=some u.toList[j]:=(by simp);rw[J] at this;exact Option.some.inj this
    rw[e];exact XJ _ _
  ·refine⟨_,setRow_heap w g d _ 97 (0,0) s,?_,fun a ha b hb=>?_⟩
   ·simp[l,z];omega
   ·simp only[List.take_zero,List.nil_append,Nat.zero_add,List.getElem?_toArray];by_cases hl:a*11+b<cs.length
    ·rw[List.getElem?_append_left hl,ae (by omega),f,List.getElem?_take,ae (by omega)];simpa using r a (by omega) b hb
    ·rw[List.getElem?_append_right (by omega),List.getElem?_drop,ac (by omega)];rw[show cs.length+(a*11+b-cs.length)=a*11+b by omega];simpa using y a ha b hb
def dC(m:Mp)(c:Nat):Mp:=⟨m.o,c,fun i=>if i<m.n then m.pg i else aV,fun k=>dA (m.wd k) (c/2 ^ (k+1))⟩
def dN(w:World)(b:Nat)(B B':Bs)(o:Nat):Prop:=∀ x,aO b B' o x->aO b B o x\/w.heap.size<=x
structure Rz(w W:World)(b:Nat)(B:Bs)(m:Mp)(c g k:Nat)(C:Nat->Nat):Prop where
 hb:∃ cq,W.heap[b]?=some (.cells #[.int .i64 m.o,.slice (some ⟨g,0,none⟩) c c,.slice (adr B.P) m.o cq] 140 (0,0))/\nB W B.P m.o cq B.S
 row:bP W g c (fun i=>if i<m.n then m.pg i else aV)
 old:∀ j,k<=j->j<m.o->SetAt W (B.S j) (C j) (m.n/2 ^ (j+1)) (m.wd j)
 new:∀ j,j<k->j<m.o->SetAt W (B.S j) (C j) (c/2 ^ (j+1)) (dA (m.wd j) (c/2 ^ (j+1)))
 inj:∀ i j,i<m.o->j<m.o->C i=C j->i=j
 kp:Kt (aO b B m.o) w W
 hg:w.heap.size<=g
 fr:∀ j,j<m.o->C j=B.C j\/w.heap.size<=C j
theorem Rz.any{w W b B m c g k C}(h:Rz w W b B m c g k C)(j:Nat)(a:j<m.o):∃ n ws,SetAt W (B.S j) (C j) n ws:=by
 by_cases e:j<k
 ·exact⟨_,_,h.new j e a⟩
 ·exact⟨_,_,h.old j (by omega) a⟩
theorem Rz.next{w W W' b B m c g k C}(h:Rz w W b B m c g k C)(f:k<m.o)(cT:∀ i j,i<m.o->j<m.o->B.S i=B.S j->i=j)(hS:SetAt W' (B.S k) W.heap.size (c/2 ^ (k+1)) (dA (m.wd k) (c/2 ^ (k+1))))(kp:Kt (fun x=>x=B.S k) W W'):
  Rz w W' b B m c g (k+1) (fun j=>if j=k then W.heap.size else C j):=by
 obtain⟨r,hb,hp⟩:=h.hb;obtain⟨u,t,s0⟩:=h.any k f;obtain⟨cs,n,q⟩:=h.row;have lt:∀ j,j<m.o->C j<W.heap.size:=fun j d=>by obtain⟨_,_,s⟩:=h.any j d;exact lH s.hc
 refine⟨⟨r,(kp.block b (lH hb) (bY hb s0.hb (by decide))).trans hb,hp.kept kp (fun x e=>?_)⟩,bA.kept h.row kp (bY n s0.hb (by decide)),fun j d a=>?_,fun j d a=>?_,fun i j hi d e=>?_,h.kp.trans kp (fun _ _ x=>x) (fun x _ e=>.inr (.inr (.inr ⟨k,f,.inl e⟩))),h.hg,fun j d=>?_⟩
 ·rw[e] at hp;obtain⟨ds,hq,_⟩:=hp;exact bY hq s0.hb (by decide)
 ·rw[ac (by omega)];have s:=h.old j (by omega) a;exact s.kept kp (fun e=>by have:=cT j k a f e;omega) (bY s.hc s0.hb (by decide))
 ·by_cases e:j=k
  ·rw[ae e,e];exact hS
  ·rw[ac e];have s:=h.new j (by omega) a;exact s.kept kp (fun e=>by have:=cT j k a f e;omega) (bY s.hc s0.hb (by decide))
 ·by_cases l:i=k <;> by_cases p:j=k
  ·omega
  ·rw[ae l,ac p] at e;have:=lt j d;omega
  ·rw[ac l,ae p] at e;have:=lt i hi;omega
  ·rw[ac l,ac p] at e;exact h.inj i j hi d e
 ·by_cases e:j=k
  ·rw[ae e];exact .inr h.kp.size
  ·rw[ac e];exact h.fr j d
theorem DU(n:Nat)(h:n<=1048576):dX (n:Int)=n:=by unfold dX;split <;> (try split) <;> omega
theorem nB.cell{w q o cq S}(h:nB w (some q) o cq S)(k:Nat)(b:k<o):w.cell? ⟨q,k,none⟩=some (.pointer (some ⟨S k,0,none⟩)):=by obtain⟨cs,hg,d,c,a⟩:=h;simp[World.cell?,hg,a k b]
theorem ziw(b:Nat)(B:Bs)(m:Mp)(c:Nat)(hc:c<=1024)(hd:∃ r,c=r*2 ^ m.o)(w:World)(h:MpA w b B m)(h0:m.o=0):
  Calls prog 152 #[.pointer (some ⟨b,0,none⟩),.int .i64 c] w fun e R=>e=.returned (.tuple #[])/\∃ V,MpA R b V (dC m c)/\Kt (aO b B m.o) w R/\dN w b B V m.o:=by
 obtain⟨Q,c0,c1,c2⟩:=h.cb;obtain⟨w1,L,q,f,K⟩:=uE c hc w;have F:=aA (h.keep f);obtain⟨kk,u,G,s,t,J⟩:=uD w1 w.heap.size c B.g m.n (fun _=>aV) m.pg q F.o.row;obtain⟨a0,Z,d1,d2⟩:=F.o.cb;have A:=aA s;have I:=aA (show Kt nO w u from f.trans t (fun _ _ x=>x) (fun x hx e=>by omega));have d:=aA (h.keep I.o);obtain⟨a2,Y,e1,v⟩:=d.o.cb;have z:=d.o.bz;have E:=aA h;have N:b<w.heap.size:=h.own_lt b (.inl rfl);have D:=aA N;have HD:=aA hd;have T:=aA h0;clear h q f s t hd h0;go_enter func152,ntmps152;go_wp2_with fail;have U:=aA (show Rz w (u.setCell ⟨b,1,none⟩ (.slice (some ⟨w.heap.size,0,none⟩) c c)) b B m c w.heap.size 0 B.C from by obtain⟨Q,hb,hp⟩:=d.o.hb;obtain⟨cs,a1,_⟩:=A.o;have k:Kt (fun x=>x=b) u (u.setCell ⟨b,1,none⟩ (.slice (some ⟨w.heap.size,0,none⟩) c c)):=(Kt.refl (fun x=>x=b) u).setCell (p:=⟨b,1,none⟩) rfl _;refine⟨⟨Q,(cF hb 1 _).trans (by simp),hp.kept k (fun x e=>?_)⟩,bP.kept A.o k (fun e=>by have:=D.o;omega),fun j _ a=>(d.o.set j a).kept k (bY (d.o.set j a).hb hb (by decide)) (bY (d.o.set j a).hc hb (by decide)),fun j a=>absurd a (by omega),d.o.injC,I.o.trans k (fun _ _ x=>x.elim) (fun x _ e=>.inl e),aj _,fun j _=>.inl rfl⟩;rw[e] at hp;obtain⟨ds,hq,_⟩:=hp;exact bY hq hb (by decide))
 clear F d A I c0 c1 c2 Z d1 d2 Y e1 v z L G K J;go_loopw [5,6,24] (fun x y i W=>∃ k:Nat,k<=m.o/\i=.int .i64 k/\Hd (∃ C,Rz w W b B m c w.heap.size k C)) (fun _ _ i _=>m.o-(intOf i).toNat)
 case atStart=>exact⟨0,by omega,rfl,⟨B.C,U.o⟩⟩
 case round=>
  clear U;obtain⟨k,hk,rfl,hR⟩:=hrel;obtain⟨C,hR⟩:=hR.o;have l:=aA hR;clear hR;have X:¬(k:Int)<m.o:=by have:=T.o;omega
  ·obtain rfl:k=m.o:=(by have:=T.o;omega);go_wp2_with fail;go_end0
   refine⟨rfl,⟨some w.heap.size,B.P,B.S,C⟩,?_,l.o.kp,?_⟩
   ·refine⟨E.o.o8,hc,HD.o,l.o.hb,l.o.row,fun j a=>l.o.new j a a,E.o.injS,l.o.inj,fun i hi=>?_⟩;show PgOk (if i<m.n then m.pg i else aV)
    split
    ·rename_i e;exact E.o.ok i e
    ·exact PgOk.zero
   ·rintro x (e|e|e|⟨j,a,e|e⟩)
    ·exact .inl (.inl e)
    ·cases e
     exact .inr (aj _)
    ·exact .inl (.inr (.inr (.inl e)))
    ·exact .inl (.inr (.inr (.inr ⟨j,a,.inl e⟩)))
    ·rcases l.o.fr j a with v|v
     ·exact .inl (.inr (.inr (.inr ⟨j,a,.inr (e.trans v)⟩)))
     ·exact .inr (by rw[show x=C j from e];exact v)
theorem zix(b q:Nat)(B:Bs)(m:Mp)(c:Nat)(hc:c<=1024)(hd:∃ r,c=r*2 ^ m.o)(w:World)(h:MpA w b B m)(hq:B.P=some q):
  Calls prog 152 #[.pointer (some ⟨b,0,none⟩),.int .i64 c] w fun e w'=>e=.returned (.tuple #[])/\∃ B',MpA w' b B' (dC m c)/\Kt (aO b B m.o) w w'/\dN w b B B' m.o:=by
 obtain⟨Y,c0,c1,c2⟩:=h.cb;obtain⟨w1,V,E,s,Q⟩:=uE c hc w;have M1:=aA (h.keep s);obtain⟨kk,G,K,F,D,L⟩:=uD w1 w.heap.size c B.g m.n (fun _=>aV) m.pg E M1.o.row;obtain⟨a4,d0,d1,d2⟩:=M1.o.cb;have J:=aA F;have T:=aA (show Kt nO w G from s.trans D (fun _ _ x=>x) (fun x hx e=>by omega));have l:=aA (h.keep T.o);obtain⟨a2,e0,e1,u⟩:=l.o.cb;have z:=l.o.bz;rw[show adr B.P=some ⟨q,0,none⟩by rw[hq];rfl] at c2 d2 u;have HQ:=aA hq;have A:=aA h;have X:b<w.heap.size:=h.own_lt b (.inl rfl);have Z:=aA X;have HD:=aA hd;clear h E s F D hd hq;go_enter func152,ntmps152;go_wp2_with fail;have H0:=aA (show Rz w (G.setCell ⟨b,1,none⟩ (.slice (some ⟨w.heap.size,0,none⟩) c c)) b B m c w.heap.size 0 B.C from by obtain⟨Y,hb,hp⟩:=l.o.hb;obtain⟨cs,a0,_⟩:=J.o;have k:Kt (fun x=>x=b) G (G.setCell ⟨b,1,none⟩ (.slice (some ⟨w.heap.size,0,none⟩) c c)):=(Kt.refl (fun x=>x=b) G).setCell (p:=⟨b,1,none⟩) rfl _;refine⟨⟨Y,(cF hb 1 _).trans (by simp),hp.kept k (fun x e=>?_)⟩,bP.kept J.o k (fun e=>by have:=Z.o;omega),fun j _ a=>(l.o.set j a).kept k (bY (l.o.set j a).hb hb (by decide)) (bY (l.o.set j a).hc hb (by decide)),fun j a=>absurd a (by omega),l.o.injC,T.o.trans k (fun _ _ x=>x.elim) (fun x _ e=>.inl e),aj _,fun j _=>.inl rfl⟩;rw[e] at hp;obtain⟨ds,hq,_⟩:=hp;exact bY hq hb (by decide))
 clear M1 l J T c0 c1 c2 d0 d1 d2 e0 e1 u z V K Q L;go_loopw [5,6,24] (fun x y i W=>∃ k:Nat,k<=m.o/\i=.int .i64 k/\Hd (∃ C,Rz w W b B m c w.heap.size k C)) (fun _ _ i _=>m.o-(intOf i).toNat)
 case atStart=>exact⟨0,by omega,rfl,⟨B.C,H0.o⟩⟩
 case round=>
  clear H0;obtain⟨k,hk,rfl,hR⟩:=hrel;obtain⟨C,hR⟩:=hR.o;have f:=aA hR;clear hR;by_cases t:k<m.o
  ·have a3:(k:Int)<m.o:=(by omega);have a1:wr.cell? ⟨q,k,none⟩=some (.pointer (some ⟨B.S k,0,none⟩)):=by
    obtain⟨Y,_,hp⟩:=f.o.hb;rw[HQ.o] at hp;exact hp.cell k t
   have N:k<8:=(by have:=A.o.o8;omega);have PC:=aA (zfn k c N hc);have v:c/2 ^ (k+1)<=1024:=an (df _ _) hc;have I:=aA (fun U hS hK=>f.o.next (W':=U) t A.o.injS hS hK);generalize c/2 ^ (k+1)=d at PC v I;have RS:=aA (zh3 (B.S k) (C k) (m.n/2 ^ (k+1)) (m.wd k) (d:Int) (by omega) (by omega) wr (f.o.old k (aj _) t));rw[DU _ (by omega)] at RS;clear v;go_wp2_with fail;refine(PC.o _).mono ?_;rintro e W1 ⟨rfl,rfl⟩;go_wp2_with fail;refine RS.o.mono ?_;rintro e U ⟨rfl,hS,hK,R⟩;have I:=aA (I.o U hS hK);clear hS hK R;go_wp2_with fail;exact⟨⟨k+1,by omega,by simp,⟨_,I.o⟩⟩,by simp[intOf];omega⟩
  ·obtain rfl:k=m.o:=(by omega);go_wp2_with fail;go_end0
   refine⟨rfl,⟨some w.heap.size,B.P,B.S,C⟩,?_,f.o.kp,?_⟩
   ·refine⟨A.o.o8,hc,HD.o,f.o.hb,f.o.row,fun j a=>f.o.new j a a,A.o.injS,f.o.inj,fun i hi=>?_⟩;show PgOk (if i<m.n then m.pg i else aV)
    split
    ·rename_i e;exact A.o.ok i e
    ·exact PgOk.zero
   ·rintro x (e|e|e|⟨j,a,e|e⟩)
    ·exact .inl (.inl e)
    ·cases e
     exact .inr (aj _)
    ·exact .inl (.inr (.inr (.inl e)))
    ·exact .inl (.inr (.inr (.inr ⟨j,a,.inl e⟩)))
    ·rcases f.o.fr j a with u|u
     ·exact .inl (.inr (.inr (.inr ⟨j,a,.inr (e.trans u)⟩)))
     ·exact .inr (by rw[show x=C j from e];exact u)
theorem xS(b:Nat)(B:Bs)(m:Mp)(c:Nat)(hc:c<=1024)(hd:∃ r,c=r*2 ^ m.o)(w:World)(h:MpA w b B m):
  Calls prog 152 #[.pointer (some ⟨b,0,none⟩),.int .i64 c] w fun e a=>e=.returned (.tuple #[])/\∃ d,MpA a b d (dC m c)/\Kt (aO b B m.o) w a/\dN w b B d m.o:=by
 by_cases h0:m.o=0
 ·exact ziw b B m c hc hd w h h0
 ·obtain⟨q,hq,_⟩:=h.cp 0 (by omega);exact zix b q B m c hc hd w h hq
theorem wE(b:Nat)(B:Bs)(m:Mp)(i:Int)(w:World)(h:MpA w b B m)(hi:aD m.n i=false):
  Calls prog 223 #[.pointer (some ⟨b,0,none⟩),.int .i64 i] w fun e d=>e=.returned (.pointer none)/\d=w:=by
 have a:=aA h;have c:=aA hi;clear h hi;go_enter func223,ntmps223;go_wp2_with fail;refine(fN b B m i _ a.o).mono ?_;rintro e f ⟨rfl,rfl⟩;rw[c.o];go_wp2_with fail;go_ret;exact⟨rfl,rfl⟩
theorem lK(b:Nat)(B:Bs)(m:Mp)(g k:Nat)(w:World)(h:MpA w b B m)(hg:B.g=some g)(d:k<m.n):
  Calls prog 223 #[.pointer (some ⟨b,0,none⟩),.int .i64 k] w fun e o=>e=.returned (.pointer (if (m.pg k).kd=4 then some ⟨g,k*11,none⟩ else none))/\o=w:=by
 have f:=aA h;have i:=aA (dQ d);have a:=h.row;rw[hg] at a;have a:bP w g m.n m.pg:=a;have l:=(a.cell k d).1;have c1:=h.c1 hg;have j:(k:Int)<m.n:=by omega
 clear h a hg;by_cases c:(m.pg k).kd=4
 ·rw[ae c];rw[c] at l;go_enter func223,ntmps223;go_wp2_with fail;refine(fN b B m k _ f.o).mono ?_;rintro e p ⟨rfl,rfl⟩;rw[i.o];go_wp2_with fail;go_ret;exact⟨rfl,rfl⟩
 ·rw[ac c];go_enter func223,ntmps223;go_wp2_with fail;refine(fN b B m k _ f.o).mono ?_;rintro e p ⟨rfl,rfl⟩;rw[i.o];go_wp2_with fail;go_ret;exact⟨rfl,rfl⟩
def eJ(cl:Int):Nat:=256/2 ^ cl.toNat
theorem qS(g o:Nat)(cl:Int)(h0 : 0<=cl)(d:cl<=7)(c:Int)(w:World)(h:w.cell? ⟨g,o+2,none⟩=some (.int .i64 cl)):
  Calls prog 224 #[.pointer (some ⟨g,o,none⟩),.int .i64 c] w fun e a=>e=.returned (.bool (aD (eJ cl) c))/\a=w:=by
 obtain⟨k,rfl⟩:=au h0;have f:k<=7:=by omega
 have b:eJ (k:Int)=256/2 ^ k:=rfl;rw[b];by_cases hc : 0<=c
 ·have hd:aD (256/2 ^ k) c=decide (c<((256/2 ^ k:Nat):Int)):=by simp[aD,hc]
  rw[hd];go_enter func224,ntmps224;go_wp2_with fail;go_ret;exact⟨by simp,rfl⟩
 ·have hd:aD (256/2 ^ k) c=false:=by simp[aD];omega
  rw[hd];go_enter func224,ntmps224;go_wp2_with fail;go_ret;exact⟨rfl,rfl⟩
theorem pY(x r:Nat)(hx:x<18446744073709551616):((bits BinOp.and IntKind.u64 ((x:Int)/2 ^ r) 1) == 1)=(x/2 ^ r%2 == 1):=by
 have e:((x:Int)/2 ^ r)=((x/2 ^ r:Nat):Int):=by simp
 rw[e];have a:x/2 ^ r<2 ^ 64:=Nat.lt_of_le_of_lt (df _ _) hx;have:=u64_and_nat (x/2 ^ r) 1 (by omega) (by decide);rw[nat_mask1] at this;rw[show(1:Int)=((1:Nat):Int)from rfl,this,Bool.eq_iff_iff];simp only[co];omega
theorem sX(x r:Nat)(hx:x<18446744073709551616)(a:r<64):bits BinOp.xor IntKind.u64 (x:Int) (2 ^ r)=((x ^^^ 2 ^ r:Nat):Int):=by have hp : 2 ^ r<2 ^ 64:=(iI r 64).2 a;have:=bits_xor_u64_nat x (2 ^ r) hx hp;rw[<-this];simp
theorem tS(r:Nat)(b:r<64):IntKind.u64.wrap (2 ^ r)=2 ^ r:=by
 have hp : 2 ^ r<2 ^ 64:=(iI r 64).2 b;rw[wrap_u64];have:((2:Int) ^ r)=((2 ^ r:Nat):Int):=by simp
 rw[this];obtain⟨p,a⟩:=xe (2 ^ r);rw[<-a] at hp ⊢;omega
theorem sW(x r:Nat)(hx:x<18446744073709551616)(a:r<64):x ^^^ 2 ^ r<18446744073709551616:=Nat.xor_lt_two_pow (n:=64) hx ((iI r 64).2 a)
theorem zkN(b0 b1 b2 b3:Nat)(hx:b0<18446744073709551616)(c:Nat)(hq:c/64=0)(w:World):
  Calls prog 225 #[.agg #[.int .u64 b0,.int .u64 b1,.int .u64 b2,.int .u64 b3],.int .i64 c] w fun e b=>e=.returned (.bool (b0/2 ^ (c%64)%2 == 1))/\Kt nO w b:=by
 have a:(c:Int)/64=0:=by omega
 have E:=aA (pY b0 (c%64) hx);clear hx;go_enter func225,ntmps225;go_wp2_with fail;go_ret;exact⟨cO E.o,(Kt.refl nO w).alloc _⟩
theorem zkO(b0 b1 b2 b3:Nat)(hx:b0<18446744073709551616)(c:Nat)(hq:c/64=0)(w:World):
  Calls prog 226 #[.agg #[.int .u64 b0,.int .u64 b1,.int .u64 b2,.int .u64 b3],.int .i64 c] w fun e d=>e=.returned (.agg #[.int .u64 ((b0 ^^^ 2 ^ (c%64):Nat):Int),.int .u64 b1,.int .u64 b2,.int .u64 b3])/\Kt nO w d:=by
 have a:(c:Int)/64=0:=by omega
 have E:=sX b0 (c%64) hx (by omega);have b:=tS (c%64) (by omega);generalize b0 ^^^ 2 ^ (c%64)=y at *;clear hx;go_enter func226,ntmps226;go_wp2_with fail;go_region
 all_goals
  go_wp2_with fail;exact⟨rfl,_,by simp[results,results226,go_sem],rfl,(((Kt.refl nO w).alloc _).alloc _).drew⟩
theorem zkP(b0 b1 b2 b3:Nat)(hx:b1<18446744073709551616)(c:Nat)(hq:c/64=1)(w:World):
  Calls prog 225 #[.agg #[.int .u64 b0,.int .u64 b1,.int .u64 b2,.int .u64 b3],.int .i64 c] w fun e b=>e=.returned (.bool (b1/2 ^ (c%64)%2 == 1))/\Kt nO w b:=by
 have a:(c:Int)/64=1:=by omega
 have E:=aA (pY b1 (c%64) hx);clear hx;go_enter func225,ntmps225;go_wp2_with fail;go_ret;exact⟨cO E.o,(Kt.refl nO w).alloc _⟩
theorem zkQ(b0 b1 b2 b3:Nat)(hx:b1<18446744073709551616)(c:Nat)(hq:c/64=1)(w:World):
  Calls prog 226 #[.agg #[.int .u64 b0,.int .u64 b1,.int .u64 b2,.int .u64 b3],.int .i64 c] w fun e d=>e=.returned (.agg #[.int .u64 b0,.int .u64 ((b1 ^^^ 2 ^ (c%64):Nat):Int),.int .u64 b2,.int .u64 b3])/\Kt nO w d:=by
 have a:(c:Int)/64=1:=by omega
 have E:=sX b1 (c%64) hx (by omega);have b:=tS (c%64) (by omega);generalize b1 ^^^ 2 ^ (c%64)=y at *;clear hx;go_enter func226,ntmps226;go_wp2_with fail;go_region
 all_goals
  go_wp2_with fail;exact⟨rfl,_,by simp[results,results226,go_sem],rfl,(((Kt.refl nO w).alloc _).alloc _).drew⟩
theorem zkR(b0 b1 b2 b3:Nat)(hx:b2<18446744073709551616)(c:Nat)(hq:c/64=2)(w:World):
  Calls prog 225 #[.agg #[.int .u64 b0,.int .u64 b1,.int .u64 b2,.int .u64 b3],.int .i64 c] w fun e b=>e=.returned (.bool (b2/2 ^ (c%64)%2 == 1))/\Kt nO w b:=by
 have a:(c:Int)/64=2:=by omega
 have E:=aA (pY b2 (c%64) hx);clear hx;go_enter func225,ntmps225;go_wp2_with fail;go_ret;exact⟨cO E.o,(Kt.refl nO w).alloc _⟩
theorem zkS(b0 b1 b2 b3:Nat)(hx:b2<18446744073709551616)(c:Nat)(hq:c/64=2)(w:World):
  Calls prog 226 #[.agg #[.int .u64 b0,.int .u64 b1,.int .u64 b2,.int .u64 b3],.int .i64 c] w fun e d=>e=.returned (.agg #[.int .u64 b0,.int .u64 b1,.int .u64 ((b2 ^^^ 2 ^ (c%64):Nat):Int),.int .u64 b3])/\Kt nO w d:=by
 have a:(c:Int)/64=2:=by omega
 have E:=sX b2 (c%64) hx (by omega);have b:=tS (c%64) (by omega);generalize b2 ^^^ 2 ^ (c%64)=y at *;clear hx;go_enter func226,ntmps226;go_wp2_with fail;go_region
 all_goals
  go_wp2_with fail;exact⟨rfl,_,by simp[results,results226,go_sem],rfl,(((Kt.refl nO w).alloc _).alloc _).drew⟩
theorem zkT(b0 b1 b2 b3:Nat)(hx:b3<18446744073709551616)(c:Nat)(hq:c/64=3)(w:World):
  Calls prog 225 #[.agg #[.int .u64 b0,.int .u64 b1,.int .u64 b2,.int .u64 b3],.int .i64 c] w fun e b=>e=.returned (.bool (b3/2 ^ (c%64)%2 == 1))/\Kt nO w b:=by
 have a:(c:Int)/64=3:=by omega
 have E:=aA (pY b3 (c%64) hx);clear hx;go_enter func225,ntmps225;go_wp2_with fail;go_ret;exact⟨cO E.o,(Kt.refl nO w).alloc _⟩
theorem zkU(b0 b1 b2 b3:Nat)(hx:b3<18446744073709551616)(c:Nat)(hq:c/64=3)(w:World):
  Calls prog 226 #[.agg #[.int .u64 b0,.int .u64 b1,.int .u64 b2,.int .u64 b3],.int .i64 c] w fun e d=>e=.returned (.agg #[.int .u64 b0,.int .u64 b1,.int .u64 b2,.int .u64 ((b3 ^^^ 2 ^ (c%64):Nat):Int)])/\Kt nO w d:=by
 have a:(c:Int)/64=3:=by omega
 have E:=sX b3 (c%64) hx (by omega);have b:=tS (c%64) (by omega);generalize b3 ^^^ 2 ^ (c%64)=y at *;clear hx;go_enter func226,ntmps226;go_wp2_with fail;go_region
 all_goals
  go_wp2_with fail;exact⟨rfl,_,by simp[results,results226,go_sem],rfl,(((Kt.refl nO w).alloc _).alloc _).drew⟩
def wP(p:Pg):Nat->Nat
 | 0=>p.b0
 | 1=>p.b1
 | 2=>p.b2
 | _=>p.b3
def aI(p:Pg)(c:Nat):Bool:=wP p (c/64)/2 ^ (c%64)%2 == 1
def fC(p:Pg)(c:Nat):Pg:=
 match c/64 with
 | 0=>{ p with b0:=p.b0 ^^^ 2 ^ (c%64) }
 | 1=>{ p with b1:=p.b1 ^^^ 2 ^ (c%64) }
 | 2=>{ p with b2:=p.b2 ^^^ 2 ^ (c%64) }
 | _=>{ p with b3:=p.b3 ^^^ 2 ^ (c%64) }
abbrev oD(p:Pg):Value:=.agg #[.int .u64 p.b0,.int .u64 p.b1,.int .u64 p.b2,.int .u64 p.b3]
theorem uK{c:Nat}(hc:c<256):c/64=0\/c/64=1\/c/64=2\/c/64=3:=by omega
theorem KO(p:Pg)(ok:PgOk p)(c:Nat)(hc:c<256)(w:World):
  Calls prog 225 #[oD p,.int .i64 c] w fun e a=>e=.returned (.bool (aI p c))/\Kt nO w a:=by
 rcases uK hc with h|h|h|h
 ·rw[show aI p c=(p.b0/2 ^ (c%64)%2 == 1)by simp[aI,h,wP]];exact zkN _ _ _ _ ok.b0 c h w
 ·rw[show aI p c=(p.b1/2 ^ (c%64)%2 == 1)by simp[aI,h,wP]];exact zkP _ _ _ _ ok.b1 c h w
 ·rw[show aI p c=(p.b2/2 ^ (c%64)%2 == 1)by simp[aI,h,wP]];exact zkR _ _ _ _ ok.b2 c h w
 ·rw[show aI p c=(p.b3/2 ^ (c%64)%2 == 1)by simp[aI,h,wP]];exact zkT _ _ _ _ ok.b3 c h w
theorem zhS(p:Pg)(ok:PgOk p)(c:Nat)(hc:c<256)(w:World):
  Calls prog 226 #[oD p,.int .i64 c] w fun e a=>e=.returned (oD (fC p c))/\Kt nO w a:=by
 rcases uK hc with h|h|h|h
 ·rw[show fC p c={ p with b0:=p.b0 ^^^ 2 ^ (c%64) } by simp[fC,h]];exact zkO _ _ _ _ ok.b0 c h w
 ·rw[show fC p c={ p with b1:=p.b1 ^^^ 2 ^ (c%64) } by simp[fC,h]];exact zkQ _ _ _ _ ok.b1 c h w
 ·rw[show fC p c={ p with b2:=p.b2 ^^^ 2 ^ (c%64) } by simp[fC,h]];exact zkS _ _ _ _ ok.b2 c h w
 ·rw[show fC p c={ p with b3:=p.b3 ^^^ 2 ^ (c%64) } by simp[fC,h]];exact zkU _ _ _ _ ok.b3 c h w
theorem PgOk.turn{p:Pg}(ok:PgOk p)(c:Nat):PgOk (fC p c):=by
 have a:c%64<64:=by omega
 unfold fC;split
 ·exact⟨ok.o0,ok.o8,ok.c0,ok.c7,sW _ _ ok.b0 a,ok.b1,ok.b2,ok.b3⟩
 ·exact⟨ok.o0,ok.o8,ok.c0,ok.c7,ok.b0,sW _ _ ok.b1 a,ok.b2,ok.b3⟩
 ·exact⟨ok.o0,ok.o8,ok.c0,ok.c7,ok.b0,ok.b1,sW _ _ ok.b2 a,ok.b3⟩
 ·exact⟨ok.o0,ok.o8,ok.c0,ok.c7,ok.b0,ok.b1,ok.b2,sW _ _ ok.b3 a⟩
theorem mT(p:Pg)(c:Nat):(fC p c).kd=p.kd/\(fC p c).od=p.od/\(fC p c).cl=p.cl/\(fC p c).lv=p.lv/\(fC p c).nx=p.nx/\(fC p c).pv=p.pv/\(fC p c).fs=p.fs:=by unfold fC;split <;> exact⟨rfl,rfl,rfl,rfl,rfl,rfl,rfl⟩
theorem MpA.rowg{w b B m}{g:Nat}(h:MpA w b B m)(hg:B.g=some g):bP w g m.n m.pg:=by have a:=h.row;rwa [hg] at a
theorem zkZ{c:Int}(h : 0<=c):eJ c<=256:=df _ _
theorem TS{cl c:Int}(h0 : 0<=cl)(h:aD (eJ cl) c=true):∃ k:Nat,c=k/\k<256:=by obtain⟨k,rfl,a⟩:=gR h;exact⟨k,rfl,bg a (zkZ h0)⟩
theorem VE(b:Nat)(B:Bs)(m:Mp)(i c:Int)(a:Bool)(w:World)(h:MpA w b B m)(hi:aD m.n i=false):
  Calls prog 165 #[.pointer (some ⟨b,0,none⟩),.int .i64 i,.int .i64 c,.bool a] w fun e g=>e=.returned (.int .i64 1)/\g=w:=by
 have d:=aA h;have f:=aA hi;clear h hi;go_enter func165,ntmps165;go_wp2_with fail;refine(wE b B m i _ d.o f.o).mono ?_;rintro e j ⟨rfl,rfl⟩;go_wp2_with fail;go_ret;exact⟨rfl,rfl⟩
theorem zk0(b:Nat)(B:Bs)(m:Mp)(k:Nat)(c:Int)(a:Bool)(w:World)(h:MpA w b B m)(f:k<m.n)(d:(m.pg k).kd≠4):
  Calls prog 165 #[.pointer (some ⟨b,0,none⟩),.int .i64 k,.int .i64 c,.bool a] w fun e j=>e=.returned (.int .i64 1)/\j=w:=by
 have l:=aA h;obtain⟨g,hg,i⟩:=h.has_row (by omega);have S:=aA (lK b B m g k w h hg f);rw[ac d] at S;clear h i hg;go_enter func165,ntmps165;go_wp2_with fail;refine S.o.mono ?_;rintro e o ⟨rfl,rfl⟩;go_wp2_with fail;go_ret;exact⟨rfl,rfl⟩
theorem zk1(b:Nat)(B:Bs)(m:Mp)(k:Nat)(c:Int)(a:Bool)(w:World)(h:MpA w b B m)(d:k<m.n)(f:(m.pg k).kd=4)(hc:aD (eJ (m.pg k).cl) c=false):
  Calls prog 165 #[.pointer (some ⟨b,0,none⟩),.int .i64 k,.int .i64 c,.bool a] w fun e p=>e=.returned (.int .i64 1)/\p=w:=by
 have t:=aA h;obtain⟨g,hg,i⟩:=h.has_row (by omega);have S:=aA (lK b B m g k w h hg d);rw[ae f] at S;obtain⟨v,C,o,y,z,s,A,r,x,u,l⟩:=i.cell k d;have j:=aA (qS g (k*11) (m.pg k).cl (h.ok k d).c0 (h.ok k d).c7 c w o);rw[hc] at j;clear h i hg;go_enter func165,ntmps165;go_wp2_with fail;refine S.o.mono ?_;rintro e q ⟨rfl,rfl⟩;go_wp2_with fail;refine j.o.mono ?_;rintro e q ⟨rfl,rfl⟩;go_wp2_with fail;go_ret;exact⟨rfl,rfl⟩
theorem zk2(b:Nat)(B:Bs)(m:Mp)(k c:Nat)(w:World)(h:MpA w b B m)(a:k<m.n)(f:(m.pg k).kd=4)(hc:aD (eJ (m.pg k).cl) (c:Int)=true)(d:c<256):
  Calls prog 165 #[.pointer (some ⟨b,0,none⟩),.int .i64 k,.int .i64 c,.bool (aI (m.pg k) c)] w fun e q=>e=.returned (.int .i64 1)/\Kt nO w q:=by
 have x:=aA h;obtain⟨g,hg,i⟩:=h.has_row (by omega);have S:=aA (lK b B m g k w h hg a);rw[ae f] at S;obtain⟨z,G,p,C,D,v,F,u,A,y,o⟩:=i.cell k a;have j:=aA (qS g (k*11) (m.pg k).cl (h.ok k a).c0 (h.ok k a).c7 c w p);rw[hc] at j;have t:=aA (KO (m.pg k) (h.ok k a) c d w);generalize aI (m.pg k) c=lv at *;clear h i hg;go_enter func165,ntmps165;go_wp2_with fail;refine S.o.mono ?_;rintro e r ⟨rfl,rfl⟩;go_wp2_with fail;refine j.o.mono ?_;rintro e r ⟨rfl,rfl⟩;go_wp2_with fail;refine t.o.mono ?_;rintro e E ⟨rfl,l⟩;have s:=aA l;clear l
 cases lv
 all_goals
  go_wp2_with fail;go_ret;exact⟨rfl,s.o⟩
theorem bP.bits{w g n pg}(h:bP w g n pg)(i:Nat)(hi:i<n)(t:Pg)(x:Int)(f:t.kd=(pg i).kd/\t.od=(pg i).od/\t.cl=(pg i).cl/\t.lv=(pg i).lv/\t.nx=(pg i).nx/\t.pv=(pg i).pv/\t.fs=(pg i).fs):
  bP (((((w.setCell ⟨g,i*11+7,none⟩ (.int .u64 t.b0)).setCell ⟨g,i*11+7+1,none⟩ (.int .u64 t.b1)).setCell ⟨g,i*11+7+2,none⟩ (.int .u64 t.b2)).setCell ⟨g,i*11+7+3,none⟩ (.int .u64 t.b3)).setCell ⟨g,i*11+3,none⟩ (.int .i64 x)) g n (aG pg i { t with lv:=x }):=by
 have:=(((((bA.set h i 7 hi (by decide) (.int .u64 t.b0)).set i 8 hi (by decide) (.int .u64 t.b1)).set i 9 hi (by decide) (.int .u64 t.b2)).set i 10 hi (by decide) (.int .u64 t.b3)).set i 3 hi (by decide) (.int .i64 x));obtain⟨d,m,o,p,k,c,l⟩:=f;refine bA.congr this (fun a ha b hb=>sG a b hb (fun j q=>?_) (fun e=>?_))
 ·revert j
  apply kU <;> simp[lP,Pg.fld,d,m,o,k,c,l]
 ·simp[lP,e]
def aT(p:Pg)(c:Nat):Pg:={ fC p c with lv:=wrap64 (if aI p c=true then p.lv-1 else p.lv+1) }
theorem zk3(b:Nat)(B:Bs)(m:Mp)(k c:Nat)(w:World)(h:MpA w b B m)(f:k<m.n)(I:(m.pg k).kd=4)(hc:aD (eJ (m.pg k).cl) (c:Int)=true)(l:c<256):
  Calls prog 165 #[.pointer (some ⟨b,0,none⟩),.int .i64 k,.int .i64 c,.bool (!aI (m.pg k) c)] w fun e L=>e=.returned (.int .i64 0)/\MpA L b B { m with pg:=aG m.pg k (aT (m.pg k) c) }/\Kt (aO b B m.o) w L:=by
 have R:=aA h;obtain⟨g,hg,K⟩:=h.has_row (by omega);have S:=aA (lK b B m g k w h hg f);rw[ae I] at S;obtain⟨u,A,q,C,D,t,E,s,y,v,d⟩:=K.cell k f;have N:=aA (qS g (k*11) (m.pg k).cl (h.ok k f).c0 (h.ok k f).c7 c w q);rw[hc] at N;have HL:=aA (KO (m.pg k) (h.ok k f) c l w);have HT:=aA (zhS (m.pg k) (h.ok k f) c l);have Q:=aA (show aT (m.pg k) c={ fC (m.pg k) c with lv:=wrap64 (if aI (m.pg k) c=true then (m.pg k).lv-1 else (m.pg k).lv+1) } from rfl);have a:=aA hg;have F:=aA f;have j:=aA ((h.ok k f).turn c);have T:=aA (mT (m.pg k) c);generalize fC (m.pg k) c=V at *;generalize aI (m.pg k) c=lv at *;clear h K hg f;go_enter func165,ntmps165;go_wp2_with fail;refine S.o.mono ?_;rintro e Y ⟨rfl,rfl⟩;go_wp2_with fail;refine N.o.mono ?_;rintro e Y ⟨rfl,rfl⟩;go_wp2_with fail;refine HL.o.mono ?_;rintro e w2 ⟨rfl,J⟩;have P:=aA (R.o.keep J);have Z:=aA J;clear J u A q C D t E s y v d;obtain⟨u,A,q,C,D,t,E,s,y,v,d⟩:=(P.o.rowg a.o).cell k F.o
 cases lv
 all_goals
  go_wp2_with fail;refine(HT.o _).mono ?_;rintro e X ⟨rfl,G⟩;have r:=aA (P.o.keep G);have U:=aA (nT Z.o G);clear G u A q C D t E s y v d;obtain⟨u,A,q,C,D,t,E,s,y,v,d⟩:=(r.o.rowg a.o).cell k F.o;have z:=bA.froz (r.o.rowg a.o);go_wp2_with fail;go_ret;rw[Q.o];refine⟨rfl,r.o.pages a.o ?_ ((r.o.rowg a.o).bits k F.o V _ T.o) (fun i hi=>?_),?_⟩
  ·exact(((((Kt.refl (fun x=>x=g) X).setCell (p:=⟨g,_,none⟩) rfl _).setCell (p:=⟨g,_,none⟩) rfl _).setCell (p:=⟨g,_,none⟩) rfl _).setCell (p:=⟨g,_,none⟩) rfl _).setCell (p:=⟨g,_,none⟩) rfl _
  ·unfold aG;split
   ·exact⟨j.o.o0,j.o.o8,j.o.c0,j.o.c7,j.o.b0,j.o.b1,j.o.b2,j.o.b3⟩
   ·exact r.o.ok i hi
  ·exact((((((U.o.mono (fun _ _ x=>x.elim)).setCell (p:=⟨g,_,none⟩) (.inr (.inl a.o)) _).setCell (p:=⟨g,_,none⟩) (.inr (.inl a.o)) _).setCell (p:=⟨g,_,none⟩) (.inr (.inl a.o)) _).setCell (p:=⟨g,_,none⟩) (.inr (.inl a.o)) _).setCell (p:=⟨g,_,none⟩) (.inr (.inl a.o)) _)
theorem vB(a b c d b0 b1 b2 b3:Int)(w:World):
  (Op.equalIn 9999 95 (.agg #[.int .u64 a,.int .u64 b,.int .u64 c,.int .u64 d]) (.agg #[.int .u64 b0,.int .u64 b1,.int .u64 b2,.int .u64 b3])).run prog w=.ok (a == b0 && (b == b1 && (c == b2 && d == b3))) w:=by
 have u3:=Tryz.underlying22;have s3:=Tryz.isAgg22;have i:=Tryz.sizeOf22;rw[show(9999:Nat)=9998+1 from rfl,Op.equalIn];simp only[Sem.run_bind,run_underlying Tryz.underlying95,Result.andThen_ok];simp only[Std.Legacy.Range.forIn_eq_forIn_range',Std.Legacy.Range.size,Nat.sub_zero,Nat.add_sub_cancel,Nat.div_one,List.range'_succ,List.range'_zero,List.forIn_cons,List.forIn_nil];go_simp
 by_cases e:a=b0 <;> by_cases h:b=b1 <;> by_cases g:c=b2 <;> by_cases f:d=b3 <;> simp[e,h,g,f]
end Go.Proofs.YtfmgnljlkdmndaaGreatDoor
