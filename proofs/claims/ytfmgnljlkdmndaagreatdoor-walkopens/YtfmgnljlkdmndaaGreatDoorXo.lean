import Derived.Test.YtfmgnljlkdmndaaGreatDoorZd
set_option maxRecDepth 1000000
set_option maxHeartbeats 0
namespace Go.Proofs.YtfmgnljlkdmndaaGreatDoor
open Tryz RowKit
set_option linter.unusedVariables false
theorem zfs(k c:Nat)(b:k<8)(hc:c<=1024)(w:Wd):Calls prog 204 #[.int .i64 k,.int .i64 c] w fun e a=>e=.returned (.int .i64 ((c/2 ^ (k+1):Nat):Int))/\a=w:=by
 go_enter func204,ntmps204;go_wp2_with fail;go_ret;exact⟨dX (by simp),rfl⟩
theorem qS(b:Nat)(B:Bs)(m:Mp)(k i:Int)(w:Wd)(h:MpA w b B m):Calls prog 256 #[.pointer (some ⟨b,0,none⟩),.int .i64 k,.int .i64 i] w fun e c=>e=.returned (.bool (aD m.o k && aD m.n i))/\c=w:=by
 have a:=aA h;have c0:=h.c0;clear h
 cases hk:aD m.o k with
 | true=>
  obtain⟨j,rfl,l⟩:=gP hk;rw[bf];have d:(j:Int)<m.o:=by omega
  clear hk;go_enter func256,ntmps256;go_wp2_with fail;refine(fL b B m i _ a.o).mono ?_;rintro e f ⟨rfl,rfl⟩;go_wp2_with fail;go_ret;exact⟨rfl,rfl⟩
 | false=>
  rw[eb];by_cases h0 : 0<=k;·have g:¬k<(m.o:Int):=(by simp[aD,h0] at hk;omega);clear hk;go_enter func256,ntmps256;go_wp2_with fail;go_ret;exact⟨rfl,rfl⟩
  ·clear hk;go_enter func256,ntmps256;go_wp2_with fail;go_ret;exact⟨rfl,rfl⟩
theorem MpA.c2{w b B m}{q:Nat}(h:MpA w b B m)(hq:B.P=some q):∃ a,w.cell? ⟨b,2,none⟩=some (.slice (some ⟨q,0,none⟩) m.o a):=by obtain⟨a,hb,_⟩:=h.hb;exact⟨a,by simp[World.cell?,hb,hq,adr]⟩
theorem pR(k:Nat) : 0<2 ^ k:=ap (by decide)
theorem TO(b:Nat)(B:Bs)(m:Mp)(k i:Nat)(w:Wd)(h:MpA w b B m)(a:k<m.o)(hi:i<m.n):Calls prog 257 #[.pointer (some ⟨b,0,none⟩),.int .i64 k,.int .i64 i] w fun e g=>e=.returned (.bool (cS (m.n/2 ^ (k+1)) (m.wd k) ((i/2 ^ (k+1):Nat):Int)))/\Kt nO w g:=by
 have c:=aA (fun q=>qS b B m k i (w.drewN q) (h.dk ((kz w).drewN q)));rw[show(aD m.o (k:Int) && aD m.n (i:Int))=true by rw[dN a,dN hi];rfl] at c;obtain⟨q,hq,r⟩:=h.cp k a;obtain⟨p,c2⟩:=h.c2 hq;have j:=aA (fun z=>nJ (B.S k) (B.C k) _ (m.wd k) ((i/2 ^ (k+1):Nat):Int) (w.drewN z) ((h.set k a).kept ((kz w).drewN z) (fun x=>x) (fun x=>x)));have l:k<8:=by have:=h.o8;omega
 have d:i<1024:=by have:=h.n1;omega
 have f:(k:Int)<m.o:=by omega
 clear h hq;go_enter func257,ntmps257;go_wp2_with fail;go_quiet (first|(go_at_call 256;exact Calls.quiet_of_same (c.o _))|(go_at_call 192;exact Calls.quiet_of_same (j.o _)))
 go_wp2_with fail;go_ret;exact⟨rfl,(kz w).drewN _⟩
theorem ziT:(prog.info? 97).map (fun i=>(i.zero,i.size,i.bytes))=some (some (cA aU),11,88):=by kernel_rfl
theorem yD:∃ i,prog.info? 97=some i/\i.zero=some (cA aU)/\i.size=11/\i.bytes=88:=by obtain⟨i,hi,a⟩:=Option.map_eq_some_iff.1 ziT;simp only[Prod.mk.injEq] at a;exact⟨i,hi,a.1,a.2.1,a.2.2⟩
theorem WM(p:Pg)(j:Nat):(p.es j).oneCell'=true:=by unfold Pg.es;split <;> rfl
theorem uH(c:Nat)(hc:c<=1024)(w:Wd):∃ d,(Instr.makeSlice 37 (.int .i64 c) (.int .i64 c)).run prog w=.ok (.slice (some ⟨w.heap.size,0,none⟩) c c) d/\bO d w.heap.size c (fun _=>aU)/\Kt nO w d/\d.heap.size=w.heap.size+1:=by
 obtain⟨i,hi,hz,hs,hb⟩:=yD;have g:=run_make (P:=prog) w 37 97 i (cA aU) Tryz.underlying37 hi hz .i64 .i64 (c:Int) (c:Int) (by omega) (Int.le_refl _) (by rw[hb];omega) (by omega);simp only[aa] at g;refine⟨_,g,⟨_,nH w _,by rw[size_madeCells,hs],fun a ha b hb=>?_⟩,(kz w).alloc _,by simp⟩;rw[hs];have f:a*11+b<c*11:=by omega
 have e:(Value.cells (cA aU)).size=11:=rfl;simp only[madeCells];rw[Array.getElem?_map,Array.getElem?_range,ae f,Option.map_some,e,show(a*11+b)%11=b by omega];exact jG (P:=fun b=>some ((Value.cells (cA aU))[b]!)=some (aU.es b)) rfl rfl rfl rfl rfl rfl rfl rfl rfl rfl rfl b hb
theorem zel(w:Wd)(o:TypeId)(g d h:Nat)(a:Addr)(c e:Nat)(b:Array Vl)(cs:List Vl)(hg:w.heap[g]?=some (.cells b 97 (0,0))) (n:cs.length=Nat.min c d*11)(f:∀ j v,cs[j]?=some v->w.cell? (a.add j)=some v) (k:cs.length<=b.size) (m:∀ v∈cs,v.oneCell'=true):(Builtin.copy_ #[37,37] o #[.slice (some ⟨g,0,none⟩) d h,.slice (some a) c e]).run prog w=
   .ok (goInt (Nat.min c d:Nat)) (w.setRow g (b.toList.take 0 ++ cs ++ b.toList.drop (0 + cs.length)).toArray):=by
 have hl:=run_loadCells_list (P:=prog) w a cs f;have l:=run_storeCells_at prog g 0 97 cs 0 b w hg (by simpa using k) m;obtain⟨i,hi,hz,hs,hb⟩:=yD;rw[n] at hl;simp[Builtin.copy_,run_underlying Tryz.underlying37,Builtin.lenOf,Builtin.firstCells,sizeOf,typeInfo,hi,hs,hl,l]
theorem uG(w:Wd)(g c:Nat)(y:Option Nat)(n:Nat)(E pg:Nat->Pg)(hg:bO w g c E)(hs:Rows w y n pg):∃ (k:Nat) (u:Wd),(∀ s,(Builtin.copy_ #[37,37] s #[.slice (some ⟨g,0,none⟩) c c,.slice (adr y) n n]).run prog w=.ok (goInt k) u)/\bO u g c (fun i=>if i<n then pg i else E i)/\Kt (fun x=>x=g) w u/\u.heap.size=w.heap.size:=by
 cases y with
 | none=>
  have h0:n=0:=hs;subst h0;refine⟨0,w,fun s=>?_,?_,Kt.refl _ _,rfl⟩;·exact run_copy_nil (P:=prog) w 37 37 s 97 _ c c Tryz.underlying37 (by obtain⟨i,hi,_⟩:=yD;rw[hi];rfl)
  ·exact bO.congr hg (fun i hi=>by simp)
 | some q=>
  obtain⟨f,p,A,B⟩:=hg;obtain⟨t,C,l,r⟩:=hs;obtain⟨cs,d⟩:∃ cs:List Vl,cs=t.toList.take (Nat.min n c*11):=⟨_,rfl⟩;have J:Nat.min n c<=n/\Nat.min n c<=c:=⟨Nat.min_le_left _ _,Nat.min_le_right _ _⟩;have F:(n<=c/\Nat.min n c=n)\/(c<=n/\Nat.min n c=c):=(Nat.le_total n c).imp (fun h=>⟨h,Nat.min_eq_left h⟩) (fun h=>⟨h,Nat.min_eq_right h⟩);have m:cs.length=Nat.min n c*11:=by rw[d,List.length_take,Array.length_toList,l];omega
  refine⟨Nat.min n c,w.setRow g (f.toList.take 0 ++ cs ++ f.toList.drop (0 + cs.length)).toArray,fun s=>?_,?_,⟨rfl,rfl,rfl,by simp[World.setRow],fun k L G=>setRow_other w g k _ G⟩,by simp[World.setRow]⟩
  ·refine zel w s g c c ⟨q,0,none⟩ n n f cs p m (fun j v o=>?_) (by omega) (fun v D=>?_)
   ·rw[Addr.add_lit,dz];rw[d,dc] at o;split at o
    ·simpa [World.cell?,C] using o
    ·cases o
   ·rw[d] at D;have z:=List.mem_of_mem_take D;obtain⟨j,o,rfl⟩:=List.mem_iff_getElem.1 z;have K:j<n*11:=(by simpa [l] using o);have:=r (j/11) (by omega) (j%11) (by omega);rw[show j/11*11+j%11=j by omega] at this;have e:t.toList[j]=((pg (j/11)).es (j%11)):=by
     have I:t[j]?=some t.toList[j]:=(by simp);rw[I] at this;exact Option.some.inj this
    rw[e];exact WM _ _
  ·refine⟨_,setRow_heap w g f _ 97 (0,0) p,?_,fun a ha b hb=>?_⟩
   ·simp[m,A];omega
   ·simp only[List.take_zero,List.nil_append,dz,List.getElem?_toArray];by_cases hl:a*11+b<cs.length
    ·rw[List.getElem?_append_left hl,ae (by omega),d,dc,ae (by omega)];simpa using r a (by omega) b hb
    ·rw[List.getElem?_append_right (by omega),List.getElem?_drop,ac (by omega)];rw[show cs.length+(a*11+b-cs.length)=a*11+b by omega];simpa using B a ha b hb
def dB(m:Mp)(c:Nat):Mp:=⟨m.o,c,fun i=>if i<m.n then m.pg i else aU,fun k=>cZ (m.wd k) (c/2 ^ (k+1))⟩
def dK(w:Wd)(b:Nat)(B B':Bs)(o:Nat):Prop:=∀ x,aP b B' o x->aP b B o x\/w.heap.size<=x
structure Rz(w W:Wd)(b:Nat)(B:Bs)(m:Mp)(c g k:Nat)(C:Nat->Nat):Prop where
 hb:∃ cq,W.heap[b]?=some (.cells #[.int .i64 m.o,.slice (some ⟨g,0,none⟩) c c,.slice (adr B.P) m.o cq] 140 (0,0))/\mZ W B.P m.o cq B.S
 row:bO W g c (fun i=>if i<m.n then m.pg i else aU)
 old:∀ j,k<=j->j<m.o->SetAt W (B.S j) (C j) (m.n/2 ^ (j+1)) (m.wd j)
 new:∀ j,j<k->j<m.o->SetAt W (B.S j) (C j) (c/2 ^ (j+1)) (cZ (m.wd j) (c/2 ^ (j+1)))
 inj:∀ i j,i<m.o->j<m.o->C i=C j->i=j
 kp:Kt (aP b B m.o) w W
 hg:w.heap.size<=g
 fr:∀ j,j<m.o->C j=B.C j\/w.heap.size<=C j
theorem Rz.any{w W b B m c g k C}(h:Rz w W b B m c g k C)(j:Nat)(a:j<m.o):∃ n ws,SetAt W (B.S j) (C j) n ws:=by
 by_cases e:j<k;·exact⟨_,_,h.new j e a⟩
 ·exact⟨_,_,h.old j (by omega) a⟩
theorem Rz.next{w W W' b B m c g k C}(h:Rz w W b B m c g k C)(f:k<m.o)(cS:∀ i j,i<m.o->j<m.o->B.S i=B.S j->i=j)(hS:SetAt W' (B.S k) W.heap.size (c/2 ^ (k+1)) (cZ (m.wd k) (c/2 ^ (k+1))))(kp:Kt (fun x=>x=B.S k) W W'):Rz w W' b B m c g (k+1) (fun j=>if j=k then W.heap.size else C j):=by
 obtain⟨r,hb,hp⟩:=h.hb;obtain⟨u,t,s0⟩:=h.any k f;obtain⟨cs,p,q⟩:=h.row;have lt:∀ j,j<m.o->C j<W.heap.size:=fun j d=>by obtain⟨_,_,s⟩:=h.any j d;exact lH s.hc
 refine⟨⟨r,(kp.block b (lH hb) (bX hb s0.hb (by decide))).trans hb,hp.kept kp (fun x e=>?_)⟩,aZ.kept h.row kp (bX p s0.hb (by decide)),fun j d a=>?_,fun j d a=>?_,fun i j hi d e=>?_,h.kp.trans kp (fun _ _ x=>x) (fun x _ e=>.inr (.inr (.inr ⟨k,f,.inl e⟩))),h.hg,fun j d=>?_⟩;·rw[e] at hp;obtain⟨ds,hq,_⟩:=hp;exact bX hq s0.hb (by decide)
 ·rw[ac (by omega)];have s:=h.old j (by omega) a;exact s.kept kp (fun e=>by have:=cS j k a f e;omega) (bX s.hc s0.hb (by decide))
 ·by_cases e:j=k
  ·rw[ae e,e];exact hS
  ·rw[ac e];have s:=h.new j (by omega) a;exact s.kept kp (fun e=>by have:=cS j k a f e;omega) (bX s.hc s0.hb (by decide))
 ·by_cases n:i=k <;> by_cases l:j=k
  ·omega
  ·rw[ae n,ac l] at e;have:=lt j d;omega
  ·rw[ac n,ae l] at e;have:=lt i hi;omega
  ·rw[ac n,ac l] at e;exact h.inj i j hi d e
 ·by_cases e:j=k
  ·rw[ae e];exact .inr h.kp.size
  ·rw[ac e];exact h.fr j d
theorem ES(n:Nat)(h:n<=1048576):dU (n:Int)=n:=by unfold dU;split <;> (try split) <;> omega
theorem mZ.cell{w q o cq S}(h:mZ w (some q) o cq S)(k:Nat)(b:k<o):w.cell? ⟨q,k,none⟩=some (.pointer (some ⟨S k,0,none⟩)):=by obtain⟨cs,hg,d,c,a⟩:=h;simp[World.cell?,hg,a k b]
theorem ziF(b:Nat)(B:Bs)(m:Mp)(c:Nat)(hc:c<=1024)(hd:∃ r,c=r*2 ^ m.o)(w:Wd)(h:MpA w b B m)(h0:m.o=0):Calls prog 152 #[.pointer (some ⟨b,0,none⟩),.int .i64 c] w fun e R=>e=.returned (.tuple #[])/\∃ T,MpA R b T (dB m c)/\Kt (aP b B m.o) w R/\dK w b B T m.o:=by
 obtain⟨Q,c0,c1,c2⟩:=h.cb;obtain⟨w1,A,s,f,I⟩:=uH c hc w;have F:=aA (h.dk f);obtain⟨kk,u,K,t,v,G⟩:=uG w1 w.heap.size c B.g m.n (fun _=>aU) m.pg s F.o.row;obtain⟨a0,d0,X,d2⟩:=F.o.cb;have J:=aA t;have D:=aA (show Kt nO w u from f.trans v (fun _ _ x=>x) (fun x hx e=>by omega));have d:=aA (h.dk D.o);obtain⟨a1,e0,e1,q⟩:=d.o.cb;have z:=d.o.bz;have N:=aA h;have L:b<w.heap.size:=h.fa b (.inl rfl);have E:=aA L;have Z:=aA hd;have V:=aA h0;clear h s f t v hd h0;go_enter func152,ntmps152;go_wp2_with fail;have U:=aA (show Rz w (u.setCell ⟨b,1,none⟩ (.slice (some ⟨w.heap.size,0,none⟩) c c)) b B m c w.heap.size 0 B.C from by obtain⟨Q,hb,hp⟩:=d.o.hb;obtain⟨cs,a2,_⟩:=J.o;have k:Kt (fun x=>x=b) u (u.setCell ⟨b,1,none⟩ (.slice (some ⟨w.heap.size,0,none⟩) c c)):=(Kt.refl (fun x=>x=b) u).setCell (p:=⟨b,1,none⟩) rfl _;refine⟨⟨Q,(cD hb 1 _).trans (by simp),hp.kept k (fun x e=>?_)⟩,bO.kept J.o k (fun e=>by have:=E.o;omega),fun j _ a=>(d.o.set j a).kept k (bX (d.o.set j a).hb hb (by decide)) (bX (d.o.set j a).hc hb (by decide)),fun j a=>absurd a (by omega),d.o.ih,D.o.trans k (fun _ _ x=>x.elim) (fun x _ e=>.inl e),aj _,fun j _=>.inl rfl⟩;rw[e] at hp;obtain⟨ds,hq,_⟩:=hp;exact bX hq hb (by decide))
 clear F d J D c0 c1 c2 d0 X d2 e0 e1 q z A K I G;go_loopw [5,6,24] (fun x y i W=>∃ k:Nat,k<=m.o/\i=.int .i64 k/\Hd (∃ C,Rz w W b B m c w.heap.size k C)) (fun _ _ i _=>m.o-(intOf i).toNat)
 case atStart=>exact⟨0,by omega,rfl,⟨B.C,U.o⟩⟩
 case round=>
  clear U;obtain⟨k,hk,rfl,hR⟩:=hrel;obtain⟨C,hR⟩:=hR.o;have l:=aA hR;clear hR;have Y:¬(k:Int)<m.o:=by have:=V.o;omega
  ·obtain rfl:k=m.o:=(by have:=V.o;omega);go_wp2_with fail;go_end0
   refine⟨rfl,⟨some w.heap.size,B.P,B.S,C⟩,?_,l.o.kp,?_⟩
   ·refine⟨N.o.o8,hc,Z.o,l.o.hb,l.o.row,fun j a=>l.o.new j a a,N.o.ik,l.o.inj,fun i hi=>?_⟩;show PgOk (if i<m.n then m.pg i else aU)
    split;·rename_i e;exact N.o.ok i e
    ·exact PgOk.zero
   ·rintro x (e|e|e|⟨j,a,e|e⟩)
    ·exact .inl (.inl e)
    ·cases e
     exact .inr (aj _)
    ·exact .inl (.inr (.inr (.inl e)))
    ·exact .inl (.inr (.inr (.inr ⟨j,a,.inl e⟩)))
    ·rcases l.o.fr j a with q|q
     ·exact .inl (.inr (.inr (.inr ⟨j,a,.inr (e.trans q)⟩)))
     ·exact .inr (by rw[show x=C j from e];exact q)
theorem ziG(b q:Nat)(B:Bs)(m:Mp)(c:Nat)(hc:c<=1024)(hd:∃ r,c=r*2 ^ m.o)(w:Wd)(h:MpA w b B m)(hq:B.P=some q):Calls prog 152 #[.pointer (some ⟨b,0,none⟩),.int .i64 c] w fun e w'=>e=.returned (.tuple #[])/\∃ B',MpA w' b B' (dB m c)/\Kt (aP b B m.o) w w'/\dK w b B B' m.o:=by
 obtain⟨T,c0,c1,c2⟩:=h.cb;obtain⟨w1,U,G,s,R⟩:=uH c hc w;have Q:=aA (h.dk s);obtain⟨kk,D,Z,v,F,J⟩:=uG w1 w.heap.size c B.g m.n (fun _=>aU) m.pg G Q.o.row;obtain⟨a2,d0,d1,d2⟩:=Q.o.cb;have V:=aA v;have X:=aA (show Kt nO w D from s.trans F (fun _ _ x=>x) (fun x hx e=>by omega));have l:=aA (h.dk X.o);obtain⟨a3,e0,e1,u⟩:=l.o.cb;have z:=l.o.bz;rw[show adr B.P=some ⟨q,0,none⟩by rw[hq];rfl] at c2 d2 u;have HQ:=aA hq;have E:=aA h;have K:b<w.heap.size:=h.fa b (.inl rfl);have N:=aA K;have HD:=aA hd;clear h G s v F hd hq;go_enter func152,ntmps152;go_wp2_with fail;have H0:=aA (show Rz w (D.setCell ⟨b,1,none⟩ (.slice (some ⟨w.heap.size,0,none⟩) c c)) b B m c w.heap.size 0 B.C from by obtain⟨T,hb,hp⟩:=l.o.hb;obtain⟨cs,a5,_⟩:=V.o;have k:Kt (fun x=>x=b) D (D.setCell ⟨b,1,none⟩ (.slice (some ⟨w.heap.size,0,none⟩) c c)):=(Kt.refl (fun x=>x=b) D).setCell (p:=⟨b,1,none⟩) rfl _;refine⟨⟨T,(cD hb 1 _).trans (by simp),hp.kept k (fun x e=>?_)⟩,bO.kept V.o k (fun e=>by have:=N.o;omega),fun j _ a=>(l.o.set j a).kept k (bX (l.o.set j a).hb hb (by decide)) (bX (l.o.set j a).hc hb (by decide)),fun j a=>absurd a (by omega),l.o.ih,X.o.trans k (fun _ _ x=>x.elim) (fun x _ e=>.inl e),aj _,fun j _=>.inl rfl⟩;rw[e] at hp;obtain⟨ds,hq,_⟩:=hp;exact bX hq hb (by decide))
 clear Q l V X c0 c1 c2 d0 d1 d2 e0 e1 u z U Z R J;go_loopw [5,6,24] (fun x y i W=>∃ k:Nat,k<=m.o/\i=.int .i64 k/\Hd (∃ C,Rz w W b B m c w.heap.size k C)) (fun _ _ i _=>m.o-(intOf i).toNat)
 case atStart=>exact⟨0,by omega,rfl,⟨B.C,H0.o⟩⟩
 case round=>
  clear H0;obtain⟨k,hk,rfl,hR⟩:=hrel;obtain⟨C,hR⟩:=hR.o;have f:=aA hR;clear hR;by_cases t:k<m.o
  ·have a1:(k:Int)<m.o:=(by omega);have a4:wr.cell? ⟨q,k,none⟩=some (.pointer (some ⟨B.S k,0,none⟩)):=by
    obtain⟨T,_,hp⟩:=f.o.hb;rw[HQ.o] at hp;exact hp.cell k t
   have a0:k<8:=(by have:=E.o.o8;omega);have PC:=aA (zfs k c a0 hc);have A:c/2 ^ (k+1)<=1024:=an (dg _ _) hc;have I:=aA (fun L hS hK=>f.o.next (W':=L) t E.o.ik hS hK);generalize c/2 ^ (k+1)=d at PC A I;have RS:=aA (zh9 (B.S k) (C k) (m.n/2 ^ (k+1)) (m.wd k) (d:Int) (by omega) (by omega) wr (f.o.old k (aj _) t));rw[ES _ (by omega)] at RS;clear A;go_wp2_with fail;refine(PC.o _).mono ?_;rintro e W1 ⟨rfl,rfl⟩;go_wp2_with fail;refine RS.o.mono ?_;rintro e L ⟨rfl,hS,hK,Y⟩;have I:=aA (I.o L hS hK);clear hS hK Y;go_wp2_with fail;exact⟨⟨k+1,by omega,by simp,⟨_,I.o⟩⟩,by simp[intOf];omega⟩
  ·obtain rfl:k=m.o:=(by omega);go_wp2_with fail;go_end0
   refine⟨rfl,⟨some w.heap.size,B.P,B.S,C⟩,?_,f.o.kp,?_⟩
   ·refine⟨E.o.o8,hc,HD.o,f.o.hb,f.o.row,fun j a=>f.o.new j a a,E.o.ik,f.o.inj,fun i hi=>?_⟩;show PgOk (if i<m.n then m.pg i else aU)
    split;·rename_i e;exact E.o.ok i e
    ·exact PgOk.zero
   ·rintro x (e|e|e|⟨j,a,e|e⟩)
    ·exact .inl (.inl e)
    ·cases e
     exact .inr (aj _)
    ·exact .inl (.inr (.inr (.inl e)))
    ·exact .inl (.inr (.inr (.inr ⟨j,a,.inl e⟩)))
    ·rcases f.o.fr j a with u|u
     ·exact .inl (.inr (.inr (.inr ⟨j,a,.inr (e.trans u)⟩)))
     ·exact .inr (by rw[show x=C j from e];exact u)
theorem xW(b:Nat)(B:Bs)(m:Mp)(c:Nat)(hc:c<=1024)(hd:∃ r,c=r*2 ^ m.o)(w:Wd)(h:MpA w b B m):Calls prog 152 #[.pointer (some ⟨b,0,none⟩),.int .i64 c] w fun e a=>e=.returned (.tuple #[])/\∃ d,MpA a b d (dB m c)/\Kt (aP b B m.o) w a/\dK w b B d m.o:=by
 by_cases h0:m.o=0;·exact ziF b B m c hc hd w h h0
 ·obtain⟨q,hq,_⟩:=h.cp 0 (by omega);exact ziG b q B m c hc hd w h hq
theorem wL(b:Nat)(B:Bs)(m:Mp)(i:Int)(w:Wd)(h:MpA w b B m)(hi:aD m.n i=false):Calls prog 223 #[.pointer (some ⟨b,0,none⟩),.int .i64 i] w fun e c=>e=.returned (.pointer none)/\c=w:=by
 have a:=aA h;have d:=aA hi;clear h hi;go_enter func223,ntmps223;go_wp2_with fail;refine(fL b B m i _ a.o).mono ?_;rintro e f ⟨rfl,rfl⟩;rw[d.o];go_wp2_with fail;go_ret;exact⟨rfl,rfl⟩
theorem lJ(b:Nat)(B:Bs)(m:Mp)(g k:Nat)(w:Wd)(h:MpA w b B m)(hg:B.g=some g)(i:k<m.n):Calls prog 223 #[.pointer (some ⟨b,0,none⟩),.int .i64 k] w fun e l=>e=.returned (.pointer (if (m.pg k).kd=4 then some ⟨g,k*11,none⟩ else none))/\l=w:=by
 have d:=aA h;have f:=aA (dN i);have a:=h.row;rw[hg] at a;have a:bO w g m.n m.pg:=a;have p:=(a.cell k i).1;have c1:=h.c1 hg;have j:(k:Int)<m.n:=by omega
 clear h a hg;by_cases c:(m.pg k).kd=4;·rw[ae c];rw[c] at p;go_enter func223,ntmps223;go_wp2_with fail;refine(fL b B m k _ d.o).mono ?_;rintro e o ⟨rfl,rfl⟩;rw[f.o];go_wp2_with fail;go_ret;exact⟨rfl,rfl⟩
 ·rw[ac c];go_enter func223,ntmps223;go_wp2_with fail;refine(fL b B m k _ d.o).mono ?_;rintro e o ⟨rfl,rfl⟩;rw[f.o];go_wp2_with fail;go_ret;exact⟨rfl,rfl⟩
def eD(cl:Int):Nat:=256/2 ^ cl.toNat
theorem qT(g o:Nat)(cl:Int)(h0 : 0<=cl)(d:cl<=7)(c:Int)(w:Wd)(h:w.cell? ⟨g,o+2,none⟩=some (.int .i64 cl)):Calls prog 224 #[.pointer (some ⟨g,o,none⟩),.int .i64 c] w fun e a=>e=.returned (.bool (aD (eD cl) c))/\a=w:=by
 obtain⟨k,rfl⟩:=au h0;have f:k<=7:=by omega
 have b:eD (k:Int)=256/2 ^ k:=rfl;rw[b];by_cases hc : 0<=c
 ·have hd:aD (256/2 ^ k) c=decide (c<((256/2 ^ k:Nat):Int)):=by simp[aD,hc]
  rw[hd];go_enter func224,ntmps224;go_wp2_with fail;go_ret;exact⟨by simp,rfl⟩
 ·have hd:aD (256/2 ^ k) c=false:=by simp[aD];omega
  rw[hd];go_enter func224,ntmps224;go_wp2_with fail;go_ret;exact⟨rfl,rfl⟩
theorem pY(x r:Nat)(hx:x<18446744073709551616):((bits BinOp.and IntKind.u64 ((x:Int)/2 ^ r) 1) == 1)=(x/2 ^ r%2 == 1):=by
 have e:((x:Int)/2 ^ r)=((x/2 ^ r:Nat):Int):=by simp
 rw[e];have a:x/2 ^ r<2 ^ 64:=Nat.lt_of_le_of_lt (dg _ _) hx;have:=u64_and_nat (x/2 ^ r) 1 (by omega) (by decide);rw[nat_mask1] at this;rw[show(1:Int)=((1:Nat):Int)from rfl,this,Bool.eq_iff_iff];simp only[cu];omega
theorem tE(x r:Nat)(hx:x<18446744073709551616)(a:r<64):bits BinOp.xor IntKind.u64 (x:Int) (2 ^ r)=((x ^^^ 2 ^ r:Nat):Int):=by have hp : 2 ^ r<2 ^ 64:=(iG r 64).2 a;have:=bits_xor_u64_nat x (2 ^ r) hx hp;rw[<-this];simp
theorem tV(r:Nat)(b:r<64):IntKind.u64.wrap (2 ^ r)=2 ^ r:=by
 have hp : 2 ^ r<2 ^ 64:=(iG r 64).2 b;rw[wrap_u64];have:((2:Int) ^ r)=((2 ^ r:Nat):Int):=by simp
 rw[this];obtain⟨p,a⟩:=xe (2 ^ r);rw[<-a] at hp ⊢;omega
theorem tD(x r:Nat)(hx:x<18446744073709551616)(a:r<64):x ^^^ 2 ^ r<18446744073709551616:=Nat.xor_lt_two_pow (n:=64) hx ((iG r 64).2 a)
theorem zk1(b0 b1 b2 b3:Nat)(hx:b0<18446744073709551616)(c:Nat)(hq:c/64=0)(w:Wd):Calls prog 225 #[.agg #[.int .u64 b0,.int .u64 b1,.int .u64 b2,.int .u64 b3],.int .i64 c] w fun e a=>e=.returned (.bool (b0/2 ^ (c%64)%2 == 1))/\Kt nO w a:=by
 have b:(c:Int)/64=0:=by omega
 have E:=aA (pY b0 (c%64) hx);clear hx;go_enter func225,ntmps225;go_wp2_with fail;go_ret;exact⟨cN E.o,(kz w).alloc _⟩
theorem zk2(b0 b1 b2 b3:Nat)(hx:b0<18446744073709551616)(c:Nat)(hq:c/64=0)(w:Wd):Calls prog 226 #[.agg #[.int .u64 b0,.int .u64 b1,.int .u64 b2,.int .u64 b3],.int .i64 c] w fun e a=>e=.returned (.agg #[.int .u64 ((b0 ^^^ 2 ^ (c%64):Nat):Int),.int .u64 b1,.int .u64 b2,.int .u64 b3])/\Kt nO w a:=by
 have b:(c:Int)/64=0:=by omega
 have E:=tE b0 (c%64) hx (by omega);have d:=tV (c%64) (by omega);generalize b0 ^^^ 2 ^ (c%64)=y at *;clear hx;go_enter func226,ntmps226;go_wp2_with fail;go_region
 all_goals
  go_wp2_with fail;exact⟨rfl,_,by simp[results,results226,go_sem],rfl,(((kz w).alloc _).alloc _).drew⟩
theorem zk3(b0 b1 b2 b3:Nat)(hx:b1<18446744073709551616)(c:Nat)(hq:c/64=1)(w:Wd):Calls prog 225 #[.agg #[.int .u64 b0,.int .u64 b1,.int .u64 b2,.int .u64 b3],.int .i64 c] w fun e a=>e=.returned (.bool (b1/2 ^ (c%64)%2 == 1))/\Kt nO w a:=by
 have b:(c:Int)/64=1:=by omega
 have E:=aA (pY b1 (c%64) hx);clear hx;go_enter func225,ntmps225;go_wp2_with fail;go_ret;exact⟨cN E.o,(kz w).alloc _⟩
theorem zk4(b0 b1 b2 b3:Nat)(hx:b1<18446744073709551616)(c:Nat)(hq:c/64=1)(w:Wd):Calls prog 226 #[.agg #[.int .u64 b0,.int .u64 b1,.int .u64 b2,.int .u64 b3],.int .i64 c] w fun e a=>e=.returned (.agg #[.int .u64 b0,.int .u64 ((b1 ^^^ 2 ^ (c%64):Nat):Int),.int .u64 b2,.int .u64 b3])/\Kt nO w a:=by
 have b:(c:Int)/64=1:=by omega
 have E:=tE b1 (c%64) hx (by omega);have d:=tV (c%64) (by omega);generalize b1 ^^^ 2 ^ (c%64)=y at *;clear hx;go_enter func226,ntmps226;go_wp2_with fail;go_region
 all_goals
  go_wp2_with fail;exact⟨rfl,_,by simp[results,results226,go_sem],rfl,(((kz w).alloc _).alloc _).drew⟩
theorem zk5(b0 b1 b2 b3:Nat)(hx:b2<18446744073709551616)(c:Nat)(hq:c/64=2)(w:Wd):Calls prog 225 #[.agg #[.int .u64 b0,.int .u64 b1,.int .u64 b2,.int .u64 b3],.int .i64 c] w fun e a=>e=.returned (.bool (b2/2 ^ (c%64)%2 == 1))/\Kt nO w a:=by
 have b:(c:Int)/64=2:=by omega
 have E:=aA (pY b2 (c%64) hx);clear hx;go_enter func225,ntmps225;go_wp2_with fail;go_ret;exact⟨cN E.o,(kz w).alloc _⟩
theorem zk6(b0 b1 b2 b3:Nat)(hx:b2<18446744073709551616)(c:Nat)(hq:c/64=2)(w:Wd):Calls prog 226 #[.agg #[.int .u64 b0,.int .u64 b1,.int .u64 b2,.int .u64 b3],.int .i64 c] w fun e a=>e=.returned (.agg #[.int .u64 b0,.int .u64 b1,.int .u64 ((b2 ^^^ 2 ^ (c%64):Nat):Int),.int .u64 b3])/\Kt nO w a:=by
 have b:(c:Int)/64=2:=by omega
 have E:=tE b2 (c%64) hx (by omega);have d:=tV (c%64) (by omega);generalize b2 ^^^ 2 ^ (c%64)=y at *;clear hx;go_enter func226,ntmps226;go_wp2_with fail;go_region
 all_goals
  go_wp2_with fail;exact⟨rfl,_,by simp[results,results226,go_sem],rfl,(((kz w).alloc _).alloc _).drew⟩
theorem zk7(b0 b1 b2 b3:Nat)(hx:b3<18446744073709551616)(c:Nat)(hq:c/64=3)(w:Wd):Calls prog 225 #[.agg #[.int .u64 b0,.int .u64 b1,.int .u64 b2,.int .u64 b3],.int .i64 c] w fun e a=>e=.returned (.bool (b3/2 ^ (c%64)%2 == 1))/\Kt nO w a:=by
 have b:(c:Int)/64=3:=by omega
 have E:=aA (pY b3 (c%64) hx);clear hx;go_enter func225,ntmps225;go_wp2_with fail;go_ret;exact⟨cN E.o,(kz w).alloc _⟩
theorem zk8(b0 b1 b2 b3:Nat)(hx:b3<18446744073709551616)(c:Nat)(hq:c/64=3)(w:Wd):Calls prog 226 #[.agg #[.int .u64 b0,.int .u64 b1,.int .u64 b2,.int .u64 b3],.int .i64 c] w fun e a=>e=.returned (.agg #[.int .u64 b0,.int .u64 b1,.int .u64 b2,.int .u64 ((b3 ^^^ 2 ^ (c%64):Nat):Int)])/\Kt nO w a:=by
 have b:(c:Int)/64=3:=by omega
 have E:=tE b3 (c%64) hx (by omega);have d:=tV (c%64) (by omega);generalize b3 ^^^ 2 ^ (c%64)=y at *;clear hx;go_enter func226,ntmps226;go_wp2_with fail;go_region
 all_goals
  go_wp2_with fail;exact⟨rfl,_,by simp[results,results226,go_sem],rfl,(((kz w).alloc _).alloc _).drew⟩
def wP(p:Pg):Nat->Nat
 | 0=>p.b0
 | 1=>p.b1
 | 2=>p.b2
 | _=>p.b3
def aJ(p:Pg)(c:Nat):Bool:=wP p (c/64)/2 ^ (c%64)%2 == 1
def eZ(p:Pg)(c:Nat):Pg:=
 match c/64 with
 | 0=>{ p with b0:=p.b0 ^^^ 2 ^ (c%64) }
 | 1=>{ p with b1:=p.b1 ^^^ 2 ^ (c%64) }
 | 2=>{ p with b2:=p.b2 ^^^ 2 ^ (c%64) }
 | _=>{ p with b3:=p.b3 ^^^ 2 ^ (c%64) }
abbrev oD(p:Pg):Vl:=.agg #[.int .u64 p.b0,.int .u64 p.b1,.int .u64 p.b2,.int .u64 p.b3]
theorem uN{c:Nat}(hc:c<256):c/64=0\/c/64=1\/c/64=2\/c/64=3:=by omega
theorem LF(p:Pg)(ok:PgOk p)(c:Nat)(hc:c<256)(w:Wd):Calls prog 225 #[oD p,.int .i64 c] w fun e a=>e=.returned (.bool (aJ p c))/\Kt nO w a:=by
 rcases uN hc with h|h|h|h
 ·rw[show aJ p c=(p.b0/2 ^ (c%64)%2 == 1)by simp[aJ,h,wP]];exact zk1 _ _ _ _ ok.b0 c h w
 ·rw[show aJ p c=(p.b1/2 ^ (c%64)%2 == 1)by simp[aJ,h,wP]];exact zk3 _ _ _ _ ok.b1 c h w
 ·rw[show aJ p c=(p.b2/2 ^ (c%64)%2 == 1)by simp[aJ,h,wP]];exact zk5 _ _ _ _ ok.b2 c h w
 ·rw[show aJ p c=(p.b3/2 ^ (c%64)%2 == 1)by simp[aJ,h,wP]];exact zk7 _ _ _ _ ok.b3 c h w
theorem zhZ(p:Pg)(ok:PgOk p)(c:Nat)(hc:c<256)(w:Wd):Calls prog 226 #[oD p,.int .i64 c] w fun e a=>e=.returned (oD (eZ p c))/\Kt nO w a:=by
 rcases uN hc with h|h|h|h
 ·rw[show eZ p c={ p with b0:=p.b0 ^^^ 2 ^ (c%64) } by simp[eZ,h]];exact zk2 _ _ _ _ ok.b0 c h w
 ·rw[show eZ p c={ p with b1:=p.b1 ^^^ 2 ^ (c%64) } by simp[eZ,h]];exact zk4 _ _ _ _ ok.b1 c h w
 ·rw[show eZ p c={ p with b2:=p.b2 ^^^ 2 ^ (c%64) } by simp[eZ,h]];exact zk6 _ _ _ _ ok.b2 c h w
 ·rw[show eZ p c={ p with b3:=p.b3 ^^^ 2 ^ (c%64) } by simp[eZ,h]];exact zk8 _ _ _ _ ok.b3 c h w
theorem PgOk.mu{p:Pg}(ok:PgOk p)(c:Nat):PgOk (eZ p c):=by
 have a:c%64<64:=by omega
 unfold eZ;split;·exact⟨ok.o0,ok.o8,ok.c0,ok.c7,tD _ _ ok.b0 a,ok.b1,ok.b2,ok.b3⟩
 ·exact⟨ok.o0,ok.o8,ok.c0,ok.c7,ok.b0,tD _ _ ok.b1 a,ok.b2,ok.b3⟩
 ·exact⟨ok.o0,ok.o8,ok.c0,ok.c7,ok.b0,ok.b1,tD _ _ ok.b2 a,ok.b3⟩
 ·exact⟨ok.o0,ok.o8,ok.c0,ok.c7,ok.b0,ok.b1,ok.b2,tD _ _ ok.b3 a⟩
theorem mT(p:Pg)(c:Nat):(eZ p c).kd=p.kd/\(eZ p c).od=p.od/\(eZ p c).cl=p.cl/\(eZ p c).lv=p.lv/\(eZ p c).nx=p.nx/\(eZ p c).pv=p.pv/\(eZ p c).fs=p.fs:=by unfold eZ;split <;> exact⟨rfl,rfl,rfl,rfl,rfl,rfl,rfl⟩
theorem MpA.jb{w b B m}{g:Nat}(h:MpA w b B m)(hg:B.g=some g):bO w g m.n m.pg:=by have a:=h.row;rwa [hg] at a
theorem zld{c:Int}(h : 0<=c):eD c<=256:=dg _ _
theorem UF{cl c:Int}(h0 : 0<=cl)(h:aD (eD cl) c=true):∃ k:Nat,c=k/\k<256:=by obtain⟨k,rfl,a⟩:=gP h;exact⟨k,rfl,bg a (zld h0)⟩
theorem VT(b:Nat)(B:Bs)(m:Mp)(i c:Int)(a:Bool)(w:Wd)(h:MpA w b B m)(hi:aD m.n i=false):Calls prog 165 #[.pointer (some ⟨b,0,none⟩),.int .i64 i,.int .i64 c,.bool a] w fun e f=>e=.returned (.int .i64 1)/\f=w:=by
 have d:=aA h;have g:=aA hi;clear h hi;go_enter func165,ntmps165;go_wp2_with fail;refine(wL b B m i _ d.o g.o).mono ?_;rintro e j ⟨rfl,rfl⟩;go_wp2_with fail;go_ret;exact⟨rfl,rfl⟩
theorem zle(b:Nat)(B:Bs)(m:Mp)(k:Nat)(c:Int)(a:Bool)(w:Wd)(h:MpA w b B m)(j:k<m.n)(d:(m.pg k).kd≠4):Calls prog 165 #[.pointer (some ⟨b,0,none⟩),.int .i64 k,.int .i64 c,.bool a] w fun e f=>e=.returned (.int .i64 1)/\f=w:=by
 have l:=aA h;obtain⟨g,hg,i⟩:=h.et (by omega);have S:=aA (lJ b B m g k w h hg j);rw[ac d] at S;clear h i hg;go_enter func165,ntmps165;go_wp2_with fail;refine S.o.mono ?_;rintro e o ⟨rfl,rfl⟩;go_wp2_with fail;go_ret;exact⟨rfl,rfl⟩
theorem zlf(b:Nat)(B:Bs)(m:Mp)(k:Nat)(c:Int)(a:Bool)(w:Wd)(h:MpA w b B m)(d:k<m.n)(f:(m.pg k).kd=4)(hc:aD (eD (m.pg k).cl) c=false):Calls prog 165 #[.pointer (some ⟨b,0,none⟩),.int .i64 k,.int .i64 c,.bool a] w fun e l=>e=.returned (.int .i64 1)/\l=w:=by
 have r:=aA h;obtain⟨g,hg,j⟩:=h.et (by omega);have S:=aA (lJ b B m g k w h hg d);rw[ae f] at S;obtain⟨C,s,q,x,t,z,A,v,u,y,p⟩:=j.cell k d;have i:=aA (qT g (k*11) (m.pg k).cl (h.ok k d).c0 (h.ok k d).c7 c w q);rw[hc] at i;clear h j hg;go_enter func165,ntmps165;go_wp2_with fail;refine S.o.mono ?_;rintro e o ⟨rfl,rfl⟩;go_wp2_with fail;refine i.o.mono ?_;rintro e o ⟨rfl,rfl⟩;go_wp2_with fail;go_ret;exact⟨rfl,rfl⟩
theorem zlg(b:Nat)(B:Bs)(m:Mp)(k c:Nat)(w:Wd)(h:MpA w b B m)(a:k<m.n)(d:(m.pg k).kd=4)(hc:aD (eD (m.pg k).cl) (c:Int)=true)(f:c<256):Calls prog 165 #[.pointer (some ⟨b,0,none⟩),.int .i64 k,.int .i64 c,.bool (aJ (m.pg k) c)] w fun e q=>e=.returned (.int .i64 1)/\Kt nO w q:=by
 have u:=aA h;obtain⟨g,hg,j⟩:=h.et (by omega);have S:=aA (lJ b B m g k w h hg a);rw[ae d] at S;obtain⟨G,v,t,A,x,D,F,z,y,C,s⟩:=j.cell k a;have i:=aA (qT g (k*11) (m.pg k).cl (h.ok k a).c0 (h.ok k a).c7 c w t);rw[hc] at i;have o:=aA (LF (m.pg k) (h.ok k a) c f w);generalize aJ (m.pg k) c=lv at *;clear h j hg;go_enter func165,ntmps165;go_wp2_with fail;refine S.o.mono ?_;rintro e r ⟨rfl,rfl⟩;go_wp2_with fail;refine i.o.mono ?_;rintro e r ⟨rfl,rfl⟩;go_wp2_with fail;refine o.o.mono ?_;rintro e E ⟨rfl,l⟩;have p:=aA l;clear l
 cases lv
 all_goals
  go_wp2_with fail;go_ret;exact⟨rfl,p.o⟩
theorem bO.bits{w g n pg}(h:bO w g n pg)(i:Nat)(hi:i<n)(t:Pg)(x:Int)(m:t.kd=(pg i).kd/\t.od=(pg i).od/\t.cl=(pg i).cl/\t.lv=(pg i).lv/\t.nx=(pg i).nx/\t.pv=(pg i).pv/\t.fs=(pg i).fs):bO (((((w.setCell ⟨g,i*11+7,none⟩ (.int .u64 t.b0)).setCell ⟨g,i*11+7+1,none⟩ (.int .u64 t.b1)).setCell ⟨g,i*11+7+2,none⟩ (.int .u64 t.b2)).setCell ⟨g,i*11+7+3,none⟩ (.int .u64 t.b3)).setCell ⟨g,i*11+3,none⟩ (.int .i64 x)) g n (aH pg i { t with lv:=x }):=by
 have:=(((((aZ.set h i 7 hi (by decide) (.int .u64 t.b0)).set i 8 hi (by decide) (.int .u64 t.b1)).set i 9 hi (by decide) (.int .u64 t.b2)).set i 10 hi (by decide) (.int .u64 t.b3)).set i 3 hi (by decide) (.int .i64 x));obtain⟨k,f,c,q,d,o,l⟩:=m;refine aZ.congr this (fun a ha b hb=>sF a b hb (fun j p=>?_) (fun e=>?_))
 ·revert j
  apply jG <;> simp[lO,Pg.es,k,f,c,d,o,l]
 ·simp[lO,e]
def aS(p:Pg)(c:Nat):Pg:={ eZ p c with lv:=wrap64 (if aJ p c=true then p.lv-1 else p.lv+1) }
theorem zlh(b:Nat)(B:Bs)(m:Mp)(k c:Nat)(w:Wd)(h:MpA w b B m)(f:k<m.n)(I:(m.pg k).kd=4)(hc:aD (eD (m.pg k).cl) (c:Int)=true)(r:c<256):Calls prog 165 #[.pointer (some ⟨b,0,none⟩),.int .i64 k,.int .i64 c,.bool (!aJ (m.pg k) c)] w fun e K=>e=.returned (.int .i64 0)/\MpA K b B { m with pg:=aH m.pg k (aS (m.pg k) c) }/\Kt (aP b B m.o) w K:=by
 have Q:=aA h;obtain⟨g,hg,P⟩:=h.et (by omega);have S:=aA (lJ b B m g k w h hg f);rw[ae I] at S;obtain⟨E,s,l,y,t,C,D,v,u,A,d⟩:=P.cell k f;have N:=aA (qT g (k*11) (m.pg k).cl (h.ok k f).c0 (h.ok k f).c7 c w l);rw[hc] at N;have R:=aA (LF (m.pg k) (h.ok k f) c r w);have HT:=aA (zhZ (m.pg k) (h.ok k f) c r);have U:=aA (show aS (m.pg k) c={ eZ (m.pg k) c with lv:=wrap64 (if aJ (m.pg k) c=true then (m.pg k).lv-1 else (m.pg k).lv+1) } from rfl);have a:=aA hg;have G:=aA f;have j:=aA ((h.ok k f).mu c);have X:=aA (mT (m.pg k) c);generalize eZ (m.pg k) c=V at *;generalize aJ (m.pg k) c=lv at *;clear h P hg f;go_enter func165,ntmps165;go_wp2_with fail;refine S.o.mono ?_;rintro e Y ⟨rfl,rfl⟩;go_wp2_with fail;refine N.o.mono ?_;rintro e Y ⟨rfl,rfl⟩;go_wp2_with fail;refine R.o.mono ?_;rintro e w2 ⟨rfl,J⟩;have L:=aA (Q.o.dk J);have T:=aA J;clear J E s l y t C D v u A d;obtain⟨E,s,l,y,t,C,D,v,u,A,d⟩:=(L.o.jb a.o).cell k G.o
 cases lv
 all_goals
  go_wp2_with fail;refine(HT.o _).mono ?_;rintro e w3 ⟨rfl,F⟩;have q:=aA (L.o.dk F);have Z:=aA (nT T.o F);clear F E s l y t C D v u A d;obtain⟨E,s,l,y,t,C,D,v,u,A,d⟩:=(q.o.jb a.o).cell k G.o;have z:=aZ.ic (q.o.jb a.o);go_wp2_with fail;go_ret;rw[U.o];refine⟨rfl,q.o.fh a.o ?_ ((q.o.jb a.o).bits k G.o V _ X.o) (fun i hi=>?_),?_⟩;·exact(((((Kt.refl (fun x=>x=g) w3).setCell (p:=⟨g,_,none⟩) rfl _).setCell (p:=⟨g,_,none⟩) rfl _).setCell (p:=⟨g,_,none⟩) rfl _).setCell (p:=⟨g,_,none⟩) rfl _).setCell (p:=⟨g,_,none⟩) rfl _
  ·unfold aH;split
   ·exact⟨j.o.o0,j.o.o8,j.o.c0,j.o.c7,j.o.b0,j.o.b1,j.o.b2,j.o.b3⟩
   ·exact q.o.ok i hi
  ·exact((((((Z.o.mono (fun _ _ x=>x.elim)).setCell (p:=⟨g,_,none⟩) (.inr (.inl a.o)) _).setCell (p:=⟨g,_,none⟩) (.inr (.inl a.o)) _).setCell (p:=⟨g,_,none⟩) (.inr (.inl a.o)) _).setCell (p:=⟨g,_,none⟩) (.inr (.inl a.o)) _).setCell (p:=⟨g,_,none⟩) (.inr (.inl a.o)) _)
def fV(wd:Nat->List Nat)(k:Nat)(ws:List Nat):Nat->List Nat:=fun j=>if j=k then ws else wd j
theorem MpA.words{w w' b B m}{ws:List Nat}(h:MpA w b B m)(k:Nat)(f:k<m.o)(kp:Kt (fun x=>x=B.C k) w w')(hS:SetAt w' (B.S k) (B.C k) (m.n/2 ^ (k+1)) ws):MpA w' b B { m with wd:=fV m.wd k ws }:=by
 obtain⟨g,hb,hp⟩:=h.hb;have s0:=h.set k f;refine⟨h.o8,h.n1,h.dv,⟨g,(kp.block b (lH hb) (bX hb s0.hc (by decide))).trans hb,hp.kept kp (fun x e=>?_)⟩,Rows.kept h.row kp (fun x e=>?_),fun j c=>?_,h.ik,h.ih,h.ok⟩;·rw[e] at hp;obtain⟨ds,hq,_⟩:=hp;exact bX hq s0.hc (by decide)
 ·have d:=h.row;rw[e] at d;obtain⟨cs,a,_⟩:=d;exact bX a s0.hc (by decide)
 ·show SetAt w' (B.S j) (B.C j) (m.n/2 ^ (j+1)) (fV m.wd k ws j)
  unfold fV;by_cases e:j=k;·rw[ae e,e];exact hS
  ·rw[ac e];have s:=h.set j c;exact s.kept kp (bX s.hb s0.hc (by decide)) (fun i=>e (h.ih j k c f i))
theorem WS(i k:Nat)(a:k<8)(W:Wd):Sem.run prog (Op.shift BinOp.shr IntKind.i64 (i:Int) IntKind.i64 (IntKind.i64.wrap ((k:Int)+1))) W=Result.ok (.int .i64 ((i/2 ^ (k+1):Nat):Int)) W:=by
 have hw:IntKind.i64.wrap ((k:Int)+1)=((k+1:Nat):Int):=by rw[cz];omega
 rw[hw];unfold Op.shift;simp[go_sem];rw[ac (by omega),Nat.min_eq_left (by omega),Int.fdiv_eq_ediv_of_nonneg _ (Int.le_of_lt (Int.pow_pos (by decide)))]
theorem WQ(b:Nat)(B:Bs)(m:Mp)(k i:Int)(w:Wd)(h:MpA w b B m)(hp:(aD m.o k && aD m.n i)=false):Calls prog 247 #[.pointer (some ⟨b,0,none⟩),.int .i64 k,.int .i64 i] w fun e c=>e=.returned (.tuple #[.bool false,.int .i64 1])/\Kt nO w c:=by
 have a:=aA h;have d:=aA hp;clear h hp;go_enter func247,ntmps247;go_wp2_with fail;refine(qS b B m k i _ a.o).mono ?_;rintro e f ⟨rfl,rfl⟩;rw[d.o];go_wp2_with fail;exact⟨rfl,_,by simp[results,results247,go_sem],rfl,kz _⟩
theorem WP(b:Nat)(B:Bs)(m:Mp)(k i:Nat)(w:Wd)(h:MpA w b B m)(c:k<m.o)(hi:i<m.n):Calls prog 247 #[.pointer (some ⟨b,0,none⟩),.int .i64 k,.int .i64 i] w fun e d=>e=.returned (.tuple #[.bool (cS (m.n/2 ^ (k+1)) (gG (m.n/2 ^ (k+1)) (m.wd k) ((i/2 ^ (k+1):Nat):Int)) ((i/2 ^ (k+1):Nat):Int)),.int .i64 0])/\MpA d b B { m with wd:=fV m.wd k (gG (m.n/2 ^ (k+1)) (m.wd k) ((i/2 ^ (k+1):Nat):Int)) }/\Kt (aP b B m.o) w d:=by
 have p:=aA h;have I:=aA (show(aD m.o (k:Int) && aD m.n (i:Int))=true by rw[dN c,dN hi];rfl);obtain⟨q,hq,K⟩:=h.cp k c;obtain⟨J,c2⟩:=h.c2 hq;have u:=aA (fun d (G:Kt nO w d)=>wN (B.S k) (B.C k) _ (m.wd k) ((i/2 ^ (k+1):Nat):Int) d ((h.set k c).kept G (fun x=>x) (fun x=>x)));have l:k<8:=by have:=h.o8;omega
 have r:i<1024:=by have:=h.n1;omega
 have v:(k:Int)<m.o:=by omega
 have z:=WS i k l;have f:=aA c;have A:=aA hi;clear h hq c hi;go_enter func247,ntmps247;go_wp2_with fail;refine(qS b B m k i _ p.o).mono ?_;rintro e j ⟨rfl,rfl⟩;rw[I.o];go_wp2_with fail;go_region_with ((go_at_call 251;refine(u.o _ (kz j).drew).mono ?_;rintro e t ⟨rfl,hS,hK,g⟩))
 all_goals
  have s:=aA ((p.o.dk (kz _).drew).words k f.o hK hS);have y:=aA (show Kt (aP b B m.o) j t from(kz j).drew.trans hK (fun _ _ x=>x.elim) (fun x _ e=>.inr (.inr (.inr ⟨k,f.o,.inr e⟩))));clear hS hK g;have D:=aA (TO b B _ k i t s.o f.o A.o);go_wp2_with fail;refine D.o.mono ?_;rintro e L ⟨rfl,a⟩;have F:=aA (s.o.dk a);have E:=aA (y.o.trans (U:=aP b B m.o) a (fun _ _ x=>x) (fun _ _ x=>x.elim));clear a;go_wp2_with fail;exact⟨rfl,_,by simp[results,results247,go_sem,fV],rfl,F.o,E.o⟩
end Go.Proofs.YtfmgnljlkdmndaaGreatDoor
