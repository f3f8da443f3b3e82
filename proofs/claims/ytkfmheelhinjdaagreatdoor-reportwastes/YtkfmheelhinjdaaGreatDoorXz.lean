import Derived.Test.YtkfmheelhinjdaaGreatDoorXn
import Derived.Test.YtkfmheelhinjdaaGreatDoorWg
import Derived.Shelf.SlSortCmp.NoneTotal
import Derived.Shelf.Strconv.AppendInt10
set_option maxRecDepth 1000000
set_option maxHeartbeats 80000000
namespace Go.Proofs.YtkfmheelhinjdaaGreatDoor
open _root_.Go.Proofs.Tryz
open Go.RowKit
open Go.MuLone
set_option linter.unusedVariables false
section
variable {w W W1 W':World} {hb sb lw:Nat} {x:Bx} {t:Bt} {fr:Nat->List Nat} {ls:List (Nat×Nat)} {S:Sb} {s:Int}
theorem HW.other(H:HW w W hb sb lw x t fr ls S s){y0:Nat}{cs:Array Value}{e:TypeId}{z:Nat×Nat}(hy:W.heap[y0]?=some (.cells cs e z))(hn:w.heap.size<=y0)(h1:¬Go.Proofs.YtkfmheelhinjdaaGreatDoor.pty e)(h2:e≠135)(h3:e≠75)(k:Kt (fun y=>y=y0) W W'):HW w W' hb sb lw x t fr ls S s:=by
 obtain⟨h,o⟩:=H.so;have hpty:∀ y,(aF x y\/y=x.b\/y=x.l\/y=lw)->y≠y0:=fun y hy2 e=>by
  subst e;exact h1 (o.sw.pl.pty hy hy2)
 have hsb:sb≠y0:=fun e=>by
  subst e;exact h2 (lA hy o.sw.bx)
 have hhb:hb≠y0:=fun e=>by
  subst e;exact h3 (lA hy H.bx)
 refine⟨⟨h,⟨⟨⟨(k.block _ (lH o.sw.pl.box) (hpty _ (.inr (.inr (.inr rfl))))).trans o.sw.pl.box,o.sw.pl.bd.kept k (fun y hy2=>hpty y ?_),o.sw.pl.nw,o.sw.pl.kp.trans k (fun _ _ e=>e) (fun y hy e=>absurd hn (by rw[<-e];exact Nat.not_le.2 hy))⟩,(k.block _ (lH o.sw.bx) hsb).trans o.sw.bx,o.sw.nw,o.sw.tb⟩,o.sf,o.st,o.bm,o.si,o.hd⟩⟩,H.lv,(k.block _ (lH H.bx) hhb).trans H.bx,H.nw,H.br⟩;rcases hy2 with hy2|hy2|hy2
 ·exact .inl hy2
 ·exact .inr (.inl hy2)
 ·exact .inr (.inr (.inl hy2))
end
end Go.Proofs.YtkfmheelhinjdaaGreatDoor
namespace Go.Proofs.YtkfmheelhinjdaaGreatDoor.W
open _root_.Go.Proofs.Tryz
open Go.RowKit
set_option linter.unusedVariables false
set_option maxHeartbeats 16000000
set_option maxRecDepth 6000
set_option maxHeartbeats 8000000
set_option maxRecDepth 6000
def XR(s:Nat)(w:World)(v:Value)(n:Nat)(T:TypeId)(N:Nat)(F:Nat->Value):Prop:=∃ b cs,s<b/\v=.slice (some ⟨b,0,none⟩) n n/\w.heap[b]?=some (.cells cs T)/\cs.size=N/\∀ j,j<N->cs[j]?=some (F j)
theorem XR.keepS{s n N:Nat}{w W:World}{v:Value}{T:TypeId}{F:Nat->Value}{S:Nat->Prop}(h:XR s w v n T N F)(hk:Kt S w W)(hS:∀ b,v.ownBlock=some b->¬S b):XR s W v n T N F:=by
 obtain⟨b,cs,h1,rfl,h3,h4⟩:=h;exact⟨b,cs,h1,rfl,(hk.block _ (lH h3) (hS b rfl)).trans h3,h4⟩
theorem XR.keep{s n N:Nat}{w W:World}{v:Value}{T:TypeId}{F:Nat->Value}(h:XR s w v n T N F)(hk:Kt nO w W):XR s W v n T N F:=h.keepS hk fun _ _ x=>x
theorem XR.ty{s n N:Nat}{w:World}{v:Value}{T:TypeId}{F:Nat->Value}(h:XR s w v n T N F){b:Nat}(hb:v.ownBlock=some b):∃ cs,w.heap[b]?=some (.cells cs T):=by
 obtain⟨b,cs,h1,rfl,h3,h4⟩:=h;simp[Value.ownBlock] at hb;subst hb;exact⟨cs,h3⟩
theorem XR.own{s n N:Nat}{w:World}{v:Value}{T:TypeId}{F:Nat->Value}(h:XR s w v n T N F){b:Nat}(hb:v.ownBlock=some b):s<b:=by
 obtain⟨b,cs,h1,rfl,h3,h4⟩:=h;simp[Value.ownBlock] at hb;subst hb;exact h1
theorem XR.cell{s n N:Nat}{w:World}{b:Nat}{T:TypeId}{F:Nat->Value}{m c:Nat}(h:XR s w (.slice (some ⟨b,0,none⟩) m c) n T N F){j:Nat}(hj:j<N):w.cell? ⟨b,j,none⟩=some (F j):=by
 obtain⟨b',cs,h1,e,h3,h4,h5⟩:=h
 cases e
 simp[World.cell?,h3,h5 j hj]
theorem XR.frz{s n N:Nat}{w:World}{b:Nat}{T:TypeId}{F:Nat->Value}{m c:Nat}(h:XR s w (.slice (some ⟨b,0,none⟩) m c) n T N F)(j:Nat):w.frozen? ⟨b,j,none⟩=false:=by
 obtain⟨b',cs,h1,e,h3,h4,h5⟩:=h
 cases e
 simp[World.frozen?,h3]
theorem XR.put{s n N:Nat}{w:World}{b:Nat}{T:TypeId}{F:Nat->Value}{m c:Nat}(h:XR s w (.slice (some ⟨b,0,none⟩) m c) n T N F){k:Nat}(hk:k<N)(x:Value):XR s (w.setCell ⟨b,k,none⟩ x) (.slice (some ⟨b,0,none⟩) m c) n T N fun j=>if j=k then x else F j:=by
 obtain⟨b',cs,h1,e,h3,h4,h5⟩:=h
 cases e
 refine⟨_,cs.setIfInBounds k x,h1,rfl,lC h3 x,by simpa using h4,fun j hj=>?_⟩;by_cases e:j=k
 ·subst e;simp[h4,hj]
 ·show _=some (if j=k then x else F j)
  rw[if_neg e,Array.getElem?_setIfInBounds_ne (Ne.symm e)];exact h5 j hj
theorem XR.congr{s n N:Nat}{w:World}{v:Value}{T:TypeId}{F G:Nat->Value}(h:XR s w v n T N F)(e:∀ j,j<N->F j=G j):XR s w v n T N G:=by
 obtain⟨b,cs,h1,h2,h3,h4,h5⟩:=h;exact⟨b,cs,h1,h2,h3,h4,fun j hj=>(h5 j hj).trans (by rw[e j hj])⟩
structure ImOk(I:Img):Prop where
 b64:I.bS<18446744073709551616
 lim:N64 I.lim
 ord:N64 I.ord
 reg:N64 I.reg
 nm:I.nm<=9223372036854775807
 np:I.np<=9223372036854775807
 no:I.no<=9223372036854775807
 nh:I.hd.length<=9223372036854775807
 nt:I.pt.length<=9223372036854775807
 mem:∀ i,i<I.nm->I.mem i<256
 pg:∀ i,i<I.np->PgIn (I.pg i)
 pr:∀ i,i<I.no->∀ j,(I.pr i).getD j 0<2 ^ 64
 hd:∀ i,i<I.hd.length->I.hd.getD i 0<18446744073709551616
 pt:∀ i,i<I.pt.length->N64 (I.pt.getD i 0)
theorem XR.le{s s' n N:Nat}{w:World}{v:Value}{T:TypeId}{F:Nat->Value}(h:XR s w v n T N F)(e:s'<=s):XR s' w v n T N F:=by
 obtain⟨b,cs,h1,h2,h3⟩:=h;exact⟨b,cs,by omega,h2,h3⟩
set_option maxHeartbeats 8000000
set_option maxRecDepth 6000
theorem DG{P:World->Prop}(w:World)(h:∀ W,W=w->P W):P w:=h w rfl
set_option maxHeartbeats 8000000
set_option maxRecDepth 6000
def Gd9(I:Img)(g:Nat):Prop:=((I.pg g).kd=1\/(I.pg g).kd=3)\/(hdOk (I.pg g) g=true/\∀ i,i<2 ^ (I.pg g).od.toNat-1->rsOk (I.pg g) (I.pg (g+1+i))=true)
theorem pE{p q:Pg}(h:rsOk p q=true):q.kd=p.kd+1:=by
 have:q=aN (p.kd+1) p.od:=of_decide_eq_true h;rw[this];rfl
theorem pD{p:Pg}{a:Nat}(h:hdOk p a=true):(p.kd=4/\p.od=0)\/((p.kd=0\/p.kd=2)/\a%2 ^ p.od.toNat=0):=by
 unfold hdOk at h;split at h
 ·rename_i e;exact .inl ⟨e,by simpa using h⟩
 ·split at h
  ·rename_i e;simp only[Bool.and_eq_true,decide_eq_true_eq] at h;exact .inr ⟨e,h.1⟩
  ·cases h
theorem uI{I:Img} : ∀ n a,r4F I n a=none->I.np<=a+n->∀ g,a<=g->g<I.np->Gd9 I g
 | 0,a,_,hn,g,h1,h2=>absurd h2 (by omega)
 | n+1,a,h,hn,g,h1,h2=>by
  unfold r4F at h;rw[if_neg (by omega)] at h;by_cases hh:hdOk (I.pg a) a=false
  ·rw[if_pos hh] at h;cases h
  rw[if_neg hh] at h;have hh:hdOk (I.pg a) a=true:=by simpa using hh
  cases e:fst1 (2 ^ (I.pg a).od.toNat-1) (fun i=>rsOk (I.pg a) (I.pg (a+1+i)))with
  | some i=>rw[e] at h;cases h
  | none=>
   rw[e] at h;have hr:=kK e;have hp : 0<2 ^ (I.pg a).od.toNat:=Nat.two_pow_pos _;by_cases g1:g=a
   ·subst g1;exact .inr ⟨hh,hr⟩
   ·by_cases g2:g<a+2 ^ (I.pg a).od.toNat
    ·left
     obtain⟨i,rfl⟩:∃ i,g=a+1+i:=⟨g-(a+1),by omega⟩;have:=pE (hr i (by omega));rcases pD hh with ⟨_,e0⟩|⟨e1|e1,_⟩
     ·exfalso
      have e2:(I.pg a).od.toNat=0:=(by omega);rw[e2] at g2;omega
     ·left;omega
     ·right;omega
    ·exact uI n _ h (by omega) g (by omega) h2
structure BOk(I:Img)(k:Nat)(x:Nat×Nat):Prop where
 s16 : 16<=x.2
 sR:x.2<=4096*2 ^ k
 pw:∃ e,e<=20/\x.2=2 ^ e
 al:x.1%x.2=0
 lo:I.bS<=x.1
 hi:x.1-I.bS+x.2<=I.nm
theorem uH{bS g sz:Nat}{ws:List Nat}{x:Nat×Nat} : ∀ {j:Nat},x∈fT bS g sz ws j->∃ i,i<j/\x=(bS+g*4096+i*sz,sz)
 | 0,h=>by simp[fT] at h
 | j+1,h=>by
  unfold fT at h;split at h
  ·rcases List.mem_append.1 h with h|h
   ·obtain⟨i,h1,h2⟩:=uH h;exact⟨i,by omega,h2⟩
   ·exact⟨j,by omega,by simpa using h⟩
  ·obtain⟨i,h1,h2⟩:=uH h;exact⟨i,by omega,h2⟩
theorem zM{bS g q c i:Nat}(hb:bS=4096*q)(hc:c<=7)(hi:i<celN9 c) : 16<=16*2 ^ c/\16*2 ^ c<=4096/\16*2 ^ c=2 ^ (4+c)/\(bS+g*4096+i*(16*2 ^ c))%(16*2 ^ c)=0/\i*(16*2 ^ c)+16*2 ^ c<=4096:=by
 subst hb;unfold celN9 at hi;have:c=0\/c=1\/c=2\/c=3\/c=4\/c=5\/c=6\/c=7:=by omega
 rcases this with rfl|rfl|rfl|rfl|rfl|rfl|rfl|rfl <;> simp at hi ⊢ <;> omega
theorem yM{I:Img}{k r:Nat}(hS:Sn9 I k r)(h4:r4 I=none){g:Nat}(hg:g<I.np){x:Nat×Nat}(hx:x∈gG I g):
  BOk I k x/\I.bS+g*4096<=x.1/\x.1<I.bS+(g+1)*4096/\((I.pg g).kd=2\/(I.pg g).kd=4)/\((I.pg g).kd=4->x.1+x.2<=I.bS+(g+1)*4096)/\((I.pg g).kd=2->x.1+x.2=I.bS+g*4096+4096*2 ^ (I.pg g).od.toNat):=by
 obtain⟨kd,o,c,l,e1,e2,e3,e4,e5,e6,-⟩:=hS.pg g hg;have hgd:=uI _ _ h4 (by omega) g (by omega) hg;have hbm:=hS.bm;unfold M.RS at hbm;have hP : 0<2 ^ k:=Nat.two_pow_pos k;obtain⟨q,hq⟩:∃ q,I.bS=4096*q:=by
  have : 4096 ∣ I.bS:=Nat.dvd_trans ⟨2 ^ k,rfl⟩ (Nat.dvd_of_mod_eq_zero hbm);exact this
 have hnm:=hS.nm;unfold gG at hx;split at hx
 ·rename_i kd2;have eo:(I.pg g).od.toNat=o:=by omega
  rw[eo] at hx ⊢;obtain rfl:x=(I.bS+g*4096,4096*2 ^ o):=by simpa using hx
  rcases hgd with hgd|⟨hh,_⟩
  ·omega
  rcases pD hh with ⟨h,_⟩|⟨_,hal⟩
  ·omega
  rw[eo] at hal;have ok : 2 ^ o ∣ 2 ^ k:=Nat.pow_dvd_pow 2 e4;have hPo : 0<2 ^ o:=Nat.two_pow_pos o;have db : 4096*2 ^ o ∣ I.bS:=Nat.dvd_trans (Nat.mul_dvd_mul_left _ ok) (Nat.dvd_of_mod_eq_zero hbm);have dg : 2 ^ o ∣ g:=Nat.dvd_of_mod_eq_zero hal;have dn : 2 ^ o ∣ I.np:=by rw[hS.np];exact Nat.dvd_trans ok ⟨r,Nat.mul_comm _ _⟩
  have cS:g+2 ^ o<=I.np:=by
   obtain⟨u,hu⟩:=dg;obtain⟨v,hv⟩:=dn;have huv:u<v:=by
    refine Nat.lt_of_mul_lt_mul_left (a:=2 ^ o) ?_;rw[<-hu,<-hv];exact hg
   have:=Nat.mul_le_mul_left (2 ^ o) (Nat.succ_le_of_lt huv);rw[Nat.mul_succ] at this;omega
  have le : 2 ^ o<=2 ^ k:=Nat.le_of_dvd hP ok;refine⟨⟨by show 16<=4096*2 ^ o;omega,by show 4096*2 ^ o<=_;omega,⟨12+o,by have:=hS.k8;omega,by show 4096*2 ^ o=_;rw[Nat.pow_add]⟩,?_,by show I.bS<=I.bS+g*4096;omega,by show I.bS+g*4096-I.bS+4096*2 ^ o<=I.nm;omega⟩,by show _<=I.bS+g*4096;omega,by show I.bS+g*4096<_;omega,.inl kd2,fun h=>by omega,fun _=>rfl⟩;refine Nat.mod_eq_zero_of_dvd (Nat.dvd_add db ?_);rw[Nat.mul_comm g];exact Nat.mul_dvd_mul_left _ dg
 ·rename_i kd2;split at hx
  ·rename_i kd4;have ec:(I.pg g).cl.toNat=c:=(by omega);rw[ec] at hx;obtain⟨i,hi,rfl⟩:=uH hx;obtain⟨f1,f2,f3,f4,f5⟩:=zM (g:=g) hq e6 hi;generalize hz : 16*2 ^ c=sz at *;have hk1 : 4096<=4096*2 ^ k:=Nat.le_mul_of_pos_right _ hP;refine⟨⟨f1,by show sz<=_;omega,⟨4+c,by omega,f3⟩,f4,by show I.bS<=I.bS+g*4096+i*sz;omega,?_⟩,by show _<=I.bS+g*4096+i*sz;omega,by show I.bS+g*4096+i*sz<_;omega,.inr kd4,fun _=>by show I.bS+g*4096+i*sz+sz<=_;omega,fun h=>absurd h kd2⟩;show I.bS+g*4096+i*sz-I.bS+sz<=I.nm
   omega
  ·simp at hx
theorem uG{I:Img}{x:Nat×Nat} : ∀ {j:Nat},x∈iU I j->∃ g,g<j/\x∈gG I g
 | 0,h=>by simp[iU] at h
 | j+1,h=>by
  rcases List.mem_append.1 h with h|h
  ·obtain⟨g,h1,h2⟩:=uG h;exact⟨g,by omega,h2⟩
  ·exact⟨j,by omega,h⟩
theorem sE{I:Img}{x:Nat×Nat}(hx:x∈cG I):(∃ r,Sn9 I I.ord.toNat r)/\BOk I I.ord.toNat x:=by
 unfold cG at hx;split at hx
 ·rename_i h;obtain⟨r,hS⟩:=kX h;obtain⟨g,h1,h2⟩:=uG hx;exact⟨⟨r,hS⟩,(yM hS (lU h 3 (by decide)) h1 h2).1⟩
 ·simp at hx
set_option maxHeartbeats 8000000
set_option maxRecDepth 6000
def RBk(w:World)(v:Value)(l:List (Nat×Nat)):Prop:=∃ oa oc,v=.slice oa l.length oc/\(l=[]\/∃ g,oa=some ⟨g,0,none⟩/\g<w.heap.size/\∀ j,j<l.length->w.cell? ⟨g,j*2,none⟩=some (.int .u64 ((l.getD j (0,0)).1:Int))/\w.cell? ⟨g,j*2+1,none⟩=some (.int .u64 ((l.getD j (0,0)).2:Int)))
theorem blV_get:∀ (l:List (Nat×Nat)) (j:Nat),j<l.length->(blV l)[j*2]?=some (.int .u64 ((l.getD j (0,0)).1:Int))/\(blV l)[j*2+1]?=some (.int .u64 ((l.getD j (0,0)).2:Int))
 | [],j,h=>by simp at h
 | b :: l,0,_=>by simp[blV]
 | b :: l,j+1,h=>by
  have:=blV_get l j (by simpa using h);rw[show(j+1)*2=j*2+1+1 by omega];simpa [blV] using this
theorem GB.rb{w0 W:World}{v:Value}{l:List (Nat×Nat)}(h:GB w0 W v l):RBk W v l:=by
 obtain⟨h1,h2⟩:=h.own;rcases h2 with ⟨rfl,h0⟩|⟨g,cap,cur,rfl,_,hg,_,_,hs,ht⟩
 ·exact⟨none,0,by rw[h0],.inl (List.eq_nil_of_length_eq_zero h0)⟩
 ·refine⟨_,_,rfl,.inr ⟨g,rfl,lH hg,fun j hj=>?_⟩⟩;obtain⟨e1,e2⟩:=blV_get l j hj;rw[<-ht,List.getElem?_take_of_lt (by omega)] at e1 e2;rw[Array.getElem?_toList] at e1 e2;exact⟨by simp[World.cell?,hg,e1],by simp[World.cell?,hg,e2]⟩
theorem RBk.keep{w W:World}{v:Value}{l:List (Nat×Nat)}(h:RBk w v l)(hk:Kt nO w W):RBk W v l:=by
 obtain⟨oa,oc,h1,h2⟩:=h;refine⟨oa,oc,h1,?_⟩;rcases h2 with h2|⟨g,e,hg,hc⟩
 ·exact .inl h2
 ·exact .inr ⟨g,e,Nat.lt_of_lt_of_le hg hk.size,fun j hj=>⟨hk.cell (fun x=>x) (hc j hj).1,hk.cell (fun x=>x) (hc j hj).2⟩⟩
set_option maxHeartbeats 8000000
set_option maxRecDepth 6000
def oZ{α : Type}[BEq α](enc : α->Value)(ok : α->Prop)(w:World)(xs:List α)(e:Ending)(w':World):Prop:=
 ∃ g D,e=.returned (.map (some g))/\w.heap.size<=g/\MC enc ok w' g D (fun a=>xs.count a)/\(∀ a,a∈D↔a∈xs)/\D.length<=xs.length/\Kt nO w w'
structure TaI{α : Type}[BEq α](enc : α->Value)(ok : α->Prop)(w W:World)(g:Nat)(xs:List α)(a:Nat)(D:List α):Prop where
 m:MC enc ok W g D (fun x=>(xs.take a).count x)
 me:∀ x,x∈D↔x∈xs.take a
 le:D.length<=a
 k:Kt nO w W
 nw:w.heap.size<=g
section
variable {α : Type} [BEq α] {enc : α->Value} {ok : α->Prop} {w W W':World} {g a:Nat} {xs D:List α} {x : α}
theorem TaI.start(w:World):TaI enc ok w (w.alloc (.map #[] 0)) w.heap.size xs 0 []:=by
 refine⟨?_,by simp,Nat.le_refl _,(Kt.refl _ w).alloc _,Nat.le_refl _⟩;have:=MC.made (enc:=enc) (ok:=ok) w;simpa using this
theorem TaI.at[LawfulBEq α](h:TaI enc ok w W g xs a D)(hx:xs[a]?=some x):(xs.take (a+1)).count x=(xs.take a).count x+1/\∀ y,y≠x->(xs.take (a+1)).count y=(xs.take a).count y:=by
 have e:xs.take (a + 1)=xs.take a ++ [x]:=by rw[List.take_add_one,hx];rfl
 constructor
 ·rw[e,List.count_append];simp
 ·intro y hy;rw[e,List.count_append,List.count_eq_zero.2 (show ¬y∈[x] by simpa using hy),Nat.add_zero]
theorem TaI.next(h:TaI enc ok w W g xs a D)(hx:xs[a]?=some x)(m:MC enc ok W' g (bA D x) (fun y=>(xs.take (a+1)).count y))(k:Kt nO w W'):TaI enc ok w W' g xs (a+1) (bA D x):=by
 have e:xs.take (a + 1)=xs.take a ++ [x]:=by rw[List.take_add_one,hx];rfl
 refine⟨m,fun y=>?_,Nat.le_trans (WF x) (Nat.succ_le_succ h.le),k,h.nw⟩;rw[oR,h.me,e];simp
theorem TaI.done(h:TaI enc ok w W g xs xs.length D):oZ enc ok w xs (.returned (.map (some g))) W:=by
 have m:=h.m;have me:=h.me;rw[List.take_length] at me;simp only[List.take_length] at m;exact⟨g,D,rfl,h.nw,m,me,h.le,h.k⟩
end
theorem zV{w W W':World}{g:Nat}(h:Kt nO w W)(k:Kt (fun x=>x=g) W W')(hg:w.heap.size<=g):Kt nO w W':=
 h.trans k (fun _ _ x=>x) (fun x hx e=>by cases e;exact absurd hx (Nat.not_lt.2 hg))
theorem zj5(p s:Int)(W:World):Calls prog 54 #[.agg #[.int .u64 p,.int .u64 s]] W fun e w'=>e=.returned (.int .u64 s)/\Kt nO W w':=by
 go_enter func54,ntmps54;go_wp2_with fail;go_ret;exact⟨rfl,(Kt.refl _ W).alloc _⟩
theorem tK(w:World):(zeroValue 3).run prog w=.ok (.int .i64 0) w:=by kernel_rfl
theorem VI(v:Value)(l:List (Nat×Nat))(w:World)(hl:l.length<=281474976710656)(hb:∀ b∈l,jW b.2)(hv:RBk w v l):
  Calls prog 53 #[v,.func (.func 54) #[] #[]] w (oZ eU jW w (dS l)):=by
 have HV:=aA hv;obtain⟨va,vc,hv1,-⟩:=hv;obtain⟨n,hn⟩:=xe (l.length);obtain⟨xs,hxs⟩:=xe (dS l);rw[<-hn] at hl hv1;have HN:=aA (show xs.length=n by rw[hxs,hn];simp[dS]);have RW:=aA (show ∀ W,Kt nO w W->∀ j,j<n->∃ g,∃ p s:Nat,va=some ⟨g,0,none⟩/\xs[j]?=some s/\jW s/\W.cell? ⟨g,j*2,none⟩=some (.int .u64 p)/\W.cell? ⟨g,j*2+1,none⟩=some (.int .u64 s)from fun W hW j hj=>by
  obtain⟨oa,oc,q1,q2⟩:=HV.out;rw[hv1] at q1
  cases q1
  rcases q2 with q2|⟨g,rfl,hg,hc⟩
  ·rw[hn,q2] at hj;simp at hj
  have hd:l.getD j (0,0)=l[j]'(hn▸hj):=by rw[List.getD_eq_getElem?_getD,List.getElem?_eq_getElem (hn▸hj)];rfl
  refine⟨g,(l.getD j (0,0)).1,(l.getD j (0,0)).2,rfl,?_,?_,hW.cell (fun x=>x) (hc j (by omega)).1,hW.cell (fun x=>x) (hc j (by omega)).2⟩
  ·rw[hxs,hd];unfold dS;rw[List.getElem?_map,List.getElem?_eq_getElem (hn▸hj)];rfl
  ·rw[hd];exact hb _ (List.getElem_mem _))
 rw[<-hxs];clear hxs HV hn hb;subst hv1;have hmk:∀ w,(Instr.makeMap 106 none).run prog w=.ok (.map (some w.heap.size)) (w.alloc (.map #[] 0)):=fun w=>run_makeMap _ w
 have I0:=aA (show TaI eU jW w (w.alloc (.map #[] 0)) w.heap.size xs 0 [] from TaI.start w);go_enter func53,ntmps53;go_wp2_with fail;generalize w.alloc (.map #[] 0)=W1 at *;generalize hgx:w.heap.size=gx at *;clear hmk;go_loopw [11] (fun i W=>∃ a D,a<=n/\i=.int .i64 ((a:Nat):Int)/\Hid (TaI eU jW w W gx xs a D)) (fun i _=>n-(intOf i).toNat)
 case atStart=>exact⟨0,[],Nat.zero_le _,rfl,I0⟩
 case round=>
  clear I0;obtain⟨a,D,ha,rfl,HI⟩:=hrel;by_cases hlt:a<n
  ·have hai:(a:Int)<n:=(by omega);obtain⟨bl,p,s,rfl,hs,h64,r0,r1⟩:=RW.out wr HI.out.k a hlt;have HS:=aA hs;have H64:=aA h64;clear hs h64;go_wp2_with fail;refine(zj5 _ _ _).mono ?_;rintro e w2 ⟨rfl,hk⟩;have K1:=aA (nT ((Kt.refl nO wr).alloc _) hk);have M2:=aA (HI.out.m.kept K1.out (fun x=>x));have AT:=aA (TaI.at HI.out HS.out);obtain⟨c,hc⟩:∃ c,(xs.take a).count s=c:=⟨_,rfl⟩;have hcn:c<=n:=by
    rw[<-hc];exact Nat.le_trans List.count_le_length (by rw[List.length_take];omega)
   have HC:=aA hc;have A1:=aA (AT.out.1.trans (congrArg (·+1) hc));have DL:=aA (show D.length<maxLen from by have:=HI.out.le;unfold maxLen;omega);have NX:=aA (fun W' m k=>TaI.next HI.out HS.out (W':=W') m k);clear hk hc r0 r1;go_wp2_with (first|(at_lookup;refine vS _ rfl _ _ 106 rfl 27 3 nS Tryz.underlying106 (tK _) gx rfl M2.out s H64.out rfl c HC.out ?_)|(at_mapUpdate;refine zjB _ rfl _ _ _ 106 rfl 27 3 nS Tryz.underlying106 gx rfl M2.out DL.out s H64.out rfl (c+1) (fun y=>(xs.take (a+1)).count y) A1.out AT.out.2 rfl ?_;intro w3 m3 k3 z3;have M3:=aA m3;have K3:=aA k3;clear m3 k3 z3))
   refine⟨⟨a+1,_,by omega,by simp,aA (NX.out w3 M3.out (zV (nT HI.out.k K1.out) K3.out HI.out.nw))⟩,by simp[intOf];omega⟩
  ·have hae:a=n:=(by omega);have hai:¬(a:Int)<n:=(by omega);have FIN:=aA (show oZ eU jW w xs (.returned (.map (some gx))) wr from by
    have h:=HI.out;rw[hae,<-HN.out] at h;exact h.done)
   clear HI;go_wp2_with fail;go_ret;exact FIN.out
end Go.Proofs.YtkfmheelhinjdaaGreatDoor.W
namespace Go.Proofs.YtkfmheelhinjdaaGreatDoor
open _root_.Go.Proofs.Tryz
open Go.Shelf
def ziK:Go.Shelf.Ren:=⟨fun|6=>94|15=>137|14=>136|28=>184|29=>185|20=>176|21=>177|22=>178|23=>179|24=>180|25=>181|26=>182|27=>183|46=>231|47=>232|48=>233|49=>234|50=>235|57=>272|n=>n,fun|22=>35|24=>27|25=>110|3=>3|39=>59|0=>0|53=>69|55=>27|4=>4|46=>222|45=>221|50=>226|5=>5|9=>9|66=>253|70=>256|76=>280|77=>57|n=>n,fun|n=>n⟩
theorem LR:SlLaysF.n6 prog ziK:={
 mixed:=by kernel_rfl
 f6:=⟨Tryz.f94.name,by decide,func94.trans (congrArg some (by kernel_rfl))⟩
 f14:=⟨Tryz.f136.name,by decide,func136.trans (congrArg some (by kernel_rfl))⟩
 f15:=func137.trans (congrArg some (by kernel_rfl))
 f20:=⟨Tryz.f176.name,by decide,func176.trans (congrArg some (by kernel_rfl))⟩
 f21:=⟨Tryz.f177.name,by decide,func177.trans (congrArg some (by kernel_rfl))⟩
 f22:=⟨Tryz.f178.name,by decide,func178.trans (congrArg some (by kernel_rfl))⟩
 f23:=⟨Tryz.f179.name,by decide,func179.trans (congrArg some (by kernel_rfl))⟩
 f24:=⟨Tryz.f180.name,by decide,func180.trans (congrArg some (by kernel_rfl))⟩
 f25:=⟨Tryz.f181.name,by decide,func181.trans (congrArg some (by kernel_rfl))⟩
 f26:=⟨Tryz.f182.name,by decide,func182.trans (congrArg some (by kernel_rfl))⟩
 f27:=⟨Tryz.f183.name,by decide,func183.trans (congrArg some (by kernel_rfl))⟩
 f28:=func184.trans (congrArg some (by kernel_rfl))
 f29:=func185.trans (congrArg some (by kernel_rfl))
 f46:=⟨Tryz.f231.name,by decide,func231.trans (congrArg some (by kernel_rfl))⟩
 f47:=func232.trans (congrArg some (by kernel_rfl))
 f48:=func233.trans (congrArg some (by kernel_rfl))
 f49:=⟨Tryz.f234.name,by decide,func234.trans (congrArg some (by kernel_rfl))⟩
 f50:=⟨Tryz.f235.name,by decide,func235.trans (congrArg some (by kernel_rfl))⟩
 f57:=⟨Tryz.f272.name,by decide,func272.trans (congrArg some (by kernel_rfl))⟩
 t0:=Tryz.underlying0
 a0:=Tryz.isAgg0
 z0:=Tryz.sizeOf0
 v0:=Tryz.zeroValue0
 t3:=Tryz.underlying3
 a3:=Tryz.isAgg3
 z3:=Tryz.sizeOf3
 v3:=Tryz.zeroValue3
 t4:=Tryz.underlying4
 a4:=Tryz.isAgg4
 z4:=Tryz.sizeOf4
 v4:=Tryz.zeroValue4
 t5:=Tryz.underlying5
 a5:=Tryz.isAgg5
 z5:=Tryz.sizeOf5
 v5:=Tryz.zeroValue5
 t9:=Tryz.underlying9
 a9:=Tryz.isAgg9
 z9:=Tryz.sizeOf9
 v9:=Tryz.zeroValue9
 t22:=Tryz.underlying35
 a22:=Tryz.isAgg35
 z22:=Tryz.sizeOf35
 v22:=Tryz.zeroValue35
 a24:=Tryz.isAgg27
 z24:=Tryz.sizeOf27
 t25:=Tryz.underlying110
 a25:=Tryz.isAgg110
 z25:=Tryz.sizeOf110
 v25:=Tryz.zeroValue110
 t39:=Tryz.underlying59
 a39:=Tryz.isAgg59
 z39:=Tryz.sizeOf59
 v39:=Tryz.zeroValue59
 t45:=Tryz.underlying221
 a45:=Tryz.isAgg221
 z45:=Tryz.sizeOf221
 v45:=Tryz.zeroValue221
 t46:=Tryz.underlying222
 a46:=Tryz.isAgg222
 z46:=Tryz.sizeOf222
 v46:=Tryz.zeroValue222
 t50:=Tryz.underlying226
 a50:=Tryz.isAgg226
 z50:=Tryz.sizeOf226
 v50:=Tryz.zeroValue226
 t53:=Tryz.underlying69
 a53:=Tryz.isAgg69
 z53:=Tryz.sizeOf69
 v53:=Tryz.zeroValue69
 t55:=Tryz.underlying27
 a55:=Tryz.isAgg27
 z55:=Tryz.sizeOf27
 v55:=Tryz.zeroValue27
 t66:=Tryz.underlying253
 a66:=Tryz.isAgg253
 z66:=Tryz.sizeOf253
 v66:=Tryz.zeroValue253
 t70:=Tryz.underlying256
 a70:=Tryz.isAgg256
 z70:=Tryz.sizeOf256
 v70:=Tryz.zeroValue256
 t76:=Tryz.underlying280
 a76:=Tryz.isAgg280
 z76:=Tryz.sizeOf280
 v76:=Tryz.zeroValue280
 t77:=Tryz.underlying57
 a77:=Tryz.isAgg57
 z77:=Tryz.sizeOf57
 v77:=Tryz.zeroValue57 }
def QI:Go.Shelf.Ren:=⟨fun|288=>96|283=>138|284=>139|285=>140|286=>141|129=>185|317=>186|318=>187|319=>188|320=>189|337=>236|338=>237|n=>n,fun|37=>32|53=>27|3=>3|4=>4|9=>9|171=>193|0=>0|173=>195|212=>230|51=>69|5=>5|20=>20|213=>231|46=>59|232=>282|233=>283|n=>n,fun|17=>1|18=>2|19=>3|n=>n⟩
theorem apU:LaysM.n288 prog QI:={
 mixed:=by kernel_rfl
 f129:=func185.trans (congrArg some (by kernel_rfl))
 f283:=func138.trans (congrArg some (by kernel_rfl))
 f284:=func139.trans (congrArg some (by kernel_rfl))
 f285:=func140.trans (congrArg some (by kernel_rfl))
 f286:=func141.trans (congrArg some (by kernel_rfl))
 f288:=func96.trans (congrArg some (by kernel_rfl))
 f317:=func186.trans (congrArg some (by kernel_rfl))
 f318:=func187.trans (congrArg some (by kernel_rfl))
 f319:=func188.trans (congrArg some (by kernel_rfl))
 f320:=func189.trans (congrArg some (by kernel_rfl))
 f337:=func236.trans (congrArg some (by kernel_rfl))
 f338:=func237.trans (congrArg some (by kernel_rfl))
 t0:=Tryz.underlying0
 a0:=Tryz.isAgg0
 z0:=Tryz.sizeOf0
 v0:=Tryz.zeroValue0
 t3:=Tryz.underlying3
 a3:=Tryz.isAgg3
 z3:=Tryz.sizeOf3
 v3:=Tryz.zeroValue3
 t4:=Tryz.underlying4
 a4:=Tryz.isAgg4
 z4:=Tryz.sizeOf4
 v4:=Tryz.zeroValue4
 t5:=Tryz.underlying5
 a5:=Tryz.isAgg5
 z5:=Tryz.sizeOf5
 v5:=Tryz.zeroValue5
 t9:=Tryz.underlying9
 a9:=Tryz.isAgg9
 z9:=Tryz.sizeOf9
 v9:=Tryz.zeroValue9
 t20:=Tryz.underlying20
 a20:=Tryz.isAgg20
 z20:=Tryz.sizeOf20
 v20:=Tryz.zeroValue20
 t37:=Tryz.underlying32
 a37:=Tryz.isAgg32
 z37:=Tryz.sizeOf32
 v37:=Tryz.zeroValue32
 t46:=Tryz.underlying59
 a46:=Tryz.isAgg59
 z46:=Tryz.sizeOf59
 v46:=Tryz.zeroValue59
 t51:=Tryz.underlying69
 a51:=Tryz.isAgg69
 z51:=Tryz.sizeOf69
 v51:=Tryz.zeroValue69
 t53:=Tryz.underlying27
 a53:=Tryz.isAgg27
 z53:=Tryz.sizeOf27
 v53:=Tryz.zeroValue27
 t171:=Tryz.underlying193
 a171:=Tryz.isAgg193
 z171:=Tryz.sizeOf193
 v171:=Tryz.zeroValue193
 t173:=Tryz.underlying195
 a173:=Tryz.isAgg195
 z173:=Tryz.sizeOf195
 v173:=Tryz.zeroValue195
 t212:=Tryz.underlying230
 a212:=Tryz.isAgg230
 z212:=Tryz.sizeOf230
 v212:=Tryz.zeroValue230
 t213:=Tryz.underlying231
 a213:=Tryz.isAgg231
 z213:=Tryz.sizeOf231
 t232:=Tryz.underlying282
 a232:=Tryz.isAgg282
 z232:=Tryz.sizeOf282
 v232:=Tryz.zeroValue282
 t233:=Tryz.underlying283
 a233:=Tryz.isAgg283
 z233:=Tryz.sizeOf283
 v233:=Tryz.zeroValue283
 g17:=by kernel_rfl
 g18:=by kernel_rfl
 g19:=by kernel_rfl
 i0:=by kernel_rfl
 i3:=by kernel_rfl
 i4:=by kernel_rfl
 i5:=by kernel_rfl
 i9:=by kernel_rfl
 i20:=by kernel_rfl
 i37:=by kernel_rfl
 i46:=by kernel_rfl
 i51:=by kernel_rfl
 i53:=by kernel_rfl
 i171:=by kernel_rfl
 i173:=by kernel_rfl
 i212:=by kernel_rfl
 i232:=by kernel_rfl
 i233:=by kernel_rfl
 m17:=by kernel_rfl
 m18:=by kernel_rfl
 m19:=by kernel_rfl }
end Go.Proofs.YtkfmheelhinjdaaGreatDoor
namespace Go.Proofs.YtkfmheelhinjdaaGreatDoor.W
open _root_.Go.Proofs.Tryz
open Go.RowKit Go.Sort
set_option linter.unusedVariables false
set_option maxHeartbeats 8000000
set_option maxRecDepth 6000
def cT(x y:Nat):Int:=if x<y then -1 else if y<x then 1 else 0
theorem nR(x y:Nat):ltOf cT x y=decide (x<y):=by
 unfold ltOf cT;by_cases h1:x<y
 ·simp[h1]
 ·by_cases h2:y<x <;> simp[h1,h2]
theorem wY:SWO (ltOf cT) where
 irrefl x:=by rw[nR];simp
 trans x y z h1 h2:=by rw[nR] at *;simp at *;omega
 ntrans x y z h1 h2:=by rw[nR] at *;simp at *;omega
theorem wW(x y:Nat)(h1:ltOf cT x y=false)(h2:ltOf cT y x=false):x=y:=by
 rw[nR] at h1 h2;simp at h1 h2;omega
theorem AS(x:Nat)(w:World):Calls prog 95 #[eU x] w fun e w'=>e=.returned (.bool false)/\w'=w:=by
 go_enter func95,ntmps95;go_wp2
 go_ret;exact⟨by simp,rfl⟩
theorem zh4(x y:Nat)(w:World):Calls prog 56 #[eU x,eU y] w fun e w'=>e=.returned (.int .i64 (cT x y))/\w'=w:=by
 have N1:=aA (fun W=>AS x W);have N2:=aA (fun W=>AS y W);rcases Nat.lt_trichotomy x y with h|h|h
 ·have hi:(x:Int)<y:=by omega
  have E:=aA (show cT x y = -1 by unfold cT;rw[if_pos h]);rw[E.out];clear h;go_enter func56,ntmps56;go_wp2_with fail;refine(N1.out _).mono ?_;rintro e w1 ⟨rfl,rfl⟩;go_wp2_with fail;refine(N2.out _).mono ?_;rintro e w1 ⟨rfl,rfl⟩;go_wp2_with fail;go_ret;exact⟨rfl,rfl⟩
 ·subst h;have hi:¬(x:Int)<x:=by omega
  have E:=aA (show cT x x=0 by unfold cT;simp);rw[E.out];go_enter func56,ntmps56;go_wp2_with fail;refine(N1.out _).mono ?_;rintro e w1 ⟨rfl,rfl⟩;go_wp2_with fail;refine(N2.out _).mono ?_;rintro e w1 ⟨rfl,rfl⟩;go_wp2_with fail;go_ret;exact⟨rfl,rfl⟩
 ·have hi:¬(x:Int)<y:=by omega
  have hi2:(y:Int)<x:=by omega
  have E:=aA (show cT x y=1 by unfold cT;rw[if_neg (by omega),if_pos h]);rw[E.out];clear h;go_enter func56,ntmps56;go_wp2_with fail;refine(N1.out _).mono ?_;rintro e w1 ⟨rfl,rfl⟩;go_wp2_with fail;refine(N2.out _).mono ?_;rintro e w1 ⟨rfl,rfl⟩;go_wp2_with fail;go_ret;exact⟨rfl,rfl⟩
theorem UC(blk off size:Nat)(w:World):CmpReads prog 56 #[] eU cT blk off size w:=
 fun _ _ _ _ x y=>(zh4 x y _).mono fun _ _ ⟨he,hw⟩=>⟨he,0,hw⟩
theorem GS.sorted{α : Type}[Inhabited α]{enc : α->Value}{w0 W:World}{e:TypeId}{gb cap:Nat}{l:List α}(h:GS w0 W e 1 (.slice (some ⟨gb,0,none⟩) l.length cap) l.length (l.map enc)):
  Holds enc W gb 0 l.toArray/\gb<W.heap.size/\∀ n (l2:List α) os,l2.length=l.length->
   GS w0 (sortWorld enc W gb 0 n l2.toArray os) e 1 (.slice (some ⟨gb,0,none⟩) l2.length cap) l2.length (l2.map enc)/\Kt (fun x=>x=gb) W (sortWorld enc W gb 0 n l2.toArray os):=by
 rcases h.own.2 with ⟨h0,_⟩|⟨g,cap',cur,hv,hb,hg,hnc,hcm,hcs,htake⟩
 ·cases h0
 simp only[Value.slice.injEq,Option.some.injEq,Addr.mk.injEq,true_and,and_true] at hv;obtain⟨rfl,rfl⟩:=hv;have hgl:=lH hg;refine⟨fun j hj=>?_,hgl,fun n l2 os hl2=>?_⟩
 ·have hj':j<l.length:=by simpa using hj
  have e1:(l.map enc)[j]?=some (enc l[j]):=by rw[List.getElem?_map,List.getElem?_eq_getElem hj'];rfl
  rw[<-htake,List.getElem?_take] at e1;split at e1
  ·constructor
   ·rw[Nat.zero_add];simp only[World.cell?,hg];rw[<-Array.getElem?_toList,e1];simp[hj']
   ·simp[World.frozen?,hg]
  ·cases e1
 ·have hk:Kt (fun x=>x=gb) W (sortWorld enc W gb 0 n l2.toArray os):=by
   refine⟨rfl,rfl,rfl,?_,fun i hi hne=>?_⟩
   ·show W.heap.size<=(grow _ _).heap.size
    rw[size_grow,size_putRow];exact Nat.le_add_right _ _
   ·show(grow (putRow enc (Sort.ahead W n) gb 0 l2.toArray) os).heap[i]?=_
    rw[heap_grow_old _ _ (by rw[size_putRow];exact hi)];show(W.heap.modify gb _)[i]?=_
    rw[Array.getElem?_modify,if_neg (fun e=>hne e.symm)]
  refine⟨⟨⟨by simp,.inr ⟨gb,cap,putCells enc 0 l2.toArray cur,rfl,Nat.zero_le _,?_,by omega,hcm,by simp[putCells,hcs],?_⟩⟩,fun g c e=>h.new g c (by rw[<-hl2];exact e),h.kp.trans hk (fun _ _ e=>e) (fun x hx e=>?_)⟩,hk⟩
  ·show(grow (putRow enc (Sort.ahead W n) gb 0 l2.toArray) os).heap[gb]?=_
   rw[heap_grow_old _ _ (by rw[size_putRow];exact hgl)];show(W.heap.modify gb _)[gb]?=_
   rw[Array.getElem?_modify,if_pos rfl,hg];rfl
  ·have hcl:l2.length<=cur.size:=(by omega);apply List.ext_getElem?
   intro j;rw[List.getElem?_take,List.getElem?_map];by_cases hj:j<l2.length
   ·rw[if_pos (by omega),List.getElem?_eq_getElem hj,Array.getElem?_toList];unfold putCells;rw[Array.getElem?_mapIdx,Array.getElem?_eq_getElem (by omega)];simp[hj]
   ·rw[if_neg (by omega),List.getElem?_eq_none (by omega)];rfl
  ·have:=h.new gb cap rfl
   cases e
   omega
set_option maxHeartbeats 8000000
set_option maxRecDepth 6000
theorem AY:(prog.info? 27).map (fun i=>(i.zero,i.size,i.bytes))=some (some (.int .u64 0),1,8):=by kernel_rfl
abbrev UX(w0 W:World)(v:Value)(l:List Nat):Prop:=GS w0 W 27 1 v l.length (l.map eU)
theorem UX.push{w0 W:World}{v:Value}{l:List Nat}(h:UX w0 W v l)(b:Nat)(hn:l.length<8796093022208):
  ∃ g cap w',(∀ t,(Builtin.append_ #[35,35] t #[v,.slice (some ⟨W.heap.size,0,none⟩) 1 1]).run prog (W.alloc (.cells #[.int .u64 b] 27))=.ok (.slice (some ⟨g,0,none⟩) (l.length + 1) cap) w')/\UX w0 w' (.slice (some ⟨g,0,none⟩) (l.length + 1) cap) (l ++ [b])/\Kt (fun b=>v.ownBlock=some b) W w':=by
 obtain⟨i,hi,hzz⟩:=Option.map_eq_some_iff.1 AY;simp only[Prod.mk.injEq] at hzz;have ka:=(Kt.refl nO W).alloc (.cells #[.int .u64 b] 27);obtain⟨g,cap,w',h1,h2,h5,h6,h7⟩:=(GS.keep h ka).pushM 35 i (.int .u64 0) 8 Tryz.underlying35 hi hzz.1 hzz.2.1 hzz.2.2 rfl (by decide) ⟨W.heap.size,0,none⟩ 1 1 (by decide) [.int .u64 b] rfl (fun j u hj=>oP (cs:=#[.int .u64 b]) j u hj) (by simp[Value.oneCell']) (by simp only[maxLen];omega) (by omega);refine⟨g,cap,w',h1,?_,ka.trans h6 (fun _ _ e=>e.elim) (fun _ _ e=>e)⟩;show GS _ _ _ _ _ (l ++ [b]).length ((l ++ [b]).map eU)
 rw[List.length_append,List.map_append];exact h2
structure SrI(w W:World)(g r:Nat)(D:List Nat)(c:Nat->Nat)(done rest:List Nat)(v:Value):Prop where
 rg:RC eU W g r D c rest
 pm:D.Perm (done ++ rest)
 gs:UX w W v done
 gl:g<w.heap.size
 rn:w.heap.size<=r
theorem UX.ty{w0 W:World}{v:Value}{l:List Nat}(h:UX w0 W v l){x:Nat}(hx:v.ownBlock=some x):(∃ cs,W.heap[x]?=some (.cells cs 27 (0,0)))/\w0.heap.size<=x:=by
 rcases h.own.2 with ⟨rfl,_⟩|⟨g,cap,cur,rfl,hb,hg,h3⟩
 ·simp[Value.ownBlock] at hx
 ·simp[Value.ownBlock] at hx;rw[<-hx];exact⟨⟨cur,hg⟩,h.new g cap rfl⟩
theorem RC.iter{α : Type}{enc : α->Value}{w:World}{b r:Nat}{D rest:List α}{c : α->Nat}(h:RC enc w b r D c rest):∃ m s n q,w.heap[r]?=some (.mapIter m s n q):=by
 obtain⟨es,clock,since,seen,c0,hb,hst,hL,hr,-⟩:=h;exact⟨_,_,_,_,hr⟩
theorem UX.iter{w W W':World}{v:Value}{l:List Nat}{r:Nat}(h:UX w W v l)(hk:Kt (fun x=>x=r) W W')(hr:w.heap.size<=r)(hi:∃ m s n q,W.heap[r]?=some (.mapIter m s n q)):UX w W' v l:=by
 refine⟨⟨h.own.1,?_⟩,h.new,h.kp.trans hk (fun _ _ e=>e) (fun x hx e=>by omega)⟩;rcases h.own.2 with h0|⟨g,cap,cur,rfl,hb,hg,h3⟩
 ·exact .inl h0
 ·refine .inr ⟨g,cap,cur,rfl,hb,(hk.block g (lH hg) (fun e=>?_)).trans hg,h3⟩;subst e;obtain⟨_,_,_,_,q2⟩:=hi;rw[hg] at q2
  cases q2
theorem SrI.next{w W w1 w2:World}{g r:Nat}{D:List Nat}{c:Nat->Nat}{done rest rest':List Nat}{v v':Value}{x:Nat}(h:SrI w W g r D c done rest v)(hp:rest.Perm (x :: rest'))(hr:RC eU w1 g r D c rest')(g1:UX w w1 v done)(k2:Kt (fun b=>v.ownBlock=some b) w1 w2)(g2:UX w w2 v' (done ++ [x])):SrI w w2 g r D c (done ++ [x]) rest' v':=by
 refine⟨hr.kept k2 (fun e=>?_) (fun e=>?_),h.pm.trans ?_,g2,h.gl,h.rn⟩
 ·have:=(g1.ty e).2;have:=h.gl;omega
 ·obtain⟨⟨cs,q⟩,-⟩:=g1.ty e;obtain⟨_,_,_,_,q2⟩:=RC.iter hr;rw[q] at q2
  cases q2
 ·rw[List.append_assoc];exact List.Perm.append_left _ hp
def SoP(w:World)(D:List Nat)(e:Ending)(w':World):Prop:=∃ oa oc,∃ ks:List Nat,e=.returned (.slice oa ks.length oc)/\UX w w' (.slice oa ks.length oc) ks/\ks.Perm D/\ks.Pairwise (·<=·)
theorem zjU(g:Nat)(D:List Nat)(c:Nat->Nat)(w:World)(hm:MC eU jW w g D c)(hl:D.length<8796093022208):
  Calls prog 55 #[.map (some g),.func (.func 56) #[] #[]] w (SoP w D):=by
 have eg:∀ args w,(callFunc 56 args).run prog w=.ok (.enter 56 args) w:=enters_of func56 (by kernel_rfl) rfl;obtain⟨n,hn⟩:=xe (D.length);rw[<-hn] at hl;obtain⟨i,hi,hzz⟩:=Option.map_eq_some_iff.1 AY;simp only[Prod.mk.injEq] at hzz;obtain⟨w1,mk1,own1,gr1⟩:=run_make_own (P:=prog) w 0 35 27 i (.int .u64 0) 1 Tryz.underlying35 hi hzz.1 hzz.2.1 .i64 .i64 n (by rw[hzz.2.2];omega) (by unfold maxLen;omega) (Nat.zero_le _);have K1:=aA (show Kt nO w w1 from(mQ gr1).mono fun _ _ e=>by cases e);have G1:=aA (show UX w w1 (.slice (some ⟨w.heap.size,0,none⟩) 0 n) [] from⟨own1,fun g cap e=>by simp at e;omega,K1.out⟩);have M0:=aA hm;have M1:=aA (hm.kept K1.out (fun x=>x));have GL:=aA hm.ltsz;have HN:=aA hn;have len0:∀ ty,(Builtin.len_ #[106] ty #[.map (some g)]).run prog w=.ok (.int .i64 n) w:=fun ty=>by rw[hn];exact hm.len Tryz.underlying106 ty
 clear hi hzz own1 gr1 hm hn;go_enter func55,ntmps55;go_wp2_with (first|(at_range;refine EB _ rfl _ 106 rfl 27 3 Tryz.underlying106 g rfl M1.out ?_;intro w0 hrg0 hk0 hs0))
 have I0:=aA (show SrI w w0 g w1.heap.size D c [] D (.slice (some ⟨w.heap.size,0,none⟩) 0 n)from⟨hrg0,by simp,G1.out.keep (hk0.mono fun _ _ e=>e.elim),GL.out,K1.out.size⟩);generalize w1.heap.size=rx at *;clear hrg0 hk0 hs0 mk1 len0;simp only[Act.put,List.setIfInBounds_toArray,List.set_cons_succ,List.set_cons_zero];go_loopw [5] (fun tv W=>∃ (done rest:List Nat) (gb cap:Nat),tv=.slice (some ⟨gb,0,none⟩) done.length cap/\Hid (SrI w W g rx D c done rest (.slice (some ⟨gb,0,none⟩) done.length cap))) (fun _ W=>W.rangeLeft g rx)
 case atStart=>exact⟨[],D,_,n,rfl,I0⟩
 case round=>
  clear I0 K1 M1 G1 M0;obtain⟨done,rest,gb,cap,rfl,HI⟩:=hrel;have HRL:=aA HI.out.rg.left_eq;have DL:=aA (show done.length+rest.length=n by have:=HI.out.pm.length_eq;rw[List.length_append] at this;rw[HN.out];omega);go_wp2_with (first|(at_next;refine AO _ rfl _ rfl g rx rest rfl HI.out.rg ?_ ?_))
  ·intro hd;obtain⟨hH,hgl,hS⟩:=GS.sorted HI.out.gs;have hcon:=Any.slices_SortFunc_total LR eU (fun _=>rfl) cT wY 56 #[] gb 0 cap done.toArray wr eg (UC gb 0 _ wr).lays hH hgl (by have:=DL.out;simp;omega) wW;obtain⟨ks,hks⟩:=xe (done.mergeSort fun x y=>!(ltOf cT) y x);have SC:=aA (show Calls prog 94 #[.slice (some ⟨gb,0,none⟩) done.length cap,.func (.func 56) #[] #[]] wr fun e w'=>e=.returned (.tuple #[])/\∃ n os,w'=sortWorld eU wr gb 0 n ks.toArray os from by rw[hks];exact hcon);have KL:=aA (show ks.length=done.length by rw[hks,List.length_mergeSort]);have KP:=aA (show ks.Perm D by
    rw[hks];have:=HI.out.pm;rw[hd,List.append_nil] at this;exact(List.mergeSort_perm _ _).trans this.symm)
   have KW:=aA (show ks.Pairwise (·<=·)by
    rw[hks];have:=List.pairwise_mergeSort (le:=fun x y=>!(ltOf cT) y x) (fun a b c h1 h2=>by simp only[nR] at *;simp at *;omega) (fun a b=>by simp only[nR];simp;omega) done;refine this.imp fun {a b} h=>?_
    rw[nR] at h;simpa using h)
   have HS:=aA (fun n os=>hS n ks os KL.out);clear hcon hH hgl hS hks hd;go_wp2_with fail;refine SC.out.mono ?_;rintro e w9 ⟨rfl,q,os,rfl⟩;have FIN:=aA (HS.out q os).1;generalize sortWorld eU wr gb 0 q ks.toArray os=W9 at *;rw[<-KL.out];go_wp2_with fail;go_ret;exact⟨_,_,ks,rfl,FIN.out,KP.out,KW.out⟩
  ·intro x rest' w2 hp hrg hk hz hen;have G2:=aA (UX.iter HI.out.gs hk HI.out.rn (RC.iter HI.out.rg));have RL:=aA (show rest.length=rest'.length+1 by rw[hp.length_eq];rfl);obtain⟨g4,cap4,w4,ap4,t4,k4⟩:=UX.push G2.out x (by have:=DL.out;omega);have AP4:=aA ap4;have N4:=aA (HI.out.next hp hrg G2.out k4 t4);clear hp hrg hk ap4 t4 k4 hz;go_wp2_with (at_builtin;refine Lib.wpList_append_run _ rfl _ _ _ _ rfl (.slice (some ⟨gb,0,none⟩) done.length cap) _ rfl rfl _ _ (AP4.out _) ?_)
   refine⟨⟨done ++ [x],rest',g4,cap4,by simp,aA (by have:=N4.out;simpa using this)⟩,?_⟩;have h1:=N4.out.rg.left_eq;have h2:=RL.out;have h3:=HRL.out;omega
end Go.Proofs.YtkfmheelhinjdaaGreatDoor.W
namespace Go.Proofs.YtkfmheelhinjdaaGreatDoor.W
open _root_.Go.Proofs.Tryz
open Go.RowKit
set_option linter.unusedVariables false
set_option maxHeartbeats 8000000
set_option maxRecDepth 6000
theorem oV(w:World)(q:Nat):Kt nO w (w.drewN q):=(Kt.refl nO w).drewN q
end Go.Proofs.YtkfmheelhinjdaaGreatDoor.W
