import Derived.Test.YtkfmheelhinjdaaGreatDoorXg
set_option maxRecDepth 1000000
set_option maxHeartbeats 80000000
namespace Go.Proofs.YtkfmheelhinjdaaGreatDoor.W
open Tryz
open Go.RowKit
set_option linter.unusedVariables false
def lO(w:World)(n:Nat)(B:Nat->Bool)(e:Ending)(w':World):Prop:=∃ sb sc ws,e=.returned (.pointer (some ⟨sb,0,none⟩))/\SetAt w' sb sc n ws/\w.heap.size<=sb/\w.heap.size<=sc/\(∀ i,i<n->aF ws i=B i)/\Kt nO w w'
theorem YQ(xs:Array Value)(w:World):Sem.run prog (callFunc 224 xs) w=.ok (.enter 224 xs) w:=by
 simp[callFunc,go_sem,func224];rfl
theorem EA(b cb:Nat)(I:Img)(V:ImV)(S:Pg->Bool)(w:World)(hI:ImAt w b I V)(hnp:I.np<=1024)
  (HS:∀ i W,i<I.np->Kt nO w W->Calls prog 224 #[fD (I.pg i),.pointer (some ⟨cb,0,none⟩)] W fun e w'=>e=.returned (.bool (S (I.pg i)))/\Kt nO W w'):
  Calls prog 223 #[.pointer (some ⟨b,0,none⟩),.func (.func 224) #[] #[.pointer (some ⟨cb,0,none⟩)]] w (lO w I.np fun i=>S (I.pg i)):=by
 obtain⟨-,⟨pa,pc,hp⟩,-,-,-,-,bp,-,-⟩:=hI.d.sl;obtain⟨c0,c1,c2,c3,c4,c5,c6,c7,c8⟩:=hI.cells;rw[hp] at c5;have HI:=aA hI;have SP:=aA hp;have HSC:=aA HS;obtain⟨n,hn⟩:=xe (I.np);rw[<-hn] at hnp c5;have HN:=aA hn;have hent:=YQ;clear hI hp HS bp;have GOAL:=aA (show ∀ W' ws,SetAt W' (w.heap.size+1) w.heap.size n ws->(∀ i,i<n->aF ws i=S (I.pg i))->Kt nO w W'->lO w I.np (fun i=>S (I.pg i)) (.returned (.pointer (some ⟨w.heap.size+1,0,none⟩))) W' from fun W' ws h1 h2 h3=>⟨_,_,ws,rfl,by rw[<-hn];exact h1,Nat.le_succ _,Nat.le_refl _,by rw[<-hn];exact h2,h3⟩);clear hn;go_enter func223,ntmps223;go_wp2_with fail;refine(rD (n:Int) (by omega) (by omega) w).mono ?_;rintro e w1 ⟨rfl,hraw,hk,hsz⟩;have hfit:dF (n:Int)=n:=by unfold dF;split <;> (try split) <;> omega
 rw[hfit] at hraw;have ST:=aA (hraw.set (fun i hi=>by rw[nB];exact Nat.two_pow_pos _));have K1:=aA (show Kt nO w w1 from hk);have SIZ:=aA (show w.heap.size<w1.heap.size by omega);have GE:=aA (show w.heap.size<=w.heap.size from Nat.le_refl _);generalize hsb:w.heap.size+1=sb at *;generalize hsc:w.heap.size=sc at *;have HSC0:=aA hsc;have d5:w1.cell? ⟨b,5,none⟩=some (.slice pa n pc):=K1.out.cell (fun x=>x) c5;clear hraw hk hsz hfit hsb hsc c0 c1 c2 c3 c4 c5 c6 c7 c8;go_wp2_with fail;clear d5;go_loopw [19] (fun i W=>∃ a:Nat,a<=n/\i=.int .i64 a/\Hid (Kt nO w W/\∃ ws,SetAt W sb sc n ws/\(∀ j,j<a->aF ws j=S (I.pg j)))) (fun i _=>n-(intOf i).toNat)
 case atStart=>exact⟨0,Nat.zero_le _,rfl,aA ⟨K1.out,_,ST.out,fun x hx=>by omega⟩⟩
 case round=>
  clear K1 ST SIZ;obtain⟨a,ha,rfl,hR⟩:=hrel;have A0:=aA (HI.out.keep hR.out.1);by_cases hlt:a<n
  ·have hai:(a:Int)<n:=(by omega);have hlt':a<I.np:=(by rw[<-HN.out];exact hlt);obtain⟨bl,o,oc',hv',hpi,hpc⟩:=A0.out.page a hlt';rw[SP.out] at hv';injection hv' with e1 e2 e3
   subst e1;obtain⟨hkw,ws,hst,hbt⟩:=hR.out;have PB:=aA (PbI.mk' (w:=w) A0.out hkw (I.pg a));have ST1:=aA (hst.kept (show Kt nO wr (wr.alloc (aV (I.pg a)))from(Kt.refl _ _).alloc _) (fun x=>x) (fun x=>x));have BT:=aA hbt;have HLN:=aA hst.len;have HCL:=aA (fun W hW=>HSC.out a W hlt' hW);obtain⟨sv,hsv⟩:=xe (S (I.pg a));rw[<-hsv] at HCL;have HSV:=aA hsv;obtain⟨d0,d1,d2,d3,d4,d5,d6,d7,d8,d9,d10⟩:=hpc.c;clear hpi hpc e2 e3 hkw hst hbt hsv;go_wp2_with fail;generalize hpp:I.pg a=p at *;have HPP:=aA hpp;clear hpp;generalize wr.alloc (aV p)=W1 at *;generalize wr.heap.size=g at *;refine(HCL.out W1 PB.out.k).mono ?_;rintro e w2 ⟨rfl,hk⟩;have PB2:=aA (PB.out.keep hk);have ST2:=aA (ST1.out.kept hk (fun x=>x) (fun x=>x));clear hk d0 d1 d2 d3 d4 d5 d6 d7 d8 d9 d10;go_wp2_with fail;refine(sC sb sc n ws (a:Int) sv w2 ST2.out).mono ?_;rintro e w3 ⟨rfl,h1,h2,h3⟩;have R2:=aA (show Kt nO w w3/\∃ ws,SetAt w3 sb sc n ws/\(∀ j,j<a+1->aF ws j=S (I.pg j))from⟨PB2.out.k.trans h2 (fun _ _ x=>x) (fun x hx e=>by have:=HSC0.out;omega),_,h1,fun j hj=>by
    rw[qT HLN.out a hlt sv j];by_cases e:j=a
    ·rw[if_pos e,e,HSV.out,HPP.out]
    ·rw[if_neg e];exact BT.out j (by omega)⟩)
   clear h1 h2 h3;go_wp2_with fail;go_round
   case rel=>exact⟨a+1,by omega,by go_num,R2⟩
   case measure=>simp[intOf];omega
  ·obtain rfl:a=n:=(by omega);have hai:¬(a:Int)<a:=(by omega);go_wp2_with fail;go_ret;obtain⟨h1,ws,h2,h3⟩:=hR.out;exact GOAL.out wr ws h2 h3 h1
theorem YP(xs:Array Value)(w:World):Sem.run prog (callFunc 229 xs) w=.ok (.enter 229 xs) w:=by
 simp[callFunc,go_sem,func229];rfl
theorem DZ(b cb:Nat)(I:Img)(V:ImV)(S:Pg->Bool)(w:World)(hI:ImAt w b I V)(hnp:I.np<=1024)
  (HS:∀ i W,i<I.np->Kt nO w W->Calls prog 229 #[fD (I.pg i),.pointer (some ⟨cb,0,none⟩)] W fun e w'=>e=.returned (.bool (S (I.pg i)))/\Kt nO W w'):
  Calls prog 223 #[.pointer (some ⟨b,0,none⟩),.func (.func 229) #[] #[.pointer (some ⟨cb,0,none⟩)]] w (lO w I.np fun i=>S (I.pg i)):=by
 obtain⟨-,⟨pa,pc,hp⟩,-,-,-,-,bp,-,-⟩:=hI.d.sl;obtain⟨c0,c1,c2,c3,c4,c5,c6,c7,c8⟩:=hI.cells;rw[hp] at c5;have HI:=aA hI;have SP:=aA hp;have HSC:=aA HS;obtain⟨n,hn⟩:=xe (I.np);rw[<-hn] at hnp c5;have HN:=aA hn;have hent:=YP;clear hI hp HS bp;have GOAL:=aA (show ∀ W' ws,SetAt W' (w.heap.size+1) w.heap.size n ws->(∀ i,i<n->aF ws i=S (I.pg i))->Kt nO w W'->lO w I.np (fun i=>S (I.pg i)) (.returned (.pointer (some ⟨w.heap.size+1,0,none⟩))) W' from fun W' ws h1 h2 h3=>⟨_,_,ws,rfl,by rw[<-hn];exact h1,Nat.le_succ _,Nat.le_refl _,by rw[<-hn];exact h2,h3⟩);clear hn;go_enter func223,ntmps223;go_wp2_with fail;refine(rD (n:Int) (by omega) (by omega) w).mono ?_;rintro e w1 ⟨rfl,hraw,hk,hsz⟩;have hfit:dF (n:Int)=n:=by unfold dF;split <;> (try split) <;> omega
 rw[hfit] at hraw;have ST:=aA (hraw.set (fun i hi=>by rw[nB];exact Nat.two_pow_pos _));have K1:=aA (show Kt nO w w1 from hk);have SIZ:=aA (show w.heap.size<w1.heap.size by omega);have GE:=aA (show w.heap.size<=w.heap.size from Nat.le_refl _);generalize hsb:w.heap.size+1=sb at *;generalize hsc:w.heap.size=sc at *;have HSC0:=aA hsc;have d5:w1.cell? ⟨b,5,none⟩=some (.slice pa n pc):=K1.out.cell (fun x=>x) c5;clear hraw hk hsz hfit hsb hsc c0 c1 c2 c3 c4 c5 c6 c7 c8;go_wp2_with fail;clear d5;go_loopw [19] (fun i W=>∃ a:Nat,a<=n/\i=.int .i64 a/\Hid (Kt nO w W/\∃ ws,SetAt W sb sc n ws/\(∀ j,j<a->aF ws j=S (I.pg j)))) (fun i _=>n-(intOf i).toNat)
 case atStart=>exact⟨0,Nat.zero_le _,rfl,aA ⟨K1.out,_,ST.out,fun x hx=>by omega⟩⟩
 case round=>
  clear K1 ST SIZ;obtain⟨a,ha,rfl,hR⟩:=hrel;have A0:=aA (HI.out.keep hR.out.1);by_cases hlt:a<n
  ·have hai:(a:Int)<n:=(by omega);have hlt':a<I.np:=(by rw[<-HN.out];exact hlt);obtain⟨bl,o,oc',hv',hpi,hpc⟩:=A0.out.page a hlt';rw[SP.out] at hv';injection hv' with e1 e2 e3
   subst e1;obtain⟨hkw,ws,hst,hbt⟩:=hR.out;have PB:=aA (PbI.mk' (w:=w) A0.out hkw (I.pg a));have ST1:=aA (hst.kept (show Kt nO wr (wr.alloc (aV (I.pg a)))from(Kt.refl _ _).alloc _) (fun x=>x) (fun x=>x));have BT:=aA hbt;have HLN:=aA hst.len;have HCL:=aA (fun W hW=>HSC.out a W hlt' hW);obtain⟨sv,hsv⟩:=xe (S (I.pg a));rw[<-hsv] at HCL;have HSV:=aA hsv;obtain⟨d0,d1,d2,d3,d4,d5,d6,d7,d8,d9,d10⟩:=hpc.c;clear hpi hpc e2 e3 hkw hst hbt hsv;go_wp2_with fail;generalize hpp:I.pg a=p at *;have HPP:=aA hpp;clear hpp;generalize wr.alloc (aV p)=W1 at *;generalize wr.heap.size=g at *;refine(HCL.out W1 PB.out.k).mono ?_;rintro e w2 ⟨rfl,hk⟩;have PB2:=aA (PB.out.keep hk);have ST2:=aA (ST1.out.kept hk (fun x=>x) (fun x=>x));clear hk d0 d1 d2 d3 d4 d5 d6 d7 d8 d9 d10;go_wp2_with fail;refine(sC sb sc n ws (a:Int) sv w2 ST2.out).mono ?_;rintro e w3 ⟨rfl,h1,h2,h3⟩;have R2:=aA (show Kt nO w w3/\∃ ws,SetAt w3 sb sc n ws/\(∀ j,j<a+1->aF ws j=S (I.pg j))from⟨PB2.out.k.trans h2 (fun _ _ x=>x) (fun x hx e=>by have:=HSC0.out;omega),_,h1,fun j hj=>by
    rw[qT HLN.out a hlt sv j];by_cases e:j=a
    ·rw[if_pos e,e,HSV.out,HPP.out]
    ·rw[if_neg e];exact BT.out j (by omega)⟩)
   clear h1 h2 h3;go_wp2_with fail;go_round
   case rel=>exact⟨a+1,by omega,by go_num,R2⟩
   case measure=>simp[intOf];omega
  ·obtain rfl:a=n:=(by omega);have hai:¬(a:Int)<a:=(by omega);go_wp2_with fail;go_ret;obtain⟨h1,ws,h2,h3⟩:=hR.out;exact GOAL.out wr ws h2 h3 h1
end Go.Proofs.YtkfmheelhinjdaaGreatDoor.W
