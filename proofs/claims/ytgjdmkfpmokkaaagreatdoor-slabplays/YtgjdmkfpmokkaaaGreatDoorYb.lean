import Derived.Test.YtgjdmkfpmokkaaaGreatDoorZy
import Derived.Test.YtgjdmkfpmokkaaaGreatDoorYa
set_option maxRecDepth 1000000
set_option maxHeartbeats 80000000
namespace Go.Proofs.YtgjdmkfpmokkaaaGreatDoor
open Go.RowKit
set_option linter.unusedVariables false
theorem zio{ls:List (Nat×Nat)}(h:(ls.map Prod.fst).Nodup)(p:Nat):((zam ls p).map Prod.fst).Nodup:=h.sublist ((List.filter_sublist).map _)
theorem ziq(ls:List (Nat×Nat))(p:Nat):(zam ls p).length≤ls.length:=List.length_filter_le _ _
structure GB7(w:World)(sb lw:Nat)(x:Bx)(t:Bt)(fr:Nat→List Nat)(ls:List (Nat×Nat))(S:Sb)(al:List Cl)(fa:Option Addr)(fc:Nat)(va:Option Addr)(vc:Nat)(ca:Option Addr)(cc:Nat)(pa:Option Addr)(pc:Nat)(p:Nat)(er:Nat)(fr':Nat→List Nat)(ls':List (Nat×Nat))(al':List Cl)(pl':Nat→List Nat):Prop where
 ref:∀ V,D7 V x.o fa fc va vc ca cc pa pc fr ls al S.pl→Calls Tryz.prog 57 #[s7V x.base (x.lim:Int) (x.o:Int) (x.o:Int) (t.m.n:Int) (.slice fa (x.o+1) fc) (.slice va ls.length vc) (.slice ca al.length cc) (.slice pa 8 pc),.int .u64 (p:Int)] V fun e w'=>G7P V x.base x.lim x.o t.m.n fr' ls' al' pl' er e w'
 prog:∀ V h,SO w V sb lw x t fr ls S h→Calls Tryz.prog 13 #[.pointer (some ⟨sb,0,none⟩),.int .u64 (p:Int)] V fun e w'=>e=.returned (.int .i64 (er:Int))∧A7 w V w' sb lw x fr' ls' al' pl' t.m.n
 nd:(ls'.map Prod.fst).Nodup
 lc:ls'.length≤ls.length
theorem zir{w W sb lw x t fr ls S h al fa fc va vc ca cc pa pc}(o:SO w W sb lw x t fr ls S h)(lv:Lve S)(a:AL al S.c S.fl)(nd:(ls.map Prod.fst).Nodup)(hls:ls.length≤900)(p:Nat)(hp:p<18446744073709551616):∃ er fr' ls' al' pl',GB7 w sb lw x t fr ls S al fa fc va vc ca cc pa pc p er fr' ls' al' pl':=by
 have f:=o.f7 a;have hb:x.base≤9223372036854775808:=by have:=f.b63;omega
 have hal:al.length≤1024:=Nat.le_trans f.na f.n1;have hrow:∀ i,i<al.length→(fnC al i).cl<8∧(fnC al i).fl.length≤256:=fun i hi=>⟨(f.row i hi).1,(f.row i hi).2.1⟩
 rcases o.cellq a p hp with ⟨g,k,i,j,hL,hq,hj,hx⟩|⟨hno,hq⟩
 ·obtain⟨hc,hi,hni,hpe⟩:=hL;obtain⟨hk,hm0,hgn⟩:=f.cl g k hc;have hn256:=(zaI hk).2.2;have hlt:=lv g k hc;have hn1:=f.n1;by_cases hrel:(S.fl g).length+1=ncl k
  ·refine⟨0,zbt x.o fr g 0,zam ls g,putL ⟨g,k,S.fl g⟩ true al,updF S.pl k (parL (S.pl k) g false),fun V d=>zhf x.base x.lim x.o t.m.n hb hn1 fa fc va vc ca cc pa pc fr ls al S.pl hal hrow p hp j g k i (S.fl g) hq hj hx (by omega) (by omega) (f.pb k hk) hrel f.o8 f.fl (by omega) hm0 V d,fun V h' o'=>?_,zio nd g,ziq ls g⟩;refine(zev o' lv p g k i ⟨hc,hi,hni,hpe⟩).mono fun e w' hT=>⟨hT.1,?_⟩
   cases hT.2 with
   | back hl so kp=>omega
   | rel hl so=>
    obtain⟨P,t',h2,o2,hmn,bk,kp⟩:=so;exact⟨⟨_,t',_,h2,o2,Lve.rel lv g k,(a.del ⟨g,k,S.fl g⟩).1,rfl,hmn,rfl,rfl,rfl,fun y e=>.inl (zhV e)⟩,kp⟩
  ·refine⟨0,fr,ls,putL ⟨g,k,i :: S.fl g⟩ false al,(if S.fl g=[] then updF S.pl k (parL (S.pl k) g true) else S.pl),fun V d=>zfz x.base x.lim x.o t.m.n hb hn1 fa fc va vc ca cc pa pc fr ls al S.pl hal hrow p hp j g k i (S.fl g) hq hj hx (by omega) (by omega) (f.pb k hk) hrel V d,fun V h' o'=>?_,nd,Nat.le_refl _⟩;refine(zev o' lv p g k i ⟨hc,hi,hni,hpe⟩).mono fun e w' hT=>⟨hT.1,?_⟩
   cases hT.2 with
   | rel hl so=>exact absurd hl hrel
   | back hl so kp=>
    obtain⟨P,t',h2,o2,hby,hmn⟩:=so;refine⟨⟨_,t',_,h2,o2,Lve.back lv hc hl,(a.put hc (i :: S.fl g)).1,?_,hmn,rfl,rfl,rfl,fun y e=>.inl (zhV e)⟩,kp⟩;show(givS S g k i).pl=_
    unfold givS;simp only
    by_cases e0:S.fl g=[]
    ·rw[if_pos e0,if_pos e0];have hng:g ∉ S.pl k:=fun e=>((o.si.pm k hk g).1 e).2 e0
     unfold parL;rw[if_pos rfl,zhA hng];rfl
    ·rw[if_neg e0,if_neg e0]
 ·refine⟨1,fr,ls,al,S.pl,fun V d=>ziR x.base x.lim x.o t.m.n hb f.n1 fa fc va vc ca cc pa pc fr ls al S.pl hal hrow p hp hq V d,fun V h' o'=>?_,nd,Nat.le_refl _⟩;refine(zjt o'.sw p hp hno).mono fun e w' hT=>?_
  exact⟨hT.1,⟨x,t,S,h',o'.keep hT.2,lv,a,rfl,rfl,rfl,rfl,rfl,fun y e=>.inl e⟩,hT.2.mono (fun _ _ e=>e.elim)⟩
theorem zeT{w W sb lw x t fr ls S h al fa fc va vc ca cc pa pc}(o:SO w W sb lw x t fr ls S h)(a:AL al S.c S.fl)(p:Nat)(hp:p<18446744073709551616):∃ z,z≤4096∧
  (∀ V,D7 V x.o fa fc va vc ca cc pa pc fr ls al S.pl→Calls Tryz.prog 58 #[s7V x.base (x.lim:Int) (x.o:Int) (x.o:Int) (t.m.n:Int) (.slice fa (x.o+1) fc) (.slice va ls.length vc) (.slice ca al.length cc) (.slice pa 8 pc),.int .u64 (p:Int)] V fun e w'=>e=.returned (.int .u64 (z:Int))∧Kt nO V w')∧
  (∀ V h,SO w V sb lw x t fr ls S h→Calls Tryz.prog 12 #[.pointer (some ⟨sb,0,none⟩),.int .u64 (p:Int)] V fun e w'=>e=.returned (.int .u64 (z:Int))∧Kt nO V w')∧((∃ g k i,Liv x S p g k i∧z=szC k)∨(z=0∧livS x t p=false)):=by
 have f:=o.f7 a;have hb:x.base≤9223372036854775808:=by have:=f.b63;omega
 have hal:al.length≤1024:=Nat.le_trans f.na f.n1;have hrow:∀ i,i<al.length→(fnC al i).cl<8∧(fnC al i).fl.length≤256:=fun i hi=>⟨(f.row i hi).1,(f.row i hi).2.1⟩
 rcases o.cellq a p hp with ⟨g,k,i,j,hL,hq,hj,hx⟩|⟨hno,hq⟩
 ·have hk:=(f.cl g k hL.1).1;have hz:sizQ al ((j:Nat):Int)=szC k:=by
   show 16*2 ^ (fnC al j).cl=_
   rw[hx];rfl
  have hzb:=zbI hk;refine⟨szC k,by unfold szC;omega,fun V d=>?_,fun V h' o'=>?_,.inl ⟨g,k,i,hL,rfl⟩⟩
  ·have:=zk5 x.base hb (x.lim:Int) (x.o:Int) (x.o:Int) t.m.n f.n1 (.slice fa (x.o+1) fc) (.slice va ls.length vc) ca cc (.slice pa 8 pc) al hal hrow p hp _ _ hq V d.cr;rw[hz] at this;exact this
  ·obtain⟨h1,_,_,h4,_,_⟩:=o'.of_liv hL;have h5:=(o'.si.pg g k hL.1).2.cl;have h6:=zf6 o'.sw p hp h1;rw[h4,h5,show((k:Nat):Int).toNat=k from rfl] at h6;exact h6
 ·refine⟨0,by decide,fun V d=>zk5 x.base hb (x.lim:Int) (x.o:Int) (x.o:Int) t.m.n f.n1 (.slice fa (x.o+1) fc) (.slice va ls.length vc) ca cc (.slice pa 8 pc) al hal hrow p hp _ _ hq V d.cr,fun V h' o'=>?_,.inr ⟨rfl,hno⟩⟩;exact zhY o'.sw p hp hno
end Go.Proofs.YtgjdmkfpmokkaaaGreatDoor
