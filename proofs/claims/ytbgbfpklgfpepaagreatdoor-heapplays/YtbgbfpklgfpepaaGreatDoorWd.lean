import Derived.Test.YtbgbfpklgfpepaaGreatDoorWb
set_option maxRecDepth 1000000
set_option maxHeartbeats 80000000
namespace Go.Proofs.YtbgbfpklgfpepaaGreatDoor.O
open Tryz
open Go.RowKit
open Go.Proofs.YtbgbfpklgfpepaaGreatDoor.M (RS gJ mayB bE)
set_option linter.unusedVariables false
structure BR2(w W:World)(bS:Nat)(lim:Int)(k p s:Nat):Prop where
 c:W.heap[w.heap.size]?=some (.cells #[.int .u64 bS,.int .i64 lim,.int .i64 k] 43)
 b:W.heap[w.heap.size+1]?=some (.cells #[.int .u64 p,.int .u64 s] 162)
 k:Kt nO w W
theorem BR2.mk0(w:World)(bS:Nat)(lim:Int)(k p s:Nat):BR2 w ((w.alloc (.cells #[.int .u64 bS,.int .i64 lim,.int .i64 k] 43)).alloc (.cells #[.int .u64 p,.int .u64 s] 162)) bS lim k p s:=by
 refine⟨?_,?_,((Kt.refl nO w).alloc _).alloc _⟩
 ·rw[Below.heap_alloc _ _ _ (by simp)];exact nH w _
 ·have:=nH (w.alloc (.cells #[.int .u64 bS,.int .i64 lim,.int .i64 k] 43)) (.cells #[.int .u64 p,.int .u64 s] 162);rwa [World.size_alloc] at this
theorem BR2.keep{w W W':World}{bS:Nat}{lim:Int}{k p s:Nat}(h:BR2 w W bS lim k p s)(hk:Kt nO W W'):BR2 w W' bS lim k p s:=
 ⟨(hk.block _ (lH h.c) (fun x=>x)).trans h.c,(hk.block _ (lH h.b) (fun x=>x)).trans h.b,nT h.k hk⟩
theorem BR2.cells{w W:World}{bS:Nat}{lim:Int}{k p s:Nat}(h:BR2 w W bS lim k p s):W.cell? ⟨w.heap.size,0,none⟩=some (.int .u64 bS)/\W.cell? ⟨w.heap.size,1,none⟩=some (.int .i64 lim)/\W.cell? ⟨w.heap.size,2,none⟩=some (.int .i64 k)/\W.cell? ⟨w.heap.size+1,0,none⟩=some (.int .u64 p)/\W.cell? ⟨w.heap.size+1,1,none⟩=some (.int .u64 s):=by
 refine⟨?_,?_,?_,?_,?_⟩ <;> simp[World.cell?,h.c,h.b]
theorem BR2.all{w W:World}{bS:Nat}{lim:Int}{k p s:Nat}(h:BR2 w W bS lim k p s):(∀ x:KW W,x.v.cell? ⟨w.heap.size,0,none⟩=some (.int .u64 bS))/\(∀ x:KW W,x.v.cell? ⟨w.heap.size,1,none⟩=some (.int .i64 lim))/\(∀ x:KW W,x.v.cell? ⟨w.heap.size,2,none⟩=some (.int .i64 k))/\(∀ x:KW W,x.v.cell? ⟨w.heap.size+1,0,none⟩=some (.int .u64 p))/\(∀ x:KW W,x.v.cell? ⟨w.heap.size+1,1,none⟩=some (.int .u64 s)):=
 ⟨fun x=>(h.keep x.k).cells.1,fun x=>(h.keep x.k).cells.2.1,fun x=>(h.keep x.k).cells.2.2.1,fun x=>(h.keep x.k).cells.2.2.2.1,fun x=>(h.keep x.k).cells.2.2.2.2⟩
theorem LC(bS:Nat)(lim:Int)(k n:Nat)(hk:k<=8)(hn:n<=64)(hbase:bS<2 ^ 64)(p s:Nat)(hp:p<2 ^ 64)(hs:s<2 ^ 64)(w:World):
  Calls prog 220 #[cA bS lim (k:Int),.int .i64 n,oZ p s] w fun e w'=>e=.returned (.bool (okB bS k n p s))/\Kt nO w w':=by
 obtain⟨R,hR⟩:=xe (RS k);have hRl:=RS_le k hk;rw[<-hR] at hRl;have HR:=aA (fun W=>jJ (bS:Int) lim k hk W);rw[<-hR] at HR;have HP:=aA (fun W=>(wU s hs W).mono (R':=fun e w'=>e=.returned (.bool (cL s))/\Kt nO W w') fun e w' ⟨h1,h2⟩=>⟨h1,h2▸Kt.refl _ _⟩);have E:Hid (okB bS k n p s=(cL s && decide (16<=s) && decide (s<=R) && decide (p%s=0) && decide (bS<=p) && decide (p-bS<n*R))):=by rw[hR];rfl
 have B0:=aA (BR2.mk0 w bS lim k p s);clear hR
 cases hz:cL s with
 | false=>
  rw[hz] at HP E;have E2:Hid (okB bS k n p s=false):=by
   show _=_
   rw[E.out];rfl
  clear hz E;go_enter func220,ntmps220;go_wp2
  generalize ((w.alloc (.cells #[.int .u64 bS,.int .i64 lim,.int .i64 k] 43)).alloc (.cells #[.int .u64 p,.int .u64 s] 162))=W0 at *;obtain⟨c0,c1,c2,c3,c4⟩:=BR2.all B0.out;refine fC (by kernel_rfl) (by kernel_rfl) ?_;repeat (go_big_quiet_step (first|(go_at_call 26;exact Calls.kept_of (HP.out _))|(go_at_call 25;exact Calls.kept_of (HR.out _))))
  refine wpQuiet_nil ?_;intro x;go_wp2
  go_ret;exact⟨cE E2.out.symm,nT B0.out.k x.k⟩
 | true=>
  rw[hz] at HP E;clear hz;by_cases h1:(s:Int)<16
  ·have h1n:¬ 16<=s:=(by omega);have E2:Hid (okB bS k n p s=false):=by
    show _=_
    rw[E.out];simp[h1n]
   clear E h1n;go_enter func220,ntmps220;go_wp2
   generalize ((w.alloc (.cells #[.int .u64 bS,.int .i64 lim,.int .i64 k] 43)).alloc (.cells #[.int .u64 p,.int .u64 s] 162))=W0 at *;obtain⟨c0,c1,c2,c3,c4⟩:=BR2.all B0.out;refine fC (by kernel_rfl) (by kernel_rfl) ?_;repeat (go_big_quiet_step (first|(go_at_call 26;exact Calls.kept_of (HP.out _))|(go_at_call 25;exact Calls.kept_of (HR.out _))))
   refine wpQuiet_nil ?_;intro x;go_wp2
   go_ret;exact⟨cE E2.out.symm,nT B0.out.k x.k⟩
  ·have h1':decide ((s:Int)<16)=false:=decide_eq_false h1;by_cases h2:(R:Int)<s
   ·have h2n:¬s<=R:=(by omega);have h2':decide (R<s)=true:=decide_eq_true (by omega);have E2:Hid (okB bS k n p s=false):=by
     show _=_
     rw[E.out];simp[h2n]
    clear E h2n;go_enter func220,ntmps220;go_wp2
    generalize ((w.alloc (.cells #[.int .u64 bS,.int .i64 lim,.int .i64 k] 43)).alloc (.cells #[.int .u64 p,.int .u64 s] 162))=W0 at *;obtain⟨c0,c1,c2,c3,c4⟩:=BR2.all B0.out;refine fC (by kernel_rfl) (by kernel_rfl) ?_;repeat (go_big_quiet_step (first|(go_at_call 26;exact Calls.kept_of (HP.out _))|(go_at_call 25;exact Calls.kept_of (HR.out _))))
    refine wpQuiet_nil ?_;intro x;go_wp2
    go_ret;exact⟨cE E2.out.symm,nT B0.out.k x.k⟩
   ·have h2':decide (R<s)=false:=decide_eq_false (by omega);have hs0:¬(s:Int)=0:=(by omega);obtain⟨r,hr⟩:=xe (p%s);have hr1:(p:Int)%(s:Int)=r:=(by rw[hr];simp);rw[<-hr] at E;clear hr;by_cases h3:r=0
    ·have h3':((r:Int) != 0)=false:=(by rw[bne_eq_false_iff_eq];omega);by_cases h4:bS<=p
     ·have h4':decide (p<bS)=false:=decide_eq_false (by omega);obtain⟨d,hd⟩:=xe (p-bS);have hd1:(p:Int)-(bS:Int)=d:=(by omega);have hd2:d<2 ^ 64:=(by omega);obtain⟨nr,hnr⟩:=xe (n*R);have hnr1:(n:Int)*(R:Int)=nr:=(by rw[hnr];simp);have hnr2:nr<=67108864:=(by rw[hnr];exact Nat.le_trans (Nat.mul_le_mul hn hRl.2) (by decide));have E2:Hid (okB bS k n p s=decide (d<nr)):=by
       show _=_
       rw[E.out,decide_eq_true (by omega : 16<=s),decide_eq_true (by omega:s<=R),decide_eq_true h3,decide_eq_true h4,hd,hnr];rfl
      clear E hd hnr h3 h4;go_enter func220,ntmps220;go_wp2
      generalize ((w.alloc (.cells #[.int .u64 bS,.int .i64 lim,.int .i64 k] 43)).alloc (.cells #[.int .u64 p,.int .u64 s] 162))=W0 at *;obtain⟨c0,c1,c2,c3,c4⟩:=BR2.all B0.out;refine fC (by kernel_rfl) (by kernel_rfl) ?_;repeat (go_big_quiet_step (first|(go_at_call 26;exact Calls.kept_of (HP.out _))|(go_at_call 25;exact Calls.kept_of (HR.out _))))
      refine wpQuiet_nil ?_;intro x;go_wp2
      obtain⟨d0,d1,d2,d3,d4⟩:=BR2.all (B0.out.keep x.k);refine fC (by kernel_rfl) (by kernel_rfl) ?_;repeat (go_big_quiet_step (first|(go_at_call 25;exact Calls.kept_of (HR.out _))))
      refine wpQuiet_nil ?_;intro y;go_wp2
      go_ret;exact⟨cE (by rw[E2.out]),nT B0.out.k (nT x.k y.k)⟩
     ·have h4':decide (p<bS)=true:=decide_eq_true (by omega);have E2:Hid (okB bS k n p s=false):=by
       show _=_
       rw[E.out];simp[h4]
      clear E h3 h4;go_enter func220,ntmps220;go_wp2
      generalize ((w.alloc (.cells #[.int .u64 bS,.int .i64 lim,.int .i64 k] 43)).alloc (.cells #[.int .u64 p,.int .u64 s] 162))=W0 at *;obtain⟨c0,c1,c2,c3,c4⟩:=BR2.all B0.out;refine fC (by kernel_rfl) (by kernel_rfl) ?_;repeat (go_big_quiet_step (first|(go_at_call 26;exact Calls.kept_of (HP.out _))|(go_at_call 25;exact Calls.kept_of (HR.out _))))
      refine wpQuiet_nil ?_;intro x;go_wp2
      go_ret;exact⟨cE E2.out.symm,nT B0.out.k x.k⟩
    ·have h3':((r:Int) != 0)=true:=(by rw[bne_iff_ne];omega);have E2:Hid (okB bS k n p s=false):=by
      show _=_
      rw[E.out];simp[h3]
     clear E h3;go_enter func220,ntmps220;go_wp2
     generalize ((w.alloc (.cells #[.int .u64 bS,.int .i64 lim,.int .i64 k] 43)).alloc (.cells #[.int .u64 p,.int .u64 s] 162))=W0 at *;obtain⟨c0,c1,c2,c3,c4⟩:=BR2.all B0.out;refine fC (by kernel_rfl) (by kernel_rfl) ?_;repeat (go_big_quiet_step (first|(go_at_call 26;exact Calls.kept_of (HP.out _))|(go_at_call 25;exact Calls.kept_of (HR.out _))))
     refine wpQuiet_nil ?_;intro x;go_wp2
     go_ret;exact⟨cE E2.out.symm,nT B0.out.k x.k⟩
def meetB(p s p' s':Nat):Bool:=decide (p<p'+s') && decide (p'<p+s)
theorem refMeet(p s p' s':Nat)(h1:p+s<2 ^ 64)(h2:p'+s'<2 ^ 64)(w:World):
  Calls prog 206 #[oZ p s,oZ p' s'] w fun e w'=>e=.returned (.bool (meetB p s p' s'))/\Kt nO w w':=by
 by_cases h:(p:Int)<p'+(s':Int)
 ·have E:=aA (show meetB p s p' s'=decide (p'<p+s)by unfold meetB;rw[decide_eq_true (by omega),Bool.true_and]);go_enter func206,ntmps206;go_wp2
  go_ret;exact⟨cE (by rw[E.out,decide_eq_decide];omega),((Kt.refl _ w).alloc _).alloc _⟩
 ·have E:=aA (show meetB p s p' s'=false by unfold meetB;rw[decide_eq_false (by omega),Bool.false_and]);go_enter func206,ntmps206;go_wp2
  go_ret;exact⟨cE E.out.symm,((Kt.refl _ w).alloc _).alloc _⟩
theorem CT(bS:Nat)(lim ord:Int)(p:Nat)(hp:bS<=p)(hp2:p<2 ^ 64)(w:World):
  Calls prog 221 #[cA bS lim ord,.int .u64 p] w fun e w'=>e=.returned (.int .i64 (((p-bS)/4096:Nat):Int))/\Kt nO w w':=by
 obtain⟨d,hd⟩:=xe (p-bS);have hd1:(p:Int)-(bS:Int)=d:=by omega
 obtain⟨q,hq⟩:=xe (d/4096);have hq1:(d:Int)/4096=(q:Int):=by omega
 have E:=aA (show(p-bS)/4096=q by rw[<-hd,hq]);have hqb:q<2 ^ 52:=by omega
 have hdb:d<2 ^ 64:=by omega
 clear hd hq;go_enter func221,ntmps221;go_wp2
 go_ret;exact⟨eJ (by rw[E.out]),(Kt.refl _ w).alloc _⟩
def confB(bS p s p' s':Nat):Bool:=meetB p s p' s' || (decide (s<4096) && decide (s'<4096) && decide (s≠s') && decide ((p-bS)/4096=(p'-bS)/4096))
structure OkO(o s:Nat):Prop where
 p:cL s=true
 l : 16<=s
 m:o%s=0
theorem OkO.small{o s:Nat}(h:OkO o s)(hs:s<4096):o%4096+s<=4096/\o%4096%s=0:=by
 obtain⟨q,hq⟩:=oI h.p rI (by omega);have hd:s ∣ o%4096:=(Nat.dvd_mod_iff ⟨q,hq⟩).2 (Nat.dvd_of_mod_eq_zero h.m);obtain⟨c,hc⟩:=hd;have hlt:=Nat.mod_lt o (show 0<4096 by decide);have hcq:c<q:=by
  rw[hc] at hlt;have h2:s*c<s*q:=by rw[<-hq];exact hlt
  exact Nat.lt_of_mul_lt_mul_left h2
 refine⟨?_,by rw[hc];exact Nat.mul_mod_right _ _⟩;have:s*(c+1)<=s*q:=Nat.mul_le_mul_left s hcq;rw[Nat.mul_add,Nat.mul_one,<-hc,<-hq] at this;exact this
theorem OkO.large{o s:Nat}(h:OkO o s)(hs : 4096<=s):o%4096=0/\s%4096=0:=by
 have hd:=oI rI h.p hs;exact⟨Nat.mod_eq_zero_of_dvd (Nat.dvd_trans hd (Nat.dvd_of_mod_eq_zero h.m)),Nat.mod_eq_zero_of_dvd hd⟩
def sU(o s o' s':Nat):Prop:=∃ i i',i<npg s/\i'<npg s'/\o/4096+i=o'/4096+i'/\(s'≠s\/o'%4096/s'=o%4096/s)
theorem zjJ{f f' s:Nat}(hs : 0<s)(h:f%s=0)(h':f'%s=0):f'/s=f/s↔(f<f'+s/\f'<f+s):=by
 obtain⟨c,rfl⟩:=Nat.dvd_of_mod_eq_zero h;obtain⟨c',rfl⟩:=Nat.dvd_of_mod_eq_zero h';rw[Nat.mul_div_cancel_left _ hs,Nat.mul_div_cancel_left _ hs];constructor
 ·intro e;subst e;omega
 ·rintro ⟨h1,h2⟩;have a1:s*c<s*(c'+1):=by rw[Nat.mul_add,Nat.mul_one];exact h1
  have a2:s*c'<s*(c+1):=by rw[Nat.mul_add,Nat.mul_one];exact h2
  have b1:=Nat.lt_of_mul_lt_mul_left a1;have b2:=Nat.lt_of_mul_lt_mul_left a2;omega
theorem zjK{o s o' s':Nat}(h:OkO o s)(h':OkO o' s'):sU o s o' s'↔((o<o'+s'/\o'<o+s)\/(s<4096/\s'<4096/\s≠s'/\o/4096=o'/4096)):=by
 have hl:=h.l;have hl':=h'.l;unfold sU npg;by_cases c1:s<4096
 ·obtain⟨q1,q2⟩:=h.small c1;have n1:(s+4095)/4096=1:=by omega
  rw[n1];by_cases c2:s'<4096
  ·obtain⟨r1,r2⟩:=h'.small c2;have n2:(s'+4095)/4096=1:=(by omega);rw[n2];by_cases e:s=s'
   ·subst e;have sc:=zjJ (f:=o%4096) (f':=o'%4096) (s:=s) (by omega) q2 r2;constructor
    ·rintro ⟨i,i',hi,hi',e1,e2⟩;left
     have e3:o'%4096/s=o%4096/s:=by
      rcases e2 with e2|e2
      ·exact absurd rfl e2
      ·exact e2
     have:=sc.1 e3;omega
    ·rintro (⟨h1,h2⟩|⟨_,_,h3,_⟩)
     ·have e4:o/4096=o'/4096:=(by omega);exact⟨0,0,by omega,by omega,by omega,.inr (sc.2 (by omega))⟩
     ·exact absurd rfl h3
   ·constructor
    ·rintro ⟨i,i',hi,hi',e1,e2⟩;right
     exact⟨c1,c2,e,by omega⟩
    ·rintro (⟨h1,h2⟩|⟨_,_,h3,h4⟩)
     ·exact⟨0,0,by omega,by omega,by omega,.inl (fun x=>e x.symm)⟩
     ·exact⟨0,0,by omega,by omega,by omega,.inl (fun x=>e x.symm)⟩
  ·obtain⟨r1,r2⟩:=h'.large (by omega);constructor
   ·rintro ⟨i,i',hi,hi',e1,e2⟩;left
    omega
   ·rintro (⟨h1,h2⟩|⟨_,h3,_,_⟩)
    ·exact⟨0,o/4096-o'/4096,by omega,by omega,by omega,.inl (by omega)⟩
    ·omega
 ·obtain⟨q1,q2⟩:=h.large (by omega);by_cases c2:s'<4096
  ·obtain⟨r1,r2⟩:=h'.small c2;have n2:(s'+4095)/4096=1:=(by omega);rw[n2];constructor
   ·rintro ⟨i,i',hi,hi',e1,e2⟩;left
    omega
   ·rintro (⟨h1,h2⟩|⟨h3,_,_,_⟩)
    ·exact⟨o'/4096-o/4096,0,by omega,by omega,by omega,.inl (by omega)⟩
    ·omega
  ·obtain⟨r1,r2⟩:=h'.large (by omega);constructor
   ·rintro ⟨i,i',hi,hi',e1,e2⟩;left
    omega
   ·rintro (⟨h1,h2⟩|⟨h3,_,_,_⟩)
    ·have hc:o'%4096/s'=o%4096/s:=(by rw[q1,r1,Nat.zero_div,Nat.zero_div]);by_cases hle:o/4096<=o'/4096
     ·exact⟨o'/4096-o/4096,0,by omega,by omega,by omega,.inr hc⟩
     ·exact⟨0,o/4096-o'/4096,by omega,by omega,by omega,.inr hc⟩
    ·omega
theorem GK(U:List Un)(o s:Nat):pE U o s=true↔∀ i,i<npg s->∀ u∈U,u.1=o/4096+i->u.2.2=s/\u.2.1≠o%4096/s:=by
 unfold pE;rw[List.all_eq_true];constructor
 ·intro h i hi u hu e;exact(DS _ _ _ _).1 (h (mD o s i) (List.mem_map.2 ⟨i,List.mem_range.2 hi,rfl⟩)) u hu e
 ·intro h u hu;obtain⟨i,hi,rfl⟩:=List.mem_map.1 hu;exact(DS _ _ _ _).2 (h i (List.mem_range.1 hi))
theorem zf4(bS:Nat)(l:cD)(o s:Nat):pE (allU bS l) o s=true↔∀ b∈l,¬sU o s (b.1-bS) b.2:=by
 rw[GK];constructor
 ·rintro h b hb ⟨i,i',hi,hi',e1,e2⟩;obtain⟨h1,h2⟩:=h i hi (mD (b.1-bS) b.2 i') (List.mem_flatMap.2 ⟨b,hb,List.mem_map.2 ⟨i',List.mem_range.2 hi',rfl⟩⟩) e1.symm;rcases e2 with e2|e2
  ·exact e2 h1
  ·exact h2 e2
 ·intro h i hi u hu e;obtain⟨b,hb,hub⟩:=List.mem_flatMap.1 hu;obtain⟨i',hi',rfl⟩:=List.mem_map.1 hub;have hn:=h b hb;refine⟨Classical.byContradiction fun e2=>hn ⟨i,i',hi,List.mem_range.1 hi',e.symm,.inl e2⟩,fun e2=>hn ⟨i,i',hi,List.mem_range.1 hi',e.symm,.inr e2⟩⟩
theorem EP{bS p s p' s':Nat}(hb:bS<=p)(hb':bS<=p')(h:OkO (p-bS) s)(h':OkO (p'-bS) s'):confB bS p s p' s'=true↔sU (p-bS) s (p'-bS) s':=by
 rw[zjK h h'];simp only[confB,meetB,Bool.or_eq_true,Bool.and_eq_true,decide_eq_true_eq];constructor
 ·rintro (⟨h1,h2⟩|⟨⟨⟨h1,h2⟩,h3⟩,h4⟩)
  ·left;omega
  ·right;exact⟨h1,h2,h3,h4⟩
 ·rintro (⟨h1,h2⟩|⟨h1,h2,h3,h4⟩)
  ·left;omega
  ·right;exact⟨⟨⟨h1,h2⟩,h3⟩,h4⟩
theorem okO_of{bS k n p s:Nat}(hb:bS%RS k=0)(hn:n*RS k<=4194304)(h:okB bS k n p s=true):OkO (p-bS) s/\bS<=p/\p+s<=bS+n*RS k:=by
 obtain⟨f1,f2,f3,f4,f5,f6,f7,f8⟩:=GX hb hn h;exact⟨⟨f1,f2,f6⟩,f5,by omega⟩
theorem uP{bS k n:Nat}{l:cD}{i p s:Nat}(hi:l[i]?=some (p,s))(h:fJ bS k n l i=true):okB bS k n p s=true:=by
 unfold fJ at h;rw[hi] at h;simp only[Bool.and_eq_true] at h;exact h.1
theorem good_conf{bS k n:Nat}{l:cD}{i p s:Nat}(hb:bS%RS k=0)(hn:n*RS k<=4194304)(hi:l[i]?=some (p,s))(hp:∀ a,a<i->fJ bS k n l a=true)(hok:okB bS k n p s=true):
  fJ bS k n l i=true↔∀ j b,j<i->l[j]?=some b->confB bS p s b.1 b.2=false:=by
 obtain⟨h1,h2,_⟩:=okO_of hb hn hok;have e:fJ bS k n l i=pE (allU bS (l.take i)) (p-bS) s:=by
  unfold fJ;rw[hi];simp only[hok,Bool.true_and]
 rw[e,zf4];constructor
 ·intro h j b hj hjb;have hbl:b∈l.take i:=by
   refine List.mem_iff_getElem?.2 ⟨j,?_⟩;rw[List.getElem?_take,if_pos hj];exact hjb
  obtain⟨q1,q2,_⟩:=okO_of hb hn (uP (p:=b.1) (s:=b.2) hjb (hp j hj));rw[Bool.eq_false_iff];intro hc;exact h b hbl ((EP h2 q2 h1 q1).1 hc)
 ·intro h b hbl hc;obtain⟨j,hj⟩:=List.mem_iff_getElem?.1 hbl;rw[List.getElem?_take] at hj;split at hj
  ·rename_i hji;obtain⟨q1,q2,_⟩:=okO_of hb hn (uP (p:=b.1) (s:=b.2) hj (hp j hji));have:=h j b hji hj;rw[(EP h2 q2 h1 q1).2 hc] at this
   cases this
  ·cases hj
structure SoI(w W:World)(cx bS:Nat)(lim:Int)(k r:Nat)(l:cD)(a:Nat):Prop where
 cb:CR W cx bS lim (k:Int)
 kp:Kt nO w W
 gd:∀ b,b<a->fJ bS k r l b=true
theorem SoI.keep{w W W':World}{cx bS:Nat}{lim:Int}{k r:Nat}{l:cD}{a:Nat}(h:SoI w W cx bS lim k r l a)(hk:Kt nO W W'):SoI w W' cx bS lim k r l a:=
 ⟨h.cb.keep hk id,nT h.kp hk,h.gd⟩
theorem BL.all{w W:World}{oa:Option Addr}{n oc:Nat}{l:cD}(h:BL w (.slice oa n oc) l)(hk:Kt nO w W)(k:Nat)(hk':k<l.length):
  ∃ bl o p s,oa=some ⟨bl,o,none⟩/\l[k]?=some (p,s)/\p<2 ^ 64/\s<2 ^ 64/\(∀ x:KW W,x.v.cell? ⟨bl,o+k*2,none⟩=some (.int .u64 p))/\(∀ x:KW W,x.v.cell? ⟨bl,o+k*2+1,none⟩=some (.int .u64 s)):=by
 obtain⟨bl,o,p,s,h1,h2,h3,h4,h5,h6⟩:=h.at k hk';exact⟨bl,o,p,s,h1,h2,h3,h4,fun x=>(nT hk x.k).cell id h5,fun x=>(nT hk x.k).cell id h6⟩
theorem BL.all'{w W:World}{bl o:Nat}{n oc:Nat}{l:cD}(h:BL w (.slice (some ⟨bl,o,none⟩) n oc) l)(hk:Kt nO w W)(k:Nat)(hk':k<l.length):
  ∃ p s,l[k]?=some (p,s)/\p<2 ^ 64/\s<2 ^ 64/\(∀ x:KW W,x.v.cell? ⟨bl,o+k*2,none⟩=some (.int .u64 p))/\(∀ x:KW W,x.v.cell? ⟨bl,o+k*2+1,none⟩=some (.int .u64 s)):=by
 obtain⟨bl',o',p,s,h1,h2⟩:=h.all hk k hk';injection h1 with h1
 injection h1 with h3 h4
 subst h3 h4;exact⟨p,s,h2⟩
theorem refSound(bS:Nat)(hb64:bS<18446744073709551616)(lim ord n:Int)(hl1 : -9223372036854775808<=lim)(hl2:lim<=9223372036854775807)(ho1 : -9223372036854775808<=ord)(ho2:ord<=9223372036854775807)(v:Value)(l:cD)(w:World)(hbl:BL w v l):
  Calls prog 203 #[cA bS lim ord,.int .i64 n,v] w fun e w'=>e=.returned (.int .i64 (sndV bS lim ord n l))/\Kt nO w w':=by
 have HM:=aA (fun W=>sX bS hb64 lim ord hl1 hl2 ho1 ho2 W);have C0:=aA (show CR (w.alloc (.cells #[.int .u64 bS,.int .i64 lim,.int .i64 ord] 43)) w.heap.size bS lim ord from nH w _);have K0:=aA (show Kt nO w (w.alloc (.cells #[.int .u64 bS,.int .i64 lim,.int .i64 ord] 43))from(Kt.refl _ w).alloc _);have BL0:=aA hbl;clear hbl
 cases hm:mayB bS lim ord with
 | false=>
  rw[hm] at HM;have E:=aA (show sndV bS lim ord n l=0 by simp[sndV,mayR,hm]);clear hm;go_enter func203,ntmps203;go_wp2_with fail;generalize w.alloc (.cells #[.int .u64 bS,.int .i64 lim,.int .i64 ord] 43)=W0 at *;refine(HM.out _).mono ?_;rintro e w1 ⟨rfl,hk⟩;have K1:=aA (nT K0.out hk);clear hk;go_wp2_with fail;go_ret;exact⟨eJ E.out.symm,K1.out⟩
 | true=>
  rw[hm] at HM;by_cases hn : 0<=n/\n<=lim
  ·have hmr:mayR bS lim ord n=true:=(by simp[mayR,hm,hn.1,hn.2]);obtain⟨k,r,L,rfl,rfl,rfl,hk8,hL1,hL64,hrL,hLR,hb0,hbm,hbe⟩:=JR hmr;have hrR:r*RS k<=4194304:=Nat.le_trans (Nat.mul_le_mul_right _ hrL) hLR;have hrB:r*RS k<=L*RS k:=Nat.mul_le_mul_right _ hrL;obtain⟨oa,oc,rfl⟩:∃ oa oc,v=.slice oa l.length oc:=by
    obtain⟨_,_,oa,oc,hv,_⟩:=BL0.out;exact⟨oa,oc,hv⟩
   have hlen:=BL0.out.len.2;have ES:=aA (show sndV bS (L:Int) (k:Int) (r:Int) l=sndI bS k r l by unfold sndV;rw[if_pos hmr];simp);have FB:=aA (show ∀ i,i<l.length->(∀ a,a<i->fJ bS k r l a=true)->fJ bS k r l i=false->(i:Int)=sndV bS (L:Int) (k:Int) (r:Int) l from fun i h1 h2 h3=>by rw[ES.out,ZN h1 h2 h3]);have FG:=aA (show(∀ a,a<l.length->fJ bS k r l a=true)->(-1:Int)=sndV bS (L:Int) (k:Int) (r:Int) l from fun h1=>by rw[ES.out,sndI_ok h1]);have HO:=aA (fun W p s hp hs=>LC bS (L:Int) k r hk8 (by omega) (by omega) p s hp hs W);have hrl:decide (L<r)=false:=decide_eq_false (by omega);have hr0:decide ((r:Int)<0)=false:=decide_eq_false (by omega);clear hm hn hmr ES;go_enter func203,ntmps203;go_wp2_with fail;generalize w.alloc (.cells #[.int .u64 bS,.int .i64 L,.int .i64 k] 43)=W0 at *;refine(HM.out _).mono ?_;rintro e w1 ⟨rfl,hk⟩;have C1:=aA (C0.out.keep hk (fun x=>x));have I0:=aA (show SoI w w1 w.heap.size bS (L:Int) k r l 0 from⟨C1.out,nT K0.out hk,fun b hb=>by omega⟩);obtain⟨c0,c1,c2⟩:=C1.out.cells;clear hk;go_wp2_with fail;generalize w.heap.size=cx at *;clear c0 c1 c2 C0 K0 C1 HM;go_loopw [7] (fun i W=>∃ a:Nat,a<=l.length/\i=.int .i64 a/\Hid (SoI w W cx bS (L:Int) k r l a)) (fun i _=>l.length-(intOf i).toNat)
   case atStart=>exact⟨0,Nat.zero_le _,rfl,I0⟩
   case round=>
    clear I0;obtain⟨a,ha,rfl,hI⟩:=hrel;by_cases hlt:a<l.length
    ·have hai:(a:Int)<l.length:=(by omega);obtain⟨bl,o,p,s,rfl,hla,hp,hs,q0,q1⟩:=BL0.out.all hI.out.kp a hlt;obtain⟨c0,c1,c2⟩:=hI.out.cb.all;have HOK:=aA (fun W=>HO.out W p s hp hs);have HLA:=aA hla;go_wp2_with fail;refine fC (by kernel_rfl) (by kernel_rfl) ?_
     cases hok:okB bS k r p s with
     | false=>
      rw[hok] at HOK;have G0:=aA (show fJ bS k r l a=false by unfold fJ;rw[hla];simp only[hok,Bool.false_and]);clear hok hla;repeat (go_big_quiet_step (first|(go_at_call 220;exact Calls.kept_of (HOK.out _))))
      refine wpQuiet_nil ?_;intro x;go_wp2_with fail;go_ret;exact⟨eJ (FB.out a hlt hI.out.gd G0.out),nT hI.out.kp x.k⟩
     | true=>
      rw[hok] at HOK;have GC:=aA (good_conf hbm hrR hla hI.out.gd hok);obtain⟨_,hpb,hpe⟩:=okO_of hbm hrR hok;clear hla;repeat (go_big_quiet_step (first|(go_at_call 220;exact Calls.kept_of (HOK.out _))))
      refine wpQuiet_nil ?_;intro x;have I1:=aA (hI.out.keep x.k);go_wp2_with fail;generalize x.v=wx at *;clear q0 q1 c0 c1 c2 HOK HO;go_loopw [8] (fun jj W=>∃ j:Nat,j<=a/\jj=.int .i64 j/\Hid (SoI w W cx bS (L:Int) k r l a/\∀ i b,i<j->l[i]?=some b->confB bS p s b.1 b.2=false)) (fun jj _=>a-(intOf jj).toNat)
      case atStart=>exact⟨0,Nat.zero_le _,rfl,aA ⟨I1.out,fun i b hi=>by omega⟩⟩
      case round=>
       clear I1;obtain⟨j,hj,rfl,IJ⟩:=hrel;by_cases hjl:j<a
       ·have hji:(j:Int)<a:=(by omega);have hjl2:(j:Int)<l.length:=(by omega);obtain⟨p',s',hlj,hp',hs',r0,r1⟩:=BL0.out.all' IJ.out.1.kp j (by omega);obtain⟨p2,s2,hl2,_,_,q0,q1⟩:=BL0.out.all' IJ.out.1.kp a hlt;rw[HLA.out] at hl2;injection hl2 with hl2
        injection hl2 with e1 e2
        subst e1 e2;obtain⟨c0,c1,c2⟩:=IJ.out.1.cb.all;obtain⟨_,hpb',hpe'⟩:=okO_of hbm hrR (uP hlj (hI.out.gd j hjl));have HME:=aA (fun W=>refMeet p s p' s' (by omega) (by omega) W);have HPI:=aA (fun W=>CT bS (L:Int) (k:Int) p hpb hp W);have HPJ:=aA (fun W=>CT bS (L:Int) (k:Int) p' hpb' hp' W);have NXJ:=aA (show confB bS p s p' s'=false->∀ i b,i<j+1->l[i]?=some b->confB bS p s b.1 b.2=false from fun h i b hi hb=>by
         by_cases e:i=j
         ·rw[e,hlj] at hb;injection hb with hb
          rw[<-hb];exact h
         ·exact IJ.out.2 i b (by omega) hb)
        have GBAD:=aA (show confB bS p s p' s'=true->fJ bS k r l a=false from fun h=>by
         rw[Bool.eq_false_iff];intro hg;have:=GC.out.1 hg j (p',s') hjl hlj;rw[h] at this
         cases this)
        obtain⟨gi,hgi⟩:=xe ((p-bS)/4096);obtain⟨gj,hgj⟩:=xe ((p'-bS)/4096);have HGI:=aA hgi;have HGJ:=aA hgj;rw[<-hgi] at HPI;rw[<-hgj] at HPJ;clear hgi hgj hlj;go_wp2_with fail;refine fC (by kernel_rfl) (by kernel_rfl) ?_
        cases hme:meetB p s p' s' with
        | true=>
         rw[hme] at HME;have G0:=aA (GBAD.out (by unfold confB;rw[hme];rfl));clear hme;repeat (go_big_quiet_step (first|(go_at_call 206;exact Calls.kept_of (HME.out _))))
         refine wpQuiet_nil ?_;intro x;have K2:=aA (nT IJ.out.1.kp x.k);go_wp2_with fail;go_ret;exact⟨eJ (FB.out a hlt hI.out.gd G0.out),K2.out⟩
        | false=>
         rw[hme] at HME;have MF:=aA hme;clear hme;repeat (go_big_quiet_step (first|(go_at_call 206;exact Calls.kept_of (HME.out _))))
         refine wpQuiet_nil ?_;intro x;obtain⟨d0,d1,d2⟩:=(IJ.out.1.keep x.k).cb.all;have q2:∀ y:KW x.v,y.v.cell? ⟨bl,o+a*2,none⟩=some (.int .u64 p):=fun y=>q0 ⟨y.v,nT x.k y.k⟩
         have q3:∀ y:KW x.v,y.v.cell? ⟨bl,o+a*2+1,none⟩=some (.int .u64 s):=fun y=>q1 ⟨y.v,nT x.k y.k⟩
         have r2:∀ y:KW x.v,y.v.cell? ⟨bl,o+j*2,none⟩=some (.int .u64 p'):=fun y=>r0 ⟨y.v,nT x.k y.k⟩
         have r3:∀ y:KW x.v,y.v.cell? ⟨bl,o+j*2+1,none⟩=some (.int .u64 s'):=fun y=>r1 ⟨y.v,nT x.k y.k⟩
         clear c0 c1 c2 q0 q1 r0 r1 HME;go_wp2_with fail;by_cases t1:s<4096
         ·have t1':decide ((s:Int)<4096)=true:=decide_eq_true (by omega);by_cases t2:s'<4096
          ·have t2':decide ((s':Int)<4096)=true:=decide_eq_true (by omega);by_cases t3:s=s'
           ·have t3':((s:Int) != (s':Int))=false:=(by rw[bne_eq_false_iff_eq];omega);have CF:=aA (show confB bS p s p' s'=false by unfold confB;rw[MF.out];simp[t3]);refine fC (by kernel_rfl) (by kernel_rfl) ?_;repeat (go_big_quiet_step (first|(go_at_call_of 221 p;exact Calls.kept_of (HPI.out _))|(go_at_call_of 221 p';exact Calls.kept_of (HPJ.out _))))
            refine wpQuiet_nil ?_;intro y;have I3:=aA (show SoI w y.v cx bS (L:Int) k r l a/\_ from⟨(IJ.out.1.keep x.k).keep y.k,NXJ.out CF.out⟩);go_wp2_with fail;go_round
            case rel=>exact⟨j+1,by omega,by go_num,I3⟩
            case measure=>simp[intOf];omega
           ·have t3':((s:Int) != (s':Int))=true:=(by rw[bne_iff_ne];omega);by_cases t4:gi=gj
            ·have t4':((gi:Int) == (gj:Int))=true:=(by rw[beq_iff_eq];omega);have CF:=aA (show confB bS p s p' s'=true by unfold confB;rw[MF.out];simp[t1,t2,t3,<-HGI.out,<-HGJ.out,t4]);refine fC (by kernel_rfl) (by kernel_rfl) ?_;repeat (go_big_quiet_step (first|(go_at_call_of 221 p;exact Calls.kept_of (HPI.out _))|(go_at_call_of 221 p';exact Calls.kept_of (HPJ.out _))))
             refine wpQuiet_nil ?_;intro y;have G0:=aA (GBAD.out CF.out);have K3:=aA ((IJ.out.1.keep x.k).keep y.k).kp;go_wp2_with fail;go_ret;exact⟨eJ (FB.out a hlt hI.out.gd G0.out),K3.out⟩
            ·have t4':((gi:Int) == (gj:Int))=false:=(by rw[beq_eq_false_iff_ne];omega);have CF:=aA (show confB bS p s p' s'=false by unfold confB;rw[MF.out];simp[t1,t2,t3,<-HGI.out,<-HGJ.out,t4]);refine fC (by kernel_rfl) (by kernel_rfl) ?_;repeat (go_big_quiet_step (first|(go_at_call_of 221 p;exact Calls.kept_of (HPI.out _))|(go_at_call_of 221 p';exact Calls.kept_of (HPJ.out _))))
             refine wpQuiet_nil ?_;intro y;have I3:=aA (show SoI w y.v cx bS (L:Int) k r l a/\_ from⟨(IJ.out.1.keep x.k).keep y.k,NXJ.out CF.out⟩);go_wp2_with fail;go_round
             case rel=>exact⟨j+1,by omega,by go_num,I3⟩
             case measure=>simp[intOf];omega
          ·have t2':decide ((s':Int)<4096)=false:=decide_eq_false (by omega);have CF:=aA (show confB bS p s p' s'=false by unfold confB;rw[MF.out];simp[t2]);refine fC (by kernel_rfl) (by kernel_rfl) ?_;repeat (go_big_quiet_step (first|(go_at_call_of 221 p;exact Calls.kept_of (HPI.out _))|(go_at_call_of 221 p';exact Calls.kept_of (HPJ.out _))))
           refine wpQuiet_nil ?_;intro y;have I3:=aA (show SoI w y.v cx bS (L:Int) k r l a/\_ from⟨(IJ.out.1.keep x.k).keep y.k,NXJ.out CF.out⟩);go_wp2_with fail;go_round
           case rel=>exact⟨j+1,by omega,by go_num,I3⟩
           case measure=>simp[intOf];omega
         ·have t1':decide ((s:Int)<4096)=false:=decide_eq_false (by omega);have CF:=aA (show confB bS p s p' s'=false by unfold confB;rw[MF.out];simp[t1]);refine fC (by kernel_rfl) (by kernel_rfl) ?_;repeat (go_big_quiet_step (first|(go_at_call_of 221 p;exact Calls.kept_of (HPI.out _))|(go_at_call_of 221 p';exact Calls.kept_of (HPJ.out _))))
          refine wpQuiet_nil ?_;intro y;have I3:=aA (show SoI w y.v cx bS (L:Int) k r l a/\_ from⟨(IJ.out.1.keep x.k).keep y.k,NXJ.out CF.out⟩);go_wp2_with fail;go_round
          case rel=>exact⟨j+1,by omega,by go_num,I3⟩
          case measure=>simp[intOf];omega
       ·obtain rfl:j=a:=(by omega);have hji:¬(j:Int)<j:=(by omega);have I4:=aA (show SoI w wr cx bS (L:Int) k r l (j+1)from⟨IJ.out.1.cb,IJ.out.1.kp,fun b hb=>by
         by_cases e:b=j
         ·rw[e];exact GC.out.2 (fun i bb hi hbb=>IJ.out.2 i bb hi hbb)
         ·exact hI.out.gd b (by omega)⟩)
        go_wp2_with fail;go_round
        case rel=>exact⟨j+1,by omega,by go_num,I4⟩
        case measure=>simp[intOf];omega
    ·have hae:a=l.length:=(by omega);have hai:¬(a:Int)<l.length:=(by omega);go_wp2_with fail;go_ret;exact⟨eJ (FG.out (fun b hb=>hI.out.gd b (by omega))),hI.out.kp⟩
  ·have E:=aA (show sndV bS lim ord n l=0 by
    unfold sndV mayR;rw[hm,Bool.true_and];by_cases h0 : 0<=n
    ·rw[decide_eq_true h0,decide_eq_false (by omega:¬n<=lim)];rfl
    ·rw[decide_eq_false h0];rfl)
   clear hm;by_cases h0:n<0
   ·clear hn;go_enter func203,ntmps203;go_wp2_with fail;generalize w.alloc (.cells #[.int .u64 bS,.int .i64 lim,.int .i64 ord] 43)=W0 at *;refine(HM.out _).mono ?_;rintro e w1 ⟨rfl,hk⟩;have K1:=aA (nT K0.out hk);clear hk;go_wp2_with fail;go_ret;exact⟨eJ E.out.symm,K1.out⟩
   ·have h1:lim<n:=(by omega);clear hn;go_enter func203,ntmps203;go_wp2_with fail;generalize w.alloc (.cells #[.int .u64 bS,.int .i64 lim,.int .i64 ord] 43)=W0 at *;refine(HM.out _).mono ?_;rintro e w1 ⟨rfl,hk⟩;have K1:=aA (nT K0.out hk);obtain⟨c0,c1,c2⟩:=(C0.out.keep hk (fun x=>x)).cells;clear hk;go_wp2_with fail;go_ret;exact⟨eJ E.out.symm,K1.out⟩
end Go.Proofs.YtbgbfpklgfpepaaGreatDoor.O
