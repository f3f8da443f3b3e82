import Derived.Test.YtfmgnljlkdmndaaGreatDoorXo
set_option maxRecDepth 1000000
set_option maxHeartbeats 0
namespace Go.Proofs.YtfmgnljlkdmndaaGreatDoor
open Tryz RowKit
set_option linter.unusedVariables false
def fC(pg:Nat->Pg)(p o:Nat)(k:Int):Nat->Pg:=fun i=>if i=p then aT k o else if p<i/\i<p+2 ^ o then aT (k+1) o else pg i
theorem zkT{n mo p o r:Nat}(e:n=r*2 ^ mo)(f:o<=mo)(hp:p<n)(c:p%2 ^ o=0):p+2 ^ o<=n:=by
 obtain⟨d,rfl⟩:∃ d,mo=o+d:=⟨mo-o,by omega⟩;obtain⟨a,ha⟩:∃ a,p=a*2 ^ o:=⟨p/2 ^ o,by have:=dy p (2 ^ o);rw[c,Nat.add_zero,aq] at this;exact this.symm⟩;obtain⟨b,hb⟩:∃ b,n=b*2 ^ o:=⟨r*2 ^ d,by rw[e,Nat.pow_add,aq (2 ^ o),cy]⟩;have h0 : 0<2 ^ o:=pR o;generalize 2 ^ o=z at *;subst ha hb;have:a<b:=Nat.lt_of_mul_lt_mul_right hp;calc a*z+z=(a+1)*z:=by rw[av,aL]
  _<=b*z:=ak _ this
theorem BO(b:Nat)(B:Bs)(m:Mp)(p o k:Nat)(w:Wd)(h:MpA w b B m)(hp:p<m.n)(ho:o<=m.o)(hm:p%2 ^ o=0)(hk:k=0\/k=2):Calls prog 175 #[.pointer (some ⟨b,0,none⟩),.int .i64 p,.int .i64 o,.int .i64 k] w fun e w'=>e=.returned (.int .i64 0)/\MpA w' b B { m with pg:=fC m.pg p o k }/\Kt (aP b B m.o) w w':=by
 obtain⟨r,hr⟩:=h.dv;have a2:=zkT hr ho hp hm;have a5:o<=8:=by have:=h.o8;omega
 have a8:=h.n1;obtain⟨g,hg,a0⟩:=h.et (by omega);have A:=aA h;have HI:=aA (dN hp);have f:=aA hg;have HP:=aA hp;have c0:=h.c0;have c1:=h.c1 hg;have a9:¬(m.o:Int)<o:=by omega
 have a4:(p:Int)%2 ^ o=0:=by
  have:((p%2 ^ o:Nat):Int)=0:=by rw[hm];rfl
  simpa using this
 have a3 : 1<=2 ^ o:=pR o;have a1 : 2 ^ o<=256:=bj (n:=2) (by decide) a5;obtain⟨z,hz⟩:=xe (2 ^ o);have a6:(2:Int) ^ o=(z:Int):=by rw[hz];simp
 rw[<-hz] at a2 a3 a1;rw[a6] at a4;have HZ:=aA hz;clear h hr hg a0 hm hz;rcases hk with rfl|rfl
 ·go_enter func175,ntmps175;go_wp2_with fail;refine(fL b B m p _ A.o).mono ?_;rintro e s ⟨rfl,rfl⟩;rw[HI.o];go_wp2_with fail;go_region_with ((go_at_call 233;refine(qV 0 o _).mono ?_;rintro e D ⟨rfl,l⟩;have I:=aA (show Kt nO s D by rw[l];exact((kz s).drew).alloc _);have G:=aA (bO.kept (A.o.jb f.o) I.o (fun x=>x));obtain⟨d0,L,N,K,Q,X,P,T,S,V,d⟩:=G.o.cell p HP.o;have Z:=aZ.ic G.o;have c1:=(A.o.dk I.o).c1 f.o;clear l))
  all_goals
   have R:=aA (G.o.put p HP.o (aT 0 o));have J:=aA (show Kt (fun x=>x=g) s (cY D g p (aT 0 o))from I.o.trans (nP D g p _) (fun _ _ x=>x.elim) (fun _ _ x=>x));generalize c:cY D g p (aT 0 o)=W at R J;unfold cY at c;rw[c];clear c I G d0 L N K Q X P T S V d Z c1;go_wp2_with fail;have H0:=aA (show bO W g m.n (fun i=>if i=p then aT 0 o else if p<i/\i<p+1 then aT 1 o else m.pg i)from R.o.congr (fun i hi=>by unfold aH;by_cases e:i=p <;> simp[e];omega));go_loopw [10] (fun i W=>∃ q:Nat,p+1<=q/\q<=p+z/\i=.int .i64 q/\Hd (bO W g m.n (fun i=>if i=p then aT 0 o else if p<i/\i<q then aT 1 o else m.pg i)/\Kt (fun x=>x=g) s W)) (fun i _=>p+z-(intOf i).toNat)
   case atStart=>exact⟨p+1,aj _,by omega,by simp,⟨H0.o,J.o⟩⟩
   case round=>
    clear H0 J R;obtain⟨q,y,v,rfl,hR⟩:=hrel;have t:=aA hR.o;clear hR;have KW:=aA (show MpA wr b B _ from A.o.fh f.o t.o.2 t.o.1 (fun i hi=>by
     by_cases e:i=p;·simp only[e,if_true];exact PgOk.blank _ _ (by omega) (by omega)
     ·simp only[e,if_false];split
      ·exact PgOk.blank _ _ (by omega) (by omega)
      ·exact A.o.ok i hi))
    by_cases u:q<p+z
    ·have Y:(q:Int)<p+z:=(by omega);have a7:(q:Int)<m.n:=(by omega);have a:=aA (show q<m.n/\q<p+z/\p+1<=q by omega);have c1:=KW.o.c1 f.o;clear u y v;go_wp2_with fail;go_region_with ((go_at_call 233;refine(qV 1 o _).mono ?_;rintro e C ⟨rfl,j⟩;have F:=aA (show Kt nO wr C by rw[j];exact((kz wr).drew).alloc _);have E:=aA (bO.kept t.o.1 F.o (fun x=>x));obtain⟨d0,L,N,K,Q,X,P,T,S,V,d⟩:=E.o.cell q a.o.1;have Z:=aZ.ic E.o;have c1:=(KW.o.dk F.o).c1 f.o;clear j))
     all_goals
      have R5:=aA (E.o.put q a.o.1 (aT 1 o));have K5:=aA (show Kt (fun x=>x=g) s (cY C g q (aT 1 o))from(t.o.2.trans (U:=fun x=>x=g) F.o (fun _ _ x=>x) (fun _ _ x=>x.elim)).trans (nP C g q _) (fun _ _ x=>x) (fun _ _ x=>x));generalize c:cY C g q (aT 1 o)=W5 at R5 K5;unfold cY at c;rw[c];clear c F E d0 L N K Q X P T S V d Z c1;have R6:=aA (show bO W5 g m.n (fun i=>if i=p then aT 0 o else if p<i/\i<q+1 then aT 1 o else m.pg i)from R5.o.congr (fun i hi=>by
       have:=a.o;unfold aH;by_cases e:i=q;·simp only[e,if_true];rw[ac (by omega),ae (by omega)]
       ·simp only[e,if_false];by_cases e2:i=p
        ·simp only[e2,if_true]
        ·simp only[e2,if_false];by_cases e3:p<i/\i<q
         ·rw[ae e3,ae (by omega)]
         ·rw[ac e3,ac (by omega)]))
      go_wp2_with fail;exact⟨⟨q+1,by have:=a.o;omega,by have:=a.o;omega,by simp,⟨R6.o,K5.o⟩⟩,by have:=a.o;simp[intOf];omega⟩
    ·have Y:¬(q:Int)<p+z:=(by omega);have a:=aA (show q=p+z by omega);clear u y v;go_wp2_with fail;go_ret;refine⟨rfl,?_,t.o.2.mono (fun x _ e=>.inr (.inl (by rw[e];exact f.o)))⟩;have:=KW.o;rw[a.o,HZ.o] at this;exact this
 ·go_enter func175,ntmps175;go_wp2_with fail;refine(fL b B m p _ A.o).mono ?_;rintro e s ⟨rfl,rfl⟩;rw[HI.o];go_wp2_with fail;go_region_with ((go_at_call 233;refine(qV 2 o _).mono ?_;rintro e D ⟨rfl,l⟩;have I:=aA (show Kt nO s D by rw[l];exact((kz s).drew).alloc _);have G:=aA (bO.kept (A.o.jb f.o) I.o (fun x=>x));obtain⟨d0,L,N,K,Q,X,P,T,S,V,d⟩:=G.o.cell p HP.o;have Z:=aZ.ic G.o;have c1:=(A.o.dk I.o).c1 f.o;clear l))
  all_goals
   have R:=aA (G.o.put p HP.o (aT 2 o));have J:=aA (show Kt (fun x=>x=g) s (cY D g p (aT 2 o))from I.o.trans (nP D g p _) (fun _ _ x=>x.elim) (fun _ _ x=>x));generalize c:cY D g p (aT 2 o)=W at R J;unfold cY at c;rw[c];clear c I G d0 L N K Q X P T S V d Z c1;go_wp2_with fail;have H0:=aA (show bO W g m.n (fun i=>if i=p then aT 2 o else if p<i/\i<p+1 then aT 3 o else m.pg i)from R.o.congr (fun i hi=>by unfold aH;by_cases e:i=p <;> simp[e];omega));go_loopw [10] (fun i W=>∃ q:Nat,p+1<=q/\q<=p+z/\i=.int .i64 q/\Hd (bO W g m.n (fun i=>if i=p then aT 2 o else if p<i/\i<q then aT 3 o else m.pg i)/\Kt (fun x=>x=g) s W)) (fun i _=>p+z-(intOf i).toNat)
   case atStart=>exact⟨p+1,aj _,by omega,by simp,⟨H0.o,J.o⟩⟩
   case round=>
    clear H0 J R;obtain⟨q,y,v,rfl,hR⟩:=hrel;have t:=aA hR.o;clear hR;have KW:=aA (show MpA wr b B _ from A.o.fh f.o t.o.2 t.o.1 (fun i hi=>by
     by_cases e:i=p;·simp only[e,if_true];exact PgOk.blank _ _ (by omega) (by omega)
     ·simp only[e,if_false];split
      ·exact PgOk.blank _ _ (by omega) (by omega)
      ·exact A.o.ok i hi))
    by_cases u:q<p+z
    ·have Y:(q:Int)<p+z:=(by omega);have a7:(q:Int)<m.n:=(by omega);have a:=aA (show q<m.n/\q<p+z/\p+1<=q by omega);have c1:=KW.o.c1 f.o;clear u y v;go_wp2_with fail;go_region_with ((go_at_call 233;refine(qV 3 o _).mono ?_;rintro e C ⟨rfl,j⟩;have F:=aA (show Kt nO wr C by rw[j];exact((kz wr).drew).alloc _);have E:=aA (bO.kept t.o.1 F.o (fun x=>x));obtain⟨d0,L,N,K,Q,X,P,T,S,V,d⟩:=E.o.cell q a.o.1;have Z:=aZ.ic E.o;have c1:=(KW.o.dk F.o).c1 f.o;clear j))
     all_goals
      have R5:=aA (E.o.put q a.o.1 (aT 3 o));have K5:=aA (show Kt (fun x=>x=g) s (cY C g q (aT 3 o))from(t.o.2.trans (U:=fun x=>x=g) F.o (fun _ _ x=>x) (fun _ _ x=>x.elim)).trans (nP C g q _) (fun _ _ x=>x) (fun _ _ x=>x));generalize c:cY C g q (aT 3 o)=W5 at R5 K5;unfold cY at c;rw[c];clear c F E d0 L N K Q X P T S V d Z c1;have R6:=aA (show bO W5 g m.n (fun i=>if i=p then aT 2 o else if p<i/\i<q+1 then aT 3 o else m.pg i)from R5.o.congr (fun i hi=>by
       have:=a.o;unfold aH;by_cases e:i=q;·simp only[e,if_true];rw[ac (by omega),ae (by omega)]
       ·simp only[e,if_false];by_cases e2:i=p
        ·simp only[e2,if_true]
        ·simp only[e2,if_false];by_cases e3:p<i/\i<q
         ·rw[ae e3,ae (by omega)]
         ·rw[ac e3,ac (by omega)]))
      go_wp2_with fail;exact⟨⟨q+1,by have:=a.o;omega,by have:=a.o;omega,by simp,⟨R6.o,K5.o⟩⟩,by have:=a.o;simp[intOf];omega⟩
    ·have Y:¬(q:Int)<p+z:=(by omega);have a:=aA (show q=p+z by omega);clear u y v;go_wp2_with fail;go_ret;refine⟨rfl,?_,t.o.2.mono (fun x _ e=>.inr (.inl (by rw[e];exact f.o)))⟩;have:=KW.o;rw[a.o,HZ.o] at this;exact this
end Go.Proofs.YtfmgnljlkdmndaaGreatDoor
