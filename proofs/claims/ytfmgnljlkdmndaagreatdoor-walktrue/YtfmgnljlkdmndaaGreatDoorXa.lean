import Derived.Test.YtfmgnljlkdmndaaGreatDoorZc
set_option maxRecDepth 1000000
set_option maxHeartbeats 80000000
namespace Go.Proofs.YtfmgnljlkdmndaaGreatDoor
open Tryz
open Go.RowKit
set_option linter.unusedVariables false
def fG(pg:Nat->Pg)(p o:Nat)(k:Int):Nat->Pg:=fun i=>if i=p then aU k o else if p<i/\i<p+2 ^ o then aU (k+1) o else pg i
theorem zkF{n mo p o r:Nat}(e:n=r*2 ^ mo)(f:o<=mo)(hp:p<n)(c:p%2 ^ o=0):p+2 ^ o<=n:=by
 obtain⟨d,rfl⟩:∃ d,mo=o+d:=⟨mo-o,by omega⟩;obtain⟨a,ha⟩:∃ a,p=a*2 ^ o:=⟨p/2 ^ o,by have:=Nat.div_add_mod p (2 ^ o);rw[c,Nat.add_zero,aq] at this;exact this.symm⟩;obtain⟨b,hb⟩:∃ b,n=b*2 ^ o:=⟨r*2 ^ d,by rw[e,Nat.pow_add,aq (2 ^ o),cx]⟩;have h0 : 0<2 ^ o:=pQ o;generalize 2 ^ o=z at *;subst ha hb;have:a<b:=Nat.lt_of_mul_lt_mul_right hp;calc a*z+z=(a+1)*z:=by rw[av,aL]
  _<=b*z:=ak _ this
theorem CJ(b:Nat)(B:Bs)(m:Mp)(p o k:Nat)(w:World)(h:MpA w b B m)(hp:p<m.n)(ho:o<=m.o)(hm:p%2 ^ o=0)(hk:k=0\/k=2):
  Calls prog 175 #[.pointer (some ⟨b,0,none⟩),.int .i64 p,.int .i64 o,.int .i64 k] w fun e w'=>e=.returned (.int .i64 0)/\MpA w' b B { m with pg:=fG m.pg p o k }/\Kt (aO b B m.o) w w':=by
 obtain⟨r,hr⟩:=h.dv;have a0:=zkF hr ho hp hm;have a3:o<=8:=by have:=h.o8;omega
 have a8:=h.n1;obtain⟨g,hg,a2⟩:=h.has_row (by omega);have A:=aA h;have HI:=aA (dQ hp);have f:=aA hg;have HP:=aA hp;have c0:=h.c0;have c1:=h.c1 hg;have a9:¬(m.o:Int)<o:=by omega
 have a5:(p:Int)%2 ^ o=0:=by
  have:((p%2 ^ o:Nat):Int)=0:=by rw[hm];rfl
  simpa using this
 have a6 : 1<=2 ^ o:=pQ o;have a1 : 2 ^ o<=256:=bj (n:=2) (by decide) a3;obtain⟨z,hz⟩:=xe (2 ^ o);have a4:(2:Int) ^ o=(z:Int):=by rw[hz];simp
 rw[<-hz] at a0 a6 a1;rw[a4] at a5;have HZ:=aA hz;clear h hr hg a2 hm hz;rcases hk with rfl|rfl
 ·go_enter func175,ntmps175;go_wp2_with fail;refine(fN b B m p _ A.o).mono ?_;rintro e s ⟨rfl,rfl⟩;rw[HI.o];go_wp2_with fail;go_region_with ((go_at_call 233;refine(qV 0 o _).mono ?_;rintro e I ⟨rfl,j⟩;have F:=aA (show Kt nO s I by rw[j];exact((Kt.refl nO s).drew).alloc _);have C:=aA (bP.kept (A.o.rowg f.o) F.o (fun x=>x));obtain⟨Y,P,Z,S,T,L,V,Q,R,X,c⟩:=C.o.cell p HP.o;have N:=bA.froz C.o;have c1:=(A.o.keep F.o).c1 f.o;clear j))
  all_goals
   have R3:=aA (C.o.put p HP.o (aU 0 o));have K:=aA (show Kt (fun x=>x=g) s (cZ I g p (aU 0 o))from F.o.trans (nR I g p _) (fun _ _ x=>x.elim) (fun _ _ x=>x));generalize d:cZ I g p (aU 0 o)=W at R3 K;unfold cZ at d;rw[d];clear d F C Y P Z S T L V Q R X c N c1;go_wp2_with fail;have H0:=aA (show bP W g m.n (fun i=>if i=p then aU 0 o else if p<i/\i<p+1 then aU 1 o else m.pg i)from R3.o.congr (fun i hi=>by unfold aG;by_cases e:i=p <;> simp[e];omega));go_loopw [10] (fun i W=>∃ q:Nat,p+1<=q/\q<=p+z/\i=.int .i64 q/\Hd (bP W g m.n (fun i=>if i=p then aU 0 o else if p<i/\i<q then aU 1 o else m.pg i)/\Kt (fun x=>x=g) s W)) (fun i _=>p+z-(intOf i).toNat)
   case atStart=>exact⟨p+1,aj _,by omega,by simp,⟨H0.o,K.o⟩⟩
   case round=>
    clear H0 K R3;obtain⟨q,v,u,rfl,hR⟩:=hrel;have l:=aA hR.o;clear hR;have KW:=aA (show MpA wr b B _ from A.o.pages f.o l.o.2 l.o.1 (fun i hi=>by
     by_cases e:i=p
     ·simp only[e,if_true];exact PgOk.blank _ _ (by omega) (by omega)
     ·simp only[e,if_false];split
      ·exact PgOk.blank _ _ (by omega) (by omega)
      ·exact A.o.ok i hi))
    by_cases y:q<p+z
    ·have J:(q:Int)<p+z:=(by omega);have a7:(q:Int)<m.n:=(by omega);have a:=aA (show q<m.n/\q<p+z/\p+1<=q by omega);have c1:=KW.o.c1 f.o;clear y v u;go_wp2_with fail;go_region_with ((go_at_call 233;refine(qV 1 o _).mono ?_;rintro e E ⟨rfl,t⟩;have G:=aA (show Kt nO wr E by rw[t];exact((Kt.refl nO wr).drew).alloc _);have D:=aA (bP.kept l.o.1 G.o (fun x=>x));obtain⟨Y,P,Z,S,T,L,V,Q,R,X,c⟩:=D.o.cell q a.o.1;have N:=bA.froz D.o;have c1:=(KW.o.keep G.o).c1 f.o;clear t))
     all_goals
      have R5:=aA (D.o.put q a.o.1 (aU 1 o));have K5:=aA (show Kt (fun x=>x=g) s (cZ E g q (aU 1 o))from(l.o.2.trans (U:=fun x=>x=g) G.o (fun _ _ x=>x) (fun _ _ x=>x.elim)).trans (nR E g q _) (fun _ _ x=>x) (fun _ _ x=>x));generalize d:cZ E g q (aU 1 o)=W5 at R5 K5;unfold cZ at d;rw[d];clear d G D Y P Z S T L V Q R X c N c1;have R6:=aA (show bP W5 g m.n (fun i=>if i=p then aU 0 o else if p<i/\i<q+1 then aU 1 o else m.pg i)from R5.o.congr (fun i hi=>by
       have:=a.o;unfold aG;by_cases e:i=q
       ·simp only[e,if_true];rw[ac (by omega),ae (by omega)]
       ·simp only[e,if_false];by_cases e2:i=p
        ·simp only[e2,if_true]
        ·simp only[e2,if_false];by_cases e3:p<i/\i<q
         ·rw[ae e3,ae (by omega)]
         ·rw[ac e3,ac (by omega)]))
      go_wp2_with fail;exact⟨⟨q+1,by have:=a.o;omega,by have:=a.o;omega,by simp,⟨R6.o,K5.o⟩⟩,by have:=a.o;simp[intOf];omega⟩
    ·have J:¬(q:Int)<p+z:=(by omega);have a:=aA (show q=p+z by omega);clear y v u;go_wp2_with fail;go_ret;refine⟨rfl,?_,l.o.2.mono (fun x _ e=>.inr (.inl (by rw[e];exact f.o)))⟩;have:=KW.o;rw[a.o,HZ.o] at this;exact this
 ·go_enter func175,ntmps175;go_wp2_with fail;refine(fN b B m p _ A.o).mono ?_;rintro e s ⟨rfl,rfl⟩;rw[HI.o];go_wp2_with fail;go_region_with ((go_at_call 233;refine(qV 2 o _).mono ?_;rintro e I ⟨rfl,j⟩;have F:=aA (show Kt nO s I by rw[j];exact((Kt.refl nO s).drew).alloc _);have C:=aA (bP.kept (A.o.rowg f.o) F.o (fun x=>x));obtain⟨Y,P,Z,S,T,L,V,Q,R,X,c⟩:=C.o.cell p HP.o;have N:=bA.froz C.o;have c1:=(A.o.keep F.o).c1 f.o;clear j))
  all_goals
   have R3:=aA (C.o.put p HP.o (aU 2 o));have K:=aA (show Kt (fun x=>x=g) s (cZ I g p (aU 2 o))from F.o.trans (nR I g p _) (fun _ _ x=>x.elim) (fun _ _ x=>x));generalize d:cZ I g p (aU 2 o)=W at R3 K;unfold cZ at d;rw[d];clear d F C Y P Z S T L V Q R X c N c1;go_wp2_with fail;have H0:=aA (show bP W g m.n (fun i=>if i=p then aU 2 o else if p<i/\i<p+1 then aU 3 o else m.pg i)from R3.o.congr (fun i hi=>by unfold aG;by_cases e:i=p <;> simp[e];omega));go_loopw [10] (fun i W=>∃ q:Nat,p+1<=q/\q<=p+z/\i=.int .i64 q/\Hd (bP W g m.n (fun i=>if i=p then aU 2 o else if p<i/\i<q then aU 3 o else m.pg i)/\Kt (fun x=>x=g) s W)) (fun i _=>p+z-(intOf i).toNat)
   case atStart=>exact⟨p+1,aj _,by omega,by simp,⟨H0.o,K.o⟩⟩
   case round=>
    clear H0 K R3;obtain⟨q,v,u,rfl,hR⟩:=hrel;have l:=aA hR.o;clear hR;have KW:=aA (show MpA wr b B _ from A.o.pages f.o l.o.2 l.o.1 (fun i hi=>by
     by_cases e:i=p
     ·simp only[e,if_true];exact PgOk.blank _ _ (by omega) (by omega)
     ·simp only[e,if_false];split
      ·exact PgOk.blank _ _ (by omega) (by omega)
      ·exact A.o.ok i hi))
    by_cases y:q<p+z
    ·have J:(q:Int)<p+z:=(by omega);have a7:(q:Int)<m.n:=(by omega);have a:=aA (show q<m.n/\q<p+z/\p+1<=q by omega);have c1:=KW.o.c1 f.o;clear y v u;go_wp2_with fail;go_region_with ((go_at_call 233;refine(qV 3 o _).mono ?_;rintro e E ⟨rfl,t⟩;have G:=aA (show Kt nO wr E by rw[t];exact((Kt.refl nO wr).drew).alloc _);have D:=aA (bP.kept l.o.1 G.o (fun x=>x));obtain⟨Y,P,Z,S,T,L,V,Q,R,X,c⟩:=D.o.cell q a.o.1;have N:=bA.froz D.o;have c1:=(KW.o.keep G.o).c1 f.o;clear t))
     all_goals
      have R5:=aA (D.o.put q a.o.1 (aU 3 o));have K5:=aA (show Kt (fun x=>x=g) s (cZ E g q (aU 3 o))from(l.o.2.trans (U:=fun x=>x=g) G.o (fun _ _ x=>x) (fun _ _ x=>x.elim)).trans (nR E g q _) (fun _ _ x=>x) (fun _ _ x=>x));generalize d:cZ E g q (aU 3 o)=W5 at R5 K5;unfold cZ at d;rw[d];clear d G D Y P Z S T L V Q R X c N c1;have R6:=aA (show bP W5 g m.n (fun i=>if i=p then aU 2 o else if p<i/\i<q+1 then aU 3 o else m.pg i)from R5.o.congr (fun i hi=>by
       have:=a.o;unfold aG;by_cases e:i=q
       ·simp only[e,if_true];rw[ac (by omega),ae (by omega)]
       ·simp only[e,if_false];by_cases e2:i=p
        ·simp only[e2,if_true]
        ·simp only[e2,if_false];by_cases e3:p<i/\i<q
         ·rw[ae e3,ae (by omega)]
         ·rw[ac e3,ac (by omega)]))
      go_wp2_with fail;exact⟨⟨q+1,by have:=a.o;omega,by have:=a.o;omega,by simp,⟨R6.o,K5.o⟩⟩,by have:=a.o;simp[intOf];omega⟩
    ·have J:¬(q:Int)<p+z:=(by omega);have a:=aA (show q=p+z by omega);clear y v u;go_wp2_with fail;go_ret;refine⟨rfl,?_,l.o.2.mono (fun x _ e=>.inr (.inl (by rw[e];exact f.o)))⟩;have:=KW.o;rw[a.o,HZ.o] at this;exact this
end Go.Proofs.YtfmgnljlkdmndaaGreatDoor
