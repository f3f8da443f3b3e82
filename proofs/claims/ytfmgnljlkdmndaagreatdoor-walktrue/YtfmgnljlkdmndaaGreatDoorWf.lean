import Derived.Test.YtfmgnljlkdmndaaGreatDoorWe
set_option maxRecDepth 1000000
set_option maxHeartbeats 80000000
namespace Go.Proofs.YtfmgnljlkdmndaaGreatDoor
open Tryz
open Go.RowKit
set_option linter.unusedVariables false
theorem IY{W:World}{y:Nat}{a:Addr}{v:Value}(h:W.cell? a=some v)(b:a.block≠y)(u0 u1:Value):((W.setCell ⟨y,0,none⟩ u0).setCell ⟨y,1,none⟩ u1).cell? a=some v:=
 (((Kt.refl (fun z=>z=y) W).setCell (p:=⟨y,0,none⟩) rfl u0).setCell (p:=⟨y,1,none⟩) rfl u1).cell b h
theorem pL{S:Nat->Prop}{a W:World}(h:Kt S a W){y:Nat}(hy:y<a.heap.size->S y)(u0 u1:Value):Kt S a ((W.setCell ⟨y,0,none⟩ u0).setCell ⟨y,1,none⟩ u1):=(h.setNew (p:=⟨y,0,none⟩) hy u0).setNew (p:=⟨y,1,none⟩) hy u1
theorem wL{k:Nat} : gJ (aB k)=true:=(vI _).2 ⟨4+k,by unfold aB;rw[Nat.pow_add]⟩
section
variable {w W W':World} {hb sb lw:Nat} {x:Bx} {t:Bt} {fr:Nat->List Nat} {ls:List (Nat×Nat)} {S:Sb} {s:Int}
inductive Ak(w W:World)(sb:Nat)(x:Bx)(ls:List (Nat×Nat))(S:Sb)(p g:Nat)(q:Pg):Prop where
 | big (a k:Nat) (hk:k<=8) (hq:q.kd=2\/q.kd=3) (ho:q.od=(k:Int)) (ha:a<=1024) (hh:∀ W',Kt nO W W'->Calls prog 163 #[.pointer (some ⟨x.m,0,none⟩),.int .i64 g] W' fun e w'=>e=.returned (.int .i64 a)/\w'=W') (ar:jB x ls S p (x.bS+4096*a) (4096*2 ^ k) true)
 | cell (a k z:Nat) (l:Bool) (hk:k<8) (hq:q.kd=4) (hc:q.cl=(k:Int)) (ha:a<18446744073709551616) (hd:lS p (aB k)=a) (hs:∀ W',Kt nO W W'->Calls prog 96 #[.pointer (some ⟨sb,0,none⟩),.int .u64 a] W' fun e w'=>e=.returned (.int .u64 z)/\Kt nO W' w') (hz:((z:Int) != 0)=l) (ar:jB x ls S p a (aB k) l)
 | none (hq:q.kd=0\/q.kd=1) (ar:jB x ls S p 0 0 false)
theorem zkx(H:HW w W hb sb lw x t fr ls S s)(p:Nat)(hp:p<18446744073709551616):Ak w W sb x ls S p (aJ x p/4096) (cM t.m ((aJ x p/4096:Nat):Int)):=by
 obtain⟨h,o⟩:=H.so;have Q:=H.po.nums.2.1;have n1:=H.po.nums.1;have J:=H.po.nums.2.2.2.1;by_cases hg:aJ x p/4096<t.m.n
 ·rw[show cM t.m ((aJ x p/4096:Nat):Int)=t.m.pg (aJ x p/4096)by
   unfold cM;rw[ae (dQ hg),aa]]
  cases o.kind hg with
  | free q j f G hc v r a=>
   refine .none ?_ (o.ar_free f G v r hc 0 0);rw[a];show(if _ then (0:Int) else 1)=0\/(if _ then (0:Int) else 1)=1
   split <;> simp
  | big q k f hc I v r a=>
   obtain⟨L,F,N⟩:=o.al f;refine .big q k (by omega) ?_ (by rw[a];rfl) (by omega) (fun W' kp=>?_) (o.ar_big hp hg f hc v r)
   ·rw[a];show(if _ then (2:Int) else 3)=2\/(if _ then (2:Int) else 3)=3
    split <;> simp
   ·have:=JK x.m x.B t.m ((aJ x p/4096:Nat):Int) W' (H.keep kp).po.pl.bd.mp;rw[show kJ t.m ((aJ x p/4096:Nat):Int)=(q:Int)by
     unfold kJ;rw[ae (dQ hg),aa,a];show(((aJ x p/4096)/2 ^ (k:Int).toNat*2 ^ (k:Int).toNat:Nat):Int)=(q:Int)
     rw[aa];have hz : 0<2 ^ k:=ap (by decide);obtain⟨c,l⟩:∃ c,q=c*2 ^ k:=⟨q/2 ^ k,(Nat.div_mul_cancel (cz F)).symm⟩;have:aJ x p/4096/2 ^ k=c:=by rw[Nat.div_eq_iff hz];rw[l] at v r;omega
     rw[this,<-l]] at this
    exact this
  | slab k hc=>
   obtain⟨g,sp⟩:=o.si.pg _ k hc;obtain⟨i,u,A,C,E⟩:=o.down_at hp rfl hc;have f:=o.mem hc;have d:=fV (x:=x) (p:=aJ x p/4096) g u (by omega);have hz:=cN g;have b:=o.cell_liv hc u;have y:=o.ar_cell (p:=p) rfl hc u C E
   cases hl:decide (i ∉ S.fl (aJ x p/4096))with
   | true=>
    rw[hl] at b y;refine .cell _ k (aB k) true g sp.kd sp.cl d.2.2 (by rw[xD _ _ wL];exact A) (fun W' kp=>?_) (by rw[cu];omega) y;obtain⟨D,z⟩:=(H.keep kp).so;have:=FJ z.sw _ d.2.2 b;rw[show dT x t (aK x (aJ x p/4096) k i)=t.m.pg (aJ x p/4096)from(sO (x:=x) (t:=t) g u (by omega) f.2.1 sp.kd sp.cl).2.2.1,sp.cl,aa] at this;exact this
   | false=>
    rw[hl] at b y;refine .cell _ k 0 false g sp.kd sp.cl d.2.2 (by rw[xD _ _ wL];exact A) (fun W' kp=>?_) rfl y;obtain⟨D,z⟩:=(H.keep kp).so;exact CZ z.sw _ d.2.2 b
 ·rw[show cM t.m ((aJ x p/4096:Nat):Int)=aV by
   unfold cM;rw[ac];intro e;obtain⟨k,K,P⟩:=gR e;omega]
  exact .none (.inl rfl) (o.ar_far hg 0 0)
theorem GU(H:HW w W hb sb lw x t fr ls S s)(p:Nat)(hp:p<18446744073709551616):
  Calls prog 111 #[.pointer (some ⟨hb,0,none⟩),.int .u64 p] W fun e b=>∃ a z l,e=.returned (.tuple #[jK a z,.bool l])/\jB x ls S p a z l/\Kt nO W b:=by
 have L:=aA (zkx H p hp);have n4:=H.po.nums.2.2.2.1;have Q:=aA ((Kt.refl nO W).alloc pF);have X0:=aA (show(W.alloc pF).heap[W.heap.size]?=some (cA 0 0)from nH W pF);obtain⟨c0,c2,c3,c4,c5,c6⟩:=(H.keep Q.o).c;have R:x.bS<18446744073709551616:=by omega
 have hw:=tQ p x.bS hp R;obtain⟨d,hd⟩:=xe (aJ x p);rw[show(p+18446744073709551616-x.bS)%18446744073709551616=d from hd.symm] at hw;have a0:d<18446744073709551616:=by rw[hd];exact Nat.mod_lt _ (by decide)
 obtain⟨g,hg⟩:=xe (d/4096);have a7:(d:Int)/4096=(g:Int):=by omega
 have a6:g<4503599627370496:=by omega
 rw[<-hd,<-hg] at L;obtain⟨q,hq⟩:=xe (cM t.m (g:Int));obtain⟨r,hr⟩:=xe (aD t.m.n (g:Int));rw[<-hq] at L;have MP:=aA (fun W' (k:Kt nO W W')=>bT (H.keep k).po.pl);have HA:=aA (show ∀ W',Kt nO W W'->Calls prog 45 #[.pointer (some ⟨x.m,0,none⟩),.int .i64 g] W' fun e b=>e=.returned (.tuple #[cD q,.bool r])/\Kt nO W' b from fun W' k=>by rw[hr,hq];exact jC x.m x.B t.m (g:Int) W' (H.keep k).po.pl.bd.mp)
 have AD:=aA (fun n (hn:n<=1024) W' (k:Kt nO W W')=>tT (H.keep k) n hn);have V:=aA (fun W' (k:Kt nO W W')=>(H.keep k).c);clear H n4 hd a0 hg hq hr R;go_enter func111,ntmps111;go_wp2_with fail;refine(MP.o _ Q.o).mono ?_;rintro e w1 ⟨rfl,h1⟩;subst h1;go_wp2_with fail;refine(HA.o _ Q.o).mono ?_;rintro e f ⟨rfl,j⟩;have i:=aA (nT Q.o (j.alloc (aN q)));have X7:=aA (nH f (aN q));have X4:=aA (show(f.alloc (aN q)).heap[W.heap.size]?=some (cA 0 0)from((j.alloc (aN q)).block _ (lH X0.o) id).trans X0.o);have a3:f.heap.size≠W.heap.size:=by have h1:=j.size;rw[World.size_alloc] at h1;omega
 clear j Q X0 c0 c2 c3 c4 c5 c6 hw;obtain⟨c0,c2,c3,c4,c5,c6⟩:=V.o _ i.o;have a4:hb≠W.heap.size:=by obtain⟨k0,_⟩:=V.o _ (Kt.refl _ _);exact Nat.ne_of_lt (qQ k0)
 obtain⟨z0,z1,zf⟩:=fS X4.o;have A:=aA (fun W' (T:Kt nO (f.alloc (aN q)) W')=>And.intro (V.o _ (nT i.o T)).2.2.2.2.1 (And.intro (V.o _ (nT i.o T)).2.2.2.2.2 (iU ((T.block _ (lH X7.o) id).trans X7.o))));have N:=aA (fun W' (T:Kt nO (f.alloc (aN q)) W')=>fS ((T.block _ (lH X4.o) id).trans X4.o));have C:=aA ((Kt.refl nO (f.alloc (aN q))).drew);have J:=aA (nT i.o C.o);obtain⟨f5,f6,x0,x1,x2,x3,x4,x5,x6,x7,x8,x9,P⟩:=A.o _ (Kt.refl _ _);clear c0 c2 c3 c4 c5 c6
 cases L.o with
 | none hq I=>
  have E:=aA I;have D:=aA (pL i.o (y:=W.heap.size) (fun e=>absurd e (dc _)) (.int .u64 0) (.int .u64 0));have q2:(q.kd == 2)=false:=by rw[ag];omega
  have q3:(q.kd == 3)=false:=by rw[ag];omega
  have q4:(q.kd == 4)=false:=by rw[ag];omega
  clear L I hq A N C J;go_wp2_with fail;exact⟨rfl,.tuple #[jK 0 0,.bool false],by simp[results,results111,go_sem,z0,z1],0,0,false,rfl,E.o,D.o⟩
 | big a k j hq ho ha hh I=>
  have E:=aA I;have HH:=aA hh;have RN:=aA (fun W'=>zN k j q ho W');have AA:=aA (AD.o a ha);obtain⟨m,hm⟩:=xe (x.bS+4096*a);obtain⟨z,hz⟩:=xe (4096*2 ^ k);rw[<-hm] at AA E;rw[<-hz] at RN E;have HQ:=aA hq;clear L I hq hh AD hm hz j ho ha;rcases HQ.o with hq|hq
  all_goals
   first
   | (have q2:(q.kd == 2)=true:=by rw[co];exact hq)
   |(
    have q2:(q.kd == 2)=false:=(by rw[ag];omega);have q3:(q.kd == 3)=true:=by rw[co];exact hq)
   clear hq;go_wp2_with fail;obtain⟨d5,d6,y0,y1,y2,y3,y4,y5,y6,y7,y8,y9,a2⟩:=A.o _ C.o;go_region_held3 (fun b=>b.cell? ⟨hb,5,none⟩=some (.pointer (some ⟨lw,0,none⟩))/\b.cell? ⟨hb,6,none⟩=some (.pointer (some ⟨sb,0,none⟩))/\b.cell? ⟨f.heap.size,0,none⟩=some (.int .i64 q.kd)/\b.cell? ⟨f.heap.size,1,none⟩=some (.int .i64 q.od)/\b.cell? ⟨f.heap.size,2,none⟩=some (.int .i64 q.cl)/\b.cell? ⟨f.heap.size,3,none⟩=some (.int .i64 q.lv)/\b.cell? ⟨f.heap.size,4,none⟩=some (.int .i64 q.nx)/\b.cell? ⟨f.heap.size,5,none⟩=some (.int .i64 q.pv)/\b.cell? ⟨f.heap.size,6,none⟩=some (.int .i64 q.fs)/\b.cell? ⟨f.heap.size,7,none⟩=some (.int .u64 q.b0)/\b.cell? ⟨f.heap.size,8,none⟩=some (.int .u64 q.b1)/\b.cell? ⟨f.heap.size,9,none⟩=some (.int .u64 q.b2)/\b.cell? ⟨f.heap.size,10,none⟩=some (.int .u64 q.b3)) ((refine⟨?_,?_,?_,?_,?_,?_,?_,?_,?_,?_,?_,?_,?_⟩ <;> first|with_reducible assumption|with_reducible exact IY (by with_reducible assumption) (by with_reducible assumption) _ _)) (first
    | (go_at_call 38;(first | with_reducible refine(MP.o _ J.o).mono ?_ | with_reducible refine(MP.o _ U.o).mono ?_);rintro e w5 ⟨rfl,h⟩;replace h:=h.symm;subst h)
    | (go_at_call 163;(first | with_reducible refine(HH.o _ J.o).mono ?_ | with_reducible refine(HH.o _ U.o).mono ?_);rintro e w5 ⟨rfl,h⟩;replace h:=h.symm;subst h)
    | (go_at_call 46;(first | with_reducible refine(AA.o _ J.o).mono ?_ | with_reducible refine(AA.o _ U.o).mono ?_);rintro e w5 ⟨rfl,h⟩;replace h:=h.symm;subst h)
    | (go_at_call 47;(with_reducible refine(RN.o _).mono ?_);rintro e w4 ⟨rfl,v⟩;have K:=aA (nT C.o v);have U:=aA (nT i.o K.o);obtain⟨Z,e6,v0,v1,v2,v3,v4,v5,v6,v7,v8,v9,v10⟩:=A.o _ K.o;obtain⟨u0,u1,Y⟩:=N.o _ K.o;clear v)
    | fail)
   all_goals
    have D:=aA (pL U.o (y:=W.heap.size) (fun e=>absurd e (dc _)) (.int .u64 m) (.int .u64 z));go_wp2_with fail;exact⟨rfl,.tuple #[jK m z,.bool true],by simp[results,results111,go_sem,u0,u1],m,z,true,rfl,E.o,D.o⟩
 | cell a k zz l j hq hc ha hd hs a5 I=>
  have E:=aA I;have SZ:=aA hs;have X:=aA (fun W'=>BF k j q hc W');have a1:=cN j;have DN:=aA (fun W'=>WF p (aB k) hp (by omega) W');rw[hd,wL] at DN;obtain⟨z,hz⟩:=xe (aB k);rw[<-hz] at X DN E;have q2:(q.kd == 2)=false:=by rw[ag];omega
  have q3:(q.kd == 3)=false:=by rw[ag];omega
  have q4:(q.kd == 4)=true:=by rw[co];exact hq
  clear L I hq hs AD hz j hc hd a1;go_wp2_with fail;refine(X.o _).mono ?_;rintro e w4 ⟨rfl,v⟩;have K:=aA v;have U:=aA (nT i.o K.o);clear v f5 f6 x0 x1 x2 x3 x4 x5 x6 x7 x8 x9 P C J;obtain⟨f5,f6,x0,x1,x2,x3,x4,x5,x6,x7,x8,x9,P⟩:=A.o _ K.o;go_wp2_with fail;refine(DN.o _).mono ?_;rintro e w5 ⟨rfl,h⟩;replace h:=h.symm;subst h;go_wp2_with fail;have C:=aA (nT K.o (Kt.refl nO w4).drew);have J:=aA (nT i.o C.o);obtain⟨d5,d6,y0,y1,y2,y3,y4,y5,y6,y7,y8,y9,a2⟩:=A.o _ C.o;go_region_held3 (fun b=>b.cell? ⟨hb,5,none⟩=some (.pointer (some ⟨lw,0,none⟩))/\b.cell? ⟨hb,6,none⟩=some (.pointer (some ⟨sb,0,none⟩))/\b.cell? ⟨f.heap.size,0,none⟩=some (.int .i64 q.kd)/\b.cell? ⟨f.heap.size,1,none⟩=some (.int .i64 q.od)/\b.cell? ⟨f.heap.size,2,none⟩=some (.int .i64 q.cl)/\b.cell? ⟨f.heap.size,3,none⟩=some (.int .i64 q.lv)/\b.cell? ⟨f.heap.size,4,none⟩=some (.int .i64 q.nx)/\b.cell? ⟨f.heap.size,5,none⟩=some (.int .i64 q.pv)/\b.cell? ⟨f.heap.size,6,none⟩=some (.int .i64 q.fs)/\b.cell? ⟨f.heap.size,7,none⟩=some (.int .u64 q.b0)/\b.cell? ⟨f.heap.size,8,none⟩=some (.int .u64 q.b1)/\b.cell? ⟨f.heap.size,9,none⟩=some (.int .u64 q.b2)/\b.cell? ⟨f.heap.size,10,none⟩=some (.int .u64 q.b3)) ((refine⟨?_,?_,?_,?_,?_,?_,?_,?_,?_,?_,?_,?_,?_⟩ <;> first|with_reducible assumption|with_reducible exact IY (by with_reducible assumption) (by with_reducible assumption) _ _)) (first
   |(
    go_at_call 96;first
     | ((with_reducible refine(SZ.o _ J.o).mono ?_);rintro e w6 ⟨rfl,o⟩;have G:=aA (nT C.o o);have D6:=aA (nT i.o G.o);obtain⟨Z,e6,v0,v1,v2,v3,v4,v5,v6,v7,v8,v9,v10⟩:=A.o _ G.o;obtain⟨u0,u1,Y⟩:=N.o _ G.o;clear o)
     | ((with_reducible refine(SZ.o _ D7.o).mono ?_);rintro e w6 ⟨rfl,o⟩;have G:=aA (nT F.o o);have D6:=aA (nT i.o G.o);obtain⟨Z,e6,v0,v1,v2,v3,v4,v5,v6,v7,v8,v9,v10⟩:=A.o _ G.o;obtain⟨u0,u1,Y⟩:=N.o _ G.o;clear o))
   |(
    go_at_call 95;first
     | ((with_reducible refine(X.o w6).mono ?_);rintro e w7 ⟨rfl,u⟩;have F:=aA (nT G.o u);have D7:=aA (nT i.o F.o);obtain⟨Z,e6,v0,v1,v2,v3,v4,v5,v6,v7,v8,v9,v10⟩:=A.o _ F.o;obtain⟨u0,u1,Y⟩:=N.o _ F.o;clear u)
     | ((with_reducible refine(X.o _).mono ?_);rintro e w7 ⟨rfl,u⟩;have F:=aA (nT C.o u);have D7:=aA (nT i.o F.o);obtain⟨Z,e6,v0,v1,v2,v3,v4,v5,v6,v7,v8,v9,v10⟩:=A.o _ F.o;obtain⟨u0,u1,Y⟩:=N.o _ F.o;clear u))
   | fail)
  all_goals
   first
   |(
    have D:=aA (pL D7.o (y:=W.heap.size) (fun e=>absurd e (dc _)) (.int .u64 a) (.int .u64 z));go_wp2_with fail;exact⟨rfl,.tuple #[jK a z,.bool l],by simp[results,results111,go_sem,u0,u1],a,z,l,rfl,E.o,D.o⟩)
   |(
    have D:=aA (pL D6.o (y:=W.heap.size) (fun e=>absurd e (dc _)) (.int .u64 a) (.int .u64 z));go_wp2_with fail;exact⟨rfl,.tuple #[jK a z,.bool l],by simp[results,results111,go_sem,u0,u1],a,z,l,rfl,E.o,D.o⟩)
end
end Go.Proofs.YtfmgnljlkdmndaaGreatDoor
