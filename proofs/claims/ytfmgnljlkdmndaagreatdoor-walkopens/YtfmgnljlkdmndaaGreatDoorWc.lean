import Derived.Test.YtfmgnljlkdmndaaGreatDoorWb
set_option maxRecDepth 1000000
set_option maxHeartbeats 0
namespace Go.Proofs.YtfmgnljlkdmndaaGreatDoor
open Tryz RowKit
set_option linter.unusedVariables false
theorem JJ{W:Wd}{y:Nat}{a:Addr}{v:Vl}(h:W.cell? a=some v)(b:a.block≠y)(u0 u1:Vl):((W.setCell ⟨y,0,none⟩ u0).setCell ⟨y,1,none⟩ u1).cell? a=some v:=
 (((Kt.refl (fun z=>z=y) W).setCell (p:=⟨y,0,none⟩) rfl u0).setCell (p:=⟨y,1,none⟩) rfl u1).cell b h
theorem pP{S:Nat->Prop}{a W:Wd}(h:Kt S a W){y:Nat}(hy:y<a.heap.size->S y)(u0 u1:Vl):Kt S a ((W.setCell ⟨y,0,none⟩ u0).setCell ⟨y,1,none⟩ u1):=(h.em (p:=⟨y,0,none⟩) hy u0).em (p:=⟨y,1,none⟩) hy u1
theorem wT{k:Nat} : gH (aB k)=true:=(wA _).2 ⟨4+k,by unfold aB;rw[Nat.pow_add]⟩
section
variable {w W W':Wd} {hb sb lw:Nat} {x:Bx} {t:Bt} {fr:Nat->List Nat} {ls:List (Nat×Nat)} {S:Sb} {s:Int}
inductive Ak(w W:Wd)(sb:Nat)(x:Bx)(ls:List (Nat×Nat))(S:Sb)(p g:Nat)(q:Pg):Prop where
 | big (a k:Nat) (hk:k<=8) (hq:q.kd=2\/q.kd=3) (ho:q.od=(k:Int)) (ha:a<=1024) (hh:∀ W',Kt nO W W'->Calls prog 163 #[.pointer (some ⟨x.m,0,none⟩),.int .i64 g] W' fun e w'=>e=.returned (.int .i64 a)/\w'=W') (ar:jA x ls S p (x.bS+4096*a) (4096*2 ^ k) true)
 | cell (a k z:Nat) (l:Bool) (hk:k<8) (hq:q.kd=4) (hc:q.cl=(k:Int)) (ha:a<18446744073709551616) (hd:lR p (aB k)=a) (hs:∀ W',Kt nO W W'->Calls prog 96 #[.pointer (some ⟨sb,0,none⟩),.int .u64 a] W' fun e w'=>e=.returned (.int .u64 z)/\Kt nO W' w') (hz:((z:Int) != 0)=l) (ar:jA x ls S p a (aB k) l)
 | none (hq:q.kd=0\/q.kd=1) (ar:jA x ls S p 0 0 false)
theorem zkM(H:HW w W hb sb lw x t fr ls S s)(p:Nat)(hp:p<18446744073709551616):Ak w W sb x ls S p (aK x p/4096) (cL t.m ((aK x p/4096:Nat):Int)):=by
 obtain⟨h,o⟩:=H.so;have N:=H.po.en.2.1;have n1:=H.po.en.1;have P:=H.po.en.2.2.2.1;by_cases hg:aK x p/4096<t.m.n
 ·rw[show cL t.m ((aK x p/4096:Nat):Int)=t.m.pg (aK x p/4096)by
   unfold cL;rw[ae (dN hg),aa]]
  cases o.kind hg with
  | free q j f C hc r u a=>
   refine .none ?_ (o.kc f C r u hc 0 0);rw[a];show(if _ then (0:Int) else 1)=0\/(if _ then (0:Int) else 1)=1
   split <;> simp
  | big q k f hc I r u a=>
   obtain⟨Q,D,L⟩:=o.al f;refine .big q k (by omega) ?_ (by rw[a];rfl) (by omega) (fun W' kp=>?_) (o.ko hp hg f hc r u)
   ·rw[a];show(if _ then (2:Int) else 3)=2\/(if _ then (2:Int) else 3)=3
    split <;> simp
   ·have:=JW x.m x.B t.m ((aK x p/4096:Nat):Int) W' (H.dk kp).po.pl.bd.mp;rw[show kF t.m ((aK x p/4096:Nat):Int)=(q:Int)by
     unfold kF;rw[ae (dN hg),aa,a];show(((aK x p/4096)/2 ^ (k:Int).toNat*2 ^ (k:Int).toNat:Nat):Int)=(q:Int)
     rw[aa];have hz : 0<2 ^ k:=ap (by decide);obtain⟨c,g⟩:∃ c,q=c*2 ^ k:=⟨q/2 ^ k,(Nat.div_mul_cancel (da D)).symm⟩;have:aK x p/4096/2 ^ k=c:=by rw[Nat.div_eq_iff hz];rw[g] at r u;omega
     rw[this,<-g]] at this
    exact this
  | fj k hc=>
   obtain⟨l,sp⟩:=o.si.pg _ k hc;obtain⟨i,v,A,G,F⟩:=o.jy hp rfl hc;have f:=o.mem hc;have d:=fT (x:=x) (p:=aK x p/4096) l v (by omega);have hz:=cM l;have b:=o.io hc v;have y:=o.ke (p:=p) rfl hc v G F
   cases hl:decide (i ∉ S.fl (aK x p/4096))with
   | true=>rw[hl] at b y;refine .cell _ k (aB k) true l sp.kd sp.cl d.2.2 (by rw[xS _ _ wT];exact A) (fun W' kp=>?_) (by rw[cx];omega) y;obtain⟨E,z⟩:=(H.dk kp).so;have:=FU z.sw _ d.2.2 b;rw[show dQ x t (aM x (aK x p/4096) k i)=t.m.pg (aK x p/4096)from(sO (x:=x) (t:=t) l v (by omega) f.2.1 sp.kd sp.cl).2.2.1,sp.cl,aa] at this;exact this
   | false=>rw[hl] at b y;refine .cell _ k 0 false l sp.kd sp.cl d.2.2 (by rw[xS _ _ wT];exact A) (fun W' kp=>?_) rfl y;obtain⟨E,z⟩:=(H.dk kp).so;exact EG z.sw _ d.2.2 b
 ·rw[show cL t.m ((aK x p/4096:Nat):Int)=aU by
   unfold cL;rw[ac];intro e;obtain⟨k,K,J⟩:=gP e;omega]
  exact .none (.inl rfl) (o.ku hg 0 0)
theorem JI(H:HW w W hb sb lw x t fr ls S s)(p:Nat)(hp:p<18446744073709551616):Calls prog 111 #[.pointer (some ⟨hb,0,none⟩),.int .u64 p] W fun e b=>∃ a z l,e=.returned (.tuple #[jJ a z,.bool l])/\jA x ls S p a z l/\Kt nO W b:=by
 have L:=aA (zkM H p hp);have n4:=H.po.en.2.2.2.1;have P:=aA ((kz W).alloc pG);have X0:=aA (show(W.alloc pG).heap[W.heap.size]?=some (bY 0 0)from nH W pG);obtain⟨c0,c2,c3,c4,c5,c6⟩:=(H.dk P.o).c;have U:x.bS<18446744073709551616:=by omega
 have hw:=tT p x.bS hp U;obtain⟨d,hd⟩:=xe (aK x p);rw[show(p+18446744073709551616-x.bS)%18446744073709551616=d from hd.symm] at hw;have a2:d<18446744073709551616:=by rw[hd];exact Nat.mod_lt _ (by decide)
 obtain⟨g,hg⟩:=xe (d/4096);have a5:(d:Int)/4096=(g:Int):=by omega
 have a7:g<4503599627370496:=by omega
 rw[<-hd,<-hg] at L;obtain⟨q,hq⟩:=xe (cL t.m (g:Int));obtain⟨r,hr⟩:=xe (aD t.m.n (g:Int));rw[<-hq] at L;have MP:=aA (fun W' (k:Kt nO W W')=>bR (H.dk k).po.pl);have HA:=aA (show ∀ W',Kt nO W W'->Calls prog 45 #[.pointer (some ⟨x.m,0,none⟩),.int .i64 g] W' fun e b=>e=.returned (.tuple #[cA q,.bool r])/\Kt nO W' b from fun W' k=>by rw[hr,hq];exact jB x.m x.B t.m (g:Int) W' (H.dk k).po.pl.bd.mp)
 have AD:=aA (fun n (hn:n<=1024) W' (k:Kt nO W W')=>tW (H.dk k) n hn);have CB:=aA (fun W' (k:Kt nO W W')=>(H.dk k).c);clear H n4 hd a2 hg hq hr U;go_enter func111,ntmps111;go_wp2_with fail;refine(MP.o _ P.o).mono ?_;rintro e w1 ⟨rfl,h1⟩;subst h1;go_wp2_with fail;refine(HA.o _ P.o).mono ?_;rintro e f ⟨rfl,v⟩;have i:=aA (nT P.o (v.alloc (aO q)));have X7:=aA (nH f (aO q));have X4:=aA (show(f.alloc (aO q)).heap[W.heap.size]?=some (bY 0 0)from((v.alloc (aO q)).block _ (lH X0.o) id).trans X0.o);have a4:f.heap.size≠W.heap.size:=by have h1:=v.size;rw[World.size_alloc] at h1;omega
 clear v P X0 c0 c2 c3 c4 c5 c6 hw;obtain⟨c0,c2,c3,c4,c5,c6⟩:=CB.o _ i.o;have a3:hb≠W.heap.size:=by obtain⟨k0,_⟩:=CB.o _ (Kt.refl _ _);exact Nat.ne_of_lt (oV k0)
 obtain⟨z0,z1,zf⟩:=fQ X4.o;have C:=aA (fun W' (Q:Kt nO (f.alloc (aO q)) W')=>And.intro (CB.o _ (nT i.o Q)).2.2.2.2.1 (And.intro (CB.o _ (nT i.o Q)).2.2.2.2.2 (iR ((Q.block _ (lH X7.o) id).trans X7.o))));have N:=aA (fun W' (Q:Kt nO (f.alloc (aO q)) W')=>fQ ((Q.block _ (lH X4.o) id).trans X4.o));have A:=aA ((kz (f.alloc (aO q))).drew);have J:=aA (nT i.o A.o);obtain⟨f5,f6,x0,x1,x2,x3,x4,x5,x6,x7,x8,x9,T⟩:=C.o _ (Kt.refl _ _);clear c0 c2 c3 c4 c5 c6
 cases L.o with
 | none hq G=>
  have E:=aA G;have D:=aA (pP i.o (y:=W.heap.size) (fun e=>absurd e (de _)) (.int .u64 0) (.int .u64 0));have q2:(q.kd == 2)=false:=by rw[ag];omega
  have q3:(q.kd == 3)=false:=by rw[ag];omega
  have q4:(q.kd == 4)=false:=by rw[ag];omega
  clear L G hq C N A J;go_wp2_with fail;exact⟨rfl,.tuple #[jJ 0 0,.bool false],by simp[results,results111,go_sem,z0,z1],0,0,false,rfl,E.o,D.o⟩
 | big a k v hq ho ha hh G=>
  have E:=aA G;have HH:=aA hh;have RN:=aA (fun W'=>AI k v q ho W');have AA:=aA (AD.o a ha);obtain⟨m,hm⟩:=xe (x.bS+4096*a);obtain⟨z,hz⟩:=xe (4096*2 ^ k);rw[<-hm] at AA E;rw[<-hz] at RN E;have HQ:=aA hq;clear L G hq hh AD hm hz v ho ha;rcases HQ.o with hq|hq
  all_goals
   first
   | (have q2:(q.kd == 2)=true:=by rw[cu];exact hq)
   |(
    have q2:(q.kd == 2)=false:=(by rw[ag];omega);have q3:(q.kd == 3)=true:=by rw[cu];exact hq)
   clear hq;go_wp2_with fail;obtain⟨d5,d6,y0,y1,y2,y3,y4,y5,y6,y7,y8,y9,a0⟩:=C.o _ A.o;go_region_held3 (fun b=>b.cell? ⟨hb,5,none⟩=some (.pointer (some ⟨lw,0,none⟩))/\b.cell? ⟨hb,6,none⟩=some (.pointer (some ⟨sb,0,none⟩))/\b.cell? ⟨f.heap.size,0,none⟩=some (.int .i64 q.kd)/\b.cell? ⟨f.heap.size,1,none⟩=some (.int .i64 q.od)/\b.cell? ⟨f.heap.size,2,none⟩=some (.int .i64 q.cl)/\b.cell? ⟨f.heap.size,3,none⟩=some (.int .i64 q.lv)/\b.cell? ⟨f.heap.size,4,none⟩=some (.int .i64 q.nx)/\b.cell? ⟨f.heap.size,5,none⟩=some (.int .i64 q.pv)/\b.cell? ⟨f.heap.size,6,none⟩=some (.int .i64 q.fs)/\b.cell? ⟨f.heap.size,7,none⟩=some (.int .u64 q.b0)/\b.cell? ⟨f.heap.size,8,none⟩=some (.int .u64 q.b1)/\b.cell? ⟨f.heap.size,9,none⟩=some (.int .u64 q.b2)/\b.cell? ⟨f.heap.size,10,none⟩=some (.int .u64 q.b3)) ((refine⟨?_,?_,?_,?_,?_,?_,?_,?_,?_,?_,?_,?_,?_⟩ <;> first|with_reducible assumption|with_reducible exact JJ (by with_reducible assumption) (by with_reducible assumption) _ _)) (first
    | (go_at_call 38;(first | with_reducible refine(MP.o _ J.o).mono ?_ | with_reducible refine(MP.o _ R.o).mono ?_);rintro e w5 ⟨rfl,h⟩;replace h:=h.symm;subst h)
    | (go_at_call 163;(first | with_reducible refine(HH.o _ J.o).mono ?_ | with_reducible refine(HH.o _ R.o).mono ?_);rintro e w5 ⟨rfl,h⟩;replace h:=h.symm;subst h)
    | (go_at_call 46;(first | with_reducible refine(AA.o _ J.o).mono ?_ | with_reducible refine(AA.o _ R.o).mono ?_);rintro e w5 ⟨rfl,h⟩;replace h:=h.symm;subst h)
    | (go_at_call 47;(with_reducible refine(RN.o _).mono ?_);rintro e w4 ⟨rfl,j⟩;have K:=aA (nT A.o j);have R:=aA (nT i.o K.o);obtain⟨V,Z,v0,v1,v2,v3,v4,v5,v6,v7,v8,v9,v10⟩:=C.o _ K.o;obtain⟨u0,u1,Y⟩:=N.o _ K.o;clear j)
    | fail)
   all_goals
    have D:=aA (pP R.o (y:=W.heap.size) (fun e=>absurd e (de _)) (.int .u64 m) (.int .u64 z));go_wp2_with fail;exact⟨rfl,.tuple #[jJ m z,.bool true],by simp[results,results111,go_sem,u0,u1],m,z,true,rfl,E.o,D.o⟩
 | cell a k zz l v hq hc ha hd hs a6 G=>
  have E:=aA G;have SZ:=aA hs;have X:=aA (fun W'=>BW k v q hc W');have a1:=cM v;have DN:=aA (fun W'=>WX p (aB k) hp (by omega) W');rw[hd,wT] at DN;obtain⟨z,hz⟩:=xe (aB k);rw[<-hz] at X DN E;have q2:(q.kd == 2)=false:=by rw[ag];omega
  have q3:(q.kd == 3)=false:=by rw[ag];omega
  have q4:(q.kd == 4)=true:=by rw[cu];exact hq
  clear L G hq hs AD hz v hc hd a1;go_wp2_with fail;refine(X.o _).mono ?_;rintro e w4 ⟨rfl,j⟩;have K:=aA j;have R:=aA (nT i.o K.o);clear j f5 f6 x0 x1 x2 x3 x4 x5 x6 x7 x8 x9 T A J;obtain⟨f5,f6,x0,x1,x2,x3,x4,x5,x6,x7,x8,x9,T⟩:=C.o _ K.o;go_wp2_with fail;refine(DN.o _).mono ?_;rintro e w5 ⟨rfl,h⟩;replace h:=h.symm;subst h;go_wp2_with fail;have A:=aA (nT K.o (kz w4).drew);have J:=aA (nT i.o A.o);obtain⟨d5,d6,y0,y1,y2,y3,y4,y5,y6,y7,y8,y9,a0⟩:=C.o _ A.o;go_region_held3 (fun b=>b.cell? ⟨hb,5,none⟩=some (.pointer (some ⟨lw,0,none⟩))/\b.cell? ⟨hb,6,none⟩=some (.pointer (some ⟨sb,0,none⟩))/\b.cell? ⟨f.heap.size,0,none⟩=some (.int .i64 q.kd)/\b.cell? ⟨f.heap.size,1,none⟩=some (.int .i64 q.od)/\b.cell? ⟨f.heap.size,2,none⟩=some (.int .i64 q.cl)/\b.cell? ⟨f.heap.size,3,none⟩=some (.int .i64 q.lv)/\b.cell? ⟨f.heap.size,4,none⟩=some (.int .i64 q.nx)/\b.cell? ⟨f.heap.size,5,none⟩=some (.int .i64 q.pv)/\b.cell? ⟨f.heap.size,6,none⟩=some (.int .i64 q.fs)/\b.cell? ⟨f.heap.size,7,none⟩=some (.int .u64 q.b0)/\b.cell? ⟨f.heap.size,8,none⟩=some (.int .u64 q.b1)/\b.cell? ⟨f.heap.size,9,none⟩=some (.int .u64 q.b2)/\b.cell? ⟨f.heap.size,10,none⟩=some (.int .u64 q.b3)) ((refine⟨?_,?_,?_,?_,?_,?_,?_,?_,?_,?_,?_,?_,?_⟩ <;> first|with_reducible assumption|with_reducible exact JJ (by with_reducible assumption) (by with_reducible assumption) _ _)) (first
   |(
    go_at_call 96;first
     | ((with_reducible refine(SZ.o _ J.o).mono ?_);rintro e w6 ⟨rfl,o⟩;have I:=aA (nT A.o o);have D6:=aA (nT i.o I.o);obtain⟨V,Z,v0,v1,v2,v3,v4,v5,v6,v7,v8,v9,v10⟩:=C.o _ I.o;obtain⟨u0,u1,Y⟩:=N.o _ I.o;clear o)
     | ((with_reducible refine(SZ.o _ D7.o).mono ?_);rintro e w6 ⟨rfl,o⟩;have I:=aA (nT F.o o);have D6:=aA (nT i.o I.o);obtain⟨V,Z,v0,v1,v2,v3,v4,v5,v6,v7,v8,v9,v10⟩:=C.o _ I.o;obtain⟨u0,u1,Y⟩:=N.o _ I.o;clear o))
   |(
    go_at_call 95;first
     | ((with_reducible refine(X.o w6).mono ?_);rintro e w7 ⟨rfl,u⟩;have F:=aA (nT I.o u);have D7:=aA (nT i.o F.o);obtain⟨V,Z,v0,v1,v2,v3,v4,v5,v6,v7,v8,v9,v10⟩:=C.o _ F.o;obtain⟨u0,u1,Y⟩:=N.o _ F.o;clear u)
     | ((with_reducible refine(X.o _).mono ?_);rintro e w7 ⟨rfl,u⟩;have F:=aA (nT A.o u);have D7:=aA (nT i.o F.o);obtain⟨V,Z,v0,v1,v2,v3,v4,v5,v6,v7,v8,v9,v10⟩:=C.o _ F.o;obtain⟨u0,u1,Y⟩:=N.o _ F.o;clear u))
   | fail)
  all_goals
   first
   |(
    have D:=aA (pP D7.o (y:=W.heap.size) (fun e=>absurd e (de _)) (.int .u64 a) (.int .u64 z));go_wp2_with fail;exact⟨rfl,.tuple #[jJ a z,.bool l],by simp[results,results111,go_sem,u0,u1],a,z,l,rfl,E.o,D.o⟩)
   |(
    have D:=aA (pP D6.o (y:=W.heap.size) (fun e=>absurd e (de _)) (.int .u64 a) (.int .u64 z));go_wp2_with fail;exact⟨rfl,.tuple #[jJ a z,.bool l],by simp[results,results111,go_sem,u0,u1],a,z,l,rfl,E.o,D.o⟩)
end
end Go.Proofs.YtfmgnljlkdmndaaGreatDoor
