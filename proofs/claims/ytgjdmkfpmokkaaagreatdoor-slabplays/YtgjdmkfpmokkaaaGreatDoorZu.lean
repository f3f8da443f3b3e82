import Derived.Test.YtgjdmkfpmokkaaaGreatDoorZt
set_option maxRecDepth 1000000
set_option maxHeartbeats 80000000
namespace Go.Proofs.YtgjdmkfpmokkaaaGreatDoor
open Go.RowKit
set_option linter.unusedVariables false
structure AL(al:List Cl)(c:Nat→Option Nat)(fl:Nat→List Nat):Prop where
 nd:(al.map Cl.pg).Nodup
 ok:∀ a∈al,c a.pg=some a.cl∧fl a.pg=a.fl
 all:∀ p k,c p=some k→p∈al.map Cl.pg
theorem AL.nil:AL [] (fun _=>none) (fun _=>[]):=⟨List.nodup_nil,fun a h=>absurd h (List.not_mem_nil),fun p k h=>by cases h⟩
theorem zbH{al:List Cl}{i:Nat}(h:i<al.length):fnC al i∈al:=by
 unfold fnC;rw[List.getD_eq_getElem?_getD,List.getElem?_eq_getElem h];exact List.getElem_mem h
theorem zdP{R:Nat→Cl}{p:Int}{i:Nat} : ∀ {n},fnd R p n=some i→i<n∧((R i).pg:Int)=p
 | 0,h=>by cases h
 | n+1,h=>by
  rw[fnd] at h
  cases e:fnd R p n with
  | some j=>
   rw[e] at h;have hj:j=i:=(by simpa using h);obtain⟨h1,h2⟩:=zdP e;rw[←hj];exact⟨by omega,h2⟩
  | none=>
   rw[e] at h;by_cases e2:((R n).pg:Int)=p
   ·rw[if_pos e2] at h;have hj:n=i:=(by simpa using h);rw[←hj];exact⟨by omega,e2⟩
   ·rw[if_neg e2] at h
    cases h
theorem AL.find{al c fl}(h:AL al c fl){p k:Nat}(hp:c p=some k):∃ j,j<al.length∧fnd (fnC al) ((p:Nat):Int) al.length=some j∧fnC al j=⟨p,k,fl p⟩:=by
 cases e:fnd (fnC al) ((p:Nat):Int) al.length with
 | none=>
  exfalso
  obtain⟨a,ha,hq⟩:=List.mem_map.1 (h.all p k hp);obtain⟨i,hi,rfl⟩:=List.mem_iff_getElem.1 ha;refine zcO.1 e i hi ?_;unfold fnC;rw[List.getD_eq_getElem?_getD,List.getElem?_eq_getElem hi];exact congrArg _ hq
 | some j=>
  obtain⟨h1,h2⟩:=zdP e;refine⟨j,h1,rfl,?_⟩;have hpg:(fnC al j).pg=p:=by omega
  obtain⟨h3,h4⟩:=h.ok _ (zbH h1);rw[hpg] at h3 h4;have hk:(fnC al j).cl=k:=by
   rw[hp] at h3;exact(Option.some.inj h3).symm
  cases hc:fnC al j with
  | mk a b d=>
   rw[hc] at hpg hk h4;simp only at hpg hk h4
   rw[hpg,hk,←h4]
theorem AL.none_of{al c fl}(h:AL al c fl){p:Nat}(hp:c p=none):fnd (fnC al) ((p:Nat):Int) al.length=none∧p ∉ al.map Cl.pg:=by
 have h1:p ∉ al.map Cl.pg:=fun e=>by
  obtain⟨a,ha,rfl⟩:=List.mem_map.1 e;rw[(h.ok a ha).1] at hp
  cases hp
 refine⟨zcO.2 fun i hi e=>h1 ?_,h1⟩;rw[←show(fnC al i).pg=p by omega];exact List.mem_map.2 ⟨_,zbH hi,rfl⟩
theorem AL.some_of{al c fl}(h:AL al c fl){p:Int}{j:Nat}(hp:fnd (fnC al) p al.length=some j):∃ g:Nat,p=(g:Int)∧c g=some (fnC al j).cl∧fl g=(fnC al j).fl∧(fnC al j).pg=g∧j<al.length:=by
 obtain⟨h1,h2⟩:=zdP hp;obtain⟨h3,h4⟩:=h.ok _ (zbH h1);exact⟨_,h2.symm,h3,h4,rfl,h1⟩
theorem zcz(x:Cl):∀ al:List Cl,putA x false al=al.map fun c=>if c.pg=x.pg then x else c
 | []=>rfl
 | c :: l=>by
  have ih:=zcz x l;unfold putA at ih ⊢;rw[List.flatMap_cons,ih,List.map_cons];unfold ptS;by_cases e:c.pg=x.pg <;> simp[e]
theorem zlG{x:Cl}{al:List Cl}(h:x.pg∈al.map Cl.pg):putL x false al=al.map fun c=>if c.pg=x.pg then x else c:=by
 have h1:fdB x false al=true:=by
  obtain⟨a,ha,hq⟩:=List.mem_map.1 h;unfold fdB;simp only[Bool.not_false,Bool.true_and,List.any_eq_true,decide_eq_true_eq];exact⟨a,ha,hq⟩
 unfold putL;rw[h1,zcz];simp
theorem zgm{x:Cl}{al:List Cl}(h:x.pg ∉ al.map Cl.pg):putL x false al=al ++ [x]:=by
 have h1:fdB x false al=false:=by
  unfold fdB;simp only[Bool.not_false,Bool.true_and];rw[Bool.eq_false_iff];intro e;rw[List.any_eq_true] at e;obtain⟨a,ha,hq⟩:=e;exact h (List.mem_map.2 ⟨a,ha,of_decide_eq_true hq⟩)
 unfold putL;rw[h1,zcz];have h2:(al.map fun c=>if c.pg=x.pg then x else c)=al:=by
  conv=>rhs;rw[←List.map_id al]
  refine List.map_congr_left fun a ha=>?_
  rw[if_neg (fun e=>h (List.mem_map.2 ⟨a,ha,e⟩))];rfl
 rw[h2];simp
theorem zka(x:Cl)(al:List Cl):putL x true al=al.filter fun c=>decide (c.pg≠x.pg):=by
 unfold putL;have h:∀ l:List Cl,putA x true l=l.filter fun c=>decide (c.pg≠x.pg):=fun l=>by
  induction l with
  | nil=>rfl
  | cons c l ih=>
   unfold putA at ih ⊢;rw[List.flatMap_cons,ih];unfold ptS;by_cases e:c.pg=x.pg <;> simp[e]
 rw[h];simp
theorem AL.put{al c fl}(h:AL al c fl){p k:Nat}(hp:c p=some k)(l:List Nat):AL (putL ⟨p,k,l⟩ false al) c (updF fl p l)∧(putL ⟨p,k,l⟩ false al).length=al.length:=by
 have hm:=h.all p k hp;rw[zlG (x:=⟨p,k,l⟩) hm];refine⟨⟨?_,fun a ha=>?_,fun q j hq=>?_⟩,List.length_map ..⟩
 ·rw[List.map_map];have:(al.map (Cl.pg ∘ fun c=>if c.pg=p then (⟨p,k,l⟩:Cl) else c))=al.map Cl.pg:=List.map_congr_left fun a ha=>by
   show(if a.pg=p then (⟨p,k,l⟩:Cl) else a).pg=a.pg
   by_cases e:a.pg=p
   ·rw[if_pos e];exact e.symm
   ·rw[if_neg e]
  rw[this];exact h.nd
 ·obtain⟨b,hb,rfl⟩:=List.mem_map.1 ha;by_cases e:b.pg=p
  ·rw[if_pos e];exact⟨hp,uFs ..⟩
  ·rw[if_neg e];exact⟨(h.ok b hb).1,by rw[uFn _ _ e];exact(h.ok b hb).2⟩
 ·obtain⟨b,hb,rfl⟩:=List.mem_map.1 (h.all q j hq);refine List.mem_map.2 ⟨_,List.mem_map.2 ⟨b,hb,rfl⟩,?_⟩;by_cases e:b.pg=p
  ·simp only[e,if_true]
  ·simp only[e,if_false]
theorem AL.add{al c fl}(h:AL al c fl){p:Nat}(hp:c p=none)(k:Nat)(l:List Nat):AL (putL ⟨p,k,l⟩ false al) (updF c p (some k)) (updF fl p l)∧(putL ⟨p,k,l⟩ false al).length=al.length+1:=by
 have hm:=(h.none_of hp).2;rw[zgm (x:=⟨p,k,l⟩) hm];refine⟨⟨?_,fun a ha=>?_,fun q j hq=>?_⟩,by simp⟩
 ·rw[List.map_append,List.nodup_append];refine⟨h.nd,by simp,fun a ha b hb e=>?_⟩;have hb:b=p:=by simpa using hb
  exact hm (by rw[←hb,←e];exact ha)
 ·rcases List.mem_append.1 ha with ha|ha
  ·have e:a.pg≠p:=fun e=>hm (List.mem_map.2 ⟨a,ha,e⟩)
   exact⟨by rw[uFn _ _ e];exact(h.ok a ha).1,by rw[uFn _ _ e];exact(h.ok a ha).2⟩
  ·have ha:a=⟨p,k,l⟩:=(by simpa using ha);rw[ha];exact⟨uFs ..,uFs ..⟩
 ·rw[List.map_append];by_cases e:q=p
  ·exact List.mem_append.2 (.inr (by simp[e]))
  ·rw[uFn _ _ e] at hq;exact List.mem_append.2 (.inl (h.all q j hq))
theorem AL.del{al c fl}(h:AL al c fl)(x:Cl):AL (putL x true al) (updF c x.pg none) fl∧(putL x true al).length≤al.length:=by
 rw[zka];refine⟨⟨?_,fun a ha=>?_,fun q j hq=>?_⟩,List.length_filter_le _ _⟩
 ·exact h.nd.sublist ((List.filter_sublist).map _)
 ·obtain⟨h1,h2⟩:=List.mem_filter.1 ha;have e:a.pg≠x.pg:=of_decide_eq_true h2;exact⟨by rw[uFn _ _ e];exact(h.ok a h1).1,(h.ok a h1).2⟩
 ·by_cases e:q=x.pg
  ·rw[e,uFs] at hq
   cases hq
  ·rw[uFn _ _ e] at hq;obtain⟨b,hb,rfl⟩:=List.mem_map.1 (h.all q j hq);exact List.mem_map.2 ⟨b,List.mem_filter.2 ⟨hb,decide_eq_true e⟩,rfl⟩
inductive CellQ(b P:Nat)(al:List Cl)(p:Nat):Int→Nat→Prop where
 | low (h:p<b):CellQ b P al p (-1) 0
 | high (h:b≤p) (h2 : 4096*P≤p-b):CellQ b P al p (-1) 0
 | none (h:b≤p) (h2:p-b<4096*P) (h3:fnd (fnC al) (((p-b)/4096:Nat):Int) al.length=none):CellQ b P al p (-1) 0
 | off (i:Nat) (h:b≤p) (h2:p-b<4096*P) (h3:fnd (fnC al) (((p-b)/4096:Nat):Int) al.length=some i) (h4:(p-b)%4096%(16*2 ^ (fnC al i).cl)≠0):CellQ b P al p (-1) 0
 | free (i:Nat) (h:b≤p) (h2:p-b<4096*P) (h3:fnd (fnC al) (((p-b)/4096:Nat):Int) al.length=some i) (h4:(p-b)%4096%(16*2 ^ (fnC al i).cl)=0) (h5:(p-b)%4096/(16*2 ^ (fnC al i).cl)∈(fnC al i).fl):CellQ b P al p (-1) 0
 | yes (i:Nat) (h:b≤p) (h2:p-b<4096*P) (h3:fnd (fnC al) (((p-b)/4096:Nat):Int) al.length=some i) (h4:(p-b)%4096%(16*2 ^ (fnC al i).cl)=0) (h5:(p-b)%4096/(16*2 ^ (fnC al i).cl) ∉ (fnC al i).fl):CellQ b P al p (i:Int) ((p-b)%4096/(16*2 ^ (fnC al i).cl))
theorem SO.cellq{w W sb lw x t fr ls S h al}(o:SO w W sb lw x t fr ls S h)(a:AL al S.c S.fl)(p:Nat)(hp:p<18446744073709551616):
  (∃ g k i j,Liv x S p g k i∧CellQ x.base t.m.n al p (j:Nat) i∧j<al.length∧fnC al j=⟨g,k,S.fl g⟩)∨(livS x t p=false∧CellQ x.base t.m.n al p (-1) 0):=by
 cases hl:livS x t p with
 | true=>
  refine .inl ?_;obtain⟨g,k,i,hL⟩:=o.liv_of hp hl;obtain⟨h1,h2,h3,h4⟩:=hL;obtain⟨j,hj,hf,hr⟩:=a.find h1;obtain⟨hk,_⟩:=o.si.pg g k h1;obtain⟨m1,m2,m3,m4⟩:=o.mem h1;obtain⟨c1,c2,c3⟩:=zaI hk;have hsz:szC k=16*2 ^ k:=rfl;have hz : 0<szC k:=by rw[hsz];exact Nat.mul_pos (by decide) (Nat.pow_pos (by decide))
  have hle:i*szC k+szC k≤4096:=by
   rw[←c1,←Nat.succ_mul];exact Nat.mul_le_mul_right _ h2
  have e0:p-x.base=4096*g+i*szC k:=by rw[h4];unfold caN;omega
  have e1:(p-x.base)/4096=g:=by rw[e0];omega
  have e2:(p-x.base)%4096=i*szC k:=by rw[e0];omega
  have e3:(fnC al j).cl=k:=by rw[hr]
  have e4:(fnC al j).fl=S.fl g:=by rw[hr]
  have hb:x.base≤p:=by rw[h4];unfold caN;omega
  have hlt:p-x.base<4096*t.m.n:=by rw[e0];omega
  have q4:(p-x.base)%4096%(16*2 ^ (fnC al j).cl)=0:=by rw[e3,e2,←hsz];exact Nat.mul_mod_left _ _
  have q5:(p-x.base)%4096/(16*2 ^ (fnC al j).cl)=i:=by rw[e3,e2,←hsz];exact Nat.mul_div_cancel _ hz
  have hc:=CellQ.yes (al:=al) j hb hlt (by rw[e1];exact hf) q4 (by rw[q5,e4];exact h3);rw[q5] at hc;exact⟨g,k,i,j,⟨h1,h2,h3,h4⟩,hc,hj,hr⟩
 | false=>
  refine .inr ⟨rfl,?_⟩;by_cases h1:p<x.base
  ·exact .low h1
  by_cases h2 : 4096*t.m.n≤p-x.base
  ·exact .high (by omega) h2
  cases h3:fnd (fnC al) (((p-x.base)/4096:Nat):Int) al.length with
  | none=>exact .none (by omega) (by omega) h3
  | some i=>
   by_cases h4:(p-x.base)%4096%(16*2 ^ (fnC al i).cl)=0
   ·by_cases h5:(p-x.base)%4096/(16*2 ^ (fnC al i).cl)∈(fnC al i).fl
    ·exact .free i (by omega) (by omega) h3 h4 h5
    ·exfalso
     obtain⟨g,hg,h6,h7,h8,h9⟩:=a.some_of h3;have hg:(p-x.base)/4096=g:=(by omega);obtain⟨hk,_⟩:=o.si.pg g _ h6;obtain⟨c1,c2,c3⟩:=zaI hk;have hsz:szC (fnC al i).cl=16*2 ^ (fnC al i).cl:=rfl;rw[←hsz] at h4 h5;generalize hn:(p-x.base)%4096/szC (fnC al i).cl=n at h5;generalize (fnC al i).cl=k at *;have hz : 0<szC k:=(by unfold szC;exact Nat.mul_pos (by decide) (Nat.pow_pos (by decide)));have e1:(p-x.base)%4096=n*szC k:=by
      rw[←hn,Nat.mul_comm];have:=Nat.div_add_mod ((p-x.base)%4096) (szC k);omega
     have hlt:n<ncl k:=by
      rcases Nat.lt_or_ge n (ncl k)with e|e
      ·exact e
      ·have h10:ncl k*szC k≤n*szC k:=Nat.mul_le_mul_right _ e;have:=Nat.mod_lt (p-x.base) (show 0<4096 by decide);omega
     have hL:Liv x S p g k n:=⟨h6,hlt,by rw[h7];exact h5,by unfold caN;omega⟩;have:=(o.of_liv hL).1;rw[hl] at this
     cases this
   ·exact .off i (by omega) (by omega) h3 h4
theorem zkm{p b d:Nat}(hp:p<18446744073709551616)(hb:b≤p)(hd:d=p-b):IntKind.u64.wrap ((p:Int)-(b:Int))=(d:Int):=by
 rw[wrap_u64];omega
theorem zbI{k:Nat}(h:k<8) : 16≤16*2 ^ k∧16*2 ^ k≤2048:=by
 have h1 : 2 ^ k≤2 ^ 7:=Nat.pow_le_pow_right (by decide) (by omega);have h2:=Nat.two_pow_pos k;omega
theorem zkn(b:Nat)(hb:b≤9223372036854775808)(lm oo po:Int)(P:Nat)(hP:P≤1024)(fv lv:Value)(ca:Option Addr)(cc:Nat)(qv:Value)(al:List Cl)(hn:al.length≤1024)(hc:∀ i,i<al.length→(fnC al i).cl<8∧(fnC al i).fl.length≤256)(p:Nat)(hp:p<18446744073709551616)(z:Int)(c:Nat)(hq:CellQ b P al p z c)(w:World)(h:CR w (.slice ca al.length cc) al.length (fnC al)):
  Calls Tryz.prog 118 #[s7V b lm oo po (P:Int) fv lv (.slice ca al.length cc) qv,.int .u64 (p:Int)] w fun e w'=>e=.returned (.tuple #[.int .i64 z,.int .i64 (c:Int)])∧Kt nO w w':=by
 obtain⟨n,hn'⟩:=xe (al.length);have K0:=hid ((Kt.refl nO w).alloc (s7O b lm oo po (P:Int) fv lv (.slice ca n cc) qv));have X0:=hid (nH w (s7O b lm oo po (P:Int) fv lv (.slice ca n cc) qv));have C0:=hid (h.keep K0.out);have FN:=hid (fun W (k:Kt nO w W) (q:Int)=>zh6 b lm oo po (P:Int) fv lv ca al.length cc qv (fnC al) (by omega) q W (h.keep k));rw[←hn'] at FN hn C0 ⊢;have HC:=hid hc;have HN:=hid hn';clear h hc hn';by_cases hlo:p<b
 ·have hlt:(p:Int)<(b:Int):=by omega
  have hzc:z = -1∧c=0:=by
   cases hq with
   | low=>exact⟨rfl,rfl⟩
   | high=>exact⟨rfl,rfl⟩
   | none=>exact⟨rfl,rfl⟩
   | off=>exact⟨rfl,rfl⟩
   | free=>exact⟨rfl,rfl⟩
   | yes i h1=>omega
  obtain⟨rfl,rfl⟩:=hzc;clear hq FN HC C0;go_enter Tryz.func118,Tryz.ntmps118;go_upto_region 1 with fail;generalize w.heap.size=y at *;generalize w.alloc (s7O b lm oo po (P:Int) fv lv (.slice ca n cc) qv)=W0 at *;obtain⟨c0,c1,c2,c3,c4,c5,c6,c7,c8,cf⟩:=s7c X0.out;go_wp2_with fail;exact⟨rfl,.tuple #[.int .i64 (-1),.int .i64 0],by simp[results,Tryz.results118,go_sem],rfl,K0.out⟩
 have hlt:¬(p:Int)<(b:Int):=by omega
 obtain⟨d,hd⟩:=xe (p-b);have hw:=zkm hp (by omega) hd;have hdb:d<18446744073709551616:=by omega
 by_cases hhi : 4096*P≤d
 ·have hzc:z = -1∧c=0:=by
   cases hq with
   | low=>exact⟨rfl,rfl⟩
   | high=>exact⟨rfl,rfl⟩
   | none=>exact⟨rfl,rfl⟩
   | off=>exact⟨rfl,rfl⟩
   | free=>exact⟨rfl,rfl⟩
   | yes i h1 h2=>omega
  obtain⟨rfl,rfl⟩:=hzc;have hge:(4096:Int)*(P:Int)≤(d:Int):=by omega
  clear hq FN HC C0 hd hhi;go_enter Tryz.func118,Tryz.ntmps118;go_upto_region 1 with fail;generalize w.heap.size=y at *;generalize w.alloc (s7O b lm oo po (P:Int) fv lv (.slice ca n cc) qv)=W0 at *;obtain⟨c0,c1,c2,c3,c4,c5,c6,c7,c8,cf⟩:=s7c X0.out;go_wp2_with fail;exact⟨rfl,.tuple #[.int .i64 (-1),.int .i64 0],by simp[results,Tryz.results118,go_sem],rfl,K0.out⟩
 have hge:¬(4096:Int)*(P:Int)≤(d:Int):=by omega
 obtain⟨g,hg⟩:=xe (d/4096);obtain⟨f,hf⟩:=xe (d%4096);have hgi:(d:Int)/4096=(g:Int):=by omega
 have hfi:(d:Int)%4096=(f:Int):=by omega
 have hgb:g≤1024:=by omega
 have hfb:f<4096:=by omega
 have FG:=hid (FN.out _ K0.out (g:Int));clear FN
 cases hfd:fnd (fnC al) (g:Int) n with
 | none=>
  have hzc:z = -1∧c=0:=by
   rw[hg,hd,HN.out] at hfd
   cases hq with
   | low=>exact⟨rfl,rfl⟩
   | high=>exact⟨rfl,rfl⟩
   | none=>exact⟨rfl,rfl⟩
   | off=>exact⟨rfl,rfl⟩
   | free=>exact⟨rfl,rfl⟩
   | yes i h1 h2 h3=>rw[h3] at hfd;cases hfd
  obtain⟨rfl,rfl⟩:=hzc;rw[hfd] at FG;clear hq HC C0 hd hhi hg hf hfd;have hm1:(fndI none:Int) = -1:=rfl;rw[hm1] at FG;clear hm1;go_enter Tryz.func118,Tryz.ntmps118;go_upto_region 1 with fail;generalize w.heap.size=y at *;generalize w.alloc (s7O b lm oo po (P:Int) fv lv (.slice ca n cc) qv)=W0 at *;obtain⟨c0,c1,c2,c3,c4,c5,c6,c7,c8,cf⟩:=s7c X0.out;go_wp2_with fail;refine FG.out.mono ?_;rintro e w1 ⟨rfl,hk1⟩;have D:=hid (nT K0.out hk1);clear hk1;go_wp2_with fail;exact⟨rfl,.tuple #[.int .i64 (-1),.int .i64 0],by simp[results,Tryz.results118,go_sem],rfl,D.out⟩
 | some i=>
  rw[hfd] at FG;have hm1:(fndI (some i):Int)=(i:Int):=rfl;rw[hm1] at FG;clear hm1;have hi:=(zdP hfd).1;obtain⟨hk8,hl256⟩:=HC.out i (by rw[←HN.out];exact hi);obtain⟨xp,xk,xf,hx⟩:∃ xp xk xf,fnC al i=⟨xp,xk,xf⟩:=⟨_,_,_,rfl⟩;rw[hx] at hk8 hl256;simp only at hk8 hl256
  obtain⟨wd,hwd⟩:=xe (16*2 ^ xk);have hwb:=zbI hk8;rw[←hwd] at hwb;obtain⟨q,hqd⟩:=xe (f/wd);obtain⟨m,hmd⟩:=xe (f%wd);have hmi:(f:Int).tmod (wd:Int)=(m:Int):=by
   rw[Int.tmod_eq_emod_of_nonneg (by omega),hmd];simp
  have hqi:(f:Int).tdiv (wd:Int)=(q:Int):=by
   rw[Int.tdiv_eq_ediv_of_nonneg (by omega),hqd];simp
  have hqb:q≤256:=by
   rw[hqd];refine Nat.le_trans (Nat.div_le_div_left hwb.1 (by decide)) ?_;omega
  have hmb0:m<4096:=by
   rw[hmd];have:=Nat.mod_lt f (show 0<wd by omega);omega
  have hans:(m≠0→z = -1∧c=0)∧(m=0→q∈xf→z = -1∧c=0)∧(m=0→q ∉ xf→z=(i:Int)∧c=q):=by
   rw[hg,hd,HN.out] at hfd;have e1:(p-b)%4096=f:=by rw[hf,hd]
   cases hq with
   | low h=>omega
   | high h h2=>omega
   | none h h2 h3=>rw[h3] at hfd;cases hfd
   | off j h h2 h3 h4=>
    rw[h3] at hfd;injection hfd with hfd
    subst hfd;rw[hx,e1,←hwd,←hmd] at h4;exact⟨fun _=>⟨rfl,rfl⟩,fun e=>absurd e h4,fun e=>absurd e h4⟩
   | free j h h2 h3 h4 h5=>
    rw[h3] at hfd;injection hfd with hfd
    subst hfd;rw[hx,e1,←hwd,←hmd] at h4;rw[hx,e1,←hwd,←hqd] at h5;exact⟨fun e=>absurd h4 e,fun _ _=>⟨rfl,rfl⟩,fun _ e=>absurd h5 e⟩
   | yes j h h2 h3 h4 h5=>
    rw[h3] at hfd;injection hfd with hfd
    subst hfd;rw[hx,e1,←hwd,←hmd] at h4;rw[hx,e1,←hwd,←hqd] at h5;refine⟨fun e=>absurd h4 e,fun _ e=>absurd e h5,fun _ _=>⟨rfl,?_⟩⟩;rw[hx,e1,←hwd,←hqd]
  have HA:=hid hans;have HQD:=hid (show m=0→f=q*wd from fun e=>by
   have h1:=Nat.div_add_mod f wd;rw[←hqd,←hmd,e,Nat.mul_comm] at h1;omega)
  have WD:=hid (fun W=>zcG xk hk8 W);rw[←hwd] at WD;have HX:=hid hx;clear hq HC hd hhi hg hf hfd hans hwd hqd hmd hx;have hin:(i:Int)<(n:Int):=by omega
  go_enter Tryz.func118,Tryz.ntmps118;go_upto_region 1 with fail;generalize hy:w.heap.size=y at *;generalize w.alloc (s7O b lm oo po (P:Int) fv lv (.slice ca n cc) qv)=W0 at *;obtain⟨c0,c1,c2,c3,c4,c5,c6,c7,c8,cf⟩:=s7c X0.out;go_wp2_with fail;refine FG.out.mono ?_;rintro e w1 ⟨rfl,hk1⟩;have K1:=hid (nT K0.out hk1);have X1:=hid (s7b X0.out hk1);have C1:=hid (C0.out.keep hk1);clear hk1 c0 c1 c2 c3 c4 c5 c6 c7 c8 cf FG C0;obtain⟨c0,c1,c2,c3,c4,c5,c6,c7,c8,cf⟩:=s7c X1.out;obtain⟨gc,xa,xc,hva,r0,r1,r2,rn⟩:=C1.out.get i hi;subst hva;rw[HX.out] at r0 r1 r2 rn;obtain⟨L,hL⟩:=xe (xf.length);simp only[←hL] at r0 r1 r2 rn hl256;have RN:=hid rn;have HL:=hid hL;clear rn hL C1;have hi0:¬(i:Int)<0:=by omega
  have hi0d:decide ((i:Int)<0)=false:=decide_eq_false hi0;have hin2:(i:Int)<(n:Int):=by omega
  go_upto_region 7 with fail;have ka:=(Kt.refl nO w1).alloc (clO xp xk (.slice xa L xc));have K2:=hid (nT K1.out ka);have X2:=hid (s7b X1.out ka);have Y2:=hid (nH w1 (clO xp xk (.slice xa L xc)));have N2:=hid (RN.out.keep ka);clear ka c0 c1 c2 c3 c4 c5 c6 c7 c8 cf r0 r1 r2 RN;generalize w1.heap.size=y2 at *;generalize w1.alloc (clO xp xk (.slice xa L xc))=w2 at *;have FR:=hid (fun W (k:Kt nO w2 W)=>zme xp xk xa xc xf (by rw[←HL.out];omega) q W (by rw[←HL.out];exact N2.out.keep k));rw[←HL.out] at FR;have KD:=hid ((Kt.refl nO w2).drew);obtain⟨d0,d1,d2⟩:=clc (s7b Y2.out KD.out);obtain⟨c0,c1,c2,c3,c4,c5,c6,c7,c8,cf⟩:=s7c X2.out;have hge2:¬(4096:Int)*(P:Int)≤(d:Int):=by omega
  go_upto_region 8 with fail;clear c0 c1 c2 c3 c4 c5 c6 c7 c8 cf;have hwd0:¬(wd:Int)=0:=by omega
  have hwd1:((wd:Int) == 0)=false:=by rw[beq_eq_false_iff_ne];exact hwd0
  have hwd2:¬wd=0:=by omega
  have hwd3:decide ((wd:Int)=0)=false:=decide_eq_false hwd0;have hmw:IntKind.i64.wrap (m:Int)=(m:Int):=by rw[IntKind.wrap_i64];omega
  have hqw:IntKind.i64.wrap (q:Int)=(q:Int):=by rw[IntKind.wrap_i64];omega
  by_cases hm0:m=0
  ·have hfq:=HQD.out hm0;have HM0:=hid hm0;clear hm0 hmi hmw hqi HQD hfi;subst hfq;have hqi:((q:Int)*(wd:Int)).tdiv (wd:Int)=(q:Int):=Int.mul_tdiv_cancel _ hwd0;by_cases hqf:q∈xf
   ·obtain⟨rfl,rfl⟩:=HA.out.2.1 HM0.out hqf;rw[decide_eq_true hqf] at FR;clear HA hqf;go_wp2_with fail;go_region_held3 (fun w'=>w'.cell? ⟨y2,0,none⟩=some (.int .i64 (xp:Int))∧w'.cell? ⟨y2,1,none⟩=some (.int .i64 (xk:Int))∧w'.cell? ⟨y2,2,none⟩=some (.slice xa L xc)) ((refine⟨?_,?_,?_⟩ <;> with_reducible assumption)) (first
     | (go_at_call 51;(with_reducible refine(WD.out _).mono ?_);rintro e w3 ⟨rfl,h3⟩;replace h3:=h3.symm;subst h3)
     | (go_at_call 125;(with_reducible refine(FR.out _ KD.out).mono ?_);rintro e w3 ⟨rfl,hk3⟩;have K3:=hid (nT KD.out hk3);obtain⟨e0,e1,e2⟩:=clc (s7b Y2.out K3.out);clear hk3)
     | fail)
    all_goals
     have D:=hid (nT K2.out K3.out);go_wp2_with fail;exact⟨rfl,.tuple #[.int .i64 (-1),.int .i64 0],by simp[results,Tryz.results118,go_sem],rfl,D.out⟩
   ·obtain⟨hz',hc'⟩:=HA.out.2.2 HM0.out hqf;subst hz';replace hc':=hc'.symm;subst hc';rw[decide_eq_false hqf] at FR;clear HA hqf;go_wp2_with fail;go_region_held3 (fun w'=>w'.cell? ⟨y2,0,none⟩=some (.int .i64 (xp:Int))∧w'.cell? ⟨y2,1,none⟩=some (.int .i64 (xk:Int))∧w'.cell? ⟨y2,2,none⟩=some (.slice xa L xc)) ((refine⟨?_,?_,?_⟩ <;> with_reducible assumption)) (first
     | (go_at_call 51;(with_reducible refine(WD.out _).mono ?_);rintro e w3 ⟨rfl,h3⟩;replace h3:=h3.symm;subst h3)
     | (go_at_call 125;(with_reducible refine(FR.out _ KD.out).mono ?_);rintro e w3 ⟨rfl,hk3⟩;have K3:=hid (nT KD.out hk3);obtain⟨e0,e1,e2⟩:=clc (s7b Y2.out K3.out);clear hk3)
     | fail)
    all_goals
     have D:=hid (nT K2.out K3.out);have YD:=hid (s7b Y2.out K3.out);clear KD K3 d0 d1 d2;have KE:=hid ((Kt.refl nO w3).drew);obtain⟨f0,f1,f2⟩:=clc (s7b YD.out KE.out);have DD:=hid (nT D.out KE.out);go_wp2_with fail;go_region_held3 (fun w'=>w'.cell? ⟨y2,1,none⟩=some (.int .i64 (xk:Int))) (with_reducible assumption) (first
      | (go_at_call 51;(with_reducible refine(WD.out _).mono ?_);rintro e w4 ⟨rfl,h4⟩;replace h4:=h4.symm;subst h4)
      | fail)
     all_goals
      go_wp2_with fail;exact⟨rfl,.tuple #[.int .i64 (i:Int),.int .i64 (q:Int)],by simp[results,Tryz.results118,go_sem],rfl,DD.out⟩
  ·obtain⟨rfl,rfl⟩:=HA.out.1 hm0;have hmn:¬(m:Int)=0:=(by omega);have hmb:((m:Int) != 0)=true:=(by rw[bne_iff_ne];exact hmn);have D:=hid (fun m=>nT K2.out ((Kt.refl nO w2).drewN m));clear HA FR;obtain⟨d0,d1,d2⟩:=clc Y2.out;go_wp2_with fail;go_quiet ((go_at_call 51;exact Calls.quiet_of_same (WD.out _)))
   go_wp2_with fail;exact⟨rfl,.tuple #[.int .i64 (-1),.int .i64 0],by simp[results,Tryz.results118,go_sem],rfl,D.out _⟩
def sizQ(al:List Cl):Int→Nat
 | .ofNat i=>16*2 ^ (fnC al i).cl
 | .negSucc _=>0
theorem zk5(b:Nat)(hb:b≤9223372036854775808)(lm oo po:Int)(P:Nat)(hP:P≤1024)(fv lv:Value)(ca:Option Addr)(cc:Nat)(qv:Value)(al:List Cl)(hn:al.length≤1024)(hc:∀ i,i<al.length→(fnC al i).cl<8∧(fnC al i).fl.length≤256)(p:Nat)(hp:p<18446744073709551616)(z:Int)(c:Nat)(hq:CellQ b P al p z c)(w:World)(h:CR w (.slice ca al.length cc) al.length (fnC al)):
  Calls Tryz.prog 58 #[s7V b lm oo po (P:Int) fv lv (.slice ca al.length cc) qv,.int .u64 (p:Int)] w fun e w'=>e=.returned (.int .u64 ((sizQ al z:Nat):Int))∧Kt nO w w':=by
 obtain⟨n,hn'⟩:=xe (al.length);have K0:=hid ((Kt.refl nO w).alloc (s7O b lm oo po (P:Int) fv lv (.slice ca n cc) qv));have X0:=hid (nH w (s7O b lm oo po (P:Int) fv lv (.slice ca n cc) qv));have C0:=hid (h.keep K0.out);have CL:=hid (zkn b hb lm oo po P hP fv lv ca cc qv al hn hc p hp z c hq _ (h.keep K0.out));rw[←hn'] at CL hn C0 ⊢;have HN:=hid hn';clear hn';have hz:z = -1∨∃ i:Nat,z=(i:Int)∧i<n:=by
  cases hq with
  | low=>exact .inl rfl
  | high=>exact .inl rfl
  | none=>exact .inl rfl
  | off=>exact .inl rfl
  | free=>exact .inl rfl
  | yes i h1 h2 h3=>exact .inr ⟨i,rfl,by rw[HN.out];exact(zdP h3).1⟩
 have HC:=hid hc;clear h hc hq;rcases hz with rfl|⟨i,rfl,hi⟩
 ·go_enter Tryz.func58,Tryz.ntmps58;go_upto_region 1 with fail;generalize w.heap.size=y at *;generalize w.alloc (s7O b lm oo po (P:Int) fv lv (.slice ca n cc) qv)=W0 at *;obtain⟨c0,c1,c2,c3,c4,c5,c6,c7,c8,cf⟩:=s7c X0.out;go_wp2_with fail;refine CL.out.mono ?_;rintro e w1 ⟨rfl,hk1⟩;have D:=hid (nT K0.out hk1);clear hk1;go_wp2_with fail;go_ret;exact⟨rfl,D.out⟩
 ·obtain⟨hk8,_⟩:=HC.out i (by rw[←HN.out];exact hi);obtain⟨k,hk⟩:=xe ((fnC al i).cl);have hs:sizQ al (i:Int)=16*2 ^ k:=by rw[hk];rfl
  rw[hs];rw[←hk] at hk8;have WD:=hid (fun W=>zcG k hk8 W);have hwb:=zbI hk8;obtain⟨wd,hwd⟩:=xe (16*2 ^ k);rw[←hwd] at WD hwb ⊢;have HK:=hid hk;clear hk hwd hs HC;have hin:(i:Int)<(n:Int):=by omega
  have hi0:¬(i:Int)<0:=by omega
  go_enter Tryz.func58,Tryz.ntmps58;go_upto_region 1 with fail;generalize w.heap.size=y at *;generalize w.alloc (s7O b lm oo po (P:Int) fv lv (.slice ca n cc) qv)=W0 at *;obtain⟨c0,c1,c2,c3,c4,c5,c6,c7,c8,cf⟩:=s7c X0.out;go_wp2_with fail;refine CL.out.mono ?_;rintro e w1 ⟨rfl,hk1⟩;have D:=hid (nT K0.out hk1);have X1:=hid (s7b X0.out hk1);have C1:=hid (C0.out.keep hk1);clear hk1 c0 c1 c2 c3 c4 c5 c6 c7 c8 cf C0 CL;obtain⟨c0,c1,c2,c3,c4,c5,c6,c7,c8,cf⟩:=s7c X1.out;obtain⟨gc,xa,xc,hva,r0,r1,r2,rn⟩:=C1.out.get i hi;subst hva;rw[←HK.out] at r1;clear rn r0 r2 C1;go_wp2_with fail;refine(WD.out _).mono ?_;rintro e w2 ⟨rfl,h2⟩;replace h2:=h2.symm;subst h2;go_wp2_with fail;go_ret;exact⟨rfl,D.out⟩
def rty(e:TypeId):Prop:=e=3∨e=43∨e=189∨e=121
structure D7(W:World)(o:Nat)(fa:Option Addr)(fc:Nat)(va:Option Addr)(vc:Nat)(ca:Option Addr)(cc:Nat)(pa:Option Addr)(pc:Nat)(fr:Nat→List Nat)(ls:List (Nat×Nat))(al:List Cl)(pl:Nat→List Nat):Prop where
 fl:FL W fa fc o fr
 rn:RN W (.slice va ls.length vc) ls
 cr:CR W (.slice ca al.length cc) al.length (fnC al)
 pr:FL W pa pc 7 pl
theorem D7.kept{W W' o fa fc va vc ca cc pa pc fr ls al pl}{S:Nat→Prop}(h:D7 W o fa fc va vc ca cc pa pc fr ls al pl)(k:Kt S W W')(hS:∀ y cs e z,W.heap[y]?=some (.cells cs e z)→rty e→¬S y):D7 W' o fa fc va vc ca cc pa pc fr ls al pl:=
 ⟨h.fl.kept k (fun y cs hy=>hS y cs _ _ hy (.inl rfl)) (fun y cs hy=>hS y cs _ _ hy (.inr (.inl rfl))),
 zaf h.rn k (fun y hy=>by
  obtain⟨cs,hc⟩:=zaT h.rn hy;exact hS y cs _ _ hc (.inr (.inr (.inl rfl)))),
 h.cr.kept k (fun y cs hy=>hS y cs _ _ hy (.inr (.inr (.inr rfl)))) (fun y cs z hy=>hS y cs _ z hy (.inl rfl)),
 h.pr.kept k (fun y cs hy=>hS y cs _ _ hy (.inl rfl)) (fun y cs hy=>hS y cs _ _ hy (.inr (.inl rfl)))⟩
theorem D7.keep{W W' o fa fc va vc ca cc pa pc fr ls al pl}(h:D7 W o fa fc va vc ca cc pa pc fr ls al pl)(k:Kt nO W W'):D7 W' o fa fc va vc ca cc pa pc fr ls al pl:=h.kept k (fun _ _ _ _ _ _ e=>e)
theorem D7.box{W W' o fa fc va vc ca cc pa pc fr ls al pl}(h:D7 W o fa fc va vc ca cc pa pc fr ls al pl){y:Nat}{cs:Array Value}{t:TypeId}{z:Nat×Nat}(hy:W.heap[y]?=some (.cells cs t z))(ht:¬rty t)(k:Kt (fun a=>a=y) W W'):D7 W' o fa fc va vc ca cc pa pc fr ls al pl:=
 h.kept k (fun a cs' e z' ha he e2=>by
  rw[e2,hy] at ha;injection ha with ha
  injection ha with _ ha _
  exact ht (by rw[ha];exact he))
theorem ziS{t:TypeId}(h1:t≠3)(h2:t≠43)(h3:t≠189)(h4:t≠121):¬rty t:=fun e=>e.elim h1 fun e=>e.elim h2 fun e=>e.elim h3 h4
def K7P(w:World)(b l o P:Nat)(fr:Nat→List Nat)(ls:List (Nat×Nat))(al:List Cl)(pl:Nat→List Nat)(q:Nat)(grew:Bool)(er:Nat)(e:Ending)(w':World):Prop:=∃ fa fc va vc ca cc pa pc,e=.returned (.tuple #[s7V b (l:Int) (o:Int) (o:Int) (P:Int) (.slice fa (o+1) fc) (.slice va ls.length vc) (.slice ca al.length cc) (.slice pa 8 pc),.int .u64 (q:Int),.bool grew,.int .i64 (er:Int)])∧Kt nO w w'∧D7 w' o fa fc va vc ca cc pa pc fr ls al pl
def G7P(w:World)(b l o P:Nat)(fr:Nat→List Nat)(ls:List (Nat×Nat))(al:List Cl)(pl:Nat→List Nat)(er:Nat)(e:Ending)(w':World):Prop:=∃ fa fc va vc ca cc pa pc,e=.returned (.tuple #[s7V b (l:Int) (o:Int) (o:Int) (P:Int) (.slice fa (o+1) fc) (.slice va ls.length vc) (.slice ca al.length cc) (.slice pa 8 pc),.int .i64 (er:Int)])∧Kt nO w w'∧D7 w' o fa fc va vc ca cc pa pc fr ls al pl
theorem zbr{W:World}{y:Nat}{a:Addr}{v:Value}(h:W.cell? a=some v)(hne:a.block≠y)(u0 u1 u2 u3 u4 u5 u6 u7 u8:Value):(((((((((W.setCell ⟨y,0,none⟩ u0).setCell ⟨y,1,none⟩ u1).setCell ⟨y,2,none⟩ u2).setCell ⟨y,3,none⟩ u3).setCell ⟨y,4,none⟩ u4).setCell ⟨y,5,none⟩ u5).setCell ⟨y,6,none⟩ u6).setCell ⟨y,7,none⟩ u7).setCell ⟨y,8,none⟩ u8).cell? a=some v:=by
 have k:Kt (fun z=>z=y) W (((((((((W.setCell ⟨y,0,none⟩ u0).setCell ⟨y,1,none⟩ u1).setCell ⟨y,2,none⟩ u2).setCell ⟨y,3,none⟩ u3).setCell ⟨y,4,none⟩ u4).setCell ⟨y,5,none⟩ u5).setCell ⟨y,6,none⟩ u6).setCell ⟨y,7,none⟩ u7).setCell ⟨y,8,none⟩ u8):=
  (((((((((Kt.refl (fun z=>z=y) W).setCell (p:=⟨y,0,none⟩) rfl _).setCell (p:=⟨y,1,none⟩) rfl _).setCell (p:=⟨y,2,none⟩) rfl _).setCell (p:=⟨y,3,none⟩) rfl _).setCell (p:=⟨y,4,none⟩) rfl _).setCell (p:=⟨y,5,none⟩) rfl _).setCell (p:=⟨y,6,none⟩) rfl _).setCell (p:=⟨y,7,none⟩) rfl _).setCell (p:=⟨y,8,none⟩) rfl _
 exact k.cell hne h
theorem zdq{w:World}{a:Addr}{v:Value}(h:w.cell? a=some v):w.drew.cell? a=some v:=h
theorem ze2{W:World}{y:Nat}{a:Addr}{v:Value}(h:W.cell? a=some v)(hne:a.block≠y)(u0 u1 u2:Value):(((W.setCell ⟨y,0,none⟩ u0).setCell ⟨y,1,none⟩ u1).setCell ⟨y,2,none⟩ u2).cell? a=some v:=
 ((((Kt.refl (fun z=>z=y) W).setCell (p:=⟨y,0,none⟩) rfl u0).setCell (p:=⟨y,1,none⟩) rfl u1).setCell (p:=⟨y,2,none⟩) rfl u2).cell hne h
theorem zbV{W:World}{y i:Nat}{v:Value}(h:W.cell? ⟨y,i,none⟩=some v):y<W.heap.size:=by
 rcases Nat.lt_or_ge y W.heap.size with e|e
 ·exact e
 ·exfalso
  unfold World.cell? at h;rw[Array.getElem?_eq_none e] at h
  cases h
theorem clz{W:World}{y:Nat}(h:W.heap[y]?=some (.cells #[.int .i64 0,.int .i64 0,.slice none 0 0] 121)):W.cell? ⟨y,0,none⟩=some (.int .i64 0)∧W.cell? ⟨y,1,none⟩=some (.int .i64 0)∧W.cell? ⟨y,2,none⟩=some (.slice none 0 0)∧∀ a,W.frozen? ⟨y,a,none⟩=false:=by
 refine⟨?_,?_,?_,fun a=>?_⟩ <;> simp[World.cell?,World.frozen?,h]
theorem box9{W:World}{y b0:Nat}{l0 o0 po0 pp0:Int}{f0 v0 c0 q0:Value}(h:W.heap[y]?=some (s7O b0 l0 o0 po0 pp0 f0 v0 c0 q0))(b:Nat)(l o po pp:Int)(fv lv pv qv:Value):(fin9 W y b l o po pp fv lv pv qv).heap[y]?=some (s7O b l o po pp fv lv pv qv):=by
 have h0:(W.setCell ⟨y,0,none⟩ (.int .u64 (b:Int))).heap[y]?=some (s7O b l0 o0 po0 pp0 f0 v0 c0 q0):=hS9 h 0 _;have h1:=show _=some (s7O b l o0 po0 pp0 f0 v0 c0 q0)from hS9 h0 1 (.int .i64 l)
 have h2:=show _=some (s7O b l o po0 pp0 f0 v0 c0 q0)from hS9 h1 2 (.int .i64 o)
 have h3:=show _=some (s7O b l o po pp0 f0 v0 c0 q0)from hS9 h2 3 (.int .i64 po)
 have h4:=show _=some (s7O b l o po pp f0 v0 c0 q0)from hS9 h3 4 (.int .i64 pp)
 have h5:=show _=some (s7O b l o po pp fv v0 c0 q0)from hS9 h4 5 fv
 have h6:=show _=some (s7O b l o po pp fv lv c0 q0)from hS9 h5 6 lv
 have h7:=show _=some (s7O b l o po pp fv lv pv q0)from hS9 h6 7 pv
 have h8:=show _=some (s7O b l o po pp fv lv pv qv)from hS9 h7 8 qv
 exact h8
structure T7(w W:World)(y3:Nat)(yo:Obj)(b l o P:Nat)(fa:Option Addr)(fc:Nat)(va:Option Addr)(m vc:Nat)(ca:Option Addr)(n cc:Nat)(pa:Option Addr)(pc:Nat)(fr:Nat→List Nat)(ls:List (Nat×Nat))(al:List Cl)(pl:Nat→List Nat):Prop where
 kp:Kt nO w W
 x:W.heap[w.heap.size]?=some (s7O b (l:Int) (o:Int) (o:Int) (P:Int) (.slice fa (o+1) fc) (.slice va m vc) (.slice ca n cc) (.slice pa 8 pc))
 z:W.heap[w.heap.size+1]?=some s7Z
 y:W.heap[y3]?=some yo
 uy:w.heap.size+2≤y3
 d:D7 W o fa fc va vc ca cc pa pc fr ls al pl
 hm:m=ls.length
 hn:n=al.length
theorem zaR:¬rty 38:=ziS (by decide) (by decide) (by decide) (by decide)
theorem T7.keep{w W W' y3 yo b l o P fa fc va m vc ca n cc pa pc fr ls al pl}(h:T7 w W y3 yo b l o P fa fc va m vc ca n cc pa pc fr ls al pl)(k:Kt nO W W'):T7 w W' y3 yo b l o P fa fc va m vc ca n cc pa pc fr ls al pl:=⟨nT h.kp k,s7b h.x k,s7b h.z k,s7b h.y k,h.uy,h.d.keep k,h.hm,h.hn⟩
theorem T7.put{w W w7 y3 yo b l o P fa fc va m vc ca n cc pa pc fr ls al pl}(h:T7 w W y3 yo b l o P fa fc va m vc ca n cc pa pc fr ls al pl)(k:Kt nO W w7){ca2:Option Addr}{cc2 n2:Nat}{al2:List Cl}(hc:CR w7 (.slice ca2 n2 cc2) n2 (fnC al2))(hn2:n2=al2.length):T7 w (fin9 w7 w.heap.size b (l:Int) (o:Int) (o:Int) (P:Int) (.slice fa (o+1) fc) (.slice va m vc) (.slice ca2 n2 cc2) (.slice pa 8 pc)) y3 yo b l o P fa fc va m vc ca2 n2 cc2 pa pc fr ls al2 pl:=by
 have kf:=zad w7 w.heap.size b (l:Int) (o:Int) (o:Int) (P:Int) (.slice fa (o+1) fc) (.slice va m vc) (.slice ca2 n2 cc2) (.slice pa 8 pc);have h2:=h.keep k;have huy:=h.uy;have d2:D7 w7 o fa fc va vc ca2 cc2 pa pc fr ls al2 pl:=⟨h2.d.fl,h2.d.rn,by rw[←hn2];exact hc,h2.d.pr⟩;exact⟨h2.kp.trans kf (fun _ _ e=>e) (fun y hy e=>by omega),box9 h2.x b _ _ _ _ _ _ _ _,(kf.block _ (lH h2.z) (by omega)).trans h2.z,(kf.block _ (lH h2.y) (by omega)).trans h2.y,huy,d2.box h2.x zaR kf,h.hm,hn2⟩
theorem T7.par{w W w7 y3 yo b l o P fa fc va m vc ca n cc pa pc fr ls al pl}(h:T7 w W y3 yo b l o P fa fc va m vc ca n cc pa pc fr ls al pl)(k:Kt nO W w7){pa2:Option Addr}{pc2:Nat}{pl2:Nat→List Nat}(hp:FL w7 pa2 pc2 7 pl2):T7 w (fin9 w7 w.heap.size b (l:Int) (o:Int) (o:Int) (P:Int) (.slice fa (o+1) fc) (.slice va m vc) (.slice ca n cc) (.slice pa2 8 pc2)) y3 yo b l o P fa fc va m vc ca n cc pa2 pc2 fr ls al pl2:=by
 have kf:=zad w7 w.heap.size b (l:Int) (o:Int) (o:Int) (P:Int) (.slice fa (o+1) fc) (.slice va m vc) (.slice ca n cc) (.slice pa2 8 pc2);have h2:=h.keep k;have huy:=h.uy;have d2:D7 w7 o fa fc va vc ca cc pa2 pc2 fr ls al pl2:=⟨h2.d.fl,h2.d.rn,h2.d.cr,hp⟩;exact⟨h2.kp.trans kf (fun _ _ e=>e) (fun y hy e=>by omega),box9 h2.x b _ _ _ _ _ _ _ _,(kf.block _ (lH h2.z) (by omega)).trans h2.z,(kf.block _ (lH h2.y) (by omega)).trans h2.y,huy,d2.box h2.x zaR kf,h.hm,h.hn⟩
theorem T7.fin{w W y3 yo b l o P fa fc va m vc ca n cc pa pc fr ls al pl}(h:T7 w W y3 yo b l o P fa fc va m vc ca n cc pa pc fr ls al pl)(f v c q:Value):Kt nO w (fin9 W (w.heap.size+1) b (l:Int) (o:Int) (o:Int) (P:Int) f v c q)∧D7 (fin9 W (w.heap.size+1) b (l:Int) (o:Int) (o:Int) (P:Int) f v c q) o fa fc va vc ca cc pa pc fr ls al pl:=by
 have kf:=zad W (w.heap.size+1) b (l:Int) (o:Int) (o:Int) (P:Int) f v c q;exact⟨h.kp.trans kf (fun _ _ e=>e) (fun y hy e=>by omega),h.d.box h.z zaR kf⟩
theorem T7.set{w W w7 y3 yo b l o P fa fc va m vc ca n cc pa pc fr ls al pl}(h:T7 w W y3 yo b l o P fa fc va m vc ca n cc pa pc fr ls al pl)(k:Kt nO W w7){P2:Nat}{fa2 va2 ca2 pa2:Option Addr}{fc2 m2 vc2 n2 cc2 pc2:Nat}{fr2:Nat→List Nat}{ls2:List (Nat×Nat)}{al2:List Cl}{pl2:Nat→List Nat}(d2:D7 w7 o fa2 fc2 va2 vc2 ca2 cc2 pa2 pc2 fr2 ls2 al2 pl2)(hm2:m2=ls2.length)(hn2:n2=al2.length):T7 w (fin9 w7 w.heap.size b (l:Int) (o:Int) (o:Int) (P2:Int) (.slice fa2 (o+1) fc2) (.slice va2 m2 vc2) (.slice ca2 n2 cc2) (.slice pa2 8 pc2)) y3 yo b l o P2 fa2 fc2 va2 m2 vc2 ca2 n2 cc2 pa2 pc2 fr2 ls2 al2 pl2:=by
 have kf:=zad w7 w.heap.size b (l:Int) (o:Int) (o:Int) (P2:Int) (.slice fa2 (o+1) fc2) (.slice va2 m2 vc2) (.slice ca2 n2 cc2) (.slice pa2 8 pc2);have h2:=h.keep k;have huy:=h.uy;exact⟨h2.kp.trans kf (fun _ _ e=>e) (fun y hy e=>by omega),box9 h2.x b _ _ _ _ _ _ _ _,(kf.block _ (lH h2.z) (by omega)).trans h2.z,(kf.block _ (lH h2.y) (by omega)).trans h2.y,huy,d2.box h2.x zaR kf,hm2,hn2⟩
theorem T7.bud{w W y3 yo b l o P fa fc va m vc ca n cc pa pc fr ls al pl}(h:T7 w W y3 yo b l o P fa fc va m vc ca n cc pa pc fr ls al pl){P2:Nat}{fa2 va2:Option Addr}{fc2 m2 vc2:Nat}{fr2:Nat→List Nat}{ls2:List (Nat×Nat)}(hf:FL W fa2 fc2 o fr2)(hr:RN W (.slice va2 ls2.length vc2) ls2)(hm2:m2=ls2.length):T7 w (fin4 W w.heap.size 3 4 5 6 (o:Int) (P2:Int) (.slice fa2 (o+1) fc2) (.slice va2 m2 vc2)) y3 yo b l o P2 fa2 fc2 va2 m2 vc2 ca n cc pa pc fr2 ls2 al pl:=by
 have kf:=zbc W w.heap.size 3 4 5 6 (o:Int) (P2:Int) (.slice fa2 (o+1) fc2) (.slice va2 m2 vc2);have huy:=h.uy;have d2:D7 W o fa2 fc2 va2 vc2 ca cc pa pc fr2 ls2 al pl:=⟨hf,hr,h.d.cr,h.d.pr⟩;exact⟨h.kp.trans kf (fun _ _ e=>e) (fun y hy e=>by omega),box4 h.x _ _ _ _,(kf.block _ (lH h.z) (by omega)).trans h.z,(kf.block _ (lH h.y) (by omega)).trans h.y,huy,d2.box h.x zaR kf,hm2,h.hn⟩
end Go.Proofs.YtgjdmkfpmokkaaaGreatDoor
