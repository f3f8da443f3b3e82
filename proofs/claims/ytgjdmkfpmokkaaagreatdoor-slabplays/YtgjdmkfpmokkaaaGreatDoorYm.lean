import Derived.Test.YtgjdmkfpmokkaaaGreatDoorYc
set_option maxRecDepth 1000000
set_option maxHeartbeats 80000000
namespace Go.Proofs.YtgjdmkfpmokkaaaGreatDoor
open Go.RowKit
set_option linter.unusedVariables false
theorem zm5(o:Nat)(oi P:Int)(fa:Option Addr)(fc:Nat)(va:Option Addr)(n vc:Nat)(fr:Nat→List Nat)(k:Nat)(hk:k≤o)(hf:(fr k).length≤1024)(ho:o≤8)(pg:Nat)(hpg:pg≤1024)(w:World)(h:FL w fa fc o fr):
  Calls Tryz.prog 126 #[r5V oi P (.slice fa (o+1) fc) (.slice va n vc),.int .i64 (k:Int),.int .i64 (pg:Int)] w fun e w'=>e=.returned (.bool (decide (pg∈fr k) != decide (pg+2 ^ k∈fr k)))∧Kt nO w w':=by
 have K0:=hid ((Kt.refl nO w).alloc (r5O oi P (.slice fa (o+1) fc) (.slice va n vc)));have X0:=hid (nH w (r5O oi P (.slice fa (o+1) fc) (.slice va n vc)));obtain⟨z,hz⟩:=xe (2 ^ k);have hzi:(2:Int) ^ k=(z:Int):=by rw[hz];simp
 have hk8:k≤8:=by omega
 have hz2:z≤256:=by rw[hz];exact Nat.pow_le_pow_right (n:=2) (by decide) hk8
 have I1:=hid (fun W (k':Kt nO w W)=>Is5 o oi P fa fc va n vc fr k hk hf ho pg W (h.keep k'));have I2:=hid (fun W (k':Kt nO w W)=>Is5 o oi P fa fc va n vc fr k hk hf ho (pg+z) W (h.keep k'));rw[show((pg+z:Nat):Int)=(pg:Int)+(z:Int)by simp] at I2;rw[←hz];generalize decide (pg∈fr k)=b1 at *;generalize decide (pg+z∈fr k)=b2 at *;clear h hz;go_enter Tryz.func126,Tryz.ntmps126;obtain⟨x0,x1,x2,x3,fx⟩:=r5c X0.out;go_wp2_with fail;clear x0 x1 x2 x3 fx;generalize w.alloc (r5O oi P (.slice fa (o+1) fc) (.slice va n vc))=W0 at *;have hsh:IntKind.i64.wrap (2 ^ min (IntKind.u64.wrap (k:Int)).toNat 64)=(z:Int):=by
  have h1:IntKind.u64.wrap (k:Int)=(k:Int):=Int.emod_eq_of_lt (by omega) (by show(k:Int)<18446744073709551616;omega);rw[h1,Int.toNat_natCast,Nat.min_eq_left (by omega),hzi,IntKind.wrap_i64];omega
 have hsh1:IntKind.i64.wrap (1*2 ^ min (IntKind.u64.wrap (k:Int)).toNat 64)=(z:Int):=by rw[Int.one_mul];exact hsh
 have hadd:IntKind.i64.wrap ((pg:Int)+(z:Int))=(pg:Int)+(z:Int):=by rw[IntKind.wrap_i64];omega
 have KD:=hid (nT K0.out (Kt.refl nO W0).drew);have XD:=hid (box5 X0.out (Kt.refl nO W0).drew);obtain⟨d0,d1,d2,d3,_⟩:=r5c XD.out;go_region_held3 (fun w'=>w'.cell? ⟨w.heap.size,0,none⟩=some (.int .i64 oi)∧w'.cell? ⟨w.heap.size,1,none⟩=some (.int .i64 P)∧w'.cell? ⟨w.heap.size,2,none⟩=some (.slice fa (o+1) fc)∧w'.cell? ⟨w.heap.size,3,none⟩=some (.slice va n vc)) ((refine⟨?_,?_,?_,?_⟩ <;> first|with_reducible assumption)) (first
  | (go_at_call 146;with_reducible refine(I1.out _ KD.out).mono ?_;rintro e w2 ⟨rfl,hk2⟩;have K2:=hid (nT KD.out hk2);have X2:=hid (box5 XD.out hk2);obtain⟨y0,y1,y2,y3,_⟩:=r5c X2.out;clear hk2)
  | (go_at_call 146;with_reducible refine(I2.out _ K2.out).mono ?_;rintro e w3 ⟨rfl,hk3⟩;have K3:=hid (nT K2.out hk3);have X3:=hid (box5 X2.out hk3);obtain⟨t0,t1,t2,t3,_⟩:=r5c X3.out;clear hk3)
  | fail)
 all_goals
  go_wp2_with fail;go_ret;refine⟨?_,K3.out⟩
  cases b1 <;> cases b2 <;> rfl
theorem zlc{W:World}{y:Nat}{cs cs':Array Value}{a b:TypeId}{z z':Nat×Nat}(h:W.heap[y]?=some (.cells cs a z))(h':W.heap[y]?=some (.cells cs' b z')):a=b:=by
 rw[h] at h';injection h' with h'
 injection h' with _ h'
theorem zhs{w0 W:World}{v:Value}{n:Nat}{xs:List Value}(h:GS w0 W 61 1 v n xs)(a:Option Addr)(l c:Nat)(hn:n≤2000):
  ∃ g cap w',(∀ ty,(Builtin.append_ #[141,141] ty #[v,.slice (some ⟨W.heap.size,0,none⟩) 1 1]).run Tryz.prog (W.alloc (.cells #[.slice a l c] 61))=.ok (.slice (some ⟨g,0,none⟩) (n + 1) cap) w')∧GS w0 w' 61 1 (.slice (some ⟨g,0,none⟩) (n + 1) cap) (n + 1) (xs ++ [.slice a l c])∧w0.heap.size≤g∧(∀ x,v.ownBlock≠some x→∀ o,W.heap[x]?=some o→w'.heap[x]?=some o):=by
 obtain⟨i,hi,hzz⟩:=Option.map_eq_some_iff.1 zgz;simp only[Prod.mk.injEq] at hzz;have ka:=(Kt.refl nO W).alloc (.cells #[.slice a l c] 61);obtain⟨g,cap,w',h1,h2,h5,h4⟩:=(h.keep ka).push 141 i (.slice none 0 0) 24 Tryz.underlying141 hi hzz.1 hzz.2.1 hzz.2.2 rfl (by decide) ⟨W.heap.size,0,none⟩ 1 [.slice a l c] rfl (fun j u hj=>zaD (cs:=#[.slice a l c]) j u hj) (by simp[Value.oneCell']) (by simp only[maxLen];omega) (by omega);exact⟨g,cap,w',h1,h2,h5,fun x hx o ho=>h4 x hx o ((ka.block x (lH ho) (fun x=>x)).trans ho)⟩
structure Pr(w W:World)(bo:Obj)(v:Value)(k:Nat)(wd:Nat→List Nat)(D:Nat→Nat):Prop where
 gs:GS w W 61 1 v k ((List.range k).map fun j=>.slice (some ⟨D j,0,none⟩) (wd j).length (wd j).length)
 x0:W.heap[w.heap.size]?=some bo
 rw:∀ j,j<k→W.heap[D j]?=some (.cells (wcs (wd j)) 24 (0,0))
 nw:∀ r,v.ownBlock=some r→w.heap.size<r
theorem Pr.keep{w W W' bo v k wd D}(h:Pr w W bo v k wd D)(kk:Kt nO W W'):Pr w W' bo v k wd D:=⟨h.gs.keep kk,(kk.block _ (lH h.x0) (fun e=>e)).trans h.x0,fun j hj=>(kk.block _ (lH (h.rw j hj)) (fun e=>e)).trans (h.rw j hj),h.nw⟩
theorem zml{x:Bx}{t:Bt}{fr:Nat→List Nat}{ls:List (Nat×Nat)}(s:Sf x t fr ls)(hw:∀ k,k<x.o→∀ i,(t.m.wd k).getD i 0<2 ^ 64)(hb:∀ k,k<x.o→∀ i,i<(t.m.wd k).length→(t.m.wd k).getD i 0<2 ^ (min 64 (t.m.n/2 ^ (k+1)-64*i)))(ho:x.o≤8)(fa:Option Addr)(fc:Nat)(va:Option Addr)(n vc:Nat)(w:World)(h:FL w fa fc x.o fr):
  Calls Tryz.prog 68 #[r5V (x.o:Int) (t.m.n:Int) (.slice fa (x.o+1) fc) (.slice va n vc)] w fun e w'=>∃ ga gc D,e=.returned (.slice ga x.o gc)∧Pr w w' (r5O (x.o:Int) (t.m.n:Int) (.slice fa (x.o+1) fc) (.slice va n vc)) (.slice ga x.o gc) x.o t.m.wd D:=by
 obtain⟨P,hP⟩:=xe (t.m.n);have hP2:P≤1024:=by rw[hP];exact s.sn.n.1
 have HS:=hid s;have HWD:=hid hw;have HBD:=hid hb;have PRR:=hid (fun k (hk:k≤x.o) pg (hpg:pg≤1024) W (k':Kt nO w W)=>zm5 x.o (x.o:Int) (P:Int) fa fc va n vc fr k hk (s.len hk) ho pg hpg W (h.keep k'));rw[←hP];have HP:=hid hP;have P0:=hid (show Pr w (w.alloc (r5O (x.o:Int) (P:Int) (.slice fa (x.o+1) fc) (.slice va n vc))) (r5O (x.o:Int) (P:Int) (.slice fa (x.o+1) fc) (.slice va n vc)) (.slice none 0 0) 0 t.m.wd (fun _=>0)from⟨GS.nil _ _ _ _ ((Kt.refl nO w).alloc _),nH _ _,fun j hj=>absurd hj (Nat.not_lt_zero _),fun r e=>by simp[Value.ownBlock] at e⟩);clear s hw hb h hP;obtain⟨x0,x1,x2,x3,fx⟩:=r5c P0.out.x0;go_enter Tryz.func68,Tryz.ntmps68;go_wp2_with fail;generalize w.alloc (r5O (x.o:Int) (P:Int) (.slice fa (x.o+1) fc) (.slice va n vc))=W0 at *;clear x0 x1 x2 x3 fx;go_loopw [3,4] (fun out i W=>∃ k:Nat,k≤x.o∧i=.int .i64 k∧(∃ ga gc,out=.slice ga k gc)∧Hid (∃ D,Pr w W (r5O (x.o:Int) (P:Int) (.slice fa (x.o+1) fc) (.slice va n vc)) out k t.m.wd D)) (fun _ i _=>x.o-(intOf i).toNat)
 case atStart=>exact⟨0,by omega,rfl,⟨_,_,rfl⟩,hid ⟨_,P0.out⟩⟩
 case round=>
  clear P0;obtain⟨k,hk,rfl,⟨ga,gc,rfl⟩,hR⟩:=hrel;obtain⟨D,hPr⟩:=hR.out;have PR:=hid hPr;obtain⟨x0,x1,x2,x3,fx⟩:=r5c hPr.x0;clear hR hPr;by_cases hlt:k<x.o
  ·have hki:(k:Int)<(x.o:Int):=(by omega);obtain⟨u,hu⟩:=xe (2 ^ (k+1));have hui:(2:Int) ^ (k+1)=(u:Int):=(by rw[hu];simp);have hk9:k+1≤8:=(by omega);have hu2:u≤256:=(by rw[hu];exact Nat.pow_le_pow_right (n:=2) (by decide) hk9);have hu0 : 0<u:=(by rw[hu];exact Nat.pow_pos (by decide));obtain⟨nn,hnn⟩:=xe (P/u);have hnn2:nn≤1024:=(by rw[hnn];exact Nat.le_trans (Nat.div_le_self _ _) hP2);have hdv:(P:Int)/(u:Int)=(nn:Int):=(by rw[hnn];simp);obtain⟨m,hm⟩:=xe ((nn+63)/64);have hm2:m≤17:=(by omega);have hmi:((nn:Int)+63)/64=(m:Int):=(by omega);have HU:=hid hu;have HNN:=hid hnn;have HM:=hid hm;have hmk:=zbq m (by omega) wr;clear hu hnn hm;go_wp2_with fail;obtain⟨I,hI⟩:=xe (wr.heap.size);have ka:=(Kt.refl nO wr).alloc (.cells (wcs (zaN m)) 24);have PR2:=hid (PR.out.keep ka);have KW:=hid (nT PR.out.gs.kp ka);have hx:=lH PR.out.x0;have HX:=hid (show w.heap.size<I by omega);have HDI:=hid (show ∀ j,j<k→D j≠I from fun j hj=>by have:=lH (PR.out.rw j hj);omega);have HVI:=hid (show ∀ r,(Value.slice ga k gc).ownBlock=some r→r≠I from fun r e=>by have:=(World.ownsRow.lt PR.out.gs.own r e).2;omega);have Z0:=hid (show(wr.alloc (.cells (wcs (zaN m)) 24)).heap[I]?=some (.cells (wcs (zaO (t.m.wd k) m 0)) 24 (0,0))from by rw[zhl,hI];exact nH _ _);rw[←hI];generalize wr.alloc (.cells (wcs (zaN m)) 24)=w5 at *;have hwl:=HWD.out k hlt;have HW:=hid hwl;clear hmk ka hI hx hmi x0 x1 x2 x3 fx PR hwl;go_loopw [7] (fun i W=>∃ a:Nat,a≤nn∧i=.int .i64 a∧Hid (Kt (fun y=>y=I) w5 W∧W.heap[I]?=some (.cells (wcs (zaO (t.m.wd k) m a)) 24 (0,0)))) (fun i _=>nn-(intOf i).toNat)
   case atStart=>exact⟨0,by omega,rfl,hid ⟨Kt.refl _ _,Z0.out⟩⟩
   case round=>
    clear Z0;obtain⟨a,ha,rfl,hR⟩:=hrel;have KX:=hid (show Kt nO w wr from KW.out.trans hR.out.1 (fun _ _ e=>e) (fun y hy e=>by have e:y=I:=e;have:=HX.out;omega));have X1:=hid ((hR.out.1.block _ (lH PR2.out.x0) (by have:=HX.out;omega)).trans PR2.out.x0);obtain⟨x0,x1,x2,x3,fx⟩:=r5c X1.out;by_cases hlt2:a<nn
    ·have hai:(a:Int)<(nn:Int):=(by omega);have hau:a*u+u≤P:=by
      have h1:(a+1)*u≤nn*u:=Nat.mul_le_mul_right _ hlt2;have h2:nn*u≤P:=(by rw[HNN.out];exact Nat.div_mul_le_self _ _);rw[Nat.add_mul,Nat.one_mul] at h1;omega
     have hau2:a*u≤1024:=(by omega);have hB:(decide (a*u∈fr k) != decide (a*u+2 ^ k∈fr k))=bit (t.m.wd k) a:=by
      obtain⟨B,s,_,_⟩:=HS.out;rw[s.bt k hlt a (by rw[←HP.out,←HU.out,←HNN.out];exact hlt2)];have e1:a*u=2*a*2 ^ k:=(by rw[HU.out,Nat.pow_succ,Nat.mul_comm (2 ^ k) 2,←Nat.mul_assoc,Nat.mul_comm a 2]);rw[e1,Nat.add_mul,Nat.one_mul]
     have PQ:=hid (PRR.out k hk (a*u) hau2 wr KX.out);rw[hB] at PQ;obtain⟨p,hp⟩:=xe (a*u);have hpi:(a:Int)*(u:Int)=(p:Int):=(by rw[hp];simp);rw[←hp] at PQ hau2 hau;obtain⟨q,hq⟩:=xe (a/64);obtain⟨r,hr⟩:=xe (a%64);have hqi:(a:Int)/64=(q:Int):=(by omega);have hri:(a:Int)%64=(r:Int):=(by omega);have hqm:q<m:=(by have:=HM.out;omega);have hr64:r<64:=(by omega);have hpl:(zaO (t.m.wd k) m a).length=m:=zas _ _ _;have hbk:=hR.out.2
     cases hbit:bit (t.m.wd k) a with
     | false=>
      have D2:=hid (show wr.heap[I]?=some (.cells (wcs (zaO (t.m.wd k) m (a+1))) 24 (0,0))from by rw[zkE _ _ _ HW.out hbit];exact hbk);rw[hbit] at PQ;clear hB hbit hp hq hr hbk hpl;go_wp2_with fail;refine PQ.out.mono ?_;rintro e w6 ⟨rfl,hk6⟩;have D3:=hid (show Kt (fun y=>y=I) w5 w6∧w6.heap[I]?=some (.cells (wcs (zaO (t.m.wd k) m (a+1))) 24 (0,0))from⟨hR.out.1.trans hk6 (fun _ _ e=>e) (fun _ _ e=>e.elim),(hk6.block _ (lH D2.out) (fun e=>e)).trans D2.out⟩);clear hk6 D2 PQ;go_wp2_with fail;exact⟨⟨a+1,by omega,by simp,D3⟩,by simp[intOf];omega⟩
     | true=>
      have hor:=zkF _ _ _ HW.out (by rw[←hq];exact hqm) hbit;have hset:=zjo _ _ _ HW.out (by rw[←hq];exact hqm) hbit;rw[←hq,←hr] at hor hset;have hlt64:=zgI (t.m.wd k) m a HW.out q;have hlt64b:=zgI (t.m.wd k) m (a+1) HW.out q;rw[hset,zaB _ _ _ (by rw[hpl];exact hqm)] at hlt64b;have hcell:wr.cell? ⟨I,q,none⟩=some (.int .u64 (((zaO (t.m.wd k) m a).getD q 0:Nat):Int)):=(by simp[World.cell?,hbk,wcs,hpl,hqm]);have BW:=hid (fun (w6:World) (h6:w6.heap[I]?=some (.cells (wcs (zaO (t.m.wd k) m a)) 24 (0,0)))=>zfE h6 q ((zaO (t.m.wd k) m a).getD q 0+2 ^ r));rw[←hset] at BW;rw[hbit] at PQ;obtain⟨v,hv⟩:=xe (2 ^ r);have hvi:(2:Int) ^ r=(v:Int):=(by rw[hv];simp);have hv64:v<18446744073709551616:=(by rw[hv];exact Nat.lt_of_lt_of_le (Nat.pow_lt_pow_right (by decide) hr64) (Nat.le_refl _));rw[←hv] at hor BW hlt64b;generalize (zaO (t.m.wd k) m a).getD q 0=y at *;have hori:bits .or .u64 (y:Int) (v:Int)=((y+v:Nat):Int):=(by rw[u64_or_nat y v hlt64 hv64,hor]);have HBK:=hid hbk;have hqmi:(q:Int)<(m:Int):=(by omega);clear hB hbit hp hq hr hbk hpl hset hor hv;go_wp2_with fail;refine PQ.out.mono ?_;rintro e w6 ⟨rfl,hk6⟩;have B6:=hid ((hk6.block _ (lH HBK.out) (fun e=>e)).trans HBK.out);have y0:=hk6.cell (fun e=>e) hcell;have yf:=zjp B6.out q;have D3:=hid (show Kt (fun y=>y=I) w5 (w6.setCell ⟨I,q,none⟩ (.int .u64 ((y+v:Nat):Int)))∧(w6.setCell ⟨I,q,none⟩ (.int .u64 ((y+v:Nat):Int))).heap[I]?=some (.cells (wcs (zaO (t.m.wd k) m (a+1))) 24 (0,0))from⟨(hR.out.1.trans hk6 (fun _ _ e=>e) (fun _ _ e=>e.elim)).setCell (p:=⟨I,q,none⟩) rfl _,BW.out w6 B6.out⟩);rw[show((y+v:Nat):Int)=(y:Int)+(v:Int)by simp] at D3;clear hk6 PQ BW hcell;go_wp2_with fail;exact⟨⟨a+1,by omega,by simp,D3⟩,by simp[intOf];omega⟩
    ·obtain rfl:a=nn:=(by omega);have hai:¬(a:Int)<(a:Int):=(by omega);have hfull:zaO (t.m.wd k) m a=t.m.wd k:=by
      obtain⟨B,s,_,_⟩:=HS.out;have hwl:=s.wl k hlt;have e1:t.m.n/2 ^ (k+1)=a:=(by rw[←HP.out,←HU.out,←HNN.out]);rw[e1] at hwl;have hbd:=HBD.out k hlt;rw[e1] at hbd;rw[HM.out];exact zhm (t.m.wd k) a hwl hbd
     have hlen:m=(t.m.wd k).length:=(by rw[←hfull,zas]);have hI2:=hR.out.2;rw[hfull] at hI2;have G1:=PR2.out.gs.keptN hR.out.1 (fun r e h=>HVI.out r e h) (fun y e=>by have e:y=I:=e;have:=HX.out;omega);obtain⟨g,cap,w',hap,hg2,hge,hkeep⟩:=zhs G1 (some ⟨I,0,none⟩) m m (by omega);have nI:∀ r,(Value.slice ga k gc).ownBlock=some r→w.heap.size<r:=PR2.out.nw;have hgx:g≠w.heap.size:=fun e=>by
      have h1:=hkeep w.heap.size (fun e2=>by have:=nI _ e2;omega) _ X1.out;rcases hg2.own.2 with ⟨h0,_⟩|⟨g2,c2,cur,h0,hb2,hgg,_⟩
      ·simp at h0
      ·injection h0 with h0
       injection h0 with h0
       injection h0 with h0
       rw[←h0,e,h1] at hgg
       cases hgg
     have D3:=hid (show Pr w w' (r5O (x.o:Int) (P:Int) (.slice fa (x.o+1) fc) (.slice va n vc)) (.slice (some ⟨g,0,none⟩) (k+1) cap) (k+1) t.m.wd (fun j=>if j=k then I else D j)from⟨by
      rw[List.range_succ,List.map_append];have:(List.range k).map (fun j=>Value.slice (some ⟨if j=k then I else D j,0,none⟩) (t.m.wd j).length (t.m.wd j).length)=(List.range k).map fun j=>.slice (some ⟨D j,0,none⟩) (t.m.wd j).length (t.m.wd j).length:=List.map_congr_left fun j hj=>by
       have:=List.mem_range.1 hj;rw[if_neg (by omega)]
      rw[this];simp only[List.map_cons,List.map_nil,if_true];rw[←hlen];exact hg2,hkeep _ (fun e2=>by have:=nI _ e2;omega) _ X1.out,fun j hj=>by
      show w'.heap[if j=k then I else D j]?=_
      by_cases e:j=k
      ·rw[if_pos e,e];exact hkeep I (fun e2=>HVI.out _ e2 rfl) _ hI2
      ·rw[if_neg e];have h1:=PR2.out.rw j (by omega);have h2:=(hR.out.1.block _ (lH h1) (HDI.out j (by omega))).trans h1;refine hkeep (D j) (fun e2=>?_) _ h2;obtain⟨cs,hc⟩:=zaT G1.own e2;exact absurd (zlc hc h2) (by decide),fun r e=>by
      simp[Value.ownBlock] at e;omega⟩)
     have HAP:=hid hap;clear hap hg2 hge hkeep hgx G1 hI2 hfull hlen nI;go_wp2_with (at_builtin;refine Lib.wpList_append_run _ rfl _ _ _ _ rfl (.slice ga k gc) (.slice (some ⟨wr.heap.size,0,none⟩) 1 1) rfl rfl _ _ (HAP.out _) ?_)
     exact⟨⟨k+1,by omega,by simp,⟨_,_,rfl⟩,hid ⟨_,D3.out⟩⟩,by simp[intOf];omega⟩
  ·obtain rfl:k=x.o:=(by omega);have hki:¬(x.o:Int)<(x.o:Int):=(by omega);go_wp2_with fail;go_ret;exact⟨ga,gc,rfl,D,PR.out⟩
end Go.Proofs.YtgjdmkfpmokkaaaGreatDoor
