import Derived.Test.YtgjdmkfpmokkaaaGreatDoorYj
set_option maxRecDepth 1000000
set_option maxHeartbeats 80000000
namespace Go.Proofs.YtgjdmkfpmokkaaaGreatDoor
open Go.RowKit
set_option linter.unusedVariables false
theorem zkb{w W wb lw sb x t fr ls S al c fa fc va vc ca cc pa pc}(L0:L7 w W wb lw sb x t fr ls S al c fa fc va vc ca cc pa pc)(p:Nat)(hp:p<18446744073709551616)(od:Int)
  (hbad:¬(x.base≤p∧(p-x.base)%4096=0∧p-x.base<4096*t.m.n)∨(S.c ((p-x.base)/4096)).isSome=true):
  Calls Tryz.prog 59 #[.pointer (some ⟨wb,0,none⟩),.int .u64 (p:Int),.int .i64 od] W fun e w'=>e=.returned (.int .i64 1)∧Kt nO W w':=by
 obtain⟨h0,o0⟩:=L0.so;have f:=o0.f7 L0.ae;have hn1:=f.n1;have hb63:x.base≤9223372036854775808:=by have:=f.b63;omega
 have BX:=hid (fun W' (kk:Kt nO W W')=>(L0.keep kk).bx);have SL:=hid (fun W' (kk:Kt nO W W')=>zf4 (L0.keep kk) p hp);obtain⟨m,hm⟩:=xe (ls.length);obtain⟨n,hn⟩:=xe (al.length);obtain⟨b,hb⟩:=xe (x.base);obtain⟨l,hl⟩:=xe (x.lim);obtain⟨oo,hoo⟩:=xe (x.o);obtain⟨Pn,hPn⟩:=xe (t.m.n);rw[←hm,←hn,←hb,←hl,←hoo,←hPn] at BX;rw[←hb] at SL hbad hb63;rw[←hPn] at hbad hn1;clear L0 o0 f hm hn hb hl hoo hPn;obtain⟨c0,c1,c2,c3,c4,c5,c6,c7,c8,c9,c10,c11,c12,c13,cf⟩:=wc7 (BX.out _ (Kt.refl nO W));have D:=hid (fun r=>show Kt nO W (W.drewN r)from(Kt.refl nO W).drewN r);obtain⟨d,hd⟩:=xe (p-b);obtain⟨r,hr⟩:=xe (d%4096);obtain⟨z,hz⟩:=xe (4096*Pn);have hzi:(4096:Int)*(Pn:Int)=(z:Int):=by omega
 have hzw:IntKind.u64.wrap (z:Int)=(z:Int):=by rw[wrap_u64];omega
 have hPw:IntKind.u64.wrap (Pn:Int)=(Pn:Int):=by rw[wrap_u64];omega
 rw[←hd,←hr,←hz] at hbad;by_cases h1:b≤p
 ·have hd1:decide ((p:Int)<(b:Int))=false:=decide_eq_false (by omega);have hd2:(b:Int)≤(p:Int):=by omega
  have hdi:(p:Int)-(b:Int)=(d:Int):=by omega
  have hdn:p-b=d:=hd.symm;have hd1n:decide (p<b)=false:=decide_eq_false (by omega);have hdw:IntKind.u64.wrap (d:Int)=(d:Int):=by rw[wrap_u64];omega
  have hri:(d:Int).tmod 4096=(r:Int):=by rw[hr,Int.tmod_eq_emod_of_nonneg (by omega)];rfl
  have hrw:IntKind.u64.wrap (r:Int)=(r:Int):=by rw[wrap_u64];omega
  by_cases h2:r=0
  ·have hr0:(r:Int)=0:=(by omega);have hr1:((r:Int) != 0)=false:=(by rw[hr0];rfl);by_cases h3:d<z
   ·have hz1:decide ((z:Int)≤(d:Int))=false:=decide_eq_false (by omega);have hz2:(d:Int)<(z:Int):=(by omega);have hS:(decide (b≤p) && (S.c ((p-b)/4096%1099511627776)).isSome)=true:=by
     rw[decide_eq_true h1,Bool.true_and,←hd,Nat.mod_eq_of_lt (by omega)];rcases hbad with e|e
     ·exact absurd ⟨h1,h2,h3⟩ e
     ·exact e
    rw[hS] at SL;have hz3:decide (z≤d)=false:=decide_eq_false (by omega);have hz4:d<z:=h3;clear hS hbad hd hr hz D h2;rw[hr0] at hri hrw;clear hr0 hr1;have KD:=hid ((Kt.refl nO W).drew);clear c0 c1 c2 c3 c4 c5 c6 c7 c8 c9 c10 c11 c12 c13 cf;obtain⟨c0,c1,c2,c3,c4,c5,c6,c7,c8,c9,c10,c11,c12,c13,cf⟩:=wc7 (BX.out _ KD.out);go_enter Tryz.func59,Tryz.ntmps59;go_wp2_with fail;go_region_held3 (fun w'=>w'.cell? ⟨wb,0,none⟩=some (.int .u64 (b:Int))∧w'.cell? ⟨wb,9,none⟩=some (.int .i64 (Pn:Int))) ((refine⟨?_,?_⟩ <;> with_reducible assumption)) (first
     | (go_at_call 119;(with_reducible refine(SL.out _ KD.out).mono ?_);rintro e w5 ⟨rfl,hk5⟩;have K5:=hid (nT KD.out hk5);obtain⟨d0,d1,d2,d3,d4,d5,d6,d7,d8,d9,d10,d11,d12,d13,df⟩:=wc7 (BX.out _ K5.out);clear hk5)
     | fail)
    all_goals
     have D:=K5;go_wp2_with fail;go_ret;exact⟨rfl,D.out⟩
   ·have hz1:decide ((z:Int)≤(d:Int))=true:=decide_eq_true (by omega);have hz2:(z:Int)≤(d:Int):=(by omega);have hz3:decide (z≤d)=true:=decide_eq_true (by omega);clear hd hr hz h1 h2 h3 hbad;rw[hr0] at hri hrw;clear hr0 hr1;go_enter Tryz.func59,Tryz.ntmps59;go_wp2_with fail;go_quiet (fail)
    go_wp2_with fail;go_ret;exact⟨rfl,D.out _⟩
  ·have hr0:¬(r:Int)=0:=(by omega);have hr1:((r:Int) != 0)=true:=bne_iff_ne.2 hr0;have hr2:(r != 0)=true:=bne_iff_ne.2 h2;clear hd hr hz h1 hbad;go_enter Tryz.func59,Tryz.ntmps59;go_wp2_with fail;go_quiet (fail)
   go_wp2_with fail;go_ret;exact⟨rfl,D.out _⟩
 ·have hd1:decide ((p:Int)<(b:Int))=true:=decide_eq_true (by omega);have hd2:(p:Int)<(b:Int):=by omega
  go_enter Tryz.func59,Tryz.ntmps59;go_wp2_with fail;go_quiet (fail)
  go_wp2_with fail;go_ret;exact⟨rfl,D.out _⟩
theorem SO.back_no{w W sb lw x t fr ls S h}(o:SO w W sb lw x t fr ls S h)(p:Nat)(od:Int)
  (hbad:¬(x.base≤p∧(p-x.base)%4096=0∧p-x.base<4096*t.m.n)∨(S.c ((p-x.base)/4096)).isSome=true):zbh (bigL x ls) (pgV x.base t.m.n p) od=false:=by
 cases e:zbh (bigL x ls) (pgV x.base t.m.n p) od with
 | false=>rfl
 | true=>
  exfalso
  unfold zbh at e;rw[List.any_eq_true] at e;obtain⟨⟨q,j⟩,h1,h2⟩:=e;rw[Bool.and_eq_true,decide_eq_true_iff,decide_eq_true_iff] at h2;obtain⟨h1,h3⟩:=zfC.1 h1;have hc:S.c q=none:=by
   cases e:S.c q with
   | none=>rfl
   | some c=>
    rw[o.si.eP,zaQ e] at h3
    cases h3
  have h4:(q:Int)=pgV x.base t.m.n p:=h2.1;have hbm:=o.bm;unfold pgV at h4;split at h4
  ·rename_i h5;have h6:q=(p-x.base)/4096:=(by omega);rcases hbad with hb|hb
   ·exact hb ⟨h5.1,by omega,h5.2.2⟩
   ·rw[←h6,hc] at hb
    cases hb
  ·omega
theorem zcu{w W wb lw sb x t fr ls S al c fa fc va vc ca cc pa pc}(L:L7 w W wb lw sb x t fr ls S al c fa fc va vc ca cc pa pc)(N rf:Int)(dn:Bool)(P:Int)(p:Nat)(hp:p<18446744073709551616)
  (hbad:¬(x.base≤p∧(p-x.base)%4096=0∧p-x.base<4096*t.m.n)∨(S.c ((p-x.base)/4096)).isSome=true):
  Calls Tryz.prog 21 #[.pointer (some ⟨wb,0,none⟩),stV 4 N rf dn P,.int .u64 (p:Int)] W fun e w'=>e=.returned (.bool true)∧St7 w W wb lw (c+1) x sb w':=by
 obtain⟨h0,o0⟩:=L.so;have ka:=(Kt.refl nO W).alloc (stO 4 N rf dn P);have K0:=hid ka;have Y0:=hid (nH W (stO 4 N rf dn P));have HST:=hid (fun W' (kk:Kt nO W W')=>L.st kk);have BK:=hid (fun W' (kk:Kt nO W W')=>zkb (L.keep kk) p hp N hbad);have GN:=hid (fun W' (kk:Kt nO W W')=>zgo (o0.keep kk).po p hp N ((o0.keep kk).back_no p N hbad));have BX:=hid (fun W' (kk:Kt nO W W')=>(L.keep kk).bx);clear L o0 ka hbad;go_enter Tryz.func21,Tryz.ntmps21;go_upto_region 1 with fail;generalize W.alloc (stO 4 N rf dn P)=W0 at *;obtain⟨y0,y1,y2,y3,y4⟩:=stc Y0.out;obtain⟨c0,c1,c2,c3,c4,c5,c6,c7,c8,c9,c10,c11,c12,c13,cf⟩:=wc7 (BX.out _ K0.out);go_wp2_with fail;refine(BK.out _ K0.out).mono ?_;rintro e w1 ⟨rfl,hk1⟩;have K1:=hid (nT K0.out hk1);have Y1:=hid ((hk1.block _ (lH Y0.out) (fun e=>e)).trans Y0.out);clear hk1 c0 c1 c2 c3 c4 c5 c6 c7 c8 c9 c10 c11 c12 c13 cf y0 y1 y2 y3 y4;go_upto_region 10 with fail;have KD:=hid (nT K1.out ((Kt.refl nO w1).drew));have YD:=hid (fun W' (kk:Kt nO w1 W')=>stc ((kk.block _ (lH Y1.out) (fun e=>e)).trans Y1.out));have KW:=hid ((Kt.refl nO w1).drew);obtain⟨y0,y1,y2,y3,y4⟩:=YD.out _ KW.out;obtain⟨c0,c1,c2,c3,c4,c5,c6,c7,c8,c9,c10,c11,c12,c13,cf⟩:=wc7 (BX.out _ KD.out);go_wp2_with fail;go_region_held3 (fun w'=>w'.cell? ⟨wb,3,none⟩=some (.pointer (some ⟨lw,0,none⟩))∧w'.cell? ⟨W.heap.size,1,none⟩=some (.int .i64 N)) ((refine⟨?_,?_⟩ <;> with_reducible assumption)) (first
  | (go_at_call 60;(with_reducible refine(GN.out _ KD.out).mono ?_);rintro e w2 ⟨rfl,hk2⟩;have K2:=hid (nT KD.out hk2);obtain⟨d0,d1,d2,d3,d4,d5,d6,d7,d8,d9,d10,d11,d12,d13,df⟩:=wc7 (BX.out _ K2.out);obtain⟨z0,z1,z2,z3,z4⟩:=YD.out _ (nT KW.out hk2);clear hk2)
  | fail)
 all_goals
  have D:=hid (HST.out _ K2.out);go_wp2_with fail;go_ret;exact⟨rfl,D.out⟩
theorem A7.same{w V w' sb lw x t fr ls S h al}(o:SO w V sb lw x t fr ls S h)(lv:Lve S)(a:AL al S.c S.fl)(k:Kt nO V w'):A7 w V w' sb lw x fr ls al S.pl t.m.n:=
 ⟨⟨x,t,S,h,o.keep k,lv,a,rfl,rfl,rfl,rfl,rfl,fun y e=>.inl e⟩,k.mono (fun _ _ e=>e.elim)⟩
theorem zie{w W sb lw x t fr ls S h al fa fc va vc ca cc pa pc}(o:SO w W sb lw x t fr ls S h)(lv:Lve S)(a:AL al S.c S.fl)(nd:(ls.map Prod.fst).Nodup)(hls:ls.length≤900)(p:Nat)(hp:p<18446744073709551616)(od:Int)(g:Nat)(hg:g=(p-x.base)/4096)
  (hok:x.base≤p∧(p-x.base)%4096=0∧p-x.base<4096*t.m.n) (hc:S.c g=none):∃ (er:Nat) (fr':Nat→List Nat) (ls':List (Nat×Nat)),er≤1∧(ls'.map Prod.fst).Nodup∧ls'.length≤ls.length∧
  (∀ V,D7 V x.o fa fc va vc ca cc pa pc fr ls al S.pl→Calls Tryz.prog 106 #[r5V (x.o:Int) (t.m.n:Int) (.slice fa (x.o+1) fc) (.slice va ls.length vc),.int .i64 (g:Int),.int .i64 od] V fun e w'=>V5P V (x.o:Int) (t.m.n:Int) x.o fr' ls' er e w')∧
  (∀ V h,SO w V sb lw x t fr ls S h→Calls Tryz.prog 60 #[.pointer (some ⟨lw,0,none⟩),.int .u64 (p:Int),.int .i64 od] V fun e w'=>e=.returned (.int .i64 (er:Int))∧A7 w V w' sb lw x fr' ls' al S.pl t.m.n):=by
 have f:=o.f7 a;have hn1:=f.n1;have hbm:=o.bm;obtain⟨h1,h2,h3⟩:=hok;have hpg:pgV x.base t.m.n p=(g:Int):=by
  unfold pgV;rw[if_pos ⟨h1,by omega,h3⟩,hg]
 have hap:p=ad x g:=by
  show p=x.base+4096*g
  omega
 cases e:zbh ls (g:Int) od with
 | true=>
  have e':=e;unfold zbh at e';rw[List.any_eq_true] at e';obtain⟨⟨q,j⟩,m1,m2⟩:=e';rw[Bool.and_eq_true,decide_eq_true_iff,decide_eq_true_iff] at m2;have hq:q=g:=by have:=m2.1;simp at this;omega
  have hj:od=(j:Int):=m2.2.symm;subst hq;subst hj;have hlb:=f.lb q j m1;refine⟨0,zbt x.o fr q j,zam ls q,by omega,zio nd q,ziq ls q,fun V d=>?_,fun V h' o'=>?_⟩
  ·exact zl7 x.o f.o8 (t.m.n:Int) fa fc va vc fr f.fl ls (by omega) q j (by omega) hlb.1 m1 V d.fl d.rn
  ·refine(K.Give6_yes o'.po q j m1 (by rw[o'.si.eP];exact zaP hc) p hap).mono ?_;rintro e w' ⟨rfl,t',po',hn,kk,bk⟩;have o2:=o'.pool po' (Sm.refl _) bk (fun b c hb=>List.mem_filter.2 ⟨(o'.mem hb).1,decide_eq_true fun e=>by
    have e:b=q:=e;rw[e,hc] at hb
    cases hb⟩) kk
   exact⟨rfl,⟨x,t',S,h',o2,lv,a,rfl,hn,rfl,rfl,rfl,fun y e=>.inl e⟩,kk.mono (fun _ _ e=>.inl e)⟩
 | false=>
  refine⟨1,fr,ls,by omega,nd,Nat.le_refl _,fun V d=>zkw x.o (x.o:Int) (t.m.n:Int) fa fc va vc fr ls (by omega) (g:Int) od e V d.fl d.rn,fun V h' o'=>?_⟩;refine(zgo o'.po p hp od ?_).mono ?_
  ·rw[hpg]
   cases e2:zbh (bigL x ls) (g:Int) od with
   | false=>rfl
   | true=>
    unfold zbh at e e2;rw[List.any_eq_true] at e2;obtain⟨y,m1,m2⟩:=e2;rw[List.any_eq_false] at e;exact absurd m2 (e y (List.mem_filter.1 m1).1)
  ·rintro e w' ⟨rfl,hk⟩;exact⟨rfl,A7.same o' lv a hk⟩
end Go.Proofs.YtgjdmkfpmokkaaaGreatDoor
