import Derived.Test.YtkfmheelhinjdaaGreatDoorZf
import Derived.Test.YtkfmheelhinjdaaGreatDoorZd
import Derived.Deep.RegionLaw
set_option maxRecDepth 1000000
set_option maxHeartbeats 80000000
namespace Go.Proofs.YtkfmheelhinjdaaGreatDoor
open _root_.Go.Proofs.Tryz
open Go.RowKit
set_option linter.unusedVariables false
def cJ(n:Nat)(x:Int):Bool:=x == -1 || aC n x
theorem bH.f45{w g n pg}(h:bH w g n pg)(i:Nat)(hi:i<n)(x y:Int):bH ((w.setCell ⟨g,i*11+4,none⟩ (.int .i64 x)).setCell ⟨g,i*11+5,none⟩ (.int .i64 y)) g n (aJ pg i { pg i with nx:=x,pv:=y }):=by
 have:=(aU.set h i 4 hi (by decide) (.int .i64 x)).set i 5 hi (by decide) (.int .i64 y);refine aU.congr this (fun a ha b hb=>qK a b hb (fun j hj=>?_) (fun e=>?_))
 ·revert j
  apply jR <;> simp[kM,Pg.fld]
 ·simp[kM,e]
theorem VW(b:Nat)(B:Bs)(m:Mp)(i x y:Int)(w:World)(h:MpA w b B m)(hi:aC m.n i=false):
  Calls prog 250 #[.pointer (some ⟨b,0,none⟩),.int .i64 i,.int .i64 x,.int .i64 y] w fun e w'=>e=.returned (.int .i64 1)/\w'=w:=by
 have HM:=aA h;have HI:=aA hi;clear h hi;go_enter func250,ntmps250;go_wp2_with fail;refine(tC b B m i _ HM.out HI.out).mono ?_;rintro e w1 ⟨rfl,rfl⟩;go_wp2_with fail;go_ret;exact⟨rfl,rfl⟩
theorem XD(b:Nat)(B:Bs)(m:Mp)(k:Nat)(x y:Int)(w:World)(h:MpA w b B m)(hk:k<m.n)(hkd:(m.pg k).kd≠4):
  Calls prog 250 #[.pointer (some ⟨b,0,none⟩),.int .i64 k,.int .i64 x,.int .i64 y] w fun e w'=>e=.returned (.int .i64 1)/\w'=w:=by
 have HM:=aA h;obtain⟨g,hg,hr⟩:=h.has_row (by omega);have S:=aA (kA b B m g k w h hg hk);rw[if_neg hkd] at S;clear h hr hg;go_enter func250,ntmps250;go_wp2_with fail;refine S.out.mono ?_;rintro e w1 ⟨rfl,rfl⟩;go_wp2_with fail;go_ret;exact⟨rfl,rfl⟩
theorem XB(b:Nat)(B:Bs)(m:Mp)(k:Nat)(x y:Int)(w:World)(h:MpA w b B m)(hk:k<m.n)(hkd:(m.pg k).kd=4)(hx:x ≠ -1)(hx2:aC m.n x=false):
  Calls prog 250 #[.pointer (some ⟨b,0,none⟩),.int .i64 k,.int .i64 x,.int .i64 y] w fun e w'=>e=.returned (.int .i64 1)/\w'=w:=by
 have HM:=aA h;obtain⟨g,hg,hr⟩:=h.has_row (by omega);have S:=aA (kA b B m g k w h hg hk);rw[if_pos hkd] at S;have HX:=aA hx2;clear h hr hg hx2;go_enter func250,ntmps250;go_wp2_with fail;refine S.out.mono ?_;rintro e w1 ⟨rfl,rfl⟩;go_wp2_with fail;refine(eR b B m x _ HM.out).mono ?_;rintro e w1 ⟨rfl,rfl⟩;rw[HX.out];go_wp2_with fail;go_ret;exact⟨rfl,rfl⟩
theorem AY(b:Nat)(B:Bs)(m:Mp)(k:Nat)(x y:Int)(w:World)(h:MpA w b B m)(hk:k<m.n)(hkd:(m.pg k).kd=4)(hx:cJ m.n x=true)(R:Int)(W:World)
  (hR:(cJ m.n y=false/\R=1/\W=w)\/(cJ m.n y=true/\R=0/\∃ g,B.g=some g/\W=(w.setCell ⟨g,k*11+4,none⟩ (.int .i64 x)).setCell ⟨g,k*11+5,none⟩ (.int .i64 y))):
  Calls prog 250 #[.pointer (some ⟨b,0,none⟩),.int .i64 k,.int .i64 x,.int .i64 y] w fun e w'=>e=.returned (.int .i64 R)/\w'=W:=by
 have HM:=aA h;obtain⟨g,hg,hr⟩:=h.has_row (by omega);have S:=aA (kA b B m g k w h hg hk);rw[if_pos hkd] at S;have HX:=aA hx;obtain⟨d0,d1,d2,d3,d4,d5,d6,d7,d8,d9,d10⟩:=hr.cell k hk;have z:=aU.froz hr;have hR2:(cJ m.n y=false/\R=1/\W=w)\/(cJ m.n y=true/\R=0/\W=(w.setCell ⟨g,k*11+4,none⟩ (.int .i64 x)).setCell ⟨g,k*11+5,none⟩ (.int .i64 y)):=by
  rcases hR with h|⟨h1,h2,g',hg',h3⟩
  ·exact .inl h
  ·rw[hg] at hg'
   cases hg'
   exact .inr ⟨h1,h2,h3⟩
 have HR:=aA hR2;clear h hr hg hx hR hR2 d0 d1 d2 d3 d6 d7 d8 d9 d10;by_cases hx1:x = -1
 all_goals by_cases hy1:y = -1
 ·subst hx1 hy1;have hR3:=(HR.out.resolve_left (fun h=>by simp[cJ] at h)).2;obtain⟨rfl,rfl⟩:=hR3;clear HR;go_enter func250,ntmps250;go_wp2_with fail;refine S.out.mono ?_;rintro e w1 ⟨rfl,rfl⟩;go_wp2_with fail;go_ret;exact⟨rfl,rfl⟩
 ·subst hx1;go_enter func250,ntmps250;go_wp2_with fail;refine S.out.mono ?_;rintro e w1 ⟨rfl,rfl⟩;go_wp2_with fail;refine(eR b B m y _ HM.out).mono ?_;rintro e w2 ⟨rfl,rfl⟩;rcases HR.out with ⟨h1,rfl,rfl⟩|⟨h1,rfl,rfl⟩
  ·rw[show aC m.n y=false by simpa [cJ,hy1] using h1];clear h1 HR;go_wp2_with fail;go_ret;exact⟨rfl,rfl⟩
  ·rw[show aC m.n y=true by simpa [cJ,hy1] using h1];clear h1 HR;go_wp2_with fail;go_ret;exact⟨rfl,rfl⟩
 ·subst hy1;have hR3:=(HR.out.resolve_left (fun h=>by simp[cJ] at h)).2;obtain⟨rfl,rfl⟩:=hR3;have HX2:=aA (show aC m.n x=true by simpa [cJ,hx1] using HX.out);clear HR;go_enter func250,ntmps250;go_wp2_with fail;refine S.out.mono ?_;rintro e w1 ⟨rfl,rfl⟩;go_wp2_with fail;refine(eR b B m x _ HM.out).mono ?_;rintro e w2 ⟨rfl,rfl⟩;rw[HX2.out];go_wp2_with fail;go_ret;exact⟨rfl,rfl⟩
 ·have HX2:=aA (show aC m.n x=true by simpa [cJ,hx1] using HX.out);go_enter func250,ntmps250;go_wp2_with fail;refine S.out.mono ?_;rintro e w1 ⟨rfl,rfl⟩;go_wp2_with fail;refine(eR b B m x _ HM.out).mono ?_;rintro e w2 ⟨rfl,rfl⟩;rw[HX2.out];go_wp2_with fail;refine(eR b B m y _ HM.out).mono ?_;rintro e w2 ⟨rfl,rfl⟩;rcases HR.out with ⟨h1,rfl,rfl⟩|⟨h1,rfl,rfl⟩
  ·rw[show aC m.n y=false by simpa [cJ,hy1] using h1];clear h1 HR;go_wp2_with fail;go_ret;exact⟨rfl,rfl⟩
  ·rw[show aC m.n y=true by simpa [cJ,hy1] using h1];clear h1 HR;go_wp2_with fail;go_ret;exact⟨rfl,rfl⟩
def gR(wd:Nat->List Nat)(k:Nat)(ws:List Nat):Nat->List Nat:=fun j=>if j=k then ws else wd j
theorem MpA.words{w w' b B m}{ws:List Nat}(h:MpA w b B m)(k:Nat)(hk:k<m.o)(kp:Kt (fun x=>x=B.C k) w w')(hS:SetAt w' (B.S k) (B.C k) (m.n/2 ^ (k+1)) ws):MpA w' b B { m with wd:=gR m.wd k ws }:=by
 obtain⟨cq,hb,hp⟩:=h.hb;have s0:=h.set k hk;refine⟨h.o8,h.n1,h.dv,⟨cq,(kp.block b (lH hb) (bT hb s0.hc (by decide))).trans hb,hp.kept kp (fun x e=>?_)⟩,Rows.kept h.row kp (fun x e=>?_),fun j hj=>?_,h.injS,h.injC,h.ok⟩
 ·rw[e] at hp;obtain⟨ds,hq,_⟩:=hp;exact bT hq s0.hc (by decide)
 ·have hr:=h.row;rw[e] at hr;obtain⟨cs,hgb,_⟩:=hr;exact bT hgb s0.hc (by decide)
 ·show SetAt w' (B.S j) (B.C j) (m.n/2 ^ (j+1)) (gR m.wd k ws j)
  unfold gR;by_cases e:j=k
  ·rw[if_pos e,e];exact hS
  ·rw[if_neg e];have s:=h.set j hj;exact s.kept kp (bT s.hb s0.hc (by decide)) (fun e2=>e (h.injC j k hj hk e2))
theorem KU(i k:Nat)(hk:k<8)(W:World):Sem.run prog (Op.shift BinOp.shr IntKind.i64 (i:Int) IntKind.i64 (IntKind.i64.wrap ((k:Int)+1))) W=Result.ok (.int .i64 ((i/2 ^ (k+1):Nat):Int)) W:=by
 have hw:IntKind.i64.wrap ((k:Int)+1)=((k+1:Nat):Int):=by rw[IntKind.wrap_i64];omega
 rw[hw];unfold Op.shift;simp[go_sem];rw[if_neg (by omega),Nat.min_eq_left (by omega),Int.fdiv_eq_ediv_of_nonneg _ (Int.le_of_lt (Int.pow_pos (by decide)))]
theorem KR(b:Nat)(B:Bs)(m:Mp)(k i:Int)(w:World)(h:MpA w b B m)(hp:(aC m.o k && aC m.n i)=false):
  Calls prog 258 #[.pointer (some ⟨b,0,none⟩),.int .i64 k,.int .i64 i] w fun e w'=>e=.returned (.tuple #[.bool false,.int .i64 1])/\Kt nO w w':=by
 have HM:=aA h;have HP:=aA hp;clear h hp;go_enter func258,ntmps258;go_wp2_with fail;refine(pP b B m k i _ HM.out).mono ?_;rintro e w1 ⟨rfl,rfl⟩;rw[HP.out];go_wp2_with fail;exact⟨rfl,_,by simp[results,results258,go_sem],rfl,Kt.refl nO _⟩
theorem KQ(b:Nat)(B:Bs)(m:Mp)(k i:Nat)(w:World)(h:MpA w b B m)(hk:k<m.o)(hi:i<m.n):
  Calls prog 258 #[.pointer (some ⟨b,0,none⟩),.int .i64 k,.int .i64 i] w fun e w'=>e=.returned (.tuple #[.bool (cA (m.n/2 ^ (k+1)) (fO (m.n/2 ^ (k+1)) (m.wd k) ((i/2 ^ (k+1):Nat):Int)) ((i/2 ^ (k+1):Nat):Int)),.int .i64 0])/\MpA w' b B { m with wd:=gR m.wd k (fO (m.n/2 ^ (k+1)) (m.wd k) ((i/2 ^ (k+1):Nat):Int)) }/\Kt (aM b B m.o) w w':=by
 have HM:=aA h;have HP:=aA (show(aC m.o (k:Int) && aC m.n (i:Int))=true by rw[dI hk,dI hi];rfl);obtain⟨q,hq,cp⟩:=h.cp k hk;obtain⟨cq,c2⟩:=h.c2 hq;have FL:=aA (fun w' (kk:Kt nO w w')=>uC (B.S k) (B.C k) _ (m.wd k) ((i/2 ^ (k+1):Nat):Int) w' ((h.set k hk).kept kk (fun x=>x) (fun x=>x)));have hk8:k<8:=by have:=h.o8;omega
 have hi10:i<1024:=by have:=h.n1;omega
 have hki:(k:Int)<m.o:=by omega
 have hsh:=KU i k hk8;have HK:=aA hk;have HI:=aA hi;clear h hq hk hi;go_enter func258,ntmps258;go_wp2_with fail;refine(pP b B m k i _ HM.out).mono ?_;rintro e w1 ⟨rfl,rfl⟩;rw[HP.out];go_wp2_with fail;go_region_with ((go_at_call 285;refine(FL.out _ (Kt.refl nO w1).drew).mono ?_;rintro e w2 ⟨rfl,hS,hK,hsz⟩))
 all_goals
  have M2:=aA ((HM.out.keep (Kt.refl nO _).drew).words k HK.out hK hS);have K2:=aA (show Kt (aM b B m.o) w1 w2 from(Kt.refl nO w1).drew.trans hK (fun _ _ x=>x.elim) (fun x _ e=>.inr (.inr (.inr ⟨k,HK.out,.inr e⟩))));clear hS hK hsz;have PI:=aA (OE b B _ k i w2 M2.out HK.out HI.out);go_wp2_with fail;refine PI.out.mono ?_;rintro e w3 ⟨rfl,hK3⟩;have M3:=aA (M2.out.keep hK3);have K3:=aA (K2.out.trans (U:=aM b B m.o) hK3 (fun _ _ x=>x) (fun _ _ x=>x.elim));clear hK3;go_wp2_with fail;exact⟨rfl,_,by simp[results,results258,go_sem,gR],rfl,M3.out,K3.out⟩
def ptr(s:Nat):Value:=.pointer (some ⟨s,0,none⟩)
def PL(w:World)(v:Value)(xs:List Nat):Prop:=w.ownsRow 0 150 1 v xs.length (xs.map ptr)
theorem TD:(prog.info? 150).map (fun i=>(i.zero,i.size,i.bytes))=some (some (.pointer none),1,8):=by kernel_rfl
theorem zdA:∃ i,prog.info? 150=some i/\i.zero=some (.pointer none)/\i.size=1/\i.bytes=8:=by
 obtain⟨i,hi,hzz⟩:=Option.map_eq_some_iff.1 TD;simp only[Prod.mk.injEq] at hzz;exact⟨i,hi,hzz.1,hzz.2.1,hzz.2.2⟩
theorem nS{w w':World}{row:Option Nat}(h:w.grownBy w' row):Kt (fun b=>row=some b) w w':=⟨h.os,h.tape,h.output,h.size,fun k hk hn=>h.block k hk (fun e=>hn e.symm)⟩
theorem PL.blk{w v xs r}(h:PL w v xs)(hr:v.ownBlock=some r):∃ cs,w.heap[r]?=some (.cells cs 150 (0,0)):=by
 rcases h.2 with ⟨rfl,_⟩|⟨g,cap,cur,rfl,hb,hg,h3⟩
 ·simp[Value.ownBlock] at hr
 ·simp[Value.ownBlock] at hr;subst hr;exact⟨_,hg⟩
theorem PL.kept{w w' v xs}{S:Nat->Prop}(h:PL w v xs)(k:Kt S w w')(hS:∀ r,v.ownBlock=some r->¬S r):PL w' v xs:=by
 refine⟨h.1,?_⟩;rcases h.2 with h0|⟨g,cap,cur,rfl,hb,hg,h3⟩
 ·exact .inl h0
 ·exact .inr ⟨g,cap,cur,rfl,hb,(k.block g (lH hg) (hS g rfl)).trans hg,h3⟩
theorem PL.push(w:World)(v:Value)(xs:List Nat)(x:Nat)(h:PL w v xs)(hlen:xs.length+1<=8)(a:Addr)(c:Nat)(ha:w.cell? (a.add 0)=some (ptr x)):
  ∃ v' w',(∀ ty,(Builtin.append_ #[147,147] ty #[v,.slice (some a) 1 c]).run prog w=.ok v' w')/\PL w' v' (xs ++ [x])/\Kt (fun b=>v.ownBlock=some b) w w'/\
   (v'.ownBlock=v.ownBlock\/∃ r,v'.ownBlock=some r/\w.heap.size<=r)/\∃ g cap,v'=.slice (some ⟨g,0,none⟩) (xs.length+1) cap:=by
 obtain⟨i,hi,hz0,hz1,hz2⟩:=zdA;have hmax:xs.length+1<=maxLen:=by simp only[maxLen];omega
 have hnews:∀ j u,[ptr x][j]?=some u->w.cell? (a.add j)=some u:=by
  intro j u hj;match j,hj with
  | 0,hj=>simp at hj;subst hj;exact ha
  | j+1,hj=>simp at hj
 have hmap:(xs ++ [x]).map ptr=xs.map ptr ++ [ptr x]:=by simp
 have hl1:(xs ++ [x]).length=xs.length + 1:=by simp
 by_cases hr:∃ g cap,v=.slice (some ⟨g,0,none⟩) xs.length cap/\xs.length+1<=cap
 ·obtain⟨g,cap,rfl,hroom⟩:=hr;obtain⟨w',hrun,hown,hgr⟩:=run_append_fits (P:=prog) w 0 147 0 150 i 1 Tryz.underlying147 hi hz1 g xs.length cap (xs.map ptr) h a 1 c [ptr x] rfl hnews (by simp[Value.oneCell',ptr]) hroom;refine⟨.slice (some ⟨g,0,none⟩) (xs.length+1) cap,w',fun ty=>?_,?_,nS hgr,.inl rfl,g,cap,rfl⟩
  ·rw[<-hrun];simp[Builtin.append_]
  ·unfold PL;rw[hmap,hl1];exact hown
 ·have key:∃ v' w',(Builtin.append_ #[147,147] 0 #[v,.slice (some a) 1 c]).run prog w=.ok v' w'/\w'.ownsRow w.heap.size 150 1 v' (xs.length + 1) (xs.map ptr ++ [ptr x])/\Kt (fun b=>v.ownBlock=some b) w w':=by
   have ho:=h;rcases ho.2 with ⟨rfl,h0⟩|⟨g,cap,cur,rfl,hb,hg,hnc,hcm,hcs,htake⟩
   ·have:xs=[]:=List.eq_nil_of_length_eq_zero h0;subst this;obtain⟨v',w',hrun,hown,hgr,_⟩:=run_append_own (P:=prog) w w.heap.size 147 0 150 i (.pointer none) 1 8 Tryz.underlying147 hi hz0 hz1 hz2 rfl (by decide) (.slice none 0 0) 0 [] (World.ownsRow_nil _ _ _ _) a 1 c [ptr x] rfl hnews (by simp[Value.oneCell',ptr]) hmax (by simp) (Nat.le_refl _);exact⟨v',w',hrun,hown,nS hgr⟩
   ·obtain⟨v',w',hrun,hown,hgr⟩:=run_append_arg_grows (P:=prog) w 147 0 150 i (.pointer none) 1 8 Tryz.underlying147 hi hz0 hz1 hz2 rfl (by decide) ⟨g,0,none⟩ xs.length cap (xs.map ptr) (by simp) (fun j u hj=>by
     rw[Addr.add_lit,Nat.zero_add];rw[<-htake,List.getElem?_take] at hj;split at hj
     ·simp only[World.cell?,hg];rw[<-Array.getElem?_toList,hj];rfl
     ·cases hj) a 1 c [ptr x] rfl hnews (Nat.lt_of_not_le fun hle=>hr ⟨g,cap,rfl,hle⟩) hmax (by omega)
    exact⟨v',w',hrun,hown,(nS hgr).mono (fun _ _ e=>by cases e)⟩
  obtain⟨v',w',hrun,hown,hk⟩:=key;rcases hown.2 with ⟨_,h0⟩|⟨g,cap,cur,rfl,hb,hg,h3⟩
  ·omega
  ·refine⟨_,w',fun ty=>?_,?_,hk,.inr ⟨g,rfl,hb⟩,g,cap,rfl⟩
   ·rw[<-hrun];simp[Builtin.append_]
   ·unfold PL;rw[hmap,hl1];exact⟨hown.1,.inr ⟨g,cap,cur,rfl,Nat.zero_le _,hg,h3⟩⟩
theorem rJ(w:World)(v:Value)(t:TypeId):(w.alloc (.cells #[v] t)).cell? ⟨w.heap.size,0+0,none⟩=some v:=by
 have:=nH w (.cells #[v] t);simp only[World.cell?,this];rfl
structure Pushed(w w':World)(v v':Value)(xs:List Nat)(x:Nat):Prop where
 pl:PL w' v' (xs ++ [x])
 kp:Kt (fun b=>v.ownBlock=some b) w w'
 ob:v'.ownBlock=v.ownBlock\/∃ r,v'.ownBlock=some r/\w.heap.size<=r
 sl:∃ g cap,v'=.slice (some ⟨g,0,none⟩) (xs.length+1) cap
theorem tZ{ops:Array Oper}{o:Oper}{a:Act}{w:World}{K:Act->World->Prop}{Q:Exit->Act->World->Prop}{E:Prop}(hgd:o.guard=none)(s x:Operand)
  (hop:o.op=Op.call { callee:=Callee.builtin Builtin.append,args:=#[s,x],argTypes:=#[147,147] }) (v:Value) (xs:List Nat) (n y b:Nat) (c0 c1:Value) (h:PL w v xs) (hn:xs.length=n) (hl:n+1<=8)
  (hb:w.heap[b]?=some (.cells #[c0,c1,v] 149 (0,0))) (ad:Addr) (c:Nat)
  (hs:a.eval s=v) (hx:a.eval x=.slice (some ad) 1 c) (ha:w.cell? (ad.add 0)=some (ptr y))
  (hK:∀ g' cap' w',Hid (Pushed w w' v (.slice (some ⟨g',0,none⟩) (n+1) cap') xs y)->w'.cell? ⟨b,2,none⟩=some v->w'.frozen? ⟨b,2,none⟩=false->K (a.put o.dst (.slice (some ⟨g',0,none⟩) (n+1) cap')) w'):
  if Region.wanted o (yielded ops a.tmps)=true then Oper.wp prog o a w K Q else E:=by
 have hw:Region.wanted o (yielded ops a.tmps)=true:=by simp[Region.wanted,hgd]
 rw[if_pos hw];obtain⟨v',w',hrun,h1,h2,h3,g',cap',rfl⟩:=h.push w v xs y (by omega) ad c ha;rw[hn] at hrun h1 h3;have hrun:=hrun o.type;have hb':w'.heap[b]?=some (.cells #[c0,c1,v] 149 (0,0)):=(h2.block b (lH hb) (fun e=>by
  obtain⟨cs,hcs⟩:=h.blk e;exact bT hb hcs (by decide) rfl)).trans hb
 unfold Oper.wp;simp[execOp,hop,resolve,invoke,builtin,hs,hx,hrun,Result.andThen];exact hK g' cap' w' ⟨h1,h2,h3,g',cap',by rw[hn]⟩ (by simp[World.cell?,hb']) (by simp[World.frozen?,hb'])
theorem uT{ops:Array Oper}{o:Oper}{a:Act}{w:World}{K:Act->World->Prop}{Q:Exit->Act->World->Prop}{E:Prop}(hgd:o.guard=none)
  (hop:o.op=Op.call { callee:=Callee.value (Operand.func 116),args:=#[Operand.const (Value.int .i64 0)],argTypes:=#[3] }) (b:Nat) (v:Value) (hc:w.cell? ⟨b,2,none⟩=some v)
  (hK:∀ W2,Hid (SetAt W2 (w.heap.size+1) w.heap.size 0 [])->Hid (Kt nO w W2)->W2.cell? ⟨b,2,none⟩=some v->K (a.put o.dst (.pointer (some ⟨w.heap.size+1,0,none⟩))) W2):
  if Region.wanted o (yielded ops a.tmps)=true then Oper.wp prog o a w K Q else E:=by
 have hw:Region.wanted o (yielded ops a.tmps)=true:=by simp[Region.wanted,hgd]
 rw[if_pos hw];unfold Oper.wp;simp[execOp,hop,resolve,invoke,Deferred.ofValue,Act.eval,callFunc,Result.andThen,go_sem];rw[if_neg (by decide +kernel),if_neg (by decide +kernel)];show Calls prog 116 _ _ _
 refine(rS 0 (by decide) (by decide) w).mono ?_;rintro e W2 ⟨rfl,hS,hk,hsz⟩;exact hK W2 (RawAt.set hS (fun i hi=>absurd hi (by simp))) hk (hk.cell (fun x=>x) hc)
structure Nw(w W:World)(b o k:Nat)(v:Value)(S C:Nat->Nat):Prop where
 hb:W.heap[b]?=some (.cells #[.int .i64 o,.slice none 0 0,v] 149 (0,0))
 pl:PL W v ((List.range k).map S)
 vs:v=.slice none 0 0/\k=0\/∃ g cap,v=.slice (some ⟨g,0,none⟩) k cap/\w.heap.size<=g
 st:∀ j,j<k->SetAt W (S j) (C j) 0 []
 iS:∀ i j,i<k->j<k->S i=S j->i=j
 iC:∀ i j,i<k->j<k->C i=C j->i=j
 hS:∀ j,j<k->w.heap.size<=S j/\w.heap.size<=C j
 hw:w.heap.size<=b
 kp:Kt nO w W
theorem Nw.next{w W W2 W3 b o k v v' S C}(h:Nw w W b o k v S C)(hS:SetAt W2 (W.heap.size+1) W.heap.size 0 [])(k2:Kt nO W W2)(hp:Pushed W2 W3 v v' ((List.range k).map S) (W.heap.size+1)):
  Nw w (W3.setCell ⟨b,2,none⟩ v') b o (k+1) v' (fun j=>if j=k then W.heap.size+1 else S j) (fun j=>if j=k then W.heap.size else C j):=by
 have hvb:∀ r,v.ownBlock=some r->∃ cs,W.heap[r]?=some (.cells cs 150 (0,0)):=fun r hr=>h.pl.blk hr
 have kv:Kt (fun x=>v.ownBlock=some x) W W3:=k2.trans hp.kp (fun _ _ x=>x.elim) (fun _ _ x=>x);have hb3:W3.heap[b]?=some (.cells #[.int .i64 o,.slice none 0 0,v] 149 (0,0)):=(kv.block b (lH h.hb) (fun e=>by
  obtain⟨cs,hcs⟩:=hvb _ e;exact bT h.hb hcs (by decide) rfl)).trans h.hb
 have ks:Kt (fun x=>x=b) W3 (W3.setCell ⟨b,2,none⟩ v'):=(Kt.refl (fun x=>x=b) W3).setCell (p:=⟨b,2,none⟩) rfl _;have set3:∀ {s c n ws},SetAt W2 s c n ws->SetAt (W3.setCell ⟨b,2,none⟩ v') s c n ws:=fun {s c n ws} hs=>by
  have hvb2:∀ r,v.ownBlock=some r->∃ cs,W2.heap[r]?=some (.cells cs 150 (0,0)):=fun r hr=>by
   obtain⟨cs,hcs⟩:=hvb r hr;exact⟨cs,(k2.block r (lH hcs) (fun x=>x)).trans hcs⟩
  have h3:=hs.kept hp.kp (fun e=>by obtain⟨cs,hcs⟩:=hvb2 _ e;exact bT hs.hb hcs (by decide) rfl) (fun e=>by obtain⟨cs,hcs⟩:=hvb2 _ e;exact bT hs.hc hcs (by decide) rfl);exact h3.kept ks (bT h3.hb hb3 (by decide)) (bT h3.hc hb3 (by decide))
 have hmap:(List.range (k + 1)).map (fun j=>if j=k then W.heap.size + 1 else S j)=(List.range k).map S ++ [W.heap.size + 1]:=by
  rw[List.range_succ,List.map_append];congr 1
  ·exact List.map_congr_left (fun j hj=>by rw[if_neg (by have:=List.mem_range.1 hj;omega)])
  ·simp
 obtain⟨g,cap,hv'⟩:=hp.sl;rw[List.length_map,List.length_range] at hv';have ltS:∀ j,j<k->S j<W.heap.size:=fun j hj=>lH (h.st j hj).hb
 have ltC:∀ j,j<k->C j<W.heap.size:=fun j hj=>lH (h.st j hj).hc
 refine⟨(heap_set hb3 2 _).trans (by simp),?_,.inr ⟨g,cap,hv',?_⟩,fun j hj=>?_,fun i j hi hj e=>?_,fun i j hi hj e=>?_,fun j hj=>?_,h.hw,?_⟩
 ·rw[hmap];exact hp.pl.kept ks (fun r hr e=>by obtain⟨cs,hcs⟩:=hp.pl.blk hr;exact bT hcs hb3 (by decide) e)
 ·rcases hp.ob with e|⟨r,e,hr⟩
  ·rw[hv'] at e;rcases h.vs with ⟨h0,_⟩|⟨g2,cap2,h0,hg2⟩
   ·rw[h0] at e;simp[Value.ownBlock] at e
   ·rw[h0] at e;simp[Value.ownBlock] at e;omega
  ·rw[hv'] at e;simp[Value.ownBlock] at e;have:=h.kp.size;have:=k2.size;omega
 ·by_cases e:j=k
  ·simp only[e,if_true];exact set3 hS
  ·simp only[e,if_false];exact set3 ((h.st j (by omega)).kept k2 (fun x=>x) (fun x=>x))
 ·by_cases e1:i=k <;> by_cases e2:j=k <;> simp only[e1,e2,if_true,if_false] at e
  ·omega
  ·have:=ltS j (by omega);omega
  ·have:=ltS i (by omega);omega
  ·exact h.iS i j (by omega) (by omega) e
 ·by_cases e1:i=k <;> by_cases e2:j=k <;> simp only[e1,e2,if_true,if_false] at e
  ·omega
  ·have:=ltC j (by omega);omega
  ·have:=ltC i (by omega);omega
  ·exact h.iC i j (by omega) (by omega) e
 ·have hz:=h.kp.size;by_cases e:j=k
  ·simp only[e,if_true];omega
  ·simp only[e,if_false];exact h.hS j (by omega)
 ·refine(h.kp.trans (U:=nO) kv (fun _ _ x=>x) (fun x hx e=>?_)).setNew (p:=⟨b,2,none⟩) (fun e=>absurd e (Nat.not_lt.2 h.hw)) _;rcases h.vs with ⟨h0,_⟩|⟨g2,cap2,h0,hg2⟩
  ·rw[h0] at e;simp[Value.ownBlock] at e
  ·rw[h0] at e;simp[Value.ownBlock] at e;omega
def bX(o:Nat):Mp:=⟨o,0,fun _=>aR,fun _=>[]⟩
def gJ(w:World)(b:Nat)(B:Bs)(o:Nat):Prop:=∀ x,aM b B o x->w.heap.size<=x
theorem Nw.fin{w W b o v S C}(h:Nw w W b o o v S C)(ho:o<=8):∃ B,MpA W b B (bX o)/\gJ w b B o:=by
 have hs:∀ k,k<o->SetAt W (S k) (C k) (0/2 ^ (k+1)) []:=fun k hk=>by rw[Nat.zero_div];exact h.st k hk
 rcases h.vs with ⟨hv,h0⟩|⟨g,cap,hv,hg⟩
 ·refine⟨⟨none,none,S,C⟩,⟨ho,Nat.zero_le _,⟨0,by simp[bX]⟩,⟨0,?_,h0,rfl⟩,rfl,hs,h.iS,h.iC,fun i hi=>absurd hi (Nat.not_lt_zero _)⟩,?_⟩
  ·have:=h.hb;rw[hv] at this;subst h0;exact this
  ·rintro x (rfl|e|e|⟨k,hk,_⟩)
   ·exact h.hw
   ·cases e
   ·cases e
   ·omega
 ·have hp:=h.pl;rcases hp.2 with ⟨h0,_⟩|⟨g2,cap2,cur,h0,hb2,hg2,h3,h4,h5,h6⟩
  ·rw[hv] at h0;cases h0
  ·rw[hv] at h0;simp at h0;obtain⟨rfl,-,rfl⟩:=h0;refine⟨⟨none,some g,S,C⟩,⟨ho,Nat.zero_le _,⟨0,by simp[bX]⟩,⟨cap,?_,cur,hg2,by have:=h5;omega,by show o<=cap;have:=h3;simp at this;omega,fun k hk=>?_⟩,rfl,hs,h.iS,h.iC,fun i hi=>absurd hi (Nat.not_lt_zero _)⟩,?_⟩
   ·have:=h.hb;rw[hv] at this;exact this
   ·have e:(cur.toList.take (((List.range o).map S).length*1))[k]?=(((List.range o).map S).map ptr)[k]?:=(by rw[h6]);rw[List.getElem?_take,if_pos (by simp;exact hk)] at e;have hk2:k<o:=hk;simpa [hk2,ptr] using e
   ·rintro x (rfl|e|e|⟨k,hk,rfl|rfl⟩)
    ·exact h.hw
    ·cases e
    ·cases e;exact hg
    ·exact(h.hS k hk).1
    ·exact(h.hS k hk).2
theorem EJ(o:Nat)(ho:o<=8)(w:World):
  Calls prog 77 #[.int .i64 o] w fun e w'=>∃ b B,e=.returned (.pointer (some ⟨b,0,none⟩))/\MpA w' b B (bX o)/\Kt nO w w'/\gJ w b B o:=by
 have HO:=aA (show o<=8 by omega);go_enter func77,ntmps77;go_wp2
 have H0:=aA (show Nw w (w.alloc (.cells #[.int .i64 o,.slice none 0 0,.slice none 0 0] 149)) w.heap.size o 0 (.slice none 0 0) (fun _=>0) (fun _=>0)from
  ⟨nH w _,World.ownsRow_nil _ _ _ _,.inl ⟨rfl,rfl⟩,fun j hj=>absurd hj (by omega),fun i j hi=>absurd hi (by omega),fun i j hi=>absurd hi (by omega),fun j hj=>absurd hj (by omega),Nat.le_refl _,(Kt.refl nO w).alloc _⟩)
 go_loopw [13] (fun i W=>∃ k:Nat,k<=o/\i=.int .i64 k/\Hid (∃ v S C,Nw w W w.heap.size o k v S C)) (fun i _=>o-(intOf i).toNat)
 case atStart=>exact⟨0,by omega,rfl,⟨_,_,_,H0.out⟩⟩
 case round=>
  clear H0;obtain⟨k,hk,rfl,hR⟩:=hrel;obtain⟨v,S,C,hR⟩:=hR.out;have HR:=aA hR;have c2:wr.cell? ⟨w.heap.size,2,none⟩=some v:=by simp[World.cell?,hR.hb]
  clear hR;by_cases hlt:k<o
  ·have hki:(k:Int)<o:=(by omega);go_wp2_with fail;go_region_law (first|(refine uT rfl rfl w.heap.size v c2 ?_;intro W2 HS K2 c2;have K2:=aA (nT (Kt.refl nO wr).drew K2.out);have c22:=((Kt.refl nO W2).alloc (.cells #[.pointer (some ⟨wr.heap.size+1,0,none⟩)] 150)).cell (fun x=>x) c2)|(refine tZ rfl (.tmp 19) (.tmp 21) rfl v _ k (wr.heap.size+1) w.heap.size _ _ ((HR.out.pl.kept K2.out (fun _ _ x=>x)).kept ((Kt.refl nO W2).alloc _) (fun _ _ x=>x)) (by simp) (by have:=HO.out;omega) (((K2.out.alloc _).block w.heap.size (lH HR.out.hb) (fun x=>x)).trans HR.out.hb) ⟨W2.heap.size,0,none⟩ 1 rfl rfl (by rw[Addr.add_lit];exact rJ _ _ _) ?_;intro g' cap' W3 HPU e2 z2))
   all_goals
    have HN:=aA (HR.out.next (HS.out.kept ((Kt.refl nO W2).alloc _) (fun x=>x) (fun x=>x)) (K2.out.alloc _) HPU.out);generalize hW:W3.setCell ⟨w.heap.size,2,none⟩ (.slice (some ⟨g',0,none⟩) (k+1) cap')=W4 at HN;clear hW HPU e2 z2 c22 c2;go_wp2_with fail;exact⟨⟨k+1,by omega,by simp,⟨_,_,_,HN.out⟩⟩,by simp[intOf];omega⟩
  ·have hki:¬(k:Int)<o:=(by omega);obtain⟨B,hB,hN⟩:=(show Nw w wr w.heap.size o o v S C from by
    have e:k=o:=(by omega);rw[e] at HR;exact HR.out).fin HO.out
   have HF:=aA (show MpA wr w.heap.size B (bX o)/\Kt nO w wr/\gJ w w.heap.size B o from⟨hB,HR.out.kp,hN⟩);clear hB hN;go_wp2_with fail;go_ret;exact⟨w.heap.size,rfl,B,HF.out⟩
theorem GO(i:Int)(hi:i<0)(w:World):
  Calls prog 77 #[.int .i64 i] w fun e w'=>∃ b B,e=.returned (.pointer (some ⟨b,0,none⟩))/\MpA w' b B (bX 0)/\Kt nO w w'/\gJ w b B 0:=by
 have HO:=aA (show 0<=8 by omega);go_enter func77,ntmps77;go_wp2
 have H0:=aA (show Nw w (w.alloc (.cells #[.int .i64 0,.slice none 0 0,.slice none 0 0] 149)) w.heap.size 0 0 (.slice none 0 0) (fun _=>0) (fun _=>0)from
  ⟨nH w _,World.ownsRow_nil _ _ _ _,.inl ⟨rfl,rfl⟩,fun j hj=>absurd hj (by omega),fun i j hi=>absurd hi (by omega),fun i j hi=>absurd hi (by omega),fun j hj=>absurd hj (by omega),Nat.le_refl _,(Kt.refl nO w).alloc _⟩)
 go_loopw [13] (fun i W=>∃ k:Nat,k<=0/\i=.int .i64 k/\Hid (∃ v S C,Nw w W w.heap.size 0 k v S C)) (fun i _=>0-(intOf i).toNat)
 case atStart=>exact⟨0,by omega,rfl,⟨_,_,_,H0.out⟩⟩
 case round=>
  clear H0;obtain⟨k,hk,rfl,hR⟩:=hrel;obtain⟨v,S,C,hR⟩:=hR.out;have HR:=aA hR;have c2:wr.cell? ⟨w.heap.size,2,none⟩=some v:=by simp[World.cell?,hR.hb]
  clear hR;by_cases hlt:k<0
  ·have hki:(k:Int)<0:=(by omega);go_wp2_with fail;go_region_law (first|(refine uT rfl rfl w.heap.size v c2 ?_;intro W2 HS K2 c2;have K2:=aA (nT (Kt.refl nO wr).drew K2.out);have c22:=((Kt.refl nO W2).alloc (.cells #[.pointer (some ⟨wr.heap.size+1,0,none⟩)] 150)).cell (fun x=>x) c2)|(refine tZ rfl (.tmp 19) (.tmp 21) rfl v _ k (wr.heap.size+1) w.heap.size _ _ ((HR.out.pl.kept K2.out (fun _ _ x=>x)).kept ((Kt.refl nO W2).alloc _) (fun _ _ x=>x)) (by simp) (by have:=HO.out;omega) (((K2.out.alloc _).block w.heap.size (lH HR.out.hb) (fun x=>x)).trans HR.out.hb) ⟨W2.heap.size,0,none⟩ 1 rfl rfl (by rw[Addr.add_lit];exact rJ _ _ _) ?_;intro g' cap' W3 HPU e2 z2))
   all_goals
    have HN:=aA (HR.out.next (HS.out.kept ((Kt.refl nO W2).alloc _) (fun x=>x) (fun x=>x)) (K2.out.alloc _) HPU.out);generalize hW:W3.setCell ⟨w.heap.size,2,none⟩ (.slice (some ⟨g',0,none⟩) (k+1) cap')=W4 at HN;clear hW HPU e2 z2 c22 c2;go_wp2_with fail;exact⟨⟨k+1,by omega,by simp,⟨_,_,_,HN.out⟩⟩,by simp[intOf];omega⟩
  ·have hki:¬(k:Int)<0:=(by omega);obtain⟨B,hB,hN⟩:=(show Nw w wr w.heap.size 0 0 v S C from by
    have e:k=0:=(by omega);rw[e] at HR;exact HR.out).fin HO.out
   have HF:=aA (show MpA wr w.heap.size B (bX 0)/\Kt nO w wr/\gJ w w.heap.size B 0 from⟨hB,HR.out.kp,hN⟩);clear hB hN;go_wp2_with fail;go_ret;exact⟨w.heap.size,rfl,B,HF.out⟩
theorem GN(i:Int)(hi : 8<i)(w:World):
  Calls prog 77 #[.int .i64 i] w fun e w'=>∃ b B,e=.returned (.pointer (some ⟨b,0,none⟩))/\MpA w' b B (bX 8)/\Kt nO w w'/\gJ w b B 8:=by
 have HO:=aA (show 8<=8 by omega);go_enter func77,ntmps77;go_wp2
 have H0:=aA (show Nw w (w.alloc (.cells #[.int .i64 8,.slice none 0 0,.slice none 0 0] 149)) w.heap.size 8 0 (.slice none 0 0) (fun _=>0) (fun _=>0)from
  ⟨nH w _,World.ownsRow_nil _ _ _ _,.inl ⟨rfl,rfl⟩,fun j hj=>absurd hj (by omega),fun i j hi=>absurd hi (by omega),fun i j hi=>absurd hi (by omega),fun j hj=>absurd hj (by omega),Nat.le_refl _,(Kt.refl nO w).alloc _⟩)
 go_loopw [13] (fun i W=>∃ k:Nat,k<=8/\i=.int .i64 k/\Hid (∃ v S C,Nw w W w.heap.size 8 k v S C)) (fun i _=>8-(intOf i).toNat)
 case atStart=>exact⟨0,by omega,rfl,⟨_,_,_,H0.out⟩⟩
 case round=>
  clear H0;obtain⟨k,hk,rfl,hR⟩:=hrel;obtain⟨v,S,C,hR⟩:=hR.out;have HR:=aA hR;have c2:wr.cell? ⟨w.heap.size,2,none⟩=some v:=by simp[World.cell?,hR.hb]
  clear hR;by_cases hlt:k<8
  ·have hki:(k:Int)<8:=(by omega);go_wp2_with fail;go_region_law (first|(refine uT rfl rfl w.heap.size v c2 ?_;intro W2 HS K2 c2;have K2:=aA (nT (Kt.refl nO wr).drew K2.out);have c22:=((Kt.refl nO W2).alloc (.cells #[.pointer (some ⟨wr.heap.size+1,0,none⟩)] 150)).cell (fun x=>x) c2)|(refine tZ rfl (.tmp 19) (.tmp 21) rfl v _ k (wr.heap.size+1) w.heap.size _ _ ((HR.out.pl.kept K2.out (fun _ _ x=>x)).kept ((Kt.refl nO W2).alloc _) (fun _ _ x=>x)) (by simp) (by have:=HO.out;omega) (((K2.out.alloc _).block w.heap.size (lH HR.out.hb) (fun x=>x)).trans HR.out.hb) ⟨W2.heap.size,0,none⟩ 1 rfl rfl (by rw[Addr.add_lit];exact rJ _ _ _) ?_;intro g' cap' W3 HPU e2 z2))
   all_goals
    have HN:=aA (HR.out.next (HS.out.kept ((Kt.refl nO W2).alloc _) (fun x=>x) (fun x=>x)) (K2.out.alloc _) HPU.out);generalize hW:W3.setCell ⟨w.heap.size,2,none⟩ (.slice (some ⟨g',0,none⟩) (k+1) cap')=W4 at HN;clear hW HPU e2 z2 c22 c2;go_wp2_with fail;exact⟨⟨k+1,by omega,by simp,⟨_,_,_,HN.out⟩⟩,by simp[intOf];omega⟩
  ·have hki:¬(k:Int)<8:=(by omega);obtain⟨B,hB,hN⟩:=(show Nw w wr w.heap.size 8 8 v S C from by
    have e:k=8:=(by omega);rw[e] at HR;exact HR.out).fin HO.out
   have HF:=aA (show MpA wr w.heap.size B (bX 8)/\Kt nO w wr/\gJ w w.heap.size B 8 from⟨hB,HR.out.kp,hN⟩);clear hB hN;go_wp2_with fail;go_ret;exact⟨w.heap.size,rfl,B,HF.out⟩
def dQ(i:Int):Nat:=if i<0 then 0 else if 8<i then 8 else i.toNat
theorem IS(i:Int)(w:World):
  Calls prog 77 #[.int .i64 i] w fun e w'=>∃ b B,e=.returned (.pointer (some ⟨b,0,none⟩))/\MpA w' b B (bX (dQ i))/\Kt nO w w'/\gJ w b B (dQ i):=by
 by_cases h:i<0
 ·rw[show dQ i=0 by simp[dQ,h]];exact GO i h w
 ·by_cases h8 : 8<i
  ·rw[show dQ i=8 by simp[dQ,h,h8]];exact GN i h8 w
  ·obtain⟨o,rfl⟩:=Int.eq_ofNat_of_zero_le (show 0<=i by omega);rw[show dQ (o:Int)=o by unfold dQ;rw[if_neg (by omega),if_neg (by omega)];rfl];exact EJ o (by omega) w
end Go.Proofs.YtkfmheelhinjdaaGreatDoor
