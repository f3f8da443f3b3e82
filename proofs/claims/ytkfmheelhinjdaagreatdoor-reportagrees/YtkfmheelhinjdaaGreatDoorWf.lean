import Derived.Test.YtkfmheelhinjdaaGreatDoorWe
import Derived.Deep.Upon
set_option maxRecDepth 1000000
set_option maxHeartbeats 80000000
namespace Go.Proofs.YtkfmheelhinjdaaGreatDoor.W
open Tryz
open Go.RowKit
set_option linter.unusedVariables false
def mA:Obj:=.cells #[.int .i64 1,.func (.func 165) #[] #[],.int .i64 2,.func (.func 166) #[] #[],.int .i64 3,.func (.func 167) #[] #[],.int .i64 4,.func (.func 168) #[] #[],.int .i64 5,.func (.func 169) #[] #[],.int .i64 6,.func (.func 170) #[] #[],.int .i64 7,.func (.func 171) #[] #[],.int .i64 8,.func (.func 172) #[] #[],.int .i64 9,.func (.func 173) #[] #[],.int .i64 10,.func (.func 174) #[] #[],.int .i64 11,.func (.func 175) #[] #[]] 187 (0,0)
theorem YL(w:World):Calls prog 134 #[] w fun e w'=>e=.returned (.slice (some ⟨w.heap.size,0,none⟩) 11 11)/\w'=w.alloc mA:=by
 go_enter func134,ntmps134;go_wp2
 go_ret;exact⟨rfl,rfl⟩
theorem zhD{w:World}{g:Nat}(h:w.heap[g]?=some mA)(a:Nat)(ha:a<11):w.cell? ⟨g,a*2,none⟩=some (.int .i64 ((a+1:Nat):Int))/\w.cell? ⟨g,a*2+1,none⟩=some (.func (.func (fW a)) #[] #[]):=by
 unfold mA at h;match a,ha with
 | 0,_=>exact⟨by simp[World.cell?,h],by simp[World.cell?,h,fW]⟩
 | 1,_=>exact⟨by simp[World.cell?,h],by simp[World.cell?,h,fW]⟩
 | 2,_=>exact⟨by simp[World.cell?,h],by simp[World.cell?,h,fW]⟩
 | 3,_=>exact⟨by simp[World.cell?,h],by simp[World.cell?,h,fW]⟩
 | 4,_=>exact⟨by simp[World.cell?,h],by simp[World.cell?,h,fW]⟩
 | 5,_=>exact⟨by simp[World.cell?,h],by simp[World.cell?,h,fW]⟩
 | 6,_=>exact⟨by simp[World.cell?,h],by simp[World.cell?,h,fW]⟩
 | 7,_=>exact⟨by simp[World.cell?,h],by simp[World.cell?,h,fW]⟩
 | 8,_=>exact⟨by simp[World.cell?,h],by simp[World.cell?,h,fW]⟩
 | 9,_=>exact⟨by simp[World.cell?,h],by simp[World.cell?,h,fW]⟩
 | 10,_=>exact⟨by simp[World.cell?,h],by simp[World.cell?,h,fW]⟩
theorem JW(p:Addr)(x pl:Int)(older:List PanicEntry)(w:World)(hc:w.cell? p=some (.int .i64 x))(hz:w.frozen? p=false):
  CallsD prog 132 #[.pointer (some p)] (.panicking ({ v:=.iface 218 (.int .i64 pl),recovered:=false } :: older)) w fun e u' w'=>
   e=.returned (.tuple #[])/\u'=.panicking ({ v:=.iface 218 (.int .i64 pl),recovered:=true } :: older)/\w'=w.setCell p (.int .i64 pl):=by
 refine callsD_of_wpS func132 rfl fun c₀ cs hu=>?_
 apply wpS_region
 simp[wpOpsS,go_sem,recoverD,hu,ntmps132];refine(zeT _ _).mono ?_;rintro e w' ⟨rfl,rfl⟩;simp[go_sem,hc,hz,bodyPostS,results,results132]
theorem JV(p:Addr)(x:Int)(w:World)(hc:w.cell? p=some (.int .i64 x))(hz:w.frozen? p=false):
  CallsD prog 132 #[.pointer (some p)] .returning w fun e u' w'=>e=.returned (.tuple #[])/\u'=.returning/\w'=w.setCell p (.int .i64 0):=by
 refine callsD_of_wpS func132 rfl fun c₀ cs hu=>?_
 apply wpS_region
 simp[wpOpsS,go_sem,recoverD,hu,ntmps132];refine(zfJ _).mono ?_;rintro e w' ⟨rfl,rfl⟩
 cases c₀
 simp_all [go_sem,bodyPostS,results,results132]
structure CkI(w W:World)(I:Img)(V:ImV)(g:Nat):Prop where
 im:ImAt W w.heap.size I V
 pl:W.heap[w.heap.size+1]?=some (.cells #[.int .i64 0] 3 (0,0))
 tb:W.heap[g]?=some mA
 k:Kt nO w W
theorem CkI.keep{w W W':World}{I:Img}{V:ImV}{g:Nat}(h:CkI w W I V g)(hk:Kt nO W W'):CkI w W' I V g:=
 ⟨h.im.keep hk,(hk.block _ (lH h.pl) (fun x=>x)).trans h.pl,(hk.block _ (lH h.tb) (fun x=>x)).trans h.tb,nT h.k hk⟩
theorem YJ(I:Img)(V:ImV)(w:World)(hI:ImD w I V):
  Calls prog 90 #[.agg #[.int .u64 I.bS,.int .i64 I.lim,.int .i64 I.ord,.int .i64 I.reg,V.m,V.p,V.r,V.h,V.t]] w fun e w'=>e=.returned (.tuple #[.int .i64 ((chk I).1:Int),.int .i64 ((chk I).2:Int)])/\Kt nO w w':=by
 have hmf:=M.mkf;obtain⟨EE,hEE⟩:=xe (Ending.returned (.tuple #[.int .i64 ((chk I).1:Int),.int .i64 ((chk I).2:Int)]));have FB:=aA (show ∀ j p,j<11->(∀ a,a<j->rl I a=none)->rl I j=some p->Ending.returned (.tuple #[.int .i64 ((j+1:Nat):Int),.int .i64 p])=EE from fun j p h1 h2 h3=>by rw[hEE,zB h1 h2 h3]);have FG:=aA (show(∀ a,a<11->rl I a=none)->Ending.returned (.tuple #[.int .i64 0,.int .i64 0])=EE from fun h=>by rw[hEE,chk_ok h];rfl);rw[<-hEE];have K0:=aA (show Kt nO w ((w.alloc (aE I V)).alloc (.cells #[.int .i64 0] 3 (0,0)))from((Kt.refl _ w).alloc _).alloc _);have B1:=aA (show((w.alloc (aE I V)).alloc (.cells #[.int .i64 0] 3 (0,0))).heap[w.heap.size]?=some (aE I V)by rw[Below.heap_alloc _ _ _ (by simp)];exact nH w _);have B2:=aA (show((w.alloc (aE I V)).alloc (.cells #[.int .i64 0] 3 (0,0))).heap[w.heap.size+1]?=some (.cells #[.int .i64 0] 3 (0,0))from vB w _ _);have SZ:=aA (show((w.alloc (aE I V)).alloc (.cells #[.int .i64 0] 3 (0,0))).heap.size=w.heap.size+2 by simp);have HI:=aA hI;obtain⟨⟨ma,mc,hm⟩,⟨pa,pc,hp⟩,⟨ra,rc,hr⟩,⟨ha,hc,hh⟩,⟨ta,tc,ht⟩,-⟩:=hI.sl;rw[hm,hp,hr,hh,ht];clear hEE hI;go_enter_defers func90,ntmps90;go_wp2_with fail;have EW:(w.alloc (.cells #[.int .u64 I.bS,.int .i64 I.lim,.int .i64 I.ord,.int .i64 I.reg,.slice ma I.nm mc,.slice pa I.np pc,.slice ra I.no rc,.slice ha I.hd.length hc,.slice ta I.pt.length tc] 38 (0,0)))=w.alloc (aE I V):=by rw[<-hm,<-hp,<-hr,<-hh,<-ht]
 rw[EW];clear EW hm hp hr hh ht;generalize (w.alloc (aE I V)).alloc (.cells #[.int .i64 0] 3 (0,0))=W0 at *;refine(YL W0).mono ?_;rintro e w1 ⟨rfl,rfl⟩;have C0:=aA (show CkI w (W0.alloc mA) I V W0.heap.size from⟨⟨(((Kt.refl nO W0).alloc mA).block _ (lH B1.out) (fun x=>x)).trans B1.out,HI.out.keep (K0.out.alloc _)⟩,(((Kt.refl nO W0).alloc mA).block _ (lH B2.out) (fun x=>x)).trans B2.out,nH _ _,K0.out.alloc _⟩);have GSZ:=aA (show w.heap.size+1<W0.heap.size by have:=SZ.out;omega);generalize W0.alloc mA=W1 at *;generalize W0.heap.size=g at *;clear B1 B2 SZ K0;obtain⟨ib,hib⟩:=xe (w.heap.size);obtain⟨pb,hpb⟩:=xe (w.heap.size+1);have HIB:=aA hib;have HPB:=aA hpb;simp only[<-hpb];simp only[<-hib];clear hib hpb;go_wp2_with fail;go_loopw [9] (fun i W=>∃ a:Nat,a<=11/\i=.int .i64 a/\Hid (CkI w W I V g/\∀ x,x<a->rl I x=none)) (fun i _=>11-(intOf i).toNat)
 case atStart=>exact⟨0,Nat.zero_le _,rfl,aA ⟨C0.out,fun x hx=>by omega⟩⟩
 case round=>
  clear C0;obtain⟨a,ha',rfl,hR⟩:=hrel;by_cases hlt:a<11
  ·have hai:(a:Int)<11:=(by omega);obtain⟨q0,q1⟩:=zhD hR.out.1.tb a hlt;obtain⟨a1,ha1⟩:=xe (a+1);rw[<-ha1] at q0;have HA1:=aA ha1;obtain⟨rw',hrw⟩:∃ ob,ob=Obj.cells #[.int .i64 a1,.func (.func (fW a)) #[] #[]] 187 (0,0):=⟨_,rfl⟩;have CK:=aA (hR.out.1.keep ((Kt.refl nO wr).alloc rw'));rw[hrw] at CK;have AK:=aA (TY w.heap.size I V a hlt hR.out.2 _ CK.out.im);rw[<-HIB.out] at AK;have hent:=AK.out.1;have FBa:=aA (show ∀ p,rl I a=some p->Ending.returned (.tuple #[.int .i64 a1,.int .i64 p])=EE from fun p h=>by rw[HA1.out];exact FB.out a p hlt hR.out.2 h);have GA:=aA (show rl I a=none->∀ x,x<a+1->rl I x=none from fun h x hx=>by
    by_cases e:x=a
    ·rw[e];exact h
    ·exact hR.out.2 x (by omega))
   generalize fW a=fid at *;have hst:∀ (a:Addr) (w:World),(store a (.func (.func fid) #[] #[])).run prog w=stored prog w a (.func (.func fid) #[] #[]) .plain:=fun a w=>run_store prog w a _ .plain rfl
   clear ha1 hrw;go_wp2_with fail;have PLC:=aA CK.out.pl;rw[<-HPB.out] at PLC
   cases hrl:rl I a with
   | none=>
    rw[hrl] at AK;have R2:=aA (GA.out hrl);clear hrl;refine AK.out.2.mono ?_;rintro e w2 ⟨rfl,hk2⟩;have R3:=aA (show CkI w w2 I V g/\_ from⟨CK.out.keep hk2,R2.out⟩);clear hk2 q0 q1 hent hst;dsimp only[aZ];go_wp2_with fail;go_round
    case rel=>exact⟨a+1,by omega,by go_num,R3⟩
    case measure=>simp[intOf];omega
   | some p=>
    rw[hrl] at AK;have R2:=aA (FBa.out p hrl);clear hrl;refine AK.out.2.mono ?_;rintro e w2 ⟨rfl,hk2⟩;have PL2:=aA ((hk2.block _ (lH PLC.out) (fun x=>x)).trans PLC.out);have hec:w2.cell? ⟨pb,0,none⟩=some (.int .i64 0):=(by simp[World.cell?,PL2.out]);have hef:w2.frozen? ⟨pb,0,none⟩=false:=(by simp[World.frozen?,PL2.out]);have K2:=aA (nT CK.out.k hk2);clear hk2 q0 q1 hent hst;refine leaves_cons (f:=132) (args:=#[.pointer (some ⟨pb,0,none⟩)]) (by simp) (by simp[go_sem]) ?_;refine(JW ⟨pb,0,none⟩ 0 (p:Int) [] w2 hec hef).mono ?_;rintro e u' w'' ⟨rfl,rfl,rfl⟩;refine⟨.tuple #[.int .i64 a1,.int .i64 p],?_,R2.out,K2.out.setNew (fun h=>absurd h (by have:=HPB.out;show ¬pb<_;omega)) _⟩;simp[results,results90,go_sem,hec]
  ·have hae:a=11:=(by omega);have hai:¬(a:Int)<11:=(by omega);have R2:=aA (FG.out (fun x hx=>hR.out.2 x (by omega)));have PL2:=aA hR.out.1.pl;rw[<-HPB.out] at PL2;have hec:wr.cell? ⟨pb,0,none⟩=some (.int .i64 0):=(by simp[World.cell?,PL2.out]);have hef:wr.frozen? ⟨pb,0,none⟩=false:=(by simp[World.frozen?,PL2.out]);have K2:=aA hR.out.1.k;clear hae;go_wp2_with fail;refine leaves_cons (f:=132) (args:=#[.pointer (some ⟨pb,0,none⟩)]) (by simp) (by simp[go_sem]) ?_;have BLK:=aA (show(wr.setCell ⟨pb,0,none⟩ (.int .i64 0)).heap[pb]?=some (.cells #[.int .i64 0] 3 (0,0))from heap_set PL2.out 0 _);have hec2:(wr.setCell ⟨pb,0,none⟩ (.int .i64 0)).cell? ⟨pb,0,none⟩=some (.int .i64 0):=(by simp[World.cell?,BLK.out]);have hef2:(wr.setCell ⟨pb,0,none⟩ (.int .i64 0)).frozen? ⟨pb,0,none⟩=false:=(by simp[World.frozen?,BLK.out]);refine(JV ⟨pb,0,none⟩ 0 _ hec2 hef2).mono ?_;rintro e u' w'' ⟨rfl,rfl,rfl⟩;have hpn:∀ h:pb<w.heap.size,nO pb:=fun h=>absurd h (by have:=HPB.out;omega)
   refine⟨.tuple #[.int .i64 0,.int .i64 0],?_,R2.out,(K2.out.setNew hpn _).setNew hpn _⟩;simp[results,results90,go_sem,hec2]
structure GS(w0 W:World)(e:TypeId)(size:Nat)(v:Value)(n:Nat)(xs:List Value):Prop where
 own:W.ownsRow 0 e size v n xs
 new:∀ g cap,v=.slice (some ⟨g,0,none⟩) n cap->w0.heap.size<=g
 kp:Kt nO w0 W
theorem lX{w w':World}{row:Option Nat}(h:w.grownBy w' row):Kt (fun b=>row=some b) w w':=⟨h.os,h.tape,h.output,h.size,fun k hk hn=>h.block k hk (fun e=>hn e.symm)⟩
theorem GS.nil(w0 W:World)(e:TypeId)(size:Nat)(k:Kt nO w0 W):GS w0 W e size (.slice none 0 0) 0 []:=
 ⟨World.ownsRow_nil _ _ _ _,fun g cap h=>by simp at h,k⟩
theorem GS.keep{w0 W W' e size v n xs}(h:GS w0 W e size v n xs)(k:Kt nO W W'):GS w0 W' e size v n xs:=by
 refine⟨⟨h.own.1,?_⟩,h.new,nT h.kp k⟩;rcases h.own.2 with h0|⟨g,cap,cur,rfl,hb,hg,h3⟩
 ·exact .inl h0
 ·exact .inr ⟨g,cap,cur,rfl,hb,(k.block g (lH hg) (fun x=>x)).trans hg,h3⟩
theorem pY{w:World}{cs:Array Value}{t:TypeId}(j:Nat)(u:Value)(h:cs.toList[j]?=some u):(w.alloc (.cells cs t)).cell? (Addr.add ⟨w.heap.size,0,none⟩ j)=some u:=by
 rw[Addr.add_lit,Nat.zero_add];have:=nH w (.cells cs t);simp only[World.cell?,this];rw[<-Array.getElem?_toList,h];rfl
theorem pD{W:World}{b:Nat}{e:TypeId}{size:Nat}{v:Value}{n:Nat}{xs:List Value}(h:W.ownsRow b e size v n xs):∃ va vc,v=.slice va n vc:=by
 rcases h.2 with ⟨h0,h1⟩|⟨g,cap,cur,h0,_⟩
 ·exact⟨none,0,by rw[h0,h1]⟩
 ·exact⟨_,_,h0⟩
theorem GS.pushM{w0 W:World}{e:TypeId}{size:Nat}{v:Value}{n:Nat}{xs:List Value}(h:GS w0 W e size v n xs)(t:TypeId)(i:TypeInfo)(z:Value)(bytes:Nat)
  (ht:prog.underlying t=some (.slice e)) (hi:prog.info? e=some i) (hz:i.zero=some z) (hs:i.size=size) (hby:i.bytes=bytes) (hzs:z.cells.size=size) (hsz : 0<size)
  (a:Addr) (c m:Nat) (hm : 0<m) (news:List Value) (hl':news.length=m*size) (hnews:∀ j u,news[j]?=some u->W.cell? (a.add j)=some u) (h1:∀ u∈news,u.oneCell'=true) (h63:n+m<=maxLen) (hbb:(n+m)*bytes<=140737488355328):
  ∃ g cap w',(∀ ty,(Builtin.append_ #[t,t] ty #[v,.slice (some a) m c]).run prog W=.ok (.slice (some ⟨g,0,none⟩) (n + m) cap) w')/\GS w0 w' e size (.slice (some ⟨g,0,none⟩) (n + m) cap) (n + m) (xs ++ news)/\w0.heap.size<=g/\Kt (fun b=>v.ownBlock=some b) W w'/\(v.ownBlock=some g\/W.heap.size<=g):=by
 have ho:=h.own;by_cases hr:∃ g cap,v=.slice (some ⟨g,0,none⟩) n cap/\n+m<=cap
 ·obtain⟨g,cap,rfl,hroom⟩:=hr;obtain⟨w',hrun,hown,hgr⟩:=run_append_fits (P:=prog) W 0 t 0 e i size ht hi hs g n cap xs ho a m c news hl' hnews h1 hroom;have hg:=h.new g cap rfl;have hk:=lX hgr;refine⟨g,cap,w',fun ty=>?_,⟨hown,fun g' cap' e=>?_,h.kp.trans hk (fun _ _ x=>x) (fun x hx e=>?_)⟩,hg,hk,.inl (by simp[Value.ownBlock])⟩
  ·rw[<-hrun];simp[Builtin.append_]
  ·simp at e;omega
  ·cases e;omega
 ·have key:∃ v' w',(Builtin.append_ #[t,t] 0 #[v,.slice (some a) m c]).run prog W=.ok v' w'/\w'.ownsRow W.heap.size e size v' (n + m) (xs ++ news)/\Kt nO W w':=by
   rcases ho.2 with ⟨rfl,h0⟩|⟨g,cap,cur,rfl,hb,hg,hnc,hcm,hcs,htake⟩
   ·subst h0;have:xs=[]:=List.eq_nil_of_length_eq_zero (by rw[ho.1,Nat.zero_mul]);subst this;obtain⟨v',w',hrun,hown,hgr,_⟩:=run_append_own (P:=prog) W W.heap.size t 0 e i z size bytes ht hi hz hs hby hzs hsz (.slice none 0 0) 0 [] (World.ownsRow_nil _ _ _ _) a m c news hl' hnews h1 h63 hbb (Nat.le_refl _);exact⟨v',w',hrun,hown,(lX hgr).mono (fun _ _ e=>by cases e)⟩
   ·obtain⟨v',w',hrun,hown,hgr⟩:=run_append_arg_grows (P:=prog) W t 0 e i z size bytes ht hi hz hs hby hzs hsz ⟨g,0,none⟩ n cap xs ho.1 (fun j u hj=>by
     rw[Addr.add_lit,Nat.zero_add];rw[<-htake,List.getElem?_take] at hj;split at hj
     ·simp only[World.cell?,hg];rw[<-Array.getElem?_toList,hj];rfl
     ·cases hj) a m c news hl' hnews (Nat.lt_of_not_le fun hle=>hr ⟨g,cap,rfl,hle⟩) h63 hbb
    exact⟨v',w',hrun,hown,(lX hgr).mono (fun _ _ e=>by cases e)⟩
  obtain⟨v',w',hrun,hown,hk⟩:=key;rcases hown.2 with ⟨_,h0⟩|⟨g,cap,cur,rfl,hb,hg,h3⟩
  ·omega
  ·refine⟨g,cap,w',fun ty=>?_,⟨⟨hown.1,.inr ⟨g,cap,cur,rfl,Nat.zero_le _,hg,h3⟩⟩,fun g' cap' e=>?_,nT h.kp hk⟩,Nat.le_trans h.kp.size hb,hk.mono (fun _ _ e=>e.elim),.inr hb⟩
   ·rw[<-hrun];simp[Builtin.append_]
   ·simp at e;have:=h.kp.size;omega
def blV:List (Nat×Nat)->List Value
 | []=>[]
 | b :: l=>.int .u64 b.1 :: .int .u64 b.2 :: blV l
theorem tR{n:Nat}{ws:List Nat}{k:Nat} : (bR n ws k = -1/\∀ j,k<=j->j<n->aD ws j=false)\/∃ j:Nat,bR n ws k=(j:Int)/\k<=j/\j<n/\aD ws j=true/\∀ i,k<=i->i<j->aD ws i=false:=by
 cases h:(List.range n).find? (fun j=>decide (k<=j) && aD ws j)with
 | none=>
  refine .inl ⟨by unfold bR;rw[h],fun j h1 h2=>?_⟩;have:=List.find?_eq_none.1 h j (List.mem_range.2 h2)
  cases hb:aD ws j with
  | false=>rfl
  | true=>exact absurd (by simp[h1,hb]) this
 | some j=>
  have h':=h;rw[List.find?_range_eq_some] at h';obtain⟨g1,g2,g3⟩:=h';simp only[Bool.and_eq_true,decide_eq_true_eq] at g1;refine .inr ⟨j,by unfold bR;rw[h],g1.1,List.mem_range.1 g2,g1.2,fun i h1 h2=>?_⟩;have:=g3 i h2;simp only[Bool.not_eq_true',Bool.and_eq_false_iff,decide_eq_false_iff_not] at this;rcases this with h|h
  ·omega
  ·exact h
theorem mT{I:Img}(h:(chk I).1=0)(a:Nat)(ha:a<11):rl I a=none:=by
 cases e:(List.range 11).findSome? (fun j=>(rl I j).map fun p=>(j+1,p))with
 | none=>
  have:=List.findSome?_eq_none_iff.1 e a (List.mem_range.2 ha);simpa using this
 | some x=>
  exfalso
  have:chk I=x:=by unfold chk;rw[e]
  rw[this] at h;obtain⟨j,-,hj⟩:=List.exists_of_findSome?_eq_some e;simp only[Option.map_eq_some_iff] at hj;obtain⟨p,-,hp⟩:=hj;rw[<-hp] at h;simp at h
theorem mV{I:Img}(h:(chk I).1=0):∃ r,Sn9 I I.ord.toNat r:=sn9_of (mT h 0 (by decide)) (mT h 1 (by decide)) (mT h 2 (by decide))
theorem BH{o:Nat}(h:o<=8):IntKind.u64.wrap ((4096:Int)*2 ^ o)=((4096*2 ^ o:Nat):Int):=by
 have h1:=M.pow8 o h;have e:((2:Int) ^ o)=((2 ^ o:Nat):Int):=by simp
 rw[wrap_u64,e];generalize 2 ^ o=P at *;omega
set_option maxHeartbeats 16000000
set_option maxRecDepth 6000
theorem mW:(prog.info? 5).map (fun i=>(i.zero,i.size,i.bytes))=some (some (.int .u8 0),1,1):=by kernel_rfl
section
variable {P:Program} {ops:Array Oper} {md:Region.Mode} {Q:Exit->Act->World->Prop}
theorem wpOp_of_list{i:Nat}{o:Oper}{K:Act->World->Prop}{a:Act}{w:World}(ho:ops[i]?=some o)(h:wpList P ops (Exit.then K Q) [o] a w):wpOp P ops Q i K a w:=by
 unfold wpOp;simp only[ho];unfold wpList at h;split
 ·rename_i hw;simp only[hw,if_true] at h;rcases h with h|⟨h1,b,w1,h2⟩
  ·refine .inl ?_;unfold Oper.wp at *;generalize (execOp a.eval o).run P w=r at *
   cases r with
   | ok n w'=>cases n <;> simp only[Oper.upon] at h ⊢ <;> exact h
   | halt x w'=>cases x <;> simp only[Oper.upon] at h ⊢ <;> exact h
  ·exact .inr ⟨h1,b,w1,h2⟩
 ·rename_i hw;simp only[hw] at h;exact h
def nS(ls:Array Bool):Nat:=ls.toList.countP (fun b=>!b)
theorem CZ{ls:Array Bool}{i:Nat}(h:ls.getD i true=false):nS (ls.setIfInBounds i true)+1=nS ls:=by
 unfold nS;rcases Nat.lt_or_ge i ls.size with hl|hl
 ·have h1:ls[i]=false:=by simpa [hl] using h
  obtain⟨l⟩:=ls;simp only[List.setIfInBounds_toArray,List.getElem_toArray] at *;clear h;induction l generalizing i with
  | nil=>simp at hl
  | cons x l ih=>
   cases i with
   | zero=>
    simp only[List.getElem_cons_zero] at h1;subst h1;simp
   | succ i=>
    simp only[List.set_cons_succ,List.countP_cons];have:=ih (i:=i) (by simpa using hl) (by simpa using h1);omega
 ·simp[Array.getElem?_eq_none hl] at h
theorem EJ{ls:Array Bool}(h:nS ls=0):Region.ready md ops ls=[]:=by
 rw[List.eq_nil_iff_forall_not_mem];intro i hi;have h1:=CZ (mem_ready.1 hi).1;omega
theorem CY{I:Array Bool->Act->World->Prop}(hs:∀ ls a w i,I ls a w->i∈Region.ready md ops ls->wpOp P ops Q i (I (ls.setIfInBounds i true)) a w)
  (he:∀ ls a w,I ls a w->Region.ready md ops ls=[]->Q .normal a w):∀ (n:Nat) (ls:Array Bool) (a:Act) (w:World),nS ls<=n->I ls a w->wpAny P md ops Q n ls a w
 | 0,ls,a,w,hn,h=>⟨EJ (by omega),he _ _ _ h (EJ (by omega))⟩
 | n+1,ls,a,w,hn,h=>⟨he _ _ _ h,fun i hi=>wpOp_mono (fun a' w' h'=>CY hs he n _ a' w' (by have:=CZ (mem_ready.1 hi).1;omega) h') (hs _ _ _ _ h hi)⟩
end
theorem wp_region_inv{P:Program}{id:Nat}{Q:Exit->Act->World->Prop}{a:Act}{w:World}{ops:Array Oper}(hm:P.follows .mixedOrders=true)(I:Array Bool->Act->World->Prop)
  (h0:I (Array.replicate ops.size false) a w.drew)
  (hs:∀ ls a w i,I ls a w->i∈Region.ready .any ops ls->wpOp P ops Q i (I (ls.setIfInBounds i true)) a w)
  (he:∀ ls a w,I ls a w->Region.ready .any ops ls=[]->Q .normal a w):(Code.region id ops true).wp P Q a w:=
 wp_region_any hm (CY hs he _ _ _ _ (by unfold nS;refine Nat.le_trans List.countP_le_length ?_;simp) h0)
end Go.Proofs.YtkfmheelhinjdaaGreatDoor.W
namespace Go.Proofs.YtkfmheelhinjdaaGreatDoor
open Tryz
open Go.RowKit
set_option linter.unusedVariables false
theorem bE{P:Program}{ops:Array Oper}{Q:Exit->Act->World->Prop}{i:Nat}{o:Oper}{K:Act->World->Prop}{a:Act}{w:World}(ho:ops[i]?=some o)(h:wpList P ops (Exit.then K Q) [o] a w):wpOp P ops Q i K a w:=W.wpOp_of_list ho h
def aG(v:Nat->Value)(i:Nat)(u:Value):Nat->Value:=fun j=>if j=i then u else v j
theorem yY{v:Nat->Value}{i:Nat}{u:Value} : aG v i u i=u:=if_pos rfl
theorem yX{v:Nat->Value}{i j:Nat}{u:Value}(h:j≠i):aG v i u j=v j:=if_neg h
def gD(ops:Array Oper)(i j:Nat):Bool:=match ops[i]? with
 | none=>false
 | some o=>o.after.any fun e=>Region.binds .any e && e.on == j
def lU(ops:Array Oper):Nat->Nat->Nat->Bool
 | 0,_,_=>false
 | n+1,i,j=>gD ops i j || match ops[i]? with
  | none=>false
  | some o=>o.after.any fun e=>Region.binds .any e && lU ops n e.on j
def iR(ops:Array Oper):Bool:=(List.range ops.size).all fun i=>match ops[i]? with
 | none=>true
 | some o=>o.after.all fun e=>!Region.binds .any e || decide (e.on<i)
def GH(ops:Array Oper)(last:Nat):Bool:=(List.range last).all fun j=>lU ops 40 last j
section
variable {P:Program} {ops:Array Oper} {Q:Exit->Act->World->Prop} {ls:Array Bool}
theorem AP{i j:Nat} : gD ops i j=true↔∃ o,ops[i]?=some o/\∃ e∈o.after,Region.binds .any e=true/\e.on=j:=by
 unfold gD
 cases h:ops[i]? with
 | none=>simp
 | some o=>
  simp[Array.any_eq_true,Array.mem_iff_getElem];grind
theorem vG(hc:∀ i j,gD ops i j=true->ls.getD i false=true->ls.getD j false=true){i j:Nat}(hr:∀ j,gD ops i j=true->ls.getD j false=true):∀ n,lU ops n i j=true->ls.getD j false=true:=by
 intro n;induction n generalizing i with
 | zero=>intro h;cases h
 | succ n ih=>
  intro h;unfold lU at h;rw[Bool.or_eq_true] at h;rcases h with h|h
  ·exact hr _ h
  ·cases ho:ops[i]? with
   | none=>rw[ho] at h;cases h
   | some o=>
    rw[ho] at h;simp only[Array.any_eq_true',Bool.and_eq_true] at h;obtain⟨e,he,hb,h⟩:=h;have hd:=hr _ (AP.2 ⟨o,ho,e,he,hb,rfl⟩);exact ih (fun k hk=>hc _ _ hk hd) h
theorem rU{i:Nat}(hi:i∈Region.ready .any ops ls):∀ j,gD ops i j=true->ls.getD j false=true:=by
 intro j hj;obtain⟨hn,o,ho,hd⟩:=mem_ready.1 hi;obtain⟨o',ho',e,he,hb,rfl⟩:=AP.1 hj;rw[ho] at ho'
 cases ho'
 exact hd e he hb
theorem tU{i:Nat}(hn:ls.getD i true=false):i<ls.size/\ls.getD i false=false:=by
 rcases Nat.lt_or_ge i ls.size with hl|hl
 ·exact⟨hl,by simpa [hl] using hn⟩
 ·simp[Array.getElem?_eq_none hl] at hn
theorem qB{i j:Nat}(hi:i<ls.size):(ls.setIfInBounds i true).getD j false=true↔j=i\/ls.getD j false=true:=by
 by_cases h:i=j
 ·subst h;simp[hi]
 ·rw[Go.getD_set_ne _ h];exact⟨.inr,fun h'=>h'.resolve_left (fun e=>h e.symm)⟩
theorem AO(hs:ls.size=ops.size)(hB:iR ops=true)(hr:Region.ready .any ops ls=[]):∀ n i,i<=n->i<ops.size->ls.getD i false=true:=by
 intro n;induction n with
 | zero=>
  intro i hi hl;obtain rfl:i=0:=by omega
  cases h:ls.getD 0 false with
  | true=>rfl
  | false=>
   have : 0∈Region.ready .any ops ls:=mem_ready.2 ⟨(by have : 0<ls.size:=(by omega);simpa [this] using h),ops[0],by simp,fun e he hb=>by
    unfold iR at hB;have:=List.all_eq_true.1 hB 0 (by simpa using hl);simp only[Array.getElem?_eq_getElem hl] at this;have:=Array.all_eq_true'.1 this e he;simp[hb] at this⟩
   rw[hr] at this
   cases this
 | succ n ih=>
  intro i hi hl;rcases Nat.lt_or_ge i (n+1)with h1|h1
  ·exact ih i (by omega) hl
  cases h:ls.getD i false with
  | true=>rfl
  | false=>
   have:i∈Region.ready .any ops ls:=mem_ready.2 ⟨(by have:i<ls.size:=(by omega);simpa [this] using h),ops[i],by simp,fun e he hb=>by
    unfold iR at hB;have:=List.all_eq_true.1 hB i (by simpa using hl);simp only[Array.getElem?_eq_getElem hl] at this;have:=Array.all_eq_true'.1 this e he;simp[hb] at this;exact ih _ (by omega) (by omega)⟩
   rw[hr] at this
   cases this
theorem oU{n i:Nat} : (Array.replicate n false).getD i false=false:=by
 rcases Nat.lt_or_ge i n with h|h
 ·simp[h]
 ·simp[Nat.not_lt.2 h]
structure Flw(ops:Array Oper)(G:World->World->Prop)(w1:World)(R:Nat->Value->World->Prop)(ls:Array Bool)(v:Nat->Value)(w:World):Prop where
 sz:ls.size=ops.size
 cl:∀ i j,gD ops i j=true->ls.getD i false=true->ls.getD j false=true
 k:G w1 w
 d:∀ i,ls.getD i false=true->R i (v i) w
theorem Flw.put{G:World->World->Prop}{w1 W W':World}{R:Nat->Value->World->Prop}{v:Nat->Value}{i:Nat}{u:Value}(hG:∀ a b c,G a b->G b c->G a c)(hR:∀ i u W W',R i u W->G W W'->R i u W')
  (h:Flw ops G w1 R ls v W) (hi:i∈Region.ready .any ops ls) (hu:R i u W') (k:G W W'):Flw ops G w1 R (ls.setIfInBounds i true) (aG v i u) W':=by
 have hd:=rU hi;have hn:=tU (mem_ready.1 hi).1;refine⟨by simpa using h.sz,fun a b hab ha=>?_,hG _ _ _ h.k k,fun j hj=>?_⟩
 ·rw[qB hn.1] at ha ⊢;rcases ha with rfl|ha
  ·exact .inr (hd _ hab)
  ·exact .inr (h.cl _ _ hab ha)
 ·rw[qB hn.1] at hj;by_cases e:j=i
  ·subst e;rw[yY];exact hu
  ·rw[yX e];exact hR _ _ _ _ (h.d j (hj.resolve_left e)) k
theorem zdO{id:Nat}{w:World}(hm:P.follows .mixedOrders=true)(F:(Nat->Value)->Act)(v0:Nat->Value)(B:World->Prop)(G:Nat->World->World->Prop)(R:Nat->Value->World->Prop)
  (hG:∀ i W W',B W->G i W W'->B W') (hR:∀ i j u W W',j≠i->B W->R j u W->G i W W'->R j u W') (hB:iR ops=true) (hw:B w.drew)
  (hs:∀ i o,ops[i]?=some o->∀ v W,B W->(∀ j,lU ops 40 i j=true->R j (v j) W)->wpOp P ops Q i (fun a' W'=>∃ u,a'=F (aG v i u)/\R i u W'/\G i W W') (F v) W)
  (hl:∀ v W,B W->(∀ i,i<ops.size->R i (v i) W)->Q .normal (F v) W):(Code.region id ops true).wp P Q (F v0) w:=by
 refine W.wp_region_inv hm (fun ls a W=>∃ v,a=F v/\(ls.size=ops.size/\(∀ i j,gD ops i j=true->ls.getD i false=true->ls.getD j false=true)/\B W/\∀ i,ls.getD i false=true->R i (v i) W)) ⟨v0,rfl,by simp,fun i j _ h=>(by rw[oU] at h;cases h),hw,fun i h=>(by rw[oU] at h;cases h)⟩ ?_ ?_
 ·rintro ls a W i ⟨v,rfl,hz,hc,hb,hd0⟩ hi;obtain⟨hn,o,ho,hd⟩:=mem_ready.1 hi;have hn2:=tU hn;have hrd:=rU hi;refine wpOp_mono ?_ (hs i o ho v W hb fun j hj=>hd0 j (vG hc hrd _ hj));rintro a' W' ⟨u,rfl,hu,k⟩;refine⟨_,rfl,by simpa using hz,fun a b hab ha=>?_,hG _ _ _ hb k,fun j hj=>?_⟩
  ·rw[qB hn2.1] at ha ⊢;rcases ha with rfl|ha
   ·exact .inr (hrd _ hab)
   ·exact .inr (hc _ _ hab ha)
  ·rw[qB hn2.1] at hj;by_cases e:j=i
   ·subst e;rw[yY];exact hu
   ·rw[yX e];exact hR _ _ _ _ _ e hb (hd0 j (hj.resolve_left e)) k
 ·rintro ls a W ⟨v,rfl,hz,hc,hb,hd0⟩ hr;exact hl v W hb fun i hi=>hd0 i (AO hz hB hr i i (Nat.le_refl _) hi)
theorem FM{id:Nat}{w w1:World}(hm:P.follows .mixedOrders=true)(F:(Nat->Value)->Act)(v0:Nat->Value)(G:World->World->Prop)(hG:∀ a b c,G a b->G b c->G a c)(R:Nat->Value->World->Prop)
  (hR:∀ i u W W',R i u W->G W W'->R i u W') (last:Nat) (hz:ops.size=last+1) (hB:iR ops=true) (hL:GH ops last=true) (hw:G w1 w.drew)
  (hs:∀ i o,ops[i]?=some o->i<last->∀ v W,G w1 W->(∀ j,lU ops 40 i j=true->R j (v j) W)->wpOp P ops Q i (fun a' W'=>∃ u,a'=F (aG v i u)/\R i u W'/\G W W') (F v) W)
  (hl:∀ o,ops[last]?=some o->∀ v W,G w1 W->(∀ i,i<last->R i (v i) W)->wpOp P ops Q last (fun a' W'=>Q .normal a' W') (F v) W):(Code.region id ops true).wp P Q (F v0) w:=by
 refine W.wp_region_inv hm (fun ls a W=>ls.size=ops.size/\((ls.getD last false=false/\∃ v,a=F v/\Flw ops G w1 R ls v W)\/(∀ i,i<=last->ls.getD i false=true)/\Q .normal a W)) ⟨by simp,.inl ⟨oU,v0,rfl,by simp,fun i j _ h=>(by rw[oU] at h;cases h),hw,fun i h=>(by rw[oU] at h;cases h)⟩⟩ ?_ ?_
 ·rintro ls a W i ⟨hsz,h⟩ hi;obtain⟨hn,o,ho,hd⟩:=mem_ready.1 hi;have hn2:=tU hn;rcases h with ⟨hl0,v,rfl,h⟩|⟨h,_⟩
  ·rcases Nat.lt_trichotomy i last with h1|rfl|h1
   ·refine wpOp_mono ?_ (hs i o ho h1 v W h.k fun j hj=>h.d j (vG h.cl (rU hi) _ hj));rintro a' W' ⟨u,rfl,hu,k⟩;exact⟨by simpa using hsz,.inl ⟨by rw[Go.getD_set_ne _ (by omega)];exact hl0,_,rfl,h.put hG hR hi hu k⟩⟩
   ·have ha:∀ j,j<i->ls.getD j false=true:=fun j hj=>vG h.cl (rU hi) _ (List.all_eq_true.1 hL j (by simpa using hj))
    refine wpOp_mono ?_ (hl o ho v W h.k fun j hj=>h.d j (ha j hj));intro a' W' hq;refine⟨by simpa using hsz,.inr ⟨fun j hj=>(qB hn2.1).2 ?_,hq⟩⟩;by_cases e:j=i
    ·exact .inl e
    ·exact .inr (ha j (by omega))
   ·omega
  ·rw[h i (by omega)] at hn2
   cases hn2.2
 ·rintro ls a W ⟨hsz,h⟩ hr;rcases h with ⟨hl0,v,rfl,h⟩|⟨_,h⟩
  ·rw[AO hsz hB hr last last (Nat.le_refl _) (by omega)] at hl0
   cases hl0
  ·exact h
def cS:Value->World->Prop:=fun _ _=>True
theorem zcS{id:Nat}{w:World}(hm:P.follows .mixedOrders=true)(F:(Nat->Value)->Act)(v0:Nat->Value)(B:World->Prop)(N Wr:World->World->Prop)(La:List (Value->World->Prop))(RS:Value->World->Prop)(k:Nat)(hk:La.length=k)(hz:ops.size=k+1)
  (hN:∀ W W',B W->N W W'->B W') (hW:∀ W W',B W->Wr W W'->B W') (stN:∀ r∈La,∀ u W W',B W->r u W->N W W'->r u W') (stS:∀ u W W',B W->RS u W->N W W'->RS u W') (stW:∀ r∈La,∀ u W W',B W->r u W->Wr W W'->r u W') (hB:iR ops=true) (hw:B w.drew)
  (hs:∀ i o,ops[i]?=some o->i<k->∀ v W,B W->(∀ j,lU ops 40 i j=true->((La ++ [RS]).getD j cS) (v j) W)->wpOp P ops Q i (fun a' W'=>∃ u,a'=F (aG v i u)/\(La.getD i cS) u W'/\N W W') (F v) W)
  (hx:∀ o,ops[k]?=some o->∀ v W,B W->(∀ j,lU ops 40 k j=true->((La ++ [RS]).getD j cS) (v j) W)->wpOp P ops Q k (fun a' W'=>∃ u,a'=F (aG v k u)/\RS u W'/\Wr W W') (F v) W)
  (hl:∀ v W,B W->(∀ i,i<k->(La.getD i cS) (v i) W)->RS (v k) W->Q .normal (F v) W):(Code.region id ops true).wp P Q (F v0) w:=by
 subst hk;have lt:∀ j,j<La.length->(La ++ [RS]).getD j cS=La.getD j cS:=fun j hj=>by
  rw[List.getD_eq_getElem?_getD,List.getD_eq_getElem?_getD,List.getElem?_append_left hj]
 have eq:(La ++ [RS]).getD La.length cS=RS:=by
  rw[List.getD_eq_getElem?_getD,List.getElem?_append_right (Nat.le_refl _),Nat.sub_self];rfl
 have gt:∀ j,La.length<j->(La ++ [RS]).getD j cS=cS:=fun j hj=>by
  rw[List.getD_eq_getElem?_getD,List.getElem?_eq_none (by simp;omega)];rfl
 have mem:∀ j,j<La.length->La.getD j cS∈La:=fun j hj=>by
  rw[List.getD_eq_getElem?_getD,List.getElem?_eq_getElem hj];exact List.getElem_mem _
 refine zdO hm F v0 B (fun i=>if i=La.length then Wr else N) (fun j=>(La ++ [RS]).getD j cS) (fun i W W' hb hg=>?_) (fun i j u W W' hne hb hr hg=>?_) hB hw (fun i o ho v W hb hd=>?_) (fun v W hb hd=>?_)
 ·by_cases e:i=La.length
  ·rw[if_pos e] at hg;exact hW _ _ hb hg
  ·rw[if_neg e] at hg;exact hN _ _ hb hg
 ·rcases Nat.lt_trichotomy j La.length with h1|rfl|h1
  ·rw[lt j h1] at hr ⊢;by_cases e:i=La.length
   ·rw[if_pos e] at hg;exact stW _ (mem j h1) _ _ _ hb hr hg
   ·rw[if_neg e] at hg;exact stN _ (mem j h1) _ _ _ hb hr hg
  ·rw[if_neg (Ne.symm hne)] at hg;rw[eq] at hr ⊢;exact stS _ _ _ hb hr hg
  ·rw[gt j h1];exact True.intro
 ·have hi:i<ops.size:=(Array.getElem?_eq_some_iff.1 ho).1;by_cases e:i=La.length
  ·subst e;refine wpOp_mono ?_ (hx o ho v W hb hd);rintro a' W' ⟨u,h1,h2,h3⟩;exact⟨u,h1,by rw[eq];exact h2,by rw[if_pos rfl];exact h3⟩
  ·refine wpOp_mono ?_ (hs i o ho (by omega) v W hb hd);rintro a' W' ⟨u,h1,h2,h3⟩;exact⟨u,h1,by rw[lt i (by omega)];exact h2,by rw[if_neg e];exact h3⟩
 ·refine hl v W hb (fun i hi=>?_) ?_
  ·have:=hd i (by omega);rwa [lt i hi] at this
  ·have:=hd La.length (by omega);rwa [eq] at this
end
end Go.Proofs.YtkfmheelhinjdaaGreatDoor
namespace Go.Proofs.YtkfmheelhinjdaaGreatDoor.W
open Tryz
open Go.RowKit
set_option linter.unusedVariables false
theorem xI(p:Pg)(k o:Int):pgE p (aN k o)=(decide (p.kd=k) && (decide (p.od=o) && jG p)):=by
 obtain⟨kd,od,cl,lv,nx,pv,fs,b0,b1,b2,b3⟩:=p;unfold pgE jG aN;rw[<-Bool.decide_and,<-Bool.decide_and,decide_eq_decide,Pg.mk.injEq]
theorem ok8_eq{I:Img}{k r:Nat}(hS:Sn9 I k r)(j:Nat):ok8 I j=refL (decP I) 0 (fun i=>M.word I.mem (4096*i)) (fun i=>M.word I.mem (4096*i+8)) (fun i=>isF (I.pg i) (j:Int)) (pgL I fun p=>isF p (j:Int)).length (I.hd.getD j 0) 0:=by
 unfold ok8;refine yF (cod:=fun i=>I.bS+4096*i) (fun i=>by have:=hS.b0;omega) (fun i j h=>by omega) (fun p i h=>(pC hS h).2.1) ?_ (pgL I fun p=>isF p (j:Int)) (pgL_nodup _ _) (fun p i h=>?_) _ (pgL I fun p=>isF p (j:Int)) [] _ _ rfl (pgL_nodup _ _) List.nodup_nil (fun i=>by simp) (fun i _ h=>by cases h) trivial rfl
 ·unfold decP;rw[if_neg (by have:=hS.b0;omega)]
 ·rw[pgL_mem];exact⟨fun x=>x.2,fun x=>⟨(pC hS h).1,x⟩⟩
theorem IX(p:Pg)(hp:PgIn p):aU (wsP p)=aF (aD (wsP p)) 256:=by
 refine sK (wsP p) (fun i=>?_) 4;match i with
 | 0=>exact hp.b0
 | 1=>exact hp.b1
 | 2=>exact hp.b2
 | 3=>exact hp.b3
 | i+4=>simp[List.getD]
theorem ok5_iff(p:Pg)(hp:PgIn p)(c:Nat)(hc:p.cl=(c:Int))(h4:p.kd=4):ok5 p=true↔(0<p.lv/\p.lv=(aF (aD (wsP p)) 256:Int))/\∀ j,celN9 c<=j->j<256->aD (wsP p) j=false:=by
 unfold ok5;rw[hc,Int.toNat_natCast,IX p hp,decide_eq_true h4,Bool.not_true,Bool.false_or,Bool.and_eq_true,Bool.and_eq_true,decide_eq_true_eq,decide_eq_true_eq,decide_eq_true_eq];refine and_congr_right fun _=>?_
 rcases tR (n:=256) (ws:=wsP p) (k:=celN9 c)with ⟨h1,h2⟩|⟨j,h1,h2,h3,h5,h6⟩
 ·exact⟨fun _=>h2,fun _=>h1⟩
 ·rw[h1];refine⟨fun h=>by omega,fun h=>?_⟩;rw[h j h2 h3] at h5
  cases h5
theorem cntB_cut(f:Nat->Bool)(n:Nat):∀ d,(∀ j,n<=j->j<n+d->f j=false)->aF f (n+d)=aF f n
 | 0,_=>rfl
 | d+1,h=>by
  rw[<-Nat.add_assoc,kL f _ (h (n+d) (by omega) (by omega))];exact cntB_cut f n d (fun j h1 h2=>h j h1 (by omega))
theorem yT(c:Nat)(h:c<=7):celN9 c<=256/\1<=celN9 c:=by
 match c,h with
 | 0,_=>decide
 | 1,_=>decide
 | 2,_=>decide
 | 3,_=>decide
 | 4,_=>decide
 | 5,_=>decide
 | 6,_=>decide
 | 7,_=>decide
theorem tH{p:Pg}(hp:PgIn p){c:Nat}(hc:p.cl=(c:Int))(h7:c<=7)(h4:p.kd=4)(h:ok5 p=true):∃ l:Nat,p.lv=(l:Int)/\1<=l/\l<=celN9 c/\l=aF (aD (wsP p)) (celN9 c):=by
 rw[ok5_iff p hp c hc h4] at h;obtain⟨⟨h1,h2⟩,h3⟩:=h;have hk:=yT c h7;have e:aF (aD (wsP p)) 256=aF (aD (wsP p)) (celN9 c):=by
  have:=cntB_cut (aD (wsP p)) (celN9 c) (256-celN9 c) (fun j a b=>h3 j a (by omega));rwa [show celN9 c+(256-celN9 c)=256 by omega] at this
 have:=rK (aD (wsP p)) (celN9 c);exact⟨aF (aD (wsP p)) 256,h2,by omega,by omega,e⟩
theorem TE(p:Pg)(n:Nat):(frL p n).length+aF (aD (wsP p)) n=n:=by
 induction n with
 | zero=>rfl
 | succ n ih=>
  unfold frL at ih ⊢;rw[List.range_succ,List.filter_append,List.length_append]
  cases h:aD (wsP p) n with
  | true=>rw[lE _ _ h];simp[h];omega
  | false=>rw[kL _ _ h];simp[h];omega
theorem ok10_eq(I:Img)(j:Nat):bQ I j=refL (dec10 I) (-1) (fun i=>(I.pg i).nx) (fun i=>(I.pg i).pv) (fun i=>prS (j:Int) (I.pg i)) (pgL I (prS (j:Int))).length (I.pt.getD j 0) (-1):=by
 unfold bQ;refine yF (cod:=fun i=>(i:Int)) (fun i=>by omega) (fun i j h=>by omega) (fun p i h=>(tK h).2.1) rfl (pgL I (prS (j:Int))) (pgL_nodup _ _) (fun p i h=>?_) _ (pgL I (prS (j:Int))) [] _ _ rfl (pgL_nodup _ _) List.nodup_nil (fun i=>by simp) (fun i _ h=>by cases h) trivial rfl;rw[pgL_mem];exact⟨fun x=>x.2,fun x=>⟨(tK h).1,x⟩⟩
theorem yS(I:Img)(S:Pg->Bool):∀ n,((List.range n).filter fun i=>S (I.pg i)).length=aF (fun i=>S (I.pg i)) n
 | 0=>rfl
 | n+1=>by
  rw[List.range_succ,List.filter_append,List.length_append,yS I S n]
  cases h:S (I.pg n)with
  | true=>rw[lE (fun i=>S (I.pg i)) n h];simp[h]
  | false=>rw[kL (fun i=>S (I.pg i)) n h];simp[h]
theorem yR(I:Img)(S:Pg->Bool):(pgL I S).length=aF (fun i=>S (I.pg i)) I.np:=yS I S I.np
end Go.Proofs.YtkfmheelhinjdaaGreatDoor.W
