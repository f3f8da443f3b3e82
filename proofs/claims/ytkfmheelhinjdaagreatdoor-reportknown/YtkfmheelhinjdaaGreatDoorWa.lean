import Derived.Test.YtkfmheelhinjdaaGreatDoorXz
import Derived.Deep.Upon
import Derived.Test.YtkfmheelhinjdaaGreatDoorZe
import Derived.Maps.RangeWalk
import Derived.WideKeyEntry
set_option maxRecDepth 1000000
set_option maxHeartbeats 80000000
namespace Go.Proofs.YtkfmheelhinjdaaGreatDoor.W
open _root_.Go.Proofs.Tryz
open Go.RowKit
set_option linter.unusedVariables false
def lS:Obj:=.cells #[.int .i64 1,.func (.func 165) #[] #[],.int .i64 2,.func (.func 166) #[] #[],.int .i64 3,.func (.func 167) #[] #[],.int .i64 4,.func (.func 168) #[] #[],.int .i64 5,.func (.func 169) #[] #[],.int .i64 6,.func (.func 170) #[] #[],.int .i64 7,.func (.func 171) #[] #[],.int .i64 8,.func (.func 172) #[] #[],.int .i64 9,.func (.func 173) #[] #[],.int .i64 10,.func (.func 174) #[] #[],.int .i64 11,.func (.func 175) #[] #[]] 187 (0,0)
theorem VB(w:World):Calls prog 134 #[] w fun e w'=>e=.returned (.slice (some ⟨w.heap.size,0,none⟩) 11 11)/\w'=w.alloc lS:=by
 go_enter func134,ntmps134;go_wp2
 go_ret;exact⟨rfl,rfl⟩
theorem YT{w:World}{g:Nat}(h:w.heap[g]?=some lS)(a:Nat)(ha:a<11):w.cell? ⟨g,a*2,none⟩=some (.int .i64 ((a+1:Nat):Int))/\w.cell? ⟨g,a*2+1,none⟩=some (.func (.func (fS a)) #[] #[]):=by
 unfold lS at h;match a,ha with
 | 0,_=>exact⟨by simp[World.cell?,h],by simp[World.cell?,h,fS]⟩
 | 1,_=>exact⟨by simp[World.cell?,h],by simp[World.cell?,h,fS]⟩
 | 2,_=>exact⟨by simp[World.cell?,h],by simp[World.cell?,h,fS]⟩
 | 3,_=>exact⟨by simp[World.cell?,h],by simp[World.cell?,h,fS]⟩
 | 4,_=>exact⟨by simp[World.cell?,h],by simp[World.cell?,h,fS]⟩
 | 5,_=>exact⟨by simp[World.cell?,h],by simp[World.cell?,h,fS]⟩
 | 6,_=>exact⟨by simp[World.cell?,h],by simp[World.cell?,h,fS]⟩
 | 7,_=>exact⟨by simp[World.cell?,h],by simp[World.cell?,h,fS]⟩
 | 8,_=>exact⟨by simp[World.cell?,h],by simp[World.cell?,h,fS]⟩
 | 9,_=>exact⟨by simp[World.cell?,h],by simp[World.cell?,h,fS]⟩
 | 10,_=>exact⟨by simp[World.cell?,h],by simp[World.cell?,h,fS]⟩
theorem CV(p:Addr)(x pl:Int)(older:List PanicEntry)(w:World)(hc:w.cell? p=some (.int .i64 x))(hz:w.frozen? p=false):
  CallsD prog 132 #[.pointer (some p)] (.panicking ({ v:=.iface 218 (.int .i64 pl),recovered:=false } :: older)) w fun e u' w'=>
   e=.returned (.tuple #[])/\u'=.panicking ({ v:=.iface 218 (.int .i64 pl),recovered:=true } :: older)/\w'=w.setCell p (.int .i64 pl):=by
 refine callsD_of_wpS func132 rfl fun c₀ cs hu=>?_
 apply wpS_region
 simp[wpOpsS,go_sem,recoverD,hu,ntmps132];refine(ZW _ _).mono ?_;rintro e w' ⟨rfl,rfl⟩;simp[go_sem,hc,hz,bodyPostS,results,results132]
theorem CU(p:Addr)(x:Int)(w:World)(hc:w.cell? p=some (.int .i64 x))(hz:w.frozen? p=false):
  CallsD prog 132 #[.pointer (some p)] .returning w fun e u' w'=>e=.returned (.tuple #[])/\u'=.returning/\w'=w.setCell p (.int .i64 0):=by
 refine callsD_of_wpS func132 rfl fun c₀ cs hu=>?_
 apply wpS_region
 simp[wpOpsS,go_sem,recoverD,hu,ntmps132];refine(ZD _).mono ?_;rintro e w' ⟨rfl,rfl⟩
 cases c₀
 simp_all [go_sem,bodyPostS,results,results132]
structure CkI(w W:World)(I:Img)(V:ImV)(g:Nat):Prop where
 im:ImAt W w.heap.size I V
 pl:W.heap[w.heap.size+1]?=some (.cells #[.int .i64 0] 3 (0,0))
 tb:W.heap[g]?=some lS
 k:Kt nO w W
theorem CkI.keep{w W W':World}{I:Img}{V:ImV}{g:Nat}(h:CkI w W I V g)(hk:Kt nO W W'):CkI w W' I V g:=
 ⟨h.im.keep hk,(hk.block _ (lH h.pl) (fun x=>x)).trans h.pl,(hk.block _ (lH h.tb) (fun x=>x)).trans h.tb,nT h.k hk⟩
theorem VA(I:Img)(V:ImV)(w:World)(hI:ImD w I V):
  Calls prog 90 #[.agg #[.int .u64 I.bS,.int .i64 I.lim,.int .i64 I.ord,.int .i64 I.reg,V.m,V.p,V.r,V.h,V.t]] w fun e w'=>e=.returned (.tuple #[.int .i64 ((chk I).1:Int),.int .i64 ((chk I).2:Int)])/\Kt nO w w':=by
 have hmf:=M.mkf;obtain⟨EE,hEE⟩:=xe (Ending.returned (.tuple #[.int .i64 ((chk I).1:Int),.int .i64 ((chk I).2:Int)]));have FB:=aA (show ∀ j p,j<11->(∀ a,a<j->rl I a=none)->rl I j=some p->Ending.returned (.tuple #[.int .i64 ((j+1:Nat):Int),.int .i64 p])=EE from fun j p h1 h2 h3=>by rw[hEE,PN h1 h2 h3]);have FG:=aA (show(∀ a,a<11->rl I a=none)->Ending.returned (.tuple #[.int .i64 0,.int .i64 0])=EE from fun h=>by rw[hEE,chk_ok h];rfl);rw[<-hEE];have K0:=aA (show Kt nO w ((w.alloc (cA I V)).alloc (.cells #[.int .i64 0] 3 (0,0)))from((Kt.refl _ w).alloc _).alloc _);have B1:=aA (show((w.alloc (cA I V)).alloc (.cells #[.int .i64 0] 3 (0,0))).heap[w.heap.size]?=some (cA I V)by rw[Below.heap_alloc _ _ _ (by simp)];exact nH w _);have B2:=aA (show((w.alloc (cA I V)).alloc (.cells #[.int .i64 0] 3 (0,0))).heap[w.heap.size+1]?=some (.cells #[.int .i64 0] 3 (0,0))from yS w _ _);have SZ:=aA (show((w.alloc (cA I V)).alloc (.cells #[.int .i64 0] 3 (0,0))).heap.size=w.heap.size+2 by simp);have HI:=aA hI;obtain⟨⟨ma,mc,hm⟩,⟨pa,pc,hp⟩,⟨ra,rc,hr⟩,⟨ha,hc,hh⟩,⟨ta,tc,ht⟩,-⟩:=hI.sl;rw[hm,hp,hr,hh,ht];clear hEE hI;go_enter_defers func90,ntmps90;go_wp2_with fail;have EW:(w.alloc (.cells #[.int .u64 I.bS,.int .i64 I.lim,.int .i64 I.ord,.int .i64 I.reg,.slice ma I.nm mc,.slice pa I.np pc,.slice ra I.no rc,.slice ha I.hd.length hc,.slice ta I.pt.length tc] 38 (0,0)))=w.alloc (cA I V):=by rw[<-hm,<-hp,<-hr,<-hh,<-ht]
 rw[EW];clear EW hm hp hr hh ht;generalize (w.alloc (cA I V)).alloc (.cells #[.int .i64 0] 3 (0,0))=W0 at *;refine(VB W0).mono ?_;rintro e w1 ⟨rfl,rfl⟩;have C0:=aA (show CkI w (W0.alloc lS) I V W0.heap.size from⟨⟨(((Kt.refl nO W0).alloc lS).block _ (lH B1.out) (fun x=>x)).trans B1.out,HI.out.keep (K0.out.alloc _)⟩,(((Kt.refl nO W0).alloc lS).block _ (lH B2.out) (fun x=>x)).trans B2.out,nH _ _,K0.out.alloc _⟩);have GSZ:=aA (show w.heap.size+1<W0.heap.size by have:=SZ.out;omega);generalize W0.alloc lS=W1 at *;generalize W0.heap.size=g at *;clear B1 B2 SZ K0;obtain⟨ib,hib⟩:=xe (w.heap.size);obtain⟨pb,hpb⟩:=xe (w.heap.size+1);have HIB:=aA hib;have HPB:=aA hpb;simp only[<-hpb];simp only[<-hib];clear hib hpb;go_wp2_with fail;go_loopw [9] (fun i W=>∃ a:Nat,a<=11/\i=.int .i64 a/\Hid (CkI w W I V g/\∀ x,x<a->rl I x=none)) (fun i _=>11-(intOf i).toNat)
 case atStart=>exact⟨0,Nat.zero_le _,rfl,aA ⟨C0.out,fun x hx=>by omega⟩⟩
 case round=>
  clear C0;obtain⟨a,ha',rfl,hR⟩:=hrel;by_cases hlt:a<11
  ·have hai:(a:Int)<11:=(by omega);obtain⟨q0,q1⟩:=YT hR.out.1.tb a hlt;obtain⟨a1,ha1⟩:=xe (a+1);rw[<-ha1] at q0;have HA1:=aA ha1;obtain⟨rw',hrw⟩:∃ ob,ob=Obj.cells #[.int .i64 a1,.func (.func (fS a)) #[] #[]] 187 (0,0):=⟨_,rfl⟩;have CK:=aA (hR.out.1.keep ((Kt.refl nO wr).alloc rw'));rw[hrw] at CK;have AK:=aA (PK w.heap.size I V a hlt hR.out.2 _ CK.out.im);rw[<-HIB.out] at AK;have hent:=AK.out.1;have FBa:=aA (show ∀ p,rl I a=some p->Ending.returned (.tuple #[.int .i64 a1,.int .i64 p])=EE from fun p h=>by rw[HA1.out];exact FB.out a p hlt hR.out.2 h);have GA:=aA (show rl I a=none->∀ x,x<a+1->rl I x=none from fun h x hx=>by
    by_cases e:x=a
    ·rw[e];exact h
    ·exact hR.out.2 x (by omega))
   generalize fS a=fid at *;have hst:∀ (a:Addr) (w:World),(store a (.func (.func fid) #[] #[])).run prog w=stored prog w a (.func (.func fid) #[] #[]) .plain:=fun a w=>run_store prog w a _ .plain rfl
   clear ha1 hrw;go_wp2_with fail;have PLC:=aA CK.out.pl;rw[<-HPB.out] at PLC
   cases hrl:rl I a with
   | none=>
    rw[hrl] at AK;have R2:=aA (GA.out hrl);clear hrl;refine AK.out.2.mono ?_;rintro e w2 ⟨rfl,hk2⟩;have R3:=aA (show CkI w w2 I V g/\_ from⟨CK.out.keep hk2,R2.out⟩);clear hk2 q0 q1 hent hst;dsimp only[bB];go_wp2_with fail;go_round
    case rel=>exact⟨a+1,by omega,by go_num,R3⟩
    case measure=>simp[intOf];omega
   | some p=>
    rw[hrl] at AK;have R2:=aA (FBa.out p hrl);clear hrl;refine AK.out.2.mono ?_;rintro e w2 ⟨rfl,hk2⟩;have PL2:=aA ((hk2.block _ (lH PLC.out) (fun x=>x)).trans PLC.out);have hec:w2.cell? ⟨pb,0,none⟩=some (.int .i64 0):=(by simp[World.cell?,PL2.out]);have hef:w2.frozen? ⟨pb,0,none⟩=false:=(by simp[World.frozen?,PL2.out]);have K2:=aA (nT CK.out.k hk2);clear hk2 q0 q1 hent hst;refine leaves_cons (f:=132) (args:=#[.pointer (some ⟨pb,0,none⟩)]) (by simp) (by simp[go_sem]) ?_;refine(CV ⟨pb,0,none⟩ 0 (p:Int) [] w2 hec hef).mono ?_;rintro e u' w'' ⟨rfl,rfl,rfl⟩;refine⟨.tuple #[.int .i64 a1,.int .i64 p],?_,R2.out,K2.out.setNew (fun h=>absurd h (by have:=HPB.out;show ¬pb<_;omega)) _⟩;simp[results,results90,go_sem,hec]
  ·have hae:a=11:=(by omega);have hai:¬(a:Int)<11:=(by omega);have R2:=aA (FG.out (fun x hx=>hR.out.2 x (by omega)));have PL2:=aA hR.out.1.pl;rw[<-HPB.out] at PL2;have hec:wr.cell? ⟨pb,0,none⟩=some (.int .i64 0):=(by simp[World.cell?,PL2.out]);have hef:wr.frozen? ⟨pb,0,none⟩=false:=(by simp[World.frozen?,PL2.out]);have K2:=aA hR.out.1.k;clear hae;go_wp2_with fail;refine leaves_cons (f:=132) (args:=#[.pointer (some ⟨pb,0,none⟩)]) (by simp) (by simp[go_sem]) ?_;have BLK:=aA (show(wr.setCell ⟨pb,0,none⟩ (.int .i64 0)).heap[pb]?=some (.cells #[.int .i64 0] 3 (0,0))from heap_set PL2.out 0 _);have hec2:(wr.setCell ⟨pb,0,none⟩ (.int .i64 0)).cell? ⟨pb,0,none⟩=some (.int .i64 0):=(by simp[World.cell?,BLK.out]);have hef2:(wr.setCell ⟨pb,0,none⟩ (.int .i64 0)).frozen? ⟨pb,0,none⟩=false:=(by simp[World.frozen?,BLK.out]);refine(CU ⟨pb,0,none⟩ 0 _ hec2 hef2).mono ?_;rintro e u' w'' ⟨rfl,rfl,rfl⟩;have hpn:∀ h:pb<w.heap.size,nO pb:=fun h=>absurd h (by have:=HPB.out;omega)
   refine⟨.tuple #[.int .i64 0,.int .i64 0],?_,R2.out,(K2.out.setNew hpn _).setNew hpn _⟩;simp[results,results90,go_sem,hec2]
structure GS(w0 W:World)(e:TypeId)(size:Nat)(v:Value)(n:Nat)(xs:List Value):Prop where
 own:W.ownsRow 0 e size v n xs
 new:∀ g cap,v=.slice (some ⟨g,0,none⟩) n cap->w0.heap.size<=g
 kp:Kt nO w0 W
theorem kX{w w':World}{row:Option Nat}(h:w.grownBy w' row):Kt (fun b=>row=some b) w w':=⟨h.os,h.tape,h.output,h.size,fun k hk hn=>h.block k hk (fun e=>hn e.symm)⟩
theorem GS.nil(w0 W:World)(e:TypeId)(size:Nat)(k:Kt nO w0 W):GS w0 W e size (.slice none 0 0) 0 []:=
 ⟨World.ownsRow_nil _ _ _ _,fun g cap h=>by simp at h,k⟩
theorem GS.keep{w0 W W' e size v n xs}(h:GS w0 W e size v n xs)(k:Kt nO W W'):GS w0 W' e size v n xs:=by
 refine⟨⟨h.own.1,?_⟩,h.new,nT h.kp k⟩;rcases h.own.2 with h0|⟨g,cap,cur,rfl,hb,hg,h3⟩
 ·exact .inl h0
 ·exact .inr ⟨g,cap,cur,rfl,hb,(k.block g (lH hg) (fun x=>x)).trans hg,h3⟩
theorem mK{w:World}{cs:Array Value}{t:TypeId}(j:Nat)(u:Value)(h:cs.toList[j]?=some u):(w.alloc (.cells cs t)).cell? (Addr.add ⟨w.heap.size,0,none⟩ j)=some u:=by
 rw[Addr.add_lit,Nat.zero_add];have:=nH w (.cells cs t);simp only[World.cell?,this];rw[<-Array.getElem?_toList,h];rfl
theorem qZ{W:World}{b:Nat}{e:TypeId}{size:Nat}{v:Value}{n:Nat}{xs:List Value}(h:W.ownsRow b e size v n xs):∃ va vc,v=.slice va n vc:=by
 rcases h.2 with ⟨h0,h1⟩|⟨g,cap,cur,h0,_⟩
 ·exact⟨none,0,by rw[h0,h1]⟩
 ·exact⟨_,_,h0⟩
abbrev cG(a s:Nat):Obj:=.cells #[.int .u64 a,.int .u64 s] 45
theorem GS.pushM{w0 W:World}{e:TypeId}{size:Nat}{v:Value}{n:Nat}{xs:List Value}(h:GS w0 W e size v n xs)(t:TypeId)(i:TypeInfo)(z:Value)(bytes:Nat)
  (ht:prog.underlying t=some (.slice e)) (hi:prog.info? e=some i) (hz:i.zero=some z) (hs:i.size=size) (hby:i.bytes=bytes) (hzs:z.cells.size=size) (hsz : 0<size)
  (a:Addr) (c m:Nat) (hm : 0<m) (news:List Value) (hl':news.length=m*size) (hnews:∀ j u,news[j]?=some u->W.cell? (a.add j)=some u) (h1:∀ u∈news,u.oneCell'=true) (h63:n+m<=maxLen) (hbb:(n+m)*bytes<=140737488355328):
  ∃ g cap w',(∀ ty,(Builtin.append_ #[t,t] ty #[v,.slice (some a) m c]).run prog W=.ok (.slice (some ⟨g,0,none⟩) (n + m) cap) w')/\GS w0 w' e size (.slice (some ⟨g,0,none⟩) (n + m) cap) (n + m) (xs ++ news)/\w0.heap.size<=g/\Kt (fun b=>v.ownBlock=some b) W w'/\(v.ownBlock=some g\/W.heap.size<=g):=by
 have ho:=h.own;by_cases hr:∃ g cap,v=.slice (some ⟨g,0,none⟩) n cap/\n+m<=cap
 ·obtain⟨g,cap,rfl,hroom⟩:=hr;obtain⟨w',hrun,hown,hgr⟩:=run_append_fits (P:=prog) W 0 t 0 e i size ht hi hs g n cap xs ho a m c news hl' hnews h1 hroom;have hg:=h.new g cap rfl;have hk:=kX hgr;refine⟨g,cap,w',fun ty=>?_,⟨hown,fun g' cap' e=>?_,h.kp.trans hk (fun _ _ x=>x) (fun x hx e=>?_)⟩,hg,hk,.inl (by simp[Value.ownBlock])⟩
  ·rw[<-hrun];simp[Builtin.append_]
  ·simp at e;omega
  ·cases e;omega
 ·have key:∃ v' w',(Builtin.append_ #[t,t] 0 #[v,.slice (some a) m c]).run prog W=.ok v' w'/\w'.ownsRow W.heap.size e size v' (n + m) (xs ++ news)/\Kt nO W w':=by
   rcases ho.2 with ⟨rfl,h0⟩|⟨g,cap,cur,rfl,hb,hg,hnc,hcm,hcs,htake⟩
   ·subst h0;have:xs=[]:=List.eq_nil_of_length_eq_zero (by rw[ho.1,Nat.zero_mul]);subst this;obtain⟨v',w',hrun,hown,hgr,_⟩:=run_append_own (P:=prog) W W.heap.size t 0 e i z size bytes ht hi hz hs hby hzs hsz (.slice none 0 0) 0 [] (World.ownsRow_nil _ _ _ _) a m c news hl' hnews h1 h63 hbb (Nat.le_refl _);exact⟨v',w',hrun,hown,(kX hgr).mono (fun _ _ e=>by cases e)⟩
   ·obtain⟨v',w',hrun,hown,hgr⟩:=run_append_arg_grows (P:=prog) W t 0 e i z size bytes ht hi hz hs hby hzs hsz ⟨g,0,none⟩ n cap xs ho.1 (fun j u hj=>by
     rw[Addr.add_lit,Nat.zero_add];rw[<-htake,List.getElem?_take] at hj;split at hj
     ·simp only[World.cell?,hg];rw[<-Array.getElem?_toList,hj];rfl
     ·cases hj) a m c news hl' hnews (Nat.lt_of_not_le fun hle=>hr ⟨g,cap,rfl,hle⟩) h63 hbb
    exact⟨v',w',hrun,hown,(kX hgr).mono (fun _ _ e=>by cases e)⟩
  obtain⟨v',w',hrun,hown,hk⟩:=key;rcases hown.2 with ⟨_,h0⟩|⟨g,cap,cur,rfl,hb,hg,h3⟩
  ·omega
  ·refine⟨g,cap,w',fun ty=>?_,⟨⟨hown.1,.inr ⟨g,cap,cur,rfl,Nat.zero_le _,hg,h3⟩⟩,fun g' cap' e=>?_,nT h.kp hk⟩,Nat.le_trans h.kp.size hb,hk.mono (fun _ _ e=>e.elim),.inr hb⟩
   ·rw[<-hrun];simp[Builtin.append_]
   ·simp at e;have:=h.kp.size;omega
def blV:List (Nat×Nat)->List Value
 | []=>[]
 | b :: l=>.int .u64 b.1 :: .int .u64 b.2 :: blV l
theorem nM:∀ l m:List (Nat×Nat),blV (l ++ m)=blV l ++ blV m
 | [],_=>rfl
 | b :: l,m=>by
  show _ :: _ :: blV (l ++ m)=_
  rw[nM l m];rfl
theorem mH:∀ l:List (Nat×Nat),(blV l).length=l.length*2
 | []=>rfl
 | b :: l=>by
  show(blV l).length+1+1=(l.length+1)*2
  rw[mH l];omega
theorem pM:(prog.info? 45).map (fun i=>(i.zero,i.size,i.bytes))=some (some (.agg #[.int .u64 0,.int .u64 0]),2,16):=by kernel_rfl
abbrev GB(w0 W:World)(v:Value)(l:List (Nat×Nat)):Prop:=GS w0 W 45 2 v l.length (blV l)
theorem xP{n:Nat}{ws:List Nat}{k:Nat} : (bP n ws k = -1/\∀ j,k<=j->j<n->aF ws j=false)\/∃ j:Nat,bP n ws k=(j:Int)/\k<=j/\j<n/\aF ws j=true/\∀ i,k<=i->i<j->aF ws i=false:=by
 cases h:(List.range n).find? (fun j=>decide (k<=j) && aF ws j)with
 | none=>
  refine .inl ⟨by unfold bP;rw[h],fun j h1 h2=>?_⟩;have:=List.find?_eq_none.1 h j (List.mem_range.2 h2)
  cases hb:aF ws j with
  | false=>rfl
  | true=>exact absurd (by simp[h1,hb]) this
 | some j=>
  have h':=h;rw[List.find?_range_eq_some] at h';obtain⟨g1,g2,g3⟩:=h';simp only[Bool.and_eq_true,decide_eq_true_eq] at g1;refine .inr ⟨j,by unfold bP;rw[h],g1.1,List.mem_range.1 g2,g1.2,fun i h1 h2=>?_⟩;have:=g3 i h2;simp only[Bool.not_eq_true',Bool.and_eq_false_iff,decide_eq_false_iff_not] at this;rcases this with h|h
  ·omega
  ·exact h
theorem oU{I:Img}(h:(chk I).1=0)(a:Nat)(ha:a<11):rl I a=none:=by
 cases e:(List.range 11).findSome? (fun j=>(rl I j).map fun p=>(j+1,p))with
 | none=>
  have:=List.findSome?_eq_none_iff.1 e a (List.mem_range.2 ha);simpa using this
 | some x=>
  exfalso
  have:chk I=x:=by unfold chk;rw[e]
  rw[this] at h;obtain⟨j,-,hj⟩:=List.exists_of_findSome?_eq_some e;simp only[Option.map_eq_some_iff] at hj;obtain⟨p,-,hp⟩:=hj;rw[<-hp] at h;simp at h
theorem oO{I:Img}(h:(chk I).1=0):∃ r,Sn9 I I.ord.toNat r:=sn9_of (oU h 0 (by decide)) (oU h 1 (by decide)) (oU h 2 (by decide))
theorem yQ{o:Nat}(h:o<=8):IntKind.u64.wrap ((4096:Int)*2 ^ o)=((4096*2 ^ o:Nat):Int):=by
 have h1:=M.pow8 o h;have e:((2:Int) ^ o)=((2 ^ o:Nat):Int):=by simp
 rw[wrap_u64,e];generalize 2 ^ o=P at *;omega
set_option maxHeartbeats 16000000
set_option maxRecDepth 6000
section
variable {P:Program} {ops:Array Oper} {md:Region.Mode} {Q:Exit->Act->World->Prop}
theorem wpOp_of_list{i:Nat}{o:Oper}{K:Act->World->Prop}{a:Act}{w:World}(ho:ops[i]?=some o)(h:wpList P ops (Exit.then K Q) [o] a w):wpOp P ops Q i K a w:=by
 unfold wpOp;simp only[ho];unfold wpList at h;split
 ·rename_i hw;simp only[hw,if_true] at h;rcases h with h|⟨h1,b,w1,h2⟩
  ·refine .inl ?_;unfold Oper.wp at *;generalize (execOp a.eval o).run P w=r at *
   cases r with
   | ok n w'=>cases n <;> simp only[Oper.upon] at h ⊢ <;> exact h
   | halt x w'=>cases x <;> simp only[Oper.upon] at h ⊢ <;> exact h
  ·exact .inr ⟨h1,b,w1,h2⟩
 ·rename_i hw;simp only[hw] at h;exact h
def nE(ls:Array Bool):Nat:=ls.toList.countP (fun b=>!b)
theorem yU{ls:Array Bool}{i:Nat}(h:ls.getD i true=false):nE (ls.setIfInBounds i true)+1=nE ls:=by
 unfold nE;rcases Nat.lt_or_ge i ls.size with hl|hl
 ·have h1:ls[i]=false:=by simpa [hl] using h
  obtain⟨l⟩:=ls;simp only[List.setIfInBounds_toArray,List.getElem_toArray] at *;clear h;induction l generalizing i with
  | nil=>simp at hl
  | cons x l ih=>
   cases i with
   | zero=>
    simp only[List.getElem_cons_zero] at h1;subst h1;simp
   | succ i=>
    simp only[List.set_cons_succ,List.countP_cons];have:=ih (i:=i) (by simpa using hl) (by simpa using h1);omega
 ·simp[Array.getElem?_eq_none hl] at h
theorem AX{ls:Array Bool}(h:nE ls=0):Region.ready md ops ls=[]:=by
 rw[List.eq_nil_iff_forall_not_mem];intro i hi;have h1:=yU (mem_ready.1 hi).1;omega
theorem yT{I:Array Bool->Act->World->Prop}(hs:∀ ls a w i,I ls a w->i∈Region.ready md ops ls->wpOp P ops Q i (I (ls.setIfInBounds i true)) a w)
  (he:∀ ls a w,I ls a w->Region.ready md ops ls=[]->Q .normal a w):∀ (n:Nat) (ls:Array Bool) (a:Act) (w:World),nE ls<=n->I ls a w->wpAny P md ops Q n ls a w
 | 0,ls,a,w,hn,h=>⟨AX (by omega),he _ _ _ h (AX (by omega))⟩
 | n+1,ls,a,w,hn,h=>⟨he _ _ _ h,fun i hi=>wpOp_mono (fun a' w' h'=>yT hs he n _ a' w' (by have:=yU (mem_ready.1 hi).1;omega) h') (hs _ _ _ _ h hi)⟩
end
theorem wp_region_inv{P:Program}{id:Nat}{Q:Exit->Act->World->Prop}{a:Act}{w:World}{ops:Array Oper}(hm:P.follows .mixedOrders=true)(I:Array Bool->Act->World->Prop)
  (h0:I (Array.replicate ops.size false) a w.drew)
  (hs:∀ ls a w i,I ls a w->i∈Region.ready .any ops ls->wpOp P ops Q i (I (ls.setIfInBounds i true)) a w)
  (he:∀ ls a w,I ls a w->Region.ready .any ops ls=[]->Q .normal a w):(Code.region id ops true).wp P Q a w:=
 wp_region_any hm (yT hs he _ _ _ _ (by unfold nE;refine Nat.le_trans List.countP_le_length ?_;simp) h0)
end Go.Proofs.YtkfmheelhinjdaaGreatDoor.W
namespace Go.Proofs.YtkfmheelhinjdaaGreatDoor
open _root_.Go.Proofs.Tryz
open Go.RowKit
set_option linter.unusedVariables false
theorem aO{P:Program}{ops:Array Oper}{Q:Exit->Act->World->Prop}{i:Nat}{o:Oper}{K:Act->World->Prop}{a:Act}{w:World}(ho:ops[i]?=some o)(h:wpList P ops (Exit.then K Q) [o] a w):wpOp P ops Q i K a w:=W.wpOp_of_list ho h
def aB(v:Nat->Value)(i:Nat)(u:Value):Nat->Value:=fun j=>if j=i then u else v j
theorem wY{v:Nat->Value}{i:Nat}{u:Value} : aB v i u i=u:=if_pos rfl
theorem wW{v:Nat->Value}{i j:Nat}{u:Value}(h:j≠i):aB v i u j=v j:=if_neg h
def gB(ops:Array Oper)(i j:Nat):Bool:=match ops[i]? with
 | none=>false
 | some o=>o.after.any fun e=>Region.binds .any e && e.on == j
def lN(ops:Array Oper):Nat->Nat->Nat->Bool
 | 0,_,_=>false
 | n+1,i,j=>gB ops i j || match ops[i]? with
  | none=>false
  | some o=>o.after.any fun e=>Region.binds .any e && lN ops n e.on j
def iO(ops:Array Oper):Bool:=(List.range ops.size).all fun i=>match ops[i]? with
 | none=>true
 | some o=>o.after.all fun e=>!Region.binds .any e || decide (e.on<i)
def FI(ops:Array Oper)(last:Nat):Bool:=(List.range last).all fun j=>lN ops 40 last j
section
variable {P:Program} {ops:Array Oper} {Q:Exit->Act->World->Prop} {ls:Array Bool}
theorem yF{i j:Nat} : gB ops i j=true↔∃ o,ops[i]?=some o/\∃ e∈o.after,Region.binds .any e=true/\e.on=j:=by
 unfold gB
 cases h:ops[i]? with
 | none=>simp
 | some o=>
  simp[Array.any_eq_true,Array.mem_iff_getElem];grind
theorem uF(hc:∀ i j,gB ops i j=true->ls.getD i false=true->ls.getD j false=true){i j:Nat}(hr:∀ j,gB ops i j=true->ls.getD j false=true):∀ n,lN ops n i j=true->ls.getD j false=true:=by
 intro n;induction n generalizing i with
 | zero=>intro h;cases h
 | succ n ih=>
  intro h;unfold lN at h;rw[Bool.or_eq_true] at h;rcases h with h|h
  ·exact hr _ h
  ·cases ho:ops[i]? with
   | none=>rw[ho] at h;cases h
   | some o=>
    rw[ho] at h;simp only[Array.any_eq_true',Bool.and_eq_true] at h;obtain⟨e,he,hb,h⟩:=h;have hd:=hr _ (yF.2 ⟨o,ho,e,he,hb,rfl⟩);exact ih (fun k hk=>hc _ _ hk hd) h
theorem rE{i:Nat}(hi:i∈Region.ready .any ops ls):∀ j,gB ops i j=true->ls.getD j false=true:=by
 intro j hj;obtain⟨hn,o,ho,hd⟩:=mem_ready.1 hi;obtain⟨o',ho',e,he,hb,rfl⟩:=yF.1 hj;rw[ho] at ho'
 cases ho'
 exact hd e he hb
theorem sS{i:Nat}(hn:ls.getD i true=false):i<ls.size/\ls.getD i false=false:=by
 rcases Nat.lt_or_ge i ls.size with hl|hl
 ·exact⟨hl,by simpa [hl] using hn⟩
 ·simp[Array.getElem?_eq_none hl] at hn
theorem pN{i j:Nat}(hi:i<ls.size):(ls.setIfInBounds i true).getD j false=true↔j=i\/ls.getD j false=true:=by
 by_cases h:i=j
 ·subst h;simp[hi]
 ·rw[Go.getD_set_ne _ h];exact⟨.inr,fun h'=>h'.resolve_left (fun e=>h e.symm)⟩
theorem yE(hs:ls.size=ops.size)(hB:iO ops=true)(hr:Region.ready .any ops ls=[]):∀ n i,i<=n->i<ops.size->ls.getD i false=true:=by
 intro n;induction n with
 | zero=>
  intro i hi hl;obtain rfl:i=0:=by omega
  cases h:ls.getD 0 false with
  | true=>rfl
  | false=>
   have : 0∈Region.ready .any ops ls:=mem_ready.2 ⟨(by have : 0<ls.size:=(by omega);simpa [this] using h),ops[0],by simp,fun e he hb=>by
    unfold iO at hB;have:=List.all_eq_true.1 hB 0 (by simpa using hl);simp only[Array.getElem?_eq_getElem hl] at this;have:=Array.all_eq_true'.1 this e he;simp[hb] at this⟩
   rw[hr] at this
   cases this
 | succ n ih=>
  intro i hi hl;rcases Nat.lt_or_ge i (n+1)with h1|h1
  ·exact ih i (by omega) hl
  cases h:ls.getD i false with
  | true=>rfl
  | false=>
   have:i∈Region.ready .any ops ls:=mem_ready.2 ⟨(by have:i<ls.size:=(by omega);simpa [this] using h),ops[i],by simp,fun e he hb=>by
    unfold iO at hB;have:=List.all_eq_true.1 hB i (by simpa using hl);simp only[Array.getElem?_eq_getElem hl] at this;have:=Array.all_eq_true'.1 this e he;simp[hb] at this;exact ih _ (by omega) (by omega)⟩
   rw[hr] at this
   cases this
theorem oH{n i:Nat} : (Array.replicate n false).getD i false=false:=by
 rcases Nat.lt_or_ge i n with h|h
 ·simp[h]
 ·simp[Nat.not_lt.2 h]
structure Flw(ops:Array Oper)(G:World->World->Prop)(w1:World)(R:Nat->Value->World->Prop)(ls:Array Bool)(v:Nat->Value)(w:World):Prop where
 sz:ls.size=ops.size
 cl:∀ i j,gB ops i j=true->ls.getD i false=true->ls.getD j false=true
 k:G w1 w
 d:∀ i,ls.getD i false=true->R i (v i) w
theorem Flw.put{G:World->World->Prop}{w1 W W':World}{R:Nat->Value->World->Prop}{v:Nat->Value}{i:Nat}{u:Value}(hG:∀ a b c,G a b->G b c->G a c)(hR:∀ i u W W',R i u W->G W W'->R i u W')
  (h:Flw ops G w1 R ls v W) (hi:i∈Region.ready .any ops ls) (hu:R i u W') (k:G W W'):Flw ops G w1 R (ls.setIfInBounds i true) (aB v i u) W':=by
 have hd:=rE hi;have hn:=sS (mem_ready.1 hi).1;refine⟨by simpa using h.sz,fun a b hab ha=>?_,hG _ _ _ h.k k,fun j hj=>?_⟩
 ·rw[pN hn.1] at ha ⊢;rcases ha with rfl|ha
  ·exact .inr (hd _ hab)
  ·exact .inr (h.cl _ _ hab ha)
 ·rw[pN hn.1] at hj;by_cases e:j=i
  ·subst e;rw[wY];exact hu
  ·rw[wW e];exact hR _ _ _ _ (h.d j (hj.resolve_left e)) k
theorem zdD{id:Nat}{w:World}(hm:P.follows .mixedOrders=true)(F:(Nat->Value)->Act)(v0:Nat->Value)(B:World->Prop)(G:Nat->World->World->Prop)(R:Nat->Value->World->Prop)
  (hG:∀ i W W',B W->G i W W'->B W') (hR:∀ i j u W W',j≠i->B W->R j u W->G i W W'->R j u W') (hB:iO ops=true) (hw:B w.drew)
  (hs:∀ i o,ops[i]?=some o->∀ v W,B W->(∀ j,lN ops 40 i j=true->R j (v j) W)->wpOp P ops Q i (fun a' W'=>∃ u,a'=F (aB v i u)/\R i u W'/\G i W W') (F v) W)
  (hl:∀ v W,B W->(∀ i,i<ops.size->R i (v i) W)->Q .normal (F v) W):(Code.region id ops true).wp P Q (F v0) w:=by
 refine W.wp_region_inv hm (fun ls a W=>∃ v,a=F v/\(ls.size=ops.size/\(∀ i j,gB ops i j=true->ls.getD i false=true->ls.getD j false=true)/\B W/\∀ i,ls.getD i false=true->R i (v i) W)) ⟨v0,rfl,by simp,fun i j _ h=>(by rw[oH] at h;cases h),hw,fun i h=>(by rw[oH] at h;cases h)⟩ ?_ ?_
 ·rintro ls a W i ⟨v,rfl,hz,hc,hb,hd0⟩ hi;obtain⟨hn,o,ho,hd⟩:=mem_ready.1 hi;have hn2:=sS hn;have hrd:=rE hi;refine wpOp_mono ?_ (hs i o ho v W hb fun j hj=>hd0 j (uF hc hrd _ hj));rintro a' W' ⟨u,rfl,hu,k⟩;refine⟨_,rfl,by simpa using hz,fun a b hab ha=>?_,hG _ _ _ hb k,fun j hj=>?_⟩
  ·rw[pN hn2.1] at ha ⊢;rcases ha with rfl|ha
   ·exact .inr (hrd _ hab)
   ·exact .inr (hc _ _ hab ha)
  ·rw[pN hn2.1] at hj;by_cases e:j=i
   ·subst e;rw[wY];exact hu
   ·rw[wW e];exact hR _ _ _ _ _ e hb (hd0 j (hj.resolve_left e)) k
 ·rintro ls a W ⟨v,rfl,hz,hc,hb,hd0⟩ hr;exact hl v W hb fun i hi=>hd0 i (yE hz hB hr i i (Nat.le_refl _) hi)
theorem rX{id:Nat}{w w1:World}(hm:P.follows .mixedOrders=true)(F:(Nat->Value)->Act)(v0:Nat->Value)(G:World->World->Prop)(hG:∀ a b c,G a b->G b c->G a c)(R:Nat->Value->World->Prop)
  (hR:∀ i u W W',R i u W->G W W'->R i u W') (last:Nat) (hz:ops.size=last+1) (hB:iO ops=true) (hL:FI ops last=true) (hw:G w1 w.drew)
  (hs:∀ i o,ops[i]?=some o->i<last->∀ v W,G w1 W->(∀ j,lN ops 40 i j=true->R j (v j) W)->wpOp P ops Q i (fun a' W'=>∃ u,a'=F (aB v i u)/\R i u W'/\G W W') (F v) W)
  (hl:∀ o,ops[last]?=some o->∀ v W,G w1 W->(∀ i,i<last->R i (v i) W)->wpOp P ops Q last (fun a' W'=>Q .normal a' W') (F v) W):(Code.region id ops true).wp P Q (F v0) w:=by
 refine W.wp_region_inv hm (fun ls a W=>ls.size=ops.size/\((ls.getD last false=false/\∃ v,a=F v/\Flw ops G w1 R ls v W)\/(∀ i,i<=last->ls.getD i false=true)/\Q .normal a W)) ⟨by simp,.inl ⟨oH,v0,rfl,by simp,fun i j _ h=>(by rw[oH] at h;cases h),hw,fun i h=>(by rw[oH] at h;cases h)⟩⟩ ?_ ?_
 ·rintro ls a W i ⟨hsz,h⟩ hi;obtain⟨hn,o,ho,hd⟩:=mem_ready.1 hi;have hn2:=sS hn;rcases h with ⟨hl0,v,rfl,h⟩|⟨h,_⟩
  ·rcases Nat.lt_trichotomy i last with h1|rfl|h1
   ·refine wpOp_mono ?_ (hs i o ho h1 v W h.k fun j hj=>h.d j (uF h.cl (rE hi) _ hj));rintro a' W' ⟨u,rfl,hu,k⟩;exact⟨by simpa using hsz,.inl ⟨by rw[Go.getD_set_ne _ (by omega)];exact hl0,_,rfl,h.put hG hR hi hu k⟩⟩
   ·have ha:∀ j,j<i->ls.getD j false=true:=fun j hj=>uF h.cl (rE hi) _ (List.all_eq_true.1 hL j (by simpa using hj))
    refine wpOp_mono ?_ (hl o ho v W h.k fun j hj=>h.d j (ha j hj));intro a' W' hq;refine⟨by simpa using hsz,.inr ⟨fun j hj=>(pN hn2.1).2 ?_,hq⟩⟩;by_cases e:j=i
    ·exact .inl e
    ·exact .inr (ha j (by omega))
   ·omega
  ·rw[h i (by omega)] at hn2
   cases hn2.2
 ·rintro ls a W ⟨hsz,h⟩ hr;rcases h with ⟨hl0,v,rfl,h⟩|⟨_,h⟩
  ·rw[yE hsz hB hr last last (Nat.le_refl _) (by omega)] at hl0
   cases hl0
  ·exact h
def bX:Value->World->Prop:=fun _ _=>True
theorem zcL{id:Nat}{w:World}(hm:P.follows .mixedOrders=true)(F:(Nat->Value)->Act)(v0:Nat->Value)(B:World->Prop)(N Wr:World->World->Prop)(La:List (Value->World->Prop))(RS:Value->World->Prop)(k:Nat)(hk:La.length=k)(hz:ops.size=k+1)
  (hN:∀ W W',B W->N W W'->B W') (hW:∀ W W',B W->Wr W W'->B W') (stN:∀ r∈La,∀ u W W',B W->r u W->N W W'->r u W') (stS:∀ u W W',B W->RS u W->N W W'->RS u W') (stW:∀ r∈La,∀ u W W',B W->r u W->Wr W W'->r u W') (hB:iO ops=true) (hw:B w.drew)
  (hs:∀ i o,ops[i]?=some o->i<k->∀ v W,B W->(∀ j,lN ops 40 i j=true->((La ++ [RS]).getD j bX) (v j) W)->wpOp P ops Q i (fun a' W'=>∃ u,a'=F (aB v i u)/\(La.getD i bX) u W'/\N W W') (F v) W)
  (hx:∀ o,ops[k]?=some o->∀ v W,B W->(∀ j,lN ops 40 k j=true->((La ++ [RS]).getD j bX) (v j) W)->wpOp P ops Q k (fun a' W'=>∃ u,a'=F (aB v k u)/\RS u W'/\Wr W W') (F v) W)
  (hl:∀ v W,B W->(∀ i,i<k->(La.getD i bX) (v i) W)->RS (v k) W->Q .normal (F v) W):(Code.region id ops true).wp P Q (F v0) w:=by
 subst hk;have lt:∀ j,j<La.length->(La ++ [RS]).getD j bX=La.getD j bX:=fun j hj=>by
  rw[List.getD_eq_getElem?_getD,List.getD_eq_getElem?_getD,List.getElem?_append_left hj]
 have eq:(La ++ [RS]).getD La.length bX=RS:=by
  rw[List.getD_eq_getElem?_getD,List.getElem?_append_right (Nat.le_refl _),Nat.sub_self];rfl
 have gt:∀ j,La.length<j->(La ++ [RS]).getD j bX=bX:=fun j hj=>by
  rw[List.getD_eq_getElem?_getD,List.getElem?_eq_none (by simp;omega)];rfl
 have mem:∀ j,j<La.length->La.getD j bX∈La:=fun j hj=>by
  rw[List.getD_eq_getElem?_getD,List.getElem?_eq_getElem hj];exact List.getElem_mem _
 refine zdD hm F v0 B (fun i=>if i=La.length then Wr else N) (fun j=>(La ++ [RS]).getD j bX) (fun i W W' hb hg=>?_) (fun i j u W W' hne hb hr hg=>?_) hB hw (fun i o ho v W hb hd=>?_) (fun v W hb hd=>?_)
 ·by_cases e:i=La.length
  ·rw[if_pos e] at hg;exact hW _ _ hb hg
  ·rw[if_neg e] at hg;exact hN _ _ hb hg
 ·rcases Nat.lt_trichotomy j La.length with h1|rfl|h1
  ·rw[lt j h1] at hr ⊢;by_cases e:i=La.length
   ·rw[if_pos e] at hg;exact stW _ (mem j h1) _ _ _ hb hr hg
   ·rw[if_neg e] at hg;exact stN _ (mem j h1) _ _ _ hb hr hg
  ·rw[if_neg (Ne.symm hne)] at hg;rw[eq] at hr ⊢;exact stS _ _ _ hb hr hg
  ·rw[gt j h1];exact True.intro
 ·have hi:i<ops.size:=(Array.getElem?_eq_some_iff.1 ho).1;by_cases e:i=La.length
  ·subst e;refine wpOp_mono ?_ (hx o ho v W hb hd);rintro a' W' ⟨u,h1,h2,h3⟩;exact⟨u,h1,by rw[eq];exact h2,by rw[if_pos rfl];exact h3⟩
  ·refine wpOp_mono ?_ (hs i o ho (by omega) v W hb hd);rintro a' W' ⟨u,h1,h2,h3⟩;exact⟨u,h1,by rw[lt i (by omega)];exact h2,by rw[if_neg e];exact h3⟩
 ·refine hl v W hb (fun i hi=>?_) ?_
  ·have:=hd i (by omega);rwa [lt i hi] at this
  ·have:=hd La.length (by omega);rwa [eq] at this
end
end Go.Proofs.YtkfmheelhinjdaaGreatDoor
namespace Go.Proofs.YtkfmheelhinjdaaGreatDoor.W
open _root_.Go.Proofs.Tryz
open Go.RowKit
set_option linter.unusedVariables false
theorem ok8_eq{I:Img}{k r:Nat}(hS:Sn9 I k r)(j:Nat):ok8 I j=refL (decP I) 0 (fun i=>M.word I.mem (4096*i)) (fun i=>M.word I.mem (4096*i+8)) (fun i=>isF (I.pg i) (j:Int)) (pgL I fun p=>isF p (j:Int)).length (I.hd.getD j 0) 0:=by
 unfold ok8;refine xF (cod:=fun i=>I.bS+4096*i) (fun i=>by have:=hS.b0;omega) (fun i j h=>by omega) (fun p i h=>(qX hS h).2.1) ?_ (pgL I fun p=>isF p (j:Int)) (pgL_nodup _ _) (fun p i h=>?_) _ (pgL I fun p=>isF p (j:Int)) [] _ _ rfl (pgL_nodup _ _) List.nodup_nil (fun i=>by simp) (fun i _ h=>by cases h) trivial rfl
 ·unfold decP;rw[if_neg (by have:=hS.b0;omega)]
 ·rw[pgL_mem];exact⟨fun x=>x.2,fun x=>⟨(qX hS h).1,x⟩⟩
theorem DS(p:Pg)(hp:PgIn p):aT (wsP p)=aK (aF (wsP p)) 256:=by
 refine rP (wsP p) (fun i=>?_) 4;match i with
 | 0=>exact hp.b0
 | 1=>exact hp.b1
 | 2=>exact hp.b2
 | 3=>exact hp.b3
 | i+4=>simp[List.getD]
theorem ok5_iff(p:Pg)(hp:PgIn p)(c:Nat)(hc:p.cl=(c:Int))(h4:p.kd=4):ok5 p=true↔(0<p.lv/\p.lv=(aK (aF (wsP p)) 256:Int))/\∀ j,celN9 c<=j->j<256->aF (wsP p) j=false:=by
 unfold ok5;rw[hc,Int.toNat_natCast,DS p hp,decide_eq_true h4,Bool.not_true,Bool.false_or,Bool.and_eq_true,Bool.and_eq_true,decide_eq_true_eq,decide_eq_true_eq,decide_eq_true_eq];refine and_congr_right fun _=>?_
 rcases xP (n:=256) (ws:=wsP p) (k:=celN9 c)with ⟨h1,h2⟩|⟨j,h1,h2,h3,h5,h6⟩
 ·exact⟨fun _=>h2,fun _=>h1⟩
 ·rw[h1];refine⟨fun h=>by omega,fun h=>?_⟩;rw[h j h2 h3] at h5
  cases h5
theorem cntB_cut(f:Nat->Bool)(n:Nat):∀ d,(∀ j,n<=j->j<n+d->f j=false)->aK f (n+d)=aK f n
 | 0,_=>rfl
 | d+1,h=>by
  rw[<-Nat.add_assoc,pF f _ (h (n+d) (by omega) (by omega))];exact cntB_cut f n d (fun j h1 h2=>h j h1 (by omega))
theorem IB(c:Nat)(h:c<=7):celN9 c<=256/\1<=celN9 c:=by
 match c,h with
 | 0,_=>decide
 | 1,_=>decide
 | 2,_=>decide
 | 3,_=>decide
 | 4,_=>decide
 | 5,_=>decide
 | 6,_=>decide
 | 7,_=>decide
theorem DR{p:Pg}(hp:PgIn p){c:Nat}(hc:p.cl=(c:Int))(h7:c<=7)(h4:p.kd=4)(h:ok5 p=true):∃ l:Nat,p.lv=(l:Int)/\1<=l/\l<=celN9 c/\l=aK (aF (wsP p)) (celN9 c):=by
 rw[ok5_iff p hp c hc h4] at h;obtain⟨⟨h1,h2⟩,h3⟩:=h;have hk:=IB c h7;have e:aK (aF (wsP p)) 256=aK (aF (wsP p)) (celN9 c):=by
  have:=cntB_cut (aF (wsP p)) (celN9 c) (256-celN9 c) (fun j a b=>h3 j a (by omega));rwa [show celN9 c+(256-celN9 c)=256 by omega] at this
 have:=LQ (aF (wsP p)) (celN9 c);exact⟨aK (aF (wsP p)) 256,h2,by omega,by omega,e⟩
theorem ok10_eq(I:Img)(j:Nat):dX I j=refL (dec10 I) (-1) (fun i=>(I.pg i).nx) (fun i=>(I.pg i).pv) (fun i=>prS (j:Int) (I.pg i)) (pgL I (prS (j:Int))).length (I.pt.getD j 0) (-1):=by
 unfold dX;refine xF (cod:=fun i=>(i:Int)) (fun i=>by omega) (fun i j h=>by omega) (fun p i h=>(sV h).2.1) rfl (pgL I (prS (j:Int))) (pgL_nodup _ _) (fun p i h=>?_) _ (pgL I (prS (j:Int))) [] _ _ rfl (pgL_nodup _ _) List.nodup_nil (fun i=>by simp) (fun i _ h=>by cases h) trivial rfl;rw[pgL_mem];exact⟨fun x=>x.2,fun x=>⟨(sV h).1,x⟩⟩
end Go.Proofs.YtkfmheelhinjdaaGreatDoor.W
namespace Go.Proofs.YtkfmheelhinjdaaGreatDoor
open _root_.Go.Proofs.Tryz
open Go.RowKit Go.MapKept
open Go.ChangeMaps (setBlock heap_setBlock_same heap_setBlock_other)
open Go.Maps (Keyed)
set_option linter.unusedVariables false
structure KT(k:TypeId){α : Type}(enc : α->Value)(ok : α->Prop):Prop where
 K:Keyed prog k
 key:∀ a,ok a->∃ l,keyOf prog k (enc a)=some l
 inj:∀ a b,ok a->ok b->enc a=enc b->a=b
abbrev dF(n:Nat):Value:=.int .i64 n
def fK(e:MapEntry):Value×Value:=(e.key,e.val)
section
variable {α : Type} {enc : α->Value} {ok : α->Prop} {k e t:TypeId} {w w':World} {b r:Nat} {D rest:List α} {c : α->Nat}
def dY(enc : α->Value)(c : α->Nat)(a : α):Value×Value:=(enc a,dF (c a))
structure MC(enc : α->Value)(ok : α->Prop)(w:World)(b:Nat)(D:List α)(c : α->Nat):Prop where
 ex:∃ es clock,w.heap[b]?=some (.map es clock)/\Stamped es clock/\es.toList.map fK=D.map (dY enc c)
 lt:∀ a∈D,ok a
 z:∀ a,a ∉ D->c a=0
theorem MC.nodup(h:MC enc ok w b D c):D.Nodup:=by
 obtain⟨⟨es,clock,hb,hst,hL⟩,hlt,_⟩:=h;have h3:=((stamped_iff es clock).1 hst).2.2;have h4:(es.toList.map fK).Pairwise (fun x y=>x.1≠y.1):=List.pairwise_map.2 h3;rw[hL] at h4;exact(List.pairwise_map.1 h4).imp fun {p q} hne e=>hne (by rw[e])
theorem MC.ltsz(h:MC enc ok w b D c):b<w.heap.size:=by
 obtain⟨⟨es,clock,hb,_⟩,_⟩:=h;exact(Array.getElem?_eq_some_iff.1 hb).1
theorem MC.kept{S:Nat->Prop}(h:MC enc ok w b D c)(k:Kt S w w')(hb:¬S b):MC enc ok w' b D c:=by
 have hl:=h.ltsz;obtain⟨⟨es,clock,h1,h2⟩,h3,h4⟩:=h;exact⟨⟨es,clock,(k.block b hl hb).trans h1,h2⟩,h3,h4⟩
theorem MC.made(w:World):MC enc ok (w.alloc (.map #[] 0)) w.heap.size [] (fun _=>0):=
 ⟨⟨#[],0,nH w _,stamped_empty 0,rfl⟩,(fun p hp=>by cases hp),fun _ _=>rfl⟩
theorem MC.find(T:KT k enc ok)(h:MC enc ok w b D c){es:Array MapEntry}(hL:es.toList.map fK=D.map (dY enc c))(a : α)(ha:ok a):
  ((Instr.findKey k (enc a) es.toList).run prog w=.ok none w/\a ∉ D/\∀ x∈es.toList,x.key≠enc a)\/
  ∃ j e0,(Instr.findKey k (enc a) es.toList).run prog w=.ok (some (j,e0.val)) w/\es.toList[j]?=some e0/\e0.key=enc a/\D[j]?=some a/\e0.val=dF (c a):=by
 obtain⟨l,hl⟩:=T.key a ha;rcases T.K.find w hl es.toList (fun x hx=>by
   have:fK x∈D.map (dY enc c):=by rw[<-hL];exact List.mem_map.2 ⟨x,hx,rfl⟩
   obtain⟨p,hp,e1⟩:=List.mem_map.1 this;obtain⟨m,hm⟩:=T.key p (h.lt p hp);exact⟨m,by rw[<-hm];exact congrArg _ (congrArg Prod.fst e1).symm⟩)with ⟨h1,h2⟩|⟨j,e0,h1,h2,h3⟩
 ·refine .inl ⟨h1,fun hD=>?_,h2⟩;have:dY enc c a∈es.toList.map fK:=by rw[hL];exact List.mem_map.2 ⟨a,hD,rfl⟩
  obtain⟨x,hx,e2⟩:=List.mem_map.1 this;exact h2 x hx (congrArg Prod.fst e2)
 ·refine .inr ⟨j,e0,h1,h2,h3,?_⟩;have e1:=congrArg (fun l=>l[j]?) hL;simp only[List.getElem?_map,h2,Option.map_some] at e1
  cases hD:D[j]? with
  | none=>rw[hD] at e1;cases e1
  | some p=>
   rw[hD] at e1;have e2:fK e0=dY enc c p:=Option.some.inj e1;have e3:p=a:=T.inj p a (h.lt p (List.mem_of_getElem? hD)) ha ((congrArg Prod.fst e2).symm.trans h3);subst e3;exact⟨rfl,congrArg Prod.snd e2⟩
theorem MC.look(T:KT k enc ok)(h:MC enc ok w b D c)(ht:prog.underlying t=some (.map k e))(hz:(zeroValue e).run prog w=.ok (.int .i64 0) w)(a : α)(ha:ok a):
  (Instr.lookup t (.map (some b)) (enc a) false).run prog w=.ok (dF (c a)) w:=by
 have h0:=h;obtain⟨⟨es,clock,hb,hst,hL⟩,hlt,h9⟩:=h;obtain⟨l,hl⟩:=T.key a ha;rcases h0.find T hL a ha with ⟨h1,h2,h3⟩|⟨j,e0,h1,h2,h3,h4,h5⟩
 ·simp[Instr.lookup,run_underlying ht,MapKept.run_getObj_map hb,T.K.check w _ hl,h1,hz,h9 a h2,Result.andThen]
 ·simp[Instr.lookup,run_underlying ht,MapKept.run_getObj_map hb,T.K.check w _ hl,h1,h5,Result.andThen]
theorem nU{w:World}{b:Nat}{o:Obj}(hb:b<w.heap.size):Kt (fun x=>x=b) w (setBlock w b o):=
 ⟨rfl,rfl,rfl,by simp[setBlock],fun i hi hne=>by simp[setBlock,Ne.symm hne]⟩
open Classical in
noncomputable def aY(D:List α)(a : α):List α:=if a∈D then D else D ++ [a]
theorem nQ(a x : α):x∈aY D a↔x∈D\/x=a:=by
 unfold aY;split
 ·rename_i h;exact⟨.inl,fun h2=>h2.elim id (fun e=>e▸h)⟩
 ·simp
theorem OA(a : α):(aY D a).length<=D.length+1:=by
 unfold aY;split <;> simp
theorem MC.store(T:KT k enc ok)(h:MC enc ok w b D c)(ht:prog.underlying t=some (.map k e))(hm:D.length<maxLen)(a : α)(ha:ok a)(v:Nat)(c' : α->Nat)(hc:c' a=v)(hc2:∀ x,x≠a->c' x=c x):
  ∃ w',(Instr.mapUpdate t (.map (some b)) (enc a) (dF v)).run prog w=.ok () w'/\MC enc ok w' b (aY D a) c'/\Kt (fun x=>x=b) w w'/\w'.heap.size=w.heap.size:=by
 have h0:=h;have hnd:=h.nodup;obtain⟨⟨es,clock,hb,hst,hL⟩,hlt,h9⟩:=h;obtain⟨l,hl⟩:=T.key a ha;have hbl:=h0.ltsz;have hlen:es.size<maxLen:=by
  have:=congrArg List.length hL;simp at this;omega
 have hlt':∀ x∈aY D a,ok x:=fun x hx=>((nQ a x).1 hx).elim (hlt x) (fun e=>e▸ha)
 have hz':∀ x,x ∉ aY D a->c' x=0:=fun x hx=>by
  have h1:¬(x∈D\/x=a):=fun h2=>hx ((nQ a x).2 h2)
  rw[hc2 x (fun e=>h1 (.inr e))];exact h9 x (fun e=>h1 (.inl e))
 rcases h0.find T hL a ha with ⟨h1,h2,h3⟩|⟨j,e0,h1,h2,h3,h4,h5⟩
 ·have eD:aY D a=D ++ [a]:=by unfold aY;rw[if_neg h2]
  refine⟨setBlock w b (.map (es.push ⟨enc a,dF v,clock⟩) (clock+1)),?_,⟨⟨_,_,heap_setBlock_same hb _,stamped_push hst h3,?_⟩,hlt',hz'⟩,nU hbl,by simp[setBlock]⟩
  ·simp[Instr.mapUpdate,run_underlying ht,MapKept.run_getObj_map hb,T.K.check w false hl,h1,MapKept.run_setObj_map _ hb,Result.andThen,setBlock]
  ·have e1:D.map (dY enc c)=D.map (dY enc c'):=List.map_congr_left fun x hx=>by
    unfold dY;rw[hc2 x (fun e=>h2 (e▸hx))]
   have e2:fK ⟨enc a,dF v,clock⟩=dY enc c' a:=by
    unfold fK dY;rw[hc]
   rw[eD,Array.toList_push,List.map_append,List.map_append,hL,e1,List.map_singleton,List.map_singleton,e2]
 ·have eD:aY D a=D:=by unfold aY;rw[if_pos (List.mem_of_getElem? h4)]
  have hj:es[j]?=some e0:=by simpa using h2
  have hkeyf:∀ e'∈es.toList,es[j]?=some e'->({ e' with key:=enc a,val:=dF v } : MapEntry).key=e'.key:=fun e' _ he'=>by rw[hj] at he';cases he';exact h3.symm
  refine⟨setBlock w b (.map (es.modify j (fun e'=>{ e' with key:=enc a,val:=dF v })) clock),?_,⟨⟨_,_,heap_setBlock_same hb _,stamped_modify hst _ _ (fun _ _=>rfl) hkeyf,?_⟩,hlt',hz'⟩,nU hbl,by simp[setBlock]⟩
  ·simp[Instr.mapUpdate,run_underlying ht,MapKept.run_getObj_map hb,T.K.check w false hl,h1,hj,h3,T.K.stays w hl,MapKept.run_setObj_map _ hb,Result.andThen,setBlock]
  ·rw[eD];apply List.ext_getElem?
   intro i;have hi:=congrArg (fun l=>l[i]?) hL;simp only[List.getElem?_map] at hi;simp only[List.getElem?_map,Array.getElem?_toList,Array.getElem?_modify];simp only[Array.getElem?_toList] at hi
   cases hD:D[i]? with
   | none=>
    rw[hD] at hi
    cases he:es[i]? with
    | none=>split <;> simp
    | some x=>rw[he] at hi;cases hi
   | some p=>
    rw[hD] at hi
    cases he:es[i]? with
    | none=>rw[he] at hi;cases hi
    | some x=>
     rw[he] at hi;have hxe:fK x=dY enc c p:=Option.some.inj hi;by_cases hij:j=i
     ·subst hij;rw[h4] at hD
      cases hD
      simp[fK,dY,hc]
     ·have hpn:p≠a:=fun e1=>by
       obtain⟨q1,q1'⟩:=List.getElem?_eq_some_iff.1 h4;obtain⟨q2,q2'⟩:=List.getElem?_eq_some_iff.1 hD;rcases Nat.lt_or_gt_of_ne hij with hlt'|hlt'
       ·exact List.pairwise_iff_getElem.1 hnd j i q1 q2 hlt' (q1'.trans (e1.symm.trans q2'.symm))
       ·exact List.pairwise_iff_getElem.1 hnd i j q2 q1 hlt' (q2'.trans (e1.trans q1'.symm))
      simp only[hij,if_false,Option.map_some,hxe];unfold dY;rw[hc2 p hpn]
theorem MC.len(h:MC enc ok w b D c)(ht:prog.underlying t=some (.map k e))(ty:TypeId):(Builtin.len_ #[t] ty #[.map (some b)]).run prog w=.ok (.int .i64 D.length) w:=by
 obtain⟨⟨es,clock,hb,hst,hL⟩,hlt⟩:=h;have:=congrArg List.length hL;simp at this;simp[Builtin.len_,run_underlying ht,MapKept.run_getObj_map hb,goInt,Result.andThen,this]
def RC(enc : α->Value)(w:World)(b r:Nat)(D:List α)(c : α->Nat)(rest:List α):Prop:=
 ∃ es clock since seen c0,w.heap[b]?=some (.map es clock)/\Stamped es clock/\es.toList.map fK=D.map (dY enc c)/\w.heap[r]?=some (.mapIter (some b) since seen c0)/\(∀ x∈es.toList,x.born<since)/\since<=c0/\since<=clock/\((leftOf es seen).toList.map fK).Perm (rest.map (dY enc c))
theorem RC.left_eq(h:RC enc w b r D c rest):w.rangeLeft b r=rest.length:=by
 obtain⟨es,clock,since,seen,c0,hb,hst,hL,hr,h1,h2,h3,hp⟩:=h;simp only[World.rangeLeft,hb,hr];simpa using hp.length_eq
theorem RC.ne(h:RC enc w b r D c rest):r≠b:=by
 obtain⟨es,clock,since,seen,c0,hb,hst,hL,hr,h1,h2,h3,hp⟩:=h;intro e;rw[e,hb] at hr
 cases hr
theorem RC.lts(h:RC enc w b r D c rest):b<w.heap.size/\r<w.heap.size:=by
 obtain⟨es,clock,since,seen,c0,hb,hst,hL,hr,h1,h2,h3,hp⟩:=h;exact⟨(Array.getElem?_eq_some_iff.1 hb).1,(Array.getElem?_eq_some_iff.1 hr).1⟩
theorem RC.kept{S:Nat->Prop}(h:RC enc w b r D c rest)(k:Kt S w w')(hb:¬S b)(hr:¬S r):RC enc w' b r D c rest:=by
 have hl:=h.lts;obtain⟨es,clock,since,seen,c0,h1,h2,h3,h4,h5⟩:=h;exact⟨es,clock,since,seen,c0,(k.block b hl.1 hb).trans h1,h2,h3,(k.block r hl.2 hr).trans h4,h5⟩
theorem MC.range(h:MC enc ok w b D c)(ht:prog.underlying t=some (.map k e)):
  ∃ w',(Instr.range t (.map (some b))).run prog w=.ok (.pointer (some ⟨w.heap.size,0,none⟩)) w'/\RC enc w' b w.heap.size D c D/\Kt (fun _=>False) w w'/\w'.heap.size=w.heap.size+1:=by
 have hl:=h.ltsz;obtain⟨⟨es,clock,hb,hst,hL⟩,hlt⟩:=h;refine⟨_,run_range_map w t k e b es clock ht hb,⟨es,clock,clock,#[],clock,?_,hst,hL,nH w _,((stamped_iff es clock).1 hst).1,Nat.le_refl _,Nat.le_refl _,?_⟩,(Kt.refl _ w).alloc _,by simp⟩
 ·rw[Below.heap_alloc _ _ _ hl];exact hb
 ·have:leftOf es #[]=es:=by simp[leftOf]
  rw[this,hL]
theorem yR(e:MapEntry)(seen:Array Nat):∀ (l:List MapEntry),(l.map (·.born)).Nodup->e∈l->seen.contains e.born=false->
  (l.filter (fun x=>!seen.contains x.born)).Perm (e :: l.filter (fun x=>!(seen.push e.born).contains x.born))
 | [],_,h,_=>by cases h
 | a :: l,hn,h,hs=>by
  obtain⟨h1,h2⟩:=List.nodup_cons.1 (by simpa using hn:(a.born :: l.map (·.born)).Nodup);have hcp:∀ x:MapEntry,(seen.push e.born).contains x.born=(seen.contains x.born || x.born == e.born):=fun x=>contains_push _ _ _
  rcases List.mem_cons.1 h with rfl|h'
  ·have e1:l.filter (fun x=>!(seen.push e.born).contains x.born)=l.filter (fun x=>!seen.contains x.born):=by
    refine List.filter_congr fun x hx=>?_
    have hxe:(x.born == e.born)=false:=by
     rw[beq_eq_false_iff_ne];exact fun e2=>h1 (List.mem_map.2 ⟨x,hx,e2⟩)
    rw[hcp,hxe,Bool.or_false]
   simp only[List.filter_cons,hs,hcp,beq_self_eq_true,Bool.or_true,Bool.not_false,Bool.not_true,if_true,Bool.false_eq_true,if_false];simp only[hcp] at e1;rw[e1]
  ·have ih:=yR e seen l h2 h' hs;have hae:(a.born == e.born)=false:=by
    rw[beq_eq_false_iff_ne];exact fun e2=>h1 (List.mem_map.2 ⟨e,h',e2.symm⟩)
   simp only[List.filter_cons,hcp,hae,Bool.or_false];simp only[hcp] at ih
   cases hc:seen.contains a.born
   ·simp only[Bool.not_false,if_true];exact(ih.cons a).trans (List.Perm.swap e a _)
   ·simp only[Bool.not_true,Bool.false_eq_true,if_false];exact ih
theorem RC.next(h:RC enc w b r D c rest)(ty:TypeId):
  (rest=[]/\(Instr.next (.pointer (some ⟨r,0,none⟩)) false ty).run prog w=.ok (.tuple #[.bool false]) w)\/
  ∃ a rest' w',rest.Perm (a :: rest')/\(Instr.next (.pointer (some ⟨r,0,none⟩)) false ty).run prog w=.ok (.tuple #[.bool true,enc a,dF (c a)]) w'/\RC enc w' b r D c rest'/\Kt (fun x=>x=r) w w'/\w'.heap.size=w.heap.size/\
   (Instr.entry (.pointer (some ⟨r,0,none⟩))).run prog w'=.ok (.tuple #[enc a,dF (c a)]) w':=by
 have hne:=h.ne;have hlts:=h.lts;obtain⟨es,clock,since,seen,c0,hb,hst,hL,hr,h1,h2,h3,hp⟩:=h;have hborn:=((stamped_iff es clock).1 hst).2.1;rcases run_next_at (P:=prog) w ty r b since c0 seen es clock hr hb h1 h2 with ⟨h0,hrun⟩|⟨e,he,w1,hal,hrun⟩
 ·refine Or.inl ⟨?_,hrun⟩;have:=hp.length_eq;simp at this;have h0':rest.length=0:=by omega
  exact List.length_eq_zero_iff.1 h0'
 ·obtain⟨hem,hes⟩:=mem_left he;have hin:fK e∈rest.map (dY enc c):=hp.mem_iff.1 (List.mem_map.2 ⟨e,he,rfl⟩);obtain⟨p,hpr,hpe⟩:=List.mem_map.1 hin;obtain⟨s,t',hst'⟩:=List.append_of_mem hpr;have hk1:e.key=enc p:=(congrArg Prod.fst hpe).symm;have hk2:e.val=dF (c p):=(congrArg Prod.snd hpe).symm;rw[hk1,hk2] at hrun;have hr1:w1.heap[r]?=some (.mapIter (some b) since seen c0):=by rcases hal with rfl|rfl <;> exact hr
  have hb1:w1.heap[b]?=some (.map es clock):=by rcases hal with rfl|rfl <;> exact hb
  have hset:=Go.MapKept.heap_set (o':=.mapIter (some b) since (seen.push e.born) clock) hr1;have hb':(setBlock w1 r (.mapIter (some b) since (seen.push e.born) clock)).heap[b]?=some (.map es clock):=(hset.2 b (fun e1=>hne e1.symm)).trans hb1;have hperm:rest.Perm (p :: (s ++ t')):=by rw[hst'];exact List.perm_middle
  refine Or.inr ⟨p,s ++ t',_,hperm,hrun,⟨es,clock,since,seen.push e.born,clock,hb',hst,hL,hset.1,h1,h3,h3,?_⟩,?_,?_,?_⟩
  ·have hlp:(leftOf es seen).toList.Perm (e :: (leftOf es (seen.push e.born)).toList):=by
    simp only[leftOf,Array.toList_filter];exact yR e seen es.toList hborn hem hes
   have h7:=(hlp.map fK).symm.trans (hp.trans (hperm.map (dY enc c)));simp only[List.map_cons,hpe] at h7;exact h7.cons_inv
  ·have hl1:r<w1.heap.size:=by rcases hal with rfl|rfl <;> exact hlts.2
   have k1:Kt (fun x=>x=r) w w1:=by
    rcases hal with rfl|rfl
    ·exact Kt.refl _ _
    ·exact(Kt.refl _ _).drew
   exact k1.trans (nU hl1) (fun _ _ h=>h) (fun _ _ h=>h)
  ·rcases hal with rfl|rfl <;> simp[setBlock]
  ·have:=run_entry_at (P:=prog) _ r b since seen es clock e hset.1 hb' hem hborn;rw[hk1,hk2] at this;exact this
end
section
variable {α : Type} {enc : α->Value} {ok : α->Prop} (w:World) {ops:Array Oper} {rest:List Oper} {o:Oper} {a:Act} {Q:Exit->Act->World->Prop} {D:List α} {c : α->Nat}
theorem oP(hg:o.guard=none)(m x:Operand)(t:TypeId)(hop:o.op=Op.lookup t m x false)(k e:TypeId)(T:KT k enc ok)(ht:prog.underlying t=some (.map k e))(hz:(zeroValue e).run prog w=.ok (.int .i64 0) w)
  (b:Nat) (hm:a.eval m=.map (some b)) (h:MC enc ok w b D c) (n : α) (hn:ok n) (hx:a.eval x=enc n) (v:Nat) (hv:c n=v)
  (hK:wpList prog ops Q rest (a.put o.dst (dF v)) w):wpList prog ops Q (o :: rest) a w:=by
 refine wpList_plain hg fun K' hK'=>?_
 have hrun:=h.look T ht hz n hn;rw[hv] at hrun;unfold Oper.wp;simp[execOp,hop,hm,hx,hrun,Result.andThen];exact hK' _ _ hK
theorem VC(hg:o.guard=none)(m x v:Operand)(t:TypeId)(hop:o.op=Op.mapUpdate t m x v)(k e:TypeId)(T:KT k enc ok)(ht:prog.underlying t=some (.map k e))
  (b:Nat) (hm:a.eval m=.map (some b)) (h:MC enc ok w b D c) (hl:D.length<maxLen) (n : α) (hn:ok n) (hx:a.eval x=enc n) (val:Nat) (c' : α->Nat) (hc:c' n=val) (hc2:∀ x,x≠n->c' x=c x) (hv:a.eval v=dF val)
  (hK:∀ w',MC enc ok w' b (aY D n) c'->Kt (fun x=>x=b) w w'->w'.heap.size=w.heap.size->wpList prog ops Q rest (a.put o.dst undef) w'):wpList prog ops Q (o :: rest) a w:=by
 refine wpList_plain hg fun K' hK'=>?_
 obtain⟨w',hrun,r1,r2,r3⟩:=h.store T ht hl n hn val c' hc hc2;unfold Oper.wp;simp[execOp,hop,hm,hx,hv,hrun,Result.andThen];exact hK' _ _ (hK w' r1 r2 r3)
theorem tP(hg:o.guard=none)(m:Operand)(t:TypeId)(hop:o.op=Op.range t m)(k e:TypeId)(ht:prog.underlying t=some (.map k e))(b:Nat)(hm:a.eval m=.map (some b))(h:MC enc ok w b D c)
  (hK:∀ w',RC enc w' b w.heap.size D c D->Kt (fun _=>False) w w'->w'.heap.size=w.heap.size+1->wpList prog ops Q rest (a.put o.dst (.pointer (some ⟨w.heap.size,0,none⟩))) w'):wpList prog ops Q (o :: rest) a w:=by
 refine wpList_plain hg fun K' hK'=>?_
 obtain⟨w',hrun,r1,r2,r3⟩:=h.range ht;unfold Oper.wp;simp[execOp,hop,hm,hrun,Result.andThen];exact hK' _ _ (hK w' r1 r2 r3)
theorem tN(hg:o.guard=none)(it:Operand)(hop:o.op=Op.next it false)(b r:Nat)(left:List α)(hit:a.eval it=.pointer (some ⟨r,0,none⟩))(h:RC enc w b r D c left)
  (hDone:left=[]->wpList prog ops Q rest (a.put o.dst (.tuple #[.bool false])) w)
  (hMore:∀ (n : α) (left':List α) (w':World),left.Perm (n :: left')->RC enc w' b r D c left'->Kt (fun x=>x=r) w w'->w'.heap.size=w.heap.size->
   (Instr.entry (.pointer (some ⟨r,0,none⟩))).run prog w'=.ok (.tuple #[enc n,dF (c n)]) w'->wpList prog ops Q rest (a.put o.dst (.tuple #[.bool true,enc n,dF (c n)])) w'):
  wpList prog ops Q (o :: rest) a w:=by
 refine wpList_plain hg fun K' hK'=>?_
 unfold Oper.wp;rcases h.next o.type with ⟨h0,hrun⟩|⟨p,left',w',hp,hrun,h1,h2,h3,h4⟩
 ·simp[execOp,hop,hit,hrun,Result.andThen];exact hK' _ _ (hDone h0)
 ·simp[execOp,hop,hit,hrun,Result.andThen];exact hK' _ _ (hMore p left' w' hp h1 h2 h3 h4)
end
section
variable {α : Type} {enc : α->Value} {ok : α->Prop} {k e t:TypeId} {w w':World} {b st:Nat} {D:List α} {c : α->Nat} {a : α}
def gW(enc : α->Value)(w:World)(b st:Nat)(a : α):Prop:=∃ (es:Array MapEntry) (clock j:Nat) (e0:MapEntry),w.heap[b]?=some (.map es clock)/\es.toList[j]?=some e0/\e0.key=enc a/\e0.born=st
theorem gW.kept{S:Nat->Prop}(h:gW enc w b st a)(k:Kt S w w')(hb:¬S b):gW enc w' b st a:=by
 obtain⟨es,clock,j,e0,h1,h2⟩:=h;exact⟨es,clock,j,e0,(k.block b (Array.getElem?_eq_some_iff.1 h1).1 hb).trans h1,h2⟩
theorem qV(h:a∈D):aY D a=D:=by unfold aY;rw[if_pos h]
theorem MC.entry(T:KT k enc ok)(h:MC enc ok w b D c)(ht:prog.underlying t=some (.map k e))(hz:∀ w,(zeroValue e).run prog w=.ok (.int .i64 0) w)(a : α)(ha:ok a):
  ∃ (w':World) (v0:Value) (st:Nat),(Instr.mapEntry t (.map (some b)) (enc a)).run prog w=.ok (.tuple #[v0,goInt st]) w'/\MC enc ok w' b (aY D a) c/\gW enc w' b st a/\(∀ s2,gW enc w b s2 a->gW enc w' b s2 a)/\Kt (fun x=>x=b) w w':=by
 have h0:=h;obtain⟨⟨es,clock,hb,hst,hL⟩,hlt,h9⟩:=h;obtain⟨l,hl⟩:=T.key a ha;have hbl:=h0.ltsz;have hlt':∀ x∈aY D a,ok x:=fun x hx=>((nQ a x).1 hx).elim (hlt x) (fun e=>e▸ha)
 have hz':∀ x,x ∉ aY D a->c x=0:=fun x hx=>h9 x (fun hD=>hx ((nQ a x).2 (.inl hD)))
 rcases h0.find T hL a ha with ⟨h1,h2,h3⟩|⟨j,e0,h1,h2,h3,h4,h5⟩
 ·have eD:aY D a=D ++ [a]:=by unfold aY;rw[if_neg h2]
  refine⟨setBlock w b (.map (es.push ⟨enc a,.int .i64 0,clock⟩) (clock+1)),.int .i64 0,clock,?_,⟨⟨_,_,heap_setBlock_same hb _,stamped_push hst h3,?_⟩,hlt',hz'⟩,⟨_,_,es.size,⟨enc a,.int .i64 0,clock⟩,heap_setBlock_same hb _,by simp,rfl,rfl⟩,?_,nU hbl⟩
  ·simp[Instr.mapEntry,run_underlying ht,MapKept.run_getObj_map hb,T.K.check w false hl,h1,hz,MapKept.run_setObj_map _ hb,Result.andThen,setBlock]
  ·have e2:fK ⟨enc a,.int .i64 0,clock⟩=dY enc c a:=by
    unfold fK dY;rw[h9 a h2];rfl
   rw[eD,Array.toList_push,List.map_append,List.map_append,hL,List.map_singleton,List.map_singleton,e2]
  ·rintro s2 ⟨es2,cl2,j,e0,q1,q2,q3,q4⟩;rw[hb] at q1
   cases q1
   exact absurd q3 (h3 e0 (List.mem_of_getElem? q2))
 ·have eD:aY D a=D:=qV (List.mem_of_getElem? h4);have hj:es[j]?=some e0:=by simpa using h2
  have hsame:es.modify j (fun e=>{ e with key:=enc a })=es:=by
   apply Array.ext'
   rw[Array.toList_modify,Go.ChangeMaps.modify_eq_set _ _ _ _ h2];have:({ e0 with key:=enc a } : MapEntry)=e0:=by rw[<-h3]
   rw[this];exact WideElems.set_self _ _ _ h2
  refine⟨setBlock w b (.map es clock),e0.val,e0.born,?_,⟨⟨es,clock,heap_setBlock_same hb _,hst,by rw[eD];exact hL⟩,hlt',hz'⟩,⟨es,clock,j,e0,heap_setBlock_same hb _,h2,h3,rfl⟩,?_,nU hbl⟩
  ·simp[Instr.mapEntry,run_underlying ht,MapKept.run_getObj_map hb,T.K.check w false hl,h1,hj,h3,T.K.stays w hl,hsame,MapKept.run_setObj_map _ hb,Result.andThen,setBlock]
  ·rintro s2 ⟨es2,cl2,j2,e2,q1,q2,q3,q4⟩;rw[hb] at q1
   cases q1
   exact⟨es,clock,j2,e2,heap_setBlock_same hb _,q2,q3,q4⟩
theorem MC.put(T:KT k enc ok)(h:MC enc ok w b D c)(E:gW enc w b st a)(ha:ok a)(t:TypeId)(v:Nat)(c' : α->Nat)(hc:c' a=v)(hc2:∀ x,x≠a->c' x=c x):
  ∃ w',(Instr.entryStore t (.map (some b)) (goInt st) (dF v)).run prog w=.ok () w'/\MC enc ok w' b D c'/\a∈D/\Kt (fun x=>x=b) w w':=by
 have h0:=h;have hnd:=h.nodup;obtain⟨⟨es,clock,hb,hst,hL⟩,hlt,h9⟩:=h;have hbl:=h0.ltsz;obtain⟨es2,cl2,j,e0,q1,h2,h3,h6⟩:=E;rw[hb] at q1
 cases q1
 have e1:=congrArg (fun l=>l[j]?) hL;simp only[List.getElem?_map,h2,Option.map_some] at e1
 cases hD:D[j]? with
 | none=>rw[hD] at e1;cases e1
 | some p=>
  rw[hD] at e1;have e2:fK e0=dY enc c p:=Option.some.inj e1;have e3:p=a:=T.inj p a (hlt p (List.mem_of_getElem? hD)) ha ((congrArg Prod.fst e2).symm.trans h3);subst e3;have hj:es[j]?=some e0:=by simpa using h2
  have hidx:es.findIdx? (fun e=>((e.born:Nat):Int) == ((st:Nat):Int))=some j:=by
   rw[WideElems.findIdx_arr,<-h6];exact WideElems.findIdx_born ((stamped_iff es clock).1 hst).2.1 h2
  refine⟨setBlock w b (.map (es.modify j (fun e'=>{ e' with val:=dF v })) clock),?_,⟨⟨_,_,heap_setBlock_same hb _,stamped_modify hst _ _ (fun _ _=>rfl) (fun _ _ _=>rfl),?_⟩,hlt,fun x hx=>?_⟩,List.mem_of_getElem? hD,nU hbl⟩
  ·simp[Instr.entryStore,MapKept.run_getObj_map hb,asInt,asIntOf,goInt,hidx,MapKept.run_setObj_map _ hb,Result.andThen,setBlock]
  ·apply List.ext_getElem?
   intro i;have hi:=congrArg (fun l=>l[i]?) hL;simp only[List.getElem?_map] at hi;simp only[List.getElem?_map,Array.getElem?_toList,Array.getElem?_modify];simp only[Array.getElem?_toList] at hi
   cases hDi:D[i]? with
   | none=>
    rw[hDi] at hi
    cases he:es[i]? with
    | none=>split <;> simp
    | some x=>rw[he] at hi;cases hi
   | some q=>
    rw[hDi] at hi
    cases he:es[i]? with
    | none=>rw[he] at hi;cases hi
    | some x=>
     rw[he] at hi;have hxe:fK x=dY enc c q:=Option.some.inj hi;by_cases hij:j=i
     ·subst hij;rw[hD] at hDi
      cases hDi
      rw[hj] at he
      cases he
      have:=congrArg Prod.fst hxe;simp[fK,dY,hc] at this ⊢;exact this
     ·have hpn:q≠p:=fun e1=>by
       obtain⟨q1,q1'⟩:=List.getElem?_eq_some_iff.1 hD;obtain⟨q2,q2'⟩:=List.getElem?_eq_some_iff.1 hDi;rcases Nat.lt_or_gt_of_ne hij with hlt'|hlt'
       ·exact List.pairwise_iff_getElem.1 hnd j i q1 q2 hlt' (q1'.trans (e1.symm.trans q2'.symm))
       ·exact List.pairwise_iff_getElem.1 hnd i j q2 q1 hlt' (q2'.trans (e1.trans q1'.symm))
      simp only[hij,if_false,Option.map_some,hxe];unfold dY;rw[hc2 q hpn]
  ·rw[hc2 x (fun e=>hx (e▸List.mem_of_getElem? hD))];exact h9 x hx
end
section
variable {α : Type} {enc : α->Value} {ok : α->Prop} (w:World) {ops:Array Oper} {rest:List Oper} {o:Oper} {ac:Act} {Q:Exit->Act->World->Prop} {D:List α} {c : α->Nat}
theorem yZ(hg:o.guard=none)(m x:Operand)(t:TypeId)(hop:o.op=Op.mapEntry t m x)(k e:TypeId)(T:KT k enc ok)(ht:prog.underlying t=some (.map k e))(hz:∀ w,(zeroValue e).run prog w=.ok (.int .i64 0) w)
  (b:Nat) (hm:ac.eval m=.map (some b)) (h:MC enc ok w b D c) (n : α) (hn:ok n) (hx:ac.eval x=enc n)
  (hK:∀ (w':World) (v0:Value) (st:Nat),MC enc ok w' b (aY D n) c->gW enc w' b st n->(∀ s2,gW enc w b s2 n->gW enc w' b s2 n)->Kt (fun x=>x=b) w w'->wpList prog ops Q rest (ac.put o.dst (.tuple #[v0,goInt st])) w'):wpList prog ops Q (o :: rest) ac w:=by
 refine wpList_plain hg fun K' hK'=>?_
 obtain⟨w',v0,st,hrun,r1,r2,r3,r4⟩:=h.entry T ht hz n hn;unfold Oper.wp;simp[execOp,hop,hm,hx,hrun,Result.andThen];exact hK' _ _ (hK w' v0 st r1 r2 r3 r4)
theorem xB(hg:o.guard=none)(m s x:Operand)(t:TypeId)(hop:o.op=Op.entryStore t m s x)(k:TypeId)(T:KT k enc ok)(b st:Nat)(hm:ac.eval m=.map (some b))(hs:ac.eval s=goInt st)(h:MC enc ok w b D c)(n : α)(hn:ok n)(E:gW enc w b st n)(val:Nat)(c' : α->Nat)(hc:c' n=val)(hc2:∀ x,x≠n->c' x=c x)(hv:ac.eval x=dF val)
  (hK:∀ w',MC enc ok w' b D c'->n∈D->Kt (fun x=>x=b) w w'->wpList prog ops Q rest (ac.put o.dst undef) w'):wpList prog ops Q (o :: rest) ac w:=by
 refine wpList_plain hg fun K' hK'=>?_
 obtain⟨w',hrun,r1,r2,r3⟩:=h.put T E hn t val c' hc hc2;unfold Oper.wp;simp[execOp,hop,hm,hs,hv,hrun,Result.andThen];exact hK' _ _ (hK w' r1 r2 r3)
end
open Go.RowKit
section
variable {α : Type} {enc : α->Value} {ok : α->Prop} {g:Nat} {D:List α} {c : α->Nat} {x : α}
def lI(enc : α->Value)(ok : α->Prop)(g:Nat)(D:List α)(c : α->Nat)(x : α)(W:World):Prop:=∃ D',(D'=D\/D'=aY D x)/\MC enc ok W g D' c
structure GmP(enc : α->Value)(ok : α->Prop)(g:Nat)(D:List α)(c : α->Nat)(x : α)(W W':World):Prop where
 k:Kt (fun y=>y=g) W W'
 m:lI enc ok g D c x W->lI enc ok g D c x W'
 e:∀ st,gW enc W g st x->gW enc W' g st x
theorem GmP.trans{a b d:World}(h:GmP enc ok g D c x a b)(k:GmP enc ok g D c x b d):GmP enc ok g D c x a d:=
 ⟨h.k.trans k.k (fun _ _ e=>e) (fun _ _ e=>e),fun m=>k.m (h.m m),fun st e=>k.e st (h.e st e)⟩
theorem GmP.of_kept{W W':World}(k:Kt nO W W'):GmP enc ok g D c x W W':=
 ⟨k.mono (fun _ _ e=>e.elim),fun ⟨D',h1,h2⟩=>⟨D',h1,h2.kept k id⟩,fun _ h=>h.kept k id⟩
theorem GmP.drew{W:World} : GmP enc ok g D c x W W.drew:=GmP.of_kept (Kt.refl nO W).drew
theorem GmP.rfl'{W:World} : GmP enc ok g D c x W W:=GmP.of_kept (Kt.refl nO W)
theorem XK:aY (aY D x) x=aY D x:=qV ((nQ x x).2 (.inr rfl))
theorem lI.add{W:World}(h:lI enc ok g D c x W):∃ D',MC enc ok W g D' c/\aY D' x=aY D x:=by
 obtain⟨D',rfl|rfl,h2⟩:=h
 ·exact⟨D',h2,rfl⟩
 ·exact⟨_,h2,XK⟩
def bQ(v:Value):Value->World->Prop:=fun u _=>u=v
def jX(enc : α->Value)(g:Nat)(x : α):Value->World->Prop:=fun u W=>∃ v0 st,u=.tuple #[v0,goInt ((st:Nat):Int)]/\gW enc W g st x
def jW(enc : α->Value)(g:Nat)(x : α):Value->World->Prop:=fun u W=>∃ st:Nat,u=goInt ((st:Nat):Int)/\gW enc W g st x
def gV(enc : α->Value)(g:Nat)(x : α)(f bx:Value)(n:Nat):List (Value->World->Prop):=[bQ (.map (some g)),bQ f,bQ bx,bQ (enc x),bQ (dF n),bQ (dF (n+1)),jX enc g x,jW enc g x]
theorem xY{f bx:Value}{n:Nat}(i:Nat):∀ u W W',((gV enc g x f bx n).getD i bX) u W->GmP enc ok g D c x W W'->((gV enc g x f bx n).getD i bX) u W':=by
 have key:∀ r∈gV enc g x f bx n,∀ u W W',r u W->GmP enc ok g D c x W W'->r u W':=by
  have h1:∀ v,∀ u W W',bQ v u W->GmP enc ok g D c x W W'->bQ v u W':=fun v u W W' h _=>h
  have h2:∀ u W W',jX enc g x u W->GmP enc ok g D c x W W'->jX enc g x u W':=fun u W W' ⟨v0,st,h3,h4⟩ k=>⟨v0,st,h3,k.e _ h4⟩
  have h3:∀ u W W',jW enc g x u W->GmP enc ok g D c x W W'->jW enc g x u W':=fun u W W' ⟨st,h3,h4⟩ k=>⟨st,h3,k.e _ h4⟩
  unfold gV;repeat refine List.forall_mem_cons.2 ⟨by first|exact h1 _|exact h2|exact h3,?_⟩
  exact fun r hr=>by cases hr
 rw[List.getD_eq_getElem?_getD]
 cases e:(gV enc g x f bx n)[i]? with
 | none=>exact fun _ _ _ h _=>h
 | some r=>exact key r (List.mem_of_getElem? e)
end
end Go.Proofs.YtkfmheelhinjdaaGreatDoor
