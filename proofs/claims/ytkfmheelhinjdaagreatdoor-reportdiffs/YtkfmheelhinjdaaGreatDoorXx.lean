import Derived.Test.YtkfmheelhinjdaaGreatDoorXw
import Derived.Deep.Upon
import Derived.Test.YtkfmheelhinjdaaGreatDoorXk
import Derived.DeepKeys4
import Derived.Laws.IdiomStrings
import Derived.Lib.UnsafeStr
set_option maxRecDepth 1000000
set_option maxHeartbeats 80000000
namespace Go.Proofs.YtkfmheelhinjdaaGreatDoor.W
open _root_.Go.Proofs.Tryz
open Go.RowKit
set_option linter.unusedVariables false
def lU:Obj:=.cells #[.int .i64 1,.func (.func 165) #[] #[],.int .i64 2,.func (.func 166) #[] #[],.int .i64 3,.func (.func 167) #[] #[],.int .i64 4,.func (.func 168) #[] #[],.int .i64 5,.func (.func 169) #[] #[],.int .i64 6,.func (.func 170) #[] #[],.int .i64 7,.func (.func 171) #[] #[],.int .i64 8,.func (.func 172) #[] #[],.int .i64 9,.func (.func 173) #[] #[],.int .i64 10,.func (.func 174) #[] #[],.int .i64 11,.func (.func 175) #[] #[]] 187 (0,0)
theorem VL(w:World):Calls prog 134 #[] w fun e w'=>e=.returned (.slice (some ⟨w.heap.size,0,none⟩) 11 11)/\w'=w.alloc lU:=by
 go_enter func134,ntmps134;go_wp2
 go_ret;exact⟨rfl,rfl⟩
theorem WV{w:World}{g:Nat}(h:w.heap[g]?=some lU)(a:Nat)(ha:a<11):w.cell? ⟨g,a*2,none⟩=some (.int .i64 ((a+1:Nat):Int))/\w.cell? ⟨g,a*2+1,none⟩=some (.func (.func (fT a)) #[] #[]):=by
 unfold lU at h;match a,ha with
 | 0,_=>exact⟨by simp[World.cell?,h],by simp[World.cell?,h,fT]⟩
 | 1,_=>exact⟨by simp[World.cell?,h],by simp[World.cell?,h,fT]⟩
 | 2,_=>exact⟨by simp[World.cell?,h],by simp[World.cell?,h,fT]⟩
 | 3,_=>exact⟨by simp[World.cell?,h],by simp[World.cell?,h,fT]⟩
 | 4,_=>exact⟨by simp[World.cell?,h],by simp[World.cell?,h,fT]⟩
 | 5,_=>exact⟨by simp[World.cell?,h],by simp[World.cell?,h,fT]⟩
 | 6,_=>exact⟨by simp[World.cell?,h],by simp[World.cell?,h,fT]⟩
 | 7,_=>exact⟨by simp[World.cell?,h],by simp[World.cell?,h,fT]⟩
 | 8,_=>exact⟨by simp[World.cell?,h],by simp[World.cell?,h,fT]⟩
 | 9,_=>exact⟨by simp[World.cell?,h],by simp[World.cell?,h,fT]⟩
 | 10,_=>exact⟨by simp[World.cell?,h],by simp[World.cell?,h,fT]⟩
theorem FV(p:Addr)(x pl:Int)(older:List PanicEntry)(w:World)(hc:w.cell? p=some (.int .i64 x))(hz:w.frozen? p=false):
  CallsD prog 132 #[.pointer (some p)] (.panicking ({ v:=.iface 218 (.int .i64 pl),recovered:=false } :: older)) w fun e u' w'=>
   e=.returned (.tuple #[])/\u'=.panicking ({ v:=.iface 218 (.int .i64 pl),recovered:=true } :: older)/\w'=w.setCell p (.int .i64 pl):=by
 refine callsD_of_wpS func132 rfl fun c₀ cs hu=>?_
 apply wpS_region
 simp[wpOpsS,go_sem,recoverD,hu,ntmps132];refine(zeO _ _).mono ?_;rintro e w' ⟨rfl,rfl⟩;simp[go_sem,hc,hz,bodyPostS,results,results132]
theorem FU(p:Addr)(x:Int)(w:World)(hc:w.cell? p=some (.int .i64 x))(hz:w.frozen? p=false):
  CallsD prog 132 #[.pointer (some p)] .returning w fun e u' w'=>e=.returned (.tuple #[])/\u'=.returning/\w'=w.setCell p (.int .i64 0):=by
 refine callsD_of_wpS func132 rfl fun c₀ cs hu=>?_
 apply wpS_region
 simp[wpOpsS,go_sem,recoverD,hu,ntmps132];refine(ZL _).mono ?_;rintro e w' ⟨rfl,rfl⟩
 cases c₀
 simp_all [go_sem,bodyPostS,results,results132]
structure CkI(w W:World)(I:Img)(V:ImV)(g:Nat):Prop where
 im:ImAt W w.heap.size I V
 pl:W.heap[w.heap.size+1]?=some (.cells #[.int .i64 0] 3 (0,0))
 tb:W.heap[g]?=some lU
 k:Kt nO w W
theorem CkI.keep{w W W':World}{I:Img}{V:ImV}{g:Nat}(h:CkI w W I V g)(hk:Kt nO W W'):CkI w W' I V g:=
 ⟨h.im.keep hk,(hk.block _ (lH h.pl) (fun x=>x)).trans h.pl,(hk.block _ (lH h.tb) (fun x=>x)).trans h.tb,nT h.k hk⟩
theorem VK(I:Img)(V:ImV)(w:World)(hI:ImD w I V):
  Calls prog 90 #[.agg #[.int .u64 I.bS,.int .i64 I.lim,.int .i64 I.ord,.int .i64 I.reg,V.m,V.p,V.r,V.h,V.t]] w fun e w'=>e=.returned (.tuple #[.int .i64 ((chk I).1:Int),.int .i64 ((chk I).2:Int)])/\Kt nO w w':=by
 have hmf:=M.mkf;obtain⟨EE,hEE⟩:=xe (Ending.returned (.tuple #[.int .i64 ((chk I).1:Int),.int .i64 ((chk I).2:Int)]));have FB:=aA (show ∀ j p,j<11->(∀ a,a<j->rl I a=none)->rl I j=some p->Ending.returned (.tuple #[.int .i64 ((j+1:Nat):Int),.int .i64 p])=EE from fun j p h1 h2 h3=>by rw[hEE,QB h1 h2 h3]);have FG:=aA (show(∀ a,a<11->rl I a=none)->Ending.returned (.tuple #[.int .i64 0,.int .i64 0])=EE from fun h=>by rw[hEE,chk_ok h];rfl);rw[<-hEE];have K0:=aA (show Kt nO w ((w.alloc (cR I V)).alloc (.cells #[.int .i64 0] 3 (0,0)))from((Kt.refl _ w).alloc _).alloc _);have B1:=aA (show((w.alloc (cR I V)).alloc (.cells #[.int .i64 0] 3 (0,0))).heap[w.heap.size]?=some (cR I V)by rw[Below.heap_alloc _ _ _ (by simp)];exact nH w _);have B2:=aA (show((w.alloc (cR I V)).alloc (.cells #[.int .i64 0] 3 (0,0))).heap[w.heap.size+1]?=some (.cells #[.int .i64 0] 3 (0,0))from yY w _ _);have SZ:=aA (show((w.alloc (cR I V)).alloc (.cells #[.int .i64 0] 3 (0,0))).heap.size=w.heap.size+2 by simp);have HI:=aA hI;obtain⟨⟨ma,mc,hm⟩,⟨pa,pc,hp⟩,⟨ra,rc,hr⟩,⟨ha,hc,hh⟩,⟨ta,tc,ht⟩,-⟩:=hI.sl;rw[hm,hp,hr,hh,ht];clear hEE hI;go_enter_defers func90,ntmps90;go_wp2_with fail;have EW:(w.alloc (.cells #[.int .u64 I.bS,.int .i64 I.lim,.int .i64 I.ord,.int .i64 I.reg,.slice ma I.nm mc,.slice pa I.np pc,.slice ra I.no rc,.slice ha I.hd.length hc,.slice ta I.pt.length tc] 38 (0,0)))=w.alloc (cR I V):=by rw[<-hm,<-hp,<-hr,<-hh,<-ht]
 rw[EW];clear EW hm hp hr hh ht;generalize (w.alloc (cR I V)).alloc (.cells #[.int .i64 0] 3 (0,0))=W0 at *;refine(VL W0).mono ?_;rintro e w1 ⟨rfl,rfl⟩;have C0:=aA (show CkI w (W0.alloc lU) I V W0.heap.size from⟨⟨(((Kt.refl nO W0).alloc lU).block _ (lH B1.out) (fun x=>x)).trans B1.out,HI.out.keep (K0.out.alloc _)⟩,(((Kt.refl nO W0).alloc lU).block _ (lH B2.out) (fun x=>x)).trans B2.out,nH _ _,K0.out.alloc _⟩);have GSZ:=aA (show w.heap.size+1<W0.heap.size by have:=SZ.out;omega);generalize W0.alloc lU=W1 at *;generalize W0.heap.size=g at *;clear B1 B2 SZ K0;obtain⟨ib,hib⟩:=xe (w.heap.size);obtain⟨pb,hpb⟩:=xe (w.heap.size+1);have HIB:=aA hib;have HPB:=aA hpb;simp only[<-hpb];simp only[<-hib];clear hib hpb;go_wp2_with fail;go_loopw [9] (fun i W=>∃ a:Nat,a<=11/\i=.int .i64 a/\Hid (CkI w W I V g/\∀ x,x<a->rl I x=none)) (fun i _=>11-(intOf i).toNat)
 case atStart=>exact⟨0,Nat.zero_le _,rfl,aA ⟨C0.out,fun x hx=>by omega⟩⟩
 case round=>
  clear C0;obtain⟨a,ha',rfl,hR⟩:=hrel;by_cases hlt:a<11
  ·have hai:(a:Int)<11:=(by omega);obtain⟨q0,q1⟩:=WV hR.out.1.tb a hlt;obtain⟨a1,ha1⟩:=xe (a+1);rw[<-ha1] at q0;have HA1:=aA ha1;obtain⟨rw',hrw⟩:∃ ob,ob=Obj.cells #[.int .i64 a1,.func (.func (fT a)) #[] #[]] 187 (0,0):=⟨_,rfl⟩;have CK:=aA (hR.out.1.keep ((Kt.refl nO wr).alloc rw'));rw[hrw] at CK;have AK:=aA (MA w.heap.size I V a hlt hR.out.2 _ CK.out.im);rw[<-HIB.out] at AK;have hent:=AK.out.1;have FBa:=aA (show ∀ p,rl I a=some p->Ending.returned (.tuple #[.int .i64 a1,.int .i64 p])=EE from fun p h=>by rw[HA1.out];exact FB.out a p hlt hR.out.2 h);have GA:=aA (show rl I a=none->∀ x,x<a+1->rl I x=none from fun h x hx=>by
    by_cases e:x=a
    ·rw[e];exact h
    ·exact hR.out.2 x (by omega))
   generalize fT a=fid at *;have hst:∀ (a:Addr) (w:World),(store a (.func (.func fid) #[] #[])).run prog w=stored prog w a (.func (.func fid) #[] #[]) .plain:=fun a w=>run_store prog w a _ .plain rfl
   clear ha1 hrw;go_wp2_with fail;have PLC:=aA CK.out.pl;rw[<-HPB.out] at PLC
   cases hrl:rl I a with
   | none=>
    rw[hrl] at AK;have R2:=aA (GA.out hrl);clear hrl;refine AK.out.2.mono ?_;rintro e w2 ⟨rfl,hk2⟩;have R3:=aA (show CkI w w2 I V g/\_ from⟨CK.out.keep hk2,R2.out⟩);clear hk2 q0 q1 hent hst;dsimp only[bB];go_wp2_with fail;go_round
    case rel=>exact⟨a+1,by omega,by go_num,R3⟩
    case measure=>simp[intOf];omega
   | some p=>
    rw[hrl] at AK;have R2:=aA (FBa.out p hrl);clear hrl;refine AK.out.2.mono ?_;rintro e w2 ⟨rfl,hk2⟩;have PL2:=aA ((hk2.block _ (lH PLC.out) (fun x=>x)).trans PLC.out);have hec:w2.cell? ⟨pb,0,none⟩=some (.int .i64 0):=(by simp[World.cell?,PL2.out]);have hef:w2.frozen? ⟨pb,0,none⟩=false:=(by simp[World.frozen?,PL2.out]);have K2:=aA (nT CK.out.k hk2);clear hk2 q0 q1 hent hst;refine leaves_cons (f:=132) (args:=#[.pointer (some ⟨pb,0,none⟩)]) (by simp) (by simp[go_sem]) ?_;refine(FV ⟨pb,0,none⟩ 0 (p:Int) [] w2 hec hef).mono ?_;rintro e u' w'' ⟨rfl,rfl,rfl⟩;refine⟨.tuple #[.int .i64 a1,.int .i64 p],?_,R2.out,K2.out.setNew (fun h=>absurd h (by have:=HPB.out;show ¬pb<_;omega)) _⟩;simp[results,results90,go_sem,hec]
  ·have hae:a=11:=(by omega);have hai:¬(a:Int)<11:=(by omega);have R2:=aA (FG.out (fun x hx=>hR.out.2 x (by omega)));have PL2:=aA hR.out.1.pl;rw[<-HPB.out] at PL2;have hec:wr.cell? ⟨pb,0,none⟩=some (.int .i64 0):=(by simp[World.cell?,PL2.out]);have hef:wr.frozen? ⟨pb,0,none⟩=false:=(by simp[World.frozen?,PL2.out]);have K2:=aA hR.out.1.k;clear hae;go_wp2_with fail;refine leaves_cons (f:=132) (args:=#[.pointer (some ⟨pb,0,none⟩)]) (by simp) (by simp[go_sem]) ?_;have BLK:=aA (show(wr.setCell ⟨pb,0,none⟩ (.int .i64 0)).heap[pb]?=some (.cells #[.int .i64 0] 3 (0,0))from heap_set PL2.out 0 _);have hec2:(wr.setCell ⟨pb,0,none⟩ (.int .i64 0)).cell? ⟨pb,0,none⟩=some (.int .i64 0):=(by simp[World.cell?,BLK.out]);have hef2:(wr.setCell ⟨pb,0,none⟩ (.int .i64 0)).frozen? ⟨pb,0,none⟩=false:=(by simp[World.frozen?,BLK.out]);refine(FU ⟨pb,0,none⟩ 0 _ hec2 hef2).mono ?_;rintro e u' w'' ⟨rfl,rfl,rfl⟩;have hpn:∀ h:pb<w.heap.size,nO pb:=fun h=>absurd h (by have:=HPB.out;omega)
   refine⟨.tuple #[.int .i64 0,.int .i64 0],?_,R2.out,(K2.out.setNew hpn _).setNew hpn _⟩;simp[results,results90,go_sem,hec2]
structure GS(w0 W:World)(e:TypeId)(size:Nat)(v:Value)(n:Nat)(xs:List Value):Prop where
 own:W.ownsRow 0 e size v n xs
 new:∀ g cap,v=.slice (some ⟨g,0,none⟩) n cap->w0.heap.size<=g
 kp:Kt nO w0 W
theorem kZ{w w':World}{row:Option Nat}(h:w.grownBy w' row):Kt (fun b=>row=some b) w w':=⟨h.os,h.tape,h.output,h.size,fun k hk hn=>h.block k hk (fun e=>hn e.symm)⟩
theorem GS.nil(w0 W:World)(e:TypeId)(size:Nat)(k:Kt nO w0 W):GS w0 W e size (.slice none 0 0) 0 []:=
 ⟨World.ownsRow_nil _ _ _ _,fun g cap h=>by simp at h,k⟩
theorem GS.keep{w0 W W' e size v n xs}(h:GS w0 W e size v n xs)(k:Kt nO W W'):GS w0 W' e size v n xs:=by
 refine⟨⟨h.own.1,?_⟩,h.new,nT h.kp k⟩;rcases h.own.2 with h0|⟨g,cap,cur,rfl,hb,hg,h3⟩
 ·exact .inl h0
 ·exact .inr ⟨g,cap,cur,rfl,hb,(k.block g (lH hg) (fun x=>x)).trans hg,h3⟩
theorem kK{w:World}{cs:Array Value}{t:TypeId}(j:Nat)(u:Value)(h:cs.toList[j]?=some u):(w.alloc (.cells cs t)).cell? (Addr.add ⟨w.heap.size,0,none⟩ j)=some u:=by
 rw[Addr.add_lit,Nat.zero_add];have:=nH w (.cells cs t);simp only[World.cell?,this];rw[<-Array.getElem?_toList,h];rfl
theorem qX{W:World}{b:Nat}{e:TypeId}{size:Nat}{v:Value}{n:Nat}{xs:List Value}(h:W.ownsRow b e size v n xs):∃ va vc,v=.slice va n vc:=by
 rcases h.2 with ⟨h0,h1⟩|⟨g,cap,cur,h0,_⟩
 ·exact⟨none,0,by rw[h0,h1]⟩
 ·exact⟨_,_,h0⟩
abbrev bP(a s:Nat):Obj:=.cells #[.int .u64 a,.int .u64 s] 45
theorem GS.pushM{w0 W:World}{e:TypeId}{size:Nat}{v:Value}{n:Nat}{xs:List Value}(h:GS w0 W e size v n xs)(t:TypeId)(i:TypeInfo)(z:Value)(bytes:Nat)
  (ht:prog.underlying t=some (.slice e)) (hi:prog.info? e=some i) (hz:i.zero=some z) (hs:i.size=size) (hby:i.bytes=bytes) (hzs:z.cells.size=size) (hsz : 0<size)
  (a:Addr) (c m:Nat) (hm : 0<m) (news:List Value) (hl':news.length=m*size) (hnews:∀ j u,news[j]?=some u->W.cell? (a.add j)=some u) (h1:∀ u∈news,u.oneCell'=true) (h63:n+m<=maxLen) (hbb:(n+m)*bytes<=140737488355328):
  ∃ g cap w',(∀ ty,(Builtin.append_ #[t,t] ty #[v,.slice (some a) m c]).run prog W=.ok (.slice (some ⟨g,0,none⟩) (n + m) cap) w')/\GS w0 w' e size (.slice (some ⟨g,0,none⟩) (n + m) cap) (n + m) (xs ++ news)/\w0.heap.size<=g/\Kt (fun b=>v.ownBlock=some b) W w'/\(v.ownBlock=some g\/W.heap.size<=g):=by
 have ho:=h.own;by_cases hr:∃ g cap,v=.slice (some ⟨g,0,none⟩) n cap/\n+m<=cap
 ·obtain⟨g,cap,rfl,hroom⟩:=hr;obtain⟨w',hrun,hown,hgr⟩:=run_append_fits (P:=prog) W 0 t 0 e i size ht hi hs g n cap xs ho a m c news hl' hnews h1 hroom;have hg:=h.new g cap rfl;have hk:=kZ hgr;refine⟨g,cap,w',fun ty=>?_,⟨hown,fun g' cap' e=>?_,h.kp.trans hk (fun _ _ x=>x) (fun x hx e=>?_)⟩,hg,hk,.inl (by simp[Value.ownBlock])⟩
  ·rw[<-hrun];simp[Builtin.append_]
  ·simp at e;omega
  ·cases e;omega
 ·have key:∃ v' w',(Builtin.append_ #[t,t] 0 #[v,.slice (some a) m c]).run prog W=.ok v' w'/\w'.ownsRow W.heap.size e size v' (n + m) (xs ++ news)/\Kt nO W w':=by
   rcases ho.2 with ⟨rfl,h0⟩|⟨g,cap,cur,rfl,hb,hg,hnc,hcm,hcs,htake⟩
   ·subst h0;have:xs=[]:=List.eq_nil_of_length_eq_zero (by rw[ho.1,Nat.zero_mul]);subst this;obtain⟨v',w',hrun,hown,hgr,_⟩:=run_append_own (P:=prog) W W.heap.size t 0 e i z size bytes ht hi hz hs hby hzs hsz (.slice none 0 0) 0 [] (World.ownsRow_nil _ _ _ _) a m c news hl' hnews h1 h63 hbb (Nat.le_refl _);exact⟨v',w',hrun,hown,(kZ hgr).mono (fun _ _ e=>by cases e)⟩
   ·obtain⟨v',w',hrun,hown,hgr⟩:=run_append_arg_grows (P:=prog) W t 0 e i z size bytes ht hi hz hs hby hzs hsz ⟨g,0,none⟩ n cap xs ho.1 (fun j u hj=>by
     rw[Addr.add_lit,Nat.zero_add];rw[<-htake,List.getElem?_take] at hj;split at hj
     ·simp only[World.cell?,hg];rw[<-Array.getElem?_toList,hj];rfl
     ·cases hj) a m c news hl' hnews (Nat.lt_of_not_le fun hle=>hr ⟨g,cap,rfl,hle⟩) h63 hbb
    exact⟨v',w',hrun,hown,(kZ hgr).mono (fun _ _ e=>by cases e)⟩
  obtain⟨v',w',hrun,hown,hk⟩:=key;rcases hown.2 with ⟨_,h0⟩|⟨g,cap,cur,rfl,hb,hg,h3⟩
  ·omega
  ·refine⟨g,cap,w',fun ty=>?_,⟨⟨hown.1,.inr ⟨g,cap,cur,rfl,Nat.zero_le _,hg,h3⟩⟩,fun g' cap' e=>?_,nT h.kp hk⟩,Nat.le_trans h.kp.size hb,hk.mono (fun _ _ e=>e.elim),.inr hb⟩
   ·rw[<-hrun];simp[Builtin.append_]
   ·simp at e;have:=h.kp.size;omega
def blV:List (Nat×Nat)->List Value
 | []=>[]
 | b :: l=>.int .u64 b.1 :: .int .u64 b.2 :: blV l
theorem mJ:∀ l m:List (Nat×Nat),blV (l ++ m)=blV l ++ blV m
 | [],_=>rfl
 | b :: l,m=>by
  show _ :: _ :: blV (l ++ m)=_
  rw[mJ l m];rfl
theorem kX:∀ l:List (Nat×Nat),(blV l).length=l.length*2
 | []=>rfl
 | b :: l=>by
  show(blV l).length+1+1=(l.length+1)*2
  rw[kX l];omega
theorem nR:(prog.info? 45).map (fun i=>(i.zero,i.size,i.bytes))=some (some (.agg #[.int .u64 0,.int .u64 0]),2,16):=by kernel_rfl
abbrev GB(w0 W:World)(v:Value)(l:List (Nat×Nat)):Prop:=GS w0 W 45 2 v l.length (blV l)
theorem xP{n:Nat}{ws:List Nat}{k:Nat} : (bQ n ws k = -1/\∀ j,k<=j->j<n->aF ws j=false)\/∃ j:Nat,bQ n ws k=(j:Int)/\k<=j/\j<n/\aF ws j=true/\∀ i,k<=i->i<j->aF ws i=false:=by
 cases h:(List.range n).find? (fun j=>decide (k<=j) && aF ws j)with
 | none=>
  refine .inl ⟨by unfold bQ;rw[h],fun j h1 h2=>?_⟩;have:=List.find?_eq_none.1 h j (List.mem_range.2 h2)
  cases hb:aF ws j with
  | false=>rfl
  | true=>exact absurd (by simp[h1,hb]) this
 | some j=>
  have h':=h;rw[List.find?_range_eq_some] at h';obtain⟨g1,g2,g3⟩:=h';simp only[Bool.and_eq_true,decide_eq_true_eq] at g1;refine .inr ⟨j,by unfold bQ;rw[h],g1.1,List.mem_range.1 g2,g1.2,fun i h1 h2=>?_⟩;have:=g3 i h2;simp only[Bool.not_eq_true',Bool.and_eq_false_iff,decide_eq_false_iff_not] at this;rcases this with h|h
  ·omega
  ·exact h
theorem rK{I:Img}(h:(chk I).1=0)(a:Nat)(ha:a<11):rl I a=none:=by
 cases e:(List.range 11).findSome? (fun j=>(rl I j).map fun p=>(j+1,p))with
 | none=>
  have:=List.findSome?_eq_none_iff.1 e a (List.mem_range.2 ha);simpa using this
 | some x=>
  exfalso
  have:chk I=x:=by unfold chk;rw[e]
  rw[this] at h;obtain⟨j,-,hj⟩:=List.exists_of_findSome?_eq_some e;simp only[Option.map_eq_some_iff] at hj;obtain⟨p,-,hp⟩:=hj;rw[<-hp] at h;simp at h
theorem qT{I:Img}(h:(chk I).1=0):∃ r,Sn9 I I.ord.toNat r:=sn9_of (rK h 0 (by decide)) (rK h 1 (by decide)) (rK h 2 (by decide))
theorem yL{o:Nat}(h:o<=8):IntKind.u64.wrap ((4096:Int)*2 ^ o)=((4096*2 ^ o:Nat):Int):=by
 have h1:=M.pow8 o h;have e:((2:Int) ^ o)=((2 ^ o:Nat):Int):=by simp
 rw[wrap_u64,e];generalize 2 ^ o=P at *;omega
theorem ok8_eq{I:Img}{k r:Nat}(hS:Sn9 I k r)(j:Nat):ok8 I j=refL (decP I) 0 (fun i=>M.word I.mem (4096*i)) (fun i=>M.word I.mem (4096*i+8)) (fun i=>isF (I.pg i) (j:Int)) (pgL I fun p=>isF p (j:Int)).length (I.hd.getD j 0) 0:=by
 unfold ok8;refine xF (cod:=fun i=>I.bS+4096*i) (fun i=>by have:=hS.b0;omega) (fun i j h=>by omega) (fun p i h=>(qU hS h).2.1) ?_ (pgL I fun p=>isF p (j:Int)) (pgL_nodup _ _) (fun p i h=>?_) _ (pgL I fun p=>isF p (j:Int)) [] _ _ rfl (pgL_nodup _ _) List.nodup_nil (fun i=>by simp) (fun i _ h=>by cases h) trivial rfl
 ·unfold decP;rw[if_neg (by have:=hS.b0;omega)]
 ·rw[pgL_mem];exact⟨fun x=>x.2,fun x=>⟨(qU hS h).1,x⟩⟩
theorem EB(p:Pg)(hp:PgIn p):aT (wsP p)=aK (aF (wsP p)) 256:=by
 refine rP (wsP p) (fun i=>?_) 4;match i with
 | 0=>exact hp.b0
 | 1=>exact hp.b1
 | 2=>exact hp.b2
 | 3=>exact hp.b3
 | i+4=>simp[List.getD]
theorem ok5_iff(p:Pg)(hp:PgIn p)(c:Nat)(hc:p.cl=(c:Int))(h4:p.kd=4):ok5 p=true↔(0<p.lv/\p.lv=(aK (aF (wsP p)) 256:Int))/\∀ j,celN9 c<=j->j<256->aF (wsP p) j=false:=by
 unfold ok5;rw[hc,Int.toNat_natCast,EB p hp,decide_eq_true h4,Bool.not_true,Bool.false_or,Bool.and_eq_true,Bool.and_eq_true,decide_eq_true_eq,decide_eq_true_eq,decide_eq_true_eq];refine and_congr_right fun _=>?_
 rcases xP (n:=256) (ws:=wsP p) (k:=celN9 c)with ⟨h1,h2⟩|⟨j,h1,h2,h3,h5,h6⟩
 ·exact⟨fun _=>h2,fun _=>h1⟩
 ·rw[h1];refine⟨fun h=>by omega,fun h=>?_⟩;rw[h j h2 h3] at h5
  cases h5
theorem cntB_cut(f:Nat->Bool)(n:Nat):∀ d,(∀ j,n<=j->j<n+d->f j=false)->aK f (n+d)=aK f n
 | 0,_=>rfl
 | d+1,h=>by
  rw[<-Nat.add_assoc,pG f _ (h (n+d) (by omega) (by omega))];exact cntB_cut f n d (fun j h1 h2=>h j h1 (by omega))
theorem IH(c:Nat)(h:c<=7):celN9 c<=256/\1<=celN9 c:=by
 match c,h with
 | 0,_=>decide
 | 1,_=>decide
 | 2,_=>decide
 | 3,_=>decide
 | 4,_=>decide
 | 5,_=>decide
 | 6,_=>decide
 | 7,_=>decide
theorem EA{p:Pg}(hp:PgIn p){c:Nat}(hc:p.cl=(c:Int))(h7:c<=7)(h4:p.kd=4)(h:ok5 p=true):∃ l:Nat,p.lv=(l:Int)/\1<=l/\l<=celN9 c/\l=aK (aF (wsP p)) (celN9 c):=by
 rw[ok5_iff p hp c hc h4] at h;obtain⟨⟨h1,h2⟩,h3⟩:=h;have hk:=IH c h7;have e:aK (aF (wsP p)) 256=aK (aF (wsP p)) (celN9 c):=by
  have:=cntB_cut (aF (wsP p)) (celN9 c) (256-celN9 c) (fun j a b=>h3 j a (by omega));rwa [show celN9 c+(256-celN9 c)=256 by omega] at this
 have:=OD (aF (wsP p)) (celN9 c);exact⟨aK (aF (wsP p)) 256,h2,by omega,by omega,e⟩
theorem ok10_eq(I:Img)(j:Nat):dY I j=refL (dec10 I) (-1) (fun i=>(I.pg i).nx) (fun i=>(I.pg i).pv) (fun i=>prS (j:Int) (I.pg i)) (pgL I (prS (j:Int))).length (I.pt.getD j 0) (-1):=by
 unfold dY;refine xF (cod:=fun i=>(i:Int)) (fun i=>by omega) (fun i j h=>by omega) (fun p i h=>(sV h).2.1) rfl (pgL I (prS (j:Int))) (pgL_nodup _ _) (fun p i h=>?_) _ (pgL I (prS (j:Int))) [] _ _ rfl (pgL_nodup _ _) List.nodup_nil (fun i=>by simp) (fun i _ h=>by cases h) trivial rfl;rw[pgL_mem];exact⟨fun x=>x.2,fun x=>⟨(sV h).1,x⟩⟩
set_option maxHeartbeats 8000000
set_option maxRecDepth 6000
abbrev eU(n:Nat):Value:=.int .u64 n
abbrev fC(n:Nat):Prop:=n<18446744073709551616
theorem pR(n:Nat)(hn:n<18446744073709551616):(Lit.int .u64 n).wf=true:=by
 simp[Lit.wf,IntKind.min,IntKind.max,IntKind.signed,IntKind.bits];omega
theorem mS:KT 27 eU fC:=
 ⟨Maps.int_keyed Tryz.underlying27,fun a h=>⟨_,Maps.keyOf_int_mk Tryz.underlying27 (pR a h)⟩,fun a b _ _ e=>by injection e with _ e;omega⟩
theorem wE:laidOutB prog=true:=by kernel_rfl
theorem xK:∃ m,prog.types.size=m+1:=⟨prog.types.size-1,by have : 0<prog.types.size:=of_decide_eq_true (by kernel_rfl);omega⟩
theorem vR{m:Nat}(n:Nat)(h:n<18446744073709551616):prog.keyLits (m+1) 27 [.int .u64 n]=some [.int .u64 n]:=by
 unfold Program.keyLits;rw[Tryz.underlying27];exact if_pos ⟨rfl,pR n h⟩
theorem qC{m:Nat}(n:Int)(h:N64 n):prog.keyLits (m+1) 3 [.int .i64 n]=some [.int .i64 n]:=by
 unfold Program.keyLits;rw[Tryz.underlying3];refine if_pos ⟨rfl,?_⟩;simp[Lit.wf,IntKind.min,IntKind.max,IntKind.signed,IntKind.bits];exact h
abbrev eB(b:Nat×Nat):Value:=.agg #[.int .u64 b.1,.int .u64 b.2]
abbrev gC(b:Nat×Nat):Prop:=fC b.1/\fC b.2
theorem jS:KT 45 eB gC:=by
 refine⟨Maps.Keyed.of_law (deep_law_laid wE (m:=2) (by omega) (of_decide_eq_true (by kernel_rfl)) (by kernel_rfl) (by kernel_rfl)),fun a h=>?_,fun a b _ _ e=>?_⟩
 ·obtain⟨m,hm⟩:=xK;have f1:(eB a).formed prog 45=true:=by
   simp only[Value.formed,Tryz.underlying45];exact decide_eq_true (by kernel_rfl)
  have k1:prog.keyType 45=true:=by kernel_rfl
  unfold keyOf;rw[Tryz.underlying45];simp only[f1,k1,Bool.and_self,if_true];have c2:prog.cellsOf 45=2:=by kernel_rfl
  have c1:prog.cellsOf 27=1:=by kernel_rfl
  have key:prog.keyLits (prog.types.size+1) 45 (eB a).cells.toList=some [.int .u64 a.1,.int .u64 a.2]:=by
   rw[hm];unfold Program.keyLits;rw[Tryz.underlying45];simp[Value.cells,c2,c1,vR _ h.1,vR _ h.2]
  rw[key];exact⟨_,rfl⟩
 ·injection e with e
  simp only[Array.mk.injEq,List.cons.injEq,Value.int.injEq,true_and,and_true] at e;exact Prod.ext (by omega) (by omega)
abbrev gI:=Int×Int×Int×Int
abbrev eS(s:gI):Value:=.agg #[.int .i64 s.1,.int .i64 s.2.1,.int .i64 s.2.2.1,.int .i64 s.2.2.2]
abbrev kO(s:gI):Prop:=N64 s.1/\N64 s.2.1/\N64 s.2.2.1/\N64 s.2.2.2
theorem sC:KT 101 eS kO:=by
 refine⟨Maps.Keyed.of_law (deep_law_laid wE (m:=2) (by omega) (of_decide_eq_true (by kernel_rfl)) (by kernel_rfl) (by kernel_rfl)),fun a h=>?_,fun a b _ _ e=>?_⟩
 ·obtain⟨m,hm⟩:=xK;have f1:(eS a).formed prog 101=true:=by
   simp only[Value.formed,Tryz.underlying101];exact decide_eq_true (by kernel_rfl)
  have k1:prog.keyType 101=true:=by kernel_rfl
  unfold keyOf;rw[Tryz.underlying101];simp only[f1,k1,Bool.and_self,if_true];have c2:prog.cellsOf 101=4:=by kernel_rfl
  have c1:prog.cellsOf 3=1:=by kernel_rfl
  have key:prog.keyLits (prog.types.size+1) 101 (eS a).cells.toList=some [.int .i64 a.1,.int .i64 a.2.1,.int .i64 a.2.2.1,.int .i64 a.2.2.2]:=by
   rw[hm];unfold Program.keyLits;rw[Tryz.underlying101];simp[Value.cells,c2,c1,qC _ h.1,qC _ h.2.1,qC _ h.2.2.1,qC _ h.2.2.2]
  rw[key];exact⟨_,rfl⟩
 ·injection e with e
  simp only[Array.mk.injEq,List.cons.injEq,Value.int.injEq,true_and,and_true] at e;obtain⟨e1,e2,e3,e4⟩:=e;exact Prod.ext e1 (Prod.ext e2 (Prod.ext e3 e4))
abbrev cX(p:Pg):gI:=(p.kd,p.od,p.cl,p.lv)
theorem zC(p:Pg)(W:World):Calls prog 49 #[fH p] W fun e w'=>e=.returned (eS (cX p))/\Kt nO W w':=by
 obtain⟨kd,od,cl,lv,nx,pv,fs,b0,b1,b2,b3⟩:=p;go_enter func49,ntmps49;go_wp2
 exact⟨rfl,_,by simp[results,results49,go_sem],rfl,((Kt.refl _ W).alloc _).alloc _⟩
theorem VY(b:Nat×Nat)(W:World):Calls prog 59 #[eB b] W fun e w'=>e=.returned (eB b)/\Kt nO W w':=by
 go_enter func59,ntmps59;go_wp2
 exact⟨rfl,_,by simp[results,results59,go_sem],rfl,((Kt.refl _ W).alloc _).alloc _⟩
set_option maxHeartbeats 8000000
set_option maxRecDepth 6000
theorem AO(I:Img)(V:ImV)(w:World)(hI:ImD w I V):
  Calls prog 47 #[imA I V] w fun e w'=>e=.returned (.bool ((chk I).1 == 0))/\Kt nO w w':=by
 obtain⟨⟨ma,mc,hm⟩,⟨pa,pc,hp⟩,⟨ra,rc,hr⟩,⟨ha,hc,hh⟩,⟨ta,tc,ht⟩,-⟩:=hI.sl;have HCK:=aA (VK I V (w.alloc (cR I V)) (hI.keep ((Kt.refl _ w).alloc _)));have K0:=aA (show Kt nO w (w.alloc (cR I V))from(Kt.refl _ w).alloc _);obtain⟨ru,hru⟩:=xe ((chk I).1);obtain⟨pl,hpl⟩:=xe ((chk I).2);rw[<-hru,<-hpl] at HCK;rw[<-hru];show Calls prog 47 #[.agg #[.int .u64 I.bS,.int .i64 I.lim,.int .i64 I.ord,.int .i64 I.reg,V.m,V.p,V.r,V.h,V.t]] w _
 rw[hm,hp,hr,hh,ht] at HCK ⊢;have EW:=aA (show(w.alloc (.cells #[.int .u64 I.bS,.int .i64 I.lim,.int .i64 I.ord,.int .i64 I.reg,.slice ma I.nm mc,.slice pa I.np pc,.slice ra I.no rc,.slice ha I.hd.length hc,.slice ta I.pt.length tc] 38 (0,0)))=w.alloc (cR I V)by rw[<-hm,<-hp,<-hr,<-hh,<-ht]);clear hm hp hr hh ht hI hru hpl;have hz:((ru:Int) == 0)=(ru == 0):=by rw[Bool.eq_iff_iff,beq_iff_eq,beq_iff_eq];omega
 go_enter func47,ntmps47;go_wp2_with fail;rw[EW.out];refine HCK.out.mono ?_;rintro e w1 ⟨rfl,hk1⟩;have K1:=aA (nT K0.out hk1);clear hk1 EW K0;generalize w.alloc (cR I V)=W0 at *;go_wp2_with fail;go_ret;exact⟨by first|rfl|rw[hz],K1.out⟩
theorem mU(c:Nat)(h7:c<=7):IntKind.u64.wrap ((16:Int)*2 ^ c)=((16*2 ^ c:Nat):Int):=by
 have hp:=lA c h7;have e:((2:Int) ^ c)=((2 ^ c:Nat):Int):=by simp
 rw[wrap_u64,e];generalize 2 ^ c=P at *;omega
theorem BH(kd od lv:Int)(c:Nat)(h7:c<=7)(w:World):
  Calls prog 135 #[eS (kd,od,(c:Int),lv)] w fun e w'=>e=.returned (.int .u64 ((16*2 ^ c:Nat):Int))/\Kt nO w w':=by
 have hp:=lA c h7;have E:=mU c h7;generalize 16*2 ^ c=q at *;show Calls prog 135 #[.agg #[.int .i64 kd,.int .i64 od,.int .i64 c,.int .i64 lv]] w _
 go_enter func135,ntmps135;go_wp2
 go_ret;exact⟨by first|rfl|simp_all,(Kt.refl _ w).alloc _⟩
theorem OF(c:Nat)(h7:c<=7):(4096:Int)/((16*2 ^ c:Nat):Int)=((celN9 c:Nat):Int):=by
 unfold celN9;match c,h7 with
 | 0,_=>decide
 | 1,_=>decide
 | 2,_=>decide
 | 3,_=>decide
 | 4,_=>decide
 | 5,_=>decide
 | 6,_=>decide
 | 7,_=>decide
theorem BS(kd od:Int)(c l:Nat)(h7:c<=7)(hl:l<=256)(w:World):
  Calls prog 93 #[eS (kd,od,(c:Int),(l:Int))] w fun e w'=>e=.returned (.int .i64 ((celN9 c:Nat)-(l:Int)))/\Kt nO w w':=by
 have HCS:=aA (fun W=>BH kd od (l:Int) c h7 W);have hq:=OF c h7;have hq2:(4096:Int).tdiv ((16*2 ^ c:Nat):Int)=((celN9 c:Nat):Int):=by rw[Int.tdiv_eq_ediv_of_nonneg (by decide)];exact hq
 have hb:=mK c h7;have hp:=lA c h7;have h0:¬((16*2 ^ c:Nat):Int)=0:=by generalize 2 ^ c=P at *;omega
 generalize celN9 c=cn at *;generalize hqq : 16*2 ^ c=q at *;clear hqq hp;have e1:IntKind.i64.wrap (cn:Int)=cn:=by rw[IntKind.wrap_i64];omega
 have e2:IntKind.i64.wrap ((cn:Int)-(l:Int))=(cn:Int)-(l:Int):=by rw[IntKind.wrap_i64];omega
 have e3:IntKind.u64.wrap (cn:Int)=cn:=by rw[wrap_u64];omega
 have K0:=aA (show Kt nO w (w.alloc (.cells #[.int .i64 kd,.int .i64 od,.int .i64 c,.int .i64 l] 101 (0,0)))from(Kt.refl _ w).alloc _);have C0:=aA (show ∀ x:KW (w.alloc (.cells #[.int .i64 kd,.int .i64 od,.int .i64 c,.int .i64 l] 101 (0,0))),x.v.heap[w.heap.size]?=some (.cells #[.int .i64 kd,.int .i64 od,.int .i64 c,.int .i64 l] 101 (0,0))from fun x=>(x.k.block _ (lH (nH w _)) (fun x=>x)).trans (nH w _));show Calls prog 93 #[.agg #[.int .i64 kd,.int .i64 od,.int .i64 c,.int .i64 l]] w _
 go_enter func93,ntmps93;go_upto_region 1 with fail;generalize w.alloc _=W0 at *;generalize w.heap.size=gb at *;have c0:∀ x:KW W0,x.v.cell? ⟨gb,0,none⟩=some (.int .i64 kd):=fun x=>by simp[World.cell?,C0.out x]
 have c1:∀ x:KW W0,x.v.cell? ⟨gb,1,none⟩=some (.int .i64 od):=fun x=>by simp[World.cell?,C0.out x]
 have c2:∀ x:KW W0,x.v.cell? ⟨gb,2,none⟩=some (.int .i64 c):=fun x=>by simp[World.cell?,C0.out x]
 have c3:∀ x:KW W0,x.v.cell? ⟨gb,3,none⟩=some (.int .i64 l):=fun x=>by simp[World.cell?,C0.out x]
 refine cI (by kernel_rfl) (by kernel_rfl) ?_;repeat (go_big_quiet_step (first|(go_at_call 135;exact Calls.kept_of (HCS.out _))))
 refine wpQuiet_nil ?_;intro x;have R:=aA (nT K0.out x.k);go_wp2_with fail;go_ret;exact⟨by first|rfl|simp_all,R.out⟩
set_option maxHeartbeats 8000000
set_option maxRecDepth 6000
def fJ(p:Pg):Nat:=if p.kd=2 then 48+p.od.toNat else if p.kd=3 then 61 else if p.kd=4 then (if p.lv=(celN9 p.cl.toNat:Int) then 65+p.cl.toNat else 97+p.cl.toNat) else 46
def gD(p:Pg):UInt8:=UInt8.ofNat (fJ p)
theorem JG{p:Pg}{o c:Nat}(ho:p.od=(o:Int))(h8:o<=8)(hc:p.cl=(c:Int))(h7:c<=7):fJ p<256:=by
 unfold fJ;rw[ho,hc,Int.toNat_natCast,Int.toNat_natCast];split
 ·omega
 ·split
  ·omega
  ·split
   ·split <;> omega
   ·omega
theorem QJ{p:Pg}{o c:Nat}(ho:p.od=(o:Int))(h8:o<=8)(hc:p.cl=(c:Int))(h7:c<=7):((gD p).toNat:Int)=(fJ p:Int):=by
 have h:=JG ho h8 hc h7;unfold gD;rw[UInt8.toNat_ofNat_of_lt' h]
theorem ZA(p:Pg)(o c l:Nat)(ho:p.od=(o:Int))(h8:o<=8)(hc:p.cl=(c:Int))(h7:c<=7)(hl:p.lv=(l:Int))(h256:l<=256)(w:World):
  Calls prog 52 #[fH p] w fun e w'=>e=.returned (.int .u8 (fJ p:Int))/\Kt nO w w':=by
 obtain⟨kd,od,cl,lv,nx,pv,fs,b0,b1,b2,b3⟩:=p;dsimp only at ho hc hl;subst ho hc hl;have KS:=aA (fun W=>zC ⟨kd,(o:Int),(c:Int),(l:Int),nx,pv,fs,b0,b1,b2,b3⟩ W);have FC:=aA (fun W=>BS kd (o:Int) c l h7 h256 W);obtain⟨cn,hcn⟩:=xe (celN9 c);rw[<-hcn] at FC;have o1:IntKind.u8.wrap (o:Int)=o:=by rw[pB];omega
 have c1:IntKind.u8.wrap (c:Int)=c:=by rw[pB];omega
 have o1':(o:Int)%256=(o:Int):=by omega
 have c1':(c:Int)%256=(c:Int):=by omega
 have KA:=aA (fun o=>(Kt.refl nO w).alloc o);by_cases k2:kd=2
 ·subst k2;have e1:IntKind.u8.wrap (48+(o:Int))=48+(o:Int):=by rw[pB];omega
  have e1':(48+(o:Int))%256=48+(o:Int):=by omega
  have E:=aA (show((fJ ⟨2,(o:Int),(c:Int),(l:Int),nx,pv,fs,b0,b1,b2,b3⟩:Nat):Int)=48+(o:Int)by unfold fJ;simp);rw[E.out];go_enter func52,ntmps52;go_wp2_with fail;go_ret;exact⟨rfl,KA.out _⟩
 by_cases k3:kd=3
 ·subst k3;have E:=aA (show((fJ ⟨3,(o:Int),(c:Int),(l:Int),nx,pv,fs,b0,b1,b2,b3⟩:Nat):Int)=61 by unfold fJ;simp);rw[E.out];go_enter func52,ntmps52;go_wp2_with fail;go_ret;exact⟨rfl,KA.out _⟩
 by_cases k4:kd=4
 ·subst k4;by_cases hf:cn=l
  ·have E:=aA (show((fJ ⟨4,(o:Int),(c:Int),(l:Int),nx,pv,fs,b0,b1,b2,b3⟩:Nat):Int)=65+(c:Int)by unfold fJ;simp[<-hcn,hf]);rw[E.out];have f0:((cn:Int)-(l:Int) == 0)=true:=(by rw[beq_iff_eq];omega);have e1:IntKind.u8.wrap (65+(c:Int))=65+(c:Int):=(by rw[pB];omega);have e1':(65+(c:Int))%256=65+(c:Int):=(by omega);clear hf hcn;go_enter func52,ntmps52;go_wp2_with fail;refine(KS.out _).mono ?_;rintro e w1 ⟨rfl,hk1⟩;have K1:=aA (nT (KA.out _) hk1);go_wp2_with fail;refine(FC.out _).mono ?_;rintro e w2 ⟨rfl,hk2⟩;have K2:=aA (nT K1.out hk2);have c2:=aA (show w2.cell? ⟨w.heap.size,2,none⟩=some (.int .i64 c)from hk2.cell (fun x=>x) (hk1.cell (fun x=>x) (eL (nH w (aV ⟨4,(o:Int),(c:Int),(l:Int),nx,pv,fs,b0,b1,b2,b3⟩))).2.2.1));have c2:=c2.out;clear hk1 hk2;go_wp2_with fail;go_ret;exact⟨rfl,K2.out⟩
  ·have E:=aA (show((fJ ⟨4,(o:Int),(c:Int),(l:Int),nx,pv,fs,b0,b1,b2,b3⟩:Nat):Int)=97+(c:Int)by
    have:¬((l:Int)=(celN9 c:Int)):=by rw[<-hcn];omega
    unfold fJ;simp;rw[if_neg (by omega)];simp)
   rw[E.out];have f0:((cn:Int)-(l:Int) == 0)=false:=(by rw[beq_eq_false_iff_ne];omega);have e1:IntKind.u8.wrap (97+(c:Int))=97+(c:Int):=(by rw[pB];omega);have e1':(97+(c:Int))%256=97+(c:Int):=(by omega);clear hf hcn;go_enter func52,ntmps52;go_wp2_with fail;refine(KS.out _).mono ?_;rintro e w1 ⟨rfl,hk1⟩;have K1:=aA (nT (KA.out _) hk1);go_wp2_with fail;refine(FC.out _).mono ?_;rintro e w2 ⟨rfl,hk2⟩;have K2:=aA (nT K1.out hk2);have c2:=aA (show w2.cell? ⟨w.heap.size,2,none⟩=some (.int .i64 c)from hk2.cell (fun x=>x) (hk1.cell (fun x=>x) (eL (nH w (aV ⟨4,(o:Int),(c:Int),(l:Int),nx,pv,fs,b0,b1,b2,b3⟩))).2.2.1));have c2:=c2.out;clear hk1 hk2;go_wp2_with fail;go_ret;exact⟨rfl,K2.out⟩
 ·have E:=aA (show((fJ ⟨kd,(o:Int),(c:Int),(l:Int),nx,pv,fs,b0,b1,b2,b3⟩:Nat):Int)=46 by unfold fJ;simp[k2,k3,k4]);rw[E.out];have f2:(kd == 2)=false:=by rw[beq_eq_false_iff_ne];exact k2
  have f3:(kd == 3)=false:=by rw[beq_eq_false_iff_ne];exact k3
  have f4:(kd == 4)=false:=by rw[beq_eq_false_iff_ne];exact k4
  clear k2 k3 k4;go_enter func52,ntmps52;go_wp2_with fail;go_ret;exact⟨rfl,KA.out _⟩
abbrev TX(w0 W:World)(v:Value)(l:List UInt8):Prop:=GS w0 W 5 1 v l.length (Lib.byteCells l)
theorem VJ:(prog.info? 5).map (fun i=>(i.zero,i.size,i.bytes))=some (some (.int .u8 0),1,1):=by kernel_rfl
theorem TX.push{w0 W:World}{v:Value}{l:List UInt8}(h:TX w0 W v l)(b:UInt8)(hn:l.length<140737488355328):
  ∃ g cap w',(∀ t,(Builtin.append_ #[32,32] t #[v,.slice (some ⟨W.heap.size,0,none⟩) 1 1]).run prog (W.alloc (.cells #[.int .u8 b.toNat] 5))=.ok (.slice (some ⟨g,0,none⟩) (l.length + 1) cap) w')/\TX w0 w' (.slice (some ⟨g,0,none⟩) (l.length + 1) cap) (l ++ [b])/\Kt (fun b=>v.ownBlock=some b) W w':=by
 obtain⟨i,hi,hzz⟩:=Option.map_eq_some_iff.1 VJ;simp only[Prod.mk.injEq] at hzz;have ka:=(Kt.refl nO W).alloc (.cells #[.int .u8 b.toNat] 5);obtain⟨g,cap,w',h1,h2,h5,h6,h7⟩:=(GS.keep h ka).pushM 32 i (.int .u8 0) 1 Tryz.underlying32 hi hzz.1 hzz.2.1 hzz.2.2 rfl (by decide) ⟨W.heap.size,0,none⟩ 1 1 (by decide) [.int .u8 b.toNat] rfl (fun j u hj=>kK (cs:=#[.int .u8 b.toNat]) j u hj) (by simp[Value.oneCell']) (by simp only[maxLen];omega) (by omega);refine⟨g,cap,w',h1,?_,ka.trans h6 (fun _ _ e=>e.elim) (fun _ _ e=>e)⟩;show GS _ _ _ _ _ (l ++ [b]).length (Lib.byteCells (l ++ [b]))
 rw[List.length_append,show Lib.byteCells (l ++ [b])=Lib.byteCells l ++ [.int .u8 b.toNat] by simp[Lib.byteCells]];exact h2
theorem TX.str{w0 W:World}{v:Value}{l:List UInt8}(h:TX w0 W v l):(convert 32 9 v).run prog W=.ok (.string ⟨l.toArray⟩) W:=by
 rcases h.own.2 with ⟨rfl,h0⟩|⟨g,cap,cur,rfl,hb,hg,hnc,hcm,hcs,htake⟩
 ·obtain rfl:=List.eq_nil_of_length_eq_zero h0;show(convert 32 9 (.slice none 0 0)).run prog W=_
  rw[run_convert_bytes_string W 32 9 5 none 0 0 Tryz.underlying32 Tryz.underlying5 Tryz.underlying9];simp[Conv.bytesToString];rfl
 ·refine run_convert_bytes_back W 32 9 5 ⟨g,0,none⟩ cap l Tryz.underlying32 Tryz.underlying5 Tryz.underlying9 fun j hj=>?_
  rw[Addr.add_lit,Nat.zero_add];have e1:(Lib.byteCells l)[j]?=some (.int .u8 (l[j].toNat:Int)):=by
   unfold Lib.byteCells;rw[List.getElem?_map,List.getElem?_eq_getElem hj];rfl
  rw[<-htake,List.getElem?_take] at e1;split at e1
  ·simp only[World.cell?,hg];rw[<-Array.getElem?_toList,e1];rfl
  ·cases e1
set_option maxHeartbeats 8000000
set_option maxRecDepth 6000
end Go.Proofs.YtkfmheelhinjdaaGreatDoor.W
