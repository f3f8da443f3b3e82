import Derived.Test.YtkfmheelhinjdaaGreatDoorXz
import Derived.Test.YtkfmheelhinjdaaGreatDoorWh
import Derived.SizedLaws
set_option maxRecDepth 1000000
set_option maxHeartbeats 80000000
namespace Go.Proofs.YtkfmheelhinjdaaGreatDoor.W
open _root_.Go.Proofs.Tryz
open Go.RowKit Go.Sort
set_option linter.unusedVariables false
set_option maxHeartbeats 8000000
set_option maxRecDepth 6000
abbrev Tab10 (w : World) : Prop := Lib.TabIs prog w "internal/strconv.uint64pow10" .u64 Lib.pow10Tab
theorem Tab10.keep{w w':World}(h:Tab10 w)(k:Kt nO w w'):Tab10 w':=by
 unfold Tab10 Lib.TabIs World.var? at *
 cases hg : prog.globalNamed "internal/strconv.uint64pow10" with
 | none=>simp[hg] at h
 | some g=>
  simp only[hg,Option.bind_some] at h ⊢;have hlt:g<w.heap.size:=by
   rcases Nat.lt_or_ge g w.heap.size with h'|h'
   ·exact h'
   ·rw[Array.getElem?_eq_none h'] at h;simp at h
  rw[k.block g hlt (fun x=>x)];exact h
structure AuK(w0 W w':World):Prop where
 k:Kt (fun x=>w0.heap.size<=x) W w'
 o:Lib.OthersKept 5 none W w'
theorem GF{w0 W:World}{v:Value}{l:List UInt8}(h:TX w0 W v l)(hl:l.length+20<=140737488355328)(u:Nat)(hu:u<18446744073709551616)(ht:Tab10 W):
  Calls prog 57 #[v,.int .u64 u,.int .i64 10] W fun e w'=>∃ oa oc,∃ l':List UInt8,l'=l ++ Lib.decDigits u/\e=.returned (.slice oa l'.length oc)/\TX w0 w' (.slice oa l'.length oc) l'/\AuK w0 W w':=by
 have hown:W.ownsRow w0.heap.size 5 1 v l.length (Lib.byteCells l):=by
  refine⟨h.own.1,?_⟩;rcases h.own.2 with h0|⟨g,cap,cur,rfl,hb,h3⟩
  ·exact .inl h0
  ·exact .inr ⟨g,cap,cur,rfl,h.new g cap rfl,h3⟩
 have hcon:=Any.internal_strconv_AppendUint_10 apU w0.heap.size l.length u hu v (Lib.byteCells l) W hown h.kp.size hl ht;have HC:=aA (show Calls prog 96 #[v,.int .u64 u,.int .i64 10] W fun e w'=>∃ oa oc,∃ l':List UInt8,l'=l ++ Lib.decDigits u/\e=.returned (.slice oa l'.length oc)/\TX w0 w' (.slice oa l'.length oc) l'/\AuK w0 W w' from by
  refine Calls.mono hcon ?_;rintro e w' ⟨v',rfl,ho,hb,hk⟩;have KK:Kt (fun x=>w0.heap.size<=x) W w':=⟨hb.os,hb.tape,hb.output,hb.size,fun i hi hn=>hb.block i (Nat.lt_of_not_le hn)⟩;have ho2:w'.ownsRow w0.heap.size 5 1 v' (l ++ Lib.decDigits u).length (Lib.byteCells (l ++ Lib.decDigits u)):=by
   rw[List.length_append,show Lib.byteCells (l ++ Lib.decDigits u)=Lib.byteCells l ++ Lib.byteCells (Lib.decDigits u)by simp[Lib.byteCells]];exact ho
  have key:∃ oa oc,v'=.slice oa (l ++ Lib.decDigits u).length oc/\∀ g cap,v'=.slice (some ⟨g,0,none⟩) (l ++ Lib.decDigits u).length cap->w0.heap.size<=g:=by
   rcases ho2.2 with ⟨e1,e2⟩|⟨g,cap,cur,e1,e2,-⟩
   ·exact⟨none,0,by rw[e1,e2],fun g cap e=>by rw[e1] at e;cases e⟩
   ·refine⟨_,_,e1,fun g' cap' e=>?_⟩;rw[e1] at e
    cases e
    exact e2
  obtain⟨oa,oc,rfl,hn⟩:=key;refine⟨oa,oc,_,rfl,rfl,⟨⟨ho2.1,?_⟩,hn,h.kp.trans KK (fun _ _ e=>e) (fun x hx e=>absurd hx (Nat.not_lt.2 e))⟩,KK,hk⟩;rcases ho2.2 with h0|⟨g,cap,cur,e1,e2,e3⟩
  ·exact .inl h0
  ·exact .inr ⟨g,cap,cur,e1,Nat.zero_le _,e3⟩)
 obtain⟨oa,oc,rfl⟩:=nI h.own;clear hcon hown h ht hl;go_enter func57,ntmps57;go_wp2_with fail;refine HC.out.mono ?_;rintro e w' ⟨oa',oc',l',hl',rfl,h1,h2⟩;have H1:=aA h1;have H2:=aA h2;have HL:=aA hl';clear h1 h2 hl';go_wp2_with fail;go_ret;exact⟨oa',oc',l',HL.out,rfl,H1.out,H2.out⟩
theorem GS.bS{w w1 W:World}{e:TypeId}{size:Nat}{v:Value}{n:Nat}{xs:List Value}(h:GS w1 W e size v n xs)(k:Kt nO w w1):GS w W e size v n xs:=
 ⟨h.own,fun g cap e=>Nat.le_trans k.size (h.new g cap e),nT k h.kp⟩
structure SzI(w W:World)(gm:Nat)(D:List Nat)(c:Nat->Nat)(va:Value)(ks:List Nat)(v:Value)(l:List UInt8):Prop where
 mc:MC eU jW W gm D c
 us:UX w W va ks
 tx:TX w W v l
 t0:Tab10 w
section
variable {w W w':World} {gm:Nat} {D ks:List Nat} {c:Nat->Nat} {va v v':Value} {l l':List UInt8}
theorem SzI.keep(h:SzI w W gm D c va ks v l)(k:Kt nO W w'):SzI w w' gm D c va ks v l:=⟨h.mc.kept k id,GS.keep h.us k,GS.keep h.tx k,h.t0⟩
theorem UX.others{w W w':World}{v:Value}{l:List Nat}(h:UX w W v l)(k:∀ (g:Nat) (cur:Array Value),W.heap[g]?=some (Obj.cells cur 27 (0,0))->w'.heap[g]?=some (Obj.cells cur 27 (0,0)))(kp:Kt nO w w'):UX w w' v l:=by
 refine⟨⟨h.own.1,?_⟩,h.new,kp⟩;rcases h.own.2 with h0|⟨g,cap,cur,rfl,hb,hg,h3⟩
 ·exact .inl h0
 ·exact .inr ⟨g,cap,cur,rfl,hb,k g cur hg,h3⟩
theorem xW{w0 W:World}{v:Value}{l:List UInt8}(h:TX w0 W v l){x:Nat}(hx:v.ownBlock=some x):∃ cs,W.heap[x]?=some (.cells cs 5 (0,0)):=by
 rcases h.own.2 with ⟨rfl,_⟩|⟨g,cap,cur,rfl,hb,hg,h3⟩
 ·simp[Value.ownBlock] at hx
 ·simp[Value.ownBlock] at hx;rw[<-hx];exact⟨cur,hg⟩
theorem MC.at{α : Type}{enc : α->Value}{ok : α->Prop}{w:World}{b:Nat}{D:List α}{c : α->Nat}(h:MC enc ok w b D c):∃ es clock,w.heap[b]?=some (.map es clock):=by
 obtain⟨⟨es,clock,hb,_⟩,_⟩:=h;exact⟨es,clock,hb⟩
theorem MC.move{α : Type}{enc : α->Value}{ok : α->Prop}{w w':World}{b:Nat}{D:List α}{c : α->Nat}(h:MC enc ok w b D c)(e:∀ o,w.heap[b]?=some o->w'.heap[b]?=some o):MC enc ok w' b D c:=by
 obtain⟨⟨es,clock,h1,h2⟩,h3,h4⟩:=h;exact⟨⟨es,clock,e _ h1,h2⟩,h3,h4⟩
theorem SzI.push(h:SzI w W gm D c va ks v l)(k:Kt (fun b=>v.ownBlock=some b) W w')(t:TX w w' v' l'):SzI w w' gm D c va ks v' l':=by
 have nb:∀ (b:Nat) (o:Obj),W.heap[b]?=some o->(∀ cs,o≠Obj.cells cs 5 (0,0))->w'.heap[b]?=some o:=fun b o hb hn=>by
  refine(k.block b (Array.getElem?_eq_some_iff.1 hb).1 (fun e=>?_)).trans hb;obtain⟨cs,q⟩:=xW h.tx e;rw[hb] at q
  cases q
  exact hn cs rfl
 obtain⟨es,clock,hb⟩:=MC.at h.mc;refine⟨MC.move h.mc fun o ho=>nb _ _ ho (fun cs e=>?_),UX.others h.us (fun g cur hg=>nb _ _ hg (fun cs e=>?_)) t.kp,t,h.t0⟩
 ·rw[hb] at ho;cases ho;cases e
 ·cases e
theorem SzI.app(h:SzI w W gm D c va ks v l)(k:AuK w W w')(t:TX w w' v' l'):SzI w w' gm D c va ks v' l':=by
 have nb:∀ (b:Nat) (o:Obj),W.heap[b]?=some o->(∀ cs fz,o≠Obj.cells cs 5 fz)->w'.heap[b]?=some o:=fun b o hb hn=>k.o b o hb (by simp) hn
 obtain⟨es,clock,hb⟩:=MC.at h.mc;refine⟨MC.move h.mc fun o ho=>nb _ _ ho (fun cs fz e=>?_),UX.others h.us (fun g cur hg=>nb _ _ hg (fun cs fz e=>?_)) t.kp,t,h.t0⟩
 ·rw[hb] at ho;cases ho;cases e
 ·cases e
end
def jX(s n:Nat):Nat->Nat
 | 0=>s
 | 1=>n
 | _=>s*n%18446744073709551616
def iR(s n:Nat):Nat->List UInt8
 | 0=>[]
 | j + 1=>(iR s n j ++ if j=0 then [] else [32]) ++ Lib.decDigits (jX s n j)
theorem RE(s n:Nat):iR s n 3 ++ [10]=lX s n:=by
 simp[iR,jX,lX]
theorem RD(s n:Nat)(hs:s<18446744073709551616)(hn:n<18446744073709551616)(j:Nat)(hj:j<=3):(iR s n j).length<=63:=by
 have h1:=oH s hs;have h2:=oH n hn;have h3:=oH (s*n%18446744073709551616) (Nat.mod_lt _ (by decide));rcases (show j=0\/j=1\/j=2\/j=3 by omega)with rfl|rfl|rfl|rfl <;> simp[iR,jX] <;> omega
set_option maxHeartbeats 8000000
set_option maxRecDepth 6000
theorem UX.get{w W:World}{oa:Option Addr}{oc n:Nat}{ks:List Nat}(hn:ks.length=n)(h:UX w W (.slice oa n oc) ks)(a:Nat)(ha:a<n):∃ g,oa=some ⟨g,0,none⟩/\W.cell? ⟨g,a,none⟩=some (.int .u64 ((ks.getD a 0:Nat):Int)):=by
 rcases h.own.2 with ⟨_,h0⟩|⟨g,cap,cur,hv,hb,hg,hnc,hcm,hcs,htake⟩
 ·omega
 cases hv
 refine⟨g,rfl,?_⟩;have e1:(ks.map eU)[a]?=some (eU (ks.getD a 0)):=by rw[List.getElem?_map,List.getElem?_eq_getElem (by omega),List.getD_eq_getElem?_getD,List.getElem?_eq_getElem (by omega)];rfl
 rw[<-htake,List.getElem?_take] at e1;split at e1
 ·simp only[World.cell?,hg];rw[<-Array.getElem?_toList,e1];rfl
 ·cases e1
theorem OZ{l:List (Nat×Nat)}{D ks:List Nat}(hD:D.Nodup)(hm:∀ a,a∈D↔a∈dS l)(pm:ks.Perm D)(hp:ks.Pairwise (·<=·)):pA l ks:=by
 refine⟨?_,fun x=>pm.mem_iff.trans (hm x)⟩;have hn:ks.Nodup:=pm.nodup_iff.2 hD;exact hp.imp₂ (fun a b h1 h2=>Nat.lt_of_le_of_ne h1 h2) hn
theorem QU{w W w':World}{v:Value}{l:List UInt8}{nb:Nat}{cs:Array Value}(t:TX w W v l)(k:Kt (fun b=>v.ownBlock=some b) W w')(h:W.heap[nb]?=some (Obj.cells cs 27 (0,0))):w'.heap[nb]?=some (Obj.cells cs 27 (0,0)):=
 (k.block nb (lH h) (fun e=>by
  obtain⟨cs,q⟩:=xW t e;rw[h] at q
  cases q)).trans h
theorem yJ{w W w':World}{nb:Nat}{cs:Array Value}(k:AuK w W w')(h:W.heap[nb]?=some (Obj.cells cs 27 (0,0))):w'.heap[nb]?=some (Obj.cells cs 27 (0,0)):=
 k.o nb _ h (by simp) (fun c fz e=>by cases e)
theorem QT{W:World}{nb s c m:Nat}(hm:m=s*c%18446744073709551616)(h:W.heap[nb]?=some (Obj.cells #[.int .u64 s,.int .u64 c,.int .u64 m] 27 (0,0)))(j:Nat)(hj:j<3):W.cell? ⟨nb,j,none⟩=some (.int .u64 ((jX s c j:Nat):Int)):=by
 rcases (show j=0\/j=1\/j=2 by omega)with rfl|rfl|rfl
 ·simp[World.cell?,h,jX]
 ·simp[World.cell?,h,jX]
 ·simp[World.cell?,h,jX,hm]
theorem OY{s c:Nat}(hs:s<18446744073709551616)(hc:c<18446744073709551616)(j:Nat):jX s c j<18446744073709551616:=by
 unfold jX;split
 ·exact hs
 ·exact hc
 ·exact Nat.mod_lt _ (by decide)
def SzP(w:World)(l:List (Nat×Nat))(e:Ending)(w':World):Prop:=∃ ks,pA l ks/\e=.returned (.string ⟨(iP l ks).toArray⟩)/\Kt nO w w'
theorem zjs(v:Value)(l:List (Nat×Nat))(w:World)(hl:l.length<=2199023255552)(hb:∀ b∈l,jW b.2)(hv:RBk w v l)(ht:Tab10 w):
  Calls prog 17 #[v] w (SzP w l):=by
 have TA:=aA (VI v l w (by omega) hb hv);have T0:=aA ht;have HSL:=aA (show(dS l).length=l.length by simp[dS]);have HB:=aA (show ∀ x∈dS l,x<18446744073709551616 from fun x hx=>by
  obtain⟨b,h1,rfl⟩:=List.mem_map.1 hx;exact hb b h1)
 obtain⟨oa0,oc0,rfl,-⟩:=hv;have HLL:=aA hl;clear hb ht hl;go_enter func17,ntmps17;go_wp2_with fail;refine TA.out.mono ?_;rintro e w1 ⟨gm,D,rfl,gn,hmc,hme,hle,hk1⟩;have DL:=aA (show D.length<8796093022208 from by have:=HSL.out;have:=HLL.out;omega);have SO:=aA (zjU gm D _ w1 hmc DL.out);have ND:=aA hmc.nodup;have ME:=aA hme;have MC1:=aA hmc;have K1:=aA hk1;clear hmc hme hle hk1 gn TA;go_wp2_with fail;refine SO.out.mono ?_;rintro e w2 ⟨oa,oc,ks,rfl,us,pm,srt⟩;have KS:=aA (OZ ND.out ME.out pm srt);have I2:=aA (show SzI w w2 gm D (fun a=>(dS l).count a) (.slice oa ks.length oc) ks (.slice none 0 0) [] from⟨MC1.out.kept us.kp id,GS.bS us K1.out,GS.nil _ _ _ _ (nT K1.out us.kp),T0.out⟩);have KL:=aA (show ks.length<=l.length from by rw[pm.length_eq];have:=HSL.out;have h2:=EJ D (dS l) ND.out (fun x hx=>(ME.out x).1 hx);omega);obtain⟨n,hn⟩:∃ n,ks.length=n:=⟨_,rfl⟩;rw[hn] at I2 KL ⊢;have HN:=aA hn;clear us pm srt SO MC1 hn;go_wp2_with fail;have HL2:=HLL.out;have KL2:=KL.out;go_loopw [4,15] (fun tv iv W=>∃ (a:Nat) (t:List UInt8) (ta:Option Addr) (tc:Nat),a<=n/\iv=.int .i64 a/\tv=.slice ta t.length tc/\Hid (t=iP l (ks.take a)/\SzI w W gm D (fun a=>(dS l).count a) (.slice oa n oc) ks (.slice ta t.length tc) t)) (fun _ iv _=>n-(intOf iv).toNat)
 case atStart=>exact⟨0,[],none,0,Nat.zero_le _,rfl,rfl,aA ⟨rfl,I2.out⟩⟩
 case round=>
  clear I2;obtain⟨a,t,ta,tc,ha,rfl,rfl,HI⟩:=hrel;have TL:=aA (show t.length<=63*n from by
   rw[HI.out.1];have:=zP l (ks.take a) (fun x hx=>HB.out x ((KS.out.2 x).1 (List.mem_of_mem_take hx))) (by omega);rw[List.length_take] at this;omega)
  by_cases hlt:a<n
  ·have hai:(a:Int)<n:=(by omega);obtain⟨kg,rfl,hcell⟩:=UX.get HN.out HI.out.2.us a hlt;obtain⟨s,hs⟩:∃ s,ks.getD a 0=s:=⟨_,rfl⟩;have hsk:ks[a]?=some s:=(by rw[<-hs,List.getD_eq_getElem?_getD,List.getElem?_eq_getElem (by rw[HN.out];exact hlt)];rfl);rw[hs] at hcell;have HS64:=aA (show jW s from HB.out s ((KS.out.2 s).1 (List.mem_of_getElem? hsk)));obtain⟨c,hc⟩:∃ c,(dS l).count s=c:=⟨_,rfl⟩;have hcl:c<=l.length:=(by rw[<-hc,<-HSL.out];exact List.count_le_length);have XT:=aA (show iP l (ks.take (a + 1))=t ++ (iR s c 3 ++ [10])from by rw[List.take_add_one,hsk,RE,<-hc,HI.out.1];exact RI l _ s);have HC:=aA hc;have w1c:IntKind.u64.wrap (c:Int)=c:=(by rw[wrap_u64];omega);have MM:=aA HI.out.2.mc;have s64:=HS64.out;obtain⟨m,hm⟩:=xe (s*c%18446744073709551616);have mulw:IntKind.u64.wrap ((s:Int)*(c:Int))=(m:Int):=(by rw[wrap_u64,hm];simp);have HM:=aA hm;clear hs hsk hc hm;go_wp2_with (at_lookup;refine vS _ rfl _ _ 106 rfl 27 3 nS Tryz.underlying106 (tK _) gm rfl MM.out s HS64.out rfl c HC.out ?_)
   have NB:=aA (nH wr (Obj.cells #[.int .u64 s,.int .u64 c,.int .u64 m] 27 (0,0)));have I3:=aA (HI.out.2.keep ((Kt.refl nO wr).alloc (Obj.cells #[.int .u64 s,.int .u64 c,.int .u64 m] 27 (0,0))));have LPL:=aA (RD s c s64 (by omega));have c64:c<18446744073709551616:=(by omega);generalize wr.alloc (Obj.cells #[.int .u64 s,.int .u64 c,.int .u64 m] 27 (0,0))=W3 at *;generalize wr.heap.size=nb at *;clear mulw hcell w1c;go_loopw [4,30] (fun tv iv W=>∃ (j:Nat) (t':List UInt8) (ta':Option Addr) (tc':Nat),j<=3/\iv=.int .i64 j/\tv=.slice ta' t'.length tc'/\Hid (t'=t ++ iR s c j/\SzI w W gm D (fun a=>(dS l).count a) (.slice (some ⟨kg,0,none⟩) n oc) ks (.slice ta' t'.length tc') t'/\W.heap[nb]?=some (Obj.cells #[.int .u64 s,.int .u64 c,.int .u64 m] 27 (0,0)))) (fun _ iv _=>3-(intOf iv).toNat)
   case atStart=>exact⟨0,t,ta,tc,by omega,rfl,rfl,aA ⟨by simp[iR],I3.out,NB.out⟩⟩
   case round=>
    clear I3 NB HI MM;rename_i wq;obtain⟨j,t',ta',tc',hj,rfl,rfl,HJ⟩:=hrel;have TL':=aA (show t'.length<=63*n+63 from by rw[HJ.out.1,List.length_append];have:=TL.out;have:=LPL.out j hj;omega);have hnl:n<=2199023255552:=(by omega);by_cases hj3:j<3
    ·have hji:(j:Int)<3:=(by omega);have hcell:=QT HM.out HJ.out.2.2 j hj3;obtain⟨x,hx⟩:∃ x,jX s c j=x:=⟨_,rfl⟩;have X64:=aA (show x<18446744073709551616 by rw[<-hx];exact OY s64 c64 j);rw[hx] at hcell;by_cases hj0:j=0
     ·have hj1:¬(0:Int)<(j:Int):=(by omega);have AU:=aA (fun h=>GF HJ.out.2.1.tx h x X64.out (Tab10.keep T0.out HJ.out.2.1.tx.kp));have XJ:=aA (show iR s c (j + 1)=iR s c j ++ Lib.decDigits x by show(_ ++ if j=0 then [] else [32]) ++ Lib.decDigits (jX s c j)=_;rw[if_pos hj0,List.append_nil,hx]);clear hx hj0;go_wp2_with fail;refine(AU.out (by have:=TL'.out;omega)).mono ?_;rintro e w7 ⟨oa7,oc7,l7,hl7,rfl,t7,k7⟩;have F7:=aA (show l7=t ++ iR s c (j + 1)/\SzI w w7 gm D (fun a=>(dS l).count a) (.slice (some ⟨kg,0,none⟩) n oc) ks (.slice oa7 l7.length oc7) l7/\w7.heap[nb]?=some (Obj.cells #[.int .u64 s,.int .u64 c,.int .u64 m] 27 (0,0))from⟨by rw[hl7,XJ.out,HJ.out.1,List.append_assoc],HJ.out.2.1.app k7 t7,yJ k7 HJ.out.2.2⟩);clear hl7 t7 k7 AU;go_wp2_with fail;exact⟨⟨j+1,l7,oa7,oc7,by omega,by simp,rfl,F7⟩,by simp[intOf];omega⟩
     ·have hj1:(0:Int)<(j:Int):=(by omega);obtain⟨g4,cap4,w4,ap4,t4,k4⟩:=TX.push HJ.out.2.1.tx 32 (by have:=TL'.out;omega);have AP4:=aA ap4;have I4:=aA (HJ.out.2.1.push k4 t4);have N4:=aA (QU HJ.out.2.1.tx k4 HJ.out.2.2);have XJ:=aA (show iR s c (j + 1)=(iR s c j ++ [32]) ++ Lib.decDigits x by show(_ ++ if j=0 then [] else [32]) ++ Lib.decDigits (jX s c j)=_;rw[if_neg hj0,hx]);have L4:=aA (show(t' ++ [(32:UInt8)]).length=t'.length + 1 by simp);have AU:=aA (fun h=>GF I4.out.tx h x X64.out (Tab10.keep T0.out I4.out.tx.kp));clear hx hj0 ap4 t4 k4;go_wp2_with (at_builtin;refine Lib.wpList_append_run _ rfl _ _ _ _ rfl (.slice ta' t'.length tc') _ rfl rfl _ _ (AP4.out _) ?_)
      refine(AU.out (by have:=TL'.out;have:=L4.out;omega)).mono ?_;rintro e w7 ⟨oa7,oc7,l7,hl7,rfl,t7,k7⟩;have F7:=aA (show l7=t ++ iR s c (j + 1)/\SzI w w7 gm D (fun a=>(dS l).count a) (.slice (some ⟨kg,0,none⟩) n oc) ks (.slice oa7 l7.length oc7) l7/\w7.heap[nb]?=some (Obj.cells #[.int .u64 s,.int .u64 c,.int .u64 m] 27 (0,0))from⟨by rw[hl7,XJ.out,HJ.out.1];simp,I4.out.app k7 t7,yJ k7 N4.out⟩);clear hl7 t7 k7 AU;go_wp2_with fail;exact⟨⟨j+1,l7,oa7,oc7,by omega,by simp,rfl,F7⟩,by simp[intOf];omega⟩
    ·have hji:¬(j:Int)<3:=(by omega);have hj3e:j=3:=(by omega);obtain⟨g4,cap4,w4,ap4,t4,k4⟩:=TX.push HJ.out.2.1.tx 10 (by have:=TL'.out;omega);have AP4:=aA ap4;have F4:=aA (show t' ++ [(10:UInt8)]=iP l (ks.take (a + 1))/\SzI w w4 gm D (fun a=>(dS l).count a) (.slice (some ⟨kg,0,none⟩) n oc) ks (.slice (some ⟨g4,0,none⟩) (t'.length + 1) cap4) (t' ++ [10])from⟨by rw[XT.out,HJ.out.1,hj3e];simp,HJ.out.2.1.push k4 t4⟩);clear ap4 t4 k4 hj3e hj3 HJ;go_wp2_with (at_builtin;refine Lib.wpList_append_run _ rfl _ _ _ _ rfl (.slice ta' t'.length tc') _ rfl rfl _ _ (AP4.out _) ?_)
     refine⟨⟨a + 1,t' ++ [10],some ⟨g4,0,none⟩,cap4,by omega,by simp,by simp,aA ⟨F4.out.1,?_⟩⟩,by simp[intOf];omega⟩;have:=F4.out.2;simpa using this
  ·have hai:¬(a:Int)<n:=(by omega);have ea:a=n:=(by omega);have ST:=aA (TX.str HI.out.2.tx);have FIN:=aA (show t=iP l ks from by rw[HI.out.1,ea,<-HN.out,List.take_length]);have KF:=aA HI.out.2.tx.kp;have st:=ST.out;clear HI TL;go_wp2_with fail;go_ret;exact⟨ks,KS.out,by rw[<-FIN.out];rfl,KF.out⟩
end Go.Proofs.YtkfmheelhinjdaaGreatDoor.W
namespace Go.Proofs.YtkfmheelhinjdaaGreatDoor.W
open _root_.Go.Proofs.Tryz
open Go.RowKit
set_option linter.unusedVariables false
set_option maxHeartbeats 8000000
set_option maxRecDepth 6000
theorem QW(I:Img)(V:ImV)(w:World)(hI:ImD w I V)(hnp:I.np<=1024):
  Calls prog 48 #[V.p,.func (.func 49) #[] #[]] w (oZ eS lM w ((List.range I.np).map fun i=>cV (I.pg i))):=by
 have HI:=aA hI;obtain⟨-,va,vc,hv1,-⟩:=hI.pgs;obtain⟨n,hn⟩:=xe (I.np);obtain⟨xs,hxs⟩:=xe ((List.range I.np).map fun i=>cV (I.pg i));rw[<-hn] at hv1 hnp;have HN:=aA (show xs.length=n by rw[hxs,hn];simp);have RW:=aA (show ∀ W,Kt nO w W->∀ j,j<n->∃ bl o,∃ p:Pg,va=some ⟨bl,o,none⟩/\xs[j]?=some (cV p)/\lM (cV p)/\jJ W bl o j p from fun W hW j hj=>by
  obtain⟨-,oa,oc,q1,q2⟩:=(HI.out.keep hW).pgs;rw[hv1] at q1
  cases q1
  rcases q2 with q2|⟨bl,o,rfl,hg,hc⟩
  ·rw[<-hn] at q2;omega
  obtain⟨c1,c2⟩:=hc j (by omega);refine⟨bl,o,I.pg j,rfl,?_,⟨c1.kd,c1.od,c1.cl,c1.lv⟩,c2⟩;rw[hxs,List.getElem?_map,List.getElem?_range (by omega)];rfl)
 rw[<-hxs];rw[hv1];clear hxs hI hn HI hv1;have hmk:∀ w,(Instr.makeMap 95 none).run prog w=.ok (.map (some w.heap.size)) (w.alloc (.map #[] 0)):=fun w=>run_makeMap _ w
 have I0:=aA (show TaI eS lM w (w.alloc (.map #[] 0)) w.heap.size xs 0 [] from TaI.start w);go_enter func48,ntmps48;go_wp2_with fail;generalize w.alloc (.map #[] 0)=W1 at *;generalize hgx:w.heap.size=gx at *;clear hmk;go_loopw [11] (fun i W=>∃ a D,a<=n/\i=.int .i64 ((a:Nat):Int)/\Hid (TaI eS lM w W gx xs a D)) (fun i _=>n-(intOf i).toNat)
 case atStart=>exact⟨0,[],Nat.zero_le _,rfl,I0⟩
 case round=>
  clear I0;obtain⟨a,D,ha,rfl,HI⟩:=hrel;by_cases hlt:a<n
  ·have hai:(a:Int)<n:=(by omega);obtain⟨bl,o,p,rfl,hs,h64,hpc⟩:=RW.out wr HI.out.k a hlt;obtain⟨d0,d1,d2,d3,d4,d5,d6,d7,d8,d9,d10⟩:=hpc.c;have KS:=aA (fun W=>EI p W);have HS:=aA hs;have H64:=aA h64;have GXL:=aA (HI.out.m.ltsz);clear hs h64;go_upto_region 5 with fail;have KB:=aA ((Kt.refl nO wr).alloc (aO p));have PB:=aA (nH wr (aO p));have M2:=aA (HI.out.m.kept KB.out (fun x=>x));generalize wr.alloc (aO p)=W2 at *;have AT:=aA (TaI.at HI.out HS.out);obtain⟨c,hc⟩:∃ c,(xs.take a).count (cV p)=c:=⟨_,rfl⟩;have hcn:c<=n:=by
    rw[<-hc];exact Nat.le_trans List.count_le_length (by rw[List.length_take];omega)
   have HC:=aA hc;have hc1:wrap64 ((c:Int)+1)=((c+1:Nat):Int):=(by rw[wrap64];omega);have hc2:IntKind.i64.wrap ((c:Int)+1)=((c+1:Nat):Int):=(by rw[IntKind.wrap_i64];omega);have A1:=aA (AT.out.1.trans (congrArg (·+1) hc));have DL:=aA (show D.length<maxLen from by have:=HI.out.le;unfold maxLen;omega);have NX:=aA (fun W' m k=>TaI.next HI.out HS.out (W':=W') m k);have NG:=aA (show wr.heap.size≠gx from fun e=>by have:=GXL.out;omega);generalize wr.heap.size=gb at *;clear hc hpc d0 d1 d2 d3 d4 d5 d6 d7 d8 d9 d10;refine IC (by kernel_rfl) (fun v=>⟨#[.slice (some ⟨bl,o,none⟩) n vc,.func (.func 49) #[] #[],undef,undef,.map none,.map (some gx),undef,.pointer (some ⟨gb,0,none⟩),.map (some gx),.slice (some ⟨bl,o,none⟩) n vc,.int .i64 n,.int .i64 a,.bool true,.pointer (some ⟨bl,o+a*11,none⟩),dV p,v 0,v 1,v 2,v 3,v 4,v 5,v 6,v 7,u23,undef],[]⟩) (fun i=>[u15,u16,u17,u18,u19,u20,u21,u22].getD i undef) (GmP eS lM gx D (fun x=>(xs.take a).count x) (cV p)) (fun _ _ _=>GmP.trans) (fun i=>(jL eS gx (cV p) (.func (.func 49) #[] #[]) (dV p) c).getD i cU) (fun i=>QG i) 8 rfl (by kernel_rfl) (by kernel_rfl) GmP.drew ?_ ?_
   ·intro i o ho hi v W kW hd;obtain⟨D',M',eD⟩:=(kW.m ⟨D,.inl rfl,M2.out⟩).add;have PW:=aA ((kW.k.block _ (lH PB.out) NG.out).trans PB.out);match i,hi with
    | 0,_=>
     clear hd ho;refine bE rfl ?_;go_wp2_with fail;exact⟨.map (some gx),(by simp[aG]),rfl,GmP.rfl'⟩
    | 1,_=>
     clear hd ho;refine bE rfl ?_;go_wp2_with fail;exact⟨.func (.func 49) #[] #[],(by simp[aG]),rfl,GmP.rfl'⟩
    | 2,_=>
     clear hd ho;obtain⟨c0,c1,c2,c3,c4,c5,c6,c7,c8,c9,c10⟩:=cA PW.out;refine bE rfl ?_;go_wp2_with fail;exact⟨dV p,(by simp[aG]),rfl,GmP.rfl'⟩
    | 3,_=>
     have e1:v 1=.func (.func 49) #[] #[]:=hd 1 (by kernel_rfl);have e2:v 2=dV p:=hd 2 (by kernel_rfl);clear hd ho;refine bE rfl ?_;go_wp2_with (go_at_call 49;(refine(KS.out _).mono ?_);rintro e wX ⟨rfl,h1⟩;have KX:=aA h1;clear h1)
     exact⟨eS (cV p),(by simp[aG,e1,e2]),rfl,GmP.of_kept KX.out⟩
    | 4,_=>
     have e0:v 0=.map (some gx):=hd 0 (by kernel_rfl);have e3:v 3=eS (cV p):=hd 3 (by kernel_rfl);clear hd ho;refine bE rfl ?_;refine vS W rfl (.tmp 15) (.tmp 18) 95 rfl 101 3 tU Tryz.underlying95 (tK W) gx e0 M' (cV p) H64.out e3 c HC.out ?_;go_wp2_with fail;exact⟨eG c,(by simp[aG,Act.put,e0,e3]),rfl,GmP.rfl'⟩
    | 5,_=>
     have e4:v 4=eG c:=hd 4 (by kernel_rfl);clear hd ho;refine bE rfl ?_;go_wp2_with fail;exact⟨eG (c+1),(by simp[aG,e4]),rfl,GmP.rfl'⟩
    | 6,_=>
     have e0:v 0=.map (some gx):=hd 0 (by kernel_rfl);have e3:v 3=eS (cV p):=hd 3 (by kernel_rfl);clear hd ho;refine bE rfl ?_;refine zji W rfl (.tmp 15) (.tmp 18) 95 rfl 101 3 tU Tryz.underlying95 tK gx e0 M' (cV p) H64.out e3 ?_;intro wX v0 st m1 en1 ol1 k1;have GG:=aA (show GmP eS lM gx D (fun x=>(xs.take a).count x) (cV p) W wX from⟨k1,fun _=>⟨_,.inr rfl,eD▸m1⟩,ol1⟩);have EN:=aA en1;clear m1 en1 ol1 k1 M' eD;go_wp2_with fail;exact⟨.tuple #[v0,goInt ((st:Nat):Int)],(by simp[aG,Act.put,e0,e3]),⟨v0,st,rfl,EN.out⟩,GG.out⟩
    | 7,_=>
     obtain⟨v0,st,e6,en⟩:=(show mB eS gx (cV p) (v 6) W from hd 6 (by kernel_rfl));have EN:=aA en;clear hd ho en;refine bE rfl ?_;go_wp2_with fail;exact⟨goInt ((st:Nat):Int),(by simp[aG,e6,goInt]),⟨st,rfl,EN.out⟩,GmP.rfl'⟩
   ·intro o ho v W kW hd;obtain⟨D',M',eD⟩:=(kW.m ⟨D,.inl rfl,M2.out⟩).add;have e0:v 0=.map (some gx):=hd 0 (by decide);have e5:v 5=eG (c+1):=hd 5 (by decide);obtain⟨st,e7,en⟩:=(show mA eS gx (cV p) (v 7) W from hd 7 (by decide));have K9:=aA (nT HI.out.k KB.out);have K8:=aA kW.k;clear hd ho kW;refine bE rfl ?_;refine RU W rfl (.tmp 15) (.tmp 22) (.tmp 20) 95 rfl 101 tU gx st e0 e7 M' (cV p) H64.out en (c+1) (fun y=>(xs.take (a+1)).count y) A1.out AT.out.2 e5 ?_;intro w3 m3 hin k3;have M3:=aA (show MC eS lM w3 gx (bA D (cV p)) (fun y=>(xs.take (a+1)).count y)from by rw[<-eD,uL hin];exact m3);have K3:=aA (zV K9.out (K8.out.trans k3 (fun _ _ e=>e) (fun _ _ e=>e)) HI.out.nw);clear m3 k3 M' eD en hin e7;go_wp2_with fail;refine⟨⟨a+1,_,by omega,by simp,aA (NX.out w3 M3.out K3.out)⟩,by simp[intOf];omega⟩
  ·have hae:a=n:=(by omega);have hai:¬(a:Int)<n:=(by omega);have FIN:=aA (show oZ eS lM w xs (.returned (.map (some gx))) wr from by
    have h:=HI.out;rw[hae,<-HN.out] at h;exact h.done)
   clear HI;go_wp2_with fail;go_ret;exact FIN.out
set_option maxHeartbeats 8000000
set_option maxRecDepth 6000
def eW(kd:Int)(o c l r:Nat):Nat:=if kd=0 then (if r<=4096*2 ^ o then 4096*2 ^ o else 0) else if kd=4 then (if 16*2 ^ c=r then (celN9 c-l)*r else 0) else 0
theorem OH(kd:Int)(o c l r:Nat)(h8:o<=8)(h7:c<=7)(hl:l<=256)(hlc:kd=4->l<=celN9 c)(hr:r<18446744073709551616)(w:World):
  Calls prog 92 #[eS (kd,(o:Int),(c:Int),(l:Int)),.int .u64 r] w fun e w'=>e=.returned (.int .u64 ((eW kd o c l r:Nat):Int))/\Kt nO w w':=by
 have KA:=aA (show Kt nO w (w.alloc (Obj.cells #[.int .i64 kd,.int .i64 o,.int .i64 c,.int .i64 l] 101 (0,0)))from(Kt.refl nO w).alloc _);have BX:=aA (nH w (Obj.cells #[.int .i64 kd,.int .i64 o,.int .i64 c,.int .i64 l] 101 (0,0)));by_cases k0:kd=0
 ·subst k0;obtain⟨q,hq⟩:=xe (4096*2 ^ o);have E:IntKind.u64.wrap ((4096:Int)*2 ^ o)=(q:Int):=by rw[hq];exact vJ h8
  by_cases hle:r<=q
  ·have hli:(r:Int)<=q:=(by omega);have R:=aA (show eW 0 o c l r=q by unfold eW;rw[if_pos rfl,<-hq,if_pos hle]);rw[R.out];clear hq hle;go_enter func92,ntmps92;go_wp2_with fail;go_ret;exact⟨rfl,KA.out⟩
  ·have hli:¬(r:Int)<=q:=(by omega);have R:=aA (show eW 0 o c l r=0 by unfold eW;rw[if_pos rfl,<-hq,if_neg hle]);rw[R.out];clear hq hle;go_enter func92,ntmps92;go_wp2_with fail;go_ret;exact⟨rfl,KA.out⟩
 by_cases k4:kd=4
 ·subst k4;have HCS:=aA (fun W=>FV 4 (o:Int) (l:Int) c h7 W);have HFC:=aA (fun W=>GP 4 (o:Int) c l h7 hl W);obtain⟨z,hz⟩:=xe (16*2 ^ c);obtain⟨cn,hcn⟩:=xe (celN9 c);have hlc':l<=cn:=by rw[hcn];exact hlc rfl
  have cl:=(mP c h7).1;rw[<-hz,<-hcn] at cl;rw[<-hz] at HCS;rw[<-hcn] at HFC;have cb:=mN c h7;rw[<-hcn] at cb;by_cases hzr:z=r
  ·have R:=aA (show eW 4 o c l r=(cn-l)*r by unfold eW;rw[if_neg (by decide),if_pos rfl,<-hz,if_pos hzr,<-hcn]);rw[R.out];subst hzr;have hli:((z:Int) == (z:Int))=true:=(by simp);have e1:IntKind.u64.wrap ((cn:Int)-(l:Int))=((cn-l:Nat):Int):=(by rw[wrap_u64];omega);have hb:(cn-l)*z<=4096:=(by rw[<-cl];exact Nat.mul_le_mul_right _ (Nat.sub_le _ _));obtain⟨d,hd⟩:=xe (cn-l);rw[<-hd] at e1 hb ⊢;have e2:IntKind.u64.wrap ((d:Int)*(z:Int))=((d*z:Nat):Int):=by
    rw[wrap_u64,<-Int.natCast_mul];generalize d*z=y at *;omega
   generalize d*z=y at *;clear hz hcn hlc hlc' cl hd;go_enter func92,ntmps92;go_wp2_with fail;refine(HCS.out _).mono ?_;rintro e w1 ⟨rfl,hk1⟩;have K1:=aA (nT KA.out hk1);have B1:=aA ((hk1.block _ (lH BX.out) (fun x=>x)).trans BX.out);clear hk1;generalize w.heap.size=gb at *;have c0:w1.cell? ⟨gb,0,none⟩=some (.int .i64 4):=(by simp[World.cell?,B1.out]);have c1:w1.cell? ⟨gb,1,none⟩=some (.int .i64 o):=(by simp[World.cell?,B1.out]);have c2:w1.cell? ⟨gb,2,none⟩=some (.int .i64 c):=(by simp[World.cell?,B1.out]);have c3:w1.cell? ⟨gb,3,none⟩=some (.int .i64 l):=(by simp[World.cell?,B1.out]);go_wp2_with fail;refine(HFC.out _).mono ?_;rintro e w2 ⟨rfl,hk2⟩;have K2:=aA (nT K1.out hk2);clear hk2;go_wp2_with fail;go_ret;exact⟨rfl,K2.out⟩
  ·have R:=aA (show eW 4 o c l r=0 by unfold eW;rw[if_neg (by decide),if_pos rfl,<-hz,if_neg hzr]);rw[R.out];have hli:((z:Int) == (r:Int))=false:=(by rw[beq_eq_false_iff_ne];omega);clear hz hcn hlc hlc' cl hzr;go_enter func92,ntmps92;go_wp2_with fail;refine(HCS.out _).mono ?_;rintro e w1 ⟨rfl,hk1⟩;have K1:=aA (nT KA.out hk1);clear hk1;go_wp2_with fail;go_ret;exact⟨rfl,K1.out⟩
 ·have R:=aA (show eW kd o c l r=0 by unfold eW;rw[if_neg k0,if_neg k4]);rw[R.out];have f0:(kd == 0)=false:=by rw[beq_eq_false_iff_ne];exact k0
  have f4:(kd == 4)=false:=by rw[beq_eq_false_iff_ne];exact k4
  clear k0 k4;go_enter func92,ntmps92;go_wp2_with fail;go_ret;exact⟨rfl,KA.out⟩
structure ShOk(s:gO)(o c l:Nat):Prop where
 od:s.2.1=(o:Int)
 cl:s.2.2.1=(c:Int)
 lv:s.2.2.2=(l:Int)
 o8:o<=8
 c7:c<=7
 l256:l<=256
 lc:s.1=4->l<=celN9 c
theorem LU{w:World}{I:Img}{V:ImV}(hI:ImD w I V)(hz:(chk I).1=0)(i:Nat)(hi:i<I.np):∃ o c l,ShOk (cV (I.pg i)) o c l:=by
 obtain⟨r,hS⟩:=kX hz;obtain⟨kd,od,cl,lv,y1,y2,y3,y4,y5,y6,y7,y8,-⟩:=hS.pg i hi;refine⟨od,cl,lv,y3,y5,y7,by have:=hS.k8;omega,y6,y8,fun h4=>?_⟩;obtain⟨-,oa,oc,-,h0|⟨bl,o,-,-,hc⟩⟩:=hI.pgs
 ·omega
 obtain⟨l,g1,g2,g3,-⟩:=rP (hc i hi).1 y5 y6 h4 (kK (lU hz 4 (by decide)) i hi);have:lv=l:=by have:=y7.symm.trans g1;omega
 omega
def fM(r:Nat)(s:gO):Nat:=eW s.1 s.2.1.toNat s.2.2.1.toNat s.2.2.2.toNat r
def dR(I:Img)(r:Nat):Nat:=(((List.range I.np).map fun i=>cV (I.pg i)).map (fM r)).sum
theorem QM(s:gO)(r:Nat){o c l:Nat}(h:ShOk s o c l)(hr:r<18446744073709551616)(w:World):
  Calls prog 92 #[eS s,.int .u64 r] w fun e w'=>e=.returned (.int .u64 ((fM r s:Nat):Int))/\Kt nO w w':=by
 obtain⟨kd,od,cl,lv⟩:=s;obtain⟨e1,e2,e3,o8,c7,l256,lc⟩:=h;dsimp only at e1 e2 e3 lc;subst e1 e2 e3;show Calls _ _ _ _ fun e w'=>e=.returned (.int .u64 ((eW kd (o:Int).toNat (c:Int).toNat (l:Int).toNat r:Nat):Int))/\Kt nO w w'
 rw[Int.toNat_natCast,Int.toNat_natCast,Int.toNat_natCast];exact OH kd o c l r o8 c7 l256 lc hr w
set_option maxHeartbeats 8000000
set_option maxRecDepth 6000
structure UsI(w W:World)(g rx:Nat)(D:List gO)(c:gO->Nat)(done rest:List gO)(S:Nat)(f:gO->Nat):Prop where
 rg:RC eS W g rx D c rest
 pm:D.Perm (done ++ rest)
 s:S=(done.map fun k=>c k*f k).sum
 k:Kt nO w W
theorem UsI.next{w W w1 w2:World}{g rx:Nat}{D:List gO}{c:gO->Nat}{done rest rest':List gO}{S:Nat}{f:gO->Nat}{x:gO}(h:UsI w W g rx D c done rest S f)(hp:rest.Perm (x :: rest'))(hr:RC eS w1 g rx D c rest')(k:Kt nO w w2)(k2:Kt nO w1 w2):UsI w w2 g rx D c (done ++ [x]) rest' (S + c x*f x) f:=
 ⟨hr.kept k2 id id,h.pm.trans (by rw[List.append_assoc];exact List.Perm.append_left _ hp),by rw[h.s,List.map_append,List.sum_append];simp,k⟩
theorem zhq(I:Img)(V:ImV)(r:Nat)(hr:r<18446744073709551616)(w:World)(hI:ImD w I V)(hz:(chk I).1=0):
  Calls prog 51 #[imA I V,.int .u64 r] w fun e w'=>e=.returned (.int .u64 ((dR I r%18446744073709551616:Nat):Int))/\Kt nO w w':=by
 obtain⟨⟨ma,mc,hm⟩,⟨pa,pc,hp⟩,⟨ra,rc,hr'⟩,⟨ha,hc,hh⟩,⟨ta,tc,ht⟩,-⟩:=hI.sl;have IM0:=aA (show ImAt (w.alloc (aE I V)) w.heap.size I V from⟨nH _ _,hI.keep ((Kt.refl _ w).alloc _)⟩);have K0:=aA (show Kt nO w (w.alloc (aE I V))from(Kt.refl _ w).alloc _);obtain⟨_,hS⟩:=kX hz;have hnp:=hS.np1;obtain⟨xs,hxs⟩:=xe ((List.range I.np).map fun i=>cV (I.pg i));have HT:=aA (show Calls prog 48 #[.slice pa I.np pc,.func (.func 49) #[] #[]] (w.alloc (aE I V)) (oZ eS lM (w.alloc (aE I V)) xs)from by rw[hxs,<-hp];exact QW I V _ IM0.out.d hnp);have HX:=aA (show ∀ a∈xs,∃ o c l,ShOk a o c l from fun a h=>by
  rw[hxs] at h;obtain⟨i,hi,rfl⟩:=List.mem_map.1 h;exact LU hI hz i (List.mem_range.1 hi))
 have XL:=aA (show xs.length<=1024 by rw[hxs];simpa using hnp);have HE:=aA (show dR I r=(xs.map (fM r)).sum by rw[hxs];rfl);show Calls prog 51 #[.agg #[.int .u64 I.bS,.int .i64 I.lim,.int .i64 I.ord,.int .i64 I.reg,V.m,V.p,V.r,V.h,V.t],.int .u64 r] w _
 rw[hm,hp,hr',hh,ht];have EW:=aA (show(w.alloc (.cells #[.int .u64 I.bS,.int .i64 I.lim,.int .i64 I.ord,.int .i64 I.reg,.slice ma I.nm mc,.slice pa I.np pc,.slice ra I.no rc,.slice ha I.hd.length hc,.slice ta I.pt.length tc] 38 (0,0)))=w.alloc (aE I V)by rw[<-hm,<-hp,<-hr',<-hh,<-ht]);clear hm hp hr' hh ht hI hS hxs;go_enter func51,ntmps51;go_wp2_with fail;rw[EW.out];refine HT.out.mono ?_;rintro e w1 ⟨gm,D,rfl,gn,hmc,hme,hle,hk1⟩;have K1:=aA (nT K0.out hk1);have M1:=aA hmc;have ND:=aA hmc.nodup;have ME:=aA hme;clear hk1 EW hmc hme hle HT;go_wp2_with (at_range;refine EB _ rfl _ 95 rfl 101 3 Tryz.underlying95 gm rfl M1.out ?_;intro w0 hrg0 hk0 hs0)
 have I0:=aA (show UsI w w0 gm w1.heap.size D (fun a=>xs.count a) [] D 0 (fM r)from⟨hrg0,by simp,rfl,nT K1.out (hk0.mono fun _ _ e=>e.elim)⟩);have RN:=aA (show w.heap.size<=w1.heap.size from K1.out.size);generalize w1.heap.size=rx at *;clear hrg0 hk0 hs0 gn;simp only[Act.put,List.setIfInBounds_toArray,List.set_cons_succ,List.set_cons_zero];go_loopw [5] (fun sv W=>∃ (done rest:List gO) (S:Nat),sv=.int .u64 ((S%18446744073709551616:Nat):Int)/\Hid (UsI w W gm rx D (fun a=>xs.count a) done rest S (fM r))) (fun _ W=>W.rangeLeft gm rx)
 case atStart=>exact⟨[],D,0,rfl,I0⟩
 case round=>
  clear I0 M1;obtain⟨done,rest,S,rfl,HI⟩:=hrel;have HRL:=aA HI.out.rg.left_eq;obtain⟨q,hq⟩:=xe (S%18446744073709551616);have HQ:=aA hq;rw[<-hq];clear hq;go_wp2_with (first|(at_next;refine AO _ rfl _ rfl gm rx rest rfl HI.out.rg ?_ ?_))
  ·intro hd;have FIN:=aA (show dR I r%18446744073709551616=q from by
    rw[HQ.out,HI.out.s,HE.out];have pm:=HI.out.pm;rw[hd,List.append_nil] at pm;rw[<-YH (fun k=>xs.count k*fM r k) pm,FW (fM r) D ND.out xs (fun x hx=>(ME.out x).2 hx)])
   have KF:=aA HI.out.k;clear hd HI HRL;go_wp2_with fail;go_ret;exact⟨by rw[FIN.out];rfl,KF.out⟩
  ·intro kd od cl lv rest' w2 hp hrg hk hzz hen;obtain⟨x,hx⟩:∃ x:gO,x=(kd,od,cl,lv):=⟨_,rfl⟩;rw[<-hx] at hp;obtain⟨o,c,l,hsh⟩:=HX.out x ((ME.out x).1 (HI.out.pm.mem_iff.2 (List.mem_append_right _ (hp.mem_iff.2 List.mem_cons_self))));have RM:=aA (fun W=>QM x r hsh hr W);subst hx;obtain⟨m,hm⟩:∃ m,fM r (kd,od,cl,lv)=m:=⟨_,rfl⟩;obtain⟨n,hn⟩:∃ n,xs.count (kd,od,cl,lv)=n:=⟨_,rfl⟩;rw[hm] at RM;rw[hn] at hen ⊢;have K2:=aA (show Kt nO w w2 from HI.out.k.trans hk (fun _ _ e=>e) (fun y hy e=>by have:=RN.out;omega));have KA:=aA (show Kt nO w2 (w2.alloc (Obj.cells #[.int .i64 kd,.int .i64 od,.int .i64 cl,.int .i64 lv] 101 (0,0)))from(Kt.refl nO w2).alloc _);have NX:=aA (fun W k k2=>show UsI w W gm rx D (fun a=>xs.count a) (done ++ [(kd,od,cl,lv)]) rest' (S + n*m) (fM r)from by rw[<-hn,<-hm];exact HI.out.next hp hrg k k2);have RL:=aA (show rest.length=rest'.length+1 by rw[hp.length_eq];rfl);have n64:n<=1024:=(by rw[<-hn];exact Nat.le_trans List.count_le_length XL.out);have w1c:IntKind.u64.wrap (n:Int)=n:=(by rw[wrap_u64];omega);obtain⟨p,hpp⟩:=xe (n*m%18446744073709551616);have w2c:IntKind.u64.wrap ((n:Int)*(m:Int))=(p:Int):=(by rw[wrap_u64,hpp];simp);obtain⟨q2,hq2⟩:=xe ((S+n*m)%18446744073709551616);have w3c:IntKind.u64.wrap ((q:Int)+(p:Int))=(q2:Int):=by
    rw[wrap_u64,hq2,hpp,HQ.out];generalize n*m=y;omega
   have HQ2:=aA hq2;clear hpp hq2;clear hm hn hp hrg hk hzz hsh;dsimp only[eS] at hen ⊢;go_wp2_with fail;refine(RM.out _).mono ?_;rintro e w5 ⟨rfl,hk5⟩;have K5:=aA (nT KA.out hk5);clear hk5;go_wp2_with fail;refine⟨⟨done ++ [(kd,od,cl,lv)],rest',S + n*m,by rw[HQ2.out],aA (NX.out _ (nT K2.out K5.out) K5.out)⟩,?_⟩;have h1:=(NX.out _ (nT K2.out K5.out) K5.out).rg.left_eq;have h2:=RL.out;have h3:=HRL.out;omega
set_option maxHeartbeats 8000000
set_option maxRecDepth 6000
def fC(k r:Nat):Bool:=iT r && (decide (16<=r) && decide (r<=4096*2 ^ k))
theorem XI(bS lim:Int)(k r:Nat)(h8:k<=8)(hr:r<18446744073709551616)(w:World):
  Calls prog 50 #[.agg #[.int .u64 bS,.int .i64 lim,.int .i64 k],.int .u64 r] w fun e w'=>e=.returned (.bool (fC k r))/\Kt nO w w':=by
 have KA:=aA (show Kt nO w (w.alloc (Obj.cells #[.int .u64 bS,.int .i64 lim,.int .i64 k] 29 (0,0)))from(Kt.refl nO w).alloc _);have IP:=aA (fun W=>zhl r hr W);obtain⟨q,hq⟩:=xe (4096*2 ^ k);have E:IntKind.u64.wrap ((4096:Int)*2 ^ k)=(q:Int):=by rw[hq];exact vJ h8
 have HS:=aA (show fC k r=(iT r && (decide (16<=r) && decide (r<=q)))by rw[hq];rfl);rw[HS.out];obtain⟨b,hb⟩:=xe (iT r);rw[<-hb] at IP ⊢;clear hq hb
 cases b with
 | false=>
  go_enter func50,ntmps50;go_wp2_with fail;refine(IP.out _).mono ?_;rintro e w1 ⟨rfl,rfl⟩;go_wp2_with fail;go_ret;exact⟨rfl,KA.out⟩
 | true=>
  by_cases h16 : 16<=r
  ·have hi:(16:Int)<=(r:Int):=(by omega);rw[decide_eq_true h16];clear h16;go_enter func50,ntmps50;go_wp2_with fail;refine(IP.out _).mono ?_;rintro e w1 ⟨rfl,rfl⟩;go_wp2_with fail;go_ret;exact⟨rfl,KA.out⟩
  ·have hi:¬(16:Int)<=(r:Int):=(by omega);rw[decide_eq_false h16];clear h16;go_enter func50,ntmps50;go_wp2_with fail;refine(IP.out _).mono ?_;rintro e w1 ⟨rfl,rfl⟩;go_wp2_with fail;go_ret;exact⟨rfl,KA.out⟩
def jT(I:Img)(r:Nat):Int:=if (chk I).1=0/\fC I.ord.toNat r=true then (if I.nm=0 then 0 else ((1000*(I.nm-dR I r)/I.nm:Nat):Int)) else -1
theorem DH(I:Img)(V:ImV)(r:Nat)(hr:r<18446744073709551616)(w:World)(hI:ImD w I V)(hU:(chk I).1=0->fC I.ord.toNat r=true->dR I r<=I.nm):
  Calls prog 15 #[imA I V,.int .u64 r] w fun e w'=>e=.returned (.int .i64 (jT I r))/\Kt nO w w':=by
 obtain⟨⟨ma,mc,hm⟩,⟨pa,pc,hp⟩,⟨ra,rc,hr'⟩,⟨ha,hc,hh⟩,⟨ta,tc,ht⟩,-⟩:=hI.sl;have IM0:=aA (show ImAt (w.alloc (aE I V)) w.heap.size I V from⟨nH _ _,hI.keep ((Kt.refl _ w).alloc _)⟩);have K0:=aA (show Kt nO w (w.alloc (aE I V))from(Kt.refl _ w).alloc _);have HCK:=aA (show Calls prog 47 #[.agg #[.int .u64 I.bS,.int .i64 I.lim,.int .i64 I.ord,.int .i64 I.reg,V.m,V.p,V.r,V.h,V.t]] (w.alloc (aE I V)) fun e w'=>e=.returned (.bool ((chk I).1 == 0))/\Kt nO (w.alloc (aE I V)) w' from DT I V (w.alloc (aE I V)) IM0.out.d);have HUS:=aA (show ∀ W,ImD W I V->(chk I).1=0->Calls prog 51 #[.agg #[.int .u64 I.bS,.int .i64 I.lim,.int .i64 I.ord,.int .i64 I.reg,V.m,V.p,V.r,V.h,V.t],.int .u64 r] W fun e w'=>e=.returned (.int .u64 ((dR I r%18446744073709551616:Nat):Int))/\Kt nO W w' from fun W h1 h2=>zhq I V r hr W h1 h2);have VM:=aA hm;show Calls prog 15 #[.agg #[.int .u64 I.bS,.int .i64 I.lim,.int .i64 I.ord,.int .i64 I.reg,V.m,V.p,V.r,V.h,V.t],.int .u64 r] w _
 rw[hm,hp,hr',hh,ht] at HCK HUS ⊢;have EW:=aA (show(w.alloc (.cells #[.int .u64 I.bS,.int .i64 I.lim,.int .i64 I.ord,.int .i64 I.reg,.slice ma I.nm mc,.slice pa I.np pc,.slice ra I.no rc,.slice ha I.hd.length hc,.slice ta I.pt.length tc] 38 (0,0)))=w.alloc (aE I V)by rw[<-hm,<-hp,<-hr',<-hh,<-ht]);have VS:=aA (show V.p=_/\V.r=_/\V.h=_/\V.t=_ from⟨hp,hr',hh,ht⟩);clear hm hp hr' hh ht hI;by_cases hz:(chk I).1=0
 case neg=>
  have f0:((chk I).1 == 0)=false:=by rw[beq_eq_false_iff_ne];exact hz
  have E:=aA (show jT I r = -1 by unfold jT;rw[if_neg (fun h=>hz h.1)]);rw[E.out];rw[f0] at HCK;clear hz f0 hU;go_enter func15,ntmps15;go_wp2_with fail;rw[EW.out];refine HCK.out.mono ?_;rintro e w1 ⟨rfl,hk1⟩;have K1:=aA (nT K0.out hk1);clear hk1 EW;go_wp2_with fail;go_ret;exact⟨rfl,K1.out⟩
 have f0:((chk I).1 == 0)=true:=by rw[beq_iff_eq];exact hz
 rw[f0] at HCK;obtain⟨_,hS⟩:=kX hz;have hk8:=hS.k8;have hord:=hS.ord;obtain⟨k,hk⟩:=xe (I.ord.toNat);rw[<-hk] at hord hk8 hU;have HIS:=aA (fun W=>XI (I.bS:Int) I.lim k r hk8 hr W);have EQ:=aA (show jT I r=if fC k r=true then (if I.nm=0 then 0 else ((1000*(I.nm-dR I r)/I.nm:Nat):Int)) else -1 by
  unfold jT;rw[<-hk];by_cases h:fC k r=true
  ·rw[if_pos ⟨hz,h⟩,if_pos h]
  ·rw[if_neg (fun x=>h x.2),if_neg h])
 have HO:=aA hord;have HZ:=aA hz;have HU:=aA (hU hz);have nm22:I.nm<=4194304:=by have:=hS.nm;have:=hS.np1;omega
 clear hU hz f0 hS hk hord;rw[EQ.out];obtain⟨b,hb⟩:=xe (fC k r);rw[<-hb] at HIS HU ⊢;obtain⟨A,hA⟩:∃ A:Int,A=if b=true then (if I.nm=0 then 0 else ((1000*(I.nm-dR I r)/I.nm:Nat):Int)) else -1:=⟨_,rfl⟩;rw[<-hA];have HA:=aA hA;clear hb EQ hA;go_enter func15,ntmps15;go_wp2_with fail;rw[EW.out];refine HCK.out.mono ?_;rintro e w1 ⟨rfl,hk1⟩;have K1:=aA (nT K0.out hk1);have IM1:=aA (IM0.out.keep hk1);clear hk1 EW;generalize w.alloc (aE I V)=W0 at *;generalize w.heap.size=ib at *;obtain⟨c0,c1,c2,c3,c4,c5,c6,c7,c8⟩:=IM1.out.cells;rw[HO.out] at c2;go_wp2_with fail;refine(HIS.out _).mono ?_;rintro e w2 ⟨rfl,hk2⟩;have K2:=aA (nT K1.out hk2);have IM2:=aA (IM1.out.keep hk2);clear hk2 c0 c1 c2 c3 c4 c5 c6 c7 c8
 cases b with
 | false=>
  have A0:=aA (show A = -1 by rw[HA.out];rfl);go_wp2_with fail;go_ret;exact⟨by rw[A0.out];rfl,K2.out⟩
 | true=>
  obtain⟨c0,c1,c2,c3,c4,c5,c6,c7,c8⟩:=IM2.out.cells;rw[VM.out] at c4;rw[VS.out.1] at c5;rw[VS.out.2.1] at c6;rw[VS.out.2.2.1] at c7;rw[VS.out.2.2.2] at c8;have US:=aA (HUS.out w2 IM2.out.d HZ.out);have hu:=HU.out rfl;obtain⟨nm,hnm⟩:=xe (I.nm);have HA2:=aA (show A=if nm=0 then 0 else ((1000*(nm-dR I r)/nm:Nat):Int)by rw[HA.out,if_pos rfl,hnm]);rw[<-hnm] at nm22 hu c4 US VM;have w1c:IntKind.u64.wrap (nm:Int)=nm:=by rw[wrap_u64];omega
  clear hnm;by_cases h0:nm=0
  ·have f0:((nm:Int) == 0)=true:=(by rw[beq_iff_eq];omega);have A0:=aA (show A=0 by rw[HA2.out,if_pos h0]);clear h0;go_wp2_with fail;go_ret;exact⟨by rw[A0.out];rfl,K2.out⟩
  ·have f0:((nm:Int) == 0)=false:=(by rw[beq_eq_false_iff_ne];omega);obtain⟨u,hu2⟩:=xe (dR I r);rw[<-hu2] at US hu;have A1:=aA (show A=((1000*(nm-u)/nm:Nat):Int)by rw[HA2.out,if_neg h0,hu2]);obtain⟨u',hu'⟩:=xe (u%18446744073709551616);rw[<-hu'] at US;obtain⟨d,hd⟩:=xe (nm-u);have w2c:IntKind.u64.wrap ((nm:Int)-(u':Int))=(d:Int):=(by rw[wrap_u64];omega);have w3c:IntKind.u64.wrap ((1000:Int)*(d:Int))=((1000*d:Nat):Int):=(by rw[wrap_u64];omega);obtain⟨y,hy⟩:=xe (1000*d);rw[<-hy] at w3c;obtain⟨z,hzz⟩:=xe (y/nm);have w4c:(y:Int)/(nm:Int)=z:=(by rw[hzz];simp);have w5c:(y:Int).tdiv (nm:Int)=z:=(by rw[Int.tdiv_eq_ediv_of_nonneg (by omega)];exact w4c);have hz2:z<=y:=(by rw[hzz];exact Nat.div_le_self _ _);have hyb:y<=4194304000:=(by omega);have W6:=aA (show wrap64 (z:Int)=z by rw[wrap64];omega);have w7c:IntKind.u64.wrap (z:Int)=z:=(by rw[wrap_u64];omega);have n0:¬(nm:Int)=0:=(by omega);have A2:=aA (show A=(z:Int)by rw[A1.out,<-hd,<-hy,hzz]);clear h0 hu2 hu' hd hy hzz hu;go_wp2_with fail;refine US.out.mono ?_;rintro e w3 ⟨rfl,hk3⟩;have K3:=aA (nT K2.out hk3);clear hk3 hk8 hr nm22 hz2 hyb w1c;clear w5c;go_wp2_with fail;go_ret;refine⟨?_,K3.out⟩;show Ending.returned (.int .i64 (wrap64 (z:Int)))=_
   rw[W6.out,A2.out]
structure ImZ(I:Img):Prop where
 m:I.nm<=140737488355328
 p:I.np*88<=140737488355328
 r:I.no*24<=140737488355328
 u:∀ i,i<I.no->(I.pr i).length*8<=140737488355328
 h:I.hd.length*8<=140737488355328
 t:I.pt.length*8<=140737488355328
theorem ZM:(prog.info? 99).map (fun i=>(i.zero,i.size,i.bytes))=some (some (dV aQ),11,88):=by kernel_rfl
theorem AB:(prog.info? 27).map (fun i=>(i.zero,i.size,i.bytes))=some (some (.int .u64 0),1,8):=by kernel_rfl
theorem PZ:(prog.info? 3).map (fun i=>(i.zero,i.size,i.bytes))=some (some (.int .i64 0),1,8):=by kernel_rfl
theorem PY:(prog.info? 35).map (fun i=>(i.zero,i.size,i.bytes))=some (some (.slice none 0 0),1,24):=by kernel_rfl
theorem pS(t e:TypeId)(z:Value)(size bytes:Nat)(hu:prog.underlying t=some (.slice e))(hi:(prog.info? e).map (fun i=>(i.zero,i.size,i.bytes))=some (some z,size,bytes))(hz:z.cells.size=size)(n:Nat)(hb:n*bytes<=140737488355328)(hn:n<=9223372036854775807)(s:Nat)(w:World)(hs:s<w.heap.size):
  ∃ w1,(Instr.makeSlice t (.int .i64 n) (.int .i64 n)).run prog w=.ok (.slice (some ⟨w.heap.size,0,none⟩) n n) w1/\XR s w1 (.slice (some ⟨w.heap.size,0,none⟩) n n) n e (n*size) (fun j=>z.cells[j%size]!)/\Kt nO w w1/\w1.heap.size=w.heap.size+1:=by
 obtain⟨i,hi',hzz⟩:=Option.map_eq_some_iff.1 hi;simp only[Prod.mk.injEq] at hzz;have hbi:(i.bytes:Int)*(n:Int)<=281474976710656:=by
  rw[hzz.2.2,show((bytes:Int)*(n:Int))=((n*bytes:Nat):Int)by rw[Int.natCast_mul,Int.mul_comm]];omega
 have hr:=run_make (P:=prog) w t e i z hu hi' hzz.1 .i64 .i64 (n:Int) (n:Int) (by omega) (Int.le_refl _) hbi (by omega);simp only[Int.toNat_natCast] at hr;refine⟨_,hr,⟨_,_,hs,rfl,nH w _,by rw[size_madeCells,hzz.2.1],fun j hj=>?_⟩,(Kt.refl nO w).alloc _,by simp⟩;rw[hzz.2.1];simp only[madeCells];rw[Array.getElem?_map,Array.getElem?_range,if_pos hj,Option.map_some,hz]
theorem XR.row{s w g n pg F}(h:XR s w (.slice (some ⟨g,0,none⟩) n n) n 99 (n*11) F)(e:∀ i,i<n->∀ j,j<11->F (i*11+j)=((pg i:Pg)).fld j):bG w g n pg:=by
 obtain⟨b,cs,h1,h2,h3,h4,h5⟩:=h
 cases h2
 exact⟨cs,h3,h4,fun i hi j hj=>(h5 _ (by omega)).trans (by rw[e i hi j hj])⟩
theorem OD{s w g n pg}(h:bG w g n pg)(hs:s<g):XR s w (.slice (some ⟨g,0,none⟩) n n) n 99 (n*11) fun j=>(pg (j/11)).fld (j%11):=by
 obtain⟨cs,h3,h4,h5⟩:=h;refine⟨g,cs,hs,rfl,h3,h4,fun j hj=>?_⟩;have:=h5 (j/11) (by omega) (j%11) (by omega);rwa [show j/11*11+j%11=j by omega] at this
theorem xZ{w0 W:World}{e:TypeId}{size:Nat}{v:Value}{n:Nat}{xs:List Value}(h:GS w0 W e size v n xs){x:Nat}(hx:v.ownBlock=some x):∃ cs,W.heap[x]?=some (.cells cs e (0,0)):=by
 rcases h.own.2 with ⟨rfl,_⟩|⟨g,cap,cur,rfl,hb,hg,h3⟩
 ·simp[Value.ownBlock] at hx
 ·simp[Value.ownBlock] at hx;rw[<-hx];exact⟨cur,hg⟩
theorem GS.pushW{w0 W:World}{v:Value}{n:Nat}{xs:List Value}(h:GS w0 W 35 1 v n xs)(oa:Option Addr)(l c:Nat)(hn:(n+1)*24<=140737488355328):
  ∃ g cap w',(∀ t,(Builtin.append_ #[34,34] t #[v,.slice (some ⟨W.heap.size,0,none⟩) 1 1]).run prog (W.alloc (.cells #[.slice oa l c] 35))=.ok (.slice (some ⟨g,0,none⟩) (n + 1) cap) w')/\GS w0 w' 35 1 (.slice (some ⟨g,0,none⟩) (n + 1) cap) (n + 1) (xs ++ [.slice oa l c])/\Kt (fun b=>v.ownBlock=some b) W w':=by
 obtain⟨i,hi,hzz⟩:=Option.map_eq_some_iff.1 PY;simp only[Prod.mk.injEq] at hzz;have ka:=(Kt.refl nO W).alloc (.cells #[.slice oa l c] 35);obtain⟨g,cap,w',h1,h2,h5,h6,h7⟩:=(GS.keep h ka).pushM 34 i (.slice none 0 0) 24 Tryz.underlying34 hi hzz.1 hzz.2.1 hzz.2.2 rfl (by decide) ⟨W.heap.size,0,none⟩ 1 1 (by decide) [.slice oa l c] rfl (fun j u hj=>oP (cs:=#[.slice oa l c]) j u hj) (by simp[Value.oneCell']) (by simp only[maxLen];omega) (by omega);exact⟨g,cap,w',h1,h2,ka.trans h6 (fun _ _ e=>e.elim) (fun _ _ e=>e)⟩
structure CpD(s:Nat)(w0 w:World)(I:Img)(V:ImV)(xs:List Value):Prop where
 ok:ImOk I
 m:XR s w V.m I.nm 5 I.nm fun j=>.int .u8 (I.mem j:Int)
 p:XR s w V.p I.np 99 (I.np*11) fun j=>(I.pg (j/11)).fld (j%11)
 r:GS w0 w 35 1 V.r I.no xs
 u:∀ i,i<I.no->XR s w (xs.getD i (.slice none 0 0)) (I.pr i).length 27 (I.pr i).length fun j=>.int .u64 (((I.pr i).getD j 0:Nat):Int)
 h:XR s w V.h I.hd.length 27 I.hd.length fun j=>.int .u64 ((I.hd.getD j 0:Nat):Int)
 t:XR s w V.t I.pt.length 3 I.pt.length fun j=>.int .i64 (I.pt.getD j 0)
theorem CpD.d{s:Nat}{w0 w:World}{I:Img}{V:ImV}{xs:List Value}(h:CpD s w0 w I V xs):ImD w I V:=by
 obtain⟨ok,hm,hp,hr,hu,hh,ht⟩:=h;obtain⟨m,p,r,q,t⟩:=V;obtain⟨bm,cm,a1,rfl,a2,a3,a4⟩:=hm;obtain⟨bp,cp,b1,rfl,b2,b3,b4⟩:=hp;obtain⟨bh,ch,d1,rfl,d2,d3,d4⟩:=hh;obtain⟨bt,ct,e1,rfl,e2,e3,e4⟩:=ht;refine⟨ok.b64,ok.lim,ok.ord,ok.reg,⟨ok.nm,_,_,rfl,.inr ⟨_,_,rfl,lH a2,fun i hi=>⟨ok.mem i hi,?_⟩⟩⟩,?_,⟨ok.np,_,_,rfl,.inr ⟨_,_,rfl,lH b2,fun i hi=>⟨ok.pg i hi,fun j hj=>?_⟩⟩⟩,⟨fun i=>xs.getD i (.slice none 0 0),ok.no,?_⟩,⟨ok.nh,_,_,rfl,.inr ⟨_,_,rfl,lH d2,fun i hi=>⟨ok.hd i hi,?_⟩⟩⟩,⟨ok.nt,_,_,rfl,.inr ⟨_,_,rfl,lH e2,fun i hi=>⟨ok.pt i hi,?_⟩⟩⟩⟩
 ·simp[World.cell?,a2,a4 i hi]
 ·intro a n c e
  cases e
  exact Nat.le_refl _
 ·have:=b4 (i*11+j) (by omega);dsimp only at this;rw[show(i*11+j)/11=i by omega,show(i*11+j)%11=j by omega] at this;simp[World.cell?,b2,this]
 ·rcases hr.own.2 with ⟨h1,h0⟩|⟨g,cap,cur,h1,_,hg,_,_,hs,ht'⟩
  ·have h1':r=.slice none 0 0:=h1;subst h1';exact⟨none,0,by rw[h0],.inl h0⟩
  ·have h1':r=.slice (some ⟨g,0,none⟩) I.no cap:=h1;subst h1';refine⟨_,_,rfl,.inr ⟨g,0,rfl,lH hg,fun i hi=>⟨?_,?_⟩⟩⟩
   ·have hl:=hr.own.1;have e1:xs[i]?=cur.toList[i]?:=(by rw[<-ht',List.getElem?_take_of_lt (by omega)]);have e2:xs[i]?=some (xs.getD i (.slice none 0 0)):=by
     rw[List.getD,List.getElem?_eq_getElem (by omega)];rfl
    rw[e2,Array.getElem?_toList] at e1;simp only[World.cell?,hg,Nat.zero_add,<-e1];rfl
   ·have hx:=hu i hi;obtain⟨b,cs,g1,g2,g3,g4,g5⟩:=hu i hi;rw[g2] at hx;refine⟨ok.pr i hi,_,_,g2,.inr ⟨_,rfl,lH g3,fun j hj=>?_⟩⟩;rw[show(⟨b,0,none⟩:Addr).add j=⟨b,j,none⟩by(unfold Addr.add;simp;intro e;exact e.symm)];exact hx.cell hj
 ·simp[World.cell?,d2,d4 i hi]
 ·simp[World.cell?,e2,e4 i hi]
theorem ImD.ok{w:World}{I:Img}{V:ImV}(h:ImD w I V):ImOk I:=by
 obtain⟨m1,ma,mc,m2,m3⟩:=h.mem;obtain⟨p1,pa,pc,p2,p3⟩:=h.pgs;obtain⟨ws,r1,ra,rc,r2,r3⟩:=h.prs;obtain⟨h1,ha,hc,h2,h3⟩:=h.hds;obtain⟨t1,ta,tc,t2,t3⟩:=h.pts;refine⟨h.b64,h.lim,h.ord,h.reg,m1,p1,r1,h1,t1,fun i hi=>?_,fun i hi=>?_,fun i hi=>?_,fun i hi=>?_,fun i hi=>?_⟩
 ·rcases m3 with e|⟨_,_,_,_,k⟩
  ·omega
  ·exact(k i hi).1
 ·rcases p3 with e|⟨_,_,_,_,k⟩
  ·omega
  ·exact(k i hi).1
 ·rcases r3 with e|⟨_,_,_,_,k⟩
  ·omega
  ·exact(k i hi).2.1
 ·rcases h3 with e|⟨_,_,_,_,k⟩
  ·omega
  ·exact(k i hi).1
 ·rcases t3 with e|⟨_,_,_,_,k⟩
  ·omega
  ·exact(k i hi).1
set_option maxHeartbeats 8000000
set_option maxRecDepth 6000
end Go.Proofs.YtkfmheelhinjdaaGreatDoor.W
namespace Go.Proofs.YtkfmheelhinjdaaGreatDoor.W
open _root_.Go.Proofs.Tryz
open Go.ChangeShapes Go.WideShapes Go.ChangeAt Go.RowKit Go.Deep
set_option linter.unusedVariables false
theorem zhE:prog.cellsOf 99=11:=by kernel_rfl
theorem sK:prog.cellsOf 27=1:=by kernel_rfl
theorem YV:prog.cellsOf 5=1:=by kernel_rfl
theorem sJ:prog.cellsOf 3=1:=by kernel_rfl
theorem zi9:prog.cellsOf 97=4:=by kernel_rfl
theorem sI:prog.cellsOf 35=1:=by kernel_rfl
theorem EP:prog.cellsOf 32=1:=by kernel_rfl
theorem EM:prog.cellsOf 36=1:=by kernel_rfl
theorem EL:prog.cellsOf 33=1:=by kernel_rfl
theorem EK:prog.cellsOf 34=1:=by kernel_rfl
theorem zja:prog.cellsOf 29=3:=by kernel_rfl
theorem zjb:prog.cellsOf 38=9:=by kernel_rfl
theorem qE{w:World}{a:Addr}{v:Value}(h:w.cell? a=some v):∃ b o,a=⟨b,o,none⟩/\b<w.heap.size:=by
 obtain⟨b,o,s⟩:=a;unfold World.cell? at h;split at h
 ·rename_i hh;have hb:=(Array.getElem?_eq_some_iff.1 hh).1
  cases s with
  | none=>exact⟨b,o,rfl,hb⟩
  | some s=>simp at h
 ·cases h
theorem YU{H:Type}{enc:TypeId×Value->H}{W:World}{fuel:Nat}{v:Value}{x:DataW H×List MemPlace}
  (hf:DataW.trod enc prog W 0 (fun _=>true) true fuel 33 [v]=some x):∃ (n:Nat) (pg:Nat->Pg),bY W v n fun bl o i=>PgIn (pg i)/\jJ W bl o i (pg i):=by
 rcases open_slice Tryz.underlying33 hf with ⟨hcs,_⟩|⟨x,len,cap,m,n,D,Pl,hcs,_,hl,hm,hmm,_,hx⟩
 ·simp at hcs;subst hcs;exact⟨0,fun _=>aQ,by omega,none,0,rfl,Or.inl rfl⟩
 ·simp at hcs;subst hcs;simp only[if_true] at hmm;subst hmm;have hml:m<=9223372036854775807:=by unfold maxLen at hm;omega
  rw[zhE] at hx;have key:∀ k,k<len->∃ q:Pg,PgIn q/\∀ j,j<11->W.cell? ((x.add (k*11)).add j)=some (q.fld j):=by
   intro k hk;obtain⟨cs,h1,h2⟩:=hx k (by omega);obtain⟨_,hlen,hcell⟩:=World.cells?_some h1;obtain⟨xs,nn,_,_,_,hxl,hfld⟩:=DataW.trod_struct Tryz.underlying99 h2;match cs,hlen,xs,hxl with
   | [c0,c1,c2,c3,c4,c5,c6,c7,c8,c9,c10],_,[y0,y1,y2,y3,y4,y5,y6,y7],_=>
    have g0:=hfld 0 _ rfl;have g1:=hfld 1 _ rfl;have g2:=hfld 2 _ rfl;have g3:=hfld 3 _ rfl;have g4:=hfld 4 _ rfl;have g5:=hfld 5 _ rfl;have g6:=hfld 6 _ rfl;have g7:=hfld 7 _ rfl;obtain⟨x0,e0,_,w0⟩:=DataW.trod_int Tryz.underlying3 g0;obtain⟨x1,e1,_,w1⟩:=DataW.trod_int Tryz.underlying3 g1;obtain⟨x2,e2,_,w2⟩:=DataW.trod_int Tryz.underlying3 g2;obtain⟨x3,e3,_,w3⟩:=DataW.trod_int Tryz.underlying3 g3;obtain⟨x4,e4,_,w4⟩:=DataW.trod_int Tryz.underlying3 g4;obtain⟨x5,e5,_,w5⟩:=DataW.trod_int Tryz.underlying3 g5;obtain⟨x6,e6,_,w6⟩:=DataW.trod_int Tryz.underlying3 g6;obtain⟨ys,n2,_,_,_,hyl,harr⟩:=DataW.trod_array Tryz.underlying97 g7;match ys,hyl with
    | [z0,z1,z2,z3],_=>
     have a0:=harr 0 (by decide);have a1:=harr 1 (by decide);have a2:=harr 2 (by decide);have a3:=harr 3 (by decide);simp[zi9,sK] at a0 a1 a2 a3;obtain⟨v7,e7,_,w7⟩:=DataW.trod_int Tryz.underlying27 a0;obtain⟨v8,e8,_,w8⟩:=DataW.trod_int Tryz.underlying27 a1;obtain⟨v9,e9,_,w9⟩:=DataW.trod_int Tryz.underlying27 a2;obtain⟨v10,e10,_,w10⟩:=DataW.trod_int Tryz.underlying27 a3;simp[sJ] at e0 e1 e2 e3 e4 e5 e6;simp at e7 e8 e9 e10;subst e0 e1 e2 e3 e4 e5 e6 e7 e8 e9 e10;have b7:=bounds_u64 w7;have b8:=bounds_u64 w8;have b9:=bounds_u64 w9;have b10:=bounds_u64 w10;obtain⟨n7,rfl⟩:=Int.eq_ofNat_of_zero_le b7.1;obtain⟨n8,rfl⟩:=Int.eq_ofNat_of_zero_le b8.1;obtain⟨n9,rfl⟩:=Int.eq_ofNat_of_zero_le b9.1;obtain⟨n10,rfl⟩:=Int.eq_ofNat_of_zero_le b10.1;refine⟨⟨x0,x1,x2,x3,x4,x5,x6,n7,n8,n9,n10⟩,⟨bounds_i64 w0,bounds_i64 w1,bounds_i64 w2,bounds_i64 w3,bounds_i64 w4,bounds_i64 w5,bounds_i64 w6,by show n7<_;omega,by show n8<_;omega,by show n9<_;omega,by show n10<_;omega⟩,fun j hj=>?_⟩;have:=hcell j (by simpa using hj);rw[this];revert j
     apply iG <;> (intros;rfl)
  have hpg:∃ pg:Nat->Pg,∀ k,k<len->PgIn (pg k)/\∀ j,j<11->W.cell? ((x.add (k*11)).add j)=some ((pg k).fld j):=
   ⟨fun k=>if h:k<len then (key k h).choose else aQ,fun k hk=>by simp only[hk,dite_true];exact(key k hk).choose_spec⟩
  obtain⟨pg,hpg⟩:=hpg;refine⟨len,pg,by omega,some x,m,rfl,?_⟩;by_cases h0:len=0
  ·exact Or.inl h0
  ·right
   have g0:=(hpg 0 (by omega)).2 0 (by decide);have e0:(x.add (0*11)).add 0=x:=(by simp[Addr.add]);rw[e0] at g0;obtain⟨bb,o,rfl,hb⟩:=qE g0;refine⟨bb,o,rfl,hb,fun k hk=>⟨(hpg k hk).1,?_⟩⟩;have g:=(hpg k hk).2;have e:∀ j,(Addr.add (Addr.add ⟨bb,o,none⟩ (k*11)) j)=⟨bb,o+k*11+j,none⟩:=fun j=>by rw[Addr.add_lit,Addr.add_lit]
   exact fun j hj=>by rw[<-e j];exact g j hj
theorem YT{H:Type}{enc:TypeId×Value->H}{W:World}{fuel:Nat}{v:Value}{x:DataW H×List MemPlace}
  (h:DataW.trod enc prog W 0 (fun _=>true) true fuel 35 [v]=some x):∃ zs,Src W v zs:=by
 rcases open_slice1 Tryz.underlying35 sK h with ⟨hcs,_⟩|⟨a,len,cap,m,n,V,D,Pl,hcs,_,hl,hm,hmm,_,hx⟩
 ·simp at hcs;exact⟨[],fun i=>by simp,none,0,hcs,Or.inl rfl⟩
 ·simp at hcs;subst hcs;simp only[if_true] at hmm;subst hmm;have key:∀ k,k<len->∃ z:Nat,z<2 ^ 64/\W.cell? (a.add k)=some (.int .u64 z):=fun k hk=>by
   obtain⟨h1,h2⟩:=hx k (by omega);obtain⟨v7,e7,_,w7⟩:=DataW.trod_int Tryz.underlying27 h2;simp at e7;have b7:=bounds_u64 w7;obtain⟨n7,rfl⟩:=Int.eq_ofNat_of_zero_le b7.1;exact⟨n7,by omega,by rw[h1,e7]⟩
  have hz:∃ zs:List Nat,zs.length=len/\∀ k,k<len->zs.getD k 0<2 ^ 64/\W.cell? (a.add k)=some (.int .u64 ((zs.getD k 0:Nat):Int)):=
   ⟨(List.range len).map (fun k=>if h:k<len then (key k h).choose else 0),by simp,fun k hk=>by
    have:((List.range len).map (fun k=>if h:k<len then (key k h).choose else 0)).getD k 0=(key k hk).choose:=by simp[List.getD,hk]
    rw[this];exact(key k hk).choose_spec⟩
  obtain⟨zs,hzl,hz⟩:=hz;refine⟨zs,fun i=>?_,some a,m,by rw[hzl],?_⟩
  ·by_cases e:i<len
   ·exact(hz i e).1
   ·have:zs.getD i 0=0:=by simp only[List.getD];rw[List.getElem?_eq_none (by omega)];rfl
    rw[this];decide
  ·by_cases h0:len=0
   ·exact Or.inl (List.eq_nil_of_length_eq_zero (by omega))
   ·right
    refine⟨a,rfl,?_,fun j hj=>(hz j (by omega)).2⟩;have:=tL (hz 0 (by omega)).2;rwa [GQ] at this
theorem YS{H:Type}{enc:TypeId×Value->H}{W:World}{fuel:Nat}{v:Value}{x:DataW H×List MemPlace}
  (h:DataW.trod enc prog W 0 (fun _=>true) true fuel 32 [v]=some x):∃ (n:Nat) (f:Nat->Nat),bY W v n (tR W f)/\∀ a n c,v=.slice a n c->n<=c:=by
 rcases open_slice1 Tryz.underlying32 YV h with ⟨hcs,_⟩|⟨a,len,cap,m,n,V,D,Pl,hcs,_,hl,hm,hmm,_,hx⟩
 ·simp at hcs;subst hcs;exact⟨0,fun _=>0,⟨by omega,none,0,rfl,Or.inl rfl⟩,fun a n c e=>by cases e;exact Nat.le_refl _⟩
 ·simp at hcs;subst hcs;simp only[if_true] at hmm;subst hmm;have hml:m<=9223372036854775807:=by unfold maxLen at hm;omega
  have key:∀ k,k<len->∃ z:Nat,z<256/\W.cell? (a.add k)=some (.int .u8 z):=fun k hk=>by
   obtain⟨h1,h2⟩:=hx k (by omega);obtain⟨v7,e7,_,w7⟩:=DataW.trod_int Tryz.underlying5 h2;simp at e7;have b7:=bounds_u8 w7;obtain⟨n7,rfl⟩:=Int.eq_ofNat_of_zero_le b7.1;exact⟨n7,by omega,by rw[h1,e7]⟩
  have hz:∃ g:Nat->Nat,∀ k,k<len->g k<256/\W.cell? (a.add k)=some (.int .u8 (g k:Int)):=
   ⟨fun k=>if h:k<len then (key k h).choose else 0,fun k hk=>by simp only[hk,dite_true];exact(key k hk).choose_spec⟩
  obtain⟨g,hz⟩:=hz;have hs:len=0\/∃ bl o,a=⟨bl,o,none⟩/\bl<W.heap.size/\∀ i,i<len->g i<256/\W.cell? ⟨bl,o+i,none⟩=some (.int .u8 (g i:Int)):=by
   by_cases h0:len=0
   ·exact Or.inl h0
   ·right
    have g0:=(hz 0 (by omega)).2;have e0:a.add 0=a:=(by simp[Addr.add]);rw[e0] at g0;obtain⟨bb,o,rfl,hb⟩:=qE g0;refine⟨bb,o,rfl,hb,fun k hk=>⟨(hz k hk).1,?_⟩⟩;have:=(hz k hk).2;rw[Addr.add_lit] at this;exact this
  refine⟨len,g,⟨by omega,_,_,rfl,?_⟩,fun a n c e=>by cases e;exact hl⟩;rcases hs with h0|⟨bl,o,rfl,hb,hc⟩
  ·exact Or.inl h0
  ·exact Or.inr ⟨bl,o,rfl,hb,hc⟩
theorem YR{H:Type}{enc:TypeId×Value->H}{W:World}{fuel:Nat}{v:Value}{x:DataW H×List MemPlace}
  (h:DataW.trod enc prog W 0 (fun _=>true) true fuel 35 [v]=some x):∃ l,bY W v l.length (xL W l):=by
 rcases open_slice1 Tryz.underlying35 sK h with ⟨hcs,_⟩|⟨a,len,cap,m,n,V,D,Pl,hcs,_,hl,hm,hmm,_,hx⟩
 ·simp at hcs;subst hcs;exact⟨[],by simp,none,0,rfl,Or.inl rfl⟩
 ·simp at hcs;subst hcs;simp only[if_true] at hmm;subst hmm;have hml:m<=9223372036854775807:=by unfold maxLen at hm;omega
  have key:∀ k,k<len->∃ z:Nat,z<18446744073709551616/\W.cell? (a.add k)=some (.int .u64 z):=fun k hk=>by
   obtain⟨h1,h2⟩:=hx k (by omega);obtain⟨v7,e7,_,w7⟩:=DataW.trod_int Tryz.underlying27 h2;simp at e7;have b7:=bounds_u64 w7;obtain⟨n7,rfl⟩:=Int.eq_ofNat_of_zero_le b7.1;exact⟨n7,by omega,by rw[h1,e7]⟩
  have hz:∃ g:Nat->Nat,∀ k,k<len->g k<18446744073709551616/\W.cell? (a.add k)=some (.int .u64 (g k:Int)):=
   ⟨fun k=>if h:k<len then (key k h).choose else 0,fun k hk=>by simp only[hk,dite_true];exact(key k hk).choose_spec⟩
  obtain⟨g,hz⟩:=hz;have hs:len=0\/∃ bl o,a=⟨bl,o,none⟩/\bl<W.heap.size/\∀ i,i<len->g i<18446744073709551616/\W.cell? ⟨bl,o+i,none⟩=some (.int .u64 (g i:Int)):=by
   by_cases h0:len=0
   ·exact Or.inl h0
   ·right
    have g0:=(hz 0 (by omega)).2;have e0:a.add 0=a:=(by simp[Addr.add]);rw[e0] at g0;obtain⟨bb,o,rfl,hb⟩:=qE g0;refine⟨bb,o,rfl,hb,fun k hk=>⟨(hz k hk).1,?_⟩⟩;have:=(hz k hk).2;rw[Addr.add_lit] at this;exact this
  have hg:∀ i,i<len->((List.range len).map g).getD i 0=g i:=fun i hi=>by simp[List.getD,hi]
  have hn:((List.range len).map g).length=len:=by simp
  refine⟨(List.range len).map g,by rw[hn];omega,some a,m,by rw[hn],?_⟩;rw[hn];rcases hs with h0|⟨bl,o,rfl,hb,hc⟩
  ·exact Or.inl h0
  ·exact Or.inr ⟨bl,o,rfl,hb,fun i hi=>by unfold xL;rw[hg i hi];exact hc i hi⟩
theorem YQ{H:Type}{enc:TypeId×Value->H}{W:World}{fuel:Nat}{v:Value}{x:DataW H×List MemPlace}
  (h:DataW.trod enc prog W 0 (fun _=>true) true fuel 36 [v]=some x):∃ l,bY W v l.length (InC W l):=by
 rcases open_slice1 Tryz.underlying36 sJ h with ⟨hcs,_⟩|⟨a,len,cap,m,n,V,D,Pl,hcs,_,hl,hm,hmm,_,hx⟩
 ·simp at hcs;subst hcs;exact⟨[],by simp,none,0,rfl,Or.inl rfl⟩
 ·simp at hcs;subst hcs;simp only[if_true] at hmm;subst hmm;have hml:m<=9223372036854775807:=by unfold maxLen at hm;omega
  have key:∀ k,k<len->∃ z:Int,N64 z/\W.cell? (a.add k)=some (.int .i64 z):=fun k hk=>by
   obtain⟨h1,h2⟩:=hx k (by omega);obtain⟨v7,e7,_,w7⟩:=DataW.trod_int Tryz.underlying3 h2;simp at e7;exact⟨v7,bounds_i64 w7,by rw[h1,e7]⟩
  have hz:∃ g:Nat->Int,∀ k,k<len->N64 (g k)/\W.cell? (a.add k)=some (.int .i64 (g k)):=
   ⟨fun k=>if h:k<len then (key k h).choose else 0,fun k hk=>by simp only[hk,dite_true];exact(key k hk).choose_spec⟩
  obtain⟨g,hz⟩:=hz;have hs:len=0\/∃ bl o,a=⟨bl,o,none⟩/\bl<W.heap.size/\∀ i,i<len->N64 (g i)/\W.cell? ⟨bl,o+i,none⟩=some (.int .i64 (g i)):=by
   by_cases h0:len=0
   ·exact Or.inl h0
   ·right
    have g0:=(hz 0 (by omega)).2;have e0:a.add 0=a:=(by simp[Addr.add]);rw[e0] at g0;obtain⟨bb,o,rfl,hb⟩:=qE g0;refine⟨bb,o,rfl,hb,fun k hk=>⟨(hz k hk).1,?_⟩⟩;have:=(hz k hk).2;rw[Addr.add_lit] at this;exact this
  have hg:∀ i,i<len->((List.range len).map g).getD i 0=g i:=fun i hi=>by simp[List.getD,hi]
  have hn:((List.range len).map g).length=len:=by simp
  refine⟨(List.range len).map g,by rw[hn];omega,some a,m,by rw[hn],?_⟩;rw[hn];rcases hs with h0|⟨bl,o,rfl,hb,hc⟩
  ·exact Or.inl h0
  ·exact Or.inr ⟨bl,o,rfl,hb,fun i hi=>by unfold InC;rw[hg i hi];exact hc i hi⟩
theorem YP{H:Type}{enc:TypeId×Value->H}{W:World}{fuel:Nat}{v:Value}{x:DataW H×List MemPlace}
  (hf:DataW.trod enc prog W 0 (fun _=>true) true fuel 34 [v]=some x):∃ (n:Nat) (zs:Nat->List Nat) (ws:Nat->Value),bY W v n fun bl o i=>W.cell? ⟨bl,o+i,none⟩=some (ws i)/\Src W (ws i) (zs i):=by
 rcases open_slice1 Tryz.underlying34 sI hf with ⟨hcs,_⟩|⟨x,len,cap,m,n,V,D,Pl,hcs,_,hl,hm,hmm,_,hx⟩
 ·simp at hcs;subst hcs;exact⟨0,fun _=>[],fun _=>.slice none 0 0,by omega,none,0,rfl,Or.inl rfl⟩
 ·simp at hcs;subst hcs;simp only[if_true] at hmm;subst hmm;have hml:m<=9223372036854775807:=by unfold maxLen at hm;omega
  have key:∀ k,k<len->∃ zs,Src W (V k) zs:=fun k hk=>YT (hx k (by omega)).2
  refine⟨len,fun k=>if h:k<len then (key k h).choose else [],V,by omega,some x,m,rfl,?_⟩;by_cases h0:len=0
  ·exact Or.inl h0
  ·right
   have g0:=(hx 0 (by omega)).1;have e0:x.add 0=x:=(by simp[Addr.add]);rw[e0] at g0;obtain⟨bb,o,rfl,hb⟩:=qE g0;refine⟨bb,o,rfl,hb,fun k hk=>⟨?_,?_⟩⟩
   ·have:=(hx k (by omega)).1;rw[Addr.add_lit] at this;exact this
   ·simp only[hk,dite_true];exact(key k hk).choose_spec
theorem image_of{H:Type}{enc:TypeId×Value->H}{W:World}{bS:Nat}{v:Value}{d:DataW H}{p:List MemPlace}(hok:Value.okWide prog W .any bS 38 v)
  (h:DataW.Trod enc prog W 0 (fun _=>true) true 38 v d p):∃ I V,v=imA I V/\ImD W I V:=by
 obtain⟨cs,rfl,_⟩:=okWide_struct Tryz.underlying38 hok;obtain⟨fuel,hf⟩:=h;obtain⟨xs,nn,_,_,hlen,hxl,hfld⟩:=DataW.trod_struct Tryz.underlying38 hf;obtain⟨l⟩:=cs;simp only[Value.cells] at hlen hfld;rw[zjb] at hlen;match l,hlen,xs,hxl with
 | [c0,c1,c2,c3,c4,c5,c6,c7,c8],_,[y0,y1,y2,y3,y4,y5,y6],_=>
  have g0:=hfld 0 _ rfl;have g1:=hfld 1 _ rfl;have g2:=hfld 2 _ rfl;have g3:=hfld 3 _ rfl;have g4:=hfld 4 _ rfl;have g5:=hfld 5 _ rfl;have g6:=hfld 6 _ rfl;simp[zja] at g0;simp[sJ] at g1;simp[EP] at g2;simp[EL] at g3;simp[EK] at g4;simp[sI] at g5;simp[EM] at g6;obtain⟨xs0,n0,_,_,_,hxl0,hf0⟩:=DataW.trod_struct Tryz.underlying29 g0;match xs0,hxl0 with
  | [z0,z1,z2],_=>
   have k0:=hf0 0 _ rfl;have k1:=hf0 1 _ rfl;have k2:=hf0 2 _ rfl;simp[sK] at k0;simp[sJ] at k1 k2;obtain⟨x0,e0,_,w0⟩:=DataW.trod_int Tryz.underlying27 k0;obtain⟨x1,e1,_,w1⟩:=DataW.trod_int Tryz.underlying3 k1;obtain⟨x2,e2,_,w2⟩:=DataW.trod_int Tryz.underlying3 k2;obtain⟨x3,e3,_,w3⟩:=DataW.trod_int Tryz.underlying3 g1;simp at e0 e1 e2 e3;subst e0 e1 e2 e3;have b0:=bounds_u64 w0;obtain⟨b,rfl⟩:=Int.eq_ofNat_of_zero_le b0.1;obtain⟨nm,mem,hm,hmc⟩:=YS g2;obtain⟨np,pg,hp⟩:=YU g3;obtain⟨no,pr,hr⟩:=YP g4;obtain⟨hd,hh⟩:=YR g5;obtain⟨pt,ht⟩:=YQ g6;exact⟨⟨b,x1,x2,x3,nm,mem,np,pg,no,pr,hd,pt⟩,⟨c4,c5,c6,c7,c8⟩,rfl,⟨by show b<_;omega,bounds_i64 w1,bounds_i64 w2,bounds_i64 w3,hm,hmc,hp,hr,hh,ht⟩⟩
theorem oC{H:Type}{enc:TypeId×Value->H}{W:World}{t e:TypeId}(hu:prog.underlying t=some (.slice e)){fuel:Nat}{v:Value}{x:DataW H×List MemPlace}
  (hf:DataW.trod enc prog W 0 (fun _=>true) true fuel t [v]=some x) (hw:∀ k∈x.1.weights prog t,k<=reachBytes) {a:Option Addr} {n c:Nat} (hv:v=.slice a n c):n*prog.bytesOf e<=reachBytes:=by
 rcases open_slice hu hf with ⟨hcs,_⟩|⟨x',len,cap,m,nn,D,Pl,hcs,_,hl,hm,hmm,hx,_⟩
 ·simp at hcs;rw[hcs] at hv
  cases hv
  omega
 ·simp at hcs;rw[hcs] at hv
  cases hv
  subst hx;have:=hw ((n+(m-n))*prog.bytesOf e) (by simp[DataW.weights,hu]);exact Nat.le_trans (Nat.mul_le_mul_right _ (Nat.le_add_right n (m-n))) this
theorem DZ{H:Type}{P:Program}{e:TypeId} : ∀ {l:List (DataW H)} {d:DataW H},d∈l->∀ k∈d.weights P e,k∈DataW.weightsAll P e l
 | x :: l,d,h,k,hk=>by
  simp only[DataW.weightsAll,List.mem_append];rcases List.mem_cons.1 h with rfl|h
  ·exact .inl hk
  ·exact .inr (DZ h k hk)
theorem JA:prog.bytesOf 5=1:=by kernel_rfl
theorem IZ:prog.bytesOf 99=88:=by kernel_rfl
theorem IY:prog.bytesOf 35=24:=by kernel_rfl
theorem yC:prog.bytesOf 27=8:=by kernel_rfl
theorem MT:prog.bytesOf 3=8:=by kernel_rfl
theorem IX{H:Type}{enc:TypeId×Value->H}{W:World}{fuel:Nat}{v:Value}{x:DataW H×List MemPlace}
  (hf:DataW.trod enc prog W 0 (fun _=>true) true fuel 34 [v]=some x) (hw:∀ k∈x.1.weights prog 34,k<=reachBytes) {n:Nat} {ws:Nat->Value} {zs:Nat->List Nat}
  (hs:bY W v n fun bl o i=>W.cell? ⟨bl,o+i,none⟩=some (ws i)/\Src W (ws i) (zs i)):∀ i,i<n->(zs i).length*8<=reachBytes:=by
 intro i hi;obtain⟨-,oa,oc,hv,hc⟩:=hs;rcases hc with hc|⟨bl,o,rfl,-,hc⟩
 ·omega
 obtain⟨h1,h2⟩:=hc i hi;rcases open_slice1 Tryz.underlying34 sI hf with ⟨hcs,_⟩|⟨x',len,cap,m,nn,V,D,Pl,hcs,_,hl,hm,hmm,hx,hcell⟩
 ·simp at hcs;rw[hcs] at hv
  cases hv
 ·simp at hcs;rw[hcs] at hv
  cases hv
  simp only[if_true] at hmm;subst hmm;obtain⟨g1,g2⟩:=hcell i (by omega);rw[Addr.add_lit,h1] at g1;have ev:V i=ws i:=(Option.some.inj g1).symm;rw[ev] at g2;obtain⟨-,so,sc,hws,-⟩:=h2;have hwd:∀ k∈(D i).weights prog 35,k<=reachBytes:=fun k hk=>hw k (by
   rw[hx];simp only[DataW.weights,Tryz.underlying34,List.mem_cons,List.mem_append];exact .inr (.inl (DZ (List.mem_map.2 ⟨i,List.mem_range.2 hi,rfl⟩) k hk)))
  have:=oC Tryz.underlying35 g2 hwd hws;rwa [yC] at this
theorem image_sized{H:Type}{enc:TypeId×Value->H}{W:World}{d:DataW H}{p:List MemPlace}{I:Img}{V:ImV}
  (h:DataW.Trod enc prog W 0 (fun _=>true) true 38 (imA I V) d p) (hw:∀ k∈d.weights prog 38,k<=reachBytes) (hI:ImD W I V):ImZ I:=by
 obtain⟨fuel,hf⟩:=h;obtain⟨xs,nn,-,hd,hlen,hxl,hfld⟩:=DataW.trod_struct Tryz.underlying38 hf;simp only[Value.cells] at hfld;match xs,hxl with
 | [y0,y1,y2,y3,y4,y5,y6],_=>
  have g2:=hfld 2 _ rfl;have g3:=hfld 3 _ rfl;have g4:=hfld 4 _ rfl;have g5:=hfld 5 _ rfl;have g6:=hfld 6 _ rfl;simp[EP] at g2;simp[EL] at g3;simp[EK] at g4;simp[sI] at g5;simp[EM] at g6;have e:d=.agg [y0.1,y1.1,y2.1,y3.1,y4.1,y5.1,y6.1]:=by
   have:=congrArg Prod.fst hd;simpa using this
  subst e;have hw':∀ k∈DataW.weightsEach prog [29,3,32,33,34,35,36] [y0.1,y1.1,y2.1,y3.1,y4.1,y5.1,y6.1],k<=reachBytes:=fun k hk=>hw k (by
   simp only[DataW.weights,Tryz.underlying38];exact hk)
  have w2:∀ k∈y2.1.weights prog 32,k<=reachBytes:=fun k hk=>hw' k (DataW.weights_mem_each (j:=2) rfl rfl k hk)
  have w3:∀ k∈y3.1.weights prog 33,k<=reachBytes:=fun k hk=>hw' k (DataW.weights_mem_each (j:=3) rfl rfl k hk)
  have w4:∀ k∈y4.1.weights prog 34,k<=reachBytes:=fun k hk=>hw' k (DataW.weights_mem_each (j:=4) rfl rfl k hk)
  have w5:∀ k∈y5.1.weights prog 35,k<=reachBytes:=fun k hk=>hw' k (DataW.weights_mem_each (j:=5) rfl rfl k hk)
  have w6:∀ k∈y6.1.weights prog 36,k<=reachBytes:=fun k hk=>hw' k (DataW.weights_mem_each (j:=6) rfl rfl k hk)
  obtain⟨⟨ma,mc,hm⟩,⟨pa,pc,hp⟩,⟨ra,rc,hr⟩,⟨ha,hc,hh⟩,⟨ta,tc,ht⟩,-⟩:=hI.sl;obtain⟨ws,hps⟩:=hI.prs;have s2:=oC Tryz.underlying32 g2 w2 hm;have s3:=oC Tryz.underlying33 g3 w3 hp;have s4:=oC Tryz.underlying34 g4 w4 hr;have s5:=oC Tryz.underlying35 g5 w5 hh;have s6:=oC Tryz.underlying36 g6 w6 ht;have s7:=IX g4 w4 hps;rw[JA] at s2;rw[IZ] at s3;rw[IY] at s4;rw[yC] at s5;rw[MT] at s6;have hr47:=reachBytes_lt;exact⟨by omega,by omega,by omega,fun i hi=>by have:=s7 i hi;omega,by omega,by omega⟩
end Go.Proofs.YtkfmheelhinjdaaGreatDoor.W
