import Derived.Test.YtkfmheelhinjdaaGreatDoorWg
import Derived.Test.YtkfmheelhinjdaaGreatDoorWi
set_option maxRecDepth 1000000
set_option maxHeartbeats 80000000
namespace Go.Proofs.YtkfmheelhinjdaaGreatDoor.W
open _root_.Go.Proofs.Tryz
open Go.RowKit Go.Sort
set_option linter.unusedVariables false
set_option maxHeartbeats 8000000
set_option maxRecDepth 6000
abbrev Tab10 (w : World) : Prop := Lib.TabIs prog w "internal/strconv.uint64pow10" .u64 Lib.pow10Tab
theorem Tab10.keep{w w':World}(h:Tab10 w)(k:Kt nO w w'):Tab10 w':=by
 unfold Tab10 Lib.TabIs World.var? at *
 cases hg : prog.globalNamed "internal/strconv.uint64pow10" with
 | none=>simp[hg] at h
 | some g=>
  simp only[hg,Option.bind_some] at h ⊢;have hlt:g<w.heap.size:=by
   rcases Nat.lt_or_ge g w.heap.size with h'|h'
   ·exact h'
   ·rw[Array.getElem?_eq_none h'] at h;simp at h
  rw[k.block g hlt (fun x=>x)];exact h
structure AuK(w0 W w':World):Prop where
 k:Kt (fun x=>w0.heap.size<=x) W w'
 o:Lib.OthersKept 5 none W w'
theorem BA{w0 W:World}{v:Value}{l:List UInt8}(h:TX w0 W v l)(hl:l.length+20<=140737488355328)(u:Nat)(hu:u<18446744073709551616)(ht:Tab10 W):
  Calls prog 57 #[v,.int .u64 u,.int .i64 10] W fun e w'=>∃ oa oc,∃ l':List UInt8,l'=l ++ Lib.decDigits u/\e=.returned (.slice oa l'.length oc)/\TX w0 w' (.slice oa l'.length oc) l'/\AuK w0 W w':=by
 have hown:W.ownsRow w0.heap.size 5 1 v l.length (Lib.byteCells l):=by
  refine⟨h.own.1,?_⟩;rcases h.own.2 with h0|⟨g,cap,cur,rfl,hb,h3⟩
  ·exact .inl h0
  ·exact .inr ⟨g,cap,cur,rfl,h.new g cap rfl,h3⟩
 have hcon:=Any.internal_strconv_AppendUint_10 apU w0.heap.size l.length u hu v (Lib.byteCells l) W hown h.kp.size hl ht;have HC:=aA (show Calls prog 96 #[v,.int .u64 u,.int .i64 10] W fun e w'=>∃ oa oc,∃ l':List UInt8,l'=l ++ Lib.decDigits u/\e=.returned (.slice oa l'.length oc)/\TX w0 w' (.slice oa l'.length oc) l'/\AuK w0 W w' from by
  refine Calls.mono hcon ?_;rintro e w' ⟨v',rfl,ho,hb,hk⟩;have KK:Kt (fun x=>w0.heap.size<=x) W w':=⟨hb.os,hb.tape,hb.output,hb.size,fun i hi hn=>hb.block i (Nat.lt_of_not_le hn)⟩;have ho2:w'.ownsRow w0.heap.size 5 1 v' (l ++ Lib.decDigits u).length (Lib.byteCells (l ++ Lib.decDigits u)):=by
   rw[List.length_append,show Lib.byteCells (l ++ Lib.decDigits u)=Lib.byteCells l ++ Lib.byteCells (Lib.decDigits u)by simp[Lib.byteCells]];exact ho
  have key:∃ oa oc,v'=.slice oa (l ++ Lib.decDigits u).length oc/\∀ g cap,v'=.slice (some ⟨g,0,none⟩) (l ++ Lib.decDigits u).length cap->w0.heap.size<=g:=by
   rcases ho2.2 with ⟨e1,e2⟩|⟨g,cap,cur,e1,e2,-⟩
   ·exact⟨none,0,by rw[e1,e2],fun g cap e=>by rw[e1] at e;cases e⟩
   ·refine⟨_,_,e1,fun g' cap' e=>?_⟩;rw[e1] at e
    cases e
    exact e2
  obtain⟨oa,oc,rfl,hn⟩:=key;refine⟨oa,oc,_,rfl,rfl,⟨⟨ho2.1,?_⟩,hn,h.kp.trans KK (fun _ _ e=>e) (fun x hx e=>absurd hx (Nat.not_lt.2 e))⟩,KK,hk⟩;rcases ho2.2 with h0|⟨g,cap,cur,e1,e2,e3⟩
  ·exact .inl h0
  ·exact .inr ⟨g,cap,cur,e1,Nat.zero_le _,e3⟩)
 obtain⟨oa,oc,rfl⟩:=qZ h.own;clear hcon hown h ht hl;go_enter func57,ntmps57;go_wp2_with fail;refine HC.out.mono ?_;rintro e w' ⟨oa',oc',l',hl',rfl,h1,h2⟩;have H1:=aA h1;have H2:=aA h2;have HL:=aA hl';clear h1 h2 hl';go_wp2_with fail;go_ret;exact⟨oa',oc',l',HL.out,rfl,H1.out,H2.out⟩
theorem GS.bS{w w1 W:World}{e:TypeId}{size:Nat}{v:Value}{n:Nat}{xs:List Value}(h:GS w1 W e size v n xs)(k:Kt nO w w1):GS w W e size v n xs:=
 ⟨h.own,fun g cap e=>Nat.le_trans k.size (h.new g cap e),nT k h.kp⟩
structure SzI(w W:World)(gm:Nat)(D:List Nat)(c:Nat->Nat)(va:Value)(ks:List Nat)(v:Value)(l:List UInt8):Prop where
 mc:MC eU gI W gm D c
 us:UX w W va ks
 tx:TX w W v l
 t0:Tab10 w
section
variable {w W w':World} {gm:Nat} {D ks:List Nat} {c:Nat->Nat} {va v v':Value} {l l':List UInt8}
theorem SzI.keep(h:SzI w W gm D c va ks v l)(k:Kt nO W w'):SzI w w' gm D c va ks v l:=⟨h.mc.kept k id,GS.keep h.us k,GS.keep h.tx k,h.t0⟩
theorem UX.others{w W w':World}{v:Value}{l:List Nat}(h:UX w W v l)(k:∀ (g:Nat) (cur:Array Value),W.heap[g]?=some (Obj.cells cur 27 (0,0))->w'.heap[g]?=some (Obj.cells cur 27 (0,0)))(kp:Kt nO w w'):UX w w' v l:=by
 refine⟨⟨h.own.1,?_⟩,h.new,kp⟩;rcases h.own.2 with h0|⟨g,cap,cur,rfl,hb,hg,h3⟩
 ·exact .inl h0
 ·exact .inr ⟨g,cap,cur,rfl,hb,k g cur hg,h3⟩
theorem vN{w0 W:World}{v:Value}{l:List UInt8}(h:TX w0 W v l){x:Nat}(hx:v.ownBlock=some x):∃ cs,W.heap[x]?=some (.cells cs 5 (0,0)):=by
 rcases h.own.2 with ⟨rfl,_⟩|⟨g,cap,cur,rfl,hb,hg,h3⟩
 ·simp[Value.ownBlock] at hx
 ·simp[Value.ownBlock] at hx;rw[<-hx];exact⟨cur,hg⟩
theorem MC.at{α : Type}{enc : α->Value}{ok : α->Prop}{w:World}{b:Nat}{D:List α}{c : α->Nat}(h:MC enc ok w b D c):∃ es clock,w.heap[b]?=some (.map es clock):=by
 obtain⟨⟨es,clock,hb,_⟩,_⟩:=h;exact⟨es,clock,hb⟩
theorem MC.move{α : Type}{enc : α->Value}{ok : α->Prop}{w w':World}{b:Nat}{D:List α}{c : α->Nat}(h:MC enc ok w b D c)(e:∀ o,w.heap[b]?=some o->w'.heap[b]?=some o):MC enc ok w' b D c:=by
 obtain⟨⟨es,clock,h1,h2⟩,h3,h4⟩:=h;exact⟨⟨es,clock,e _ h1,h2⟩,h3,h4⟩
theorem SzI.push(h:SzI w W gm D c va ks v l)(k:Kt (fun b=>v.ownBlock=some b) W w')(t:TX w w' v' l'):SzI w w' gm D c va ks v' l':=by
 have nb:∀ (b:Nat) (o:Obj),W.heap[b]?=some o->(∀ cs,o≠Obj.cells cs 5 (0,0))->w'.heap[b]?=some o:=fun b o hb hn=>by
  refine(k.block b (Array.getElem?_eq_some_iff.1 hb).1 (fun e=>?_)).trans hb;obtain⟨cs,q⟩:=vN h.tx e;rw[hb] at q
  cases q
  exact hn cs rfl
 obtain⟨es,clock,hb⟩:=MC.at h.mc;refine⟨MC.move h.mc fun o ho=>nb _ _ ho (fun cs e=>?_),UX.others h.us (fun g cur hg=>nb _ _ hg (fun cs e=>?_)) t.kp,t,h.t0⟩
 ·rw[hb] at ho;cases ho;cases e
 ·cases e
theorem SzI.app(h:SzI w W gm D c va ks v l)(k:AuK w W w')(t:TX w w' v' l'):SzI w w' gm D c va ks v' l':=by
 have nb:∀ (b:Nat) (o:Obj),W.heap[b]?=some o->(∀ cs fz,o≠Obj.cells cs 5 fz)->w'.heap[b]?=some o:=fun b o hb hn=>k.o b o hb (by simp) hn
 obtain⟨es,clock,hb⟩:=MC.at h.mc;refine⟨MC.move h.mc fun o ho=>nb _ _ ho (fun cs fz e=>?_),UX.others h.us (fun g cur hg=>nb _ _ hg (fun cs fz e=>?_)) t.kp,t,h.t0⟩
 ·rw[hb] at ho;cases ho;cases e
 ·cases e
end
def jE(s n:Nat):Nat->Nat
 | 0=>s
 | 1=>n
 | _=>s*n%18446744073709551616
def iE(s n:Nat):Nat->List UInt8
 | 0=>[]
 | j + 1=>(iE s n j ++ if j=0 then [] else [32]) ++ Lib.decDigits (jE s n j)
theorem GM(s n:Nat):iE s n 3 ++ [10]=lB s n:=by
 simp[iE,jE,lB]
theorem GK(s n:Nat)(hs:s<18446744073709551616)(hn:n<18446744073709551616)(j:Nat)(hj:j<=3):(iE s n j).length<=63:=by
 have h1:=nG s hs;have h2:=nG n hn;have h3:=nG (s*n%18446744073709551616) (Nat.mod_lt _ (by decide));rcases (show j=0\/j=1\/j=2\/j=3 by omega)with rfl|rfl|rfl|rfl <;> simp[iE,jE] <;> omega
set_option maxHeartbeats 8000000
set_option maxRecDepth 6000
theorem UX.get{w W:World}{oa:Option Addr}{oc n:Nat}{ks:List Nat}(hn:ks.length=n)(h:UX w W (.slice oa n oc) ks)(a:Nat)(ha:a<n):∃ g,oa=some ⟨g,0,none⟩/\W.cell? ⟨g,a,none⟩=some (.int .u64 ((ks.getD a 0:Nat):Int)):=by
 rcases h.own.2 with ⟨_,h0⟩|⟨g,cap,cur,hv,hb,hg,hnc,hcm,hcs,htake⟩
 ·omega
 cases hv
 refine⟨g,rfl,?_⟩;have e1:(ks.map eU)[a]?=some (eU (ks.getD a 0)):=by rw[List.getElem?_map,List.getElem?_eq_getElem (by omega),List.getD_eq_getElem?_getD,List.getElem?_eq_getElem (by omega)];rfl
 rw[<-htake,List.getElem?_take] at e1;split at e1
 ·simp only[World.cell?,hg];rw[<-Array.getElem?_toList,e1];rfl
 ·cases e1
theorem DJ{l:List (Nat×Nat)}{D ks:List Nat}(hD:D.Nodup)(hm:∀ a,a∈D↔a∈dI l)(pm:ks.Perm D)(hp:ks.Pairwise (·<=·)):mW l ks:=by
 refine⟨?_,fun x=>pm.mem_iff.trans (hm x)⟩;have hn:ks.Nodup:=pm.nodup_iff.2 hD;exact hp.imp₂ (fun a b h1 h2=>Nat.lt_of_le_of_ne h1 h2) hn
theorem GF{w W w':World}{v:Value}{l:List UInt8}{nb:Nat}{cs:Array Value}(t:TX w W v l)(k:Kt (fun b=>v.ownBlock=some b) W w')(h:W.heap[nb]?=some (Obj.cells cs 27 (0,0))):w'.heap[nb]?=some (Obj.cells cs 27 (0,0)):=
 (k.block nb (lH h) (fun e=>by
  obtain⟨cs,q⟩:=vN t e;rw[h] at q
  cases q)).trans h
theorem wA{w W w':World}{nb:Nat}{cs:Array Value}(k:AuK w W w')(h:W.heap[nb]?=some (Obj.cells cs 27 (0,0))):w'.heap[nb]?=some (Obj.cells cs 27 (0,0)):=
 k.o nb _ h (by simp) (fun c fz e=>by cases e)
theorem GD{W:World}{nb s c m:Nat}(hm:m=s*c%18446744073709551616)(h:W.heap[nb]?=some (Obj.cells #[.int .u64 s,.int .u64 c,.int .u64 m] 27 (0,0)))(j:Nat)(hj:j<3):W.cell? ⟨nb,j,none⟩=some (.int .u64 ((jE s c j:Nat):Int)):=by
 rcases (show j=0\/j=1\/j=2 by omega)with rfl|rfl|rfl
 ·simp[World.cell?,h,jE]
 ·simp[World.cell?,h,jE]
 ·simp[World.cell?,h,jE,hm]
theorem DI{s c:Nat}(hs:s<18446744073709551616)(hc:c<18446744073709551616)(j:Nat):jE s c j<18446744073709551616:=by
 unfold jE;split
 ·exact hs
 ·exact hc
 ·exact Nat.mod_lt _ (by decide)
def SzP(w:World)(l:List (Nat×Nat))(e:Ending)(w':World):Prop:=∃ ks,mW l ks/\e=.returned (.string ⟨(hZ l ks).toArray⟩)/\Kt nO w w'
theorem yV(v:Value)(l:List (Nat×Nat))(w:World)(hl:l.length<=2199023255552)(hb:∀ b∈l,gI b.2)(hv:RBk w v l)(ht:Tab10 w):
  Calls prog 17 #[v] w (SzP w l):=by
 have TA:=aA (MT v l w (by omega) hb hv);have T0:=aA ht;have HSL:=aA (show(dI l).length=l.length by simp[dI]);have HB:=aA (show ∀ x∈dI l,x<18446744073709551616 from fun x hx=>by
  obtain⟨b,h1,rfl⟩:=List.mem_map.1 hx;exact hb b h1)
 obtain⟨oa0,oc0,rfl,-⟩:=hv;have HLL:=aA hl;clear hb ht hl;go_enter func17,ntmps17;go_wp2_with fail;refine TA.out.mono ?_;rintro e w1 ⟨gm,D,rfl,gn,hmc,hme,hle,hk1⟩;have DL:=aA (show D.length<8796093022208 from by have:=HSL.out;have:=HLL.out;omega);have SO:=aA (VN gm D _ w1 hmc DL.out);have ND:=aA hmc.nodup;have ME:=aA hme;have MC1:=aA hmc;have K1:=aA hk1;clear hmc hme hle hk1 gn TA;go_wp2_with fail;refine SO.out.mono ?_;rintro e w2 ⟨oa,oc,ks,rfl,us,pm,srt⟩;have KS:=aA (DJ ND.out ME.out pm srt);have I2:=aA (show SzI w w2 gm D (fun a=>(dI l).count a) (.slice oa ks.length oc) ks (.slice none 0 0) [] from⟨MC1.out.kept us.kp id,GS.bS us K1.out,GS.nil _ _ _ _ (nT K1.out us.kp),T0.out⟩);have KL:=aA (show ks.length<=l.length from by rw[pm.length_eq];have:=HSL.out;have h2:=yY D (dI l) ND.out (fun x hx=>(ME.out x).1 hx);omega);obtain⟨n,hn⟩:∃ n,ks.length=n:=⟨_,rfl⟩;rw[hn] at I2 KL ⊢;have HN:=aA hn;clear us pm srt SO MC1 hn;go_wp2_with fail;have HL2:=HLL.out;have KL2:=KL.out;go_loopw [4,15] (fun tv iv W=>∃ (a:Nat) (t:List UInt8) (ta:Option Addr) (tc:Nat),a<=n/\iv=.int .i64 a/\tv=.slice ta t.length tc/\Hid (t=hZ l (ks.take a)/\SzI w W gm D (fun a=>(dI l).count a) (.slice oa n oc) ks (.slice ta t.length tc) t)) (fun _ iv _=>n-(intOf iv).toNat)
 case atStart=>exact⟨0,[],none,0,Nat.zero_le _,rfl,rfl,aA ⟨rfl,I2.out⟩⟩
 case round=>
  clear I2;obtain⟨a,t,ta,tc,ha,rfl,rfl,HI⟩:=hrel;have TL:=aA (show t.length<=63*n from by
   rw[HI.out.1];have:=xA l (ks.take a) (fun x hx=>HB.out x ((KS.out.2 x).1 (List.mem_of_mem_take hx))) (by omega);rw[List.length_take] at this;omega)
  by_cases hlt:a<n
  ·have hai:(a:Int)<n:=(by omega);obtain⟨kg,rfl,hcell⟩:=UX.get HN.out HI.out.2.us a hlt;obtain⟨s,hs⟩:∃ s,ks.getD a 0=s:=⟨_,rfl⟩;have hsk:ks[a]?=some s:=(by rw[<-hs,List.getD_eq_getElem?_getD,List.getElem?_eq_getElem (by rw[HN.out];exact hlt)];rfl);rw[hs] at hcell;have HS64:=aA (show gI s from HB.out s ((KS.out.2 s).1 (List.mem_of_getElem? hsk)));obtain⟨c,hc⟩:∃ c,(dI l).count s=c:=⟨_,rfl⟩;have hcl:c<=l.length:=(by rw[<-hc,<-HSL.out];exact List.count_le_length);have XT:=aA (show hZ l (ks.take (a + 1))=t ++ (iE s c 3 ++ [10])from by rw[List.take_add_one,hsk,GM,<-hc,HI.out.1];exact GN l _ s);have HC:=aA hc;have w1c:IntKind.u64.wrap (c:Int)=c:=(by rw[wrap_u64];omega);have MM:=aA HI.out.2.mc;have s64:=HS64.out;obtain⟨m,hm⟩:=xe (s*c%18446744073709551616);have mulw:IntKind.u64.wrap ((s:Int)*(c:Int))=(m:Int):=(by rw[wrap_u64,hm];simp);have HM:=aA hm;clear hs hsk hc hm;go_wp2_with (at_lookup;refine oP _ rfl _ _ 106 rfl 27 3 mS Tryz.underlying106 (kV _) gm rfl MM.out s HS64.out rfl c HC.out ?_)
   have NB:=aA (nH wr (Obj.cells #[.int .u64 s,.int .u64 c,.int .u64 m] 27 (0,0)));have I3:=aA (HI.out.2.keep ((Kt.refl nO wr).alloc (Obj.cells #[.int .u64 s,.int .u64 c,.int .u64 m] 27 (0,0))));have LPL:=aA (GK s c s64 (by omega));have c64:c<18446744073709551616:=(by omega);generalize wr.alloc (Obj.cells #[.int .u64 s,.int .u64 c,.int .u64 m] 27 (0,0))=W3 at *;generalize wr.heap.size=nb at *;clear mulw hcell w1c;go_loopw [4,30] (fun tv iv W=>∃ (j:Nat) (t':List UInt8) (ta':Option Addr) (tc':Nat),j<=3/\iv=.int .i64 j/\tv=.slice ta' t'.length tc'/\Hid (t'=t ++ iE s c j/\SzI w W gm D (fun a=>(dI l).count a) (.slice (some ⟨kg,0,none⟩) n oc) ks (.slice ta' t'.length tc') t'/\W.heap[nb]?=some (Obj.cells #[.int .u64 s,.int .u64 c,.int .u64 m] 27 (0,0)))) (fun _ iv _=>3-(intOf iv).toNat)
   case atStart=>exact⟨0,t,ta,tc,by omega,rfl,rfl,aA ⟨by simp[iE],I3.out,NB.out⟩⟩
   case round=>
    clear I3 NB HI MM;rename_i wq;obtain⟨j,t',ta',tc',hj,rfl,rfl,HJ⟩:=hrel;have TL':=aA (show t'.length<=63*n+63 from by rw[HJ.out.1,List.length_append];have:=TL.out;have:=LPL.out j hj;omega);have hnl:n<=2199023255552:=(by omega);by_cases hj3:j<3
    ·have hji:(j:Int)<3:=(by omega);have hcell:=GD HM.out HJ.out.2.2 j hj3;obtain⟨x,hx⟩:∃ x,jE s c j=x:=⟨_,rfl⟩;have X64:=aA (show x<18446744073709551616 by rw[<-hx];exact DI s64 c64 j);rw[hx] at hcell;by_cases hj0:j=0
     ·have hj1:¬(0:Int)<(j:Int):=(by omega);have AU:=aA (fun h=>BA HJ.out.2.1.tx h x X64.out (Tab10.keep T0.out HJ.out.2.1.tx.kp));have XJ:=aA (show iE s c (j + 1)=iE s c j ++ Lib.decDigits x by show(_ ++ if j=0 then [] else [32]) ++ Lib.decDigits (jE s c j)=_;rw[if_pos hj0,List.append_nil,hx]);clear hx hj0;go_wp2_with fail;refine(AU.out (by have:=TL'.out;omega)).mono ?_;rintro e w7 ⟨oa7,oc7,l7,hl7,rfl,t7,k7⟩;have F7:=aA (show l7=t ++ iE s c (j + 1)/\SzI w w7 gm D (fun a=>(dI l).count a) (.slice (some ⟨kg,0,none⟩) n oc) ks (.slice oa7 l7.length oc7) l7/\w7.heap[nb]?=some (Obj.cells #[.int .u64 s,.int .u64 c,.int .u64 m] 27 (0,0))from⟨by rw[hl7,XJ.out,HJ.out.1,List.append_assoc],HJ.out.2.1.app k7 t7,wA k7 HJ.out.2.2⟩);clear hl7 t7 k7 AU;go_wp2_with fail;exact⟨⟨j+1,l7,oa7,oc7,by omega,by simp,rfl,F7⟩,by simp[intOf];omega⟩
     ·have hj1:(0:Int)<(j:Int):=(by omega);obtain⟨g4,cap4,w4,ap4,t4,k4⟩:=TX.push HJ.out.2.1.tx 32 (by have:=TL'.out;omega);have AP4:=aA ap4;have I4:=aA (HJ.out.2.1.push k4 t4);have N4:=aA (GF HJ.out.2.1.tx k4 HJ.out.2.2);have XJ:=aA (show iE s c (j + 1)=(iE s c j ++ [32]) ++ Lib.decDigits x by show(_ ++ if j=0 then [] else [32]) ++ Lib.decDigits (jE s c j)=_;rw[if_neg hj0,hx]);have L4:=aA (show(t' ++ [(32:UInt8)]).length=t'.length + 1 by simp);have AU:=aA (fun h=>BA I4.out.tx h x X64.out (Tab10.keep T0.out I4.out.tx.kp));clear hx hj0 ap4 t4 k4;go_wp2_with (at_builtin;refine Lib.wpList_append_run _ rfl _ _ _ _ rfl (.slice ta' t'.length tc') _ rfl rfl _ _ (AP4.out _) ?_)
      refine(AU.out (by have:=TL'.out;have:=L4.out;omega)).mono ?_;rintro e w7 ⟨oa7,oc7,l7,hl7,rfl,t7,k7⟩;have F7:=aA (show l7=t ++ iE s c (j + 1)/\SzI w w7 gm D (fun a=>(dI l).count a) (.slice (some ⟨kg,0,none⟩) n oc) ks (.slice oa7 l7.length oc7) l7/\w7.heap[nb]?=some (Obj.cells #[.int .u64 s,.int .u64 c,.int .u64 m] 27 (0,0))from⟨by rw[hl7,XJ.out,HJ.out.1];simp,I4.out.app k7 t7,wA k7 N4.out⟩);clear hl7 t7 k7 AU;go_wp2_with fail;exact⟨⟨j+1,l7,oa7,oc7,by omega,by simp,rfl,F7⟩,by simp[intOf];omega⟩
    ·have hji:¬(j:Int)<3:=(by omega);have hj3e:j=3:=(by omega);obtain⟨g4,cap4,w4,ap4,t4,k4⟩:=TX.push HJ.out.2.1.tx 10 (by have:=TL'.out;omega);have AP4:=aA ap4;have F4:=aA (show t' ++ [(10:UInt8)]=hZ l (ks.take (a + 1))/\SzI w w4 gm D (fun a=>(dI l).count a) (.slice (some ⟨kg,0,none⟩) n oc) ks (.slice (some ⟨g4,0,none⟩) (t'.length + 1) cap4) (t' ++ [10])from⟨by rw[XT.out,HJ.out.1,hj3e];simp,HJ.out.2.1.push k4 t4⟩);clear ap4 t4 k4 hj3e hj3 HJ;go_wp2_with (at_builtin;refine Lib.wpList_append_run _ rfl _ _ _ _ rfl (.slice ta' t'.length tc') _ rfl rfl _ _ (AP4.out _) ?_)
     refine⟨⟨a + 1,t' ++ [10],some ⟨g4,0,none⟩,cap4,by omega,by simp,by simp,aA ⟨F4.out.1,?_⟩⟩,by simp[intOf];omega⟩;have:=F4.out.2;simpa using this
  ·have hai:¬(a:Int)<n:=(by omega);have ea:a=n:=(by omega);have ST:=aA (TX.str HI.out.2.tx);have FIN:=aA (show t=hZ l ks from by rw[HI.out.1,ea,<-HN.out,List.take_length]);have KF:=aA HI.out.2.tx.kp;have st:=ST.out;clear HI TL;go_wp2_with fail;go_ret;exact⟨ks,KS.out,by rw[<-FIN.out];rfl,KF.out⟩
end Go.Proofs.YtkfmheelhinjdaaGreatDoor.W
namespace Go.Proofs.YtkfmheelhinjdaaGreatDoor.W
open _root_.Go.Proofs.Tryz
open Go.RowKit
set_option linter.unusedVariables false
set_option maxHeartbeats 8000000
set_option maxRecDepth 6000
theorem xI(I:Img)(V:ImV)(w:World)(hI:ImD w I V)(hnp:I.np<=1024):
  Calls prog 48 #[V.p,.func (.func 49) #[] #[]] w (lG eS iA w ((List.range I.np).map fun i=>cE (I.pg i))):=by
 have HI:=aA hI;obtain⟨-,va,vc,hv1,-⟩:=hI.pgs;obtain⟨n,hn⟩:=xe (I.np);obtain⟨xs,hxs⟩:=xe ((List.range I.np).map fun i=>cE (I.pg i));rw[<-hn] at hv1 hnp;have HN:=aA (show xs.length=n by rw[hxs,hn];simp);have RW:=aA (show ∀ W,Kt nO w W->∀ j,j<n->∃ bl o,∃ p:Pg,va=some ⟨bl,o,none⟩/\xs[j]?=some (cE p)/\iA (cE p)/\kO W bl o j p from fun W hW j hj=>by
  obtain⟨-,oa,oc,q1,q2⟩:=(HI.out.keep hW).pgs;rw[hv1] at q1
  cases q1
  rcases q2 with q2|⟨bl,o,rfl,hg,hc⟩
  ·rw[<-hn] at q2;omega
  obtain⟨c1,c2⟩:=hc j (by omega);refine⟨bl,o,I.pg j,rfl,?_,⟨c1.kd,c1.od,c1.cl,c1.lv⟩,c2⟩;rw[hxs,List.getElem?_map,List.getElem?_range (by omega)];rfl)
 rw[<-hxs];rw[hv1];clear hxs hI hn HI hv1;have hmk:∀ w,(Instr.makeMap 95 none).run prog w=.ok (.map (some w.heap.size)) (w.alloc (.map #[] 0)):=fun w=>run_makeMap _ w
 have I0:=aA (show TaI eS iA w (w.alloc (.map #[] 0)) w.heap.size xs 0 [] from TaI.start w);go_enter func48,ntmps48;go_wp2_with fail;generalize w.alloc (.map #[] 0)=W1 at *;generalize hgx:w.heap.size=gx at *;clear hmk;go_loopw [11] (fun i W=>∃ a D,a<=n/\i=.int .i64 ((a:Nat):Int)/\Hid (TaI eS iA w W gx xs a D)) (fun i _=>n-(intOf i).toNat)
 case atStart=>exact⟨0,[],Nat.zero_le _,rfl,I0⟩
 case round=>
  clear I0;obtain⟨a,D,ha,rfl,HI⟩:=hrel;by_cases hlt:a<n
  ·have hai:(a:Int)<n:=(by omega);obtain⟨bl,o,p,rfl,hs,h64,hpc⟩:=RW.out wr HI.out.k a hlt;obtain⟨d0,d1,d2,d3,d4,d5,d6,d7,d8,d9,d10⟩:=hpc.c;have KS:=aA (fun W=>yX p W);have HS:=aA hs;have H64:=aA h64;have GXL:=aA (HI.out.m.ltsz);clear hs h64;go_upto_region 5 with fail;have KB:=aA ((Kt.refl nO wr).alloc (aV p));have PB:=aA (nH wr (aV p));have M2:=aA (HI.out.m.kept KB.out (fun x=>x));generalize wr.alloc (aV p)=W2 at *;have AT:=aA (TaI.at HI.out HS.out);obtain⟨c,hc⟩:∃ c,(xs.take a).count (cE p)=c:=⟨_,rfl⟩;have hcn:c<=n:=by
    rw[<-hc];exact Nat.le_trans List.count_le_length (by rw[List.length_take];omega)
   have HC:=aA hc;have hc1:wrap64 ((c:Int)+1)=((c+1:Nat):Int):=(by rw[wrap64];omega);have hc2:IntKind.i64.wrap ((c:Int)+1)=((c+1:Nat):Int):=(by rw[IntKind.wrap_i64];omega);have A1:=aA (AT.out.1.trans (congrArg (·+1) hc));have DL:=aA (show D.length<maxLen from by have:=HI.out.le;unfold maxLen;omega);have NX:=aA (fun W' m k=>TaI.next HI.out HS.out (W':=W') m k);have NG:=aA (show wr.heap.size≠gx from fun e=>by have:=GXL.out;omega);generalize wr.heap.size=gb at *;clear hc hpc d0 d1 d2 d3 d4 d5 d6 d7 d8 d9 d10;refine rX (by kernel_rfl) (fun v=>⟨#[.slice (some ⟨bl,o,none⟩) n vc,.func (.func 49) #[] #[],undef,undef,.map none,.map (some gx),undef,.pointer (some ⟨gb,0,none⟩),.map (some gx),.slice (some ⟨bl,o,none⟩) n vc,.int .i64 n,.int .i64 a,.bool true,.pointer (some ⟨bl,o+a*11,none⟩),fF p,v 0,v 1,v 2,v 3,v 4,v 5,v 6,v 7,u23,undef],[]⟩) (fun i=>[u15,u16,u17,u18,u19,u20,u21,u22].getD i undef) (GmP eS iA gx D (fun x=>(xs.take a).count x) (cE p)) (fun _ _ _=>GmP.trans) (fun i=>(gV eS gx (cE p) (.func (.func 49) #[] #[]) (fF p) c).getD i bX) (fun i=>xY i) 8 rfl (by kernel_rfl) (by kernel_rfl) GmP.drew ?_ ?_
   ·intro i o ho hi v W kW hd;obtain⟨D',M',eD⟩:=(kW.m ⟨D,.inl rfl,M2.out⟩).add;have PW:=aA ((kW.k.block _ (lH PB.out) NG.out).trans PB.out);match i,hi with
    | 0,_=>
     clear hd ho;refine aO rfl ?_;go_wp2_with fail;exact⟨.map (some gx),(by simp[aB]),rfl,GmP.rfl'⟩
    | 1,_=>
     clear hd ho;refine aO rfl ?_;go_wp2_with fail;exact⟨.func (.func 49) #[] #[],(by simp[aB]),rfl,GmP.rfl'⟩
    | 2,_=>
     clear hd ho;obtain⟨c0,c1,c2,c3,c4,c5,c6,c7,c8,c9,c10⟩:=eK PW.out;refine aO rfl ?_;go_wp2_with fail;exact⟨fF p,(by simp[aB]),rfl,GmP.rfl'⟩
    | 3,_=>
     have e1:v 1=.func (.func 49) #[] #[]:=hd 1 (by kernel_rfl);have e2:v 2=fF p:=hd 2 (by kernel_rfl);clear hd ho;refine aO rfl ?_;go_wp2_with (go_at_call 49;(refine(KS.out _).mono ?_);rintro e wX ⟨rfl,h1⟩;have KX:=aA h1;clear h1)
     exact⟨eS (cE p),(by simp[aB,e1,e2]),rfl,GmP.of_kept KX.out⟩
    | 4,_=>
     have e0:v 0=.map (some gx):=hd 0 (by kernel_rfl);have e3:v 3=eS (cE p):=hd 3 (by kernel_rfl);clear hd ho;refine aO rfl ?_;refine oP W rfl (.tmp 15) (.tmp 18) 95 rfl 101 3 qF Tryz.underlying95 (kV W) gx e0 M' (cE p) H64.out e3 c HC.out ?_;go_wp2_with fail;exact⟨dF c,(by simp[aB,Act.put,e0,e3]),rfl,GmP.rfl'⟩
    | 5,_=>
     have e4:v 4=dF c:=hd 4 (by kernel_rfl);clear hd ho;refine aO rfl ?_;go_wp2_with fail;exact⟨dF (c+1),(by simp[aB,e4]),rfl,GmP.rfl'⟩
    | 6,_=>
     have e0:v 0=.map (some gx):=hd 0 (by kernel_rfl);have e3:v 3=eS (cE p):=hd 3 (by kernel_rfl);clear hd ho;refine aO rfl ?_;refine yZ W rfl (.tmp 15) (.tmp 18) 95 rfl 101 3 qF Tryz.underlying95 kV gx e0 M' (cE p) H64.out e3 ?_;intro wX v0 st m1 en1 ol1 k1;have GG:=aA (show GmP eS iA gx D (fun x=>(xs.take a).count x) (cE p) W wX from⟨k1,fun _=>⟨_,.inr rfl,eD▸m1⟩,ol1⟩);have EN:=aA en1;clear m1 en1 ol1 k1 M' eD;go_wp2_with fail;exact⟨.tuple #[v0,goInt ((st:Nat):Int)],(by simp[aB,Act.put,e0,e3]),⟨v0,st,rfl,EN.out⟩,GG.out⟩
    | 7,_=>
     obtain⟨v0,st,e6,en⟩:=(show jX eS gx (cE p) (v 6) W from hd 6 (by kernel_rfl));have EN:=aA en;clear hd ho en;refine aO rfl ?_;go_wp2_with fail;exact⟨goInt ((st:Nat):Int),(by simp[aB,e6,goInt]),⟨st,rfl,EN.out⟩,GmP.rfl'⟩
   ·intro o ho v W kW hd;obtain⟨D',M',eD⟩:=(kW.m ⟨D,.inl rfl,M2.out⟩).add;have e0:v 0=.map (some gx):=hd 0 (by decide);have e5:v 5=dF (c+1):=hd 5 (by decide);obtain⟨st,e7,en⟩:=(show jW eS gx (cE p) (v 7) W from hd 7 (by decide));have K9:=aA (nT HI.out.k KB.out);have K8:=aA kW.k;clear hd ho kW;refine aO rfl ?_;refine xB W rfl (.tmp 15) (.tmp 22) (.tmp 20) 95 rfl 101 qF gx st e0 e7 M' (cE p) H64.out en (c+1) (fun y=>(xs.take (a+1)).count y) A1.out AT.out.2 e5 ?_;intro w3 m3 hin k3;have M3:=aA (show MC eS iA w3 gx (aY D (cE p)) (fun y=>(xs.take (a+1)).count y)from by rw[<-eD,qV hin];exact m3);have K3:=aA (sO K9.out (K8.out.trans k3 (fun _ _ e=>e) (fun _ _ e=>e)) HI.out.nw);clear m3 k3 M' eD en hin e7;go_wp2_with fail;refine⟨⟨a+1,_,by omega,by simp,aA (NX.out w3 M3.out K3.out)⟩,by simp[intOf];omega⟩
  ·have hae:a=n:=(by omega);have hai:¬(a:Int)<n:=(by omega);have FIN:=aA (show lG eS iA w xs (.returned (.map (some gx))) wr from by
    have h:=HI.out;rw[hae,<-HN.out] at h;exact h.done)
   clear HI;go_wp2_with fail;go_ret;exact FIN.out
set_option maxHeartbeats 8000000
set_option maxRecDepth 6000
def eR(kd:Int)(o c l r:Nat):Nat:=if kd=0 then (if r<=4096*2 ^ o then 4096*2 ^ o else 0) else if kd=4 then (if 16*2 ^ c=r then (celN9 c-l)*r else 0) else 0
theorem JK(kd:Int)(o c l r:Nat)(h8:o<=8)(h7:c<=7)(hl:l<=256)(hlc:kd=4->l<=celN9 c)(hr:r<18446744073709551616)(w:World):
  Calls prog 92 #[eS (kd,(o:Int),(c:Int),(l:Int)),.int .u64 r] w fun e w'=>e=.returned (.int .u64 ((eR kd o c l r:Nat):Int))/\Kt nO w w':=by
 have KA:=aA (show Kt nO w (w.alloc (Obj.cells #[.int .i64 kd,.int .i64 o,.int .i64 c,.int .i64 l] 101 (0,0)))from(Kt.refl nO w).alloc _);have BX:=aA (nH w (Obj.cells #[.int .i64 kd,.int .i64 o,.int .i64 c,.int .i64 l] 101 (0,0)));by_cases k0:kd=0
 ·subst k0;obtain⟨q,hq⟩:=xe (4096*2 ^ o);have E:IntKind.u64.wrap ((4096:Int)*2 ^ o)=(q:Int):=by rw[hq];exact yQ h8
  by_cases hle:r<=q
  ·have hli:(r:Int)<=q:=(by omega);have R:=aA (show eR 0 o c l r=q by unfold eR;rw[if_pos rfl,<-hq,if_pos hle]);rw[R.out];clear hq hle;go_enter func92,ntmps92;go_wp2_with fail;go_ret;exact⟨rfl,KA.out⟩
  ·have hli:¬(r:Int)<=q:=(by omega);have R:=aA (show eR 0 o c l r=0 by unfold eR;rw[if_pos rfl,<-hq,if_neg hle]);rw[R.out];clear hq hle;go_enter func92,ntmps92;go_wp2_with fail;go_ret;exact⟨rfl,KA.out⟩
 by_cases k4:kd=4
 ·subst k4;have HCS:=aA (fun W=>BI 4 (o:Int) (l:Int) c h7 W);have HFC:=aA (fun W=>BR 4 (o:Int) c l h7 hl W);obtain⟨z,hz⟩:=xe (16*2 ^ c);obtain⟨cn,hcn⟩:=xe (celN9 c);have hlc':l<=cn:=by rw[hcn];exact hlc rfl
  have cl:=(xO c h7).1;rw[<-hz,<-hcn] at cl;rw[<-hz] at HCS;rw[<-hcn] at HFC;have cb:=mI c h7;rw[<-hcn] at cb;by_cases hzr:z=r
  ·have R:=aA (show eR 4 o c l r=(cn-l)*r by unfold eR;rw[if_neg (by decide),if_pos rfl,<-hz,if_pos hzr,<-hcn]);rw[R.out];subst hzr;have hli:((z:Int) == (z:Int))=true:=(by simp);have e1:IntKind.u64.wrap ((cn:Int)-(l:Int))=((cn-l:Nat):Int):=(by rw[wrap_u64];omega);have hb:(cn-l)*z<=4096:=(by rw[<-cl];exact Nat.mul_le_mul_right _ (Nat.sub_le _ _));obtain⟨d,hd⟩:=xe (cn-l);rw[<-hd] at e1 hb ⊢;have e2:IntKind.u64.wrap ((d:Int)*(z:Int))=((d*z:Nat):Int):=by
    rw[wrap_u64,<-Int.natCast_mul];generalize d*z=y at *;omega
   generalize d*z=y at *;clear hz hcn hlc hlc' cl hd;go_enter func92,ntmps92;go_wp2_with fail;refine(HCS.out _).mono ?_;rintro e w1 ⟨rfl,hk1⟩;have K1:=aA (nT KA.out hk1);have B1:=aA ((hk1.block _ (lH BX.out) (fun x=>x)).trans BX.out);clear hk1;generalize w.heap.size=gb at *;have c0:w1.cell? ⟨gb,0,none⟩=some (.int .i64 4):=(by simp[World.cell?,B1.out]);have c1:w1.cell? ⟨gb,1,none⟩=some (.int .i64 o):=(by simp[World.cell?,B1.out]);have c2:w1.cell? ⟨gb,2,none⟩=some (.int .i64 c):=(by simp[World.cell?,B1.out]);have c3:w1.cell? ⟨gb,3,none⟩=some (.int .i64 l):=(by simp[World.cell?,B1.out]);go_wp2_with fail;refine(HFC.out _).mono ?_;rintro e w2 ⟨rfl,hk2⟩;have K2:=aA (nT K1.out hk2);clear hk2;go_wp2_with fail;go_ret;exact⟨rfl,K2.out⟩
  ·have R:=aA (show eR 4 o c l r=0 by unfold eR;rw[if_neg (by decide),if_pos rfl,<-hz,if_neg hzr]);rw[R.out];have hli:((z:Int) == (r:Int))=false:=(by rw[beq_eq_false_iff_ne];omega);clear hz hcn hlc hlc' cl hzr;go_enter func92,ntmps92;go_wp2_with fail;refine(HCS.out _).mono ?_;rintro e w1 ⟨rfl,hk1⟩;have K1:=aA (nT KA.out hk1);clear hk1;go_wp2_with fail;go_ret;exact⟨rfl,K1.out⟩
 ·have R:=aA (show eR kd o c l r=0 by unfold eR;rw[if_neg k0,if_neg k4]);rw[R.out];have f0:(kd == 0)=false:=by rw[beq_eq_false_iff_ne];exact k0
  have f4:(kd == 4)=false:=by rw[beq_eq_false_iff_ne];exact k4
  clear k0 k4;go_enter func92,ntmps92;go_wp2_with fail;go_ret;exact⟨rfl,KA.out⟩
structure ShOk(s:fL)(o c l:Nat):Prop where
 od:s.2.1=(o:Int)
 cl:s.2.2.1=(c:Int)
 lv:s.2.2.2=(l:Int)
 o8:o<=8
 c7:c<=7
 l256:l<=256
 lc:s.1=4->l<=celN9 c
theorem EB{w:World}{I:Img}{V:ImV}(hI:ImD w I V)(hz:(chk I).1=0)(i:Nat)(hi:i<I.np):∃ o c l,ShOk (cE (I.pg i)) o c l:=by
 obtain⟨r,hS⟩:=oO hz;obtain⟨kd,od,cl,lv,y1,y2,y3,y4,y5,y6,y7,y8,-⟩:=hS.pg i hi;refine⟨od,cl,lv,y3,y5,y7,by have:=hS.k8;omega,y6,y8,fun h4=>?_⟩;obtain⟨-,oa,oc,-,h0|⟨bl,o,-,-,hc⟩⟩:=hI.pgs
 ·omega
 obtain⟨l,g1,g2,g3,-⟩:=DR (hc i hi).1 y5 y6 h4 (tO (oU hz 4 (by decide)) i hi);have:lv=l:=by have:=y7.symm.trans g1;omega
 omega
def dQ(r:Nat)(s:fL):Nat:=eR s.1 s.2.1.toNat s.2.2.1.toNat s.2.2.2.toNat r
def hY(I:Img)(r:Nat):Nat:=(((List.range I.np).map fun i=>cE (I.pg i)).map (dQ r)).sum
theorem NN(s:fL)(r:Nat){o c l:Nat}(h:ShOk s o c l)(hr:r<18446744073709551616)(w:World):
  Calls prog 92 #[eS s,.int .u64 r] w fun e w'=>e=.returned (.int .u64 ((dQ r s:Nat):Int))/\Kt nO w w':=by
 obtain⟨kd,od,cl,lv⟩:=s;obtain⟨e1,e2,e3,o8,c7,l256,lc⟩:=h;dsimp only at e1 e2 e3 lc;subst e1 e2 e3;show Calls _ _ _ _ fun e w'=>e=.returned (.int .u64 ((eR kd (o:Int).toNat (c:Int).toNat (l:Int).toNat r:Nat):Int))/\Kt nO w w'
 rw[Int.toNat_natCast,Int.toNat_natCast,Int.toNat_natCast];exact JK kd o c l r o8 c7 l256 lc hr w
set_option maxHeartbeats 8000000
set_option maxRecDepth 6000
structure UsI(w W:World)(g rx:Nat)(D:List fL)(c:fL->Nat)(done rest:List fL)(S:Nat)(f:fL->Nat):Prop where
 rg:RC eS W g rx D c rest
 pm:D.Perm (done ++ rest)
 s:S=(done.map fun k=>c k*f k).sum
 k:Kt nO w W
theorem UsI.next{w W w1 w2:World}{g rx:Nat}{D:List fL}{c:fL->Nat}{done rest rest':List fL}{S:Nat}{f:fL->Nat}{x:fL}(h:UsI w W g rx D c done rest S f)(hp:rest.Perm (x :: rest'))(hr:RC eS w1 g rx D c rest')(k:Kt nO w w2)(k2:Kt nO w1 w2):UsI w w2 g rx D c (done ++ [x]) rest' (S + c x*f x) f:=
 ⟨hr.kept k2 id id,h.pm.trans (by rw[List.append_assoc];exact List.Perm.append_left _ hp),by rw[h.s,List.map_append,List.sum_append];simp,k⟩
theorem YI(I:Img)(V:ImV)(r:Nat)(hr:r<18446744073709551616)(w:World)(hI:ImD w I V)(hz:(chk I).1=0):
  Calls prog 51 #[imA I V,.int .u64 r] w fun e w'=>e=.returned (.int .u64 ((hY I r%18446744073709551616:Nat):Int))/\Kt nO w w':=by
 obtain⟨⟨ma,mc,hm⟩,⟨pa,pc,hp⟩,⟨ra,rc,hr'⟩,⟨ha,hc,hh⟩,⟨ta,tc,ht⟩,-⟩:=hI.sl;have IM0:=aA (show ImAt (w.alloc (cA I V)) w.heap.size I V from⟨nH _ _,hI.keep ((Kt.refl _ w).alloc _)⟩);have K0:=aA (show Kt nO w (w.alloc (cA I V))from(Kt.refl _ w).alloc _);obtain⟨_,hS⟩:=oO hz;have hnp:=hS.np1;obtain⟨xs,hxs⟩:=xe ((List.range I.np).map fun i=>cE (I.pg i));have HT:=aA (show Calls prog 48 #[.slice pa I.np pc,.func (.func 49) #[] #[]] (w.alloc (cA I V)) (lG eS iA (w.alloc (cA I V)) xs)from by rw[hxs,<-hp];exact xI I V _ IM0.out.d hnp);have HX:=aA (show ∀ a∈xs,∃ o c l,ShOk a o c l from fun a h=>by
  rw[hxs] at h;obtain⟨i,hi,rfl⟩:=List.mem_map.1 h;exact EB hI hz i (List.mem_range.1 hi))
 have XL:=aA (show xs.length<=1024 by rw[hxs];simpa using hnp);have HE:=aA (show hY I r=(xs.map (dQ r)).sum by rw[hxs];rfl);show Calls prog 51 #[.agg #[.int .u64 I.bS,.int .i64 I.lim,.int .i64 I.ord,.int .i64 I.reg,V.m,V.p,V.r,V.h,V.t],.int .u64 r] w _
 rw[hm,hp,hr',hh,ht];have EW:=aA (show(w.alloc (.cells #[.int .u64 I.bS,.int .i64 I.lim,.int .i64 I.ord,.int .i64 I.reg,.slice ma I.nm mc,.slice pa I.np pc,.slice ra I.no rc,.slice ha I.hd.length hc,.slice ta I.pt.length tc] 38 (0,0)))=w.alloc (cA I V)by rw[<-hm,<-hp,<-hr',<-hh,<-ht]);clear hm hp hr' hh ht hI hS hxs;go_enter func51,ntmps51;go_wp2_with fail;rw[EW.out];refine HT.out.mono ?_;rintro e w1 ⟨gm,D,rfl,gn,hmc,hme,hle,hk1⟩;have K1:=aA (nT K0.out hk1);have M1:=aA hmc;have ND:=aA hmc.nodup;have ME:=aA hme;clear hk1 EW hmc hme hle HT;go_wp2_with (at_range;refine tP _ rfl _ 95 rfl 101 3 Tryz.underlying95 gm rfl M1.out ?_;intro w0 hrg0 hk0 hs0)
 have I0:=aA (show UsI w w0 gm w1.heap.size D (fun a=>xs.count a) [] D 0 (dQ r)from⟨hrg0,by simp,rfl,nT K1.out (hk0.mono fun _ _ e=>e.elim)⟩);have RN:=aA (show w.heap.size<=w1.heap.size from K1.out.size);generalize w1.heap.size=rx at *;clear hrg0 hk0 hs0 gn;simp only[Act.put,List.setIfInBounds_toArray,List.set_cons_succ,List.set_cons_zero];go_loopw [5] (fun sv W=>∃ (done rest:List fL) (S:Nat),sv=.int .u64 ((S%18446744073709551616:Nat):Int)/\Hid (UsI w W gm rx D (fun a=>xs.count a) done rest S (dQ r))) (fun _ W=>W.rangeLeft gm rx)
 case atStart=>exact⟨[],D,0,rfl,I0⟩
 case round=>
  clear I0 M1;obtain⟨done,rest,S,rfl,HI⟩:=hrel;have HRL:=aA HI.out.rg.left_eq;obtain⟨q,hq⟩:=xe (S%18446744073709551616);have HQ:=aA hq;rw[<-hq];clear hq;go_wp2_with (first|(at_next;refine tN _ rfl _ rfl gm rx rest rfl HI.out.rg ?_ ?_))
  ·intro hd;have FIN:=aA (show hY I r%18446744073709551616=q from by
    rw[HQ.out,HI.out.s,HE.out];have pm:=HI.out.pm;rw[hd,List.append_nil] at pm;rw[<-QB (fun k=>xs.count k*dQ r k) pm,BJ (dQ r) D ND.out xs (fun x hx=>(ME.out x).2 hx)])
   have KF:=aA HI.out.k;clear hd HI HRL;go_wp2_with fail;go_ret;exact⟨by rw[FIN.out];rfl,KF.out⟩
  ·intro kd od cl lv rest' w2 hp hrg hk hzz hen;obtain⟨x,hx⟩:∃ x:fL,x=(kd,od,cl,lv):=⟨_,rfl⟩;rw[<-hx] at hp;obtain⟨o,c,l,hsh⟩:=HX.out x ((ME.out x).1 (HI.out.pm.mem_iff.2 (List.mem_append_right _ (hp.mem_iff.2 List.mem_cons_self))));have RM:=aA (fun W=>NN x r hsh hr W);subst hx;obtain⟨m,hm⟩:∃ m,dQ r (kd,od,cl,lv)=m:=⟨_,rfl⟩;obtain⟨n,hn⟩:∃ n,xs.count (kd,od,cl,lv)=n:=⟨_,rfl⟩;rw[hm] at RM;rw[hn] at hen ⊢;have K2:=aA (show Kt nO w w2 from HI.out.k.trans hk (fun _ _ e=>e) (fun y hy e=>by have:=RN.out;omega));have KA:=aA (show Kt nO w2 (w2.alloc (Obj.cells #[.int .i64 kd,.int .i64 od,.int .i64 cl,.int .i64 lv] 101 (0,0)))from(Kt.refl nO w2).alloc _);have NX:=aA (fun W k k2=>show UsI w W gm rx D (fun a=>xs.count a) (done ++ [(kd,od,cl,lv)]) rest' (S + n*m) (dQ r)from by rw[<-hn,<-hm];exact HI.out.next hp hrg k k2);have RL:=aA (show rest.length=rest'.length+1 by rw[hp.length_eq];rfl);have n64:n<=1024:=(by rw[<-hn];exact Nat.le_trans List.count_le_length XL.out);have w1c:IntKind.u64.wrap (n:Int)=n:=(by rw[wrap_u64];omega);obtain⟨p,hpp⟩:=xe (n*m%18446744073709551616);have w2c:IntKind.u64.wrap ((n:Int)*(m:Int))=(p:Int):=(by rw[wrap_u64,hpp];simp);obtain⟨q2,hq2⟩:=xe ((S+n*m)%18446744073709551616);have w3c:IntKind.u64.wrap ((q:Int)+(p:Int))=(q2:Int):=by
    rw[wrap_u64,hq2,hpp,HQ.out];generalize n*m=y;omega
   have HQ2:=aA hq2;clear hpp hq2;clear hm hn hp hrg hk hzz hsh;dsimp only[eS] at hen ⊢;go_wp2_with fail;refine(RM.out _).mono ?_;rintro e w5 ⟨rfl,hk5⟩;have K5:=aA (nT KA.out hk5);clear hk5;go_wp2_with fail;refine⟨⟨done ++ [(kd,od,cl,lv)],rest',S + n*m,by rw[HQ2.out],aA (NX.out _ (nT K2.out K5.out) K5.out)⟩,?_⟩;have h1:=(NX.out _ (nT K2.out K5.out) K5.out).rg.left_eq;have h2:=RL.out;have h3:=HRL.out;omega
set_option maxHeartbeats 8000000
set_option maxRecDepth 6000
def kL(k r:Nat):Bool:=mT r && (decide (16<=r) && decide (r<=4096*2 ^ k))
theorem SA(bS lim:Int)(k r:Nat)(h8:k<=8)(hr:r<18446744073709551616)(w:World):
  Calls prog 50 #[.agg #[.int .u64 bS,.int .i64 lim,.int .i64 k],.int .u64 r] w fun e w'=>e=.returned (.bool (kL k r))/\Kt nO w w':=by
 have KA:=aA (show Kt nO w (w.alloc (Obj.cells #[.int .u64 bS,.int .i64 lim,.int .i64 k] 29 (0,0)))from(Kt.refl nO w).alloc _);have IP:=aA (fun W=>YM r hr W);obtain⟨q,hq⟩:=xe (4096*2 ^ k);have E:IntKind.u64.wrap ((4096:Int)*2 ^ k)=(q:Int):=by rw[hq];exact yQ h8
 have HS:=aA (show kL k r=(mT r && (decide (16<=r) && decide (r<=q)))by rw[hq];rfl);rw[HS.out];obtain⟨b,hb⟩:=xe (mT r);rw[<-hb] at IP ⊢;clear hq hb
 cases b with
 | false=>
  go_enter func50,ntmps50;go_wp2_with fail;refine(IP.out _).mono ?_;rintro e w1 ⟨rfl,rfl⟩;go_wp2_with fail;go_ret;exact⟨rfl,KA.out⟩
 | true=>
  by_cases h16 : 16<=r
  ·have hi:(16:Int)<=(r:Int):=(by omega);rw[decide_eq_true h16];clear h16;go_enter func50,ntmps50;go_wp2_with fail;refine(IP.out _).mono ?_;rintro e w1 ⟨rfl,rfl⟩;go_wp2_with fail;go_ret;exact⟨rfl,KA.out⟩
  ·have hi:¬(16:Int)<=(r:Int):=(by omega);rw[decide_eq_false h16];clear h16;go_enter func50,ntmps50;go_wp2_with fail;refine(IP.out _).mono ?_;rintro e w1 ⟨rfl,rfl⟩;go_wp2_with fail;go_ret;exact⟨rfl,KA.out⟩
def kY(I:Img)(r:Nat):Int:=if (chk I).1=0/\kL I.ord.toNat r=true then (if I.nm=0 then 0 else ((1000*(I.nm-hY I r)/I.nm:Nat):Int)) else -1
theorem rG(I:Img)(V:ImV)(r:Nat)(hr:r<18446744073709551616)(w:World)(hI:ImD w I V)(hU:(chk I).1=0->kL I.ord.toNat r=true->hY I r<=I.nm):
  Calls prog 15 #[imA I V,.int .u64 r] w fun e w'=>e=.returned (.int .i64 (kY I r))/\Kt nO w w':=by
 obtain⟨⟨ma,mc,hm⟩,⟨pa,pc,hp⟩,⟨ra,rc,hr'⟩,⟨ha,hc,hh⟩,⟨ta,tc,ht⟩,-⟩:=hI.sl;have IM0:=aA (show ImAt (w.alloc (cA I V)) w.heap.size I V from⟨nH _ _,hI.keep ((Kt.refl _ w).alloc _)⟩);have K0:=aA (show Kt nO w (w.alloc (cA I V))from(Kt.refl _ w).alloc _);have HCK:=aA (show Calls prog 47 #[.agg #[.int .u64 I.bS,.int .i64 I.lim,.int .i64 I.ord,.int .i64 I.reg,V.m,V.p,V.r,V.h,V.t]] (w.alloc (cA I V)) fun e w'=>e=.returned (.bool ((chk I).1 == 0))/\Kt nO (w.alloc (cA I V)) w' from tX I V (w.alloc (cA I V)) IM0.out.d);have HUS:=aA (show ∀ W,ImD W I V->(chk I).1=0->Calls prog 51 #[.agg #[.int .u64 I.bS,.int .i64 I.lim,.int .i64 I.ord,.int .i64 I.reg,V.m,V.p,V.r,V.h,V.t],.int .u64 r] W fun e w'=>e=.returned (.int .u64 ((hY I r%18446744073709551616:Nat):Int))/\Kt nO W w' from fun W h1 h2=>YI I V r hr W h1 h2);have VM:=aA hm;show Calls prog 15 #[.agg #[.int .u64 I.bS,.int .i64 I.lim,.int .i64 I.ord,.int .i64 I.reg,V.m,V.p,V.r,V.h,V.t],.int .u64 r] w _
 rw[hm,hp,hr',hh,ht] at HCK HUS ⊢;have EW:=aA (show(w.alloc (.cells #[.int .u64 I.bS,.int .i64 I.lim,.int .i64 I.ord,.int .i64 I.reg,.slice ma I.nm mc,.slice pa I.np pc,.slice ra I.no rc,.slice ha I.hd.length hc,.slice ta I.pt.length tc] 38 (0,0)))=w.alloc (cA I V)by rw[<-hm,<-hp,<-hr',<-hh,<-ht]);have VS:=aA (show V.p=_/\V.r=_/\V.h=_/\V.t=_ from⟨hp,hr',hh,ht⟩);clear hm hp hr' hh ht hI;by_cases hz:(chk I).1=0
 case neg=>
  have f0:((chk I).1 == 0)=false:=by rw[beq_eq_false_iff_ne];exact hz
  have E:=aA (show kY I r = -1 by unfold kY;rw[if_neg (fun h=>hz h.1)]);rw[E.out];rw[f0] at HCK;clear hz f0 hU;go_enter func15,ntmps15;go_wp2_with fail;rw[EW.out];refine HCK.out.mono ?_;rintro e w1 ⟨rfl,hk1⟩;have K1:=aA (nT K0.out hk1);clear hk1 EW;go_wp2_with fail;go_ret;exact⟨rfl,K1.out⟩
 have f0:((chk I).1 == 0)=true:=by rw[beq_iff_eq];exact hz
 rw[f0] at HCK;obtain⟨_,hS⟩:=oO hz;have hk8:=hS.k8;have hord:=hS.ord;obtain⟨k,hk⟩:=xe (I.ord.toNat);rw[<-hk] at hord hk8 hU;have HIS:=aA (fun W=>SA (I.bS:Int) I.lim k r hk8 hr W);have EQ:=aA (show kY I r=if kL k r=true then (if I.nm=0 then 0 else ((1000*(I.nm-hY I r)/I.nm:Nat):Int)) else -1 by
  unfold kY;rw[<-hk];by_cases h:kL k r=true
  ·rw[if_pos ⟨hz,h⟩,if_pos h]
  ·rw[if_neg (fun x=>h x.2),if_neg h])
 have HO:=aA hord;have HZ:=aA hz;have HU:=aA (hU hz);have nm22:I.nm<=4194304:=by have:=hS.nm;have:=hS.np1;omega
 clear hU hz f0 hS hk hord;rw[EQ.out];obtain⟨b,hb⟩:=xe (kL k r);rw[<-hb] at HIS HU ⊢;obtain⟨A,hA⟩:∃ A:Int,A=if b=true then (if I.nm=0 then 0 else ((1000*(I.nm-hY I r)/I.nm:Nat):Int)) else -1:=⟨_,rfl⟩;rw[<-hA];have HA:=aA hA;clear hb EQ hA;go_enter func15,ntmps15;go_wp2_with fail;rw[EW.out];refine HCK.out.mono ?_;rintro e w1 ⟨rfl,hk1⟩;have K1:=aA (nT K0.out hk1);have IM1:=aA (IM0.out.keep hk1);clear hk1 EW;generalize w.alloc (cA I V)=W0 at *;generalize w.heap.size=ib at *;obtain⟨c0,c1,c2,c3,c4,c5,c6,c7,c8⟩:=IM1.out.cells;rw[HO.out] at c2;go_wp2_with fail;refine(HIS.out _).mono ?_;rintro e w2 ⟨rfl,hk2⟩;have K2:=aA (nT K1.out hk2);have IM2:=aA (IM1.out.keep hk2);clear hk2 c0 c1 c2 c3 c4 c5 c6 c7 c8
 cases b with
 | false=>
  have A0:=aA (show A = -1 by rw[HA.out];rfl);go_wp2_with fail;go_ret;exact⟨by rw[A0.out];rfl,K2.out⟩
 | true=>
  obtain⟨c0,c1,c2,c3,c4,c5,c6,c7,c8⟩:=IM2.out.cells;rw[VM.out] at c4;rw[VS.out.1] at c5;rw[VS.out.2.1] at c6;rw[VS.out.2.2.1] at c7;rw[VS.out.2.2.2] at c8;have US:=aA (HUS.out w2 IM2.out.d HZ.out);have hu:=HU.out rfl;obtain⟨nm,hnm⟩:=xe (I.nm);have HA2:=aA (show A=if nm=0 then 0 else ((1000*(nm-hY I r)/nm:Nat):Int)by rw[HA.out,if_pos rfl,hnm]);rw[<-hnm] at nm22 hu c4 US VM;have w1c:IntKind.u64.wrap (nm:Int)=nm:=by rw[wrap_u64];omega
  clear hnm;by_cases h0:nm=0
  ·have f0:((nm:Int) == 0)=true:=(by rw[beq_iff_eq];omega);have A0:=aA (show A=0 by rw[HA2.out,if_pos h0]);clear h0;go_wp2_with fail;go_ret;exact⟨by rw[A0.out];rfl,K2.out⟩
  ·have f0:((nm:Int) == 0)=false:=(by rw[beq_eq_false_iff_ne];omega);obtain⟨u,hu2⟩:=xe (hY I r);rw[<-hu2] at US hu;have A1:=aA (show A=((1000*(nm-u)/nm:Nat):Int)by rw[HA2.out,if_neg h0,hu2]);obtain⟨u',hu'⟩:=xe (u%18446744073709551616);rw[<-hu'] at US;obtain⟨d,hd⟩:=xe (nm-u);have w2c:IntKind.u64.wrap ((nm:Int)-(u':Int))=(d:Int):=(by rw[wrap_u64];omega);have w3c:IntKind.u64.wrap ((1000:Int)*(d:Int))=((1000*d:Nat):Int):=(by rw[wrap_u64];omega);obtain⟨y,hy⟩:=xe (1000*d);rw[<-hy] at w3c;obtain⟨z,hzz⟩:=xe (y/nm);have w4c:(y:Int)/(nm:Int)=z:=(by rw[hzz];simp);have w5c:(y:Int).tdiv (nm:Int)=z:=(by rw[Int.tdiv_eq_ediv_of_nonneg (by omega)];exact w4c);have hz2:z<=y:=(by rw[hzz];exact Nat.div_le_self _ _);have hyb:y<=4194304000:=(by omega);have W6:=aA (show wrap64 (z:Int)=z by rw[wrap64];omega);have w7c:IntKind.u64.wrap (z:Int)=z:=(by rw[wrap_u64];omega);have n0:¬(nm:Int)=0:=(by omega);have A2:=aA (show A=(z:Int)by rw[A1.out,<-hd,<-hy,hzz]);clear h0 hu2 hu' hd hy hzz hu;go_wp2_with fail;refine US.out.mono ?_;rintro e w3 ⟨rfl,hk3⟩;have K3:=aA (nT K2.out hk3);clear hk3 hk8 hr nm22 hz2 hyb w1c;clear w5c;go_wp2_with fail;go_ret;refine⟨?_,K3.out⟩;show Ending.returned (.int .i64 (wrap64 (z:Int)))=_
   rw[W6.out,A2.out]
set_option maxHeartbeats 8000000
set_option maxRecDepth 6000
def pW(I:Img):List fL:=(List.range I.np).map fun i=>cE (I.pg i)
def lD(I:Img)(k:Nat):Nat:=(pW I).count (0,(k:Int),0,0)
theorem UJ:(prog.info? 3).map (fun i=>(i.zero,i.size,i.bytes))=some (some (.int .i64 0),1,8):=by kernel_rfl
def qE(w:World)(I:Img)(e:Ending)(w':World):Prop:=((chk I).1≠0/\e=.returned (.slice none 0 0)/\Kt nO w w')\/((chk I).1=0/\∃ g m,m=I.ord.toNat+1/\m<=9/\e=.returned (.slice (some ⟨g,0,none⟩) m m)/\XR w.heap.size w' (.slice (some ⟨g,0,none⟩) m m) m 3 m (fun j=>.int .i64 ((lD I j:Nat):Int))/\Kt nO w w')
theorem VU(I:Img)(V:ImV)(w:World)(hI:ImD w I V):Calls prog 14 #[imA I V] w (qE w I):=by
 obtain⟨⟨ma,mc,hm⟩,⟨pa,pc,hp⟩,⟨ra,rc,hr⟩,⟨ha,hc,hh⟩,⟨ta,tc,ht⟩,-⟩:=hI.sl;have IM0:=aA (show ImAt (w.alloc (cA I V)) w.heap.size I V from⟨nH _ _,hI.keep ((Kt.refl _ w).alloc _)⟩);have K0:=aA (show Kt nO w (w.alloc (cA I V))from(Kt.refl _ w).alloc _);have HCK:=aA (show Calls prog 47 #[.agg #[.int .u64 I.bS,.int .i64 I.lim,.int .i64 I.ord,.int .i64 I.reg,V.m,V.p,V.r,V.h,V.t]] (w.alloc (cA I V)) fun e w'=>e=.returned (.bool ((chk I).1 == 0))/\Kt nO (w.alloc (cA I V)) w' from tX I V (w.alloc (cA I V)) IM0.out.d);have SP:=aA hp;obtain⟨ru,hru⟩:=xe ((chk I).1);rw[<-hru] at HCK;show Calls prog 14 #[.agg #[.int .u64 I.bS,.int .i64 I.lim,.int .i64 I.ord,.int .i64 I.reg,V.m,V.p,V.r,V.h,V.t]] w _
 rw[hm,hp,hr,hh,ht] at HCK ⊢;have HRU:=aA hru;clear hru;have EW:=aA (show(w.alloc (.cells #[.int .u64 I.bS,.int .i64 I.lim,.int .i64 I.ord,.int .i64 I.reg,.slice ma I.nm mc,.slice pa I.np pc,.slice ra I.no rc,.slice ha I.hd.length hc,.slice ta I.pt.length tc] 38 (0,0)))=w.alloc (cA I V)by rw[<-hm,<-hp,<-hr,<-hh,<-ht]);clear hm hp hr hh ht hI;go_enter func14,ntmps14;go_wp2_with fail;rw[EW.out];refine HCK.out.mono ?_;rintro e w1 ⟨rfl,hk1⟩;have IM1:=aA (IM0.out.keep hk1);have K1:=aA (nT K0.out hk1);clear hk1 EW;generalize w.alloc (cA I V)=W0 at *;generalize hib:w.heap.size=ib at *;have HIB:=aA hib;clear hib;by_cases h0:ru=0
 case neg=>
  have f0:(ru == 0)=false:=by rw[beq_eq_false_iff_ne];exact h0
  have HN0:=aA (show(chk I).1≠0 by rw[<-HRU.out];exact h0);rw[f0];clear h0 f0;go_wp2_with fail;go_ret;exact .inl ⟨HN0.out,rfl,K1.out⟩
 have f0:(ru == 0)=true:=by rw[beq_iff_eq];exact h0
 have hz:(chk I).1=0:=by rw[<-HRU.out];exact h0
 have HZ0:=aA hz;obtain⟨r,hS⟩:=oO hz;have HS:=aA hS;have hnp:=hS.np1;have hk8:=hS.k8;have hord:=hS.ord;obtain⟨n,hn⟩:=xe (I.np);obtain⟨k,hk⟩:=xe (I.ord.toNat);rw[<-hn] at hnp SP;rw[<-hk] at hord hk8 HS;have HN:=aA hn;have HO:=aA hord;rw[f0];have HK:=aA hk;clear h0 f0 hz hS hn hk hord;have HT:=aA (show Calls prog 48 #[V.p,.func (.func 49) #[] #[]] w1 (lG eS iA w1 (pW I))from xI I V w1 IM1.out.d (by rw[<-HN.out];exact hnp));rw[SP.out] at HT;have okk:=aA (show ∀ j:Nat,j<=8->iA (0,(j:Int),0,0)from fun j hj=>by simp[iA,N64];omega);obtain⟨c0,c1,c2,c3,c4,c5,c6,c7,c8⟩:=IM1.out.cells;rw[SP.out] at c5;rw[HO.out] at c2;go_wp2_with fail;rw[<-HN.out];refine HT.out.mono ?_;rintro e w2 ⟨gm,D,rfl,gn,hmc,hme,hle,hk2⟩;have IM2:=aA (IM1.out.keep hk2);have K2:=aA (nT K1.out hk2);obtain⟨m,hm⟩:=xe (k+1);have hm9:m<=9:=by omega
 have NEW:=aA (show w.heap.size<w2.heap.size from by rw[HIB.out];exact lH IM2.out.bx);obtain⟨w3,mk3,x3,k3,z3⟩:=IE 36 3 (.int .i64 0) 1 8 Tryz.underlying36 UJ rfl m (by omega) (by omega) w.heap.size w2 NEW.out;have GE:=aA (show w.heap.size<=w2.heap.size from Nat.le_of_lt NEW.out);have X3:=aA (x3.congr (G:=fun j=>if j<0 then .int .i64 ((lD I j:Nat):Int) else .int .i64 0) (fun j hj=>by rw[if_neg (by omega),Nat.mod_one];rfl));rw[Nat.mul_one] at X3;have M3:=aA (hmc.kept k3 (fun x=>x));have K3:=aA (nT K2.out k3);have IM3:=aA (IM2.out.keep k3);have GT:=aA (MC.at hmc);have GL:=aA hmc.ltsz;have HM:=aA hm;clear hmc hme hle hk2 x3 k3 c0 c1 c2 c3 c4 c5 c6 c7 c8;obtain⟨c0,c1,c2,c3,c4,c5,c6,c7,c8⟩:=IM2.out.cells;rw[HO.out] at c2;have hw1:wrap64 ((k:Int)+1)=(m:Int):=by rw[wrap64];omega
 have hm1:(k:Int)+1=(m:Int):=by omega
 clear hm;go_wp2_with fail;clear c0 c1 c2 c3 c4 c5 c6 c7 c8 hw1 hm1 mk3;generalize hgl:w2.heap.size=gl at *;have HGL:=aA hgl;clear hgl;go_loopw [19] (fun iv W=>∃ a:Nat,a<=m/\iv=.int .i64 a/\Hid (XR ib W (.slice (some ⟨gl,0,none⟩) m m) m 3 m (fun j=>if j<a then .int .i64 ((lD I j:Nat):Int) else .int .i64 0)/\MC eS iA W gm D (fun x=>(pW I).count x)/\Kt nO w W)) (fun iv _=>m-(intOf iv).toNat)
 case atStart=>exact⟨0,Nat.zero_le _,rfl,aA ⟨by rw[<-HIB.out];exact X3.out,M3.out,K3.out⟩⟩
 case round=>
  clear X3 M3 K3 IM3;obtain⟨a,ha,rfl,HI⟩:=hrel;by_cases hlt:a<m
  ·have hai:(a:Int)<m:=(by omega);have cg:=HI.out.1.cell hlt;rw[if_neg (Nat.lt_irrefl _)] at cg;have fz:=HI.out.1.frz a;have OKA:=aA (okk.out a (by omega));have MM:=aA HI.out.2.1;have NE:=aA (show gm≠gl from fun e=>by
    obtain⟨es,cl,q1⟩:=MC.at HI.out.2.1;obtain⟨b,cs,_,q2,q3,_⟩:=HI.out.1
    cases q2
    rw[e,q3] at q1
    cases q1)
   obtain⟨c,hc⟩:∃ c,lD I a=c:=⟨_,rfl⟩;have HC:=aA (show(pW I).count ((0,(a:Int),0,0):fL)=c from hc);have KS:=aA ((Kt.refl (fun z=>z=gl) wr).setCell (p:=⟨gl,a,none⟩) rfl (.int .i64 c));have XN:=aA ((HI.out.1.put hlt (.int .i64 c)).congr (G:=fun j=>if j<a+1 then .int .i64 ((lD I j:Nat):Int) else .int .i64 0) (fun j hj=>by
    show(if j=a then _ else _)=(if j<a+1 then _ else _)
    by_cases e:j=a
    ·subst e;rw[if_pos rfl,if_pos (Nat.lt_succ_self _),hc]
    ·rw[if_neg e];by_cases e2:j<a
     ·rw[if_pos e2,if_pos (by omega)]
     ·rw[if_neg e2,if_neg (by omega)]))
   have KN:=aA (HI.out.2.2.trans KS.out (fun _ _ e=>e) (fun x hx e=>by
    obtain⟨b,cs,q0,q2,_⟩:=HI.out.1
    cases q2
    have:=HIB.out;omega))
   have HA1:=aA (show a+1<=m from hlt);clear hc hlt;go_wp2_with (at_lookup;refine oP _ rfl _ _ 95 rfl 101 3 qF Tryz.underlying95 (kV _) gm rfl MM.out (0,(a:Int),0,0) OKA.out rfl c HC.out ?_)
   refine⟨⟨a+1,HA1.out,by simp,aA ⟨XN.out,MM.out.kept KS.out NE.out,KN.out⟩⟩,by simp[intOf];omega⟩
  ·have hai:¬(a:Int)<m:=(by omega);have ea:a=m:=(by omega);have XF:=aA (show XR ib wr (.slice (some ⟨gl,0,none⟩) m m) m 3 m (fun j=>.int .i64 ((lD I j:Nat):Int))from HI.out.1.congr fun j hj=>by rw[if_pos (by omega)]);have KF:=aA HI.out.2.2;clear HI;go_wp2_with fail;go_ret;exact .inr ⟨HZ0.out,gl,m,by rw[HM.out,HK.out],hm9,rfl,by rw[HIB.out];exact XF.out,KF.out⟩
end Go.Proofs.YtkfmheelhinjdaaGreatDoor.W
