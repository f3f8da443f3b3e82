import Derived.Test.YtkfmheelhinjdaaGreatDoorWs
import Derived.Test.YtkfmheelhinjdaaGreatDoorWr
import Derived.Test.YtkfmheelhinjdaaGreatDoorRows
import Derived.Test.YtkfmheelhinjdaaGreatDoorCards
import Derived.Test.YtkfmheelhinjdaaGreatDoorTie
import Derived.ProofKit
import Derived.LaidMore
import Derived.LaidSub
import Derived.OpenShut
import Derived.ShutString
import Derived.ChangeOld
import Derived.Below
import Derived.Stop.Joined
import Derived.Lib.LaidTab
import Derived.SevenTiedAt
import Derived.Deep.Slices
set_option maxRecDepth 1000000
set_option maxHeartbeats 80000000
namespace Go.Proofs.YtkfmheelhinjdaaGreatDoor.W
open _root_.Go.Proofs.Tryz
open Go.RowKit Go.Sort
set_option linter.unusedVariables false
set_option maxHeartbeats 8000000
set_option maxRecDepth 6000
theorem GB.put21{w0 W:World}{v:Value}{l:List (Nat×Nat)}(h:GB w0 W v l)(a s:Nat)(hn:l.length<=8796093022207):
  ∃ g cap w',(∀ t,(Builtin.append_ #[46,46] t #[v,.slice (some ⟨W.heap.size,0,none⟩) 1 1]).run prog (W.alloc (cG a s))=.ok (.slice (some ⟨g,0,none⟩) (l.length + 1) cap) w')/\GB w0 w' (.slice (some ⟨g,0,none⟩) (l.length + 1) cap) (l ++ [(a,s)])/\Kt (fun b=>v.ownBlock=some b) W w'/\(v.ownBlock=some g\/W.heap.size<=g):=by
 obtain⟨i,hi,hzz⟩:=Option.map_eq_some_iff.1 pM;simp only[Prod.mk.injEq] at hzz;have ka:=(Kt.refl nO W).alloc (cG a s);obtain⟨g,cap,w',h1,h2,h5,h6,h7⟩:=(GS.keep h ka).pushM 46 i (.agg #[.int .u64 0,.int .u64 0]) 16 Tryz.underlying46 hi hzz.1 hzz.2.1 hzz.2.2 rfl (by decide) ⟨W.heap.size,0,none⟩ 1 1 (by decide) [.int .u64 a,.int .u64 s] rfl (fun j u hj=>mK (cs:=#[.int .u64 a,.int .u64 s]) j u hj) (by simp[Value.oneCell']) (by simp only[maxLen];omega) (by omega);refine⟨g,cap,w',h1,?_,ka.trans h6 (fun _ _ e=>e.elim) (fun _ _ e=>e),h7.imp id (fun h=>by simp at h;omega)⟩;show GS _ _ _ _ _ (l ++ [(a,s)]).length (blV (l ++ [(a,s)]))
 rw[nM,List.length_append];exact h2
theorem GB.ownT{w0 W:World}{v:Value}{l:List (Nat×Nat)}(h:GB w0 W v l){x:Nat}(hx:v.ownBlock=some x):(∃ cs,W.heap[x]?=some (.cells cs 45 (0,0)))/\w0.heap.size<=x:=by
 rcases h.own.2 with ⟨rfl,_⟩|⟨g,cap,cur,rfl,hb,hg,h3⟩
 ·simp[Value.ownBlock] at hx
 ·simp[Value.ownBlock] at hx;rw[<-hx];exact⟨⟨cur,hg⟩,h.new g cap rfl⟩
theorem GB.iter{w W W':World}{v:Value}{l:List (Nat×Nat)}{r:Nat}(h:GB w W v l)(hk:Kt (fun x=>x=r) W W')(hr:w.heap.size<=r)(hi:∃ m s n q,W.heap[r]?=some (.mapIter m s n q)):GB w W' v l:=by
 refine⟨⟨h.own.1,?_⟩,h.new,h.kp.trans hk (fun _ _ e=>e) (fun x hx e=>by omega)⟩;rcases h.own.2 with h0|⟨g,cap,cur,rfl,hb,hg,h3⟩
 ·exact .inl h0
 ·refine .inr ⟨g,cap,cur,rfl,hb,(hk.block g (lH hg) (fun e=>?_)).trans hg,h3⟩;subst e;obtain⟨_,_,_,_,q2⟩:=hi;rw[hg] at q2
  cases q2
structure SrB(w W:World)(g r:Nat)(D:List (Nat×Nat))(c:Nat×Nat->Nat)(done rest:List (Nat×Nat))(v:Value):Prop where
 rg:RC eB W g r D c rest
 pm:D.Perm (done ++ rest)
 gs:GB w W v done
 gl:g<w.heap.size
 rn:w.heap.size<=r
theorem SrB.next{w W w1 w2:World}{g r:Nat}{D:List (Nat×Nat)}{c:Nat×Nat->Nat}{done rest rest':List (Nat×Nat)}{v v':Value}{x:Nat×Nat}(h:SrB w W g r D c done rest v)(hp:rest.Perm (x :: rest'))(hr:RC eB w1 g r D c rest')(g1:GB w w1 v done)(k2:Kt (fun b=>v.ownBlock=some b) w1 w2)(g2:GB w w2 v' (done ++ [x])):SrB w w2 g r D c (done ++ [x]) rest' v':=by
 refine⟨hr.kept k2 (fun e=>?_) (fun e=>?_),h.pm.trans ?_,g2,h.gl,h.rn⟩
 ·have:=(GB.ownT g1 e).2;have:=h.gl;omega
 ·obtain⟨⟨cs,q⟩,-⟩:=GB.ownT g1 e;obtain⟨_,_,_,_,q2⟩:=RC.iter hr;rw[q] at q2
  cases q2
 ·rw[List.append_assoc];exact List.Perm.append_left _ hp
def BoP(w:World)(D:List (Nat×Nat))(e:Ending)(w':World):Prop:=∃ oa oc,∃ ks:List (Nat×Nat),e=.returned (.slice oa ks.length oc)/\GB w w' (.slice oa ks.length oc) ks/\ks.Perm D/\ks.Pairwise gT
theorem OU(g:Nat)(D:List (Nat×Nat))(c:Nat×Nat->Nat)(w:World)(hm:MC eB fY w g D c)(hl:D.length<=8796093021952):
  Calls prog 97 #[.map (some g),.func (.func 61) #[] #[]] w (BoP w D):=by
 have eg:∀ args w,(callFunc 61 args).run prog w=.ok (.enter 61 args) w:=enters_of func61 (by kernel_rfl) rfl;obtain⟨n,hn⟩:=xe (D.length);rw[<-hn] at hl;obtain⟨i,hi,hzz⟩:=Option.map_eq_some_iff.1 pM;simp only[Prod.mk.injEq] at hzz;obtain⟨w1,mk1,own1,gr1⟩:=run_make_own (P:=prog) w 0 46 45 i (.agg #[.int .u64 0,.int .u64 0]) 2 Tryz.underlying46 hi hzz.1 hzz.2.1 .i64 .i64 n (by rw[hzz.2.2];omega) (by unfold maxLen;omega) (Nat.zero_le _);have K1:=aA (show Kt nO w w1 from(kX gr1).mono fun _ _ e=>by cases e);have G1:=aA (show GB w w1 (.slice (some ⟨w.heap.size,0,none⟩) 0 n) [] from⟨own1,fun g cap e=>by simp at e;omega,K1.out⟩);have M0:=aA hm;have M1:=aA (hm.kept K1.out (fun x=>x));have GL:=aA hm.ltsz;have HN:=aA hn;have len0:∀ ty,(Builtin.len_ #[112] ty #[.map (some g)]).run prog w=.ok (.int .i64 n) w:=fun ty=>by rw[hn];exact hm.len Tryz.underlying112 ty
 clear hi hzz own1 gr1 hm hn;go_enter func97,ntmps97;go_wp2_with (first|(at_range;refine tP _ rfl _ 112 rfl 45 3 Tryz.underlying112 g rfl M1.out ?_;intro w0 hrg0 hk0 hs0))
 have I0:=aA (show SrB w w0 g w1.heap.size D c [] D (.slice (some ⟨w.heap.size,0,none⟩) 0 n)from⟨hrg0,by simp,G1.out.keep (hk0.mono fun _ _ e=>e.elim),GL.out,K1.out.size⟩);generalize w1.heap.size=rx at *;clear hrg0 hk0 hs0 mk1 len0;simp only[Act.put,List.setIfInBounds_toArray,List.set_cons_succ,List.set_cons_zero];go_loopw [5] (fun tv W=>∃ (done rest:List (Nat×Nat)) (gb cap:Nat),tv=.slice (some ⟨gb,0,none⟩) done.length cap/\Hid (SrB w W g rx D c done rest (.slice (some ⟨gb,0,none⟩) done.length cap))) (fun _ W=>W.rangeLeft g rx)
 case atStart=>exact⟨[],D,_,n,rfl,I0⟩
 case round=>
  clear I0 K1 M1 G1 M0;obtain⟨done,rest,gb,cap,rfl,HI⟩:=hrel;have HRL:=aA HI.out.rg.left_eq;have DL:=aA (show done.length+rest.length=n by have:=HI.out.pm.length_eq;rw[List.length_append] at this;rw[HN.out];omega);go_wp2_with (first|(at_next;refine tN _ rfl _ rfl g rx rest rfl HI.out.rg ?_ ?_))
  ·intro hd;obtain⟨hH,hgl,hS⟩:=GB.sorted HI.out.gs;have hcon:=AnyQ.slices_SortFunc_total DZ 2 Tryz.isAgg45 Tryz.sizeOf45 gA (fun _=>rfl) (fun x v hv=>by simp[gA] at hv;rcases hv with rfl|rfl <;> rfl) eZ uX 61 #[] gb 0 cap done.toArray wr eg (fun _ _ _ _ x y=>VL x y _) hH hgl (by have:=DL.out;simp;omega) uV;obtain⟨ks,hks⟩:=xe (done.mergeSort fun x y=>!(ltOf eZ) y x);have SC:=aA (show Calls prog 142 #[.slice (some ⟨gb,0,none⟩) done.length cap,.func (.func 61) #[] #[]] wr fun e w'=>e=.returned (.tuple #[])/\∃ n os,w'=sortWorldK gA 2 wr gb 0 n ks.toArray os from by rw[hks];exact hcon);have KL:=aA (show ks.length=done.length by rw[hks,List.length_mergeSort]);have KP:=aA (show ks.Perm D by
    rw[hks];have:=HI.out.pm;rw[hd,List.append_nil] at this;exact(List.mergeSort_perm _ _).trans this.symm)
   have KW:=aA (show ks.Pairwise gT by
    rw[hks];have:=List.pairwise_mergeSort (le:=fun x y=>!(ltOf eZ) y x) (fun a b c h1 h2=>by simp only[gS,Bool.not_eq_true',decide_eq_false_iff_not] at *;unfold jD at *;omega) (fun a b=>by simp only[gS,Bool.or_eq_true,Bool.not_eq_true',decide_eq_false_iff_not];unfold jD;omega) done;refine this.imp fun {a b} h=>?_
    rw[gS] at h;simp only[Bool.not_eq_true',decide_eq_false_iff_not] at h;exact YJ h)
   have HS:=aA (fun n os=>hS n ks os KL.out);clear hcon hH hgl hS hks hd;go_wp2_with fail;refine SC.out.mono ?_;rintro e w9 ⟨rfl,q,os,rfl⟩;have FIN:=aA (HS.out q os).1;generalize sortWorldK gA 2 wr gb 0 q ks.toArray os=W9 at *;rw[<-KL.out];go_wp2_with fail;go_ret;exact⟨_,_,ks,rfl,FIN.out,KP.out,KW.out⟩
  ·intro p s rest' w2 hp hrg hk hz hen;have G2:=aA (GB.iter HI.out.gs hk HI.out.rn (RC.iter HI.out.rg));have RL:=aA (show rest.length=rest'.length+1 by rw[hp.length_eq];rfl);have R2:=aA hrg;have P2:=aA hp;have HEN:=aA hen;clear hp hrg hk hz hen;have hen:=HEN.out;obtain⟨g4,cap4,w4,ap4,t4,k4,-⟩:=GB.put21 (G2.out.keep ((Kt.refl nO w2).alloc (cG p s))) p s (by have:=DL.out;omega);rw[show(w2.alloc (cG p s)).heap.size=w2.heap.size+1 by simp] at ap4;have AP4:=aA ap4;have N4:=aA (HI.out.next P2.out R2.out G2.out (((Kt.refl nO w2).alloc (cG p s)).trans k4 (fun _ _ e=>e.elim) (fun _ _ e=>e)) t4);clear ap4 t4 k4;go_wp2_with (at_builtin;refine Lib.wpList_append_run _ rfl _ _ _ _ rfl (.slice (some ⟨gb,0,none⟩) done.length cap) _ rfl rfl _ _ (AP4.out _) ?_)
   refine⟨⟨done ++ [(p,s)],rest',g4,cap4,by simp,aA (by have:=N4.out;simpa using this)⟩,?_⟩;have h1:=N4.out.rg.left_eq;have h2:=RL.out;have h3:=HRL.out;omega
set_option maxHeartbeats 8000000
set_option maxRecDepth 6000
theorem DO{a D ks:List (Nat×Nat)}(hD:D.Nodup)(hm:∀ x,x∈D↔x∈a)(pm:ks.Perm D):ks.Nodup/\∀ x,x∈ks↔x∈a:=⟨pm.nodup_iff.2 hD,fun x=>pm.mem_iff.trans (hm x)⟩
def CP(w:World)(a b:List (Nat×Nat))(e:Ending)(w':World):Prop:=∃ oa oc,∃ l:List (Nat×Nat),e=.returned (.slice oa l.length oc)/\GB w w' (.slice oa l.length oc) l/\lY a b l
theorem yG(g1 g2:Nat)(D1 D2 a b:List (Nat×Nat))(w:World)(h1:MC eB fY w g1 D1 (fun x=>a.count x))(hm1:∀ x,x∈D1↔x∈a)(h2:MC eB fY w g2 D2 (fun x=>b.count x))(hla:a.length<=8796093021952)(hlb:b.length<=8796093021952)(hle:D1.length<=a.length):
  Calls prog 60 #[.map (some g1),.map (some g2),.func (.func 61) #[] #[]] w (CP w a b):=by
 have SO:=aA (OU g1 D1 _ w h1 (by omega));have ND:=aA h1.nodup;have ME:=aA hm1;have M1:=aA h1;have M2:=aA h2;have HB:=aA h1.lt;have LA:=aA hla;have LB:=aA hlb;clear h1 hm1 h2 hle hla hlb;go_enter func60,ntmps60;go_wp2_with fail;refine SO.out.mono ?_;rintro e w1 ⟨oa,oc,ks,rfl,us,pm,srt⟩;have KN:=aA (DO ND.out ME.out pm);have KS:=aA srt;have K1:=aA us.kp;have RK:=aA (GB.rb us);have HK:=aA (fun x hx=>HB.out x (pm.mem_iff.1 hx));obtain⟨f,hf⟩:∃ f:Nat×Nat->Nat,f=fun x=>a.count x-b.count x:=⟨_,rfl⟩
 have FN:=aA hf;have BL:=aA (fun i=>show(fB f (ks.take i)).length<=8796093021952 from by
  have:=MV f a (ks.take i) ((List.take_sublist i ks).nodup KN.out.1) (fun x=>by rw[hf];exact Nat.sub_le _ _);have:=LA.out;omega)
 obtain⟨n,hn⟩:∃ n,ks.length=n:=⟨_,rfl⟩;have HN:=aA hn;rw[hn];rw[hn] at RK;have NB:=aA (show n<=8796093021952 from by
  have:=zZ (l:=ks) (m:=a) fun x=>by
   by_cases hx:x∈ks
   ·have h9:=List.count_pos_iff.2 ((KN.out.2 x).1 hx);have h8:ks.count x<=1:=List.nodup_iff_count.1 KN.out.1 x;omega
   ·rw[List.count_eq_zero.2 hx];exact Nat.zero_le _
  have:=LA.out;omega)
 clear us pm srt SO hf hn;have nb:=NB.out;go_wp2_with fail;go_loopw [7,14] (fun tv iv W=>∃ (i:Nat) (l:List (Nat×Nat)) (ta:Option Addr) (tc:Nat),i<=n/\iv=.int .i64 i/\tv=.slice ta l.length tc/\Hid (l=fB f (ks.take i)/\GB w1 W (.slice ta l.length tc) l)) (fun _ iv _=>n-(intOf iv).toNat)
 case atStart=>exact⟨0,[],none,0,Nat.zero_le _,rfl,rfl,aA ⟨by simp[fB],GS.nil _ _ _ _ (Kt.refl _ _)⟩⟩
 case round=>
  obtain⟨i,l,ta,tc,hi,rfl,rfl,HI⟩:=hrel;have LL:=aA (show l.length<=8796093021952 from by rw[HI.out.1];exact BL.out i);by_cases hlt:i<n
  ·have hai:(i:Int)<n:=(by omega);obtain⟨kg,kc,ev,r0,r1⟩:=RBk.two (l:=ks) (RK.out.keep HI.out.2.kp) i (by rw[HN.out];exact hlt);rw[HN.out] at ev;injection ev with e1 e2 e3
   subst e1 e3;obtain⟨k,hk⟩:∃ k,ks.getD i (0,0)=k:=⟨_,rfl⟩;have hks:ks[i]?=some k:=(by rw[<-hk,List.getD_eq_getElem?_getD,List.getElem?_eq_getElem (by rw[HN.out];exact hlt)];rfl);have TK:=aA (show ks.take (i + 1)=ks.take i ++ [k] by rw[List.take_add_one,hks];rfl);have OK:=aA (HK.out k (List.mem_of_getElem? hks));rw[hk] at r0 r1;obtain⟨p,s⟩:=k;dsimp only at r0 r1;obtain⟨ca,hca⟩:∃ ca,a.count (p,s)=ca:=⟨_,rfl⟩;obtain⟨cb,hcb⟩:∃ cb,b.count (p,s)=cb:=⟨_,rfl⟩;have HCA:=aA hca;have HCB:=aA hcb;have FE:=aA (show f (p,s)=ca-cb by rw[FN.out,<-hca,<-hcb]);have CB1:=aA (show ca<=8796093021952 by rw[<-hca];exact Nat.le_trans List.count_le_length LA.out);have CB2:=aA (show cb<=8796093021952 by rw[<-hcb];exact Nat.le_trans List.count_le_length LB.out);clear hca hcb hks hk;obtain⟨d,hd⟩:∃ d:Int,(ca:Int)-(cb:Int)=d:=⟨_,rfl⟩;have hdw:IntKind.i64.wrap ((ca:Int)-(cb:Int))=d:=(by rw[IntKind.wrap_i64];have:=CB1.out;have:=CB2.out;omega);have FD:=aA (show f (p,s)=d.toNat by rw[FE.out];omega);have DB:=aA (show d.toNat<=8796093021952 by have:=CB1.out;omega);go_upto_region 5 with fail;have KB:=aA ((Kt.refl nO wr).alloc (cG p s));have PB:=aA (nH wr (cG p s));have NO:=aA (show(Value.slice ta l.length tc).ownBlock≠some wr.heap.size from fun e=>by
    obtain⟨⟨cs,q⟩,-⟩:=GB.ownT HI.out.2 e;have:=lH q;omega)
   have G1:=aA (HI.out.2.keep KB.out);have L1:=aA (fun x:KW (wr.alloc (cG p s))=>(M1.out.kept (nT K1.out (nT HI.out.2.kp (nT KB.out x.k))) id).look jR Tryz.underlying112 (kV _) (p,s) OK.out);have L2:=aA (fun x:KW (wr.alloc (cG p s))=>(M2.out.kept (nT K1.out (nT HI.out.2.kp (nT KB.out x.k))) id).look jR Tryz.underlying112 (kV _) (p,s) OK.out);have LE:=aA HI.out.1;rw[HCA.out] at L1;rw[HCB.out] at L2;clear hd HI r0 r1;generalize wr.alloc (cG p s)=W2 at *;generalize wr.heap.size=gb at *;obtain⟨p0,p1⟩:=oC PB.out;have k1:=fun x:KW W2=>x.k.cell id p0
   have k2:=fun x:KW W2=>x.k.cell id p1
   have l1:=L1.out;have l2:=L2.out;refine dM (by kernel_rfl) (by kernel_rfl) ?_;repeat (go_big_quiet_step (fail))
   refine wpQuiet_nil ?_;intro x;have G2:=aA (G1.out.keep x.k);have P2:=aA ((x.k.block _ (lH PB.out) id).trans PB.out);clear k1 k2 l1 l2 L1 L2 p0 p1 G1 PB KB hdw;generalize x.v=W3 at *;clear x;go_wp2_with fail;go_loopw [7,25] (fun tv jv W=>∃ (j:Nat) (l':List (Nat×Nat)) (ta':Option Addr) (tc':Nat),j<=d.toNat/\jv=.int .i64 j/\tv=.slice ta' l'.length tc'/\Hid (l'=l ++ List.replicate j (p,s)/\GB w1 W (.slice ta' l'.length tc') l'/\W.heap[gb]?=some (cG p s)/\(Value.slice ta' l'.length tc').ownBlock≠some gb)) (fun _ jv _=>d.toNat-(intOf jv).toNat)
   case atStart=>exact⟨0,l,ta,tc,Nat.zero_le _,rfl,rfl,aA ⟨by simp,G2.out,P2.out,NO.out⟩⟩
   case round=>
    clear G2 P2 NO;obtain⟨j,l',ta',tc',hj,rfl,rfl,HJ⟩:=hrel;by_cases hjd:(j:Int)<d
    ·obtain⟨c0,c1⟩:=oC HJ.out.2.2.1;have LJ:=aA (show l'.length<=8796093021952 by
      have h:=BL.out (i+1);rw[TK.out,xK,List.length_append,List.length_replicate,FD.out] at h;rw[HJ.out.1,List.length_append,List.length_replicate,LE.out];omega)
     obtain⟨g4,cap4,w4,ap4,t4,k4,h7⟩:=GB.put21 HJ.out.2.1 p s (by have:=LJ.out;omega);have AP4:=aA ap4;have F4:=aA (show(l' ++ [(p,s)])=l ++ List.replicate (j + 1) (p,s)/\GB w1 w4 (.slice (some ⟨g4,0,none⟩) (l'.length + 1) cap4) (l' ++ [(p,s)])/\w4.heap[gb]?=some (cG p s)/\(Value.slice (some ⟨g4,0,none⟩) (l'.length + 1) cap4).ownBlock≠some gb from⟨by rw[HJ.out.1,List.append_assoc,<-List.replicate_succ'],t4,(k4.block _ (lH HJ.out.2.2.1) HJ.out.2.2.2).trans HJ.out.2.2.1,fun e=>by
      have e':g4=gb:=(by simpa [Value.ownBlock] using e);subst e';rcases h7 with h|h
      ·exact HJ.out.2.2.2 h
      ·have:=lH HJ.out.2.2.1;omega⟩)
     have HJ1:=aA (show j+1<=d.toNat by omega);have hjb:j<=8796093021952:=(by have:=DB.out;omega);clear ap4 t4 k4 h7 HJ;go_wp2_with (at_builtin;refine Lib.wpList_append_run _ rfl _ _ _ _ rfl (.slice ta' l'.length tc') _ rfl rfl _ _ (AP4.out _) ?_)
     exact⟨⟨j + 1,l' ++ [(p,s)],some ⟨g4,0,none⟩,cap4,HJ1.out,by simp,by simp,aA (by have:=F4.out;simpa using this)⟩,by simp[intOf];omega⟩
    ·have F9:=aA (show l'=fB f (ks.take (i+1))/\GB w1 wr (.slice ta' l'.length tc') l' from⟨by rw[HJ.out.1,LE.out,TK.out,xK,FD.out,show j=d.toNat by omega],HJ.out.2.1⟩);have HI1:=aA (show i+1<=n from hlt);clear HJ;go_wp2_with fail;exact⟨⟨i+1,l',ta',tc',HI1.out,by simp,rfl,F9⟩,by simp[intOf];omega⟩
  ·have hai:¬(i:Int)<n:=(by omega);have FIN:=aA (show CP w a b (.returned (.slice ta l.length tc)) wr from by
    refine⟨_,_,l,rfl,⟨HI.out.2.own,fun g cap e=>Nat.le_trans K1.out.size (HI.out.2.new g cap e),nT K1.out HI.out.2.kp⟩,?_⟩;rw[HI.out.1,List.take_of_length_le (by rw[HN.out];omega),FN.out];exact MX KS.out KN.out.1 KN.out.2)
   clear HI;go_wp2_with fail;go_ret;exact FIN.out
def CO(w:World)(a b:List (Nat×Nat))(e:Ending)(w':World):Prop:=∃ oa oc ob od,∃ c d:List (Nat×Nat),e=.returned (.tuple #[.slice oa c.length oc,.slice ob d.length od])/\GB w w' (.slice oa c.length oc) c/\GB w w' (.slice ob d.length od) d/\lY b a c/\lY a b d/\∀ x,(Value.slice oa c.length oc).ownBlock=some x->(Value.slice ob d.length od).ownBlock≠some x
theorem TN(v u:Value)(a b:List (Nat×Nat))(w:World)(hla:a.length<=8796093021952)(hlb:b.length<=8796093021952)(ha:∀ x∈a,fY x)(hb:∀ x∈b,fY x)(hv:RBk w v a)(hu:RBk w u b):
  Calls prog 18 #[v,u] w (CO w a b):=by
 have TA:=aA (xE v a w (by omega) ha hv);have TB:=aA (fun W (k:Kt nO w W)=>xE u b W (by omega) hb (hu.keep k));have HLA:=aA hla;have HLB:=aA hlb;obtain⟨va,vc,rfl,-⟩:=hv;obtain⟨ua,uc,rfl,-⟩:=hu;clear ha hb hla hlb;go_enter func18,ntmps18;go_wp2_with fail;refine TA.out.mono ?_;rintro e w1 ⟨g1,D1,rfl,gn1,hm1,he1,hl1,hk1⟩;have M1:=aA hm1;have E1:=aA (And.intro he1 hl1);have K1:=aA hk1;clear hm1 he1 hl1 hk1 gn1 TA;go_wp2_with fail;refine(TB.out _ K1.out).mono ?_;rintro e w2 ⟨g2,D2,rfl,gn2,hm2,he2,hl2,hk2⟩;have M2:=aA hm2;have E2:=aA (And.intro he2 hl2);have K2:=aA (nT K1.out hk2);have M12:=aA (M1.out.kept hk2 id);have BY:=aA (yG g2 g1 D2 D1 b a w2 M2.out E2.out.1 M12.out HLB.out HLA.out E2.out.2);clear hm2 he2 hl2 hk2 gn2 TB M1 K1;go_wp2_with fail;refine BY.out.mono ?_;rintro e w3 ⟨oa,oc,c,rfl,gc,mc⟩;have GC:=aA gc;have MC3:=aA mc;have BZ:=aA (yG g1 g2 D1 D2 a b w3 (M12.out.kept gc.kp id) E1.out.1 (M2.out.kept gc.kp id) HLA.out HLB.out E1.out.2);clear gc mc BY;go_wp2_with fail;refine BZ.out.mono ?_;rintro e w4 ⟨ob,od,d,rfl,gd,md⟩;have FIN:=aA (show CO w a b (.returned (.tuple #[.slice oa c.length oc,.slice ob d.length od])) w4 from by
  refine⟨_,_,_,_,c,d,rfl,?_,?_,MC3.out,md,?_⟩
  ·exact GS.bS (GS.keep GC.out gd.kp) K2.out
  ·exact GS.bS gd (nT K2.out GC.out.kp)
  ·intro x hx hy;have h1:=(GB.ownT gd hy).2;obtain⟨⟨cs,h2⟩,-⟩:=GB.ownT GC.out hx;have:=lH h2;omega)
 clear gd md BZ;go_wp2_with fail;exact⟨rfl,_,by simp[results,results18,go_sem],FIN.out⟩
end Go.Proofs.YtkfmheelhinjdaaGreatDoor.W
namespace Go.Proofs.YtkfmheelhinjdaaGreatDoor.W
open _root_.Go.Proofs.Tryz
open Go.RowKit
set_option linter.unusedVariables false
set_option maxHeartbeats 16000000
set_option maxRecDepth 8000
theorem EK{I:Img}(h:Im4 I)(k:Nat):lD I k=0:=by
 unfold lD pW;rw[List.count_eq_zero,h.np];intro hm;obtain⟨i,hi,e⟩:=List.mem_map.1 hm;have hi:=List.mem_range.1 hi;have e1:(I.pg i).kd=0:=congrArg Prod.fst e;have h0:=h.p0.1;have h1:=h.p1.1;have h2:=h.p2.1;have h3:=h.p3;rcases (show i=0\/i=1\/i=2\/i=3 by omega)with rfl|rfl|rfl|rfl <;> omega
theorem IQ{I:Img}{V:ImV}{w:World}(h:Im4 I)(hI:ImD w I V):
  Calls prog 14 #[imA I V] w fun e w'=>∃ g lc,e=.returned (.slice (some ⟨g,0,none⟩) 2 lc)/\w'.cell? ⟨g,0,none⟩=some (.int .i64 0)/\w'.cell? ⟨g,1,none⟩=some (.int .i64 0)/\Kt nO w w':=by
 refine(wG I V w hI).mono ?_;rintro e w' ⟨la,lc,rfl,-,hx,hk⟩;have e2:lU I=2:=by unfold lU;rw[h.ck,if_pos rfl,h.ord];rfl
 rw[e2] at hx ⊢;rcases hx with h0|⟨g,rfl,hx⟩
 ·omega
 have c0:=hx.cell (j:=0) (by decide);have c1:=hx.cell (j:=1) (by decide);rw[if_neg (by decide),EK h] at c0 c1;exact⟨g,lc,rfl,c0,c1,hk⟩
theorem QR{I:Img}{V:ImV}{w:World}(h:Im4 I)(hI:ImD w I V):
  Calls prog 15 #[imA I V,.int .u64 4096] w fun e w'=>e=.returned (.int .i64 1000)/\Kt nO w w':=by
 have us:hY I 4096=0:=by
  have r0:dQ 4096 (cE (I.pg 0))=0:=by unfold dQ cE eR;dsimp only;rw[h.p0.1,h.p0.2.1,h.p0.2.2];simp
  have r1:dQ 4096 (cE (I.pg 1))=0:=by unfold dQ cE eR;dsimp only;rw[h.p1.1,h.p1.2.1,h.p1.2.2];simp
  have r2:dQ 4096 (cE (I.pg 2))=0:=by unfold dQ cE eR;dsimp only;rw[h.p2.1];simp
  have r3:dQ 4096 (cE (I.pg 3))=0:=by unfold dQ cE eR;dsimp only;rw[h.p3];simp
  unfold hY;rw[h.np];simp[List.range_succ,r0,r1,r2,r3]
 refine(rG I V 4096 (by decide) w hI (fun _ _=>by rw[us];exact Nat.zero_le _)).mono fun e w' ⟨he,k⟩=>⟨?_,k⟩
 have e1:kL I.ord.toNat 4096=true:=by rw[h.ord];decide
 rw[he];unfold kY;rw[if_pos ⟨by rw[h.ck],e1⟩,h.nm,us];rfl
theorem QQ{I:Img}{V:ImV}{w:World}(h:Im4 I)(hI:ImD w I V):
  Calls prog 15 #[imA I V,.int .u64 24] w fun e w'=>e=.returned (.int .i64 (-1))/\Kt nO w w':=by
 have e1:kL I.ord.toNat 24=false:=by rw[h.ord];decide
 refine(rG I V 24 (by decide) w hI (fun _ h=>by rw[e1] at h;cases h)).mono fun e w' ⟨he,k⟩=>⟨?_,k⟩
 rw[he];unfold kY;rw[if_neg (fun h=>by rw[e1] at h;cases h.2)]
def nW(I:Img):Img:={ I with reg:=1 }
theorem EJ{I:Img}{V:ImV}{w:World}(hI:ImD w I V):ImD w (nW I) V:=⟨hI.b64,hI.lim,hI.ord,by show N64 (1:Int);unfold N64;decide,hI.mem,hI.mcp,hI.pgs,hI.prs,hI.hds,hI.pts⟩
theorem IN{I:Img}(h:Im4 I):¬(chk (nW I)).1=0:=fun hz=>by
 have h1:=(IR hz).2;have e1:(nW I).np=4:=h.np;have e2:(nW I).ord=1:=h.ord;have e3:(nW I).reg=1:=rfl;rw[e1,e2,e3] at h1;exact absurd h1 (by decide)
theorem XB{ks:List Nat}(h:mW [] ks):ks=[]:=by
 cases ks with
 | nil=>rfl
 | cons k ks=>have:=(h.2 k).1 List.mem_cons_self;simp[dI] at this
theorem QP{J:Img}{V:ImV}{w:World}(h:¬(chk J).1=0)(hI:ImD w J V):
  Calls prog 16 #[imA J V] w fun e w'=>e=.returned (.string ⟨#[]⟩)/\Kt nO w w':=
 (zY J V w hI).mono fun e w' ⟨he,k⟩=>⟨by rw[he];unfold mP;rw[if_neg h],k⟩
theorem MU{J:Img}{V:ImV}{w:World}(h:¬(chk J).1=0)(hI:ImD w J V):
  Calls prog 14 #[imA J V] w fun e w'=>∃ la lc,e=.returned (.slice la 0 lc)/\Kt nO w w':=
 (wG J V w hI).mono fun e w' ⟨la,lc,he,_,_,k⟩=>⟨la,lc,by rw[he];unfold lU;rw[if_neg h],k⟩
theorem QO{J:Img}{V:ImV}{w:World}(h:¬(chk J).1=0)(hI:ImD w J V):
  Calls prog 15 #[imA J V,.int .u64 16] w fun e w'=>e=.returned (.int .i64 (-1))/\Kt nO w w':=
 (rG J V 16 (by decide) w hI (fun hz _=>absurd hz h)).mono fun e w' ⟨he,k⟩=>⟨by rw[he];unfold kY;rw[if_neg (fun x=>h x.1)],k⟩
theorem QN{w:World}(ht:Tab10 w):
  Calls prog 17 #[.slice none 0 0] w fun e w'=>e=.returned (.string ⟨#[]⟩)/\Kt nO w w':=
 (yV (.slice none 0 0) [] w (by decide) (by simp) ⟨none,0,rfl,.inl rfl⟩ ht).mono fun e w' ⟨ks,hk,he,k⟩=>⟨by rw[he,XB hk];rfl,k⟩
theorem IL{w:World}{g h:Nat}(hg:w.heap[g]?=some (.cells #[.int .u64 1,.int .u64 2,.int .u64 5,.int .u64 6] 45 (0,0)))(hh:w.heap[h]?=some (.cells #[.int .u64 1,.int .u64 2,.int .u64 1,.int .u64 2] 45 (0,0))):
  Calls prog 18 #[.slice (some ⟨g,0,none⟩) 2 2,.slice (some ⟨h,0,none⟩) 2 2] w fun e w'=>∃ ga ca gb cb,e=.returned (.tuple #[.slice (some ⟨ga,0,none⟩) 1 ca,.slice (some ⟨gb,0,none⟩) 1 cb])/\w'.cell? ⟨ga,0,none⟩=some (.int .u64 1)/\w'.cell? ⟨ga,1,none⟩=some (.int .u64 2)/\w'.cell? ⟨gb,0,none⟩=some (.int .u64 5)/\w'.cell? ⟨gb,1,none⟩=some (.int .u64 6)/\Kt nO w w':=by
 have r1:RBk w (.slice (some ⟨g,0,none⟩) 2 2) [(1,2),(5,6)]:=⟨_,_,rfl,.inr ⟨g,rfl,lH hg,fun j hj=>by
  rcases (show j=0\/j=1 by simp at hj;omega)with rfl|rfl <;> constructor <;> simp[World.cell?,hg]⟩⟩
 have r2:RBk w (.slice (some ⟨h,0,none⟩) 2 2) [(1,2),(1,2)]:=⟨_,_,rfl,.inr ⟨h,rfl,lH hh,fun j hj=>by
  rcases (show j=0\/j=1 by simp at hj;omega)with rfl|rfl <;> constructor <;> simp[World.cell?,hh]⟩⟩
 refine(TN _ _ [(1,2),(5,6)] [(1,2),(1,2)] w (by decide) (by decide) (by simp[fY,gI]) (by simp[fY,gI]) r1 r2).mono ?_;rintro e w' ⟨oa,oc,ob,od,c,d,rfl,gc,gd,mc,md,-⟩;have cnt:∀ (l m k:List (Nat×Nat)),(∀ x,x∈k ++ l->k.count x=l.count x-m.count x)->(∀ x,x ∉ k ++ l->True)->k.Pairwise gT->lY l m k:=fun l m k h1 _ h2=>⟨h2,fun x=>by
  by_cases hx:x∈k ++ l
  ·exact h1 x hx
  ·have a1:x ∉ k:=fun h=>hx (List.mem_append.2 (.inl h))
   have a2:x ∉ l:=fun h=>hx (List.mem_append.2 (.inr h))
   rw[List.count_eq_zero.2 a1,List.count_eq_zero.2 a2];omega⟩
 have ec:c=[(1,2)]:=mc.uniq (cnt _ _ _ (by decide) (fun _ _=>trivial) (by simp));have ed:d=[(5,6)]:=md.uniq (cnt _ _ _ (by decide) (fun _ _=>trivial) (by simp));subst ec ed;obtain⟨g1,c1,e1,a1,a2⟩:=RBk.two (GB.rb gc) 0 (by decide);obtain⟨g2,c2,e2,b1,b2⟩:=RBk.two (GB.rb gd) 0 (by decide);injection e1 with e1
 injection e2 with e2
 subst e1 e2;exact⟨g1,_,g2,_,rfl,a1,a2,b1,b2,gc.kp.trans (Kt.refl nO _) (fun _ _ e=>e) (fun _ _ e=>e)⟩
theorem known20(w:World)(hT:iU w)(hP:Tab10 w):Calls prog 3 #[] w fun e w'=>e=.returned (.bool true)/\Kt nO w w':=by
 have AW:=aA (MI w hT hP);have NWX:=aA (fun W (k:Kt nO w W)=>wB W (iU.keep' hT k));have TP:=aA hP;clear hT hP;go_enter func3,ntmps3;go_wp2_with fail;refine AW.out.mono ?_;rintro e wa ⟨rfl,hka⟩;have KA:=aA hka;have NW:=aA (NWX.out _ hka);clear hka AW NWX;go_wp2_with fail;refine NW.out.mono ?_;rintro e W0 ⟨hb,rfl,hs⟩;have S0:=aA hs;clear hs NW;go_wp2_with fail;refine(xV S0.out).mono ?_;rintro e W1 ⟨rfl,hs⟩;have S1:=aA hs;clear hs S0;go_wp2_with fail;refine(xU S1.out).mono ?_;rintro e W2 ⟨rfl,hs⟩;have S2:=aA hs;clear hs S1;go_wp2_with fail;refine(xT S2.out).mono ?_;rintro e W3 ⟨rfl,hs⟩;have S3:=aA hs;clear hs S2;go_wp2_with fail;refine S3.out.image.mono ?_;rintro e W4 ⟨I,V,rfl,hI,h4,hk⟩;have H4:=aA h4;have HI:=aA hI;have K4:=aA (nT KA.out (S3.out.keep hk).kp);obtain⟨⟨ma,mc,hm⟩,⟨pa,pc,hp⟩,⟨ra,rc,hr⟩,⟨ha,hc,hh⟩,⟨ta,tc,ht⟩,-⟩:=hI.sl;obtain⟨vm,vp,vr,vh,vt⟩:=V;dsimp only at hm hp hr hh ht;subst hm hp hr hh ht;clear hk hI h4 S3;go_upto_region 10 with fail;have B5:=aA (show ImAt (W4.alloc (cA I ⟨.slice ma I.nm mc,.slice pa I.np pc,.slice ra I.no rc,.slice ha I.hd.length hc,.slice ta I.pt.length tc⟩)) W4.heap.size I _ from⟨nH _ _,HI.out.keep ((Kt.refl nO W4).alloc _)⟩);have JJ:=aA ((Kt.refl nO W4).alloc (cA I ⟨.slice ma I.nm mc,.slice pa I.np pc,.slice ra I.no rc,.slice ha I.hd.length hc,.slice ta I.pt.length tc⟩));generalize W4.alloc _=W5 at *;generalize hib:W4.heap.size=ib at *;have HIB:=aA (show ib=W4.heap.size from hib.symm);have J5:=aA (show Kt nO W4 W5 from JJ.out);clear hib JJ;obtain⟨i0,i1,i2,i3,i4,i5,i6,i7,i8⟩:=B5.out.cells;go_wp2_with fail;refine(IQ H4.out B5.out.d).mono ?_;rintro e W6 ⟨g,lc,rfl,c0,c1,hk⟩;have B6:=aA (B5.out.keep hk);have J6:=aA (nT J5.out hk);clear hk B5 J5 i0 i1 i2 i3 i4 i5 i6 i7 i8;obtain⟨i0,i1,i2,i3,i4,i5,i6,i7,i8⟩:=B6.out.cells;go_wp2_with fail;refine(QR H4.out B6.out.d).mono ?_;rintro e W7 ⟨rfl,hk⟩;have B7:=aA (B6.out.keep hk);have J7:=aA (nT J6.out hk);clear hk B6 J6 i0 i1 i2 i3 i4 i5 i6 i7 i8 c0 c1;obtain⟨i0,i1,i2,i3,i4,i5,i6,i7,i8⟩:=B7.out.cells;go_wp2_with fail;refine(QQ H4.out B7.out.d).mono ?_;rintro e W8 ⟨rfl,hk⟩;have B8:=aA (B7.out.keep hk);have J8:=aA (nT J7.out hk);clear hk B7 J7 i0 i1 i2 i3 i4 i5 i6 i7 i8;obtain⟨i0,i1,i2,i3,i4,i5,i6,i7,i8⟩:=B8.out.cells;have ifz:W8.frozen? ⟨ib,3,none⟩=false:=by simp[World.frozen?,B8.out.bx]
 obtain⟨J,hJ⟩:=xe (nW I);have NJ:=aA (show ¬(chk J).1=0 by rw[hJ];exact IN H4.out);have J9:=aA (show Kt nO W4 (W8.setCell ⟨ib,3,none⟩ (.int .i64 1))from J8.out.trans ((Kt.refl (fun b=>b=ib) W8).setCell (p:=⟨ib,3,none⟩) rfl _) (fun _ _ e=>e) (fun x hx e=>by have:=HIB.out;omega));have B9:=aA (show ImAt (W8.setCell ⟨ib,3,none⟩ (.int .i64 1)) ib J ⟨.slice ma I.nm mc,.slice pa I.np pc,.slice ra I.no rc,.slice ha I.hd.length hc,.slice ta I.pt.length tc⟩from⟨by rw[hJ];exact heap_set B8.out.bx 3 (.int .i64 1),by rw[hJ];exact EJ (HI.out.keep J9.out)⟩);clear hJ J8 H4;go_upto_region 14 with fail;generalize W8.setCell ⟨ib,3,none⟩ (.int .i64 1)=W9 at *;clear B8 i0 i1 i2 i3 i4 i5 i6 i7 i8 ifz HI;obtain⟨i0,i1,i2,i3,i4,i5,i6,i7,i8⟩:=B9.out.cells;go_wp2_with fail;refine(QP NJ.out B9.out.d).mono ?_;rintro e W10 ⟨rfl,hk⟩;have B10:=aA (B9.out.keep hk);have J10:=aA (nT J9.out hk);clear hk B9 J9 i0 i1 i2 i3 i4 i5 i6 i7 i8;obtain⟨i0,i1,i2,i3,i4,i5,i6,i7,i8⟩:=B10.out.cells;go_wp2_with fail;refine(MU NJ.out B10.out.d).mono ?_;rintro e W11 ⟨la,lc2,rfl,hk⟩;have B11:=aA (B10.out.keep hk);have J11:=aA (nT J10.out hk);clear hk B10 J10 i0 i1 i2 i3 i4 i5 i6 i7 i8;obtain⟨i0,i1,i2,i3,i4,i5,i6,i7,i8⟩:=B11.out.cells;go_wp2_with fail;refine(QO NJ.out B11.out.d).mono ?_;rintro e W12 ⟨rfl,hk⟩;have B12:=aA (B11.out.keep hk);have J12:=aA (nT J11.out hk);clear hk B11 J11 i0 i1 i2 i3 i4 i5 i6 i7 i8;obtain⟨i0,i1,i2,i3,i4,i5,i6,i7,i8⟩:=B12.out.cells;go_wp2_with fail;refine(QN (Tab10.keep TP.out (nT K4.out J12.out))).mono ?_;rintro e W13 ⟨rfl,hk⟩;have J13:=aA (nT J12.out hk);clear hk B12 J12 i0 i1 i2 i3 i4 i5 i6 i7 i8;go_upto_region 18 with fail;have X1:=aA (show((W13.alloc (Obj.cells #[.int .u64 1,.int .u64 2] 45)).alloc (Obj.cells #[.int .u64 5,.int .u64 6] 45)).heap[W13.heap.size]?=some (Obj.cells #[.int .u64 1,.int .u64 2] 45)from by rw[Below.heap_alloc _ _ _ (by simp)];exact nH _ _);have X2:=aA (show((W13.alloc (Obj.cells #[.int .u64 1,.int .u64 2] 45)).alloc (Obj.cells #[.int .u64 5,.int .u64 6] 45)).heap[W13.heap.size+1]?=some (Obj.cells #[.int .u64 5,.int .u64 6] 45)from by have:=nH (W13.alloc (Obj.cells #[.int .u64 1,.int .u64 2] 45)) (Obj.cells #[.int .u64 5,.int .u64 6] 45);simpa using this);have J14:=aA (show Kt nO W4 ((W13.alloc (Obj.cells #[.int .u64 1,.int .u64 2] 45)).alloc (Obj.cells #[.int .u64 5,.int .u64 6] 45))from nT J13.out (((Kt.refl nO W13).alloc _).alloc _));generalize (W13.alloc (Obj.cells #[.int .u64 1,.int .u64 2] 45)).alloc (Obj.cells #[.int .u64 5,.int .u64 6] 45)=W14 at *;generalize W13.heap.size+1=yb at *;generalize W13.heap.size=xb at *;have x0:W14.cell? ⟨xb,0,none⟩=some (.int .u64 1):=by simp[World.cell?,X1.out]
 have x1:W14.cell? ⟨xb,1,none⟩=some (.int .u64 2):=by simp[World.cell?,X1.out]
 have y0:W14.cell? ⟨yb,0,none⟩=some (.int .u64 5):=by simp[World.cell?,X2.out]
 have y1:W14.cell? ⟨yb,1,none⟩=some (.int .u64 6):=by simp[World.cell?,X2.out]
 have x0':=fun o=>((Kt.refl nO W14).alloc o).cell id x0
 have x1':=fun o=>((Kt.refl nO W14).alloc o).cell id x1
 have y0':=fun o=>((Kt.refl nO W14).alloc o).cell id y0
 have y1':=fun o=>((Kt.refl nO W14).alloc o).cell id y1
 have DC:=aA (IL (w:=(W14.alloc (Obj.cells #[.int .u64 1,.int .u64 2,.int .u64 5,.int .u64 6] 45)).alloc (Obj.cells #[.int .u64 1,.int .u64 2,.int .u64 1,.int .u64 2] 45)) (g:=W14.heap.size) (h:=W14.heap.size+1) (by rw[Below.heap_alloc _ _ _ (by simp)];exact nH _ _) (by have:=nH (W14.alloc (Obj.cells #[.int .u64 1,.int .u64 2,.int .u64 5,.int .u64 6] 45)) (Obj.cells #[.int .u64 1,.int .u64 2,.int .u64 1,.int .u64 2] 45);simpa using this));have J16:=aA (show Kt nO W14 ((W14.alloc (Obj.cells #[.int .u64 1,.int .u64 2,.int .u64 5,.int .u64 6] 45)).alloc (Obj.cells #[.int .u64 1,.int .u64 2,.int .u64 1,.int .u64 2] 45))from((Kt.refl nO W14).alloc _).alloc _);go_wp2_with fail;refine DC.out.mono ?_;rintro e W17 ⟨ga,ca,gb,cb,rfl,a0,a1,b0,b1,hk⟩;have K17:=aA (nT J16.out hk);have KF:=aA (nT K4.out (nT J14.out K17.out));have u0:=K17.out.cell id x0;have u1:=K17.out.cell id x1;have v0:=K17.out.cell id y0;have v1:=K17.out.cell id y1;clear hk DC x0 x1 y0 y1 x0' x1' y0' y1';go_upto_region 19 with fail;have ka0:=fun x:KW W17=>x.k.cell id a0
 have ka1:=fun x:KW W17=>x.k.cell id a1
 have kb0:=fun x:KW W17=>x.k.cell id b0
 have kb1:=fun x:KW W17=>x.k.cell id b1
 have ku0:=fun x:KW W17=>x.k.cell id u0
 have ku1:=fun x:KW W17=>x.k.cell id u1
 have kv0:=fun x:KW W17=>x.k.cell id v0
 have kv1:=fun x:KW W17=>x.k.cell id v1
 refine dM (by kernel_rfl) (by kernel_rfl) ?_;repeat (go_big_quiet_step (fail))
 refine wpQuiet_nil ?_;intro x;have KX:=aA (nT KF.out x.k);go_wp2_with fail;go_ret;exact⟨rfl,KX.out⟩
end Go.Proofs.YtkfmheelhinjdaaGreatDoor.W
namespace Go.Proofs.YtkfmheelhinjdaaGreatDoor.reportKnown
open _root_.Go.Proofs.Tryz
open Go.ChangeShapes Go.WideShapes Go.ChangeAt Go.RowKit Go.Deep
open Go.ChangeMaps (open_string shut_string)
set_option linter.unusedVariables false
theorem own:ownKnob prog.godebug=Option.none:=by kernel_rfl
theorem laidOut:laidOutB prog=true:=by kernel_rfl
theorem gSizes : prog.globalNamed "croft/slab.sizes" = some 0 := by kernel_rfl
theorem door_met (os : Os) (args : Array Value) : laidMetH prog [("math/bits.deBruijn32tab", Rows.laid_math_bits_deBruijn32tab), ("math/bits.deBruijn64tab", Rows.laid_math_bits_deBruijn64tab), ("internal/strconv.uint64pow10", Rows.laid_internal_strconv_uint64pow10), ("croft/slab.sizes", Rows.laid_croft_slab_sizes)] ((World.doorLaid prog 400 os).forCall (fun _ _ => 0) ⟨#[], args, []⟩).memory :=
 laidMetH_of_parts3 (fuel:=8) (laidMet_of_run' 8 (by kernel_rfl) (by kernel_rfl)) (by kernel_rfl) (by kernel_rfl)
theorem vF : prog.globalNamed "internal/strconv.uint64pow10" = some 1 := by kernel_rfl
theorem tab_of {W : World} (h : laidMetH prog [("math/bits.deBruijn32tab", Rows.laid_math_bits_deBruijn32tab), ("math/bits.deBruijn64tab", Rows.laid_math_bits_deBruijn64tab), ("internal/strconv.uint64pow10", Rows.laid_internal_strconv_uint64pow10), ("croft/slab.sizes", Rows.laid_croft_slab_sizes)] W) : iU W := by
 rw[MakeChecks.laidMetH_plain _ _ _ (by kernel_rfl)] at h;have h1 := h.filter (fun x => x.1 == "croft/slab.sizes");have hT : Lib.TabIs prog W "croft/slab.sizes" .u64 [16, 32, 64, 128, 256, 512, 1024, 2048] := Lib.tabIs_of_head gSizes (by kernel_rfl) Tryz.underlying207 Tryz.underlying27 (by kernel_rfl) (by kernel_rfl) h1;intro k hk;have:=hT.cell gSizes k (by simpa using hk);rw[this];rcases (show k=0\/k=1\/k=2\/k=3\/k=4\/k=5\/k=6\/k=7 by omega)with rfl|rfl|rfl|rfl|rfl|rfl|rfl|rfl <;> rfl
theorem VT {W : World} (h : laidMetH prog [("math/bits.deBruijn32tab", Rows.laid_math_bits_deBruijn32tab), ("math/bits.deBruijn64tab", Rows.laid_math_bits_deBruijn64tab), ("internal/strconv.uint64pow10", Rows.laid_internal_strconv_uint64pow10), ("croft/slab.sizes", Rows.laid_croft_slab_sizes)] W) : _root_.Go.Proofs.YtkfmheelhinjdaaGreatDoor.W.Tab10 W := by
 rw[MakeChecks.laidMetH_plain _ _ _ (by kernel_rfl)] at h;have h1 := h.filter (fun x => x.1 == "internal/strconv.uint64pow10");exact Lib.tabIs_of_head vF (by kernel_rfl) Tryz.underlying230 Tryz.underlying27 (by kernel_rfl) (by kernel_rfl) h1
theorem lifted(os:Os)(started:os.Started)(H:Type)(enc:TypeId×Value->H):
  ReturnsInHanded {} Tryz.checked os 3 .any (fun w args => (Rows.reportKnownSpec.pre enc prog Tryz.f3 [] false w args /\ laidMetH prog [("math/bits.deBruijn32tab", Rows.laid_math_bits_deBruijn32tab), ("math/bits.deBruijn64tab", Rows.laid_math_bits_deBruijn64tab), ("internal/strconv.uint64pow10", Rows.laid_internal_strconv_uint64pow10), ("croft/slab.sizes", Rows.laid_croft_slab_sizes)] w) /\ sizedMet enc prog Tryz.f3 (OpenSpec.ofChange Rows.reportKnownSpec) false w args)
   (Rows.reportKnownSpec.post enc prog Tryz.f3 false true false false):=by
 refine returnsInHanded_of_change_and (C := Tryz.checked) (X := fun w _ => laidMetH prog [("math/bits.deBruijn32tab", Rows.laid_math_bits_deBruijn32tab), ("math/bits.deBruijn64tab", Rows.laid_math_bits_deBruijn64tab), ("internal/strconv.uint64pow10", Rows.laid_internal_strconv_uint64pow10), ("croft/slab.sizes", Rows.laid_croft_slab_sizes)] w) (fun _ _ _ hh h => h.of_heap hh) own started (by kernel_rfl) func3
  (ChangeSpec.witness_shaped (enc := enc) (C := Tryz.checked) (os := os) (X := fun w _ => laidMetH prog [("math/bits.deBruijn32tab", Rows.laid_math_bits_deBruijn32tab), ("math/bits.deBruijn64tab", Rows.laid_math_bits_deBruijn64tab), ("internal/strconv.uint64pow10", Rows.laid_internal_strconv_uint64pow10), ("croft/slab.sizes", Rows.laid_croft_slab_sizes)] w) false (World.doorLaid prog 400 os) #[] 8 rfl (World.shaped_of_RefB (by kernel_rfl) (by kernel_rfl)) (by kernel_rfl) (by kernel_rfl) (by kernel_rfl) (door_met os _)) ?_
 intro UU bS args ds gs before hval0 hW _ hsz0 hL _;have hsz:(DataW.weightsEach prog (Tryz.f3.params.toList ++ Rows.reportKnownSpec.plain.varTypes prog) (ds ++ gs)).all (·<=reachBytes)=true:=hsz0;clear hsz0;have hval:∀ (j:Nat) t v,Tryz.f3.params[j]?=some t->args[j]?=some v->Value.okWide prog UU .any bS t v:=hval0;have hW':=hW;obtain⟨p,q,hA0,hV,rfl,hfz,hnd⟩:=hW;have hA:DataW.TrodAll enc prog UU 0 (fun _=>true) true Tryz.f3.params.toList args.toList ds p:=hA0;rw[Tryz.params3] at hA hval hsz;obtain⟨rfl,rfl,rfl⟩:=trodAll_none hA;obtain⟨rfl,rfl⟩:=trodVars_none hV;have hTab:=tab_of hL;have hTab10:=VT hL;clear hA0 hval0;refine(W.known20  UU  hTab hTab10).mono fun e UU' ⟨he,kp⟩=>?_
 subst he;have bel:Below UU.heap.size UU UU':=kp.below (Nat.le_refl _) (fun x hx=>hx.elim);exact⟨_,rfl,_,_,_,[],[],[],hW',trodAll_mk1 (shut_bool Tryz.underlying4 true),rfl,rfl,bel.frame _,fun h=>by cases h⟩
set_option maxRecDepth 100000
theorem a1:prog.funcNamed Rows.reportKnownRow.func=some 3:=by kernel_rfl
theorem a2:joinedFacts prog 3 Tryz.f3 Rows.reportKnownSpec Rows.reportKnownRow=true:=by kernel_rfl
theorem a3:Tryz.f3.isWrapper prog Rows.reportKnownRow.wrapper Rows.reportKnownRow.mainSum:=by unfold Func.isWrapper;first|(rw[if_pos (by decide +kernel)];kernel_rfl)|(rw[if_neg (by decide +kernel)];exact⟨rfl,rfl⟩)
theorem a5:Tryz.f3.isInstance prog Rows.reportKnownRow.origin Rows.reportKnownRow.targs:=of_decide_eq_true (by kernel_rfl)
theorem over:Rows.reportKnownRow.holds Tryz.pinned (OpenSpec.ofChange Rows.reportKnownSpec):=
 OpenClaim.holds_of_wide 3 Tryz.f3 rfl rfl rfl rfl rfl rfl rfl ⟨rfl,rfl,rfl,rfl,rfl⟩ rfl rfl rfl rfl rfl a1 func3 a2 a5 a3
  (fun os started H enc _=>lifted os started H enc)
end Go.Proofs.YtkfmheelhinjdaaGreatDoor.reportKnown
namespace Go.Proofs.YtkfmheelhinjdaaGreatDoor
open _root_.Go.Proofs.Tryz
open Go
theorem reportKnown_holds:Rows.ReportKnownCardSaid:=
 Claim7.holds_tied_plain_at .later [] [.data,.data,.data,.data] true Rows.reportKnownCard.stood.harness true
  reportKnown.over (fun _ h=>by cases h) (by kernel_rfl) (fun _ h=>by cases h) reportKnown_row_tie rfl ⟨rfl,rfl⟩ (by kernel_rfl) rfl
  (fun f fn hf hfn=>by
   obtain rfl : f = 3 := Option.some.inj ((show prog.funcNamed "croft/croftlaw20.ReportKnown" = some 3 by kernel_rfl).symm.trans hf) |>.symm
   obtain rfl:fn=Tryz.f3:=(Option.some.inj (func3.symm.trans hfn)).symm;exact⟨by kernel_rfl,fun j t ht=>by
    rw[Tryz.params3] at ht;have hm:t∈[]:=(by simpa using Array.mem_of_getElem? ht);have hall:([].all fun u=>!prog.wantsStandIn u)=true:=(by kernel_rfl);exact(show prog.wantsStandIn t=false by simpa using List.all_eq_true.1 hall t hm)⟩)
  (by kernel_rfl)
#print axioms reportKnown_holds
end Go.Proofs.YtkfmheelhinjdaaGreatDoor
