import Derived.Test.YtkfmheelhinjdaaGreatDoorWn
import Derived.Test.YtkfmheelhinjdaaGreatDoorWo
import Derived.Test.YtkfmheelhinjdaaGreatDoorWq
set_option maxRecDepth 1000000
set_option maxHeartbeats 80000000
namespace Go.Proofs.YtkfmheelhinjdaaGreatDoor.W
open _root_.Go.Proofs.Tryz
open Go.RowKit
set_option linter.unusedVariables false
set_option maxHeartbeats 8000000
set_option maxRecDepth 8000
set_option maxHeartbeats 8000000
set_option maxRecDepth 6000
set_option maxHeartbeats 8000000
set_option maxRecDepth 8000
theorem RBk.cut{w:World}{oa:Option Addr}{n k oc:Nat}{l m:List (Nat×Nat)}(h:RBk w (.slice oa k oc) (l ++ m))(hn:n=l.length)(hm:m≠[]):RBk w (.slice oa n oc) l:=by
 obtain⟨oa',oc',e,h0|⟨g,rfl,hg,hc⟩⟩:=h
 ·exact absurd (List.append_eq_nil_iff.1 h0).2 hm
 ·injection e with e1 e2 e3
  subst e1 e3 hn;refine⟨_,_,rfl,.inr ⟨g,rfl,hg,fun j hj=>?_⟩⟩;have:=hc j (by rw[List.length_append];omega);rw[yV hj] at this;exact this
theorem GS.cap{w0 W:World}{e:TypeId}{size n:Nat}{oa:Option Addr}{k oc:Nat}{xs:List Value}(h:GS w0 W e size (.slice oa k oc) n xs)(hn : 0<n):n<=oc:=by
 rcases h.own.2 with ⟨e1,e2⟩|⟨g,cap,cur,e1,_,_,hc,_⟩
 ·omega
 ·injection e1 with a1 a2 a3
  subst a3;exact hc
end Go.Proofs.YtkfmheelhinjdaaGreatDoor.W
namespace Go.Proofs.YtkfmheelhinjdaaGreatDoor.W
open _root_.Go.Proofs.Tryz
open Go.RowKit Go.Sort
set_option linter.unusedVariables false
set_option maxHeartbeats 8000000
set_option maxRecDepth 6000
theorem DX{a D ks:List (Nat×Nat)}(hD:D.Nodup)(hm:∀ x,x∈D↔x∈a)(pm:ks.Perm D):ks.Nodup/\∀ x,x∈ks↔x∈a:=⟨pm.nodup_iff.2 hD,fun x=>pm.mem_iff.trans (hm x)⟩
def CV(w:World)(a b:List (Nat×Nat))(e:Ending)(w':World):Prop:=∃ oa oc,∃ l:List (Nat×Nat),e=.returned (.slice oa l.length oc)/\GB w w' (.slice oa l.length oc) l/\eO a b l
theorem yB(g1 g2:Nat)(D1 D2 a b:List (Nat×Nat))(w:World)(h1:MC eB gC w g1 D1 (fun x=>a.count x))(hm1:∀ x,x∈D1↔x∈a)(h2:MC eB gC w g2 D2 (fun x=>b.count x))(hla:a.length<=8796093021952)(hlb:b.length<=8796093021952)(hle:D1.length<=a.length):
  Calls prog 60 #[.map (some g1),.map (some g2),.func (.func 61) #[] #[]] w (CV w a b):=by
 have SO:=aA (PJ g1 D1 _ w h1 (by omega));have ND:=aA h1.nodup;have ME:=aA hm1;have M1:=aA h1;have M2:=aA h2;have HB:=aA h1.lt;have LA:=aA hla;have LB:=aA hlb;clear h1 hm1 h2 hle hla hlb;go_enter func60,ntmps60;go_wp2_with fail;refine SO.out.mono ?_;rintro e w1 ⟨oa,oc,ks,rfl,us,pm,srt⟩;have KN:=aA (DX ND.out ME.out pm);have KS:=aA srt;have K1:=aA us.kp;have RK:=aA (GB.rb us);have HK:=aA (fun x hx=>HB.out x (pm.mem_iff.1 hx));obtain⟨f,hf⟩:∃ f:Nat×Nat->Nat,f=fun x=>a.count x-b.count x:=⟨_,rfl⟩
 have FN:=aA hf;have BL:=aA (fun i=>show(fD f (ks.take i)).length<=8796093021952 from by
  have:=NJ f a (ks.take i) ((List.take_sublist i ks).nodup KN.out.1) (fun x=>by rw[hf];exact Nat.sub_le _ _);have:=LA.out;omega)
 obtain⟨n,hn⟩:∃ n,ks.length=n:=⟨_,rfl⟩;have HN:=aA hn;rw[hn];rw[hn] at RK;have NB:=aA (show n<=8796093021952 from by
  have:=rW (l:=ks) (m:=a) fun x=>by
   by_cases hx:x∈ks
   ·have h9:=List.count_pos_iff.2 ((KN.out.2 x).1 hx);have h8:ks.count x<=1:=List.nodup_iff_count.1 KN.out.1 x;omega
   ·rw[List.count_eq_zero.2 hx];exact Nat.zero_le _
  have:=LA.out;omega)
 clear us pm srt SO hf hn;have nb:=NB.out;go_wp2_with fail;go_loopw [7,14] (fun tv iv W=>∃ (i:Nat) (l:List (Nat×Nat)) (ta:Option Addr) (tc:Nat),i<=n/\iv=.int .i64 i/\tv=.slice ta l.length tc/\Hid (l=fD f (ks.take i)/\GB w1 W (.slice ta l.length tc) l)) (fun _ iv _=>n-(intOf iv).toNat)
 case atStart=>exact⟨0,[],none,0,Nat.zero_le _,rfl,rfl,aA ⟨by simp[fD],GS.nil _ _ _ _ (Kt.refl _ _)⟩⟩
 case round=>
  obtain⟨i,l,ta,tc,hi,rfl,rfl,HI⟩:=hrel;have LL:=aA (show l.length<=8796093021952 from by rw[HI.out.1];exact BL.out i);by_cases hlt:i<n
  ·have hai:(i:Int)<n:=(by omega);obtain⟨kg,kc,ev,r0,r1⟩:=RBk.two (l:=ks) (RK.out.keep HI.out.2.kp) i (by rw[HN.out];exact hlt);rw[HN.out] at ev;injection ev with e1 e2 e3
   subst e1 e3;obtain⟨k,hk⟩:∃ k,ks.getD i (0,0)=k:=⟨_,rfl⟩;have hks:ks[i]?=some k:=(by rw[<-hk,List.getD_eq_getElem?_getD,List.getElem?_eq_getElem (by rw[HN.out];exact hlt)];rfl);have TK:=aA (show ks.take (i + 1)=ks.take i ++ [k] by rw[List.take_add_one,hks];rfl);have OK:=aA (HK.out k (List.mem_of_getElem? hks));rw[hk] at r0 r1;obtain⟨p,s⟩:=k;dsimp only at r0 r1;obtain⟨ca,hca⟩:∃ ca,a.count (p,s)=ca:=⟨_,rfl⟩;obtain⟨cb,hcb⟩:∃ cb,b.count (p,s)=cb:=⟨_,rfl⟩;have HCA:=aA hca;have HCB:=aA hcb;have FE:=aA (show f (p,s)=ca-cb by rw[FN.out,<-hca,<-hcb]);have CB1:=aA (show ca<=8796093021952 by rw[<-hca];exact Nat.le_trans List.count_le_length LA.out);have CB2:=aA (show cb<=8796093021952 by rw[<-hcb];exact Nat.le_trans List.count_le_length LB.out);clear hca hcb hks hk;obtain⟨d,hd⟩:∃ d:Int,(ca:Int)-(cb:Int)=d:=⟨_,rfl⟩;have hdw:IntKind.i64.wrap ((ca:Int)-(cb:Int))=d:=(by rw[IntKind.wrap_i64];have:=CB1.out;have:=CB2.out;omega);have FD:=aA (show f (p,s)=d.toNat by rw[FE.out];omega);have DB:=aA (show d.toNat<=8796093021952 by have:=CB1.out;omega);go_upto_region 5 with fail;have KB:=aA ((Kt.refl nO wr).alloc (bP p s));have PB:=aA (nH wr (bP p s));have NO:=aA (show(Value.slice ta l.length tc).ownBlock≠some wr.heap.size from fun e=>by
    obtain⟨⟨cs,q⟩,-⟩:=GB.ownT HI.out.2 e;have:=lH q;omega)
   have G1:=aA (HI.out.2.keep KB.out);have L1:=aA (fun x:KW (wr.alloc (bP p s))=>(M1.out.kept (nT K1.out (nT HI.out.2.kp (nT KB.out x.k))) id).look jS Tryz.underlying112 (lS _) (p,s) OK.out);have L2:=aA (fun x:KW (wr.alloc (bP p s))=>(M2.out.kept (nT K1.out (nT HI.out.2.kp (nT KB.out x.k))) id).look jS Tryz.underlying112 (lS _) (p,s) OK.out);have LE:=aA HI.out.1;rw[HCA.out] at L1;rw[HCB.out] at L2;clear hd HI r0 r1;generalize wr.alloc (bP p s)=W2 at *;generalize wr.heap.size=gb at *;obtain⟨p0,p1⟩:=mB PB.out;have k1:=fun x:KW W2=>x.k.cell id p0
   have k2:=fun x:KW W2=>x.k.cell id p1
   have l1:=L1.out;have l2:=L2.out;refine cI (by kernel_rfl) (by kernel_rfl) ?_;repeat (go_big_quiet_step (fail))
   refine wpQuiet_nil ?_;intro x;have G2:=aA (G1.out.keep x.k);have P2:=aA ((x.k.block _ (lH PB.out) id).trans PB.out);clear k1 k2 l1 l2 L1 L2 p0 p1 G1 PB KB hdw;generalize x.v=W3 at *;clear x;go_wp2_with fail;go_loopw [7,25] (fun tv jv W=>∃ (j:Nat) (l':List (Nat×Nat)) (ta':Option Addr) (tc':Nat),j<=d.toNat/\jv=.int .i64 j/\tv=.slice ta' l'.length tc'/\Hid (l'=l ++ List.replicate j (p,s)/\GB w1 W (.slice ta' l'.length tc') l'/\W.heap[gb]?=some (bP p s)/\(Value.slice ta' l'.length tc').ownBlock≠some gb)) (fun _ jv _=>d.toNat-(intOf jv).toNat)
   case atStart=>exact⟨0,l,ta,tc,Nat.zero_le _,rfl,rfl,aA ⟨by simp,G2.out,P2.out,NO.out⟩⟩
   case round=>
    clear G2 P2 NO;obtain⟨j,l',ta',tc',hj,rfl,rfl,HJ⟩:=hrel;by_cases hjd:(j:Int)<d
    ·obtain⟨c0,c1⟩:=mB HJ.out.2.2.1;have LJ:=aA (show l'.length<=8796093021952 by
      have h:=BL.out (i+1);rw[TK.out,xT,List.length_append,List.length_replicate,FD.out] at h;rw[HJ.out.1,List.length_append,List.length_replicate,LE.out];omega)
     obtain⟨g4,cap4,w4,ap4,t4,k4,h7⟩:=GB.put21 HJ.out.2.1 p s (by have:=LJ.out;omega);have AP4:=aA ap4;have F4:=aA (show(l' ++ [(p,s)])=l ++ List.replicate (j + 1) (p,s)/\GB w1 w4 (.slice (some ⟨g4,0,none⟩) (l'.length + 1) cap4) (l' ++ [(p,s)])/\w4.heap[gb]?=some (bP p s)/\(Value.slice (some ⟨g4,0,none⟩) (l'.length + 1) cap4).ownBlock≠some gb from⟨by rw[HJ.out.1,List.append_assoc,<-List.replicate_succ'],t4,(k4.block _ (lH HJ.out.2.2.1) HJ.out.2.2.2).trans HJ.out.2.2.1,fun e=>by
      have e':g4=gb:=(by simpa [Value.ownBlock] using e);subst e';rcases h7 with h|h
      ·exact HJ.out.2.2.2 h
      ·have:=lH HJ.out.2.2.1;omega⟩)
     have HJ1:=aA (show j+1<=d.toNat by omega);have hjb:j<=8796093021952:=(by have:=DB.out;omega);clear ap4 t4 k4 h7 HJ;go_wp2_with (at_builtin;refine Lib.wpList_append_run _ rfl _ _ _ _ rfl (.slice ta' l'.length tc') _ rfl rfl _ _ (AP4.out _) ?_)
     exact⟨⟨j + 1,l' ++ [(p,s)],some ⟨g4,0,none⟩,cap4,HJ1.out,by simp,by simp,aA (by have:=F4.out;simpa using this)⟩,by simp[intOf];omega⟩
    ·have F9:=aA (show l'=fD f (ks.take (i+1))/\GB w1 wr (.slice ta' l'.length tc') l' from⟨by rw[HJ.out.1,LE.out,TK.out,xT,FD.out,show j=d.toNat by omega],HJ.out.2.1⟩);have HI1:=aA (show i+1<=n from hlt);clear HJ;go_wp2_with fail;exact⟨⟨i+1,l',ta',tc',HI1.out,by simp,rfl,F9⟩,by simp[intOf];omega⟩
  ·have hai:¬(i:Int)<n:=(by omega);have FIN:=aA (show CV w a b (.returned (.slice ta l.length tc)) wr from by
    refine⟨_,_,l,rfl,⟨HI.out.2.own,fun g cap e=>Nat.le_trans K1.out.size (HI.out.2.new g cap e),nT K1.out HI.out.2.kp⟩,?_⟩;rw[HI.out.1,List.take_of_length_le (by rw[HN.out];omega),FN.out];exact NK KS.out KN.out.1 KN.out.2)
   clear HI;go_wp2_with fail;go_ret;exact FIN.out
def CU(w:World)(a b:List (Nat×Nat))(e:Ending)(w':World):Prop:=∃ oa oc ob od,∃ c d:List (Nat×Nat),e=.returned (.tuple #[.slice oa c.length oc,.slice ob d.length od])/\GB w w' (.slice oa c.length oc) c/\GB w w' (.slice ob d.length od) d/\eO b a c/\eO a b d/\∀ x,(Value.slice oa c.length oc).ownBlock=some x->(Value.slice ob d.length od).ownBlock≠some x
theorem tD(v u:Value)(a b:List (Nat×Nat))(w:World)(hla:a.length<=8796093021952)(hlb:b.length<=8796093021952)(ha:∀ x∈a,gC x)(hb:∀ x∈b,gC x)(hv:RBk w v a)(hu:RBk w u b):
  Calls prog 18 #[v,u] w (CU w a b):=by
 have TA:=aA (xB v a w (by omega) ha hv);have TB:=aA (fun W (k:Kt nO w W)=>xB u b W (by omega) hb (hu.keep k));have HLA:=aA hla;have HLB:=aA hlb;obtain⟨va,vc,rfl,-⟩:=hv;obtain⟨ua,uc,rfl,-⟩:=hu;clear ha hb hla hlb;go_enter func18,ntmps18;go_wp2_with fail;refine TA.out.mono ?_;rintro e w1 ⟨g1,D1,rfl,gn1,hm1,he1,hl1,hk1⟩;have M1:=aA hm1;have E1:=aA (And.intro he1 hl1);have K1:=aA hk1;clear hm1 he1 hl1 hk1 gn1 TA;go_wp2_with fail;refine(TB.out _ K1.out).mono ?_;rintro e w2 ⟨g2,D2,rfl,gn2,hm2,he2,hl2,hk2⟩;have M2:=aA hm2;have E2:=aA (And.intro he2 hl2);have K2:=aA (nT K1.out hk2);have M12:=aA (M1.out.kept hk2 id);have BY:=aA (yB g2 g1 D2 D1 b a w2 M2.out E2.out.1 M12.out HLB.out HLA.out E2.out.2);clear hm2 he2 hl2 hk2 gn2 TB M1 K1;go_wp2_with fail;refine BY.out.mono ?_;rintro e w3 ⟨oa,oc,c,rfl,gc,mc⟩;have GC:=aA gc;have MC3:=aA mc;have BZ:=aA (yB g1 g2 D1 D2 a b w3 (M12.out.kept gc.kp id) E1.out.1 (M2.out.kept gc.kp id) HLA.out HLB.out E1.out.2);clear gc mc BY;go_wp2_with fail;refine BZ.out.mono ?_;rintro e w4 ⟨ob,od,d,rfl,gd,md⟩;have FIN:=aA (show CU w a b (.returned (.tuple #[.slice oa c.length oc,.slice ob d.length od])) w4 from by
  refine⟨_,_,_,_,c,d,rfl,?_,?_,MC3.out,md,?_⟩
  ·exact GS.bS (GS.keep GC.out gd.kp) K2.out
  ·exact GS.bS gd (nT K2.out GC.out.kp)
  ·intro x hx hy;have h1:=(GB.ownT gd hy).2;obtain⟨⟨cs,h2⟩,-⟩:=GB.ownT GC.out hx;have:=lH h2;omega)
 clear gd md BZ;go_wp2_with fail;exact⟨rfl,_,by simp[results,results18,go_sem],FIN.out⟩
end Go.Proofs.YtkfmheelhinjdaaGreatDoor.W
