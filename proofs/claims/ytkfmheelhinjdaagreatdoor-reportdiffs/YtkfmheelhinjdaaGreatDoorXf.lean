import Derived.Test.YtkfmheelhinjdaaGreatDoorXe
import Derived.Test.YtkfmheelhinjdaaGreatDoorXs
import Derived.Maps.RangeWalk
import Derived.WideKeyEntry
set_option maxRecDepth 1000000
set_option maxHeartbeats 80000000
namespace Go.Proofs.YtkfmheelhinjdaaGreatDoor.M
open _root_.Go.Proofs.Tryz
open Go.RowKit Go.Shelf
set_option linter.unusedVariables false
attribute [local go_sem] Oper.semAt_some
end Go.Proofs.YtkfmheelhinjdaaGreatDoor.M
namespace Go.Proofs.YtkfmheelhinjdaaGreatDoor.M
open _root_.Go.Proofs.Tryz
open Go.RowKit
set_option linter.unusedVariables false
end Go.Proofs.YtkfmheelhinjdaaGreatDoor.M
namespace Go.Proofs.YtkfmheelhinjdaaGreatDoor
open _root_.Go.Proofs.Tryz
open Go.RowKit
set_option linter.unusedVariables false
def aK(f:Nat->Bool):Nat->Nat
 | 0=>0
 | k+1=>aK f k+(if f k=true then 1 else 0)
theorem OD(f:Nat->Bool)(k:Nat):aK f k<=k:=by
 induction k with
 | zero=>simp[aK]
 | succ k ih=>simp only[aK];split <;> omega
theorem rE(f:Nat->Bool)(k:Nat)(h:f k=true):aK f (k+1)=aK f k+1:=by simp[aK,h]
theorem pG(f:Nat->Bool)(k:Nat)(h:f k=false):aK f (k+1)=aK f k:=by simp[aK,h]
theorem nL(ws:List Nat)(j:Nat):aF ws j=(ws.getD (j/64) 0).testBit (j%64):=by
 unfold aF;rw[Nat.testBit_eq_decide_div_mod_eq];rfl
theorem pJ(ws:List Nat)(k j:Nat)(hk:k/64<ws.length):aF (jK ws k) j=(if j=k then !aF ws k else aF ws j):=by
 rw[nL,nL,nL];unfold jK;by_cases e:j/64=k/64
 ·rw[e,rY _ _ _ hk,Nat.testBit_xor,Nat.testBit_two_pow];by_cases e2:j=k
  ·subst e2;simp
  ·have:¬k%64=j%64:=by omega
   simp[e2,this]
 ·rw[getD_set_ne _ _ _ _ e];have:¬j=k:=by intro h;subst h;exact e rfl
  simp[this]
theorem zO(zs:List Nat)(N j:Nat)(hz:∀ i,zs.getD i 0<2 ^ 64)(hj:j<N):aF (eY zs N) j=aF zs j:=by
 rw[nL,nL,zN zs N (j/64) hz (by omega),Nat.testBit_mod_two_pow];have:j%64<min 64 (N-64*(j/64)):=by omega
 simp[this]
theorem rQ(f g:Nat->Bool)(n:Nat)(h:∀ j,j<n->f j=g j):aK f n=aK g n:=by
 induction n with
 | zero=>rfl
 | succ n ih=>simp only[aK];rw[ih (fun j hj=>h j (by omega)),h n (by omega)]
theorem YL(f:Nat->Bool)(k:Nat):aK f (k+1)=(if f 0=true then 1 else 0)+aK (fun j=>f (j+1)) k:=by
 induction k with
 | zero=>simp[aK]
 | succ k ih=>rw[aK,ih];simp only[aK];omega
theorem TO(f:Nat->Bool)(a k:Nat):aK f (a+k)=aK f a+aK (fun j=>f (a+j)) k:=by
 induction k with
 | zero=>simp[aK]
 | succ k ih=>rw[<-Nat.add_assoc,aK,ih];simp only[aK];omega
theorem YH(k x:Nat):cE k x=aK (fun p=>x/2 ^ p%2 == 1) k:=by
 induction k generalizing x with
 | zero=>rfl
 | succ k ih=>
  rw[YL,cE,ih (x/2)];congr 1
  ·by_cases h:x%2=1
   ·simp[h]
   ·have:x%2=0:=by omega
    simp[this]
  ·apply rQ
   intro j hj;rw[Nat.div_div_eq_div_mul,Nat.pow_succ,Nat.mul_comm]
theorem rP(ws:List Nat)(hz:∀ i,ws.getD i 0<2 ^ 64)(m:Nat):lK ws m=aK (aF ws) (64*m):=by
 induction m with
 | zero=>rfl
 | succ m ih=>
  rw[uJ,ih,Nat.mul_add,Nat.mul_one,TO];congr 1
  rw[sJ 64 _ (hz m),YH];apply rQ
  intro p hp;exact(tQ ws m p hp).symm
theorem YG(f g:Nat->Bool)(j M:Nat)(h:∀ i,i≠j->f i=g i)(hf:f j=true)(hg:g j=false)(hj:j<M):aK g M+1=aK f M:=by
 induction M with
 | zero=>omega
 | succ M ih=>
  by_cases e:j=M
  ·subst e;rw[rE f j hf,pG g j hg,rQ f g j (fun i hi=>h i (by omega))]
  ·have:=ih (by omega);simp only[aK,h M (fun x=>e x.symm)];omega
theorem YF(f:Nat->Bool)(M:Nat)(h:∀ j,j<M->f j=false):aK f M=0:=by
 induction M with
 | zero=>rfl
 | succ M ih=>rw[pG f M (h M (by omega)),ih (fun j hj=>h j (by omega))]
theorem YD(ws:List Nat)(j:Nat)(hz:∀ i,ws.getD i 0<2 ^ 64)(hz2:∀ i,(jK ws j).getD i 0<2 ^ 64)(hj:j/64<ws.length)(hb:aF ws j=true):aT (jK ws j)+1=aT ws:=by
 unfold aT;rw[rP _ hz2,rP _ hz,zW];refine YG (aF ws) (aF (jK ws j)) j _ ?_ hb ?_ (by omega)
 ·intro i hi;rw[pJ ws j i hj,if_neg hi]
 ·rw[pJ ws j j hj,if_pos rfl,hb];rfl
end Go.Proofs.YtkfmheelhinjdaaGreatDoor
namespace Go.Proofs.YtkfmheelhinjdaaGreatDoor.W
open _root_.Go.Proofs.Tryz
open Go.RowKit
set_option linter.unusedVariables false
theorem fB.at{w:World}{a:Option Addr}{n c m:Nat}{C:Nat->Nat->Nat->Prop}(h:fB w (.slice a n c) m C)(i:Nat)(hi:i<m):∃ bl o,a=some ⟨bl,o,none⟩/\bl<w.heap.size/\∀ i,i<m->C bl o i:=by
 obtain⟨_,oa,oc,hv,h3⟩:=h;injection hv with e1
 rcases h3 with h3|⟨bl,o,e,hl,hc⟩
 ·omega
 ·exact⟨bl,o,by rw[e1,e],hl,hc⟩
theorem tO(b:Nat)(I:Img)(V:ImV)(q:Nat)(w:World)(hI:ImAt w b I V)(hq:q+8<=I.nm)(hb:I.bS+I.nm<=9223372036854775808):
  Calls prog 227 #[.pointer (some ⟨b,0,none⟩),.int .u64 ((I.bS+q:Nat):Int)] w fun e w'=>e=.returned (.int .u64 ((M.word I.mem q:Nat):Int))/\∃ m,w'=w.drewN m:=by
 obtain⟨⟨ma,mc,hm⟩,-⟩:=hI.d.sl;have hMM:=hI.d.mem;have hcp:=hI.d.mcp _ _ _ hm;rw[hm] at hMM;obtain⟨bl,o,rfl,-,hc⟩:=hMM.at q (by omega);obtain⟨c0,c1,c2,c3,c4,c5,c6,c7,c8⟩:=hI.cells;rw[hm] at c4;have HC:=aA (fun i (hi:i<8)=>hc (q+i) (by omega));obtain⟨B,hB⟩:=xe (I.bS);obtain⟨nm,hnm⟩:=xe (I.nm);rw[<-hB] at c0 hb ⊢;rw[<-hnm] at c4 hb hq hcp;obtain⟨ad,had⟩:=xe (B+q);rw[<-had];have hsub:(ad:Int)-(B:Int)=q:=by omega
 have had1:ad<9223372036854775808:=by omega
 have hq1:q<9223372036854775808:=by omega
 obtain⟨F,hF⟩:=xe (I.mem);rw[<-hF] at HC ⊢;obtain⟨RR,hRR⟩:=xe (M.word F q);rw[<-hRR];have HRR:=aA hRR;clear hB hnm had hI hm hMM hc hF hRR;go_enter func227,ntmps227;go_wp2_with fail;go_quiet (fail)
 go_wp2_with fail;have c4':(w.drewN nq).cell? ⟨b,4,none⟩=some (.slice (some ⟨bl,o,none⟩) nm mc):=c4;go_loop [5,25] (fun v i=>∃ k:Nat,k<=8/\i=.int .i64 k/\v=.int .u64 ((M.wordTo (fun i=>F (q+i)) k:Nat):Int)) (fun _ i=>8-(intOf i).toNat)
 case atStart=>exact⟨0,by omega,rfl,rfl⟩
 case round=>
  obtain⟨k,hk,rfl,rfl⟩:=hrel;by_cases hlt:k<8
  ·have hc:=(HC.out k hlt).2;rw[<-Nat.add_assoc] at hc;have E:=aA (M.word_step (M.wordTo (fun i=>F (q+i)) k) k (F (q+k)) hlt (HC.out k hlt).1 (M.wordTo_lt _ _ (fun i hi=>(HC.out i (by omega)).1)));go_wp2
   refine⟨⟨k+1,by omega,by simp,?_⟩,by simp[intOf];omega⟩;rw[E.out];rfl
  ·obtain rfl:k=8:=(by omega);go_wp2
   go_ret;exact⟨by rw[HRR.out];rfl,_,rfl⟩
def decP(I:Img)(p:Nat):Option Nat:=if I.bS<=p/\p-I.bS<I.nm/\(p-I.bS)%4096=0 then some ((p-I.bS)/4096) else none
def lE(x:Option Nat):Int:=match x with|some i=>(i:Int)|none => -1
theorem WU(b:Nat)(I:Img)(V:ImV)(p:Nat)(hp:p<18446744073709551616)(w:World)(hI:ImAt w b I V)(hb:I.bS+I.nm<=9223372036854775808):
  Calls prog 226 #[.pointer (some ⟨b,0,none⟩),.int .u64 p] w fun e w'=>e=.returned (.int .i64 (lE (decP I p)))/\w'=w:=by
 obtain⟨⟨ma,mc,hm⟩,-⟩:=hI.d.sl;obtain⟨c0,c1,c2,c3,c4,c5,c6,c7,c8⟩:=hI.cells;rw[hm] at c4;obtain⟨B,hB⟩:=xe (I.bS);obtain⟨nm,hnm⟩:=xe (I.nm);have hd:decP I p=if B<=p/\p-B<nm/\(p-B)%4096=0 then some ((p-B)/4096) else none:=by rw[hB,hnm];rfl
 rw[hd];rw[<-hB] at c0 hb;rw[<-hnm] at c4 hb;clear hB hnm hI hm hd;by_cases h1:p<B
 ·rw[if_neg (by omega)];obtain⟨x,hx⟩:=xe (18446744073709551616-(B-p));have hw:IntKind.u64.wrap ((p:Int)-(B:Int))=(x:Int):=by rw[wrap_u64];omega
  have h2:¬(x:Int)<nm:=by omega
  have h3:(nm:Int)<=x:=by omega
  have h4:nm<=x:=by omega
  clear hx;go_enter func226,ntmps226;go_wp2
  go_ret;exact⟨rfl,rfl⟩
 ·obtain⟨x,rfl⟩:∃ x,p=B+x:=⟨p-B,by omega⟩;rw[Nat.add_sub_cancel_left];have hw:((B+x:Nat):Int)-(B:Int)=x:=by omega
  have hle:B<=B+x:=by omega
  by_cases h2:x<nm
  ·by_cases h3:x%4096=0
   ·rw[if_pos ⟨hle,h2,h3⟩];have f2:¬(nm:Int)<=x:=(by omega);have f2':¬nm<=x:=(by omega);have f3:((x:Int)%4096 != 0)=false:=(by rw[bne_eq_false_iff_eq];omega);have f4:(x:Int)/4096=((x/4096:Nat):Int):=(by omega);have f5:x/4096<9223372036854775808:=(by omega);obtain⟨y,hy⟩:=xe (x/4096);rw[<-hy] at f4 f5 ⊢;generalize B+x=p at *;clear h3 hy hle;go_enter func226,ntmps226;go_wp2
    go_ret;exact⟨rfl,rfl⟩
   ·rw[if_neg (by omega)];have f2:¬(nm:Int)<=x:=(by omega);have f2':¬nm<=x:=(by omega);have f3:((x:Int)%4096 != 0)=true:=(by rw[bne_iff_ne];omega);generalize B+x=p at *;clear h3 hle;go_enter func226,ntmps226;go_wp2
    go_ret;exact⟨rfl,rfl⟩
  ·rw[if_neg (by omega)];have f2:(nm:Int)<=x:=(by omega);have f2':nm<=x:=(by omega);generalize B+x=p at *;clear hle;go_enter func226,ntmps226;go_wp2
   go_ret;exact⟨rfl,rfl⟩
theorem rG{n:Nat}{ws:List Nat}(hl:ws.length=(n+63)/64)(i:Nat)(hi:i<n)(v:Bool)(j:Nat):aF (bN n ws (i:Int) v) j=if j=i then v else aF ws j:=by
 have hr:aC n (i:Int)=true:=by unfold aC;exact decide_eq_true (by omega)
 have hs:cA n ws (i:Int)=aF ws i:=by unfold cA;rw[hr,Int.toNat_natCast,Bool.true_and]
 unfold bN;rw[hs];by_cases e:aF ws i=v
 ·rw[if_pos e];by_cases ej:j=i
  ·rw[if_pos ej,ej,e]
  ·rw[if_neg ej]
 ·rw[if_neg e];unfold fO;rw[if_pos hr,Int.toNat_natCast,pJ ws i j (by omega)];by_cases ej:j=i
  ·rw[if_pos ej,if_pos ej]
   cases h:aF ws i <;> cases v <;> simp_all
  ·rw[if_neg ej,if_neg ej]
theorem sQ(sb sc n:Nat)(ws:List Nat)(i p:Int)(w:World)(h:SetAt w sb sc n ws)(hb:cA n ws i=false):
  Calls prog 225 #[.pointer (some ⟨sb,0,none⟩),.int .i64 i,.int .i64 p] w fun e w'=>e=bM p/\w'=w:=by
 have HG:=aA (mL sb sc n ws i w h);rw[hb] at HG;clear h hb;go_enter func225,ntmps225;go_wp2_with fail;refine HG.out.mono ?_;rintro e w1 ⟨rfl,rfl⟩;go_wp2_with fail;refine(dD _ _).mono ?_;rintro e w2 ⟨rfl,rfl⟩;exact⟨rfl,rfl,rfl⟩
theorem tN(sb sc n:Nat)(ws:List Nat)(i p:Int)(w:World)(h:SetAt w sb sc n ws)(hb:cA n ws i=true):
  Calls prog 225 #[.pointer (some ⟨sb,0,none⟩),.int .i64 i,.int .i64 p] w fun e w'=>e=.returned (.tuple #[])/\SetAt w' sb sc n (bN n ws i false)/\Kt (fun x=>x=sc) w w'/\w'.heap.size=w.heap.size:=by
 have HG:=aA (mL sb sc n ws i w h);rw[hb] at HG;have HP:=aA (sX sb sc n ws i false w h);clear h hb;go_enter func225,ntmps225;go_wp2_with fail;refine HG.out.mono ?_;rintro e w1 ⟨rfl,rfl⟩;go_wp2_with fail;refine(cH _ _).mono ?_;rintro e w2 ⟨rfl,rfl⟩;go_wp2_with fail;refine HP.out.mono ?_;rintro e w3 ⟨rfl,h1,h2,h3⟩;have HH:=aA (show SetAt w3 sb sc n (bN n ws i false)/\Kt (fun x=>x=sc) w2 w3/\w3.heap.size=w2.heap.size from⟨h1,h2,h3⟩);clear h1 h2 h3;go_wp2_with fail;first|go_end0|go_ret
 exact⟨rfl,HH.out⟩
end Go.Proofs.YtkfmheelhinjdaaGreatDoor.W
namespace Go.Proofs.YtkfmheelhinjdaaGreatDoor
open _root_.Go.Proofs.Tryz
open Go.RowKit Go.MapKept
open Go.ChangeMaps (setBlock heap_setBlock_same heap_setBlock_other)
open Go.Maps (Keyed)
set_option linter.unusedVariables false
structure KT(k:TypeId){α : Type}(enc : α->Value)(ok : α->Prop):Prop where
 K:Keyed prog k
 key:∀ a,ok a->∃ l,keyOf prog k (enc a)=some l
 inj:∀ a b,ok a->ok b->enc a=enc b->a=b
abbrev dG(n:Nat):Value:=.int .i64 n
def fM(e:MapEntry):Value×Value:=(e.key,e.val)
section
variable {α : Type} {enc : α->Value} {ok : α->Prop} {k e t:TypeId} {w w':World} {b r:Nat} {D rest:List α} {c : α->Nat}
def dZ(enc : α->Value)(c : α->Nat)(a : α):Value×Value:=(enc a,dG (c a))
structure MC(enc : α->Value)(ok : α->Prop)(w:World)(b:Nat)(D:List α)(c : α->Nat):Prop where
 ex:∃ es clock,w.heap[b]?=some (.map es clock)/\Stamped es clock/\es.toList.map fM=D.map (dZ enc c)
 lt:∀ a∈D,ok a
 z:∀ a,a ∉ D->c a=0
theorem MC.nodup(h:MC enc ok w b D c):D.Nodup:=by
 obtain⟨⟨es,clock,hb,hst,hL⟩,hlt,_⟩:=h;have h3:=((stamped_iff es clock).1 hst).2.2;have h4:(es.toList.map fM).Pairwise (fun x y=>x.1≠y.1):=List.pairwise_map.2 h3;rw[hL] at h4;exact(List.pairwise_map.1 h4).imp fun {p q} hne e=>hne (by rw[e])
theorem MC.ltsz(h:MC enc ok w b D c):b<w.heap.size:=by
 obtain⟨⟨es,clock,hb,_⟩,_⟩:=h;exact(Array.getElem?_eq_some_iff.1 hb).1
theorem MC.kept{S:Nat->Prop}(h:MC enc ok w b D c)(k:Kt S w w')(hb:¬S b):MC enc ok w' b D c:=by
 have hl:=h.ltsz;obtain⟨⟨es,clock,h1,h2⟩,h3,h4⟩:=h;exact⟨⟨es,clock,(k.block b hl hb).trans h1,h2⟩,h3,h4⟩
theorem MC.made(w:World):MC enc ok (w.alloc (.map #[] 0)) w.heap.size [] (fun _=>0):=
 ⟨⟨#[],0,nH w _,stamped_empty 0,rfl⟩,(fun p hp=>by cases hp),fun _ _=>rfl⟩
theorem MC.find(T:KT k enc ok)(h:MC enc ok w b D c){es:Array MapEntry}(hL:es.toList.map fM=D.map (dZ enc c))(a : α)(ha:ok a):
  ((Instr.findKey k (enc a) es.toList).run prog w=.ok none w/\a ∉ D/\∀ x∈es.toList,x.key≠enc a)\/
  ∃ j e0,(Instr.findKey k (enc a) es.toList).run prog w=.ok (some (j,e0.val)) w/\es.toList[j]?=some e0/\e0.key=enc a/\D[j]?=some a/\e0.val=dG (c a):=by
 obtain⟨l,hl⟩:=T.key a ha;rcases T.K.find w hl es.toList (fun x hx=>by
   have:fM x∈D.map (dZ enc c):=by rw[<-hL];exact List.mem_map.2 ⟨x,hx,rfl⟩
   obtain⟨p,hp,e1⟩:=List.mem_map.1 this;obtain⟨m,hm⟩:=T.key p (h.lt p hp);exact⟨m,by rw[<-hm];exact congrArg _ (congrArg Prod.fst e1).symm⟩)with ⟨h1,h2⟩|⟨j,e0,h1,h2,h3⟩
 ·refine .inl ⟨h1,fun hD=>?_,h2⟩;have:dZ enc c a∈es.toList.map fM:=by rw[hL];exact List.mem_map.2 ⟨a,hD,rfl⟩
  obtain⟨x,hx,e2⟩:=List.mem_map.1 this;exact h2 x hx (congrArg Prod.fst e2)
 ·refine .inr ⟨j,e0,h1,h2,h3,?_⟩;have e1:=congrArg (fun l=>l[j]?) hL;simp only[List.getElem?_map,h2,Option.map_some] at e1
  cases hD:D[j]? with
  | none=>rw[hD] at e1;cases e1
  | some p=>
   rw[hD] at e1;have e2:fM e0=dZ enc c p:=Option.some.inj e1;have e3:p=a:=T.inj p a (h.lt p (List.mem_of_getElem? hD)) ha ((congrArg Prod.fst e2).symm.trans h3);subst e3;exact⟨rfl,congrArg Prod.snd e2⟩
theorem MC.look(T:KT k enc ok)(h:MC enc ok w b D c)(ht:prog.underlying t=some (.map k e))(hz:(zeroValue e).run prog w=.ok (.int .i64 0) w)(a : α)(ha:ok a):
  (Instr.lookup t (.map (some b)) (enc a) false).run prog w=.ok (dG (c a)) w:=by
 have h0:=h;obtain⟨⟨es,clock,hb,hst,hL⟩,hlt,h9⟩:=h;obtain⟨l,hl⟩:=T.key a ha;rcases h0.find T hL a ha with ⟨h1,h2,h3⟩|⟨j,e0,h1,h2,h3,h4,h5⟩
 ·simp[Instr.lookup,run_underlying ht,MapKept.run_getObj_map hb,T.K.check w _ hl,h1,hz,h9 a h2,Result.andThen]
 ·simp[Instr.lookup,run_underlying ht,MapKept.run_getObj_map hb,T.K.check w _ hl,h1,h5,Result.andThen]
theorem nU{w:World}{b:Nat}{o:Obj}(hb:b<w.heap.size):Kt (fun x=>x=b) w (setBlock w b o):=
 ⟨rfl,rfl,rfl,by simp[setBlock],fun i hi hne=>by simp[setBlock,Ne.symm hne]⟩
open Classical in
noncomputable def aY(D:List α)(a : α):List α:=if a∈D then D else D ++ [a]
theorem nN(a x : α):x∈aY D a↔x∈D\/x=a:=by
 unfold aY;split
 ·rename_i h;exact⟨.inl,fun h2=>h2.elim id (fun e=>e▸h)⟩
 ·simp
theorem OH(a : α):(aY D a).length<=D.length+1:=by
 unfold aY;split <;> simp
theorem MC.store(T:KT k enc ok)(h:MC enc ok w b D c)(ht:prog.underlying t=some (.map k e))(hm:D.length<maxLen)(a : α)(ha:ok a)(v:Nat)(c' : α->Nat)(hc:c' a=v)(hc2:∀ x,x≠a->c' x=c x):
  ∃ w',(Instr.mapUpdate t (.map (some b)) (enc a) (dG v)).run prog w=.ok () w'/\MC enc ok w' b (aY D a) c'/\Kt (fun x=>x=b) w w'/\w'.heap.size=w.heap.size:=by
 have h0:=h;have hnd:=h.nodup;obtain⟨⟨es,clock,hb,hst,hL⟩,hlt,h9⟩:=h;obtain⟨l,hl⟩:=T.key a ha;have hbl:=h0.ltsz;have hlen:es.size<maxLen:=by
  have:=congrArg List.length hL;simp at this;omega
 have hlt':∀ x∈aY D a,ok x:=fun x hx=>((nN a x).1 hx).elim (hlt x) (fun e=>e▸ha)
 have hz':∀ x,x ∉ aY D a->c' x=0:=fun x hx=>by
  have h1:¬(x∈D\/x=a):=fun h2=>hx ((nN a x).2 h2)
  rw[hc2 x (fun e=>h1 (.inr e))];exact h9 x (fun e=>h1 (.inl e))
 rcases h0.find T hL a ha with ⟨h1,h2,h3⟩|⟨j,e0,h1,h2,h3,h4,h5⟩
 ·have eD:aY D a=D ++ [a]:=by unfold aY;rw[if_neg h2]
  refine⟨setBlock w b (.map (es.push ⟨enc a,dG v,clock⟩) (clock+1)),?_,⟨⟨_,_,heap_setBlock_same hb _,stamped_push hst h3,?_⟩,hlt',hz'⟩,nU hbl,by simp[setBlock]⟩
  ·simp[Instr.mapUpdate,run_underlying ht,MapKept.run_getObj_map hb,T.K.check w false hl,h1,MapKept.run_setObj_map _ hb,Result.andThen,setBlock]
  ·have e1:D.map (dZ enc c)=D.map (dZ enc c'):=List.map_congr_left fun x hx=>by
    unfold dZ;rw[hc2 x (fun e=>h2 (e▸hx))]
   have e2:fM ⟨enc a,dG v,clock⟩=dZ enc c' a:=by
    unfold fM dZ;rw[hc]
   rw[eD,Array.toList_push,List.map_append,List.map_append,hL,e1,List.map_singleton,List.map_singleton,e2]
 ·have eD:aY D a=D:=by unfold aY;rw[if_pos (List.mem_of_getElem? h4)]
  have hj:es[j]?=some e0:=by simpa using h2
  have hkeyf:∀ e'∈es.toList,es[j]?=some e'->({ e' with key:=enc a,val:=dG v } : MapEntry).key=e'.key:=fun e' _ he'=>by rw[hj] at he';cases he';exact h3.symm
  refine⟨setBlock w b (.map (es.modify j (fun e'=>{ e' with key:=enc a,val:=dG v })) clock),?_,⟨⟨_,_,heap_setBlock_same hb _,stamped_modify hst _ _ (fun _ _=>rfl) hkeyf,?_⟩,hlt',hz'⟩,nU hbl,by simp[setBlock]⟩
  ·simp[Instr.mapUpdate,run_underlying ht,MapKept.run_getObj_map hb,T.K.check w false hl,h1,hj,h3,T.K.stays w hl,MapKept.run_setObj_map _ hb,Result.andThen,setBlock]
  ·rw[eD];apply List.ext_getElem?
   intro i;have hi:=congrArg (fun l=>l[i]?) hL;simp only[List.getElem?_map] at hi;simp only[List.getElem?_map,Array.getElem?_toList,Array.getElem?_modify];simp only[Array.getElem?_toList] at hi
   cases hD:D[i]? with
   | none=>
    rw[hD] at hi
    cases he:es[i]? with
    | none=>split <;> simp
    | some x=>rw[he] at hi;cases hi
   | some p=>
    rw[hD] at hi
    cases he:es[i]? with
    | none=>rw[he] at hi;cases hi
    | some x=>
     rw[he] at hi;have hxe:fM x=dZ enc c p:=Option.some.inj hi;by_cases hij:j=i
     ·subst hij;rw[h4] at hD
      cases hD
      simp[fM,dZ,hc]
     ·have hpn:p≠a:=fun e1=>by
       obtain⟨q1,q1'⟩:=List.getElem?_eq_some_iff.1 h4;obtain⟨q2,q2'⟩:=List.getElem?_eq_some_iff.1 hD;rcases Nat.lt_or_gt_of_ne hij with hlt'|hlt'
       ·exact List.pairwise_iff_getElem.1 hnd j i q1 q2 hlt' (q1'.trans (e1.symm.trans q2'.symm))
       ·exact List.pairwise_iff_getElem.1 hnd i j q2 q1 hlt' (q2'.trans (e1.trans q1'.symm))
      simp only[hij,if_false,Option.map_some,hxe];unfold dZ;rw[hc2 p hpn]
theorem MC.len(h:MC enc ok w b D c)(ht:prog.underlying t=some (.map k e))(ty:TypeId):(Builtin.len_ #[t] ty #[.map (some b)]).run prog w=.ok (.int .i64 D.length) w:=by
 obtain⟨⟨es,clock,hb,hst,hL⟩,hlt⟩:=h;have:=congrArg List.length hL;simp at this;simp[Builtin.len_,run_underlying ht,MapKept.run_getObj_map hb,goInt,Result.andThen,this]
def RC(enc : α->Value)(w:World)(b r:Nat)(D:List α)(c : α->Nat)(rest:List α):Prop:=
 ∃ es clock since seen c0,w.heap[b]?=some (.map es clock)/\Stamped es clock/\es.toList.map fM=D.map (dZ enc c)/\w.heap[r]?=some (.mapIter (some b) since seen c0)/\(∀ x∈es.toList,x.born<since)/\since<=c0/\since<=clock/\((leftOf es seen).toList.map fM).Perm (rest.map (dZ enc c))
theorem RC.left_eq(h:RC enc w b r D c rest):w.rangeLeft b r=rest.length:=by
 obtain⟨es,clock,since,seen,c0,hb,hst,hL,hr,h1,h2,h3,hp⟩:=h;simp only[World.rangeLeft,hb,hr];simpa using hp.length_eq
theorem RC.ne(h:RC enc w b r D c rest):r≠b:=by
 obtain⟨es,clock,since,seen,c0,hb,hst,hL,hr,h1,h2,h3,hp⟩:=h;intro e;rw[e,hb] at hr
 cases hr
theorem RC.lts(h:RC enc w b r D c rest):b<w.heap.size/\r<w.heap.size:=by
 obtain⟨es,clock,since,seen,c0,hb,hst,hL,hr,h1,h2,h3,hp⟩:=h;exact⟨(Array.getElem?_eq_some_iff.1 hb).1,(Array.getElem?_eq_some_iff.1 hr).1⟩
theorem RC.kept{S:Nat->Prop}(h:RC enc w b r D c rest)(k:Kt S w w')(hb:¬S b)(hr:¬S r):RC enc w' b r D c rest:=by
 have hl:=h.lts;obtain⟨es,clock,since,seen,c0,h1,h2,h3,h4,h5⟩:=h;exact⟨es,clock,since,seen,c0,(k.block b hl.1 hb).trans h1,h2,h3,(k.block r hl.2 hr).trans h4,h5⟩
theorem MC.range(h:MC enc ok w b D c)(ht:prog.underlying t=some (.map k e)):
  ∃ w',(Instr.range t (.map (some b))).run prog w=.ok (.pointer (some ⟨w.heap.size,0,none⟩)) w'/\RC enc w' b w.heap.size D c D/\Kt (fun _=>False) w w'/\w'.heap.size=w.heap.size+1:=by
 have hl:=h.ltsz;obtain⟨⟨es,clock,hb,hst,hL⟩,hlt⟩:=h;refine⟨_,run_range_map w t k e b es clock ht hb,⟨es,clock,clock,#[],clock,?_,hst,hL,nH w _,((stamped_iff es clock).1 hst).1,Nat.le_refl _,Nat.le_refl _,?_⟩,(Kt.refl _ w).alloc _,by simp⟩
 ·rw[Below.heap_alloc _ _ _ hl];exact hb
 ·have:leftOf es #[]=es:=by simp[leftOf]
  rw[this,hL]
theorem yX(e:MapEntry)(seen:Array Nat):∀ (l:List MapEntry),(l.map (·.born)).Nodup->e∈l->seen.contains e.born=false->
  (l.filter (fun x=>!seen.contains x.born)).Perm (e :: l.filter (fun x=>!(seen.push e.born).contains x.born))
 | [],_,h,_=>by cases h
 | a :: l,hn,h,hs=>by
  obtain⟨h1,h2⟩:=List.nodup_cons.1 (by simpa using hn:(a.born :: l.map (·.born)).Nodup);have hcp:∀ x:MapEntry,(seen.push e.born).contains x.born=(seen.contains x.born || x.born == e.born):=fun x=>contains_push _ _ _
  rcases List.mem_cons.1 h with rfl|h'
  ·have e1:l.filter (fun x=>!(seen.push e.born).contains x.born)=l.filter (fun x=>!seen.contains x.born):=by
    refine List.filter_congr fun x hx=>?_
    have hxe:(x.born == e.born)=false:=by
     rw[beq_eq_false_iff_ne];exact fun e2=>h1 (List.mem_map.2 ⟨x,hx,e2⟩)
    rw[hcp,hxe,Bool.or_false]
   simp only[List.filter_cons,hs,hcp,beq_self_eq_true,Bool.or_true,Bool.not_false,Bool.not_true,if_true,Bool.false_eq_true,if_false];simp only[hcp] at e1;rw[e1]
  ·have ih:=yX e seen l h2 h' hs;have hae:(a.born == e.born)=false:=by
    rw[beq_eq_false_iff_ne];exact fun e2=>h1 (List.mem_map.2 ⟨e,h',e2.symm⟩)
   simp only[List.filter_cons,hcp,hae,Bool.or_false];simp only[hcp] at ih
   cases hc:seen.contains a.born
   ·simp only[Bool.not_false,if_true];exact(ih.cons a).trans (List.Perm.swap e a _)
   ·simp only[Bool.not_true,Bool.false_eq_true,if_false];exact ih
theorem RC.next(h:RC enc w b r D c rest)(ty:TypeId):
  (rest=[]/\(Instr.next (.pointer (some ⟨r,0,none⟩)) false ty).run prog w=.ok (.tuple #[.bool false]) w)\/
  ∃ a rest' w',rest.Perm (a :: rest')/\(Instr.next (.pointer (some ⟨r,0,none⟩)) false ty).run prog w=.ok (.tuple #[.bool true,enc a,dG (c a)]) w'/\RC enc w' b r D c rest'/\Kt (fun x=>x=r) w w'/\w'.heap.size=w.heap.size/\
   (Instr.entry (.pointer (some ⟨r,0,none⟩))).run prog w'=.ok (.tuple #[enc a,dG (c a)]) w':=by
 have hne:=h.ne;have hlts:=h.lts;obtain⟨es,clock,since,seen,c0,hb,hst,hL,hr,h1,h2,h3,hp⟩:=h;have hborn:=((stamped_iff es clock).1 hst).2.1;rcases run_next_at (P:=prog) w ty r b since c0 seen es clock hr hb h1 h2 with ⟨h0,hrun⟩|⟨e,he,w1,hal,hrun⟩
 ·refine Or.inl ⟨?_,hrun⟩;have:=hp.length_eq;simp at this;have h0':rest.length=0:=by omega
  exact List.length_eq_zero_iff.1 h0'
 ·obtain⟨hem,hes⟩:=mem_left he;have hin:fM e∈rest.map (dZ enc c):=hp.mem_iff.1 (List.mem_map.2 ⟨e,he,rfl⟩);obtain⟨p,hpr,hpe⟩:=List.mem_map.1 hin;obtain⟨s,t',hst'⟩:=List.append_of_mem hpr;have hk1:e.key=enc p:=(congrArg Prod.fst hpe).symm;have hk2:e.val=dG (c p):=(congrArg Prod.snd hpe).symm;rw[hk1,hk2] at hrun;have hr1:w1.heap[r]?=some (.mapIter (some b) since seen c0):=by rcases hal with rfl|rfl <;> exact hr
  have hb1:w1.heap[b]?=some (.map es clock):=by rcases hal with rfl|rfl <;> exact hb
  have hset:=Go.MapKept.heap_set (o':=.mapIter (some b) since (seen.push e.born) clock) hr1;have hb':(setBlock w1 r (.mapIter (some b) since (seen.push e.born) clock)).heap[b]?=some (.map es clock):=(hset.2 b (fun e1=>hne e1.symm)).trans hb1;have hperm:rest.Perm (p :: (s ++ t')):=by rw[hst'];exact List.perm_middle
  refine Or.inr ⟨p,s ++ t',_,hperm,hrun,⟨es,clock,since,seen.push e.born,clock,hb',hst,hL,hset.1,h1,h3,h3,?_⟩,?_,?_,?_⟩
  ·have hlp:(leftOf es seen).toList.Perm (e :: (leftOf es (seen.push e.born)).toList):=by
    simp only[leftOf,Array.toList_filter];exact yX e seen es.toList hborn hem hes
   have h7:=(hlp.map fM).symm.trans (hp.trans (hperm.map (dZ enc c)));simp only[List.map_cons,hpe] at h7;exact h7.cons_inv
  ·have hl1:r<w1.heap.size:=by rcases hal with rfl|rfl <;> exact hlts.2
   have k1:Kt (fun x=>x=r) w w1:=by
    rcases hal with rfl|rfl
    ·exact Kt.refl _ _
    ·exact(Kt.refl _ _).drew
   exact k1.trans (nU hl1) (fun _ _ h=>h) (fun _ _ h=>h)
  ·rcases hal with rfl|rfl <;> simp[setBlock]
  ·have:=run_entry_at (P:=prog) _ r b since seen es clock e hset.1 hb' hem hborn;rw[hk1,hk2] at this;exact this
end
section
variable {α : Type} {enc : α->Value} {ok : α->Prop} (w:World) {ops:Array Oper} {rest:List Oper} {o:Oper} {a:Act} {Q:Exit->Act->World->Prop} {D:List α} {c : α->Nat}
theorem rH(hg:o.guard=none)(m x:Operand)(t:TypeId)(hop:o.op=Op.lookup t m x false)(k e:TypeId)(T:KT k enc ok)(ht:prog.underlying t=some (.map k e))(hz:(zeroValue e).run prog w=.ok (.int .i64 0) w)
  (b:Nat) (hm:a.eval m=.map (some b)) (h:MC enc ok w b D c) (n : α) (hn:ok n) (hx:a.eval x=enc n) (v:Nat) (hv:c n=v)
  (hK:wpList prog ops Q rest (a.put o.dst (dG v)) w):wpList prog ops Q (o :: rest) a w:=by
 refine wpList_plain hg fun K' hK'=>?_
 have hrun:=h.look T ht hz n hn;rw[hv] at hrun;unfold Oper.wp;simp[execOp,hop,hm,hx,hrun,Result.andThen];exact hK' _ _ hK
theorem VN(hg:o.guard=none)(m x v:Operand)(t:TypeId)(hop:o.op=Op.mapUpdate t m x v)(k e:TypeId)(T:KT k enc ok)(ht:prog.underlying t=some (.map k e))
  (b:Nat) (hm:a.eval m=.map (some b)) (h:MC enc ok w b D c) (hl:D.length<maxLen) (n : α) (hn:ok n) (hx:a.eval x=enc n) (val:Nat) (c' : α->Nat) (hc:c' n=val) (hc2:∀ x,x≠n->c' x=c x) (hv:a.eval v=dG val)
  (hK:∀ w',MC enc ok w' b (aY D n) c'->Kt (fun x=>x=b) w w'->w'.heap.size=w.heap.size->wpList prog ops Q rest (a.put o.dst undef) w'):wpList prog ops Q (o :: rest) a w:=by
 refine wpList_plain hg fun K' hK'=>?_
 obtain⟨w',hrun,r1,r2,r3⟩:=h.store T ht hl n hn val c' hc hc2;unfold Oper.wp;simp[execOp,hop,hm,hx,hv,hrun,Result.andThen];exact hK' _ _ (hK w' r1 r2 r3)
theorem tT(hg:o.guard=none)(m:Operand)(t:TypeId)(hop:o.op=Op.range t m)(k e:TypeId)(ht:prog.underlying t=some (.map k e))(b:Nat)(hm:a.eval m=.map (some b))(h:MC enc ok w b D c)
  (hK:∀ w',RC enc w' b w.heap.size D c D->Kt (fun _=>False) w w'->w'.heap.size=w.heap.size+1->wpList prog ops Q rest (a.put o.dst (.pointer (some ⟨w.heap.size,0,none⟩))) w'):wpList prog ops Q (o :: rest) a w:=by
 refine wpList_plain hg fun K' hK'=>?_
 obtain⟨w',hrun,r1,r2,r3⟩:=h.range ht;unfold Oper.wp;simp[execOp,hop,hm,hrun,Result.andThen];exact hK' _ _ (hK w' r1 r2 r3)
theorem tP(hg:o.guard=none)(it:Operand)(hop:o.op=Op.next it false)(b r:Nat)(left:List α)(hit:a.eval it=.pointer (some ⟨r,0,none⟩))(h:RC enc w b r D c left)
  (hDone:left=[]->wpList prog ops Q rest (a.put o.dst (.tuple #[.bool false])) w)
  (hMore:∀ (n : α) (left':List α) (w':World),left.Perm (n :: left')->RC enc w' b r D c left'->Kt (fun x=>x=r) w w'->w'.heap.size=w.heap.size->
   (Instr.entry (.pointer (some ⟨r,0,none⟩))).run prog w'=.ok (.tuple #[enc n,dG (c n)]) w'->wpList prog ops Q rest (a.put o.dst (.tuple #[.bool true,enc n,dG (c n)])) w'):
  wpList prog ops Q (o :: rest) a w:=by
 refine wpList_plain hg fun K' hK'=>?_
 unfold Oper.wp;rcases h.next o.type with ⟨h0,hrun⟩|⟨p,left',w',hp,hrun,h1,h2,h3,h4⟩
 ·simp[execOp,hop,hit,hrun,Result.andThen];exact hK' _ _ (hDone h0)
 ·simp[execOp,hop,hit,hrun,Result.andThen];exact hK' _ _ (hMore p left' w' hp h1 h2 h3 h4)
end
section
variable {α : Type} {enc : α->Value} {ok : α->Prop} {k e t:TypeId} {w w':World} {b st:Nat} {D:List α} {c : α->Nat} {a : α}
def hY(enc : α->Value)(w:World)(b st:Nat)(a : α):Prop:=∃ (es:Array MapEntry) (clock j:Nat) (e0:MapEntry),w.heap[b]?=some (.map es clock)/\es.toList[j]?=some e0/\e0.key=enc a/\e0.born=st
theorem hY.kept{S:Nat->Prop}(h:hY enc w b st a)(k:Kt S w w')(hb:¬S b):hY enc w' b st a:=by
 obtain⟨es,clock,j,e0,h1,h2⟩:=h;exact⟨es,clock,j,e0,(k.block b (Array.getElem?_eq_some_iff.1 h1).1 hb).trans h1,h2⟩
theorem qR(h:a∈D):aY D a=D:=by unfold aY;rw[if_pos h]
theorem MC.entry(T:KT k enc ok)(h:MC enc ok w b D c)(ht:prog.underlying t=some (.map k e))(hz:∀ w,(zeroValue e).run prog w=.ok (.int .i64 0) w)(a : α)(ha:ok a):
  ∃ (w':World) (v0:Value) (st:Nat),(Instr.mapEntry t (.map (some b)) (enc a)).run prog w=.ok (.tuple #[v0,goInt st]) w'/\MC enc ok w' b (aY D a) c/\hY enc w' b st a/\(∀ s2,hY enc w b s2 a->hY enc w' b s2 a)/\Kt (fun x=>x=b) w w':=by
 have h0:=h;obtain⟨⟨es,clock,hb,hst,hL⟩,hlt,h9⟩:=h;obtain⟨l,hl⟩:=T.key a ha;have hbl:=h0.ltsz;have hlt':∀ x∈aY D a,ok x:=fun x hx=>((nN a x).1 hx).elim (hlt x) (fun e=>e▸ha)
 have hz':∀ x,x ∉ aY D a->c x=0:=fun x hx=>h9 x (fun hD=>hx ((nN a x).2 (.inl hD)))
 rcases h0.find T hL a ha with ⟨h1,h2,h3⟩|⟨j,e0,h1,h2,h3,h4,h5⟩
 ·have eD:aY D a=D ++ [a]:=by unfold aY;rw[if_neg h2]
  refine⟨setBlock w b (.map (es.push ⟨enc a,.int .i64 0,clock⟩) (clock+1)),.int .i64 0,clock,?_,⟨⟨_,_,heap_setBlock_same hb _,stamped_push hst h3,?_⟩,hlt',hz'⟩,⟨_,_,es.size,⟨enc a,.int .i64 0,clock⟩,heap_setBlock_same hb _,by simp,rfl,rfl⟩,?_,nU hbl⟩
  ·simp[Instr.mapEntry,run_underlying ht,MapKept.run_getObj_map hb,T.K.check w false hl,h1,hz,MapKept.run_setObj_map _ hb,Result.andThen,setBlock]
  ·have e2:fM ⟨enc a,.int .i64 0,clock⟩=dZ enc c a:=by
    unfold fM dZ;rw[h9 a h2];rfl
   rw[eD,Array.toList_push,List.map_append,List.map_append,hL,List.map_singleton,List.map_singleton,e2]
  ·rintro s2 ⟨es2,cl2,j,e0,q1,q2,q3,q4⟩;rw[hb] at q1
   cases q1
   exact absurd q3 (h3 e0 (List.mem_of_getElem? q2))
 ·have eD:aY D a=D:=qR (List.mem_of_getElem? h4);have hj:es[j]?=some e0:=by simpa using h2
  have hsame:es.modify j (fun e=>{ e with key:=enc a })=es:=by
   apply Array.ext'
   rw[Array.toList_modify,Go.ChangeMaps.modify_eq_set _ _ _ _ h2];have:({ e0 with key:=enc a } : MapEntry)=e0:=by rw[<-h3]
   rw[this];exact WideElems.set_self _ _ _ h2
  refine⟨setBlock w b (.map es clock),e0.val,e0.born,?_,⟨⟨es,clock,heap_setBlock_same hb _,hst,by rw[eD];exact hL⟩,hlt',hz'⟩,⟨es,clock,j,e0,heap_setBlock_same hb _,h2,h3,rfl⟩,?_,nU hbl⟩
  ·simp[Instr.mapEntry,run_underlying ht,MapKept.run_getObj_map hb,T.K.check w false hl,h1,hj,h3,T.K.stays w hl,hsame,MapKept.run_setObj_map _ hb,Result.andThen,setBlock]
  ·rintro s2 ⟨es2,cl2,j2,e2,q1,q2,q3,q4⟩;rw[hb] at q1
   cases q1
   exact⟨es,clock,j2,e2,heap_setBlock_same hb _,q2,q3,q4⟩
theorem MC.put(T:KT k enc ok)(h:MC enc ok w b D c)(E:hY enc w b st a)(ha:ok a)(t:TypeId)(v:Nat)(c' : α->Nat)(hc:c' a=v)(hc2:∀ x,x≠a->c' x=c x):
  ∃ w',(Instr.entryStore t (.map (some b)) (goInt st) (dG v)).run prog w=.ok () w'/\MC enc ok w' b D c'/\a∈D/\Kt (fun x=>x=b) w w':=by
 have h0:=h;have hnd:=h.nodup;obtain⟨⟨es,clock,hb,hst,hL⟩,hlt,h9⟩:=h;have hbl:=h0.ltsz;obtain⟨es2,cl2,j,e0,q1,h2,h3,h6⟩:=E;rw[hb] at q1
 cases q1
 have e1:=congrArg (fun l=>l[j]?) hL;simp only[List.getElem?_map,h2,Option.map_some] at e1
 cases hD:D[j]? with
 | none=>rw[hD] at e1;cases e1
 | some p=>
  rw[hD] at e1;have e2:fM e0=dZ enc c p:=Option.some.inj e1;have e3:p=a:=T.inj p a (hlt p (List.mem_of_getElem? hD)) ha ((congrArg Prod.fst e2).symm.trans h3);subst e3;have hj:es[j]?=some e0:=by simpa using h2
  have hidx:es.findIdx? (fun e=>((e.born:Nat):Int) == ((st:Nat):Int))=some j:=by
   rw[WideElems.findIdx_arr,<-h6];exact WideElems.findIdx_born ((stamped_iff es clock).1 hst).2.1 h2
  refine⟨setBlock w b (.map (es.modify j (fun e'=>{ e' with val:=dG v })) clock),?_,⟨⟨_,_,heap_setBlock_same hb _,stamped_modify hst _ _ (fun _ _=>rfl) (fun _ _ _=>rfl),?_⟩,hlt,fun x hx=>?_⟩,List.mem_of_getElem? hD,nU hbl⟩
  ·simp[Instr.entryStore,MapKept.run_getObj_map hb,asInt,asIntOf,goInt,hidx,MapKept.run_setObj_map _ hb,Result.andThen,setBlock]
  ·apply List.ext_getElem?
   intro i;have hi:=congrArg (fun l=>l[i]?) hL;simp only[List.getElem?_map] at hi;simp only[List.getElem?_map,Array.getElem?_toList,Array.getElem?_modify];simp only[Array.getElem?_toList] at hi
   cases hDi:D[i]? with
   | none=>
    rw[hDi] at hi
    cases he:es[i]? with
    | none=>split <;> simp
    | some x=>rw[he] at hi;cases hi
   | some q=>
    rw[hDi] at hi
    cases he:es[i]? with
    | none=>rw[he] at hi;cases hi
    | some x=>
     rw[he] at hi;have hxe:fM x=dZ enc c q:=Option.some.inj hi;by_cases hij:j=i
     ·subst hij;rw[hD] at hDi
      cases hDi
      rw[hj] at he
      cases he
      have:=congrArg Prod.fst hxe;simp[fM,dZ,hc] at this ⊢;exact this
     ·have hpn:q≠p:=fun e1=>by
       obtain⟨q1,q1'⟩:=List.getElem?_eq_some_iff.1 hD;obtain⟨q2,q2'⟩:=List.getElem?_eq_some_iff.1 hDi;rcases Nat.lt_or_gt_of_ne hij with hlt'|hlt'
       ·exact List.pairwise_iff_getElem.1 hnd j i q1 q2 hlt' (q1'.trans (e1.symm.trans q2'.symm))
       ·exact List.pairwise_iff_getElem.1 hnd i j q2 q1 hlt' (q2'.trans (e1.trans q1'.symm))
      simp only[hij,if_false,Option.map_some,hxe];unfold dZ;rw[hc2 q hpn]
  ·rw[hc2 x (fun e=>hx (e▸List.mem_of_getElem? hD))];exact h9 x hx
end
section
variable {α : Type} {enc : α->Value} {ok : α->Prop} (w:World) {ops:Array Oper} {rest:List Oper} {o:Oper} {ac:Act} {Q:Exit->Act->World->Prop} {D:List α} {c : α->Nat}
theorem zE(hg:o.guard=none)(m x:Operand)(t:TypeId)(hop:o.op=Op.mapEntry t m x)(k e:TypeId)(T:KT k enc ok)(ht:prog.underlying t=some (.map k e))(hz:∀ w,(zeroValue e).run prog w=.ok (.int .i64 0) w)
  (b:Nat) (hm:ac.eval m=.map (some b)) (h:MC enc ok w b D c) (n : α) (hn:ok n) (hx:ac.eval x=enc n)
  (hK:∀ (w':World) (v0:Value) (st:Nat),MC enc ok w' b (aY D n) c->hY enc w' b st n->(∀ s2,hY enc w b s2 n->hY enc w' b s2 n)->Kt (fun x=>x=b) w w'->wpList prog ops Q rest (ac.put o.dst (.tuple #[v0,goInt st])) w'):wpList prog ops Q (o :: rest) ac w:=by
 refine wpList_plain hg fun K' hK'=>?_
 obtain⟨w',v0,st,hrun,r1,r2,r3,r4⟩:=h.entry T ht hz n hn;unfold Oper.wp;simp[execOp,hop,hm,hx,hrun,Result.andThen];exact hK' _ _ (hK w' v0 st r1 r2 r3 r4)
theorem xM(hg:o.guard=none)(m s x:Operand)(t:TypeId)(hop:o.op=Op.entryStore t m s x)(k:TypeId)(T:KT k enc ok)(b st:Nat)(hm:ac.eval m=.map (some b))(hs:ac.eval s=goInt st)(h:MC enc ok w b D c)(n : α)(hn:ok n)(E:hY enc w b st n)(val:Nat)(c' : α->Nat)(hc:c' n=val)(hc2:∀ x,x≠n->c' x=c x)(hv:ac.eval x=dG val)
  (hK:∀ w',MC enc ok w' b D c'->n∈D->Kt (fun x=>x=b) w w'->wpList prog ops Q rest (ac.put o.dst undef) w'):wpList prog ops Q (o :: rest) ac w:=by
 refine wpList_plain hg fun K' hK'=>?_
 obtain⟨w',hrun,r1,r2,r3⟩:=h.put T E hn t val c' hc hc2;unfold Oper.wp;simp[execOp,hop,hm,hs,hv,hrun,Result.andThen];exact hK' _ _ (hK w' r1 r2 r3)
end
end Go.Proofs.YtkfmheelhinjdaaGreatDoor
