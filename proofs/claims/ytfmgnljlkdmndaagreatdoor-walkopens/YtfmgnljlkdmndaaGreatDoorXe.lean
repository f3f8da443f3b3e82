import Derived.Test.YtfmgnljlkdmndaaGreatDoorXd
import Derived.Deep.DeepCutAuto
set_option maxRecDepth 1000000
set_option maxHeartbeats 0
namespace Go.Proofs.YtfmgnljlkdmndaaGreatDoor
namespace W
open Tryz RowKit
set_option linter.unusedVariables false
theorem FQ(f:Nat->Bool):∀ (M j:Nat),j<M->f j=true->0<aI f M
 | 0,j,h,_=>by omega
 | M+1,j,h,hf=>by
  by_cases e:j=M;·rw[e] at hf;rw[mA f M hf];omega
  ·have:=FQ f M j (by omega) hf
   cases h2:f M with
   | true=>rw[mA f M h2];omega
   | false=>rw[lL f M h2];exact this
theorem JP{w:Wd}{b c n:Nat}{ws:List Nat}(h:SetAt w b c n ws):aY ws=0↔∀ j,j<n->aE ws j=false:=by
 have e:aY ws=aI (aE ws) (64*ws.length):=uE ws h.gk ws.length;rw[e];have hl:=h.len;constructor
 ·intro h0 j a
  cases hb:aE ws j with
  | false=>rfl
  | true=>have:=FQ (aE ws) (64*ws.length) j (by omega) hb;omega
 ·intro h0;exact zi1 _ _ fun j _=>by
   by_cases a:j<n;·exact h0 j a
   ·exact h.gc j (by omega)
def cT(W:Wd)(sc:Nat):List Nat:=match W.heap[sc]? with
 | some (.cells cs _ _)=>cs.toList.map fun v=>(intOf v).toNat
 | _=>[]
theorem iV{W:Wd}{b c n:Nat}{ws:List Nat}(h:SetAt W b c n ws):cT W c=ws:=by
 unfold cT;rw[h.hc];simp[bT,intOf];conv=>rhs;rw[<-List.map_id ws]
 rfl
theorem wF{w f:Wd}{b c n:Nat}{ws:List Nat}{i:Nat}(h:SetAt w b c n ws)(d:SetAt f b c n (cH n ws (i:Int) false))(hi:i<n)(hb:aE ws i=true):aY (cH n ws (i:Int) false)+1=aY ws:=by
 have a:aD n (i:Int)=true:=by unfold aD;exact af (by omega)
 have hs:cS n ws (i:Int)=true:=by unfold cS;rw[a,aa,bf,hb]
 have e:cH n ws (i:Int) false=kJ ws i:=by unfold cH gG;rw[hs,ac (by decide),ae a,aa]
 rw[e] at d ⊢;have hl:=h.len;exact zi2 ws i h.gk d.gk (by omega) hb
def pgL(I:Img)(S:Pg->Bool):List Nat:=(List.range I.np).filter fun i=>S (I.pg i)
theorem pgL_nodup(I:Img)(S:Pg->Bool):(pgL I S).Nodup:=List.nodup_range.filter _
theorem pgL_mem{I:Img}{S:Pg->Bool}{i:Nat} : i∈pgL I S↔i<I.np/\S (I.pg i)=true:=by simp[pgL]
def ok8(I:Img)(j:Nat):Bool:=prgL (decP I) 0 (fun i=>M.word I.mem (4096*i)) (fun i=>M.word I.mem (4096*i+8)) ((pgL I fun p=>isF p (j:Int)).length+1) (pgL I fun p=>isF p (j:Int)) (I.hd.getD j 0) 0
section
variable {α : Type} [DecidableEq α] {dec : α->Option Nat} {nil : α} {ez bk:Nat->α}
theorem FP{l:List Nat}{b : α} : prgL dec nil ez bk (l.length+1) l nil b=l.isEmpty:=by rw[prgL,ae rfl]
theorem sV{l:List Nat}{p b : α}(hp:p≠nil)(h:∀ i,dec p=some i->i ∉ l\/bk i≠b):prgL dec nil ez bk (l.length+1) l p b=false:=by
 rw[prgL,ac hp]
 cases hd:dec p with
 | none=>rfl
 | some i=>
  show(decide (i∈l) && _)=false
  rcases h i hd with a|a
  ·rw[ah a];rfl
  ·rw[ah a];simp
theorem FN{l:List Nat}{p b : α}{i:Nat}(hp:p≠nil)(hd:dec p=some i)(hi:i∈l)(hb:bk i=b):prgL dec nil ez bk (l.length+1) l p b=prgL dec nil ez bk ((l.erase i).length+1) (l.erase i) (ez i) p:=by
 rw[prgL,ac hp,hd];show(decide (i∈l) && (decide (bk i=b) && _))=_
 rw[af hi,af hb,dp hi];have:l.length-1+1=l.length:=by have:=List.length_pos_of_mem hi;omega
 rw[this];rfl
end
structure L8(w W:Wd)(cb sb sc n a:Nat)(ws:List Nat)(l:List Nat):Prop where
 bx:W.heap[cb]?=some (.cells #[.int .i64 a] 3 (0,0))
 st:SetAt W sb sc n ws
 ge:w.heap.size<=sc
 ne:cb≠sc
 k:Kt nO w W
 nd:l.Nodup
 mem:∀ i,i<n->aE ws i=decide (i∈l)
 lt:∀ i,i∈l->i<n
theorem L8.dk{w W W':Wd}{c d sc n a:Nat}{ws l:List Nat}(h:L8 w W c d sc n a ws l)(b:Kt nO W W'):L8 w W' c d sc n a ws l:=
 ⟨(b.block _ (lH h.bx) (fun x=>x)).trans h.bx,h.st.kept b (fun x=>x) (fun x=>x),h.ge,h.ne,nT h.k b,h.nd,h.mem,h.lt⟩
theorem L8.met{w W W':Wd}{f d sc n a i:Nat}{ws l:List Nat}(h:L8 w W f d sc n a ws l)(g:Kt (fun x=>x=sc) W W')(hi:i∈l)(hs:SetAt W' d sc n (cH n ws (i:Int) false)):L8 w W' f d sc n a (cH n ws (i:Int) false) (l.erase i):=by
 refine⟨(g.block _ (lH h.bx) h.ne).trans h.bx,hs,h.ge,h.ne,h.k.trans g (fun _ _ x=>x) (fun x hx e=>by have:=h.ge;omega),h.nd.erase i,fun j c=>?_,fun j c=>h.lt j (List.mem_of_mem_erase c)⟩;rw[tL h.st.len i (h.lt i hi) false j];by_cases e:j=i;·rw[ae e,e];exact(ah (fun b=>((h.nd.mem_erase_iff).1 b).1 rfl)).symm
 ·rw[ac e,h.mem j c,decide_eq_decide,h.nd.mem_erase_iff];exact⟨fun b=>⟨e,b⟩,fun b=>b.2⟩
def oB(l:List Nat)(x:Option Nat):Bool:=match x with|some i=>decide (i∈l)|none=>false
theorem L8.ins{w W:Wd}{b c sc n a:Nat}{ws l:List Nat}(h:L8 w W b c sc n a ws l)(x:Option Nat)(hx:∀ i,x=some i->i<n):cS n ws (gY x)=oB l x:=by
 cases x with
 | none=>simp[gY,cS,aD,oB]
 | some i=>
  have:=hx i rfl;show cS n ws (i:Int)=decide (i∈l)
  unfold cS aD;rw[af (by omega),aa,bf,h.mem i this]
theorem L8.empty{w W:Wd}{b d sc n a:Nat}{ws l:List Nat}(h:L8 w W b d sc n a ws l):l.isEmpty=decide (aY ws=0):=by
 rw[Bool.eq_iff_iff,List.isEmpty_iff,ci,JP h.st];constructor;·intro e j c;rw[h.mem j c,e];rfl
 ·intro hz
  cases l with
  | nil=>rfl
  | cons x t=>
   exfalso
   have hx:=h.lt x aw;have:=hz x hx;rw[h.mem x hx,af aw] at this
   cases this
theorem decP_lt{I:Img}{k r p i:Nat}(hS:Sn9 I k r)(h:decP I p=some i):i<I.np/\p=I.bS+4096*i/\p≠0:=by
 unfold decP at h;split at h
 ·rename_i hc;injection h with h
  have:=hS.nm;have hb:=hS.b0;omega
 ·cases h
theorem word_lt{w:Wd}{I:Img}{V:ImV}(h:ImD w I V)(q:Nat)(hq:q+8<=I.nm):M.word I.mem q<18446744073709551616:=by obtain⟨⟨d,c,b⟩,-⟩:=h.sl;have a:=h.mem;rw[b] at a;obtain⟨e,o,-,-,hc⟩:=a.at q (by omega);exact M.wordTo_lt (fun i=>I.mem (q+i)) 8 fun i hi=>(hc (q+i) (by omega)).1
theorem TH(b a:Nat)(p:Pg)(w:Wd)(h:w.heap[b]?=some (.cells #[.int .i64 a] 3 (0,0))):Calls prog 194 #[gV p,.pointer (some ⟨b,0,none⟩)] w fun e f=>e=.returned (.bool (isF p (a:Int)))/\Kt nO w f:=by
 have c0:w.cell? ⟨b,0,none⟩=some (.int .i64 a):=by simp[World.cell?,h]
 have i:=aA (fun W=>qR p (a:Int) W);have m:=aA h;have c1:(w.alloc (aV p)).cell? ⟨b,0,none⟩=some (.int .i64 a):=(show Kt nO w (w.alloc (aV p))from(Kt.refl _ _).alloc _).cell (fun x=>x) c0;have j:=aA (nH w (aV p));have d:=aA (show Kt nO w (w.alloc (aV p))from(Kt.refl _ _).alloc _);generalize isF p (a:Int)=k at *;clear h;go_enter func194,ntmps194;go_wp2_with fail;refine(i.o _).mono ?_;rintro e l ⟨rfl,c⟩;have g:=aA (nT d.o c);clear c c0 c1;go_wp2_with fail;go_ret;exact⟨rfl,g.o⟩
theorem zia(a:Array Vl)(w:Wd):Sem.run prog (callFunc 195 a) w=.ok (.enter 195 a) w:=by simp[callFunc,go_sem,func195];rfl
theorem zjB{Q:Exit->Act->Wd->Prop}{o:Oper}{a:Act}{w:Wd}{x y z:Operand}{d:Array TypeId}{b sc n:Nat}{ws:List Nat}{i p:Int}(c:o.op=.call { callee:=.value (.func 195),args:=#[x,y,z],argTypes:=d })(hx:a.eval x=.pointer (some ⟨b,0,none⟩)) (hy:a.eval y=.int .i64 i) (hz:a.eval z=.int .i64 p) (hs:SetAt w b sc n ws) (hb:cS n ws i=false) (h:∀ a',a'.defers=a.defers->Q (.panic [{ v:=.iface 189 (.int .i64 p),recovered:=false }]) a' w):gR prog Q o a w:=by
 refine KC zia c ?_;have e:(#[x,y,z] : Array Operand).map a.eval=#[.pointer (some ⟨b,0,none⟩),.int .i64 i,.int .i64 p]:=by simp[hx,hy,hz]
 rw[e];refine(vS b sc n ws i p w hs hb).mono ?_;rintro e f ⟨rfl,rfl⟩;exact⟨_,rfl,h⟩
theorem zdo(b:Nat)(I:Img)(V:ImV)(k r:Nat)(hS:Sn9 I k r)(w:Wd)(hI:ImAt w b I V):Calls prog 144 #[.pointer (some ⟨b,0,none⟩)] w fun e w'=>e=bG (fst1 (k+1) (ok8 I))/\Kt nO w w':=by
 obtain⟨-,-,-,⟨ha,hc,hh⟩,-,-,-,-,-⟩:=hI.d.sl;obtain⟨c0,c1,c2,c3,c4,c5,c6,c7,c8⟩:=hI.cells;rw[hh] at c7;have Z:=hI.d.jr;rw[hh] at Z;obtain⟨bl,o,rfl,c9,Q⟩:=Z.at 0 (by rw[hS.hl];omega);obtain⟨EE,a3⟩:=xe (bG (fst1 (k+1) (ok8 I)));rw[<-a3];have HE:=aA a3;have HI:=aA hI;have HS:=aA hS;rw[hS.hl] at c7 Q;have d6:=aA Q;have e5:=hS.k8;have d5:=hS.gj;have e1:∀ (fn:Fn) (first cap:Array Vl) (w:Wd),(Instr.makeFunc fn first cap).run prog w=.ok (.func fn first cap) w:=fun _ _ _ _=>rfl
 obtain⟨K,hK⟩:=xe (k+1);rw[<-hK] at c7;have Y:=aA hK;have e2:K<=9:=by omega
 clear a3 hI hS hh Z Q hK c9;go_enter func144,ntmps144;go_wp2_with fail;go_loopw [11] (fun i W=>∃ a:Nat,a<=K/\i=.int .i64 a/\Hd (Kt nO w W/\∀ x,x<a->ok8 I x=true)) (fun i _=>K-(intOf i).toNat)
 case atStart=>exact⟨0,az _,rfl,aA ⟨Kt.refl _ _,fun x hx=>by omega⟩⟩
 case round=>
  clear c0 c1 c2 c3 c4 c5 c6 c7 c8;obtain⟨a,e3,rfl,hR⟩:=hrel;by_cases b3:a<K
  ·have d7:(a:Int)<K:=(by omega);obtain⟨c,a9⟩:=d6.o a (by rw[<-Y.o];exact b3);have d0:=hR.o.1.cell (fun x=>x) a9;obtain⟨p,hp⟩:=xe (I.hd.getD a 0);rw[<-hp] at d0 c;have FB:=aA (show ok8 I a=false->cE (a:Int)=EE from fun h=>by rw[HE.o,fY (by rw[<-Y.o];exact b3) hR.o.2 h];rfl);have GA:=aA (show ok8 I a=true->∀ x,x<a+1->ok8 I x=true from fun h x hx=>by
    by_cases e:x=a;·rw[e];exact h
    ·exact hR.o.2 x (by omega))
   have P:=aA (show prgL (decP I) 0 (fun i=>M.word I.mem (4096*i)) (fun i=>M.word I.mem (4096*i+8)) ((pgL I fun p=>isF p (a:Int)).length+1) (pgL I fun p=>isF p (a:Int)) p 0=ok8 I a by rw[hp];rfl);generalize ok8 I a=z at *;have B1:=aA (show(wr.alloc (.cells #[.int .i64 a] 3 (0,0))).heap[wr.heap.size]?=some (.cells #[.int .i64 a] 3 (0,0))from nH _ _);have K1:=aA (show Kt nO w (wr.alloc (.cells #[.int .i64 a] 3 (0,0)))from hR.o.1.alloc _);have SZ:=aA (show wr.heap.size<(wr.alloc (.cells #[.int .i64 a] 3 (0,0))).heap.size by simp);clear hp a9;go_wp2_with fail;generalize wr.alloc (.cells #[.int .i64 a] 3 (0,0))=W1 at *;generalize wr.heap.size=u at *;refine(VL b u I V (fun p=>isF p (a:Int)) W1 (HI.o.dk K1.o) d5 (fun i W hi hk=>TH u a (I.pg i) W ((hk.block _ (lH B1.o) (fun x=>x)).trans B1.o))).mono ?_;rintro e w2 ⟨G,sc,ws,rfl,a8,a5,C,b2,R⟩;have f:=aA (show L8 w w2 u G sc I.np a ws (pgL I fun p=>isF p (a:Int))from⟨(R.block _ (lH B1.o) (fun x=>x)).trans B1.o,a8,an K1.o.size C,by have:=SZ.o;omega,nT K1.o R,pgL_nodup _ _,fun i hi=>by rw[b2 i hi,Bool.eq_iff_iff,ci,pgL_mem];exact⟨fun h=>⟨hi,h⟩,fun h=>h.2⟩,fun i hi=>(pgL_mem.1 hi).1⟩)
   clear a8 a5 C b2 R d0 B1 K1 SZ;go_wp2_with fail;go_loopw [3,5] (fun pv bv W=>∃ p q:Nat,pv=.int .u64 p/\bv=.int .u64 q/\p<18446744073709551616/\q<18446744073709551616/\Hd (∃ ws l,L8 w W u G sc I.np a ws l/\prgL (decP I) 0 (fun i=>M.word I.mem (4096*i)) (fun i=>M.word I.mem (4096*i+8)) (l.length+1) l p q=z)) (fun _ _ W=>aY (cT W sc))
   case atStart=>exact⟨p,0,rfl,rfl,c,by decide,aA ⟨_,_,f.o,P.o⟩⟩
   case round=>
    clear f P c;obtain⟨p,q,rfl,rfl,c,d9,hL⟩:=hrel;obtain⟨ws,l,hl,b4⟩:=hL.o;have f:=aA hl;have P:=aA b4;clear hL hl b4;by_cases t:p=0
    ·have b1:((p:Int) != 0)=false:=(by rw[t];rfl);have U:=aA (show z=decide (aY ws=0)by rw[<-P.o,t,FP,f.o.empty]);obtain⟨cw,a7⟩:=xe (aY ws);have X:=aA (fun (x:KW wr)=>uC G sc I.np ws x.v (f.o.dk x.k).st);rw[<-a7] at X U;have c0:∀ x:KW wr,x.v.cell? ⟨u,0,none⟩=some (.int .i64 a):=fun x=>by simp[World.cell?,(f.o.dk x.k).bx]
     clear t a7;by_cases g:cw=0
     case neg=>
      have A:=aA (FB.o (by rw[U.o,ah g]));have f4:((cw:Int) == 0)=false:=(by rw[ag];omega);clear g;go_wp2_with fail;refine gO (by kernel_rfl) (by kernel_rfl) (by exact db _ _) ?_;dsimp only[List.dropLast,List.getLast];repeat (go_big_quiet_step (first|(go_at_call 190;exact Calls.ek ((X.o _).mono fun _ _ ⟨s,n⟩=>⟨s,n▸Kt.refl _ _⟩))))
      refine wpQuiet_nil ?_;refine⟨rfl,?_⟩;rintro _ ⟨x,rfl⟩;exact gN (p:=(a:Int)) rfl rfl rfl fun _ hd=>⟨hd,A.o,nT f.o.k x.k⟩
     have A:=aA (GA.o (by rw[U.o,af g]));have f4:((cw:Int) == 0)=true:=(by rw[cu];omega);have a0:=aA (fun W=>dC (a:Int) W);clear g;go_wp2_with fail;refine cR (by kernel_rfl) (by kernel_rfl) ?_;repeat (go_big_quiet_step (first|(go_at_call 190;exact Calls.ek ((X.o _).mono fun _ _ ⟨s,n⟩=>⟨s,n▸Kt.refl _ _⟩))|(go_at_call 185;exact Calls.ek ((a0.o _).mono fun _ _ ⟨s,n⟩=>⟨s,n▸Kt.refl _ _⟩))))
     refine wpQuiet_nil ?_;intro x;have R3:=aA (show Kt nO w x.v/\_ from⟨nT f.o.k x.k,A.o⟩);clear c0;go_wp2_with fail;go_round
     case rel=>exact⟨a+1,by omega,by go_num,R3⟩
     case measure=>simp[intOf];omega
    ·have b1:((p:Int) != 0)=true:=(by rw[cx];omega);have IM:=aA (HI.o.dk f.o.k);have a1:=aA (fun (x:KW wr)=>zhO b I V p c x.v (IM.o.dk x.k) HS.o.be);have a2:=aA (f.o.ins (decP I p) (fun i h=>(decP_lt HS.o h).1));obtain⟨di,y⟩:=xe (gY (decP I p));rw[<-y] at a1 a2;have d3:=aA y;have c0:∀ x:KW wr,x.v.cell? ⟨u,0,none⟩=some (.int .i64 a):=fun x=>by simp[World.cell?,(f.o.dk x.k).bx]
     clear y
     cases hin:cS I.np ws di with
     | false=>
      have A:=aA (FB.o (by
       rw[<-P.o];refine sV t fun i hi=>.inl fun hm=>?_
       have:=a2.o;rw[hi,hin] at this;exact absurd hm (of_decide_eq_false this.symm)))
      have N:=aA hin;clear hin t;go_wp2_with fail;refine gO (by kernel_rfl) (by kernel_rfl) (by exact db _ _) ?_;dsimp only[List.dropLast,List.getLast];repeat (go_big_quiet_step (first|(go_at_call 196;exact Calls.ek ((a1.o _).mono fun _ _ ⟨s,n⟩=>⟨s,n▸Kt.refl _ _⟩))))
      refine wpQuiet_nil ?_;refine⟨rfl,?_⟩;rintro _ ⟨x,rfl⟩;exact zjB (p:=(a:Int)) rfl rfl rfl rfl (f.o.dk x.k).st N.o fun _ hd=>⟨hd,A.o,nT f.o.k x.k⟩
     | true=>
      have d4:∃ i,decP I p=some i/\i∈l:=by
       have:=a2.o;rw[hin] at this
       cases hd:decP I p with
       | none=>rw[hd] at this;cases this
       | some i=>rw[hd] at this;exact⟨i,rfl,bw this.symm⟩
      obtain⟨i,hi,b5⟩:=d4;obtain⟨D,b6,-⟩:=decP_lt HS.o hi;have y:di=(i:Int):=(by rw[d3.o,hi];rfl);subst y;have N:=aA hin;have T:=aA b5;have HD:=aA (show decP I p=some i/\p≠0 from⟨hi,t⟩);have S:=aA b6;have L:=aA D;clear hin b5 hi b6 D t;go_wp2_with fail;have B:=aA (show Calls prog 196 #[.pointer (some ⟨b,0,none⟩),.int .u64 p] wr.drew fun e w'=>e=.returned (.int .i64 i)/\w'=wr.drew from(a1.o ⟨wr.drew,(kz wr).drew⟩));have b0:=aA (wW G sc I.np ws (i:Int) (a:Int) wr.drew (f.o.dk (kz wr).drew).st N.o);have y0:wr.drew.cell? ⟨u,0,none⟩=some (.int .i64 a):=c0 ⟨wr.drew,(kz wr).drew⟩;clear c0;go_cut [26] (fun v W=>Hd (SetAt W G sc I.np (cH I.np ws (i:Int) false)/\Kt (fun x=>x=sc) wr.drew W/\W.heap.size=wr.drew.heap.size))
      case first=>
       go_region_held3 (fun w'=>w'.cell? ⟨u,0,none⟩=some (.int .i64 a)) (first|with_reducible exact y0|with_reducible exact y1) (first|(go_at_call 196;with_reducible refine B.o.mono ?_;rintro e w1 ⟨rfl,rfl⟩)|(go_at_call 195;with_reducible refine b0.o.mono ?_;rintro e w1 ⟨rfl,s,n,h3⟩;have M1:=aA (show SetAt w1 G sc I.np (cH I.np ws (i:Int) false)/\Kt (fun x=>x=sc) wr.drew w1/\w1.heap.size=wr.drew.heap.size from⟨s,n,h3⟩);have y1:w1.cell? ⟨u,0,none⟩=some (.int .i64 a):=n.cell f.o.ne y0;clear s n h3)|fail)
       all_goals (go_wp2_with fail;go_meet;exact M1)
      case rest=>
      rename_i wc _;have MC:=aA hcut.o;clear hcut;have F:=aA (show L8 w wc u G sc I.np a (cH I.np ws (i:Int) false) (l.erase i)from(f.o.dk (kz wr).drew).met MC.o.2.1 T.o MC.o.1);have d2:=aA (show aY (cT wc sc)<aY (cT wr sc)by
       rw[iV F.o.st,iV f.o.st];have hb:aE ws i=true:=(by rw[f.o.mem i L.o];exact af T.o);have:=wF f.o.st F.o.st L.o hb;omega)
      have J:=aA (HI.o.dk F.o.k);have a6 : 4096*i+8+8<=I.nm:=(by have:=HS.o.nm;have:=L.o;omega);have a4:=aA (fun (x:KW wc)=>wY b I V (4096*i+8) x.v (J.o.dk x.k) a6 HS.o.be);have b7:=aA (fun (W:Wd) (hW:Kt nO wc W)=>wY b I V (4096*i) W (J.o.dk hW) (by omega) HS.o.be);have e4:p<9223372036854775808:=(by have:=S.o;have:=HS.o.be;omega);have e8:((I.bS+(4096*i+8):Nat):Int)=(p:Int)+8:=(by have:=S.o;omega);have e0:((I.bS+4096*i:Nat):Int)=(p:Int):=(by have:=S.o;omega);rw[e8] at a4;rw[e0] at b7;have d1:=aA (show M.word I.mem (4096*i+8)=q->prgL (decP I) 0 (fun i=>M.word I.mem (4096*i)) (fun i=>M.word I.mem (4096*i+8)) ((l.erase i).length+1) (l.erase i) (M.word I.mem (4096*i)) p=z from fun h=>by rw[<-P.o];exact(FN (ez:=fun i=>M.word I.mem (4096*i)) (bk:=fun i=>M.word I.mem (4096*i+8)) HD.o.2 HD.o.1 T.o h).symm)
      have b9:=aA (show ¬M.word I.mem (4096*i+8)=q->cE (a:Int)=EE from fun h=>FB.o (by
       rw[<-P.o];refine sV HD.o.2 fun j hj=>.inr ?_
       rw[HD.o.1] at hj;injection hj with hj
       rw[<-hj];exact h))
      have d8:=aA (word_lt J.o.d (4096*i) (by omega));generalize M.word I.mem (4096*i+8)=wb at *;generalize M.word I.mem (4096*i)=wn at *;have c0:∀ x:KW wc,x.v.cell? ⟨u,0,none⟩=some (.int .i64 a):=fun x=>by simp[World.cell?,(F.o.dk x.k).bx]
      clear e8 e0 y0 B b0 a6;by_cases g:wb=q
      case neg=>
       have A:=aA (b9.o g);have f4:((wb:Int) == (q:Int))=false:=(by rw[ag];omega);clear g;go_wp2_with fail;refine gO (by kernel_rfl) (by kernel_rfl) (by exact db _ _) ?_;dsimp only[List.dropLast,List.getLast];repeat (go_big_quiet_step (first|(go_at_call 197;exact Calls.ek ((a4.o _).mono fun _ _ ⟨s,m,n⟩=>⟨s,n▸(Kt.refl _ _).drewN m⟩))))
       refine wpQuiet_nil ?_;refine⟨rfl,?_⟩;rintro _ ⟨x,rfl⟩;exact gN (p:=(a:Int)) rfl rfl rfl fun _ hd=>⟨hd,A.o,nT F.o.k x.k⟩
      have A:=aA (d1.o g);have f4:((wb:Int) == (q:Int))=true:=(by rw[cu];omega);have a0:=aA (fun W=>dC (a:Int) W);clear g;go_wp2_with fail;refine cR (by kernel_rfl) (by kernel_rfl) ?_;repeat (go_big_quiet_step (first|(go_at_call 197;exact Calls.ek ((a4.o _).mono fun _ _ ⟨s,m,n⟩=>⟨s,n▸(Kt.refl _ _).drewN m⟩))|(go_at_call 185;exact Calls.ek ((a0.o _).mono fun _ _ ⟨s,n⟩=>⟨s,n▸Kt.refl _ _⟩))))
      refine wpQuiet_nil ?_;intro x;clear c0;go_wp2_with fail;refine(b7.o x.v x.k).mono ?_;rintro e w5 ⟨rfl,m5,rfl⟩;have KF:=aA (nT x.k ((kz x.v).drewN m5));have R3:=aA (show ∃ ws l,L8 w (x.v.drewN m5) u G sc I.np a ws l/\prgL (decP I) 0 (fun i=>M.word I.mem (4096*i)) (fun i=>M.word I.mem (4096*i+8)) (l.length+1) l wn p=z from⟨_,_,F.o.dk KF.o,A.o⟩);have b8:=aA (show aY (cT (x.v.drewN m5) sc)<aY (cT wr sc)by
       rw[iV (F.o.dk KF.o).st,<-iV F.o.st];exact d2.o)
      go_wp2_with fail;go_round
      case rel=>exact⟨wn,p,rfl,rfl,d8.o,c,R3⟩
      case measure=>exact b8.o
  ·obtain rfl:a=K:=(by omega);have d7:¬(a:Int)<a:=(by omega);have E:=aA (show Ending.returned (.tuple #[])=EE by rw[HE.o,fst1_ok (fun x hx=>hR.o.2 x (by rw[Y.o];exact hx))];rfl);go_wp2_with fail;first|go_end0|go_ret
   exact⟨E.o,hR.o.1⟩
def prS(c:Int)(p:Pg):Bool:=decide (p.kd=4) && (decide (p.cl=c) && !decide (p.lv=(celN9 p.cl.toNat:Int)))
def dec10(I:Img)(x:Int):Option Nat:=if 0<=x/\x<(I.np:Int) then some x.toNat else none
def ok10(I:Img)(j:Nat):Bool:=prgL (dec10 I) (-1) (fun i=>(I.pg i).nx) (fun i=>(I.pg i).pv) ((pgL I (prS (j:Int))).length+1) (pgL I (prS (j:Int))) (I.pt.getD j 0) (-1)
theorem OU(i a:Nat)(p:Pg)(c:Nat)(hc:p.cl=(c:Int))(q:c<=7)(w:Wd)(h:w.heap[i]?=some (.cells #[.int .i64 a] 3 (0,0))):Calls prog 199 #[gV p,.pointer (some ⟨i,0,none⟩)] w fun e o=>e=.returned (.bool (prS (a:Int) p))/\Kt nO w o:=by
 have c0:w.cell? ⟨i,0,none⟩=some (.int .i64 a):=by simp[World.cell?,h]
 have n:=aA (fun W=>GK p c hc q W);have c1:(w.alloc (aV p)).cell? ⟨i,0,none⟩=some (.int .i64 a):=(show Kt nO w (w.alloc (aV p))from(Kt.refl _ _).alloc _).cell (fun x=>x) c0;have g:=aA (show Kt nO w (w.alloc (aV p))from(Kt.refl _ _).alloc _);have E:=aA (show prS (a:Int) p=(decide (p.kd=4) && (decide (p.cl=(a:Int)) && !decide (p.lv=(celN9 c:Int))))by unfold prS;rw[hc,aa]);generalize decide (p.lv=(celN9 c:Int))=m at *;generalize prS (a:Int) p=k at *;clear h hc;obtain⟨kd,od,cl,lv,nx,pv,fs,b0,b1,b2,b3⟩:=p;dsimp only at E;by_cases j:kd=4
 ·subst j;by_cases b:cl=(a:Int)
  ·subst b;have d:=aA (show(!m)=k by rw[E.o];simp)
   cases m with
   | false=>go_enter func199,ntmps199;go_wp2_with fail;refine(n.o _).mono ?_;rintro e r ⟨rfl,f⟩;have l:=aA (nT g.o f);clear f c0 c1;go_wp2_with fail;go_ret;exact⟨cN d.o,l.o⟩
   | true=>go_enter func199,ntmps199;go_wp2_with fail;refine(n.o _).mono ?_;rintro e r ⟨rfl,f⟩;have l:=aA (nT g.o f);clear f c0 c1;go_wp2_with fail;go_ret;exact⟨cN d.o,l.o⟩
  ·have d:=aA (show false=k by rw[E.o];simp[b]);have s:(cl == (a:Int))=false:=(by rw[ag];exact b);clear b;go_enter func199,ntmps199;go_wp2_with fail;go_ret;exact⟨cN d.o,g.o⟩
 ·have d:=aA (show false=k by rw[E.o];simp[j]);have s:(kd == 4)=false:=by rw[ag];exact j
  clear j;go_enter func199,ntmps199;go_wp2_with fail;go_ret;exact⟨cN d.o,g.o⟩
theorem dec10_i{I:Img}{x:Int}{i:Nat}(h:dec10 I x=some i):i<I.np/\x=(i:Int)/\x ≠ -1:=by
 unfold dec10 at h;split at h
 ·injection h with h
  omega
 ·cases h
theorem zjQ{w W:Wd}{b c sc a:Nat}{I:Img}{ws l:List Nat}(h:L8 w W b c sc I.np a ws l)(x:Int):cS I.np ws x=oB l (dec10 I x):=by
 unfold dec10;by_cases hx : 0<=x/\x<(I.np:Int)
 ·rw[ae hx];obtain⟨i,rfl⟩:=au hx.1;rw[aa];show cS I.np ws (i:Int)=decide (i∈l)
  unfold cS aD;rw[af (by omega),aa,bf,h.mem i (by omega)]
 ·rw[ac hx];show cS I.np ws x=false
  unfold cS aD;rw[ah hx];rfl
theorem zcr(b:Nat)(I:Img)(V:ImV)(k r:Nat)(hS:Sn9 I k r)(w:Wd)(hI:ImAt w b I V):Calls prog 146 #[.pointer (some ⟨b,0,none⟩)] w fun e w'=>e=bG (fst1 8 (ok10 I))/\Kt nO w w':=by
 obtain⟨-,⟨pa,pc,hp⟩,-,-,⟨ta,tc,ht⟩,-,-,-,-⟩:=hI.d.sl;obtain⟨c0,c1,c2,c3,c4,c5,c6,c7,U⟩:=hI.cells;rw[ht] at U;have L:=hI.d.kh;rw[ht] at L;obtain⟨bl,o,rfl,b8,Z⟩:=L.at 0 (by rw[hS.tl];omega);obtain⟨EE,a0⟩:=xe (bG (fst1 8 (ok10 I)));rw[<-a0];have HE:=aA a0;have HI:=aA hI;have HS:=aA hS;have SP:=aA hp;rw[hS.tl] at U Z;have e5:=aA Z;have e4:=hS.gj;have e9:∀ (fn:Fn) (first cap:Array Vl) (w:Wd),(Instr.makeFunc fn first cap).run prog w=.ok (.func fn first cap) w:=fun _ _ _ _=>rfl
 obtain⟨n,hn⟩:=xe (I.np);have HN:=aA hn;clear a0 hI hS ht L Z b8 hp hn;go_enter func146,ntmps146;go_wp2_with fail;go_loopw [11] (fun i W=>∃ a:Nat,a<=8/\i=.int .i64 a/\Hd (Kt nO w W/\∀ x,x<a->ok10 I x=true)) (fun i _=>8-(intOf i).toNat)
 case atStart=>exact⟨0,az _,rfl,aA ⟨Kt.refl _ _,fun x hx=>by omega⟩⟩
 case round=>
  clear c0 c1 c2 c3 c4 c5 c6 c7 U;obtain⟨a,f2,rfl,hR⟩:=hrel;by_cases b2:a<8
  ·have e7:(a:Int)<8:=(by omega);obtain⟨J,a7⟩:=e5.o a b2;have d0:=hR.o.1.cell (fun x=>x) a7;obtain⟨p,hp⟩:=xe (I.pt.getD a 0);rw[<-hp] at d0 J;have FB:=aA (show ok10 I a=false->cE (a:Int)=EE from fun h=>by rw[HE.o,fY b2 hR.o.2 h];rfl);have GA:=aA (show ok10 I a=true->∀ x,x<a+1->ok10 I x=true from fun h x hx=>by
    by_cases e:x=a;·rw[e];exact h
    ·exact hR.o.2 x (by omega))
   have P:=aA (show prgL (dec10 I) (-1) (fun i=>(I.pg i).nx) (fun i=>(I.pg i).pv) ((pgL I (prS (a:Int))).length+1) (pgL I (prS (a:Int))) p (-1)=ok10 I a by rw[hp];rfl);generalize ok10 I a=z at *;have B1:=aA (show(wr.alloc (.cells #[.int .i64 a] 3 (0,0))).heap[wr.heap.size]?=some (.cells #[.int .i64 a] 3 (0,0))from nH _ _);have K1:=aA (show Kt nO w (wr.alloc (.cells #[.int .i64 a] 3 (0,0)))from hR.o.1.alloc _);have SZ:=aA (show wr.heap.size<(wr.alloc (.cells #[.int .i64 a] 3 (0,0))).heap.size by simp);clear hp a7;go_wp2_with fail;generalize wr.alloc (.cells #[.int .i64 a] 3 (0,0))=W1 at *;generalize wr.heap.size=A at *;refine(VK b A I V (prS (a:Int)) W1 (HI.o.dk K1.o) e4 (fun i W hi hk=>by obtain⟨_,_,c,_,-,-,-,-,y5,y6,-⟩:=HS.o.pg i hi;exact OU A a (I.pg i) c y5 y6 W ((hk.block _ (lH B1.o) (fun x=>x)).trans B1.o))).mono ?_
   rintro e w2 ⟨X,sc,ws,rfl,a6,a3,D,a9,Q⟩;have f:=aA (show L8 w w2 A X sc I.np a ws (pgL I (prS (a:Int)))from⟨(Q.block _ (lH B1.o) (fun x=>x)).trans B1.o,a6,an K1.o.size D,by have:=SZ.o;omega,nT K1.o Q,pgL_nodup _ _,fun i hi=>by rw[a9 i hi,Bool.eq_iff_iff,ci,pgL_mem];exact⟨fun h=>⟨hi,h⟩,fun h=>h.2⟩,fun i hi=>(pgL_mem.1 hi).1⟩)
   clear a6 a3 D a9 Q d0 B1 K1 SZ;go_wp2_with fail;go_loopw [3,5] (fun pv bv W=>∃ p q:Int,pv=.int .i64 p/\bv=.int .i64 q/\Hd (∃ ws l,L8 w W A X sc I.np a ws l/\prgL (dec10 I) (-1) (fun i=>(I.pg i).nx) (fun i=>(I.pg i).pv) (l.length+1) l p q=z)) (fun _ _ W=>aY (cT W sc))
   case atStart=>exact⟨p,-1,rfl,rfl,aA ⟨_,_,f.o,P.o⟩⟩
   case round=>
    clear f P J;obtain⟨p,q,rfl,rfl,hL⟩:=hrel;obtain⟨ws,l,hl,b3⟩:=hL.o;have f:=aA hl;have P:=aA b3;clear hL hl b3;by_cases m:p = -1
    ·have a8:(p != -1)=false:=(by rw[m];rfl);have S:=aA (show z=decide (aY ws=0)by rw[<-P.o,m,FP,f.o.empty]);obtain⟨cw,a5⟩:=xe (aY ws);have T:=aA (fun (x:KW wr)=>uC X sc I.np ws x.v (f.o.dk x.k).st);rw[<-a5] at T S;have c0:∀ x:KW wr,x.v.cell? ⟨A,0,none⟩=some (.int .i64 a):=fun x=>by simp[World.cell?,(f.o.dk x.k).bx]
     clear m a5;by_cases g:cw=0
     case neg=>
      have C:=aA (FB.o (by rw[S.o,ah g]));have f4:((cw:Int) == 0)=false:=(by rw[ag];omega);clear g;go_wp2_with fail;refine gO (by kernel_rfl) (by kernel_rfl) (by exact db _ _) ?_;dsimp only[List.dropLast,List.getLast];repeat (go_big_quiet_step (first|(go_at_call 190;exact Calls.ek ((T.o _).mono fun _ _ ⟨u,t⟩=>⟨u,t▸Kt.refl _ _⟩))))
      refine wpQuiet_nil ?_;refine⟨rfl,?_⟩;rintro _ ⟨x,rfl⟩;exact gN (p:=(a:Int)) rfl rfl rfl fun _ hd=>⟨hd,C.o,nT f.o.k x.k⟩
     have C:=aA (GA.o (by rw[S.o,af g]));have f4:((cw:Int) == 0)=true:=(by rw[cu];omega);have Y:=aA (fun W=>dC (a:Int) W);clear g;go_wp2_with fail;refine cR (by kernel_rfl) (by kernel_rfl) ?_;repeat (go_big_quiet_step (first|(go_at_call 190;exact Calls.ek ((T.o _).mono fun _ _ ⟨u,t⟩=>⟨u,t▸Kt.refl _ _⟩))|(go_at_call 185;exact Calls.ek ((Y.o _).mono fun _ _ ⟨u,t⟩=>⟨u,t▸Kt.refl _ _⟩))))
     refine wpQuiet_nil ?_;intro x;have R3:=aA (show Kt nO w x.v/\_ from⟨nT f.o.k x.k,C.o⟩);clear c0;go_wp2_with fail;go_round
     case rel=>exact⟨a+1,by omega,by go_num,R3⟩
     case measure=>simp[intOf];omega
    ·have a8:(p != -1)=true:=(by rw[cx];exact m);have IM:=aA (HI.o.dk f.o.k);have b4:=aA (zjQ f.o p);have c0:wr.cell? ⟨A,0,none⟩=some (.int .i64 a):=by simp[World.cell?,f.o.bx]
     cases hin:cS I.np ws p with
     | false=>
      have C:=aA (FB.o (by
       rw[<-P.o];refine sV m fun i hi=>.inl fun hm=>?_
       have:=b4.o;rw[hi,hin] at this;exact absurd hm (of_decide_eq_false this.symm)))
      have B:=aA (vS X sc I.np ws p (a:Int) wr f.o.st hin);clear hin m;go_wp2_with fail;refine B.o.mono ?_;rintro e w3 ⟨rfl,rfl⟩;exact⟨rfl,C.o,f.o.k⟩
     | true=>
      have e3:∃ i,dec10 I p=some i/\i∈l:=by
       have:=b4.o;rw[hin] at this
       cases hd:dec10 I p with
       | none=>rw[hd] at this;cases this
       | some i=>rw[hd] at this;exact⟨i,rfl,bw this.symm⟩
      obtain⟨i,hi,b5⟩:=e3;obtain⟨F,e6,a2⟩:=dec10_i hi;subst e6;have HD:=aA (show dec10 I (i:Int)=some i/\(i:Int) ≠ -1 from⟨hi,a2⟩);have R:=aA b5;have s:=aA F;have B:=aA (wW X sc I.np ws (i:Int) (a:Int) wr f.o.st hin);clear hin b5 hi F a2 m;go_wp2_with fail;refine B.o.mono ?_;rintro e wc ⟨rfl,u,t,h3⟩;have G:=aA (show L8 w wc A X sc I.np a (cH I.np ws (i:Int) false) (l.erase i)from f.o.met t R.o u);have c9:=aA (show aY (cT wc sc)<aY (cT wr sc)by
       rw[iV G.o.st,iV f.o.st];have hb:aE ws i=true:=(by rw[f.o.mem i s.o];exact af R.o);have:=wF f.o.st G.o.st s.o hb;omega)
      clear u t h3 B c0;have K:=aA (HI.o.dk G.o.k);have b9:=aA (show(I.pg i).pv=q->prgL (dec10 I) (-1) (fun i=>(I.pg i).nx) (fun i=>(I.pg i).pv) ((l.erase i).length+1) (l.erase i) (I.pg i).nx (i:Int)=z from fun h=>by rw[<-P.o];exact(FN (ez:=fun i=>(I.pg i).nx) (bk:=fun i=>(I.pg i).pv) HD.o.2 HD.o.1 R.o h).symm)
      have b7:=aA (show ¬(I.pg i).pv=q->cE (a:Int)=EE from fun h=>FB.o (by
       rw[<-P.o];refine sV HD.o.2 fun j hj=>.inr ?_
       rw[HD.o.1] at hj;injection hj with hj
       rw[<-hj];exact h))
      have e2:∃ N o',pa=some ⟨N,o',none⟩:=by
       obtain⟨N,o',f1,b1,_⟩:=K.o.ew i s.o;rw[SP.o] at b1;injection b1 with e1
       exact⟨N,o',e1⟩
      obtain⟨pb,po,rfl⟩:=e2;obtain⟨d0,d1,d2,d3,d4,d5,d6,d7,d8,d9,a1⟩:=iN (K.o.go SP.o i s.o);obtain⟨c0,c1,c2,c3,c4,c5,c6,c7,U⟩:=K.o.all;rw[SP.o,<-HN.o] at c5;have b0:∀ x:KW wc,x.v.cell? ⟨A,0,none⟩=some (.int .i64 a):=fun x=>by simp[World.cell?,(G.o.dk x.k).bx]
      have e8:(i:Int)<n:=(by have:=s.o;rw[HN.o];omega);by_cases g:(I.pg i).pv=q
      case neg=>
       have C:=aA (b7.o g);have f4:((I.pg i).pv == q)=false:=(by rw[ag];exact g);clear g;go_wp2_with fail;refine gO (by kernel_rfl) (by kernel_rfl) (by exact db _ _) ?_;dsimp only[List.dropLast,List.getLast];repeat (go_big_quiet_step (fail))
       refine wpQuiet_nil ?_;refine⟨rfl,?_⟩;rintro _ ⟨x,rfl⟩;exact gN (p:=(a:Int)) rfl rfl rfl fun _ hd=>⟨hd,C.o,nT G.o.k x.k⟩
      have C:=aA (b9.o g);have f4:((I.pg i).pv == q)=true:=(by rw[cu];exact g);have Y:=aA (fun W=>dC (a:Int) W);clear g;go_wp2_with fail;refine cR (by kernel_rfl) (by kernel_rfl) ?_;repeat (go_big_quiet_step (first|(go_at_call 185;exact Calls.ek ((Y.o _).mono fun _ _ ⟨u,t⟩=>⟨u,t▸Kt.refl _ _⟩))))
      refine wpQuiet_nil ?_;intro x;have LX:=aA (G.o.dk x.k);clear d0 d1 d2 d3 d4 d5 d6 d7 d8 d9 a1 c0 c1 c2 c3 c4 c5 c6 c7 U b0 f4;go_wp2_with fail;have f0:=aA (show cT x.v sc=cT wc sc by rw[iV LX.o.st,iV G.o.st]);generalize x.v=W3 at *;have a4:=aA (HI.o.dk LX.o.k);obtain⟨d0,d1,d2,d3,d4,d5,d6,d7,d8,d9,a1⟩:=iN (a4.o.go SP.o i s.o);obtain⟨c0,c1,c2,c3,c4,c5,c6,c7,U⟩:=a4.o.all;rw[SP.o,<-HN.o] at c5;refine cR (by kernel_rfl) (by kernel_rfl) ?_;repeat (go_big_quiet_step (fail))
      refine wpQuiet_nil ?_;intro y;have R3:=aA (show ∃ ws l,L8 w y.v A X sc I.np a ws l/\prgL (dec10 I) (-1) (fun i=>(I.pg i).nx) (fun i=>(I.pg i).pv) (l.length+1) l (I.pg i).nx (i:Int)=z from⟨_,_,LX.o.dk y.k,C.o⟩);have b6:=aA (show aY (cT y.v sc)<aY (cT wr sc)by
       rw[iV (LX.o.dk y.k).st,<-iV G.o.st];exact c9.o)
      clear d0 d1 d2 d3 d4 d5 d6 d7 d8 d9 a1 c0 c1 c2 c3 c4 c5 c6 c7 U;go_wp2_with fail;go_round
      case rel=>exact⟨(I.pg i).nx,(i:Int),rfl,rfl,R3⟩
      case measure=>exact b6.o
  ·have e0:a=8:=(by omega);have e7:¬(a:Int)<8:=(by omega);have E:=aA (show Ending.returned (.tuple #[])=EE by rw[HE.o,fst1_ok (fun x hx=>hR.o.2 x (by omega))];rfl);clear e0;go_wp2_with fail;first|go_end0|go_ret
   exact⟨E.o,hR.o.1⟩
theorem MQ(p:Pg)(c:Nat)(hc:p.cl=(c:Int))(F:c<=7)(hp:PgIn p)(w:Wd):Calls prog 91 #[gV p] w (mY w (celN9 c) fun i=>aE (wsP p) i):=by
 have T:=nK c F;have HC:=aA (fun W=>xJ p c hc F W);have t:=aA (show(w.alloc (aV p)).heap[w.heap.size]?=some (aV p)from nH _ _);have X:=aA (show Kt nO w (w.alloc (aV p))from(Kt.refl _ _).alloc _);have N:=aA hp;have f:=aA (fun (W:Wd) (h:W.heap[w.heap.size]?=some (aV p))=>pQ (.slice (some ⟨w.heap.size,7,none⟩) 4 4) (wsP p) ((celN9 c:Nat):Int) (by omega) (by omega) W (wM h hp));have d:dU ((celN9 c:Nat):Int)=celN9 c:=by unfold dU;split <;> (try split) <;> omega
 rw[d] at f;have B:=aA (show ∀ i,i<celN9 c->aE (cZ (wsP p) (celN9 c)) i=aE (wsP p) i from fun i hi=>wR _ _ _ (wM t.o hp).1 hi);have q:=aA (show ∀ W b sc,Kt nO w W->SetAt W b sc (celN9 c) (cZ (wsP p) (celN9 c))->w.heap.size<=b->w.heap.size<=sc->mY w (celN9 c) (fun i=>aE (wsP p) i) (.returned (.pointer (some ⟨b,0,none⟩))) W from fun W b sc u z m S=>⟨b,sc,_,rfl,z,m,S,B.o,u⟩);generalize celN9 c=n at *;clear hc hp d;go_enter func91,ntmps91;go_wp2_with fail;have E:=aA (show w.heap.size<(w.alloc (aV p)).heap.size by simp);generalize w.alloc (aV p)=j at *;have P:=aA (aj w.heap.size);obtain⟨g,hg⟩:=xe (w.heap.size);rw[<-hg] at t f E;have J:=aA hg;simp only[<-hg];clear hg;obtain⟨Y,U,y2,L,y4,R,y6,y7,y8,V,A⟩:=dG (show j.drew.heap[g]?=some (aV p)from t.o);have D:=aA (HC.o j.drew);have G:=aA (show j.drew.heap[g]?=some (aV p)from t.o);have l:=aA (show g<j.drew.heap.size from E.o);go_cut [2] (fun v W=>∃ b sc:Nat,v=.pointer (some ⟨b,0,none⟩)/\Hd (SetAt W b sc n (cZ (wsP p) n)/\g<=b/\g<=sc/\Kt nO j W))
 case first=>
  go_region_held3 (fun a=>a.cell? ⟨g,0,none⟩=some (.int .i64 p.kd)/\a.cell? ⟨g,1,none⟩=some (.int .i64 p.od)/\a.cell? ⟨g,2,none⟩=some (.int .i64 p.cl)/\a.cell? ⟨g,3,none⟩=some (.int .i64 p.lv)/\a.cell? ⟨g,4,none⟩=some (.int .i64 p.nx)/\a.cell? ⟨g,5,none⟩=some (.int .i64 p.pv)/\a.cell? ⟨g,6,none⟩=some (.int .i64 p.fs)/\a.cell? ⟨g,7,none⟩=some (.int .u64 p.b0)/\a.cell? ⟨g,8,none⟩=some (.int .u64 p.b1)/\a.cell? ⟨g,9,none⟩=some (.int .u64 p.b2)/\a.cell? ⟨g,10,none⟩=some (.int .u64 p.b3)) (first|with_reducible exact⟨Y,U,y2,L,y4,R,y6,y7,y8,V,A⟩|with_reducible exact Q|with_reducible exact Z) (first|(go_at_call 149;with_reducible refine D.o.mono ?_;rintro e o ⟨rfl,k⟩;have s:=aA ((k.block _ (lH G.o) (fun x=>x)).trans G.o);have Q:=dG s.o;have y:=aA k;have C:=aA (f.o o s.o);clear k)|(go_at_call 148;with_reducible refine C.o.mono ?_;rintro e I ⟨rfl,m⟩;have K:=aA m;have Z:=dG ((m.2.1.block _ (lH s.o) (fun x=>x)).trans s.o);clear m)|fail)
  all_goals
   have S3:=aA (show SetAt I (o.heap.size+1) o.heap.size n (cZ (wsP p) n)/\g<=o.heap.size+1/\g<=o.heap.size/\Kt nO j I from⟨K.o.1,by have u:=y.o.size;have z:=l.o;omega,by have u:=y.o.size;have z:=l.o;omega,nT ((kz j).drew) (nT y.o K.o.2.1)⟩);go_wp2_with fail;go_meet
   exact⟨_,_,rfl,S3⟩
 case rest=>
 obtain⟨b,sc,rfl,r⟩:=hcut;go_wp2_with fail;go_ret;exact q.o _ b sc (nT X.o r.o.2.2.2) r.o.1 (by have:=J.o;have:=r.o.2.1;omega) (by have:=J.o;have:=r.o.2.2.1;omega)
theorem IQ{n:Nat}{ws:List Nat}(hl:ws.length=(n+63)/64)(i:Nat)(hi:i<n)(j:Nat):aE (gG n ws (i:Int)) j=if j=i then !aE ws i else aE ws j:=by
 have a:aD n (i:Int)=true:=by unfold aD;exact af (by omega)
 unfold gG;rw[ae a,aa,qU ws i j (by omega)]
theorem zgL(p:Pg)(c:Nat)(hc:p.cl=(c:Int))(J:c<=7)(hp:PgIn p)(w:Wd):Calls prog 236 #[gV p] w (mY w (celN9 c) fun i=>!aE (wsP p) i):=by
 have P:=nK c J;have K:=aA (fun W=>MQ p c hc J hp W);have A:=aA (show Kt nO w (w.alloc (aV p))from(Kt.refl _ _).alloc _);have q:=aA (show ∀ W d sc ws,Kt nO w W->SetAt W d sc (celN9 c) ws->w.heap.size<=d->w.heap.size<=sc->(∀ i,i<celN9 c->aE ws i=!aE (wsP p) i)->mY w (celN9 c) (fun i=>!aE (wsP p) i) (.returned (.pointer (some ⟨d,0,none⟩))) W from fun W d sc ws s u z N Q=>⟨d,sc,_,rfl,u,z,N,Q,s⟩);generalize celN9 c=n at *;clear hc hp;go_enter func236,ntmps236;go_wp2_with fail;generalize w.alloc (aV p)=U at *;refine(K.o U).mono ?_;rintro e T ⟨d,sc,ws,rfl,b,l,h,o,m⟩;have F:=aA (nT A.o m);have G:=aA (show w.heap.size<=d/\w.heap.size<=sc from⟨an A.o.size l,an A.o.size h⟩);have ST:=aA b;have D:=aA o;have r:=aA (DQ d sc n ws T b);clear b l h o m;go_wp2_with fail;refine r.o.mono ?_;rintro e V ⟨rfl,rfl⟩;go_wp2_with fail;go_loopw [9] (fun i W=>∃ a:Nat,a<=n/\i=.int .i64 a/\Hd (Kt nO w W/\∃ ws,SetAt W d sc n ws/\(∀ j,j<a->aE ws j=!aE (wsP p) j)/\∀ j,a<=j->j<n->aE ws j=aE (wsP p) j)) (fun i _=>n-(intOf i).toNat)
 case atStart=>exact⟨0,az _,rfl,aA ⟨F.o,ws,ST.o,fun j t=>by omega,fun j _ t=>D.o j t⟩⟩
 case round=>
  clear F ST D r;obtain⟨a,ha,rfl,hR⟩:=hrel;obtain⟨v,ws,b,f,k⟩:=hR.o;by_cases g:a<n
  ·have B:(a:Int)<n:=(by omega);have R:=aA (wN d sc n ws (a:Int) wr b);have L:=aA v;have C:=aA (show(∀ j,j<a->aE ws j=!aE (wsP p) j)/\∀ j,a<=j->j<n->aE ws j=aE (wsP p) j from⟨f,k⟩);have I:=aA b.len;clear v b f k;go_wp2_with fail;refine R.o.mono ?_;rintro e E ⟨rfl,s,u,z⟩;have S:=aA (show Kt nO w E/\∃ ws,SetAt E d sc n ws/\(∀ j,j<a+1->aE ws j=!aE (wsP p) j)/\∀ j,a+1<=j->j<n->aE ws j=aE (wsP p) j from⟨L.o.trans u (fun _ _ x=>x) (fun x hx e=>by have:=G.o.2;omega),_,s,fun j t=>by
    rw[IQ I.o a g j];by_cases e:j=a;·rw[ae e,e,C.o.2 a (aj _) g]
    ·rw[ac e];exact C.o.1 j (by omega),fun j t y=>by
    rw[IQ I.o a g j,ac (by omega)];exact C.o.2 j (by omega) y⟩)
   clear s u z;go_wp2_with fail;go_round
   case rel=>exact⟨a+1,by omega,by go_num,S⟩
   case measure=>simp[intOf];omega
  ·obtain rfl:a=n:=(by omega);have B:¬(a:Int)<a:=(by omega);go_wp2_with fail;go_ret;exact q.o wr d sc ws v b G.o.1 G.o.2 f
def nx9(I:Img)(g c i:Nat):Option Int:=
 if M.word I.mem (4096*g+i*(16*2 ^ c))=0 then some (-1)
 else if I.bS+g*4096<=M.word I.mem (4096*g+i*(16*2 ^ c))/\M.word I.mem (4096*g+i*(16*2 ^ c))-(I.bS+g*4096)<4096/\(M.word I.mem (4096*g+i*(16*2 ^ c))-(I.bS+g*4096))%(16*2 ^ c)=0
  then some (((M.word I.mem (4096*g+i*(16*2 ^ c))-(I.bS+g*4096))/(16*2 ^ c):Nat):Int) else none
def yY(g:Nat):Option Int->Ending
 | none=>cE (g:Int)
 | some q=>.returned (.int .i64 q)
theorem sP(c:Nat)(h:c<=7):celN9 c*(16*2 ^ c)=4096/\16<=16*2 ^ c/\16*2 ^ c<=2048:=by
 match c,h with
 | 0,_=>decide
 | 1,_=>decide
 | 2,_=>decide
 | 3,_=>decide
 | 4,_=>decide
 | 5,_=>decide
 | 6,_=>decide
 | 7,_=>decide
theorem zgf(b:Nat)(I:Img)(V:ImV)(k r:Nat)(hS:Sn9 I k r)(g c i:Nat)(hg:g<I.np)(hc:(I.pg g).cl=(c:Int))(T:c<=7)(hi:i<celN9 c)(w:Wd)(s:ImAt w b I V):Calls prog 237 #[.pointer (some ⟨b,0,none⟩),.int .i64 g,.int .i64 i] w fun e w'=>e=yY g (nx9 I g c i)/\Kt nO w w':=by
 obtain⟨F,P,L⟩:=sP c T;obtain⟨sz,j⟩:=xe (16*2 ^ c);have R:=hS.nm;have u:=hS.be;have a9:=hS.gj;have S:i*sz+sz<=4096:=by rw[<-F,<-j];have:(i+1)*sz<=celN9 c*sz:=ak _ hi;rwa [av,aL] at this
 rw[<-j] at P L;obtain⟨fi,l⟩:=xe (I.bS+g*4096);have b0:fi+4096<=9223372036854775808:=by omega
 obtain⟨m,G⟩:=xe (i*sz);have D:=aA (fun (x:KW w)=>lX b I V g x.v (s.dk x.k) (by omega));rw[<-l] at D;have z:=aA (fun W=>MJ (I.pg g) c hc T W);rw[<-j] at z;have hq : 4096*g+m+8<=I.nm:=by rw[G];omega
 have HW:=aA (fun (W:Wd) (hW:Kt nO w W)=>wY b I V (4096*g+m) W (s.dk hW) hq u);have e1:((I.bS+(4096*g+m):Nat):Int)=(fi:Int)+(m:Int):=by rw[l];omega
 rw[e1] at HW;have b1:=word_lt s.d (4096*g+m) hq;have NX:nx9 I g c i=if M.word I.mem (4096*g+m)=0 then some (-1) else if fi<=M.word I.mem (4096*g+m)/\M.word I.mem (4096*g+m)-fi<4096/\(M.word I.mem (4096*g+m)-fi)%sz=0 then some (((M.word I.mem (4096*g+m)-fi)/sz:Nat):Int) else none:=by unfold nx9;rw[<-j,<-G,<-l]
 obtain⟨U,f⟩:=xe (yY g (nx9 I g c i));rw[<-f];rw[NX] at f;generalize M.word I.mem (4096*g+m)=x at *;have E0:=aA (show x=0->Ending.returned (.int .i64 (-1))=U from fun h=>by rw[f,ae h];rfl);have E1:=aA (show ∀ q,x≠0->fi<=x->x-fi<4096->(x-fi)%sz=0->q=(x-fi)/sz->Ending.returned (.int .i64 q)=U from fun q h0 t p h3 h4=>by rw[f,ac h0,ae ⟨t,p,h3⟩,h4];rfl);have K:=aA (show x≠0->¬(fi<=x/\x-fi<4096/\(x-fi)%sz=0)->cE (g:Int)=U from fun h0 t=>by rw[f,ac h0,ac t];rfl);have a0:(i:Int)*(sz:Int)=m:=by rw[G];simp
 have a1:m<=4096:=by omega
 have Z:¬(sz:Int)=0:=by omega
 have Q:i<256:=bg hi (nK c T).2;obtain⟨-,⟨pa,pc,hp⟩,-,-,-,-,bp,-,-⟩:=s.d.sl;obtain⟨c0,c1,c2,c3,c4,c5,c6,c7,c8⟩:=s.all;rw[hp] at c5;obtain⟨bl,o,a5,C,-,-⟩:=s.ew g hg;rw[hp] at C;injection C with e3 e4 e5
 subst e3;obtain⟨d0,d1,d2,d3,d4,d5,d6,d7,d8,d9,Y⟩:=iN (s.go hp g hg);obtain⟨n,hn⟩:=xe (I.np);rw[<-hn] at c5;have a7:(g:Int)<n:=by omega
 have a2:g<=1024:=by omega
 clear NX f j G l e1 hq F hc s hp hn e4 e5 S hS hi R u;go_enter func237,ntmps237;go_wp2_with fail;refine cR (by kernel_rfl) (by kernel_rfl) ?_;repeat (go_big_quiet_step (first|(go_at_call 42;exact Calls.ek ((D.o _).mono fun _ _ ⟨t,p⟩=>⟨t,p▸Kt.refl _ _⟩))|(go_at_call 93;exact Calls.ek (z.o _))))
 refine wpQuiet_nil ?_;intro y;clear c0 c1 c2 c3 c4 c5 c6 c7 c8 d0 d1 d2 d3 d4 d5 d6 d7 d8 d9 Y;go_wp2_with fail;refine(HW.o y.v y.k).mono ?_;rintro e w2 ⟨rfl,m2,rfl⟩;have A:=aA (nT y.k ((kz y.v).drewN m2));generalize y.v.drewN m2=w2 at *;by_cases a:x=0
 ·have f0:((x:Int) == 0)=true:=by rw[cu];omega
  have E:=aA (E0.o a);clear a;go_wp2_with fail;go_ret;exact⟨E.o,A.o⟩
 ·have f0:((x:Int) == 0)=false:=by rw[ag];omega
  by_cases B:fi<=x
  ·obtain⟨d,hd⟩:=xe (x-fi);have hw:(x:Int)-(fi:Int)=d:=(by omega);have a6:d<18446744073709551616:=(by omega);rw[<-hd] at E1 K;by_cases t:d<4096
   ·have J:(d:Int)<4096:=(by omega);by_cases p:d%sz=0
    ·have f2:((d:Int)%(sz:Int) == 0)=true:=(by rw[cu];omega);obtain⟨q,hq⟩:=xe (d/sz);have f3:(d:Int)/(sz:Int)=q:=(by rw[hq];simp);have a4:q<=4096:=(by rw[hq];exact an (dg _ _) (by omega));have E:=aA (E1.o q a B t p hq);clear a p hq hd;go_wp2_with fail;refine(dC _ _).mono ?_;rintro e N ⟨rfl,rfl⟩;go_wp2_with fail;go_ret;exact⟨E.o,A.o⟩
    ·have f2:((d:Int)%(sz:Int) == 0)=false:=(by rw[ag];omega);have E:=aA (K.o a (fun h=>p h.2.2));clear a p hd;go_wp2_with fail;refine(dW _ _).mono ?_;rintro e N ⟨rfl,rfl⟩;exact⟨rfl,E.o,A.o⟩
   ·have J:¬(d:Int)<4096:=(by omega);have X:decide ((d:Int)<4096)=false:=ah J;have E:=aA (K.o a (fun h=>t h.2.1));clear a hd;go_wp2_with fail;refine(dW _ _).mono ?_;rintro e N ⟨rfl,rfl⟩;exact⟨rfl,E.o,A.o⟩
  ·obtain⟨d,hd⟩:=xe (18446744073709551616-(fi-x));have hw:IntKind.u64.wrap ((x:Int)-(fi:Int))=(d:Int):=(by rw[wrap_u64];omega);have J:¬(d:Int)<4096:=(by omega);have a3:¬d<4096:=(by omega);have X:decide ((d:Int)<4096)=false:=ah J;have E:=aA (K.o a (fun h=>B h.1));have a8:(x:Int)<fi:=(by omega);clear hd a;go_wp2_with fail;refine(dW _ _).mono ?_;rintro e N ⟨rfl,rfl⟩;exact⟨rfl,E.o,A.o⟩
def prg9(nx:Nat->Option Int):Nat->List Nat->Int->Bool
 | 0,_,_=>false
 | n+1,l,p=>if p = -1 then l.isEmpty else if 0<=p/\p.toNat∈l then (match nx p.toNat with | none=>false | some q=>prg9 nx n (l.erase p.toNat) q) else false
theorem prg9_end{nx:Nat->Option Int}{l:List Nat} : prg9 nx (l.length+1) l (-1)=l.isEmpty:=by rw[prg9,ae rfl]
theorem EF{nx:Nat->Option Int}{l:List Nat}{p:Int}(hp:p ≠ -1)(h:¬(0<=p/\p.toNat∈l)):prg9 nx (l.length+1) l p=false:=by rw[prg9,ac hp,ac h]
theorem FM{nx:Nat->Option Int}{l:List Nat}{i:Nat}(h:i∈l)(a:nx i=none):prg9 nx (l.length+1) l (i:Int)=false:=by rw[prg9,ac (by omega),ae ⟨by omega,by rw[aa];exact h⟩,aa,a]
theorem prg9_yes{nx:Nat->Option Int}{l:List Nat}{i:Nat}{q:Int}(h:i∈l)(a:nx i=some q):prg9 nx (l.length+1) l (i:Int)=prg9 nx ((l.erase i).length+1) (l.erase i) q:=by
 rw[prg9,ac (by omega),ae ⟨by omega,by rw[aa];exact h⟩,aa,a,dp h];have:l.length-1+1=l.length:=by have:=List.length_pos_of_mem h;omega
 rw[this]
def frL(p:Pg)(n:Nat):List Nat:=(List.range n).filter fun i=>!aE (wsP p) i
def ok9c(I:Img)(g c:Nat):Bool:=prg9 (nx9 I g c) ((frL (I.pg g) (celN9 c)).length+1) (frL (I.pg g) (celN9 c)) (I.pg g).fs
def ok9(I:Img)(g:Nat):Bool:=!decide ((I.pg g).kd=4) || ok9c I g (I.pg g).cl.toNat
structure L9(w W:Wd)(sb sc n:Nat)(ws:List Nat)(l:List Nat):Prop where
 st:SetAt W sb sc n ws
 ge:w.heap.size<=sc
 k:Kt nO w W
 nd:l.Nodup
 mem:∀ i,i<n->aE ws i=decide (i∈l)
 lt:∀ i,i∈l->i<n
theorem L9.dk{w W W':Wd}{b sc n:Nat}{ws l:List Nat}(h:L9 w W b sc n ws l)(a:Kt nO W W'):L9 w W' b sc n ws l:=
 ⟨h.st.kept a (fun x=>x) (fun x=>x),h.ge,nT h.k a,h.nd,h.mem,h.lt⟩
theorem L9.met{w W W':Wd}{c sc n i:Nat}{ws l:List Nat}(h:L9 w W c sc n ws l)(d:Kt (fun x=>x=sc) W W')(hi:i∈l)(hs:SetAt W' c sc n (cH n ws (i:Int) false)):L9 w W' c sc n (cH n ws (i:Int) false) (l.erase i):=by
 refine⟨hs,h.ge,h.k.trans d (fun _ _ x=>x) (fun x hx e=>by have:=h.ge;omega),h.nd.erase i,fun j b=>?_,fun j b=>h.lt j (List.mem_of_mem_erase b)⟩;rw[tL h.st.len i (h.lt i hi) false j];by_cases e:j=i;·rw[ae e,e];exact(ah (fun a=>((h.nd.mem_erase_iff).1 a).1 rfl)).symm
 ·rw[ac e,h.mem j b,decide_eq_decide,h.nd.mem_erase_iff];exact⟨fun a=>⟨e,a⟩,fun a=>a.2⟩
theorem L9.ins{w W:Wd}{b sc n:Nat}{ws l:List Nat}(h:L9 w W b sc n ws l)(p:Int):cS n ws p=decide (0<=p/\p.toNat∈l):=by
 unfold cS aD;by_cases hp : 0<=p/\p<(n:Int);·rw[af hp,bf,h.mem p.toNat (by omega),decide_eq_decide];exact⟨fun a=>⟨hp.1,a⟩,fun a=>a.2⟩
 ·rw[ah hp,eb];refine(ah fun a=>hp ⟨a.1,?_⟩).symm;have:=h.lt _ a.2;omega
theorem L9.empty{w W:Wd}{b sc n:Nat}{ws l:List Nat}(h:L9 w W b sc n ws l):l.isEmpty=decide (aY ws=0):=by
 rw[Bool.eq_iff_iff,List.isEmpty_iff,ci,JP h.st];constructor;·intro e j a;rw[h.mem j a,e];rfl
 ·intro hz
  cases l with
  | nil=>rfl
  | cons x t=>
   exfalso
   have hx:=h.lt x aw;have:=hz x hx;rw[h.mem x hx,af aw] at this
   cases this
theorem zdZ(b:Nat)(I:Img)(V:ImV)(k r:Nat)(hS:Sn9 I k r)(g c:Nat)(hg:g<I.np)(hc:(I.pg g).cl=(c:Int))(h7:c<=7)(w:Wd)(J:ImAt w b I V):Calls prog 198 #[.pointer (some ⟨b,0,none⟩),.int .i64 g] w fun e w'=>e=bG (if ok9c I g c=true then none else some g)/\Kt nO w w':=by
 obtain⟨-,⟨pa,pc,hp⟩,-,-,-,-,bp,-,-⟩:=J.d.sl;obtain⟨c0,c1,c2,c3,c4,c5,c6,c7,c8⟩:=J.cells;rw[hp] at c5;obtain⟨bl,o,b3,U,a0,R⟩:=J.ew g hg;rw[hp] at U;injection U with e1 e2 e3
 subst e1;obtain⟨EE,v⟩:=xe (bG (if ok9c I g c=true then none else some g));rw[<-v];have FB:=aA (show ok9c I g c=false->cE (g:Int)=EE from fun h=>by rw[v,ac (by rw[h];decide)];rfl);have FG:=aA (show ok9c I g c=true->Ending.returned (.tuple #[])=EE from fun h=>by rw[v,ae h];rfl);have y:=aA (show prg9 (nx9 I g c) ((frL (I.pg g) (celN9 c)).length+1) (frL (I.pg g) (celN9 c)) (I.pg g).fs=ok9c I g c from rfl);generalize ok9c I g c=m at *;have HI:=aA J;have b1:=aA (fun W=>zgL (I.pg g) c hc h7 a0 W);have a8:=aA (fun (i:Nat) (hi:i<celN9 c) (W:Wd) (hW:ImAt W b I V)=>zgf b I V k r hS g c i hg hc h7 hi W hW);have PB:=aA (PbI.mk' (w:=w) J (Kt.refl _ w) (I.pg g));obtain⟨d0,d1,d2,d3,d4,d5,d6,d7,d8,d9,b2⟩:=R.c;obtain⟨n,hn⟩:=xe (I.np);rw[<-hn] at c5;have b4:(g:Int)<n:=by omega
 have b0:=hS.gj;rw[<-hn] at b0;obtain⟨L,F⟩:=xe (nx9 I g c);rw[<-F] at y;have a3:=aA (show ∀ i,nx9 I g c i=L i from fun i=>by rw[F]);generalize celN9 c=j at *;generalize a7:I.pg g=p at *;clear v J hp a0 R e2 e3 hn hc bp a7 F;go_enter func198,ntmps198;go_wp2_with fail;have SZ:=aA (show w.heap.size<(w.alloc (aV p)).heap.size by simp);generalize w.alloc (aV p)=W1 at *;generalize S:w.heap.size=gb at *;have a9:=aA S;clear S d0 d1 d2 d3 d4 d5 d6 d7 d8 d9 b2 c0 c1 c2 c3 c4 c5 c6 c7 c8;refine(b1.o W1).mono ?_;rintro e w2 ⟨E,sc,ws,rfl,Q,a5,a4,T,A⟩;have K:=aA (PB.o.dk A);have a:=aA (show L9 w w2 E sc j ws (frL p j)from⟨Q,by have:=SZ.o;have:=a9.o;omega,nT PB.o.k A,List.nodup_range.filter _,fun i hi=>by rw[T i hi,Bool.eq_iff_iff,ci];simp[frL,hi],fun i hi=>by simp[frL] at hi;exact hi.1⟩)
 obtain⟨q0,q1,q2,q3,q4,q5,q6,-⟩:=dG K.o.pb;clear Q a5 a4 T A;go_wp2_with fail;clear q0 q1 q2 q3 q4 q5 q6;go_loopw [6] (fun pv W=>∃ x:Int,pv=.int .i64 x/\Hd (∃ ws l,L9 w W E sc j ws l/\prg9 L (l.length+1) l x=m)) (fun _ W=>aY (cT W sc))
 case atStart=>exact⟨p.fs,rfl,aA ⟨_,_,a.o,y.o⟩⟩
 case round=>
  clear a y K PB SZ;obtain⟨x,rfl,hL⟩:=hrel;obtain⟨ws,l,hl,X⟩:=hL.o;have a:=aA hl;have y:=aA X;clear hL hl X;by_cases hx:x = -1
  ·have f0:(x != -1)=false:=(by rw[hx];rfl);have B:=aA (show m=decide (aY ws=0)by rw[<-y.o,hx,prg9_end,a.o.empty]);obtain⟨cw,P⟩:=xe (aY ws);have C:=aA (uC E sc j ws wr a.o.st);rw[<-P] at C B;clear hx P;by_cases g0:cw=0
   case neg=>have u:=aA (FB.o (by rw[B.o,ah g0]));have f4:((cw:Int) == 0)=false:=(by rw[ag];omega);clear g0;go_wp2_with fail;refine C.o.mono ?_;rintro e w3 ⟨rfl,rfl⟩;go_wp2_with fail;refine(dW _ _).mono ?_;rintro e N ⟨rfl,rfl⟩;exact⟨rfl,u.o,a.o.k⟩
   have u:=aA (FG.o (by rw[B.o,af g0]));have f4:((cw:Int) == 0)=true:=(by rw[cu];omega);clear g0;go_wp2_with fail;refine C.o.mono ?_;rintro e w3 ⟨rfl,rfl⟩;go_wp2_with fail;refine(dC _ _).mono ?_;rintro e N ⟨rfl,rfl⟩;go_wp2_with fail;first|go_end0|go_ret
   exact⟨u.o,a.o.k⟩
  ·have f0:(x != -1)=true:=(by rw[cx];exact hx);have Y:=aA (a.o.ins x)
   cases hin:cS j ws x with
   | false=>
    have u:=aA (FB.o (by rw[<-y.o];refine EF hx ?_;have:=Y.o;rw[hin] at this;exact of_decide_eq_false this.symm))
    have t:=aA (vS E sc j ws x (g:Int) wr a.o.st hin);clear hin hx;go_wp2_with fail;refine t.o.mono ?_;rintro e w3 ⟨rfl,rfl⟩;exact⟨rfl,u.o,a.o.k⟩
   | true=>
    have hm : 0<=x/\x.toNat∈l:=by have:=Y.o;rw[hin] at this;exact bw this.symm
    obtain⟨i,rfl⟩:=au hm.1;have G:i∈l:=(by have:=hm.2;rwa [aa] at this);have s:=aA G;have z:=aA (a.o.lt i G);have t:=aA (wW E sc j ws (i:Int) (g:Int) wr a.o.st hin);clear hin hm G hx;go_wp2_with fail;refine t.o.mono ?_;rintro e wc ⟨rfl,h1,h2,h3⟩;have D:=aA (show L9 w wc E sc j (cH j ws (i:Int) false) (l.erase i)from a.o.met h2 s.o h1);have a6:=aA (show aY (cT wc sc)<aY (cT wr sc)by
     rw[iV D.o.st,iV a.o.st];have hb:aE ws i=true:=(by rw[a.o.mem i z.o];exact af s.o);have:=wF a.o.st D.o.st z.o hb;omega)
    have a1:=aA (HI.o.dk D.o.k);have Z:=aA (a8.o i z.o wc a1.o);rw[a3.o i] at Z;clear h1 h2 h3 t
    cases hq:L i with
    | none=>have u:=aA (FB.o (by rw[<-y.o];exact FM s.o hq));rw[hq] at Z;clear hq;go_wp2_with fail;refine Z.o.mono ?_;rintro e N ⟨rfl,f⟩;exact⟨rfl,u.o,nT D.o.k f⟩
    | some q=>
     have u:=aA (show prg9 L ((l.erase i).length+1) (l.erase i) q=m by rw[<-y.o];exact(prg9_yes s.o hq).symm);rw[hq] at Z;clear hq;go_wp2_with fail;refine Z.o.mono ?_;rintro e N ⟨rfl,f⟩;have R3:=aA (show ∃ ws l,L9 w N E sc j ws l/\prg9 L (l.length+1) l q=m from⟨_,_,D.o.dk f,u.o⟩);have a2:=aA (show aY (cT N sc)<aY (cT wr sc)by
      rw[iV (D.o.dk f).st,<-iV D.o.st];exact a6.o)
     clear f;dsimp only[yY];go_wp2_with fail;go_round
     case rel=>exact⟨q,rfl,R3⟩
     case measure=>exact a2.o
theorem zdm(b:Nat)(I:Img)(V:ImV)(k r:Nat)(hS:Sn9 I k r)(w:Wd)(v:ImAt w b I V):Calls prog 145 #[.pointer (some ⟨b,0,none⟩)] w fun e w'=>e=bG (fst1 I.np (ok9 I))/\Kt nO w w':=by
 obtain⟨-,⟨pa,pc,hp⟩,-,-,-,-,bp,-,-⟩:=v.d.sl;obtain⟨c0,c1,c2,c3,c4,c5,c6,c7,c8⟩:=v.cells;rw[hp] at c5;obtain⟨S,m⟩:=xe (bG (fst1 I.np (ok9 I)));rw[<-m];have N:=aA m;have Y:=aA v;have U:=aA hS;have SP:=aA hp;have D:=hS.gj;obtain⟨n,C⟩:=xe (I.np);rw[<-C] at D c5;have R:=aA C;clear m v hp hS C bp;go_enter func145,ntmps145;go_wp2_with fail;go_loopw [9] (fun i W=>∃ a:Nat,a<=n/\i=.int .i64 a/\Hd (Kt nO w W/\∀ x,x<a->ok9 I x=true)) (fun i _=>n-(intOf i).toNat)
 case atStart=>exact⟨0,az _,rfl,aA ⟨Kt.refl _ _,fun x hx=>by omega⟩⟩
 case round=>
  clear c0 c1 c2 c3 c4 c5 c6 c7 c8;obtain⟨a,ha,rfl,hR⟩:=hrel;have X:=aA (Y.o.dk hR.o.1);by_cases B:a<n
  ·have J:(a:Int)<n:=(by omega);have f:a<I.np:=(by rw[<-R.o];exact B);obtain⟨bl,o,a0,u,G,s⟩:=X.o.ew a f;rw[SP.o] at u;injection u with e1 e2 e3
   subst e1;obtain⟨kd,od,y,ll,y1,y2,y3,y4,F,T,y7,y8,-⟩:=U.o.pg a f;have FB:=aA (show ok9 I a=false->cE (a:Int)=S from fun h=>by rw[N.o,fY f hR.o.2 h];rfl);have P:=aA (show ok9 I a=true->∀ x,x<a+1->ok9 I x=true from fun h x hx=>by
    by_cases e:x=a;·rw[e];exact h
    ·exact hR.o.2 x (by omega))
   have K:=aA (show ok9 I a=(!decide ((I.pg a).kd=4) || ok9c I a y)by unfold ok9;rw[F,aa]);have A:=aA (PbI.mk' (w:=w) X.o hR.o.1 (I.pg a));have j:=aA (zdZ b I V k r U.o a y f F T (wr.alloc (aV (I.pg a))) A.o.im);generalize ok9c I a y=Q at *;generalize ok9 I a=z at *;obtain⟨d0,d1,d2,d3,d4,d5,d6,d7,d8,d9,a1⟩:=s.c;generalize I.pg a=p at *;clear G s e2 e3 y1 y2 y3 y4 F T y7 y8;by_cases g:p.kd=4
   case neg=>
    have t:=aA (show Kt nO w (wr.alloc (aV p))/\_ from⟨hR.o.1.alloc _,P.o (by rw[K.o];simp[g])⟩);have Z:(p.kd == 4)=false:=(by rw[ag];exact g);clear g;go_wp2_with fail;go_round
    case rel=>exact⟨a+1,by omega,by go_num,t⟩
    case measure=>simp[intOf];omega
   have Z:(p.kd == 4)=true:=(by rw[cu];exact g);have q:=aA (show z=Q by rw[K.o,af g];rfl);clear g
   cases Q with
   | false=>have t:=aA (FB.o q.o);rw[ac (by decide)] at j;go_wp2_with fail;refine j.o.mono ?_;rintro e L ⟨rfl,l⟩;exact⟨rfl,t.o,nT A.o.k l⟩
   | true=>
    have t:=aA (P.o q.o);rw[ae rfl] at j;go_wp2_with fail;refine j.o.mono ?_;rintro e L ⟨rfl,l⟩;have R3:=aA (show Kt nO w L/\_ from⟨nT A.o.k l,t.o⟩);clear l;dsimp only[bG];go_wp2_with fail;go_round
    case rel=>exact⟨a+1,by omega,by go_num,R3⟩
    case measure=>simp[intOf];omega
  ·obtain rfl:a=n:=(by omega);have J:¬(a:Int)<a:=(by omega);have E:=aA (show Ending.returned (.tuple #[])=S by rw[N.o,fst1_ok (fun x hx=>hR.o.2 x (by rw[R.o];exact hx))];rfl);go_wp2_with fail;first|go_end0|go_ret
   exact⟨E.o,hR.o.1⟩
end W
end Go.Proofs.YtfmgnljlkdmndaaGreatDoor
