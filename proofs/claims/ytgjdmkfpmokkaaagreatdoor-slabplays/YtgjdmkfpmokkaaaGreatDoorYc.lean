import Derived.Test.YtgjdmkfpmokkaaaGreatDoorZu
set_option maxRecDepth 1000000
set_option maxHeartbeats 80000000
namespace Go.Proofs.YtgjdmkfpmokkaaaGreatDoor
open Go.RowKit
set_option linter.unusedVariables false
def za8(pg:Nat→Pg)(p k a:Nat)(kd:Int):Nat→Pg:=fun x=>if p≤x∧x<p+a then bkP (if x=p then kd else kd+1) (k:Int) else pg x
theorem zfi(pg:Nat→Pg)(p k:Nat)(kd:Int):za8 pg p k 0 kd=pg:=by
 funext x
 unfold za8;rw[if_neg (by omega)]
theorem zdb(pg:Nat→Pg)(p k a:Nat)(kd:Int):upp (za8 pg p k a kd) (p+a) (bkP (if a=0 then kd else kd+1) (k:Int))=za8 pg p k (a+1) kd:=by
 funext x
 unfold upp za8;by_cases e:x=p+a
 ·subst e;rw[if_pos rfl,if_pos (show p≤p+a∧p+a<p+(a+1)by omega)];by_cases e2:a=0
  ·rw[if_pos e2,if_pos (show p+a=p by omega)]
  ·rw[if_neg e2,if_neg (show ¬p+a=p by omega)]
 ·rw[if_neg e];by_cases e2:p≤x∧x<p+a
  ·rw[if_pos e2,if_pos (show p≤x∧x<p+(a+1)by omega)]
  ·rw[if_neg e2,if_neg (show ¬(p≤x∧x<p+(a+1))by omega)]
theorem Row.kind{w g n pg i a b k}(h:Row w g n (upp pg i (bkP a k)))(hi:i<n):Row (w.setCell ⟨g,i*11,none⟩ (.int .i64 b)) g n (upp pg i (bkP b k)):=by
 have:=RowC.set h i 0 hi (by decide) (.int .i64 b);refine RowC.congr this (fun x hx j hj=>?_);unfold upc;by_cases e:x=i∧j=0
 ·obtain⟨rfl,rfl⟩:=e;rw[if_pos ⟨rfl,rfl⟩];unfold upp;rw[if_pos rfl];rfl
 ·rw[if_neg e];show(upp pg i (bkP a k) x).fld j=(upp pg i (bkP b k) x).fld j
  unfold upp;by_cases e1:x=i
  ·rw[if_pos e1,if_pos e1];have hj0:j≠0:=fun h=>e ⟨e1,h⟩
   revert hj0
   revert j
   apply lt11 <;> intro _ h0 <;> first|exact absurd rfl h0|rfl
  ·rw[if_neg e1,if_neg e1]
theorem zkR(g n:Nat)(pg:Nat→Pg)(p k:Nat)(kd:Int)(hkd:kd=0∨kd=2)(hk:k≤8)(hn:n≤1024)(hp:p+2 ^ k≤n)(w:World)(h:Row w g n pg):
  Calls Tryz.prog 157 #[.slice (some ⟨g,0,none⟩) n n,.int .i64 (p:Int),.int .i64 (k:Int),.int .i64 kd] w fun e w'=>Row w' g n (za8 pg p k (2 ^ k) kd)∧Kt (fun x=>x=g) w w'∧∃ v,e=.returned v:=by
 obtain⟨z,hz⟩:=xe (2 ^ k);have hzi:(2:Int) ^ k=(z:Int):=by rw[hz];simp
 have hz2:z≤256:=by rw[hz];exact Nat.pow_le_pow_right (n:=2) (by decide) hk
 rw[←hz] at hp ⊢;have HR:=hid h;clear h hz;go_enter Tryz.func157,Tryz.ntmps157;go_wp2_with fail;go_loopw [8] (fun i W=>∃ a:Nat,a≤z∧i=.int .i64 a∧Hid (Row W g n (za8 pg p k a kd)∧Kt (fun x=>x=g) w W)) (fun i _=>z-(intOf i).toNat)
 case atStart=>exact⟨0,by omega,rfl,hid ⟨by rw[zfi];exact HR.out,Kt.refl _ w⟩⟩
 case round=>
  clear HR;obtain⟨a,ha,rfl,hR⟩:=hrel;by_cases hlt:a<z
  ·have hai:(a:Int)<(z:Int):=(by omega);have hpa:p+a<n:=(by omega);have hpai:(p:Int)+(a:Int)<(n:Int):=(by omega);have fz:=RowC.froz hR.out.1;by_cases ha0:a=0
   ·subst ha0;have hpn:p<n:=(by omega);have hpni:(p:Int)<(n:Int):=(by omega);obtain⟨d0,d1,d2,d3,d4,d5,d6,d7,d8,d9,d10⟩:=hR.out.1.cell p hpn;have R1:=hR.out.1.put p hpn (bkP kd k);have K1:=hR.out.2.trans (zaU wr g p (bkP kd k)) (fun _ _ e=>e) (fun _ _ e=>e);have hs:=zdb pg p k 0 kd;rw[if_pos rfl,Nat.add_zero] at hs;rw[hs] at R1;have D:=hid (And.intro R1 K1);clear R1 K1 hs hpa hpai;go_wp2_with fail;exact⟨⟨1,by omega,by simp,D⟩,by simp[intOf];omega⟩
   ·obtain⟨d0,d1,d2,d3,d4,d5,d6,d7,d8,d9,d10⟩:=hR.out.1.cell (p+a) hpa;have R1:=hR.out.1.put (p+a) hpa (bkP kd k);have K1:=hR.out.2.trans (zaU wr g (p+a) (bkP kd k)) (fun _ _ e=>e) (fun _ _ e=>e);have ha0i:(0:Int)<(a:Int):=(by omega);have HR1:=hid R1;have HK1:=hid K1;have HS:=hid (show upp (za8 pg p k a kd) (p+a) (bkP (kd+1) k)=za8 pg p k (a+1) kd from by
     have:=zdb pg p k a kd;rw[if_neg ha0] at this;exact this)
    have hkw:IntKind.i64.wrap (kd+1)=kd+1:=(by rw[IntKind.wrap_i64];omega);clear R1 K1 ha0;go_upto_region 4 with fail;generalize hW:setP wr g (p+a) (bkP kd k)=W1 at HR1 HK1;rw[show(((((((((((wr.setCell ⟨g,(p+a)*11,none⟩ (.int .i64 kd)).setCell ⟨g,(p+a)*11+1,none⟩ (.int .i64 (k:Int))).setCell ⟨g,(p+a)*11+2,none⟩ (.int .i64 0)).setCell ⟨g,(p+a)*11+3,none⟩ (.int .i64 0)).setCell ⟨g,(p+a)*11+4,none⟩ (.int .i64 (-1))).setCell ⟨g,(p+a)*11+5,none⟩ (.int .i64 (-1))).setCell ⟨g,(p+a)*11+6,none⟩ (.int .i64 (-1))).setCell ⟨g,(p+a)*11+7,none⟩ (.int .u64 0)).setCell ⟨g,(p+a)*11+8,none⟩ (.int .u64 0)).setCell ⟨g,(p+a)*11+9,none⟩ (.int .u64 0)).setCell ⟨g,(p+a)*11+10,none⟩ (.int .u64 0))=W1 from hW];obtain⟨e0,_⟩:=HR1.out.cell (p+a) hpa;have fz2:=RowC.froz HR1.out ((p+a)*11);have R2:=Row.kind (b:=kd+1) HR1.out hpa;rw[HS.out] at R2;have D:=hid (And.intro R2 (HK1.out.setCell (p:=⟨g,(p+a)*11,none⟩) rfl (.int .i64 (kd+1))));clear R2 hW d0 d1 d2 d3 d4 d5 d6 d7 d8 d9 d10 fz;go_wp2_with fail;exact⟨⟨a+1,by omega,by simp,D⟩,by simp[intOf];omega⟩
  ·have hai:¬(a:Int)<(z:Int):=(by omega);obtain rfl:a=z:=(by omega);go_wp2_with fail;exact⟨rfl,.tuple #[],by simp[results,Tryz.results157,go_sem],hR.out.1,hR.out.2,_,rfl⟩
def Fd(fr:Nat→List Nat)(o i q k:Nat):Prop:=(k<o∧q∈fr k)∨(k=o∧∃ j,j<i∧j<(fr o).length∧(fr o).getD j 0=q)
theorem Fd.succ{fr o i q k}(hi:i<(fr o).length):Fd fr o (i+1) q k↔Fd fr o i q k∨(q=(fr o).getD i 0∧k=o):=by
 constructor
 ·rintro (h|⟨h1,j,h2,h3,h4⟩)
  ·exact .inl (.inl h)
  ·by_cases e:j=i
   ·subst e;exact .inr ⟨h4.symm,h1⟩
   ·exact .inl (.inr ⟨h1,j,by omega,h3,h4⟩)
 ·rintro ((h|⟨h1,j,h2,h3,h4⟩)|⟨h1,h2⟩)
  ·exact .inl h
  ·exact .inr ⟨h1,j,by omega,h3,h4⟩
  ·exact .inr ⟨h2,i,by omega,hi,h1.symm⟩
theorem Fd.next{fr o q k} : Fd fr o (fr o).length q k↔Fd fr (o+1) 0 q k:=by
 constructor
 ·rintro (⟨h1,h2⟩|⟨h1,j,h2,h3,h4⟩)
  ·exact .inl ⟨by omega,h2⟩
  ·exact .inl ⟨by omega,by rw[h1,←h4];exact M.getD_mem h3⟩
 ·rintro (⟨h1,h2⟩|⟨h1,j,h2,_⟩)
  ·by_cases e:k=o
   ·subst e;obtain⟨j,h3,h4⟩:=M.mem_getD h2;exact .inr ⟨rfl,j,h3,h3,h4⟩
   ·exact .inl ⟨by omega,h2⟩
  ·omega
def zaH(pg:Nat→Pg)(D:Nat→Nat→Nat→Prop):Prop:=∀ g p k,D g p k→∀ i,p≤i→i<p+2 ^ k→pg i=bkP (if i=p then (g:Int) else (g:Int)+1) (k:Int)
theorem zaH.step{pg D g p k}(h:zaH pg D)(hd:∀ g' p' k',D g' p' k'→(g'=g∧p'=p∧k'=k)∨p'+2 ^ k'≤p∨p+2 ^ k≤p'){D':Nat→Nat→Nat→Prop}(hD:∀ a b c,D' a b c→D a b c∨(a=g∧b=p∧c=k)):zaH (za8 pg p k (2 ^ k) (g:Int)) D':=by
 have hnew:∀ i,p≤i→i<p+2 ^ k→za8 pg p k (2 ^ k) (g:Int) i=bkP (if i=p then (g:Int) else (g:Int)+1) (k:Int):=fun i h1 h2=>by
  unfold za8;rw[if_pos ⟨h1,h2⟩]
 intro a b c hbc i h1 h2;rcases hD a b c hbc with e|⟨rfl,rfl,rfl⟩
 ·rcases hd a b c e with ⟨rfl,rfl,rfl⟩|e2
  ·exact hnew i h1 h2
  ·unfold za8;rw[if_neg (by omega)];exact h a b c e i h1 h2
 ·exact hnew i h1 h2
def PD(fr:Nat→List Nat)(ls:List (Nat×Nat))(o i b:Nat):Nat→Nat→Nat→Prop:=fun g p k=>(g=0∧Fd fr o i p k)∨(g=2∧∃ a,a<b∧a<ls.length∧ls.getD a (0,0)=(p,k))
theorem zez{l:List (Nat×Nat)}{i:Nat}(h:i<l.length):l.getD i (0,0)∈l:=by
 rw[List.getD_eq_getElem?_getD,List.getElem?_eq_getElem h];exact List.getElem_mem h
theorem PD.fr_succ{fr ls o i b}(hi:i<(fr o).length){g p k:Nat}(h:PD fr ls o (i+1) b g p k):PD fr ls o i b g p k∨(g=0∧p=(fr o).getD i 0∧k=o):=by
 rcases h with ⟨h1,h2⟩|h
 ·rcases (Fd.succ hi).1 h2 with h3|h3
  ·exact .inl (.inl ⟨h1,h3⟩)
  ·exact .inr ⟨h1,h3⟩
 ·exact .inl (.inr h)
theorem PD.ls_succ{fr ls o i b}{g p k:Nat}(h:PD fr ls o i (b+1) g p k):PD fr ls o i b g p k∨(g=2∧p=(ls.getD b (0,0)).1∧k=(ls.getD b (0,0)).2):=by
 rcases h with h|⟨h1,a,h2,h3,h4⟩
 ·exact .inl (.inl h)
 ·by_cases e:a=b
  ·subst e;exact .inr ⟨h1,by rw[h4],by rw[h4]⟩
  ·exact .inl (.inr ⟨h1,a,by omega,h3,h4⟩)
theorem PD.next{fr ls o b}{g p k:Nat}(h:PD fr ls (o+1) 0 b g p k):PD fr ls o (fr o).length b g p k:=by
 rcases h with ⟨h1,h2⟩|h
 ·exact .inl ⟨h1,Fd.next.2 h2⟩
 ·exact .inr h
theorem PD.B{x t fr ls B}(s:Sd x t fr B)(hL:∀ q i,B 2 q i↔(q,i)∈ls){o i b g p k:Nat}(ho:o≤x.o+1)(hi:o=x.o+1→i=0)(h:PD fr ls o i b g p k):B g p k:=by
 rcases h with ⟨rfl,h2⟩|⟨rfl,a,_,h3,h4⟩
 ·rcases h2 with ⟨h5,h6⟩|⟨h5,j,h6,h7,h8⟩
  ·exact(s.fi _ _).2 ⟨by omega,h6⟩
  ·subst h5;have hko:k≤x.o:=by
    rcases Nat.lt_or_ge x.o k with e|e
    ·have:=hi (by omega);omega
    ·exact e
   exact(s.fi _ _).2 ⟨hko,by rw[←h8];exact M.getD_mem h7⟩
 ·exact(hL p k).2 (by rw[←h4];exact zez h3)
def unP(x:Bx)(t:Bt)(i:Nat):Pg:=if (x.P i).isSome=true then bkP 2 0 else t.m.pg i
theorem zaH.all{x t fr ls pg}(s:Sf x t fr ls)(h:zaH pg (PD fr ls (x.o+1) 0 ls.length)):∀ i,i<t.m.n→pg i=unP x t i:=by
 obtain⟨B,s,hN,hL⟩:=s;have hD:∀ g p k,B g p k→PD fr ls (x.o+1) 0 ls.length g p k:=fun g p k h1=>by
  rcases s.tg _ _ _ h1 with rfl|rfl|rfl
  ·obtain⟨h4,h5⟩:=(s.fi _ _).1 h1;exact .inl ⟨rfl,.inl ⟨by omega,h5⟩⟩
  ·obtain⟨a,ha,he⟩:=List.mem_iff_getElem.1 ((hL p k).1 h1);exact .inr ⟨rfl,a,ha,ha,by rw[List.getD_eq_getElem?_getD,List.getElem?_eq_getElem ha];exact he⟩
  ·exact absurd h1 (hN p k)
 intro i hi;unfold unP
 cases hP:x.P i with
 | some q=>
  have h1:=(s.vs i q hP).1;have h2:=h 2 i 0 (hD _ _ _ h1) i (Nat.le_refl _) (by rw[Nat.pow_zero];omega);rw[h2,if_pos rfl];rfl
 | none=>
  obtain⟨g,p,k,h1,h2,h3⟩:=s.cv i hi;have h9:g≠9:=fun e=>hN p k (e▸h1)
  have h4:=s.pg g p k h1 h9 i h2 h3;rw[hP] at h4;simp only[Option.isSome_none,Bool.false_eq_true,if_false];rw[h4];exact h g p k (hD _ _ _ h1) i h2 h3
theorem zmp{x:Bx}{t:Bt}{fr:Nat→List Nat}{ls:List (Nat×Nat)}(s:Sf x t fr ls)(ho:x.o≤8)(fa:Option Addr)(fc:Nat)(va:Option Addr)(vc:Nat)(hn:ls.length≤1000)(w:World)(h:FL w fa fc x.o fr)(hr:RN w (.slice va ls.length vc) ls):
  Calls Tryz.prog 124 #[r5V (x.o:Int) (t.m.n:Int) (.slice fa (x.o+1) fc) (.slice va ls.length vc)] w fun e w'=>∃ g,e=.returned (.slice (some ⟨g,0,none⟩) t.m.n t.m.n)∧Row w' g t.m.n (unP x t)∧Kt nO w w'∧w.heap.size≤g:=by
 obtain⟨n,hn'⟩:=xe (ls.length);obtain⟨P,hP⟩:=xe (t.m.n);have hP2:P≤1024:=by rw[hP];exact s.sn.n.1
 have K0:=hid ((Kt.refl nO w).alloc (r5O (x.o:Int) (P:Int) (.slice fa (x.o+1) fc) (.slice va n vc)));have X0:=hid (nH w (r5O (x.o:Int) (P:Int) (.slice fa (x.o+1) fc) (.slice va n vc)));have S0:=hid (show(w.alloc (r5O (x.o:Int) (P:Int) (.slice fa (x.o+1) fc) (.slice va n vc))).heap.size=w.heap.size+1 by simp);have HS:=hid s;have HF:=hid h;have HR:=hid hr;rw[←hP,←hn'];rw[←hn'] at hn;have HN:=hid hn';have HP:=hid hP;obtain⟨w5,hmk,hI5,hk5,hs5⟩:=zbs P hP2 (w.alloc (r5O (x.o:Int) (P:Int) (.slice fa (x.o+1) fc) (.slice va n vc)));have R5:=hid hI5;have K5:=hid (nT K0.out hk5);have X5:=hid ((hk5.block _ (lH X0.out) (fun e=>e)).trans X0.out);rw[S0.out] at R5;clear s h hr hn' hP hI5 hk5 hs5;obtain⟨x0,x1,x2,x3,fx⟩:=r5c X0.out;go_enter Tryz.func124,Tryz.ntmps124;go_wp2_with fail;generalize hI:w.heap.size+1=I at *;have HI:=hid hI;clear x0 x1 x2 x3 fx hmk hI S0 K0 X0
 have ST:=hid (show ∀ W W':World,Kt nO w W→Kt (fun y=>y=I) W W'→Kt nO w W' from fun W W' h1 h2=>h1.trans h2 (fun _ _ e=>e) (fun y hy e=>by have e:y=I:=e;have:=HI.out;omega));go_loopw [4] (fun i W=>∃ k:Nat,k≤x.o+1∧i=.int .i64 k∧Hid (Kt nO w W∧W.heap[w.heap.size]?=some (r5O (x.o:Int) (P:Int) (.slice fa (x.o+1) fc) (.slice va n vc))∧∃ pg,Row W I P pg∧zaH pg (PD fr ls k 0 0))) (fun i _=>x.o+1-(intOf i).toNat)
 case atStart=>exact⟨0,by omega,rfl,hid ⟨K5.out,X5.out,_,R5.out,fun g p k hd=>by
  rcases hd with ⟨_,⟨h1,_⟩|⟨_,j,h1,_⟩⟩|⟨_,a,h1,_⟩ <;> omega⟩⟩
 case round=>
  clear K5 X5 R5;obtain⟨k,hk,rfl,hR⟩:=hrel;obtain⟨hK,hX,pg,hrow,hpt⟩:=hR.out;have KW:=hid hK;have XW:=hid hX;have RW:=hid hrow;have PT:=hid hpt;obtain⟨x0,x1,x2,x3,fx⟩:=r5c hX;clear hR hK hX hrow hpt;by_cases hlt:k≤x.o
  ·have hki:(k:Int)≤(x.o:Int):=(by omega);obtain⟨L,hL⟩:=xe ((fr k).length);have hL2:L≤1024:=(by rw[hL];exact HS.out.len hlt);have HL:=hid hL;have hki2:(k:Int)<((x.o+1:Nat):Int):=(by omega);have hki3:(k:Int)<(x.o:Int)+1:=(by omega);obtain⟨g0,_,_,hfa,_,_⟩:=HF.out.get k hlt;subst hfa;clear hL;go_wp2_with fail;clear x0 x1 x2 x3 fx;go_loopw [5] (fun i W=>∃ j:Nat,j≤L∧i=.int .i64 j∧Hid (Kt nO w W∧W.heap[w.heap.size]?=some (r5O (x.o:Int) (P:Int) (.slice (some ⟨g0,0,none⟩) (x.o+1) fc) (.slice va n vc))∧∃ pg,Row W I P pg∧zaH pg (PD fr ls k j 0))) (fun i _=>L-(intOf i).toNat)
   case atStart=>exact⟨0,by omega,rfl,hid ⟨KW.out,XW.out,pg,RW.out,PT.out⟩⟩
   case round=>
    clear KW XW RW PT;obtain⟨j,hj,rfl,hR⟩:=hrel;obtain⟨hK,hX,pg,hrow,hpt⟩:=hR.out;have KW:=hid hK;have XW:=hid hX;have RW:=hid hrow;have PT:=hid hpt;obtain⟨x0,x1,x2,x3,fx⟩:=r5c hX;obtain⟨g1,A,C,hfa,r0,hN⟩:=(HF.out.keep hK).get k hlt;injection hfa with hfa
    injection hfa with hfa
    subst hfa;rw[←HL.out] at r0;clear hR hK hX hrow hpt;by_cases hjL:j<L
    ·have hji:(j:Int)<(L:Int):=(by omega);have hjl:j<(fr k).length:=(by rw[←HL.out];exact hjL);obtain⟨g2,hA,r2⟩:=hN.get hjl;subst hA;have hm:=M.getD_mem hjl;have hal:=HS.out.lt hlt hm;have PT2:=hid (show zaH (za8 pg ((fr k).getD j 0) k (2 ^ k) ((0:Nat):Int)) (PD fr ls k (j+1) 0)from by
      obtain⟨B,s,hN',hL'⟩:=HS.out;refine PT.out.step (g:=0) (fun g' p' k' hd=>?_) (fun a b c hd=>PD.fr_succ hjl hd);have hb:=PD.B s hL' (by omega) (by omega) hd;rcases s.ds _ _ _ _ _ _ hb ((s.fi _ _).2 ⟨hlt,hm⟩)with e|e|e
      ·exact .inl e
      ·exact .inr (.inl e)
      ·exact .inr (.inr e))
     rw[Int.natCast_zero] at PT2;have PA:=hid (zkR I P pg ((fr k).getD j 0) k 0 (.inl rfl) (by omega) hP2 (by rw[HP.out];exact hal) wr RW.out);clear hm hal hjl hN;generalize (fr k).getD j 0=p at *;go_wp2_with fail;refine PA.out.mono ?_;rintro e w2 ⟨hrow2,hk2,v2,rfl⟩;have X2:=(hk2.block _ (lH XW.out) (by have:=HI.out;omega)).trans XW.out;have D:=hid (show Kt nO w w2∧w2.heap[w.heap.size]?=some (r5O (x.o:Int) (P:Int) (.slice (some ⟨g0,0,none⟩) (x.o+1) fc) (.slice va n vc))∧∃ pg,Row w2 I P pg∧zaH pg (PD fr ls k (j+1) 0)from⟨ST.out _ _ KW.out hk2,X2,_,hrow2,PT2.out⟩);clear hrow2 hk2 X2 PA x0 x1 x2 x3 fx r0 r2;go_wp2_with fail;exact⟨⟨j+1,by omega,by simp,D⟩,by simp[intOf];omega⟩
    ·obtain rfl:j=L:=(by omega);have hji:¬(j:Int)<(j:Int):=(by omega);have PT2:=hid (show zaH pg (PD fr ls (k+1) 0 0)from fun g p q hd=>PT.out g p q (by rw[HL.out];exact PD.next hd));clear hN;go_wp2_with fail;exact⟨⟨k+1,by omega,by simp,hid ⟨KW.out,XW.out,pg,RW.out,PT2.out⟩⟩,by simp[intOf];omega⟩
  ·obtain rfl:k=x.o+1:=(by omega);have hki:¬((x.o+1:Nat):Int)≤(x.o:Int):=(by omega);have hki2:¬(x.o:Int)+1≤(x.o:Int):=(by omega);go_wp2_with fail;clear x0 x1 x2 x3 fx hki hki2;go_loopw [6] (fun i W=>∃ j:Nat,j≤n∧i=.int .i64 j∧Hid (Kt nO w W∧W.heap[w.heap.size]?=some (r5O (x.o:Int) (P:Int) (.slice fa (x.o+1) fc) (.slice va n vc))∧∃ pg,Row W I P pg∧zaH pg (PD fr ls (x.o+1) 0 j))) (fun i _=>n-(intOf i).toNat)
   case atStart=>exact⟨0,by omega,rfl,hid ⟨KW.out,XW.out,pg,RW.out,PT.out⟩⟩
   case round=>
    clear KW XW RW PT;obtain⟨j,hj,rfl,hR⟩:=hrel;obtain⟨hK,hX,pg,hrow,hpt⟩:=hR.out;have KW:=hid hK;have XW:=hid hX;have RW:=hid hrow;have PT:=hid hpt;obtain⟨x0,x1,x2,x3,fx⟩:=r5c hX;clear hR hX hrow hpt;by_cases hjn:j<n
    ·have hji:(j:Int)<(n:Int):=(by omega);have hjl:j<ls.length:=(by rw[←HN.out];exact hjn);obtain⟨g2,hA,r1,r2⟩:=(HR.out.keep hK).get hjl;subst hA;have hm:=zez hjl;generalize hq:ls.getD j (0,0)=q at *;obtain⟨qp,qk⟩:=q;have HQ:=hid hq;obtain⟨a1,a2,a3⟩:=HS.out.sn.al hm;have PT2:=hid (show zaH (za8 pg qp qk (2 ^ qk) ((2:Nat):Int)) (PD fr ls (x.o+1) 0 (j+1))from by
      obtain⟨B,s,hN',hL'⟩:=HS.out;refine PT.out.step (g:=2) (fun g' p' k' hd=>?_) (fun a b c hd=>by have h2:=PD.ls_succ hd;rw[hq] at h2;exact h2);have hb:=PD.B s hL' (Nat.le_refl _) (fun _=>rfl) hd;rcases s.ds _ _ _ _ _ _ hb ((hL' _ _).2 hm)with e|e|e
      ·exact .inl e
      ·exact .inr (.inl e)
      ·exact .inr (.inr e))
     rw[show((2:Nat):Int)=2 from rfl] at PT2;have kd:=(Kt.refl nO wr).drew;have PA:=hid (zkR I P pg qp qk 2 (.inr rfl) (Nat.le_trans a1 ho) hP2 (by rw[HP.out];exact a3) wr.drew (RW.out.kept kd (fun e=>e)));have KD:=hid kd;have d3:=kd.cell (fun e=>e) x3;have d1:=kd.cell (fun e=>e) r1;have d2:=kd.cell (fun e=>e) r2;clear hm a1 a2 a3 hjl hK hq kd;go_wp2_with fail;go_region_held3 (fun w'=>w'.cell? ⟨w.heap.size,3,none⟩=some (.slice (some ⟨g2,0,none⟩) n vc)∧w'.cell? ⟨g2,j*2,none⟩=some (.int .i64 (qp:Int))∧w'.cell? ⟨g2,j*2+1,none⟩=some (.int .i64 (qk:Int))) ((refine⟨?_,?_,?_⟩ <;> first|with_reducible assumption)) (first
      | (go_at_call 157;refine PA.out.mono ?_;rintro e w2 ⟨hrow2,hk2,v2,rfl⟩;have K2:=hid (ST.out _ _ (nT KW.out KD.out) hk2);have X2:=hid ((hk2.block _ (by have:=KD.out.size;exact Nat.lt_of_lt_of_le (lH XW.out) this) (by have:=HI.out;omega)).trans ((KD.out.block _ (lH XW.out) (fun e=>e)).trans XW.out));have Rw2:=hid hrow2;obtain⟨_,_,_,y3,_⟩:=r5c X2.out;obtain⟨g3,hg3,y1,y2⟩:=(HR.out.keep K2.out).get (show j<ls.length by rw[←HN.out];exact hjn);injection hg3 with hg3;injection hg3 with hg3;subst hg3;rw[HQ.out] at y1 y2;clear hrow2 hk2)
      | fail)
     all_goals
      have D:=hid (show Kt nO w w2∧w2.heap[w.heap.size]?=some (r5O (x.o:Int) (P:Int) (.slice fa (x.o+1) fc) (.slice (some ⟨g2,0,none⟩) n vc))∧∃ pg,Row w2 I P pg∧zaH pg (PD fr ls (x.o+1) 0 (j+1))from⟨K2.out,X2.out,_,Rw2.out,PT2.out⟩);clear PA x0 x1 x2 x3 fx r1 r2 y1 y2 y3 d1 d2 d3;go_wp2_with fail;exact⟨⟨j+1,by omega,by simp,D⟩,by simp[intOf];omega⟩
    ·obtain rfl:j=n:=(by omega);have hji:¬(j:Int)<(j:Int):=(by omega);have D:=hid (show Row wr I P (unP x t)∧Kt nO w wr∧w.heap.size≤I from⟨RW.out.congr fun i hi=>by
      refine zaH.all HS.out ?_ i (by rw[←HP.out];exact hi);rw[←HN.out];exact PT.out,KW.out,by have:=HI.out;omega⟩)
     clear hK;go_wp2_with fail;go_ret;exact⟨I,rfl,D.out⟩
theorem zbM(zs ys:List Nat)(hl:zs.length=ys.length)(h:∀ i,i<zs.length→zs.getD i 0=ys.getD i 0):zs=ys:=by
 apply List.ext_getElem hl
 intro i h1 h2;have:=h i h1;simpa [List.getD,h1,h2] using this
def zaO(ws:List Nat)(m k:Nat):List Nat:=(List.range m).map fun q=>ws.getD q 0%2 ^ (k-64*q)
theorem zas(ws:List Nat)(m k:Nat):(zaO ws m k).length=m:=by simp[zaO]
theorem zaZ(ws:List Nat)(m k q:Nat)(h:q<m):(zaO ws m k).getD q 0=ws.getD q 0%2 ^ (k-64*q):=by simp[zaO,List.getD,h]
theorem zhl(ws:List Nat)(m:Nat):zaO ws m 0=zaN m:=by
 simp only[zaO,zaN];apply List.ext_getElem
 ·simp
 ·intro i h1 h2;simp[Nat.mod_one]
theorem zgI(ws:List Nat)(m k:Nat)(hz:∀ i,ws.getD i 0<2 ^ 64)(i:Nat):(zaO ws m k).getD i 0<2 ^ 64:=by
 by_cases h:i<m
 ·rw[zaZ _ _ _ _ h];exact Nat.lt_of_le_of_lt (Nat.mod_le _ _) (hz i)
 ·have:(zaO ws m k).getD i 0=0:=by simp[List.getD,zas,Nat.not_lt.1 h]
  rw[this];decide
theorem zhm(ws:List Nat)(n:Nat)(hl:ws.length=(n+63)/64)(ok:∀ i,i<ws.length→ws.getD i 0<2 ^ (min 64 (n-64*i))):zaO ws ((n+63)/64) n=ws:=by
 apply zbM
 ·rw[zas,hl]
 ·intro i hi;rw[zas] at hi;rw[zaZ _ _ _ _ hi];apply Nat.mod_eq_of_lt
  exact Nat.lt_of_lt_of_le (ok i (by omega)) ((zgi _ _).2 (Nat.min_le_right _ _))
theorem zdy(ws:List Nat)(k q:Nat)(hz:∀ i,ws.getD i 0<2 ^ 64)(h:q≠k/64):ws.getD q 0%2 ^ (k+1-64*q)=ws.getD q 0%2 ^ (k-64*q):=by
 by_cases h1:q<k/64
 ·rw[Nat.mod_eq_of_lt (Nat.lt_of_lt_of_le (hz q) ((zgi _ _).2 (by omega))),Nat.mod_eq_of_lt (Nat.lt_of_lt_of_le (hz q) ((zgi _ _).2 (by omega)))]
 ·have e1:k+1-64*q=0:=by omega
  have e2:k-64*q=0:=by omega
  rw[e1,e2]
theorem zdV(ws:List Nat)(k:Nat):ws.getD (k/64) 0%2 ^ (k+1-64*(k/64))=ws.getD (k/64) 0%2 ^ (k-64*(k/64))+(if bit ws k=true then 2 ^ (k%64) else 0):=by
 have e1:k+1-64*(k/64)=k%64+1:=by omega
 have e2:k-64*(k/64)=k%64:=by omega
 rw[e1,e2,Nat.mod_pow_succ];unfold bit;by_cases h:ws.getD (k/64) 0/2 ^ (k%64)%2=1
 ·rw[h];simp
 ·have h0:ws.getD (k/64) 0/2 ^ (k%64)%2=0:=by omega
  rw[h0];simp
theorem zkE(ws:List Nat)(m k:Nat)(hz:∀ i,ws.getD i 0<2 ^ 64)(h:bit ws k=false):zaO ws m (k+1)=zaO ws m k:=by
 apply zbM
 ·rw[zas,zas]
 ·intro i hi;rw[zas] at hi;rw[zaZ _ _ _ _ hi,zaZ _ _ _ _ hi];by_cases e:i=k/64
  ·subst e;rw[zdV,h];simp
  ·exact zdy ws k i hz e
theorem zjo(ws:List Nat)(m k:Nat)(hz:∀ i,ws.getD i 0<2 ^ 64)(hm:k/64<m)(h:bit ws k=true):zaO ws m (k+1)=(zaO ws m k).set (k/64) ((zaO ws m k).getD (k/64) 0+2 ^ (k%64)):=by
 apply zbM
 ·rw[List.length_set,zas,zas]
 ·intro i hi;rw[zas] at hi;rw[zaZ _ _ _ _ hi];by_cases e:i=k/64
  ·subst e;rw[zaB _ _ _ (by rw[zas];exact hm),zdV,h,zaZ _ _ _ _ hi];simp
  ·rw[zbd _ _ _ _ e,zaZ _ _ _ _ hi];exact zdy ws k i hz e
theorem zfE{w:World}{g:Nat}{zs:List Nat}(hg:w.heap[g]?=some (.cells (wcs zs) 24 (0,0)))(q y:Nat):(w.setCell ⟨g,q,none⟩ (.int .u64 (y:Int))).heap[g]?=some (.cells (wcs (zs.set q y)) 24 (0,0)):=by
 simp only[World.setCell];rw[Array.getElem?_modify,if_pos rfl,hg];simp[wcs,List.map_set]
theorem zjp{w:World}{g:Nat}{zs:List Nat}(hg:w.heap[g]?=some (.cells (wcs zs) 24 (0,0)))(i:Nat):w.frozen? ⟨g,i,none⟩=false:=by simp[World.frozen?,hg]
theorem zla(x j:Nat)(h:x<2 ^ j):x ||| 2 ^ j=x+2 ^ j:=by
 have:=Nat.two_pow_add_eq_or_of_lt h 1;rw[Nat.mul_one] at this;rw[Nat.or_comm,←this,Nat.add_comm]
theorem zkF(ws:List Nat)(m k:Nat)(hz:∀ i,ws.getD i 0<2 ^ 64)(hm:k/64<m)(h:bit ws k=true):(zaO ws m k).getD (k/64) 0 ||| 2 ^ (k%64)=(zaO ws m k).getD (k/64) 0+2 ^ (k%64):=by
 refine zla _ _ ?_;rw[zaZ _ _ _ _ hm,show k-64*(k/64)=k%64 by omega];exact Nat.mod_lt _ (Nat.pow_pos (by decide))
abbrev pqO(q:Pg):Obj:=.cells #[.int .i64 q.kd,.int .i64 q.od,.int .i64 q.cl,.int .i64 q.lv,.int .i64 q.nx,.int .i64 q.pv,.int .i64 q.fs,.int .u64 (q.b0:Int),.int .u64 (q.b1:Int),.int .u64 (q.b2:Int),.int .u64 (q.b3:Int)] 49
theorem pqc{W:World}{y:Nat}{q:Pg}(h:W.heap[y]?=some (pqO q)):W.cell? ⟨y,0,none⟩=some (.int .i64 q.kd)∧W.cell? ⟨y,1,none⟩=some (.int .i64 q.od)∧W.cell? ⟨y,2,none⟩=some (.int .i64 q.cl)∧W.cell? ⟨y,3,none⟩=some (.int .i64 q.lv)∧W.cell? ⟨y,4,none⟩=some (.int .i64 q.nx)∧W.cell? ⟨y,5,none⟩=some (.int .i64 q.pv)∧W.cell? ⟨y,6,none⟩=some (.int .i64 q.fs)∧W.cell? ⟨y,7,none⟩=some (.int .u64 (q.b0:Int))∧W.cell? ⟨y,8,none⟩=some (.int .u64 (q.b1:Int))∧W.cell? ⟨y,9,none⟩=some (.int .u64 (q.b2:Int))∧W.cell? ⟨y,10,none⟩=some (.int .u64 (q.b3:Int))∧∀ j,W.frozen? ⟨y,j,none⟩=false:=by
 refine⟨?_,?_,?_,?_,?_,?_,?_,?_,?_,?_,?_,fun j=>?_⟩ <;> simp[World.cell?,World.frozen?,h]
theorem zno{W:World}{y:Nat}{q:Pg}(h:W.heap[y]?=some (pqO q))(v:Int):(W.setCell ⟨y,6,none⟩ (.int .i64 v)).heap[y]?=some (pqO { q with fs:=v }):=hS9 h 6 _
theorem zmI{W:World}{y:Nat}{q:Pg}(h:W.heap[y]?=some (pqO q))(v:Int):(W.setCell ⟨y,5,none⟩ (.int .i64 v)).heap[y]?=some (pqO { q with pv:=v }):=hS9 h 5 _
theorem zkk{W:World}{y:Nat}{q:Pg}(h:W.heap[y]?=some (pqO q))(v:Int):(W.setCell ⟨y,4,none⟩ (.int .i64 v)).heap[y]?=some (pqO { q with nx:=v }):=hS9 h 4 _
def setW(q:Pg):Nat→Nat→Pg
 | 0,v=>{ q with b0:=v }
 | 1,v=>{ q with b1:=v }
 | 2,v=>{ q with b2:=v }
 | _,v=>{ q with b3:=v }
theorem pq_w{W:World}{y:Nat}{q:Pg}(h:W.heap[y]?=some (pqO q))(j:Nat)(hj:j<4):W.cell? ⟨y,7+j,none⟩=some (.int .u64 ((wP q j:Nat):Int)):=by
 obtain⟨_,_,_,_,_,_,_,h7,h8,h9,h10,_⟩:=pqc h;rcases (show j=0∨j=1∨j=2∨j=3 by omega)with rfl|rfl|rfl|rfl
 ·exact h7
 ·exact h8
 ·exact h9
 ·exact h10
theorem zk1{W:World}{y:Nat}{q:Pg}(h:W.heap[y]?=some (pqO q))(j v:Nat)(hj:j<4):(W.setCell ⟨y,7+j,none⟩ (.int .u64 (v:Int))).heap[y]?=some (pqO (setW q j v)):=by
 rcases (show j=0∨j=1∨j=2∨j=3 by omega)with rfl|rfl|rfl|rfl
 ·exact hS9 h 7 _
 ·exact hS9 h 8 _
 ·exact hS9 h 9 _
 ·exact hS9 h 10 _
def midP(q:Pg)(c:Nat):Pg:={ q with b0:=q.b0%2 ^ c,b1:=q.b1%2 ^ (c-64),b2:=q.b2%2 ^ (c-128),b3:=q.b3%2 ^ (c-192) }
theorem ziH(q:Pg):midP q 0={ q with b0:=0,b1:=0,b2:=0,b3:=0 }:=by
 unfold midP;simp[Nat.mod_one]
theorem zgq(x m:Nat):x%2 ^ (m+1)=x%2 ^ m+(if x.testBit m=true then 2 ^ m else 0):=by
 have h1:=Nat.mod_mul (a:=2 ^ m) (b:=2) (x:=x);rw[←Nat.pow_succ] at h1;rw[h1,←zi6];by_cases e:x/2 ^ m%2=1
 ·rw[e,Nat.mul_one];simp
 ·have e0:x/2 ^ m%2=0:=by omega
  rw[e0,Nat.mul_zero];simp
theorem zlM{x a b:Nat}(h:x<18446744073709551616)(ha : 64≤a)(hb : 64≤b):x%2 ^ a=x%2 ^ b:=by
 have h1:∀ e,64≤e→x%2 ^ e=x:=fun e he=>Nat.mod_eq_of_lt (Nat.lt_of_lt_of_le h (Nat.pow_le_pow_right (n:=2) (by decide) he))
 rw[h1 a ha,h1 b hb]
theorem zcj(q:Pg)(c j:Nat)(hj:j<4):wP (midP q c) j=wP q j%2 ^ (c-64*j):=by
 rcases (show j=0∨j=1∨j=2∨j=3 by omega)with rfl|rfl|rfl|rfl <;> rfl
theorem zem(q:Pg)(c:Nat):litP q c=(wP q (c/64)).testBit (c%64):=zi6 _ _
theorem zlN(q:Pg)(c:Nat)(hc:c<256)(h:litP q c=true):wP (midP q c) (c/64) ||| 2 ^ (c%64)=wP (midP q (c+1)) (c/64):=by
 have hj:c/64<4:=by omega
 rw[zem] at h;rw[zcj _ _ _ hj,zcj _ _ _ hj];have e1:c-64*(c/64)=c%64:=by omega
 have e2:c+1-64*(c/64)=c%64+1:=by omega
 rw[e1,e2,zgq,if_pos h];exact zla _ _ (Nat.mod_lt _ (Nat.two_pow_pos _))
theorem zeY{p q:Pg}(h:∀ j,j<4→wP p j=wP q j)(h1:p.kd=q.kd)(h2:p.od=q.od)(h3:p.cl=q.cl)(h4:p.lv=q.lv)(h5:p.nx=q.nx)(h6:p.pv=q.pv)(h7:p.fs=q.fs):p=q:=by
 have a0:=h 0 (by decide);have a1:=h 1 (by decide);have a2:=h 2 (by decide);have a3:=h 3 (by decide)
 cases p
 cases q
 simp only[wP] at a0 a1 a2 a3;simp only at h1 h2 h3 h4 h5 h6 h7
 simp only[Pg.mk.injEq];exact⟨h1,h2,h3,h4,h5,h6,h7,a0,a1,a2,a3⟩
theorem zmJ(q:Pg)(j v i:Nat)(hj:j<4)(hi:i<4):wP (setW q j v) i=if i=j then v else wP q i:=by
 rcases (show j=0∨j=1∨j=2∨j=3 by omega)with rfl|rfl|rfl|rfl <;> rcases (show i=0∨i=1∨i=2∨i=3 by omega)with rfl|rfl|rfl|rfl <;> simp[setW,wP]
theorem zlO(q:Pg)(j v:Nat):(setW q j v).kd=q.kd∧(setW q j v).od=q.od∧(setW q j v).cl=q.cl∧(setW q j v).lv=q.lv∧(setW q j v).nx=q.nx∧(setW q j v).pv=q.pv∧(setW q j v).fs=q.fs:=by
 match j with
 | 0=>exact⟨rfl,rfl,rfl,rfl,rfl,rfl,rfl⟩
 | 1=>exact⟨rfl,rfl,rfl,rfl,rfl,rfl,rfl⟩
 | 2=>exact⟨rfl,rfl,rfl,rfl,rfl,rfl,rfl⟩
 | _+3=>exact⟨rfl,rfl,rfl,rfl,rfl,rfl,rfl⟩
theorem pk_b{q:Pg}(h:PgOk q)(j:Nat):wP q j<18446744073709551616:=by
 match j with
 | 0=>exact h.b0
 | 1=>exact h.b1
 | 2=>exact h.b2
 | _+3=>exact h.b3
theorem zeZ{q:Pg}(h:PgOk q)(c j:Nat)(hj:j<4)(hne:j≠c/64):wP (midP q (c+1)) j=wP (midP q c) j:=by
 rw[zcj _ _ _ hj,zcj _ _ _ hj];by_cases e:j<c/64
 ·exact zlM (pk_b h j) (by omega) (by omega)
 ·rw[show c+1-64*j=0 by omega,show c-64*j=0 by omega]
theorem ziI{q:Pg}(h:PgOk q)(c:Nat)(hc:c<256)(hl:litP q c=true):setW (midP q c) (c/64) (wP (midP q c) (c/64) ||| 2 ^ (c%64))=midP q (c+1):=by
 have hj:c/64<4:=by omega
 obtain⟨f1,f2,f3,f4,f5,f6,f7⟩:=zlO (midP q c) (c/64) (wP (midP q c) (c/64) ||| 2 ^ (c%64));refine zeY (fun i hi=>?_) f1 f2 f3 f4 f5 f6 f7;rw[zmJ _ _ _ _ hj hi];by_cases e:i=c/64
 ·rw[if_pos e,e];exact zlN q c hc hl
 ·rw[if_neg e];exact(zeZ h c i hi e).symm
theorem zk2{q:Pg}(h:PgOk q)(c:Nat)(hc:c<256)(hl:litP q c=false):midP q (c+1)=midP q c:=by
 refine zeY (fun i hi=>?_) rfl rfl rfl rfl rfl rfl rfl;by_cases e:i=c/64
 ·subst e;rw[zem] at hl;rw[zcj _ _ _ hi,zcj _ _ _ hi,show c+1-64*(c/64)=c%64+1 by omega,show c-64*(c/64)=c%64 by omega,zgq,if_neg (by rw[hl];decide),Nat.add_zero]
 ·exact zeZ h c i hi e
theorem zlP{q:Pg}(h:PgOk q)(n:Nat)(hl:∀ i,n≤i→i<256→litP q i=false):midP q n=q:=by
 refine zeY (fun j hj=>?_) rfl rfl rfl rfl rfl rfl rfl;rw[zcj _ _ _ hj];refine Nat.mod_eq_of_lt (Nat.lt_pow_two_of_testBit _ fun i hi=>?_);by_cases e:i<64
 ·have h1:=hl (64*j+i) (by omega) (by omega);rw[zem,show(64*j+i)/64=j by omega,show(64*j+i)%64=i by omega] at h1;exact h1
 ·exact Nat.testBit_lt_two_pow (Nat.lt_of_lt_of_le (show wP q j<2 ^ 64 from pk_b h j) (Nat.pow_le_pow_right (n:=2) (by decide) (by omega)))
theorem zgr(a:Nat)(l:List Nat)(j:Nat):(a :: l).getD (j+1) 0=l.getD j 0:=rfl
theorem zgs(l:List Nat):hdI l=if 0<l.length then ((l.getD 0 0:Nat):Int) else -1:=by
 cases l with
 | nil=>rfl
 | cons a t=>simp[hdI]
theorem zk3:∀ (l:List Nat) (j:Nat),l.Nodup→j<l.length→nxI l (l.getD j 0)=if j+1<l.length then ((l.getD (j+1) 0:Nat):Int) else -1
 | [],j,_,h=>absurd h (Nat.not_lt_zero _)
 | a :: t,0,hd,_=>by
  rw[show(a :: t).getD 0 0=a from rfl,zgr,nxI,if_pos rfl,zgs];simp
 | a :: t,j+1,hd,h=>by
  have hj:j<t.length:=by simpa using h
  have hn:=List.nodup_cons.1 hd;rw[zgr,zgr,nxI,if_neg (fun e=>hn.1 (by rw[e];exact getD_mem t hj)),zk3 t j hn.2 hj];simp
theorem za2{l:List Nat}(hd:l.Nodup){i j:Nat}(hi:i<l.length)(hj:j<l.length)(e:l.getD i 0=l.getD j 0):i=j:=by
 rw[List.getD_eq_getElem?_getD,List.getD_eq_getElem?_getD,List.getElem?_eq_getElem hi,List.getElem?_eq_getElem hj] at e;exact(List.getElem_inj hd).1 e
theorem zk4:∀ (l:List Nat) (j:Nat),l.Nodup→j<l.length→pvI l (l.getD j 0)=if 0<j then ((l.getD (j-1) 0:Nat):Int) else -1
 | [],j,_,h=>absurd h (Nat.not_lt_zero _)
 | a :: t,0,hd,_=>by
  rw[show(a :: t).getD 0 0=a from rfl,zbN hd];rfl
 | a :: t,j+1,hd,h=>by
  have hj:j<t.length:=by simpa using h
  have hn:=List.nodup_cons.1 hd;rw[zgr,pvI,if_pos (Nat.succ_pos j),Nat.add_sub_cancel]
  cases j with
  | zero=>rw[if_pos (by rw[zgs,if_pos hj])];rfl
  | succ j=>
   have h0 : 0<t.length:=(by omega);rw[if_neg (fun e=>?_),zk4 t (j+1) hn.2 hj,if_pos (Nat.succ_pos j),Nat.add_sub_cancel]
   ·rfl
   ·rw[zgs,if_pos h0] at e;have:=za2 hn.2 h0 hj (Int.ofNat.inj e);omega
def nxJ(l:List Nat)(p j:Nat):Int:=if p∈l.take j then nxI l p else -1
def pvJ(l:List Nat)(p j:Nat):Int:=if p∈l.take j then pvI l p else -1
theorem ziJ{l:List Nat}{j:Nat}(hj:j<l.length)(p:Nat):p∈l.take (j+1)↔p∈l.take j∨p=l.getD j 0:=by
 rw[zgH l hj,List.mem_append,List.mem_singleton]
theorem zkl{l:List Nat}(hd:l.Nodup){j:Nat}(hj:j<l.length):l.getD j 0 ∉ l.take j:=fun e=>by
 obtain⟨i,hi,he⟩:=List.mem_iff_getElem.1 e;have hi2:i<j:=by rw[List.length_take] at hi;omega
 rw[List.getElem_take] at he;have:l.getD i 0=l.getD j 0:=by rw[←he,List.getD_eq_getElem?_getD,List.getElem?_eq_getElem (by omega)];rfl
 have:=za2 hd (by omega) hj this;omega
theorem zgt{l:List Nat}{j p:Nat}(hj:j<l.length)(h:l.getD j 0≠p):nxJ l p (j+1)=nxJ l p j∧pvJ l p (j+1)=pvJ l p j:=by
 have e:p∈l.take (j+1)↔p∈l.take j:=by
  rw[ziJ hj];exact⟨fun h1=>h1.elim id (fun e=>absurd e.symm h),.inl⟩
 unfold nxJ pvJ;simp only[e,and_self]
theorem zgu{l:List Nat}(hd:l.Nodup){j p:Nat}(hj:j<l.length)(h:l.getD j 0=p):nxJ l p j = -1∧pvJ l p j = -1∧nxJ l p (j+1)=(if j+1<l.length then ((l.getD (j+1) 0:Nat):Int) else -1)∧pvJ l p (j+1)=if 0<j then ((l.getD (j-1) 0:Nat):Int) else -1:=by
 subst h;have h1:=zkl hd hj;have h2:l.getD j 0∈l.take (j+1):=(ziJ hj _).2 (.inr rfl);unfold nxJ pvJ;rw[if_neg h1,if_neg h1,if_pos h2,if_pos h2];exact⟨rfl,rfl,zk3 l j hd hj,zk4 l j hd hj⟩
theorem ze0(l:List Nat)(p:Nat):nxJ l p l.length=nxI l p∧pvJ l p l.length=pvI l p:=by
 unfold nxJ pvJ;rw[List.take_length];by_cases h:p∈l
 ·rw[if_pos h,if_pos h];exact⟨rfl,rfl⟩
 ·rw[if_neg h,if_neg h,zfb h,zdY h];exact⟨rfl,rfl⟩
theorem zbT(l:List Nat)(p:Nat):nxJ l p 0 = -1∧pvJ l p 0 = -1:=by
 unfold nxJ pvJ;simp
end Go.Proofs.YtgjdmkfpmokkaaaGreatDoor
