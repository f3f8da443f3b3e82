import Derived.Test.YtkfmheelhinjdaaGreatDoorXp
import Derived.Test.YtkfmheelhinjdaaGreatDoorWd
set_option maxRecDepth 1000000
set_option maxHeartbeats 80000000
namespace Go.Proofs.YtkfmheelhinjdaaGreatDoor
open _root_.Go.Proofs.Tryz
open Go.RowKit
set_option linter.unusedVariables false
theorem Pol.from8{w w1 W lw x t}(k:Kt nO w w1)(h:Pol w1 W lw x t):Pol w W lw x t:=⟨h.box,h.bd,fun y hy=>Nat.le_trans k.size (h.nw y hy),nT k h.kp⟩
theorem PO.from8{w w1 W lw x t fr ls}(k:Kt nO w w1)(h:PO w1 W lw x t fr ls):PO w W lw x t fr ls:=⟨h.pl.from8 k,h.sf,h.st,h.bm⟩
theorem lF{w:World}{y b:Nat}{l o:Int}(h:w.heap[y]?=some (dK b l o)):w.cell? ⟨y,0,none⟩=some (.int .u64 b)/\w.cell? ⟨y,1,none⟩=some (.int .i64 l)/\w.cell? ⟨y,2,none⟩=some (.int .i64 o):=by
 refine⟨?_,?_,?_⟩ <;> simp[World.cell?,h]
theorem tF{w:World}{A:Obj}{a:Addr}{v:Value}(h:w.cell? a=some v):(w.alloc A).cell? a=some v:=((Kt.refl nO w).alloc A).cell id h
abbrev CO(o:Nat):Bt:=⟨fun _=>0,bX o,fun _=>0⟩
abbrev qA:Sb:=⟨fun _=>none,fun _=>[],fun _=>[]⟩
def GI(w:World)(bS lim o:Nat)(e:Ending)(w':World):Prop:=∃ hb sb lw x,e=.returned (.tuple #[.pointer (some ⟨hb,0,none⟩),.int .i64 0])/\HW w w' hb sb lw x (CO o) (fun _=>[]) [] qA 0/\x.bS=bS/\x.R=4096*2 ^ o/\x.lim=lim/\x.n=0/\x.o=o
theorem IE(bS:Nat)(hb64:bS<18446744073709551616)(lim o:Nat)(hl:lim<=64)(ho:o<=8)(hm:M.mayB bS (lim:Int) (o:Int)=true)(hbr:bS%(4096*2 ^ o)=0)(w:World)(hT:lG w):
  Calls prog 11 #[gG bS (lim:Int) (o:Int)] w fun e w'=>GI w bS lim o e w':=by
 have K0:=aA ((Kt.refl nO w).alloc (dK bS (lim:Int) (o:Int)));have X0:=aA (nH w (dK bS (lim:Int) (o:Int)));have NW:=aA (fun W=>JN bS hb64 lim o hl ho hm W);have hb4:bS%4096=0:=Nat.mod_eq_zero_of_dvd (Nat.dvd_trans (Nat.dvd_mul_right _ _) (Nat.dvd_of_mod_eq_zero hbr));have HT:=aA hT;have HB:=aA hbr;have HB4:=aA hb4;obtain⟨x0,x1,x2⟩:=lF X0.out;clear hm hT hbr hb4;go_enter func11,ntmps11;go_wp2_with fail;refine(NW.out _).mono ?_;rintro e w2 ⟨lw,x,rfl,hP,e1,e2,e3,e4,e5,e6⟩;have P2:=aA (PO.from8 K0.out (JL o hP e4 e5 e6 (by rw[e1];exact HB4.out)));have X2:=aA ((hP.kp.block _ (lH X0.out) (fun x=>x)).trans X0.out);have EX:=aA (show x.bS=bS/\x.R=4096*2 ^ o/\x.lim=lim/\x.n=0/\x.o=o/\x.P=fun _=>none from⟨e1,e2,e3,e4,e5,e6⟩);clear hP e1 e2 e3 e4 e5 e6 x0 x1 x2 NW;have KD:=aA ((Kt.refl nO w2).drew);have NS:=aA (vN (P2.out.keep KD.out) HT.out);obtain⟨x0,x1,x2⟩:=lF X2.out;go_wp2_with fail;obtain⟨y0,y1,y2⟩:=lF ((KD.out.block _ (lH X2.out) (fun x=>x)).trans X2.out);go_region_held3 (fun w'=>w'.cell? ⟨w.heap.size,0,none⟩=some (.int .u64 bS)/\w'.cell? ⟨w.heap.size,1,none⟩=some (.int .i64 lim)/\w'.cell? ⟨w.heap.size,2,none⟩=some (.int .i64 o)) (first|with_reducible exact⟨y0,y1,y2⟩|with_reducible exact⟨z0,z1,z2⟩|with_reducible exact⟨tF z0,tF z1,tF z2⟩) (first
  | (go_at_call 34;(with_reducible refine NS.out.mono ?_);rintro e w3 ⟨sb,rfl,hs,hk,hz⟩;have K3:=aA (nT KD.out hk);have S3:=aA hs;obtain⟨z0,z1,z2⟩:=lF ((K3.out.block _ (lH X2.out) (fun x=>x)).trans X2.out);clear hk hs hz)
  | fail)
 all_goals
  have D:=aA (show HW w (w3.alloc (vI 0 lw sb bS lim o)) w3.heap.size sb lw x (CO o) (fun _=>[]) [] qA 0 from by
   obtain⟨e1,e2,e3,e4,e5,e6⟩:=EX.out;have k:=(Kt.refl nO w3).alloc (vI 0 lw sb bS lim o);have o3:=SO.new (P2.out.keep K3.out) S3.out e6;have h5:=S3.out.pl.kp.size;refine⟨⟨_,o3.keep k⟩,gK.none,?_,h5,by rw[e1,e2];exact HB.out⟩;rw[e1,e3,e5];exact nH w3 _)
  go_wp2_with fail;exact⟨rfl,.tuple #[.pointer (some ⟨w3.heap.size,0,none⟩),.int .i64 0],by simp[results,results11,go_sem],_,sb,lw,x,rfl,D.out,EX.out.1,EX.out.2.1,EX.out.2.2.1,EX.out.2.2.2.1,EX.out.2.2.2.2.1⟩
def KH(w W:World)(hb n:Nat)(f0 f1:List Nat)(ls:List (Nat×Nat))(S:Sb)(v:Bool):Prop:=∃ sb lw x t fr,HW w W hb sb lw x t fr ls S 0/\x.bS=65536/\x.lim=2/\x.o=1/\x.R=8192/\x.n=n/\fr 0=f0/\fr 1=f1/\(v=true->t.f 8=5)
abbrev tE(p e:Int):Ending:=.returned (.tuple #[.int .u64 p,.int .i64 e])
theorem DW{m k:Nat}(h1:m<=2 ^ k)(h2:k=0\/2 ^ (k-1)<m):cl m=k:=by
 have a:=(oP m k).1 h1;rcases h2 with rfl|h2
 ·omega
 ·rcases Nat.lt_or_ge (cl m) k with e|e
  ·have b:=(oP m (k-1)).2 (by omega);omega
  ·omega
section
variable {w W W':World} {hb n:Nat} {f0 f1:List Nat} {ls:List (Nat×Nat)} {S:Sb} {v:Bool}
theorem KH.keep(s:KH w W hb n f0 f1 ls S v)(k:Kt nO W W'):KH w W' hb n f0 f1 ls S v:=by
 obtain⟨sb,lw,x,t,fr,H,r⟩:=s;exact⟨sb,lw,x,t,fr,H.keep k,r⟩
theorem KH.kp(s:KH w W hb n f0 f1 ls S v):Kt nO w W:=by
 obtain⟨sb,lw,x,t,fr,H,r⟩:=s;exact H.po.pl.kp
theorem DV{fr:Nat->List Nat}(h0:fr 0=[])(h1:fr 1=[])(k:Nat):∀ a,k<=a->a<=1->fr a=[]:=fun a _ ha=>by
 rcases (show a=0\/a=1 by omega)with rfl|rfl
 ·exact h0
 ·exact h1
theorem KH.mal{x:Bx}{t:Bt}{fr:Nat->List Nat}{sb lw:Nat}(H:HW w W hb sb lw x t fr ls S 0)(ho:x.o=1)(sz:Nat)(hs:sz<=8192)(d:Bool)(c:Nat)(hc:max sz 16<=2 ^ c)(hc2 : 2 ^ (c-1)<max sz 16):
  Calls prog 12 #[.pointer (some ⟨hb,0,none⟩),.int .u64 sz,.bool d] W fun e w'=>∃ p er,e=.returned (.tuple #[.int .u64 ((p:Nat):Int),.int .i64 er])/\Tq w W hb sb lw x t fr ls S 0 (2 ^ c) d p er w':=by
 have hcl:cl (max sz 16)=c:=DW hc (.inr hc2);refine(TW H sz (by omega) d _ rfl).mono ?_;rintro e w' ⟨p,er,rfl,hR⟩
 cases hR with
 | ok h1 hT=>rw[hcl] at hT;exact⟨p,er,rfl,hT⟩
 | big h1 hp he kp=>
  exfalso
  have h2:=of_decide_eq_false h1;rw[ho] at h2;have:=(oP (max sz 16) 13).1 (by omega);omega
theorem KH.nx{x x':Bx}{t t':Bt}{fr':Nat->List Nat}{sb lw:Nat}{ls':List (Nat×Nat)}{S':Sb}{n':Nat}{f0' f1':List Nat}(hb0:x.bS=65536)(hl:x.lim=2)(ho:x.o=1)(hR:x.R=8192)(nx:Nx w W W' hb sb lw x t ls S 0 x' t' fr' ls' S')(hn:x'.n=n')(h0:fr' 0=f0')(h1:fr' 1=f1'):KH w W' hb n' f0' f1' ls' S' false:=
 ⟨sb,lw,x',t',fr',nx.H,nx.ch.bS.trans hb0,nx.ch.lim.trans hl,nx.ch.o.trans ho,nx.ch.R.trans hR,hn,h0,h1,fun e=>by cases e⟩
theorem KH.pages{x:Bx}{t:Bt}{fr:Nat->List Nat}{sb lw:Nat}(H:HW w W hb sb lw x t fr ls S 0)(hn:x.n=n):t.m.n*4096=n:=by
 obtain⟨h',o⟩:=H.so;rw[<-hn];exact o.st
theorem KH.mal_grow(s:KH w W hb n [] [] ls S v)(g:Nat)(hg:g*4096=n)(sz:Nat)(hs:sz<=8192)(c:Nat)(hc:max sz 16<=2 ^ c)(hc2 : 2 ^ (c-1)<max sz 16)(k:Nat)(hk:k<8)(hck : 2 ^ c=aE k)(hl:S.pl k=[])(hn:n+8192<=16384):
  Calls prog 12 #[.pointer (some ⟨hb,0,none⟩),.int .u64 sz,.bool false] W fun e w'=>e=tE ((65536 + 4096*g:Nat):Int) 0/\KH w w' hb (n + 8192) [g + 1] [] (ls ++ [(g,0)]) (aP (aW S g k) g k (List.range' 1 (aG k-1))) false:=by
 obtain⟨sb,lw,x,t,fr,H,hb0,hli,ho,hR,hxn,h0,h1,hv⟩:=s;have hpg:=KH.pages H hxn;refine(KH.mal H ho sz hs false c hc hc2).mono ?_;rintro e w' ⟨p,er,rfl,hT⟩;rw[hck] at hT;have hz:∀ a,a<=x.o->fr a=[]:=fun a ha=>DV h0 h1 0 a (Nat.zero_le _) (by omega)
 cases hT with
 | no hp he nf hd2 kp=>
  exfalso
  rcases hd2 with e|e
  ·cases e
  ·rw[hxn,hli,hR] at e;omega
 | yes x' t' fr' ls' S' b he td nx hL hN hn2 hm hb1 hb2=>
  subst he
  cases td with
  | old k2 g2 i l rr hk2 hr hl2=>
   obtain rfl:=oT hr;rw[hl] at hl2
   cases hl2
  | here k2 g2 j l hk2 hr=>exact absurd hr (lM hk)
  | grew k2 hk2 hr=>exact absurd hr (lM hk)
  | new k2 g2 hk2 hr hl2 hp nd e2 e3=>
   obtain rfl:=oT hr
   cases nd with
   | here j l hj hz2 hp2=>rw[hz j hj] at hp2;cases hp2
   | grew hz2 hd2 hle hbt hp2 hfr=>
    obtain rfl:g2=g:=(by omega);subst hbt e2 e3;rw[if_pos rfl] at hn2;refine⟨?_,KH.nx hb0 hli ho hR nx (by rw[hn2,hxn,hR]) ?_ ?_⟩
    ·rw[hp];unfold aQ;rw[hb0,Nat.zero_mul,Nat.add_zero]
    ·rw[hfr,<-hp2,ho];unfold cK;rw[if_pos (by omega),h0]
    ·rw[hfr,ho];unfold cK;rw[if_neg (by omega),h1]
theorem KH.mal_here{g:Nat}{l:List Nat}(s:KH w W hb n (g :: l) f1 ls S v)(sz:Nat)(hs:sz<=8192)(d:Bool)(c:Nat)(hc:max sz 16<=2 ^ c)(hc2 : 2 ^ (c-1)<max sz 16)(k:Nat)(hk:k<8)(hck : 2 ^ c=aE k)(hl:S.pl k=[]):
  Calls prog 12 #[.pointer (some ⟨hb,0,none⟩),.int .u64 sz,.bool d] W fun e w'=>e=tE ((65536 + 4096*g:Nat):Int) 0/\KH w w' hb n (M.dropL (g :: l) g) f1 (ls ++ [(g,0)]) (aP (aW S g k) g k (List.range' 1 (aG k-1))) false:=by
 obtain⟨sb,lw,x,t,fr,H,hb0,hli,ho,hR,hxn,h0,h1,hv⟩:=s;refine(KH.mal H ho sz hs d c hc hc2).mono ?_;rintro e w' ⟨p,er,rfl,hT⟩;rw[hck] at hT;have hnf:¬NF x fr S (aE k):=fun e=>by
  have:=((NF.cell hk).1 e).2 0 (Nat.zero_le _);rw[h0] at this
  cases this
 cases hT with
 | no hp he nf hd2 kp=>exact absurd nf hnf
 | yes x' t' fr' ls' S' b he td nx hL hN hn2 hm hb1 hb2=>
  subst he
  cases td with
  | old k2 g2 i l2 rr hk2 hr hl2=>
   obtain rfl:=oT hr;rw[hl] at hl2
   cases hl2
  | here k2 g2 j l hk2 hr=>exact absurd hr (lM hk)
  | grew k2 hk2 hr=>exact absurd hr (lM hk)
  | new k2 g2 hk2 hr hl2 hp nd e2 e3=>
   obtain rfl:=oT hr
   cases nd with
   | grew hz2 hd2 hle hbt hp2 hfr=>
    have:=hz2 0 (Nat.zero_le _);rw[h0] at this
    cases this
   | here j l2 hj hz2 hp2 hbt hfr=>
    have hj0:j=0:=by
     rcases Nat.eq_zero_or_pos j with e|e
     ·exact e
     ·have:=hz2 0 e;rw[h0] at this
      cases this
    subst hj0 hbt e2 e3;rw[h0] at hp2;injection hp2 with hp2 hp3
    subst hp2;rw[if_neg (by decide)] at hn2;refine⟨?_,KH.nx hb0 hli ho hR nx (hn2.trans hxn) ?_ ?_⟩
    ·rw[hp];unfold aQ;rw[hb0,Nat.zero_mul,Nat.add_zero]
    ·rw[hfr];unfold cK cD;rw[if_neg (by omega),if_pos rfl,h0]
    ·rw[hfr];unfold cK cD;rw[if_neg (by omega),if_neg (by decide)];exact h1
theorem KH.pg_grow(s:KH w W hb n f0 [] ls S v)(g:Nat)(hg:g*4096=n)(sz:Nat)(h1s : 4096<sz)(hs:sz<=8192)(hn:n+8192<=16384):
  Calls prog 12 #[.pointer (some ⟨hb,0,none⟩),.int .u64 sz,.bool false] W fun e w'=>e=tE ((65536 + 4096*g:Nat):Int) 0/\KH w w' hb (n + 8192) f0 [] (ls ++ [(g,1)]) S false:=by
 obtain⟨sb,lw,x,t,fr,H,hb0,hli,ho,hR,hxn,h0,h1,hv⟩:=s;have hpg:=KH.pages H hxn;refine(KH.mal H ho sz hs false 13 (by omega) (by omega)).mono ?_;rintro e w' ⟨p,er,rfl,hT⟩;rw[show(2:Nat) ^ 13=4096*2 ^ 1 from rfl] at hT
 cases hT with
 | no hp he nf hd2 kp=>
  exfalso
  rcases hd2 with e|e
  ·cases e
  ·rw[hxn,hli,hR] at e;omega
 | yes x' t' fr' ls' S' b he td nx hL hN hn2 hm hb1 hb2=>
  subst he
  cases td with
  | old k2 g2 i l rr hk2 hr hl2=>exact absurd hr.symm (lM hk2)
  | new k2 g2 hk2 hr=>exact absurd hr.symm (lM hk2)
  | here k2 g2 j l hk2 hr hkj hj hz hl=>
   obtain rfl:=sT hr;obtain rfl:j=1:=(by omega);rw[h1] at hl
   cases hl
  | grew k2 hk2 hr hz hp hbt e1 e2 e3=>
   obtain rfl:=sT hr;obtain rfl:t.m.n=g:=(by omega);subst hbt e1 e2 e3;rw[if_pos rfl] at hn2;refine⟨?_,KH.nx hb0 hli ho hR nx (by rw[hn2,hxn,hR]) ?_ ?_⟩
   ·rw[hp];unfold ad;rw[hb0]
   ·rw[ho];unfold cK;rw[if_neg (by omega),h0]
   ·rw[ho];unfold cK;rw[if_neg (by omega),h1]
end
def Q1:Sb:=aP (aW qA 0 0) 0 0 (List.range' 1 (aG 0-1))
def Q2:Sb:=aP (aW Q1 1 1) 1 1 (List.range' 1 (aG 1-1))
theorem pW:M.mayB 65536 ((2:Nat):Int) ((1:Nat):Int)=true:=by decide
theorem DU(w:World)(hT:lG w):
  Calls prog 11 #[.agg #[.int .u64 65536,.int .i64 2,.int .i64 1]] w fun e w'=>∃ hb,e=.returned (.tuple #[.pointer (some ⟨hb,0,none⟩),.int .i64 0])/\KH w w' hb 0 [] [] [] qA false:=by
 refine(IE 65536 (by decide) 2 1 (by decide) (by decide) pW (by decide) w hT).mono ?_;rintro e w' ⟨hb,sb,lw,x,rfl,H,e1,e2,e3,e4,e5⟩;exact⟨hb,rfl,sb,lw,x,_,_,H,e1,e3,e5,e2,e4,rfl,rfl,fun e=>by cases e⟩
open Go.MuLone
section
variable {w W W1 W':World} {hb sb lw:Nat} {x:Bx} {t:Bt} {fr:Nat->List Nat} {ls:List (Nat×Nat)} {S:Sb} {s:Int}
theorem HW.read(H:HW w W hb sb lw x t fr ls S s){p n:Nat}(hn : 0<n)(hin:M.In x.bS x.n p n):
  Calls prog 43 #[.pointer (some ⟨x.s,0,none⟩),.int .u64 p,.int .u64 n] W fun e w'=>e=.returned (.tuple #[.slice (some ⟨W.heap.size+1,0,none⟩) n n,.int .i64 0])/\M.Blk w' (W.heap.size+1) n (fun i=>t.f (p-x.bS+i))/\Kt nO W w':=by
 obtain⟨g,hg,hs⟩:=H.space (by unfold M.In at hin;omega);refine(M.Read_in x.s g x.bS x.R x.lim x.n t.f p n W hs hn hin).mono ?_;rintro e w' ⟨rfl,h2,h3⟩;exact⟨rfl,h2,fQ h3⟩
end
end Go.Proofs.YtkfmheelhinjdaaGreatDoor
