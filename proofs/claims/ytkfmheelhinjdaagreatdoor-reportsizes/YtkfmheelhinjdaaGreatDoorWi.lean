import Derived.Test.YtkfmheelhinjdaaGreatDoorWh
import Derived.Test.YtkfmheelhinjdaaGreatDoorWn
set_option maxRecDepth 1000000
set_option maxHeartbeats 80000000
namespace Go.Proofs.YtkfmheelhinjdaaGreatDoor
open _root_.Go.Proofs.Tryz
open Go.RowKit
set_option linter.unusedVariables false
theorem Pol.from8{w w1 W lw x t}(k:Kt nO w w1)(h:Pol w1 W lw x t):Pol w W lw x t:=⟨h.box,h.bd,fun y hy=>Nat.le_trans k.size (h.nw y hy),nT k h.kp⟩
theorem PO.from8{w w1 W lw x t fr ls}(k:Kt nO w w1)(h:PO w1 W lw x t fr ls):PO w W lw x t fr ls:=⟨h.pl.from8 k,h.sf,h.st,h.bm⟩
theorem kU{w:World}{y b:Nat}{l o:Int}(h:w.heap[y]?=some (dJ b l o)):w.cell? ⟨y,0,none⟩=some (.int .u64 b)/\w.cell? ⟨y,1,none⟩=some (.int .i64 l)/\w.cell? ⟨y,2,none⟩=some (.int .i64 o):=by
 refine⟨?_,?_,?_⟩ <;> simp[World.cell?,h]
theorem sW{w:World}{A:Obj}{a:Addr}{v:Value}(h:w.cell? a=some v):(w.alloc A).cell? a=some v:=((Kt.refl nO w).alloc A).cell id h
abbrev BC(o:Nat):Bt:=⟨fun _=>0,bU o,fun _=>0⟩
abbrev pN:Sb:=⟨fun _=>none,fun _=>[],fun _=>[]⟩
def DH(w:World)(bS lim o:Nat)(e:Ending)(w':World):Prop:=∃ hb sb lw x,e=.returned (.tuple #[.pointer (some ⟨hb,0,none⟩),.int .i64 0])/\HW w w' hb sb lw x (BC o) (fun _=>[]) [] pN 0/\x.bS=bS/\x.R=4096*2 ^ o/\x.lim=lim/\x.n=0/\x.o=o
theorem KO(bS:Nat)(hb64:bS<18446744073709551616)(lim o:Nat)(hl:lim<=64)(ho:o<=8)(hm:M.mayB bS (lim:Int) (o:Int)=true)(hbr:bS%(4096*2 ^ o)=0)(w:World)(hT:iN w):
  Calls prog 11 #[fZ bS (lim:Int) (o:Int)] w fun e w'=>DH w bS lim o e w':=by
 have K0:=aA ((Kt.refl nO w).alloc (dJ bS (lim:Int) (o:Int)));have X0:=aA (nH w (dJ bS (lim:Int) (o:Int)));have NW:=aA (fun W=>EI bS hb64 lim o hl ho hm W);have hb4:bS%4096=0:=Nat.mod_eq_zero_of_dvd (Nat.dvd_trans (Nat.dvd_mul_right _ _) (Nat.dvd_of_mod_eq_zero hbr));have HT:=aA hT;have HB:=aA hbr;have HB4:=aA hb4;obtain⟨x0,x1,x2⟩:=kU X0.out;clear hm hT hbr hb4;go_enter func11,ntmps11;go_wp2_with fail;refine(NW.out _).mono ?_;rintro e w2 ⟨lw,x,rfl,hP,e1,e2,e3,e4,e5,e6⟩;have P2:=aA (PO.from8 K0.out (EH o hP e4 e5 e6 (by rw[e1];exact HB4.out)));have X2:=aA ((hP.kp.block _ (lH X0.out) (fun x=>x)).trans X0.out);have EX:=aA (show x.bS=bS/\x.R=4096*2 ^ o/\x.lim=lim/\x.n=0/\x.o=o/\x.P=fun _=>none from⟨e1,e2,e3,e4,e5,e6⟩);clear hP e1 e2 e3 e4 e5 e6 x0 x1 x2 NW;have KD:=aA ((Kt.refl nO w2).drew);have NS:=aA (vB (P2.out.keep KD.out) HT.out);obtain⟨x0,x1,x2⟩:=kU X2.out;go_wp2_with fail;obtain⟨y0,y1,y2⟩:=kU ((KD.out.block _ (lH X2.out) (fun x=>x)).trans X2.out);go_region_held3 (fun w'=>w'.cell? ⟨w.heap.size,0,none⟩=some (.int .u64 bS)/\w'.cell? ⟨w.heap.size,1,none⟩=some (.int .i64 lim)/\w'.cell? ⟨w.heap.size,2,none⟩=some (.int .i64 o)) (first|with_reducible exact⟨y0,y1,y2⟩|with_reducible exact⟨z0,z1,z2⟩|with_reducible exact⟨sW z0,sW z1,sW z2⟩) (first
  | (go_at_call 34;(with_reducible refine NS.out.mono ?_);rintro e w3 ⟨sb,rfl,hs,hk,hz⟩;have K3:=aA (nT KD.out hk);have S3:=aA hs;obtain⟨z0,z1,z2⟩:=kU ((K3.out.block _ (lH X2.out) (fun x=>x)).trans X2.out);clear hk hs hz)
  | fail)
 all_goals
  have D:=aA (show HW w (w3.alloc (uV 0 lw sb bS lim o)) w3.heap.size sb lw x (BC o) (fun _=>[]) [] pN 0 from by
   obtain⟨e1,e2,e3,e4,e5,e6⟩:=EX.out;have k:=(Kt.refl nO w3).alloc (uV 0 lw sb bS lim o);have o3:=SO.new (P2.out.keep K3.out) S3.out e6;have h5:=S3.out.pl.kp.size;refine⟨⟨_,o3.keep k⟩,gE.none,?_,h5,by rw[e1,e2];exact HB.out⟩;rw[e1,e3,e5];exact nH w3 _)
  go_wp2_with fail;exact⟨rfl,.tuple #[.pointer (some ⟨w3.heap.size,0,none⟩),.int .i64 0],by simp[results,results11,go_sem],_,sb,lw,x,rfl,D.out,EX.out.1,EX.out.2.1,EX.out.2.2.1,EX.out.2.2.2.1,EX.out.2.2.2.2.1⟩
def KH(w W:World)(hb n:Nat)(f0 f1:List Nat)(ls:List (Nat×Nat))(S:Sb)(v:Bool):Prop:=∃ sb lw x t fr,HW w W hb sb lw x t fr ls S 0/\x.bS=65536/\x.lim=2/\x.o=1/\x.R=8192/\x.n=n/\fr 0=f0/\fr 1=f1/\(v=true->t.f 8=5)
abbrev tE(p e:Int):Ending:=.returned (.tuple #[.int .u64 p,.int .i64 e])
theorem GQ{m k:Nat}(h1:m<=2 ^ k)(h2:k=0\/2 ^ (k-1)<m):cl m=k:=by
 have a:=(oC m k).1 h1;rcases h2 with rfl|h2
 ·omega
 ·rcases Nat.lt_or_ge (cl m) k with e|e
  ·have b:=(oC m (k-1)).2 (by omega);omega
  ·omega
section
variable {w W W':World} {hb n:Nat} {f0 f1:List Nat} {ls:List (Nat×Nat)} {S:Sb} {v:Bool}
theorem KH.keep(s:KH w W hb n f0 f1 ls S v)(k:Kt nO W W'):KH w W' hb n f0 f1 ls S v:=by
 obtain⟨sb,lw,x,t,fr,H,r⟩:=s;exact⟨sb,lw,x,t,fr,H.keep k,r⟩
theorem KH.kp(s:KH w W hb n f0 f1 ls S v):Kt nO w W:=by
 obtain⟨sb,lw,x,t,fr,H,r⟩:=s;exact H.po.pl.kp
theorem GP{fr:Nat->List Nat}(h0:fr 0=[])(h1:fr 1=[])(k:Nat):∀ a,k<=a->a<=1->fr a=[]:=fun a _ ha=>by
 rcases (show a=0\/a=1 by omega)with rfl|rfl
 ·exact h0
 ·exact h1
theorem KH.mal{x:Bx}{t:Bt}{fr:Nat->List Nat}{sb lw:Nat}(H:HW w W hb sb lw x t fr ls S 0)(ho:x.o=1)(sz:Nat)(hs:sz<=8192)(d:Bool)(c:Nat)(hc:max sz 16<=2 ^ c)(hc2 : 2 ^ (c-1)<max sz 16):
  Calls prog 12 #[.pointer (some ⟨hb,0,none⟩),.int .u64 sz,.bool d] W fun e w'=>∃ p er,e=.returned (.tuple #[.int .u64 ((p:Nat):Int),.int .i64 er])/\Tq w W hb sb lw x t fr ls S 0 (2 ^ c) d p er w':=by
 have hcl:cl (max sz 16)=c:=GQ hc (.inr hc2);refine(OC H sz (by omega) d _ rfl).mono ?_;rintro e w' ⟨p,er,rfl,hR⟩
 cases hR with
 | ok h1 hT=>rw[hcl] at hT;exact⟨p,er,rfl,hT⟩
 | big h1 hp he kp=>
  exfalso
  have h2:=of_decide_eq_false h1;rw[ho] at h2;have:=(oC (max sz 16) 13).1 (by omega);omega
theorem KH.nx{x x':Bx}{t t':Bt}{fr':Nat->List Nat}{sb lw:Nat}{ls':List (Nat×Nat)}{S':Sb}{n':Nat}{f0' f1':List Nat}(hb0:x.bS=65536)(hl:x.lim=2)(ho:x.o=1)(hR:x.R=8192)(nx:Nx w W W' hb sb lw x t ls S 0 x' t' fr' ls' S')(hn:x'.n=n')(h0:fr' 0=f0')(h1:fr' 1=f1'):KH w W' hb n' f0' f1' ls' S' false:=
 ⟨sb,lw,x',t',fr',nx.H,nx.ch.bS.trans hb0,nx.ch.lim.trans hl,nx.ch.o.trans ho,nx.ch.R.trans hR,hn,h0,h1,fun e=>by cases e⟩
theorem KH.pages{x:Bx}{t:Bt}{fr:Nat->List Nat}{sb lw:Nat}(H:HW w W hb sb lw x t fr ls S 0)(hn:x.n=n):t.m.n*4096=n:=by
 obtain⟨h',o⟩:=H.so;rw[<-hn];exact o.st
theorem KH.mal_grow(s:KH w W hb n [] [] ls S v)(g:Nat)(hg:g*4096=n)(sz:Nat)(hs:sz<=8192)(c:Nat)(hc:max sz 16<=2 ^ c)(hc2 : 2 ^ (c-1)<max sz 16)(k:Nat)(hk:k<8)(hck : 2 ^ c=aE k)(hl:S.pl k=[])(hn:n+8192<=16384):
  Calls prog 12 #[.pointer (some ⟨hb,0,none⟩),.int .u64 sz,.bool false] W fun e w'=>e=tE ((65536 + 4096*g:Nat):Int) 0/\KH w w' hb (n + 8192) [g + 1] [] (ls ++ [(g,0)]) (aO (aW S g k) g k (List.range' 1 (aG k-1))) false:=by
 obtain⟨sb,lw,x,t,fr,H,hb0,hli,ho,hR,hxn,h0,h1,hv⟩:=s;have hpg:=KH.pages H hxn;refine(KH.mal H ho sz hs false c hc hc2).mono ?_;rintro e w' ⟨p,er,rfl,hT⟩;rw[hck] at hT;have hz:∀ a,a<=x.o->fr a=[]:=fun a ha=>GP h0 h1 0 a (Nat.zero_le _) (by omega)
 cases hT with
 | no hp he nf hd2 kp=>
  exfalso
  rcases hd2 with e|e
  ·cases e
  ·rw[hxn,hli,hR] at e;omega
 | yes x' t' fr' ls' S' b he td nx hL hN hn2 hm hb1 hb2=>
  subst he
  cases td with
  | old k2 g2 i l rr hk2 hr hl2=>
   obtain rfl:=oF hr;rw[hl] at hl2
   cases hl2
  | here k2 g2 j l hk2 hr=>exact absurd hr (lD hk)
  | grew k2 hk2 hr=>exact absurd hr (lD hk)
  | new k2 g2 hk2 hr hl2 hp nd e2 e3=>
   obtain rfl:=oF hr
   cases nd with
   | here j l hj hz2 hp2=>rw[hz j hj] at hp2;cases hp2
   | grew hz2 hd2 hle hbt hp2 hfr=>
    obtain rfl:g2=g:=(by omega);subst hbt e2 e3;rw[if_pos rfl] at hn2;refine⟨?_,KH.nx hb0 hli ho hR nx (by rw[hn2,hxn,hR]) ?_ ?_⟩
    ·rw[hp];unfold aP;rw[hb0,Nat.zero_mul,Nat.add_zero]
    ·rw[hfr,<-hp2,ho];unfold cI;rw[if_pos (by omega),h0]
    ·rw[hfr,ho];unfold cI;rw[if_neg (by omega),h1]
theorem KH.mal_here{g:Nat}{l:List Nat}(s:KH w W hb n (g :: l) f1 ls S v)(sz:Nat)(hs:sz<=8192)(d:Bool)(c:Nat)(hc:max sz 16<=2 ^ c)(hc2 : 2 ^ (c-1)<max sz 16)(k:Nat)(hk:k<8)(hck : 2 ^ c=aE k)(hl:S.pl k=[]):
  Calls prog 12 #[.pointer (some ⟨hb,0,none⟩),.int .u64 sz,.bool d] W fun e w'=>e=tE ((65536 + 4096*g:Nat):Int) 0/\KH w w' hb n (M.dropL (g :: l) g) f1 (ls ++ [(g,0)]) (aO (aW S g k) g k (List.range' 1 (aG k-1))) false:=by
 obtain⟨sb,lw,x,t,fr,H,hb0,hli,ho,hR,hxn,h0,h1,hv⟩:=s;refine(KH.mal H ho sz hs d c hc hc2).mono ?_;rintro e w' ⟨p,er,rfl,hT⟩;rw[hck] at hT;have hnf:¬NF x fr S (aE k):=fun e=>by
  have:=((NF.cell hk).1 e).2 0 (Nat.zero_le _);rw[h0] at this
  cases this
 cases hT with
 | no hp he nf hd2 kp=>exact absurd nf hnf
 | yes x' t' fr' ls' S' b he td nx hL hN hn2 hm hb1 hb2=>
  subst he
  cases td with
  | old k2 g2 i l2 rr hk2 hr hl2=>
   obtain rfl:=oF hr;rw[hl] at hl2
   cases hl2
  | here k2 g2 j l hk2 hr=>exact absurd hr (lD hk)
  | grew k2 hk2 hr=>exact absurd hr (lD hk)
  | new k2 g2 hk2 hr hl2 hp nd e2 e3=>
   obtain rfl:=oF hr
   cases nd with
   | grew hz2 hd2 hle hbt hp2 hfr=>
    have:=hz2 0 (Nat.zero_le _);rw[h0] at this
    cases this
   | here j l2 hj hz2 hp2 hbt hfr=>
    have hj0:j=0:=by
     rcases Nat.eq_zero_or_pos j with e|e
     ·exact e
     ·have:=hz2 0 e;rw[h0] at this
      cases this
    subst hj0 hbt e2 e3;rw[h0] at hp2;injection hp2 with hp2 hp3
    subst hp2;rw[if_neg (by decide)] at hn2;refine⟨?_,KH.nx hb0 hli ho hR nx (hn2.trans hxn) ?_ ?_⟩
    ·rw[hp];unfold aP;rw[hb0,Nat.zero_mul,Nat.add_zero]
    ·rw[hfr];unfold cI cB;rw[if_neg (by omega),if_pos rfl,h0]
    ·rw[hfr];unfold cI cB;rw[if_neg (by omega),if_neg (by decide)];exact h1
theorem KH.pg_grow(s:KH w W hb n f0 [] ls S v)(g:Nat)(hg:g*4096=n)(sz:Nat)(h1s : 4096<sz)(hs:sz<=8192)(hn:n+8192<=16384):
  Calls prog 12 #[.pointer (some ⟨hb,0,none⟩),.int .u64 sz,.bool false] W fun e w'=>e=tE ((65536 + 4096*g:Nat):Int) 0/\KH w w' hb (n + 8192) f0 [] (ls ++ [(g,1)]) S false:=by
 obtain⟨sb,lw,x,t,fr,H,hb0,hli,ho,hR,hxn,h0,h1,hv⟩:=s;have hpg:=KH.pages H hxn;refine(KH.mal H ho sz hs false 13 (by omega) (by omega)).mono ?_;rintro e w' ⟨p,er,rfl,hT⟩;rw[show(2:Nat) ^ 13=4096*2 ^ 1 from rfl] at hT
 cases hT with
 | no hp he nf hd2 kp=>
  exfalso
  rcases hd2 with e|e
  ·cases e
  ·rw[hxn,hli,hR] at e;omega
 | yes x' t' fr' ls' S' b he td nx hL hN hn2 hm hb1 hb2=>
  subst he
  cases td with
  | old k2 g2 i l rr hk2 hr hl2=>exact absurd hr.symm (lD hk2)
  | new k2 g2 hk2 hr=>exact absurd hr.symm (lD hk2)
  | here k2 g2 j l hk2 hr hkj hj hz hl=>
   obtain rfl:=sK hr;obtain rfl:j=1:=(by omega);rw[h1] at hl
   cases hl
  | grew k2 hk2 hr hz hp hbt e1 e2 e3=>
   obtain rfl:=sK hr;obtain rfl:t.m.n=g:=(by omega);subst hbt e1 e2 e3;rw[if_pos rfl] at hn2;refine⟨?_,KH.nx hb0 hli ho hR nx (by rw[hn2,hxn,hR]) ?_ ?_⟩
   ·rw[hp];unfold ad;rw[hb0]
   ·rw[ho];unfold cI;rw[if_neg (by omega),h0]
   ·rw[ho];unfold cI;rw[if_neg (by omega),h1]
end
def Q1:Sb:=aO (aW pN 0 0) 0 0 (List.range' 1 (aG 0-1))
def Q2:Sb:=aO (aW Q1 1 1) 1 1 (List.range' 1 (aG 1-1))
theorem pJ:M.mayB 65536 ((2:Nat):Int) ((1:Nat):Int)=true:=by decide
theorem GO(w:World)(hT:iN w):
  Calls prog 11 #[.agg #[.int .u64 65536,.int .i64 2,.int .i64 1]] w fun e w'=>∃ hb,e=.returned (.tuple #[.pointer (some ⟨hb,0,none⟩),.int .i64 0])/\KH w w' hb 0 [] [] [] pN false:=by
 refine(KO 65536 (by decide) 2 1 (by decide) (by decide) pJ (by decide) w hT).mono ?_;rintro e w' ⟨hb,sb,lw,x,rfl,H,e1,e2,e3,e4,e5⟩;exact⟨hb,rfl,sb,lw,x,_,_,H,e1,e3,e5,e2,e4,rfl,rfl,fun e=>by cases e⟩
open Go.MuLone
section
variable {w W W1 W':World} {hb sb lw:Nat} {x:Bx} {t:Bt} {fr:Nat->List Nat} {ls:List (Nat×Nat)} {S:Sb} {s:Int}
theorem HW.read(H:HW w W hb sb lw x t fr ls S s){p n:Nat}(hn : 0<n)(hin:M.In x.bS x.n p n):
  Calls prog 43 #[.pointer (some ⟨x.s,0,none⟩),.int .u64 p,.int .u64 n] W fun e w'=>e=.returned (.tuple #[.slice (some ⟨W.heap.size+1,0,none⟩) n n,.int .i64 0])/\M.Blk w' (W.heap.size+1) n (fun i=>t.f (p-x.bS+i))/\Kt nO W w':=by
 obtain⟨g,hg,hs⟩:=H.space (by unfold M.In at hin;omega);refine(M.Read_in x.s g x.bS x.R x.lim x.n t.f p n W hs hn hin).mono ?_;rintro e w' ⟨rfl,h2,h3⟩;exact⟨rfl,h2,fM h3⟩
end
def pgL(x:Bx)(t:Bt)(S:Sb)(i:Nat):List (Nat×Nat):=match S.c i with
 | some k=>gA x S i k (aG k)
 | none=>if (t.m.pg i).kd=2 then [(x.bS+4096*i,4096*2 ^ (t.m.pg i).od.toNat)] else []
def kR(x:Bx)(t:Bt)(S:Sb):Nat->List (Nat×Nat)
 | 0=>[]
 | i + 1=>kR x t S i ++ pgL x t S i
inductive Lv8(x:Bx)(S:Sb)(q:Pg)(i:Nat)(l:List (Nat×Nat)):Prop where
 | none (hq:q.kd=0\/q.kd=1\/q.kd=3) (h1:l=[])
 | head (k:Nat) (hk:k<=8) (hq:q.kd=2) (ho:q.od=(k:Int)) (h1:l=[(x.bS+4096*i,4096*2 ^ k)])
 | slab (k:Nat) (hq:q.kd=4) (hc:S.c i=some k) (hl:q.cl=(k:Int)) (h1:l=gA x S i k (aG k))
theorem VU{w0 w1 W W':World}{v:Value}{l:List (Nat×Nat)}(h:GB w0 W v l)(hs:w0.heap.size=w1.heap.size)(k:Kt nO w1 W')(hE:∀ y,v.ownBlock=some y->W'.heap[y]?=W.heap[y]?):GB w1 W' v l:=by
 refine⟨⟨h.own.1,?_⟩,fun g cap e=>by rw[<-hs];exact h.new g cap e,k⟩;rcases h.own.2 with h0|⟨g,cap,cur,rfl,hb,hg,h3⟩
 ·exact .inl h0
 ·exact .inr ⟨g,cap,cur,rfl,hb,(hE g (by simp[Value.ownBlock])).trans hg,h3⟩
theorem WM{ops:Array Oper}{o:Oper}{a:Act}{K:Act->World->Prop}{Q:Exit->Act->World->Prop}{E:Prop}{W w':World}{v u v':Value}
  (hgd:o.guard=none) (s x:Operand) (hop:o.op=.call { callee:=.builtin .append,args:=#[s,x],argTypes:=#[46,46] })
  (hs:a.eval s=v) (hx:a.eval x=u) (hrun:∀ t,(Builtin.append_ #[46,46] t #[v,u]).run prog W=.ok v' w') (h:K (a.put o.dst v') w'):
  if Region.wanted o (yielded ops a.tmps)=true then Oper.wp prog o a W K Q else E:=by
 have hw:Region.wanted o (yielded ops a.tmps)=true:=by simp[Region.wanted,hgd]
 rw[if_pos hw];exact Lib.wp_append_run W s x _ _ hop _ _ hs hx _ _ (hrun _) h
section
variable {w W W':World} {hb sb lw:Nat} {x:Bx} {t:Bt} {fr:Nat->List Nat} {ls:List (Nat×Nat)} {S:Sb} {s:Int}
theorem HW.lk(H:HW w W hb sb lw x t fr ls S s){i:Nat}(hi:i<t.m.n):Lv8 x S (t.m.pg i) i (pgL x t S i):=by
 obtain⟨h,o⟩:=H.so;have n1:=o.po.nums.1
 cases o.kind hi with
 | slab k hc=>
  obtain⟨hk,sp⟩:=o.si.pg i k hc;exact .slab k sp.kd hc sp.cl (by unfold pgL;rw[hc])
 | big q k hm hc hg h1 h2 hp=>
  have hk:k<=8:=Nat.le_trans (o.al hm).1 n1;by_cases e:i=q
  ·rw[if_pos e] at hp;refine .head k hk (by rw[hp];rfl) (by rw[hp];rfl) ?_;unfold pgL;rw[hg,hp];rfl
  ·rw[if_neg e] at hp;refine .none (.inr (.inr (by rw[hp];rfl))) ?_;unfold pgL;rw[hg,hp];rfl
 | free q j hm hj hg h1 h2 hp=>
  by_cases e:i=q
  ·rw[if_pos e] at hp;refine .none (.inl (by rw[hp];rfl)) ?_;unfold pgL;rw[hg,hp];rfl
  ·rw[if_neg e] at hp;refine .none (.inr (.inl (by rw[hp];rfl))) ?_;unfold pgL;rw[hg,hp];rfl
theorem HW.lvb(H:HW w W hb sb lw x t fr ls S s):∀ i,i<=t.m.n->(kR x t S i).length<=i*256
 | 0,_=>Nat.le_refl _
 | i+1,hi=>by
  have h1:=H.lvb i (by omega);have h2:(pgL x t S i).length<=256:=by
   cases H.lk (i:=i) (by omega)with
   | none hq h1=>rw[h1];decide
   | head k hk hq ho h1=>rw[h1];exact(by decide : 1<=256)
   | slab k hq hc hl h1=>
    obtain⟨h,o⟩:=H.so;rw[h1];exact Nat.le_trans (qH x S i k _) (dL (o.si.pg i k hc).1).2.2
  unfold kR;rw[List.length_append];omega
theorem FN(H:HW w W hb sb lw x t fr ls S 0):
  Calls prog 32 #[.pointer (some ⟨hb,0,none⟩)] W fun e w'=>∃ v,e=.returned v/\GB W w' v (kR x t S t.m.n):=by
 have n2:=H.po.nums.2.1;have LK:=aA H.lock;have HI:=aA H.in;have SB:=aA (fun i (hi:i<=t.m.n)=>H.lvb i hi);have SK:=aA (fun i (hi:i<t.m.n)=>H.lk hi);have sL:=aA (fun i=>show kR x t S (i + 1)=kR x t S i ++ pgL x t S i from rfl);have hsz:(jA W hb).heap.size=W.heap.size:=by simp
 obtain⟨n,hn⟩:=xe (t.m.n);have HH:=aA H;have HN:=aA hn;have z0:kR x t S 0=[]:=rfl;rw[<-hn] at n2 SB SK ⊢;obtain⟨f,hf⟩:=xe (kR x t S);rw[<-hf] at SB sL z0 ⊢;have AD:=aA (fun i (hi:i<n) W' (k:Kt nO (jA W hb) W')=>uB (HI.out.keep k) i (by omega));have CH:=aA (fun i k (hc:S.c i=some k) (q:Pg) (hq:q.cl=(k:Int)) W' (kk:Kt nO (jA W hb) W')=>MT (HI.out.keep kk) hc q hq);clear H hn hf;go_enter_defers func32,ntmps32;go_wp2_with fail;refine LK.out.mono ?_;rintro e w1 ⟨rfl,rfl⟩;have MP:=aA (bX HI.out.po.pl);have PGS:=aA (wA HI.out.po);rw[<-HN.out] at PGS;obtain⟨c0,c2,c3,c4,c5,c6⟩:=HI.out.c;go_wp2_with fail;refine MP.out.mono ?_;rintro e w4 ⟨rfl,h4⟩;replace h4:=h4.symm;subst h4;go_wp2_with fail;refine PGS.out.mono ?_;rintro e w4 ⟨rfl,h4⟩;replace h4:=h4.symm;subst h4;clear MP PGS c0 c2 c3 c4 c5 c6;go_wp2_with fail;go_loopw [3,22] (fun v c V=>∃ i:Nat,i<=n/\c=.int .i64 i/\Hid (GB (jA W hb) V v (f i))) (fun _ c _=>n-(intOf c).toNat)
 case atStart=>exact⟨0,Nat.zero_le _,rfl,aA (by rw[z0];exact GS.nil _ _ _ _ (Kt.refl nO _))⟩
 case round=>
  rename_i v _;clear z0;obtain⟨i,hi,rfl,hG⟩:=hrel;obtain⟨va,vc,rfl⟩:=qL hG.out.own;have hle:=SB.out i hi;by_cases hlt:i<n
  ·have hii:(i:Int)<n:=(by omega);have hin:i<t.m.n:=(by rw[<-HN.out];exact hlt);have HJ:=aA (HI.out.keep hG.out.kp);have MP:=aA (bX HJ.out.po.pl);have AT:=aA (iU x.m x.B t.m (i:Int) wr HJ.out.po.pl.bd.mp);rw[show cE t.m (i:Int)=t.m.pg i by unfold cE;rw[if_pos (dH hin),Int.toNat_natCast]] at AT;obtain⟨c0,c2,c3,c4,c5,c6⟩:=HJ.out.c;have sk:=SK.out i hlt;have aL:=sL.out i;have ADi:=aA (AD.out i hlt);obtain⟨m,hm⟩:=xe (x.bS+4096*i);rw[<-hm] at ADi;generalize t.m.pg i=q at *;go_wp2_with fail;refine MP.out.mono ?_;rintro e w4 ⟨rfl,h4⟩;replace h4:=h4.symm;subst h4;go_wp2_with fail;refine AT.out.mono ?_;rintro e w5 ⟨rfl,hk5⟩;have G6:=aA (GS.keep hG.out (hk5.alloc (aI q)));have X5:=aA (nH w5 (aI q));clear MP AT hk5 c0 c2 c3 c4 c5 c6 hG HJ;go_upto_region 8 with fail;generalize w5.alloc (aI q)=w6 at *;generalize w5.heap.size=y5 at *;obtain⟨x0,x1,x2,x3,x4,x5,x6,x7,x8,x9,x10⟩:=kL X5.out
   cases sk with
   | none hq h1=>
    rw[h1,List.append_nil] at aL;have q2:(q.kd == 2)=false:=(by rw[beq_eq_false_iff_ne];omega);have q4:(q.kd == 4)=false:=(by rw[beq_eq_false_iff_ne];omega);clear hq;go_wp2_with fail;exact⟨⟨i+1,by omega,by simp,aA (by rw[aL];exact G6.out)⟩,by simp[intOf];omega⟩
   | head k hk hq ho h1=>
    have q2:(q.kd == 2)=true:=(by rw[beq_iff_eq];exact hq);have RN:=aA (fun W'=>DR k hk q ho W');obtain⟨z,hz⟩:=xe (4096*2 ^ k);rw[<-hz] at RN h1;rw[<-hm] at h1;rw[h1] at aL;have KD:=aA ((Kt.refl nO w6).drew);have AL:=aA aL;have HLE:=aA hle;have XC:=aA (fun W' (kk:Kt nO w6 W')=>kL ((kk.block _ (lH X5.out) id).trans X5.out));have XE:=aA (fun W7 W8 (k7:Kt nO w6 W7) (k8:Kt (fun b=>(Value.slice va (f i).length vc).ownBlock=some b) W7 W8)=>kL ((k8.block _ (Nat.lt_of_lt_of_le (lH X5.out) k7.size) (fun e=>by
     obtain⟨cs,hcs⟩:=rU G6.out.own e;rw[X5.out] at hcs;simp at hcs)).trans ((k7.block _ (lH X5.out) id).trans X5.out)))
    have HL6:=aA (show(f i).length<=4000000 by omega);have A6:=aA (ADi.out _ (nT G6.out.kp KD.out));clear hq ho hk hz h1 aL hm hle hin;go_wp2_with fail;refine wp_region_noPanic ?_;obtain⟨d0,d1,d2,d3,d4,d5,d6,d7,d8,d9,d10⟩:=XC.out _ KD.out;go_region_held3 (fun w'=>w'.cell? ⟨y5,0,none⟩=some (.int .i64 q.kd)/\w'.cell? ⟨y5,1,none⟩=some (.int .i64 q.od)/\w'.cell? ⟨y5,2,none⟩=some (.int .i64 q.cl)/\w'.cell? ⟨y5,3,none⟩=some (.int .i64 q.lv)/\w'.cell? ⟨y5,4,none⟩=some (.int .i64 q.nx)/\w'.cell? ⟨y5,5,none⟩=some (.int .i64 q.pv)/\w'.cell? ⟨y5,6,none⟩=some (.int .i64 q.fs)/\w'.cell? ⟨y5,7,none⟩=some (.int .u64 q.b0)/\w'.cell? ⟨y5,8,none⟩=some (.int .u64 q.b1)/\w'.cell? ⟨y5,9,none⟩=some (.int .u64 q.b2)/\w'.cell? ⟨y5,10,none⟩=some (.int .u64 q.b3)) ((refine⟨?_,?_,?_,?_,?_,?_,?_,?_,?_,?_,?_⟩ <;> with_reducible assumption)) (first
     | (go_at_call 73;(with_reducible refine A6.out.mono ?_);rintro e w7 ⟨rfl,h7⟩;replace h7:=h7.symm;subst h7)
     | (go_at_call 74;(with_reducible refine(RN.out _).mono ?_);rintro e w7 ⟨rfl,hk7⟩;have K7:=aA (nT KD.out hk7);obtain⟨v0,v1,v2,v3,v4,v5,v6,v7,v8,v9,v10⟩:=XC.out _ K7.out;obtain⟨b0,b1,b2,b3,b4,b5,b6,b7,b8,b9,b10⟩:=XC.out _ (K7.out.alloc (nM m z));obtain⟨gg,cap,w8,HAP,G8,K8⟩:=GB.push (GS.keep G6.out K7.out) m z (HL6.out);obtain⟨e0,e1,e2,e3,e4,e5,e6,e7,e8,e9,e10⟩:=XE.out _ _ K7.out K8;clear hk7 K8;have G8:=aA G8;replace HAP:=aA HAP)
     | (refine WM rfl (.tmp 41) (.tmp 48) rfl rfl rfl HAP.out ?_)
     | fail)
    all_goals
     refine NoPanic.normal ?_;go_wp2_with fail;exact⟨⟨i+1,by omega,by simp,aA (by rw[AL.out];exact G8.out)⟩,by simp[intOf];omega⟩
   | slab k hq hc hl h1=>
    have q2:(q.kd == 2)=false:=(by rw[beq_eq_false_iff_ne];omega);have q4:(q.kd == 4)=true:=(by rw[beq_iff_eq];exact hq);rw[h1] at aL;have AL:=aA aL;have HLE:=aA hle;have C6:=aA (CH.out i k hc q hl _ G6.out.kp);have hcl:(gA x S i k (aG k)).length<=256:=by
     obtain⟨h,o⟩:=HI.out.so;exact Nat.le_trans (qH x S i k _) (dL (o.si.pg i k hc).1).2.2
    have HCL:=aA hcl;clear hq hc hl h1 aL hm hle hin hcl;go_wp2_with fail;refine C6.out.mono ?_;rintro e w7 ⟨u,rfl,hu⟩;have G7:=aA (GS.keep G6.out hu.kp);obtain⟨v8,w8,HAP,G8,_⟩:=GB.pushL G7.out hu.own (by have:=HLE.out;omega) (by have:=HCL.out;omega);have HAP:=aA HAP;have G8:=aA G8;clear hu;go_wp2_with (at_builtin;refine Lib.wpList_append_run _ rfl _ _ _ _ rfl _ _ rfl rfl _ _ (HAP.out _) ?_)
    exact⟨⟨i+1,by omega,by simp,aA (by rw[AL.out];exact G8.out)⟩,by simp[intOf];omega⟩
  ·obtain rfl:i=n:=(by omega);have hii:¬(i:Int)<i:=(by omega);have H9:=aA (HI.out.keep hG.out.kp);go_wp2_with fail;have UL:=aA (H9.out.unlock .returning);have D:=aA (show GB W (lM wr hb) (.slice va (f i).length vc) (f i)from by
    refine VU hG.out hsz (HH.out.round (K:=nO) id hG.out.kp H9.out rfl rfl rfl) (fun y hy=>(H9.out.set 0).2.block _ ?_ ?_)
    ·obtain⟨cs,hcs⟩:=rU hG.out.own hy;exact lH hcs
    ·intro e;subst e;obtain⟨cs,hcs⟩:=rU hG.out.own hy;rw[H9.out.bx] at hcs;simp at hcs)
   refine leaves_cons (f:=36) (args:=#[.pointer (some ⟨hb,0,none⟩)]) (by simp) (by simp[go_sem]) ?_;refine UL.out.mono ?_;rintro e u' w3 ⟨rfl,rfl,rfl⟩;exact⟨_,by simp[results,results32,go_sem],_,rfl,D.out⟩
end
section
variable {x:Bx} {t:Bt} {fr:Nat->List Nat} {B:Nat->Nat->Nat->Prop} {S:Sb} {L:Nat}
end
theorem bit_past{w:World}{b c n:Nat}{ws:List Nat}(h:SetAt w b c n ws){j:Nat}(hj:n<=j):aF ws j=false:=by
 unfold aF;by_cases hl:j/64<ws.length
 ·have h1:=h.ok (j/64) hl;have h2 : 2 ^ (min 64 (n-64*(j/64)))<=2 ^ (j%64):=Nat.pow_le_pow_right (by decide) (by omega);rw[Nat.div_eq_of_lt (Nat.lt_of_lt_of_le h1 h2)];rfl
 ·rw[List.getD_eq_getElem?_getD,List.getElem?_eq_none (by omega)];simp
section
variable {w Wo:World} {hb sb lw:Nat} {x:Bx} {t:Bt} {fr:Nat->List Nat} {ls:List (Nat×Nat)} {S:Sb} {s:Int}
theorem HW.st0(H:HW w Wo hb sb lw x t fr ls S s)(may:M.mayB x.bS (x.lim:Int) (x.o:Int)=true):∃ B,St0 x t fr B S x.lim:=by
 obtain⟨h,o⟩:=H.so;have hbd:=o.sw.pl.bd;obtain⟨B,sd,n9,hL⟩:=o.sf;obtain⟨r,hr1,hr2⟩:=hbd.sp.kn;have hR:=hbd.hR;have hst:=o.st;have hP:=Nat.two_pow_pos x.o;have hn:t.m.n=r*2 ^ x.o:=by
  have e:t.m.n*4096=r*2 ^ x.o*4096:=by rw[hst,hr1,hR,Nat.mul_comm 4096,Nat.mul_assoc]
  exact Nat.eq_of_mul_eq_mul_right (by decide) e
 have key:∀ (pin:∀ i,i<t.m.n->W.PgIn (t.m.pg i)),St0 x t fr B S x.lim:=fun pin=>
  ⟨sd,n9,hst,o.si,H.lv,may,by rw[hn,Nat.mul_div_cancel _ hP];exact hr2,fun k hk j hj=>bit_past (hbd.mp.set k (by rw[hbd.mo];exact hk)) hj,pin⟩
 have n1:=sd.n1;have ok:=hbd.mp.ok;refine⟨B,key fun i hi=>?_⟩;obtain⟨q1,q2,q3,q4,q5,q6,q7,q8⟩:=ok i hi;have num:(-9223372036854775808<=(t.m.pg i).kd/\(t.m.pg i).kd<=9223372036854775807)/\(-9223372036854775808<=(t.m.pg i).lv/\(t.m.pg i).lv<=9223372036854775807)/\(-9223372036854775808<=(t.m.pg i).nx/\(t.m.pg i).nx<=9223372036854775807)/\(-9223372036854775808<=(t.m.pg i).pv/\(t.m.pg i).pv<=9223372036854775807)/\(-9223372036854775808<=(t.m.pg i).fs/\(t.m.pg i).fs<=9223372036854775807):=by
  cases e:S.c i with
  | some k=>
   obtain⟨h2,h3⟩:=o.si.pg i k e;have hn:=dL h2;have hm:∀ r,r∈S.pl k->r<t.m.n:=fun r hr=>(o.mem ((o.si.pm k h2 r).1 hr).1).2.1
   have hf:(-1:Int)<=bD (S.fl i)/\bD (S.fl i)<=255:=by
    rcases oP (S.fl i)with e|⟨r,e,hr⟩
    ·omega
    ·have:=(o.si.fl i k (by assumption)).2.1 r hr;omega
   have hx:(-1:Int)<=bC (S.pl k) i/\bC (S.pl k) i<=(t.m.n:Int)-1:=by
    rcases lJ (S.pl k) i (o.si.pn k h2)with e|⟨r,e,hr,-⟩
    ·omega
    ·have:=hm r hr;omega
   have hy:(-1:Int)<=bG (S.pl k) i/\bG (S.pl k) i<=(t.m.n:Int)-1:=by
    rcases lZ (S.pl k) i (o.si.pn k h2)with e|⟨r,e,hr,-⟩
    ·omega
    ·have:=hm r hr;omega
   rw[h3.kd,h3.lv,h3.nx,h3.pv,h3.fs];refine⟨?_,?_,?_,?_,?_⟩ <;> omega
  | none=>
   obtain⟨g,p,k,hb,h1,h2⟩:=sd.cv i hi;have h9:g≠9:=fun e=>n9 p k (e▸hb)
   have htg:=sd.tg g p k hb;have hp:=sd.pg g p k hb h9 i h1 h2;rw[o.si.eP,gY e,Option.getD_none] at hp;rw[hp];simp only[aN];refine⟨?_,?_,?_,?_,?_⟩ <;> (try split) <;> omega
 obtain⟨m1,m2,m3,m4,m5⟩:=num;exact⟨m1,⟨by omega,by omega⟩,⟨by omega,by omega⟩,m2,m3,m4,m5,q5,q6,q7,q8⟩
end
set_option maxHeartbeats 8000000
set_option maxRecDepth 6000
theorem rY{P:World->Prop}(w:World)(h:∀ W,W=w->P W):P w:=h w rfl
abbrev jB:Obj:=.cells #[.int .u64 0,.int .i64 0,.int .i64 0,.int .i64 0,.slice none 0 0,.slice none 0 0,.slice none 0 0,.slice none 0 0,.slice none 0 0] 38 (0,0)
section
variable {w Wo:World} {hb sb lw:Nat} {x:Bx} {t:Bt} {fr:Nat->List Nat} {ls:List (Nat×Nat)} {S:Sb}
end
open Classical in
structure ImT(N:Nat)(W:World)(x:Bx)(t:Bt)(h:Nat->Int)(bm gp gq:Nat)(D:Nat->Nat)(g b:Nat):Prop where
 nm:N<=bm
 lm:bm<W.heap.size
 m:x.n=0\/M.Blk W bm x.n t.f
 np:N<=gp
 row:bH W gp t.m.n t.m.pg
 nq:N<=gq
 q:∃ cs:Array Value,W.heap[gq]?=some (.cells cs 35 (0,0))/\cs.size=t.m.o/\∀ j,j<t.m.o->cs[j]?=some (pE D t.m.wd j)
 nd:∀ j,j<t.m.o->N<=D j
 d:∀ j,j<t.m.o->W.heap[D j]?=some (.cells (bI (t.m.wd j)) 27 (0,0))
 ng:N<=g
 g:W.heap[g]?=some (.cells (bI (gX x t)) 27 (0,0))
 nb:N<=b
 b:W.heap[b]?=some (nK h)
theorem ImT.keep{N:Nat}{W W':World}{x t h bm gp gq D g b}(s:ImT N W x t h bm gp gq D g b){U:Nat->Prop}(k:Kt U W W')(hU:∀ y,U y->y<N):ImT N W' x t h bm gp gq D g b:=by
 have nu:∀ y,N<=y->¬U y:=fun y hy e=>by have:=hU y e;omega
 obtain⟨cs,q1,q2,q3⟩:=s.q;exact⟨s.nm,Nat.lt_of_lt_of_le s.lm k.size,s.m.imp id (fun hb=>⟨hb.1,(k.block _ (lH hb.2) (nu _ s.nm)).trans hb.2⟩),s.np,s.row.kept k (nu _ s.np),s.nq,⟨cs,(k.block _ (lH q1) (nu _ s.nq)).trans q1,q2,q3⟩,s.nd,fun j hj=>(k.block _ (lH (s.d j hj)) (nu _ (s.nd j hj))).trans (s.d j hj),s.ng,(k.block _ (lH s.g) (nu _ s.ng)).trans s.g,s.nb,(k.block _ (lH s.b) (nu _ s.nb)).trans s.b⟩
abbrev pK(x:Bx)(t:Bt)(bm gp gq g b:Nat):W.ImV:=⟨.slice (some ⟨bm,0,none⟩) x.n x.n,.slice (some ⟨gp,0,none⟩) t.m.n t.m.n,.slice (some ⟨gq,0,none⟩) t.m.o t.m.o,.slice (some ⟨g,0,none⟩) (x.o+1) (x.o+1),.slice (some ⟨b,0,none⟩) 8 8⟩
theorem BP{N:Nat}{V w Wo:World}{x t h bm gp gq D g b}{hb sb lw:Nat}{fr:Nat->List Nat}{ls:List (Nat×Nat)}{S:Sb}{s:Int}(T:ImT N V x t h bm gp gq D g b)(H:HW w Wo hb sb lw x t fr ls S s)(hh:∀ k,k<8->h k=bD (S.pl k))(may:M.mayB x.bS (x.lim:Int) (x.o:Int)=true):W.ImD V (bJ x t S x.lim) (pK x t bm gp gq g b):=by
 obtain⟨B,st⟩:=H.st0 may;obtain⟨kk,LL,f1,f2,f3,f4,f5,f6,f7,f8⟩:=W.may_facts may;obtain⟨n1,n2,n3,n4,n5,n6,n7⟩:=H.po.nums;have hbd:=H.po.pl.bd;have hle:=st.le;have hdl:(gX x t).length=x.o+1:=WC x t;refine⟨by show x.bS<_;omega,by show W.N64 (x.lim:Int);exact⟨by omega,by omega⟩,by show W.N64 (x.o:Int);exact⟨by omega,by omega⟩,?_,?_,?_,?_,?_,?_,?_⟩
 ·show W.N64 ((t.m.n/2 ^ x.o:Nat):Int)
  generalize t.m.n/2 ^ x.o=q at hle;exact⟨by omega,by omega⟩
 ·refine⟨by show x.n<=_;omega,_,_,rfl,T.m.imp id fun hB=>⟨bm,0,rfl,T.lm,fun i hi=>⟨hB.1 i hi,?_⟩⟩⟩;rw[Nat.zero_add];exact hB.cell i hi
 ·intro a n c e
  cases e
  exact Nat.le_refl _
 ·refine⟨by show t.m.n<=_;omega,_,_,rfl,.inr ⟨gp,0,rfl,aT.lt T.row,fun i hi=>⟨st.pin i hi,fun j hj=>?_⟩⟩⟩;obtain⟨cs,r1,r2,r3⟩:=T.row;have:=r3 i hi j hj;rw[Nat.zero_add];simp[World.cell?,r1,this];rfl
 ·obtain⟨cs,q1,q2,q3⟩:=T.q;have ho:t.m.o=x.o:=hbd.mo;refine⟨pE D t.m.wd,by show x.o<=_;omega,some ⟨gq,0,none⟩,x.o,by show Value.slice _ t.m.o t.m.o=_;rw[ho];rfl,.inr ⟨gq,0,rfl,lH q1,fun k hk=>⟨?_,?_⟩⟩⟩
  ·have:=q3 k (by rw[ho];exact hk);rw[Nat.zero_add];simp[World.cell?,q1,this]
  ·have hk':k<t.m.o:=(by rw[ho];exact hk);have hst:=hbd.mp.set k hk';refine⟨fun i=>?_,_,_,rfl,.inr ⟨⟨D k,0,none⟩,rfl,lH (T.d k hk'),fun j hj=>?_⟩⟩
   ·rcases Nat.lt_or_ge i (t.m.wd k).length with hi|hi
    ·exact Nat.lt_of_lt_of_le (hst.ok i hi) (Nat.pow_le_pow_right (by decide) (by omega))
    ·show(t.m.wd k).getD i 0<_
     rw[List.getD_eq_getElem?_getD,List.getElem?_eq_none hi];decide
   ·have hj:j<(t.m.wd k).length:=hj;rw[Addr.add_lit,Nat.zero_add];show V.cell? _=some (.int .u64 (((t.m.wd k).getD j 0:Nat):Int))
    simp[World.cell?,T.d k hk',bI,hj]
 ·have e:(bJ x t S x.lim).hd=gX x t:=rfl;rw[e,hdl];refine⟨by omega,_,_,rfl,.inr ⟨g,0,rfl,lH T.g,fun i hi=>?_⟩⟩;have hi':i<(gX x t).length:=by rw[hdl];exact hi
  refine⟨?_,?_⟩
  ·have:(gX x t).getD i 0=t.hd i:=by
    unfold gX;rw[List.getD_eq_getElem?_getD,List.getElem?_map,List.getElem?_range (by omega)];rfl
   rw[this];exact(hbd.ls i (by omega)).h64
  ·rw[Nat.zero_add];simp[World.cell?,T.g,bI,hi']
 ·have e:(bJ x t S x.lim).pt=(List.range 8).map fun k=>bD (S.pl k):=rfl
  rw[e];refine⟨by simp,some ⟨b,0,none⟩,8,by simp,.inr ⟨b,0,rfl,lH T.b,fun i hi=>?_⟩⟩;have hi8:i<8:=by simpa using hi
  have e2:((List.range 8).map fun k=>bD (S.pl k)).getD i 0=h i:=by
   rw[List.getD_eq_getElem?_getD,List.getElem?_map,List.getElem?_range hi8,hh i hi8];rfl
  rw[W.InC,e2];refine⟨?_,?_⟩
  ·rw[hh i hi8];obtain⟨h',o⟩:=H.so;rcases oP (S.pl i)with e|⟨r,e,hr⟩
   ·rw[e];exact⟨by omega,by omega⟩
   ·have:=(o.mem ((o.si.pm i hi8 r).1 hr).1).2.2.1;rw[e];exact⟨by omega,by omega⟩
  ·rw[Nat.zero_add];rcases i with _|_|_|_|_|_|_|_|i
   all_goals first|omega|simp[World.cell?,T.b]
set_option maxHeartbeats 8000000
set_option maxRecDepth 6000
def VQ(v:Value):Value->World->Prop:=fun u _=>u=v
def RH(W1:World)(x:Bx)(t:Bt):Value->World->Prop:=fun u W=>∃ g,u=.slice (some ⟨g,0,none⟩) (x.o+1) (x.o+1)/\W.heap[g]?=some (.cells (bI (gX x t)) 27 (0,0))/\W1.heap.size<=g
def RT(W1:World)(h:Nat->Int):Value->World->Prop:=fun u W=>∃ b,u=.slice (some ⟨b,0,none⟩) 8 8/\W.heap[b]?=some (nK h)/\W1.heap.size<=b
abbrev bV(x:Bx)(g b:Nat):Value:=.agg #[.int .u64 x.bS,.int .i64 x.lim,.int .i64 x.o,.int .i64 ((x.n/x.R:Nat):Int),.slice none 0 0,.slice none 0 0,.slice none 0 0,.slice (some ⟨g,0,none⟩) (x.o+1) (x.o+1),.slice (some ⟨b,0,none⟩) 8 8]
def RB(W1:World)(x:Bx)(t:Bt)(h:Nat->Int):Value->World->Prop:=fun u W=>∃ g b,u=bV x g b/\RH W1 x t (.slice (some ⟨g,0,none⟩) (x.o+1) (x.o+1)) W/\RT W1 h (.slice (some ⟨b,0,none⟩) 8 8) W
def RN(W1:World):Value->World->Prop:=fun u W=>∃ n,u=.pointer (some ⟨n,0,none⟩)/\W.heap[n]?=some jB/\W1.heap.size<=n
def lN(r:Value->World->Prop):Prop:=∀ u W W',r u W->Kt nO W W'->r u W'
theorem BN(v:Value):lN (VQ v):=fun u W W' h _=>h
theorem vL(W1 x t):lN (RH W1 x t):=fun u W W' ⟨g,h1,h2,h3⟩ k=>⟨g,h1,(k.block _ (lH h2) id).trans h2,h3⟩
theorem vK(W1 h):lN (RT W1 h):=fun u W W' ⟨g,h1,h2,h3⟩ k=>⟨g,h1,(k.block _ (lH h2) id).trans h2,h3⟩
theorem BM(W1 x t h):lN (RB W1 x t h):=fun u W W' ⟨g,b,h1,h2,h3⟩ k=>⟨g,b,h1,vL _ _ _ _ _ _ h2 k,vK _ _ _ _ _ h3 k⟩
theorem BL(W1):lN (RN W1):=fun u W W' ⟨g,h1,h2,h3⟩ k=>⟨g,h1,(k.block _ (lH h2) id).trans h2,h3⟩
theorem BJ{L:List (Value->World->Prop)}(h:∀ r∈L,lN r)(i:Nat):lN (L.getD i cN):=by
 rw[List.getD_eq_getElem?_getD]
 cases e:L[i]? with
 | none=>exact fun _ _ _ h _=>h
 | some r=>exact h r (List.mem_of_getElem? e)
def L3(W1:World)(hb sb lw:Nat)(x:Bx)(t:Bt)(h:Nat->Int):List (Value->World->Prop):=[VQ (.pointer (some ⟨hb,0,none⟩)),VQ (.pointer (some ⟨hb,0,none⟩)),VQ (.pointer (some ⟨hb,2,none⟩)),VQ (fZ x.bS (x.lim:Int) (x.o:Int)),VQ (.pointer (some ⟨hb,0,none⟩)),VQ (.pointer (some ⟨hb,0,none⟩)),VQ (.pointer (some ⟨hb,5,none⟩)),VQ (.pointer (some ⟨lw,0,none⟩)),VQ (.pointer (some ⟨lw,0,none⟩)),VQ (.pointer (some ⟨lw,0,none⟩)),VQ (.pointer (some ⟨x.s,0,none⟩)),VQ (.int .i64 ((x.n/x.R:Nat):Int)),VQ (.pointer (some ⟨hb,0,none⟩)),VQ (.pointer (some ⟨hb,0,none⟩)),VQ (.pointer (some ⟨hb,5,none⟩)),VQ (.pointer (some ⟨lw,0,none⟩)),VQ (.pointer (some ⟨lw,0,none⟩)),VQ (.pointer (some ⟨lw,0,none⟩)),VQ (.pointer (some ⟨x.b,0,none⟩)),RH W1 x t,VQ (.pointer (some ⟨hb,0,none⟩)),VQ (.pointer (some ⟨hb,0,none⟩)),VQ (.pointer (some ⟨hb,6,none⟩)),VQ (.pointer (some ⟨sb,0,none⟩)),RT W1 h,RB W1 x t h,RN W1]
theorem BI(W1 hb sb lw x t h):∀ r∈L3 W1 hb sb lw x t h,lN r:=by
 unfold L3;repeat refine List.forall_mem_cons.2 ⟨by first|exact BN _|exact vL _ _ _|exact vK _ _|exact BM _ _ _ _|exact BL _,?_⟩
 exact fun r hr=>by cases hr
abbrev F3(hb rb:Nat)(v:Nat->Value):Act:=⟨#[.pointer (some ⟨hb,0,none⟩),undef,.pointer (some ⟨rb,0,none⟩),v 26,.pointer (some ⟨hb,0,none⟩),.pointer (some ⟨hb,0,none⟩),.pointer (some ⟨hb,0,none⟩),.tuple #[],.pointer (some ⟨hb,0,none⟩),.pointer (some ⟨hb,0,none⟩),.pointer (some ⟨hb,0,none⟩),v 0,v 1,v 2,v 3,v 4,v 5,v 6,v 7,v 8,v 9,v 10,v 11,v 12,v 13,v 14,v 15,v 16,v 17,v 18,v 19,v 20,v 21,v 22,v 23,v 24,v 25,undef,undef,undef,undef,undef,undef,undef,undef,undef,undef,undef,undef,undef,undef,undef,undef,undef,undef,undef,undef,undef,undef,undef,undef,undef,undef,undef,undef,undef,undef,undef,undef,undef],[{ target:=Target.fn (Fn.func 36) #[],args:=#[.pointer (some ⟨hb,0,none⟩)] }]⟩
theorem vJ{W:World}{y:Nat}(h:W.heap[y]?=some jB):W.cell? ⟨y,0,none⟩=some (.int .u64 0)/\W.cell? ⟨y,1,none⟩=some (.int .i64 0)/\W.cell? ⟨y,2,none⟩=some (.int .i64 0)/\W.cell? ⟨y,3,none⟩=some (.int .i64 0)/\W.cell? ⟨y,4,none⟩=some (.slice none 0 0)/\W.cell? ⟨y,5,none⟩=some (.slice none 0 0)/\W.cell? ⟨y,6,none⟩=some (.slice none 0 0)/\W.cell? ⟨y,7,none⟩=some (.slice none 0 0)/\W.cell? ⟨y,8,none⟩=some (.slice none 0 0)/\∀ j,W.frozen? ⟨y,j,none⟩=false:=by
 refine⟨?_,?_,?_,?_,?_,?_,?_,?_,?_,fun j=>?_⟩ <;> simp[World.cell?,World.frozen?,h]
abbrev iB(x:Bx)(m p r:Value)(g b:Nat):Obj:=.cells #[.int .u64 x.bS,.int .i64 x.lim,.int .i64 x.o,.int .i64 ((x.n/x.R:Nat):Int),m,p,r,.slice (some ⟨g,0,none⟩) (x.o+1) (x.o+1),.slice (some ⟨b,0,none⟩) 8 8] 38 (0,0)
theorem uU{W:World}{y:Nat}{x:Bx}{ma pa ra:Option Addr}{ml mc pl pc rl rc g b:Nat}(h:W.heap[y]?=some (iB x (.slice ma ml mc) (.slice pa pl pc) (.slice ra rl rc) g b)):W.cell? ⟨y,0,none⟩=some (.int .u64 x.bS)/\W.cell? ⟨y,1,none⟩=some (.int .i64 x.lim)/\W.cell? ⟨y,2,none⟩=some (.int .i64 x.o)/\W.cell? ⟨y,3,none⟩=some (.int .i64 ((x.n/x.R:Nat):Int))/\W.cell? ⟨y,4,none⟩=some (.slice ma ml mc)/\W.cell? ⟨y,5,none⟩=some (.slice pa pl pc)/\W.cell? ⟨y,6,none⟩=some (.slice ra rl rc)/\W.cell? ⟨y,7,none⟩=some (.slice (some ⟨g,0,none⟩) (x.o+1) (x.o+1))/\W.cell? ⟨y,8,none⟩=some (.slice (some ⟨b,0,none⟩) 8 8)/\∀ j,W.frozen? ⟨y,j,none⟩=false:=by
 refine⟨?_,?_,?_,?_,?_,?_,?_,?_,?_,fun j=>?_⟩ <;> simp[World.cell?,World.frozen?,h]
theorem yH{W:World}{y:Nat}(u0 u1 u2 u3 u4 u5 u6 u7 u8:Value):Kt (fun z=>z=y) W (((((((((W.setCell ⟨y,0,none⟩ u0).setCell ⟨y,1,none⟩ u1).setCell ⟨y,2,none⟩ u2).setCell ⟨y,3,none⟩ u3).setCell ⟨y,4,none⟩ u4).setCell ⟨y,5,none⟩ u5).setCell ⟨y,6,none⟩ u6).setCell ⟨y,7,none⟩ u7).setCell ⟨y,8,none⟩ u8):=
 (((((((((Kt.refl (fun z=>z=y) W).setCell (p:=⟨y,0,none⟩) rfl u0).setCell (p:=⟨y,1,none⟩) rfl u1).setCell (p:=⟨y,2,none⟩) rfl u2).setCell (p:=⟨y,3,none⟩) rfl u3).setCell (p:=⟨y,4,none⟩) rfl u4).setCell (p:=⟨y,5,none⟩) rfl u5).setCell (p:=⟨y,6,none⟩) rfl u6).setCell (p:=⟨y,7,none⟩) rfl u7).setCell (p:=⟨y,8,none⟩) rfl u8
theorem pG{W:World}{y:Nat}(h:W.heap[y]?=some jB)(u0 u1 u2 u3 u4 u5 u6 u7 u8:Value):(((((((((W.setCell ⟨y,0,none⟩ u0).setCell ⟨y,1,none⟩ u1).setCell ⟨y,2,none⟩ u2).setCell ⟨y,3,none⟩ u3).setCell ⟨y,4,none⟩ u4).setCell ⟨y,5,none⟩ u5).setCell ⟨y,6,none⟩ u6).setCell ⟨y,7,none⟩ u7).setCell ⟨y,8,none⟩ u8).heap[y]?=some (.cells #[u0,u1,u2,u3,u4,u5,u6,u7,u8] 38 (0,0)):=by
 have:=heap_set (heap_set (heap_set (heap_set (heap_set (heap_set (heap_set (heap_set (heap_set h 0 u0) 1 u1) 2 u2) 3 u3) 4 u4) 5 u5) 6 u6) 7 u7) 8 u8;simpa using this
def mM(W2:World)(x:Bx)(t:Bt)(bm:Nat)(W:World):Prop:=W2.heap.size<=bm/\bm<W.heap.size/\(x.n=0\/M.Blk W bm x.n t.f)
theorem mM.keep{W2 W W':World}{x:Bx}{t:Bt}{bm:Nat}(h:mM W2 x t bm W){U:Nat->Prop}(k:Kt U W W')(hU:¬U bm):mM W2 x t bm W':=
 ⟨h.1,Nat.lt_of_lt_of_le h.2.1 k.size,h.2.2.imp id (fun hb=>⟨hb.1,(k.block _ (lH hb.2) hU).trans hb.2⟩)⟩
def RM(W2:World)(x:Bx)(t:Bt):Value->World->Prop:=fun u W=>∃ bm,u=.tuple #[.slice (some ⟨bm,0,none⟩) x.n x.n,.int .i64 0]/\mM W2 x t bm W
def RQ(W2:World)(x:Bx)(t:Bt):Value->World->Prop:=fun u W=>∃ bm,u=.slice (some ⟨bm,0,none⟩) x.n x.n/\mM W2 x t bm W
def RS(W2:World)(n:Nat)(x:Bx)(t:Bt)(g b:Nat):Value->World->Prop:=fun _ W=>∃ bm,W.heap[n]?=some (iB x (.slice (some ⟨bm,0,none⟩) x.n x.n) (.slice none 0 0) (.slice none 0 0) g b)/\mM W2 x t bm W
def L4(W2:World)(hb sb lw n:Nat)(x:Bx)(t:Bt):List (Value->World->Prop):=[VQ (.pointer (some ⟨hb,0,none⟩)),VQ (.pointer (some ⟨hb,0,none⟩)),VQ (.pointer (some ⟨hb,5,none⟩)),VQ (.pointer (some ⟨lw,0,none⟩)),VQ (.pointer (some ⟨lw,0,none⟩)),VQ (.pointer (some ⟨lw,0,none⟩)),VQ (.pointer (some ⟨x.s,0,none⟩)),VQ (.pointer (some ⟨hb,0,none⟩)),VQ (.pointer (some ⟨hb,0,none⟩)),VQ (.pointer (some ⟨hb,2,none⟩)),VQ (.pointer (some ⟨hb,2,none⟩)),VQ (.int .u64 x.bS),VQ (.pointer (some ⟨hb,0,none⟩)),VQ (.int .u64 x.n),RM W2 x t,RM W2 x t,RQ W2 x t,VQ (.int .i64 0),VQ (.pointer (some ⟨n,4,none⟩))]
abbrev F4(hb rb:Nat)(v v4:Nat->Value):Act:=⟨#[.pointer (some ⟨hb,0,none⟩),undef,.pointer (some ⟨rb,0,none⟩),v 26,.pointer (some ⟨hb,0,none⟩),.pointer (some ⟨hb,0,none⟩),.pointer (some ⟨hb,0,none⟩),.tuple #[],.pointer (some ⟨hb,0,none⟩),.pointer (some ⟨hb,0,none⟩),.pointer (some ⟨hb,0,none⟩),v 0,v 1,v 2,v 3,v 4,v 5,v 6,v 7,v 8,v 9,v 10,v 11,v 12,v 13,v 14,v 15,v 16,v 17,v 18,v 19,v 20,v 21,v 22,v 23,v 24,v 25,v4 15,v4 0,v4 1,v4 2,v4 3,v4 4,v4 5,v4 6,v4 7,v4 8,v4 9,v4 10,v4 11,v4 12,v4 13,v4 14,v4 16,v4 17,v4 18,undef,undef,undef,undef,undef,undef,undef,undef,undef,undef,undef,undef,undef,undef],[{ target:=Target.fn (Fn.func 36) #[],args:=#[.pointer (some ⟨hb,0,none⟩)] }]⟩
theorem vI{W2:World}{hb sb lw n:Nat}{x:Bx}{t:Bt}(U:Nat->Prop)(hU:∀ y,U y->y<W2.heap.size):∀ r∈L4 W2 hb sb lw n x t,∀ u W W',r u W->Kt U W W'->r u W':=by
 have h1:∀ v,∀ u W W',VQ v u W->Kt U W W'->VQ v u W':=fun v u W W' h _=>h
 have h2:∀ u W W',RM W2 x t u W->Kt U W W'->RM W2 x t u W':=fun u W W' ⟨bm,h3,h4⟩ k=>⟨bm,h3,h4.keep k (fun e=>absurd (hU _ e) (Nat.not_lt.2 h4.1))⟩
 have h3:∀ u W W',RQ W2 x t u W->Kt U W W'->RQ W2 x t u W':=fun u W W' ⟨bm,h3,h4⟩ k=>⟨bm,h3,h4.keep k (fun e=>absurd (hU _ e) (Nat.not_lt.2 h4.1))⟩
 unfold L4;repeat refine List.forall_mem_cons.2 ⟨by first|exact h1 _|exact h2|exact h3,?_⟩
 exact fun r hr=>by cases hr
section
variable {w Wo:World} {hb sb lw:Nat} {x:Bx} {t:Bt} {fr:Nat->List Nat} {ls:List (Nat×Nat)} {S:Sb} {s:Int}
theorem TS(H:HW w Wo hb sb lw x t fr ls S s):
  Calls prog 43 #[.pointer (some ⟨x.s,0,none⟩),.int .u64 x.bS,.int .u64 x.n] Wo fun e w'=>∃ bm,e=.returned (.tuple #[.slice (some ⟨bm,0,none⟩) x.n x.n,.int .i64 0])/\mM Wo x t bm w'/\Kt nO Wo w':=by
 rcases Nat.eq_zero_or_pos x.n with h0|h0
 ·rw[h0];refine(M.Read_zero x.s (x.bS:Int) Wo).mono ?_;rintro e w' ⟨rfl,hk,hl⟩;exact⟨_,rfl,⟨Nat.le_succ _,hl,.inl h0⟩,fM hk⟩
 ·refine(H.read h0 (p:=x.bS) ⟨Nat.le_refl _,by omega⟩).mono ?_;rintro e w' ⟨rfl,hb,hk⟩;have e:(fun i=>t.f (x.bS-x.bS+i))=t.f:=by funext i;rw[Nat.sub_self,Nat.zero_add]
  rw[e] at hb;exact⟨_,rfl,⟨Nat.le_succ _,hb.lt,.inr hb⟩,hk⟩
end
section
variable {w Wo:World} {hb sb lw:Nat} {x:Bx} {t:Bt} {fr:Nat->List Nat} {ls:List (Nat×Nat)} {S:Sb}
def ImP(Wo:World)(x:Bx)(t:Bt)(S:Sb)(e:Ending)(w':World):Prop:=∃ V,e=.returned (W.imA (bJ x t S x.lim) V)/\W.ImD w' (bJ x t S x.lim) V/\Kt nO Wo w'
theorem IQ(H:HW w Wo hb sb lw x t fr ls S 0)(may:M.mayB x.bS (x.lim:Int) (x.o:Int)=true):
  Calls prog 13 #[.pointer (some ⟨hb,0,none⟩)] Wo (ImP Wo x t S):=by
 have ka:=(Kt.refl nO Wo).alloc jB;have H0:=aA (H.keep ka);have X0:=aA (nH Wo jB);have LK:=aA H0.out.lock;clear ka;go_enter_defers func13,ntmps13;go_wp2_with fail;refine LK.out.mono ?_;rintro e W1 ⟨rfl,hw1⟩;have H1:=aA (show HW w W1 hb sb lw x t fr ls S 1 from by rw[hw1];exact H0.out.in);have E1:=aA (show W1=jA (Wo.alloc jB) hb from hw1);clear hw1;have NRB:=aA (show Wo.heap.size≠hb from fun e=>by have:=lH H.bx;omega);have R1:=aA (show W1.heap[Wo.heap.size]?=some jB from by rw[E1.out];exact((H0.out.set 1).2.block _ (lH X0.out) NRB.out).trans X0.out);have WRB:=aA (show w.heap.size<=Wo.heap.size from H.po.pl.kp.size);have KAR:=aA (show ∀ W',Kt (fun y=>y=Wo.heap.size) (Wo.alloc jB) W'->Kt nO Wo W' from fun W' k=>((Kt.refl nO Wo).alloc jB).trans k (fun _ _ e=>e) (fun y hy e=>by omega));generalize Wo.alloc jB=Wa at *;generalize Wo.heap.size=rb at *;obtain⟨h,o⟩:=H1.out.so;have SW1:=aA o.sw;have HD8:=aA o.hd;clear o;go_upto_region 3 with fail;rename_i K hK;refine wp_region_noPanic ?_;refine BA (by kernel_rfl) (F3 hb rb) (fun _=>undef) (Kt nO) (fun _ _ _=>nT) (fun i=>(L3 W1 hb sb lw x t h).getD i cN) (fun i=>BJ (BI W1 hb sb lw x t h) i) 27 rfl (by kernel_rfl) (by kernel_rfl) (Kt.refl nO W1).drew ?_ ?_
 ·intro i o ho hi v W kW hd;have HX:=aA (H1.out.keep kW);obtain⟨c0,c2,c3,c4,c5,c6⟩:=HX.out.c;match i,hi with
  | 0,_=>
   clear hd ho;refine bE rfl ?_;go_wp2_with fail;exact⟨.pointer (some ⟨hb,0,none⟩),(by simp[aD]),rfl,Kt.refl _ _⟩
  | 1,_=>
   have e0:v 0=.pointer (some ⟨hb,0,none⟩):=hd 0 (by kernel_rfl);clear hd ho;refine bE rfl ?_;go_wp2_with fail;exact⟨.pointer (some ⟨hb,0,none⟩),(by simp[aD,e0]),rfl,Kt.refl _ _⟩
  | 2,_=>
   have e1:v 1=.pointer (some ⟨hb,0,none⟩):=hd 1 (by kernel_rfl);clear hd ho;refine bE rfl ?_;go_wp2_with fail;exact⟨.pointer (some ⟨hb,2,none⟩),(by simp[aD,e1]),rfl,Kt.refl _ _⟩
  | 3,_=>
   have e2:v 2=.pointer (some ⟨hb,2,none⟩):=hd 2 (by kernel_rfl);clear hd ho;refine bE rfl ?_;go_wp2_with fail;exact⟨fZ x.bS (x.lim:Int) (x.o:Int),(by simp[aD,e2]),rfl,Kt.refl _ _⟩
  | 4,_=>
   clear hd ho;refine bE rfl ?_;go_wp2_with fail;exact⟨.pointer (some ⟨hb,0,none⟩),(by simp[aD]),rfl,Kt.refl _ _⟩
  | 5,_=>
   have e4:v 4=.pointer (some ⟨hb,0,none⟩):=hd 4 (by kernel_rfl);clear hd ho;refine bE rfl ?_;go_wp2_with fail;exact⟨.pointer (some ⟨hb,0,none⟩),(by simp[aD,e4]),rfl,Kt.refl _ _⟩
  | 6,_=>
   have e5:v 5=.pointer (some ⟨hb,0,none⟩):=hd 5 (by kernel_rfl);clear hd ho;refine bE rfl ?_;go_wp2_with fail;exact⟨.pointer (some ⟨hb,5,none⟩),(by simp[aD,e5]),rfl,Kt.refl _ _⟩
  | 7,_=>
   have e6:v 6=.pointer (some ⟨hb,5,none⟩):=hd 6 (by kernel_rfl);clear hd ho;refine bE rfl ?_;go_wp2_with fail;exact⟨.pointer (some ⟨lw,0,none⟩),(by simp[aD,e6]),rfl,Kt.refl _ _⟩
  | 8,_=>
   have e7:v 7=.pointer (some ⟨lw,0,none⟩):=hd 7 (by kernel_rfl);clear hd ho;refine bE rfl ?_;go_wp2_with fail;exact⟨.pointer (some ⟨lw,0,none⟩),(by simp[aD,e7]),rfl,Kt.refl _ _⟩
  | 9,_=>
   have e8:v 8=.pointer (some ⟨lw,0,none⟩):=hd 8 (by kernel_rfl);clear hd ho;refine bE rfl ?_;go_wp2_with fail;exact⟨.pointer (some ⟨lw,0,none⟩),(by simp[aD,e8]),rfl,Kt.refl _ _⟩
  | 10,_=>
   have e9:v 9=.pointer (some ⟨lw,0,none⟩):=hd 9 (by kernel_rfl);clear hd ho;refine bE rfl ?_;go_wp2_with (go_at_call 38;(refine(lF HX.out.po.pl).mono ?_);rintro e wX ⟨rfl,h1⟩;replace h1:=h1.symm;subst h1)
   exact⟨.pointer (some ⟨x.s,0,none⟩),(by simp[aD,e9]),rfl,Kt.refl _ _⟩
  | 11,_=>
   have e10:v 10=.pointer (some ⟨x.s,0,none⟩):=hd 10 (by kernel_rfl);clear hd ho;refine bE rfl ?_;go_wp2_with (go_at_call 39;(refine(M.regions_any x.s x.a x.bS x.R x.lim x.n t.f W HX.out.po.pl.bd.sp).mono ?_);rintro e wX ⟨rfl,m,h1⟩;have KX:=aA (show Kt nO W wX from by rw[h1];exact(Kt.refl nO W).drewN m);clear h1)
   exact⟨.int .i64 ((x.n/x.R:Nat):Int),(by simp[aD,e10]),rfl,KX.out⟩
  | 12,_=>
   clear hd ho;refine bE rfl ?_;go_wp2_with fail;exact⟨.pointer (some ⟨hb,0,none⟩),(by simp[aD]),rfl,Kt.refl _ _⟩
  | 13,_=>
   have e12:v 12=.pointer (some ⟨hb,0,none⟩):=hd 12 (by kernel_rfl);clear hd ho;refine bE rfl ?_;go_wp2_with fail;exact⟨.pointer (some ⟨hb,0,none⟩),(by simp[aD,e12]),rfl,Kt.refl _ _⟩
  | 14,_=>
   have e13:v 13=.pointer (some ⟨hb,0,none⟩):=hd 13 (by kernel_rfl);clear hd ho;refine bE rfl ?_;go_wp2_with fail;exact⟨.pointer (some ⟨hb,5,none⟩),(by simp[aD,e13]),rfl,Kt.refl _ _⟩
  | 15,_=>
   have e14:v 14=.pointer (some ⟨hb,5,none⟩):=hd 14 (by kernel_rfl);clear hd ho;refine bE rfl ?_;go_wp2_with fail;exact⟨.pointer (some ⟨lw,0,none⟩),(by simp[aD,e14]),rfl,Kt.refl _ _⟩
  | 16,_=>
   have e15:v 15=.pointer (some ⟨lw,0,none⟩):=hd 15 (by kernel_rfl);clear hd ho;refine bE rfl ?_;go_wp2_with fail;exact⟨.pointer (some ⟨lw,0,none⟩),(by simp[aD,e15]),rfl,Kt.refl _ _⟩
  | 17,_=>
   have mJ:v 16=.pointer (some ⟨lw,0,none⟩):=hd 16 (by kernel_rfl);clear hd ho;refine bE rfl ?_;go_wp2_with fail;exact⟨.pointer (some ⟨lw,0,none⟩),(by simp[aD,mJ]),rfl,Kt.refl _ _⟩
  | 18,_=>
   have e17:v 17=.pointer (some ⟨lw,0,none⟩):=hd 17 (by kernel_rfl);clear hd ho;refine bE rfl ?_;go_wp2_with (go_at_call 40;(refine(CO HX.out.po.pl).mono ?_);rintro e wX ⟨rfl,h1⟩;replace h1:=h1.symm;subst h1)
   exact⟨.pointer (some ⟨x.b,0,none⟩),(by simp[aD,e17]),rfl,Kt.refl _ _⟩
  | 19,_=>
   have e18:v 18=.pointer (some ⟨x.b,0,none⟩):=hd 18 (by kernel_rfl);clear hd ho;refine bE rfl ?_;go_wp2_with (go_at_call 41;(refine(UT x t W HX.out.po.pl.bd).mono ?_);rintro e wX ⟨rfl,hx2,hx3⟩;have KX:=aA hx3;have GX:=aA hx2;clear hx2 hx3)
   exact⟨.slice (some ⟨_,0,none⟩) (x.o+1) (x.o+1),(by simp[aD,e18]),⟨_,rfl,GX.out,kW.size⟩,KX.out⟩
  | 20,_=>
   clear hd ho;refine bE rfl ?_;go_wp2_with fail;exact⟨.pointer (some ⟨hb,0,none⟩),(by simp[aD]),rfl,Kt.refl _ _⟩
  | 21,_=>
   have e20:v 20=.pointer (some ⟨hb,0,none⟩):=hd 20 (by kernel_rfl);clear hd ho;refine bE rfl ?_;go_wp2_with fail;exact⟨.pointer (some ⟨hb,0,none⟩),(by simp[aD,e20]),rfl,Kt.refl _ _⟩
  | 22,_=>
   have e21:v 21=.pointer (some ⟨hb,0,none⟩):=hd 21 (by kernel_rfl);clear hd ho;refine bE rfl ?_;go_wp2_with fail;exact⟨.pointer (some ⟨hb,6,none⟩),(by simp[aD,e21]),rfl,Kt.refl _ _⟩
  | 23,_=>
   have e22:v 22=.pointer (some ⟨hb,6,none⟩):=hd 22 (by kernel_rfl);clear hd ho;refine bE rfl ?_;go_wp2_with fail;exact⟨.pointer (some ⟨sb,0,none⟩),(by simp[aD,e22]),rfl,Kt.refl _ _⟩
  | 24,_=>
   have e23:v 23=.pointer (some ⟨sb,0,none⟩):=hd 23 (by kernel_rfl);clear hd ho;refine bE rfl ?_;go_wp2_with (go_at_call 42;(refine(VJ (SW1.out.keep kW)).mono ?_);rintro e wX ⟨bb,rfl,hx2,hx3,hx4⟩;have KX:=aA hx3;have GX:=aA hx2;have NX:=aA hx4;clear hx2 hx3 hx4)
   exact⟨.slice (some ⟨bb,0,none⟩) 8 8,(by simp[aD,e23]),⟨_,rfl,GX.out,Nat.le_trans kW.size NX.out⟩,KX.out⟩
  | 25,_=>
   have e3:v 3=fZ x.bS (x.lim:Int) (x.o:Int):=hd 3 (by kernel_rfl);have e11:v 11=.int .i64 ((x.n/x.R:Nat):Int):=hd 11 (by kernel_rfl);have r19:RH W1 x t (v 19) W:=hd 19 (by kernel_rfl);obtain⟨g,e19,hg1,hg2⟩:=r19;have r24:RT W1 h (v 24) W:=hd 24 (by kernel_rfl);obtain⟨b,e24,hb1,hb2⟩:=r24;clear hd ho;refine bE rfl ?_;go_wp2_with fail;exact⟨bV x g b,(by simp[aD,e3,e11,e19,e24]),⟨g,b,rfl,⟨g,rfl,hg1,hg2⟩,b,rfl,hb1,hb2⟩,Kt.refl _ _⟩
  | 26,_=>
   clear hd ho;refine bE rfl ?_;go_wp2_with fail;exact⟨.pointer (some ⟨W.heap.size,0,none⟩),(by simp[aD]),⟨_,rfl,nH W jB,kW.size⟩,(Kt.refl nO W).alloc _⟩
  | i+27,hi=>omega
 ·intro o ho v W kW hd;obtain⟨g,b,e25,hH,hT⟩:RB W1 x t h (v 25) W:=hd 25 (by decide);obtain⟨n,e26,hn1,hn2⟩:RN W1 (v 26) W:=hd 26 (by decide);obtain⟨z0,z1,z2,z3,z4,z5,z6,z7,z8,zf⟩:=vJ hn1;have f0:=zf 0;have f1:=zf 1;have f2:=zf 2;have f3:=zf 3;have f4:=zf 4;have f5:=zf 5;have f6:=zf 6;have f7:=zf 7;have f8:=zf 8;have H2:=aA (H1.out.keep kW);have HN:=aA hn1;have HG:=aA hH;have HB:=aA hT;have NL:=aA hn2;clear hd ho hH hT hn1 hn2 zf;refine bE rfl ?_;go_wp2_with fail;refine NoPanic.normal ?_;refine rY (P:=fun W'=>Exit.then _ _ Exit.normal _ W') _ ?_;intro W2 hW2;have K2:=aA (show Kt (fun y=>y=n) W W2 from by rw[hW2];exact yH _ _ _ _ _ _ _ _ _);have X2:=aA (show W2.heap[n]?=some (iB x (.slice none 0 0) (.slice none 0 0) (.slice none 0 0) g b)from by
   rw[hW2];have:=pG HN.out (.int .u64 x.bS) (.int .i64 x.lim) (.int .i64 x.o) (.int .i64 ((x.n:Int)/(x.R:Int))) (.slice none 0 0) (.slice none 0 0) (.slice none 0 0) (.slice (some ⟨g,0,none⟩) (x.o+1) (x.o+1)) (.slice (some ⟨b,0,none⟩) 8 8);exact this)
  have Z0:=aA (show Kt nO W1 W2 from kW.trans K2.out (fun _ _ e=>e) (fun y hy e=>by have:=NL.out;omega));have J2:=aA (show HW w W2 hb sb lw x t fr ls S 1 from H2.out.other HN.out (Nat.le_trans H1.out.po.pl.kp.size NL.out) (by unfold Go.Proofs.YtkfmheelhinjdaaGreatDoor.pty;decide) (by decide) (by decide) K2.out);have G2:=aA (show RH W1 x t (.slice (some ⟨g,0,none⟩) (x.o+1) (x.o+1)) W2 from by
   obtain⟨g',e,h1,h2⟩:=HG.out
   cases e
   exact⟨g,rfl,(K2.out.block _ (lH h1) (bR h1 HN.out (by decide))).trans h1,h2⟩)
  have B2:=aA (show RT W1 h (.slice (some ⟨b,0,none⟩) 8 8) W2 from by
   obtain⟨g',e,h1,h2⟩:=HB.out
   cases e
   exact⟨b,rfl,(K2.out.block _ (lH h1) (bR h1 HN.out (by decide))).trans h1,h2⟩)
  clear hW2 z0 z1 z2 z3 z4 z5 z6 z7 z8 f0 f1 f2 f3 f4 f5 f6 f7 f8 H2 HN HG HB K2 e25 kW;have NW:=aA (show w.heap.size<=n from Nat.le_trans H1.out.po.pl.kp.size NL.out);have N2:=aA (show n<W2.heap.size from lH X2.out);refine hK _ _ ?_;go_upto_region 4 with fail;rename_i K4 hK4;refine wp_region_noPanic ?_;refine ZM (by kernel_rfl) (F4 hb rb v) (fun _=>undef) (fun W=>(HW w W hb sb lw x t fr ls S 1/\(∃ ma ml mc,W.heap[n]?=some (iB x (.slice ma ml mc) (.slice none 0 0) (.slice none 0 0) g b)))/\Kt (fun y=>y=n) W2 W) (Kt nO) (fun W W'=>∃ ua ul uc,W'=W.setCell ⟨n,4,none⟩ (.slice ua ul uc)) (L4 W2 hb sb lw n x t) (RS W2 n x t g b) 19 rfl rfl ?_ ?_ ?_ ?_ ?_ (by kernel_rfl) ?_ ?_ ?_ ?_
  ·rintro W W' ⟨⟨h1,ma,ml,mc,h2⟩,h3⟩ k;exact⟨⟨h1.keep k,ma,ml,mc,(k.block _ (lH h2) id).trans h2⟩,h3.trans k (fun _ _ e=>e) (fun _ _ e=>False.elim e)⟩
  ·rintro W W' ⟨⟨h1,ma,ml,mc,h2⟩,h3⟩ ⟨ua,ul,uc,rfl⟩;have k:=(Kt.refl (fun y=>y=n) W).setCell (p:=⟨n,4,none⟩) rfl (.slice ua ul uc);refine⟨⟨h1.other h2 NW.out (by unfold Go.Proofs.YtkfmheelhinjdaaGreatDoor.pty;decide) (by decide) (by decide) k,ua,ul,uc,?_⟩,h3.trans k (fun _ _ e=>e) (fun _ _ e=>e)⟩;exact heap_set h2 4 (.slice ua ul uc)
  ·exact fun r hr u W W' _ h k=>vI _ (fun y e=>by cases e) r hr u W W' h k
  ·rintro u W W' _ ⟨bm,h1,h2⟩ k;exact⟨bm,(k.block _ (lH h1) id).trans h1,h2.keep k id⟩
  ·rintro r hr u W W' _ h ⟨za,zl,zc,rfl⟩;exact vI (fun y=>y=n) (fun y e=>by rw[e];exact N2.out) r hr u W _ h ((Kt.refl (fun y=>y=n) W).setCell (p:=⟨n,4,none⟩) rfl (.slice za zl zc))
  ·exact⟨⟨J2.out.keep (Kt.refl nO W2).drew,_,_,_,X2.out⟩,(Kt.refl _ W2).drew⟩
  ·intro i o ho hi v4 W hB hd;obtain⟨⟨hX,ma,ml,mc,hm⟩,kW⟩:=hB;have HX:=aA hX;have HM:=aA hm;obtain⟨c0,c2,c3,c4,c5,c6⟩:=hX.c;clear hX hm;match i,hi with
   | 0,_=>
    clear hd ho;refine bE rfl ?_;go_wp2_with fail;exact⟨.pointer (some ⟨hb,0,none⟩),(by simp[aD,e26]),rfl,Kt.refl _ _⟩
   | 1,_=>
    have e0:v4 0=.pointer (some ⟨hb,0,none⟩):=hd 0 (by kernel_rfl);clear hd ho;refine bE rfl ?_;go_wp2_with fail;exact⟨.pointer (some ⟨hb,0,none⟩),(by simp[aD,e0,e26]),rfl,Kt.refl _ _⟩
   | 2,_=>
    have e1:v4 1=.pointer (some ⟨hb,0,none⟩):=hd 1 (by kernel_rfl);clear hd ho;refine bE rfl ?_;go_wp2_with fail;exact⟨.pointer (some ⟨hb,5,none⟩),(by simp[aD,e1,e26]),rfl,Kt.refl _ _⟩
   | 3,_=>
    have e2:v4 2=.pointer (some ⟨hb,5,none⟩):=hd 2 (by kernel_rfl);clear hd ho;refine bE rfl ?_;go_wp2_with fail;exact⟨.pointer (some ⟨lw,0,none⟩),(by simp[aD,e2,e26]),rfl,Kt.refl _ _⟩
   | 4,_=>
    have e3:v4 3=.pointer (some ⟨lw,0,none⟩):=hd 3 (by kernel_rfl);clear hd ho;refine bE rfl ?_;go_wp2_with fail;exact⟨.pointer (some ⟨lw,0,none⟩),(by simp[aD,e3,e26]),rfl,Kt.refl _ _⟩
   | 5,_=>
    have e4:v4 4=.pointer (some ⟨lw,0,none⟩):=hd 4 (by kernel_rfl);clear hd ho;refine bE rfl ?_;go_wp2_with fail;exact⟨.pointer (some ⟨lw,0,none⟩),(by simp[aD,e4,e26]),rfl,Kt.refl _ _⟩
   | 6,_=>
    have e5:v4 5=.pointer (some ⟨lw,0,none⟩):=hd 5 (by kernel_rfl);clear hd ho;refine bE rfl ?_;go_wp2_with (go_at_call 38;(refine(lF HX.out.po.pl).mono ?_);rintro e wX ⟨rfl,h1⟩;replace h1:=h1.symm;subst h1)
    exact⟨.pointer (some ⟨x.s,0,none⟩),(by simp[aD,e5,e26]),rfl,Kt.refl _ _⟩
   | 7,_=>
    clear hd ho;refine bE rfl ?_;go_wp2_with fail;exact⟨.pointer (some ⟨hb,0,none⟩),(by simp[aD,e26]),rfl,Kt.refl _ _⟩
   | 8,_=>
    have e7:v4 7=.pointer (some ⟨hb,0,none⟩):=hd 7 (by kernel_rfl);clear hd ho;refine bE rfl ?_;go_wp2_with fail;exact⟨.pointer (some ⟨hb,0,none⟩),(by simp[aD,e7,e26]),rfl,Kt.refl _ _⟩
   | 9,_=>
    have e8:v4 8=.pointer (some ⟨hb,0,none⟩):=hd 8 (by kernel_rfl);clear hd ho;refine bE rfl ?_;go_wp2_with fail;exact⟨.pointer (some ⟨hb,2,none⟩),(by simp[aD,e8,e26]),rfl,Kt.refl _ _⟩
   | 10,_=>
    have e9:v4 9=.pointer (some ⟨hb,2,none⟩):=hd 9 (by kernel_rfl);clear hd ho;refine bE rfl ?_;go_wp2_with fail;exact⟨.pointer (some ⟨hb,2,none⟩),(by simp[aD,e9,e26]),rfl,Kt.refl _ _⟩
   | 11,_=>
    have e10:v4 10=.pointer (some ⟨hb,2,none⟩):=hd 10 (by kernel_rfl);clear hd ho;refine bE rfl ?_;go_wp2_with fail;exact⟨.int .u64 x.bS,(by simp[aD,e10,e26]),rfl,Kt.refl _ _⟩
   | 12,_=>
    clear hd ho;refine bE rfl ?_;go_wp2_with fail;exact⟨.pointer (some ⟨hb,0,none⟩),(by simp[aD,e26]),rfl,Kt.refl _ _⟩
   | 13,_=>
    have e12:v4 12=.pointer (some ⟨hb,0,none⟩):=hd 12 (by kernel_rfl);clear hd ho;refine bE rfl ?_;go_wp2_with (go_at_call 44;(refine(YD HX.out).mono ?_);rintro e wX ⟨rfl,hx⟩;have KX:=aA hx;clear hx)
    exact⟨.int .u64 x.n,(by simp[aD,e12,e26]),rfl,KX.out⟩
   | 14,_=>
    have e6:v4 6=.pointer (some ⟨x.s,0,none⟩):=hd 6 (by kernel_rfl);have e11:v4 11=.int .u64 x.bS:=hd 11 (by kernel_rfl);have e13:v4 13=.int .u64 x.n:=hd 13 (by kernel_rfl);clear hd ho;refine bE rfl ?_;go_wp2_with (go_at_call 43;(refine(TS HX.out).mono ?_);rintro e wX ⟨bm,rfl,hx,hk⟩;have KX:=aA hk;have GX:=aA hx;clear hx hk)
    exact⟨.tuple #[.slice (some ⟨bm,0,none⟩) x.n x.n,.int .i64 0],(by simp[aD,e6,e11,e13,e26]),⟨_,rfl,Nat.le_trans kW.size GX.out.1,GX.out.2⟩,KX.out⟩
   | 15,_=>
    have r14:RM W2 x t (v4 14) W:=hd 14 (by kernel_rfl);obtain⟨bm,e14,hbm⟩:=r14;clear hd ho;refine bE rfl ?_;go_wp2_with fail;exact⟨.tuple #[.slice (some ⟨bm,0,none⟩) x.n x.n,.int .i64 0],(by simp[aD,e14,e26]),⟨_,rfl,hbm⟩,Kt.refl _ _⟩
   | 16,_=>
    have r15:RM W2 x t (v4 15) W:=hd 15 (by kernel_rfl);obtain⟨bm,e15,hbm⟩:=r15;clear hd ho;refine bE rfl ?_;go_wp2_with fail;exact⟨.slice (some ⟨bm,0,none⟩) x.n x.n,(by simp[aD,e15,e26]),⟨_,rfl,hbm⟩,Kt.refl _ _⟩
   | 17,_=>
    have r15:RM W2 x t (v4 15) W:=hd 15 (by kernel_rfl);obtain⟨bm,e15,hbm⟩:=r15;clear hd ho;refine bE rfl ?_;go_wp2_with fail;exact⟨.int .i64 0,(by simp[aD,e15,e26]),rfl,Kt.refl _ _⟩
   | 18,_=>
    clear hd ho;refine bE rfl ?_;go_wp2_with fail;exact⟨.pointer (some ⟨n,4,none⟩),(by simp[aD,e26]),rfl,Kt.refl _ _⟩
   | i+19,hi=>exact absurd hi (by show ¬i+19<19;omega)
  ·intro o ho v4 W hB hd;obtain⟨⟨hX,ma,ml,mc,hm⟩,kW⟩:=hB;have e18:v4 18=.pointer (some ⟨n,4,none⟩):=hd 18 (by kernel_rfl);obtain⟨bm,mJ,hbm⟩:RQ W2 x t (v4 16) W:=hd 16 (by kernel_rfl);have c4:W.cell? ⟨n,4,none⟩=some (.slice ma ml mc):=(by simp[World.cell?,hm]);have f4:W.frozen? ⟨n,4,none⟩=false:=(by simp[World.frozen?,hm]);have D:=aA (show RS W2 n x t g b undef (W.setCell ⟨n,4,none⟩ (.slice (some ⟨bm,0,none⟩) x.n x.n))from⟨bm,heap_set hm 4 _,hbm.keep ((Kt.refl (fun y=>y=n) W).setCell (p:=⟨n,4,none⟩) rfl _) (fun e=>by have e:bm=n:=e;have:=hbm.1;have:=N2.out;omega)⟩);clear hd ho hX hm hbm;refine bE rfl ?_;go_wp2_with fail;exact⟨undef,by simp[aD,mJ,e18,e26],D.out,_,_,_,rfl⟩
  ·intro v4 W ⟨⟨h1,ma,ml,mc,h2⟩,h3⟩ hd hs;refine NoPanic.normal ?_;obtain⟨bm,h4,hbm⟩:=hs;have H4:=aA h1;have X4:=aA h4;have M4:=aA hbm;have K4':=aA h3;have MP:=aA (bX h1.po.pl);have PL:=aA (UQ x.m x.B t.m W h1.po.pl.bd.mp);obtain⟨c0,c2,c3,c4,c5,c6⟩:=h1.c;clear hd h1 h2 h3 h4 hbm;refine hK4 _ _ ?_;go_wp2_with fail;refine MP.out.mono ?_;rintro e w5 ⟨rfl,h5⟩;replace h5:=h5.symm;subst h5;go_wp2_with fail;refine PL.out.mono ?_;rintro e w6 ⟨gp,gq,D,rfl,aY⟩;have X6:=aA ((aY.kp.block _ (lH X4.out) id).trans X4.out);have TL:=aA aY;have H6:=aA (H4.out.keep aY.kp);clear aY c0 c2 c3 c4 c5 c6 MP PL;obtain⟨z0,z1,z2,z3,z4,z5,z6,z7,z8,zf⟩:=uU X6.out;have y5:=zf 5;have y6:=zf 6;clear zf;go_upto_region 6 with fail;refine rY (P:=fun W'=>Code.wp prog _ _ _ W') _ ?_;intro W7 hW7;have K7:=aA (show Kt (fun y=>y=n) w6 W7 from by rw[hW7];exact((Kt.refl (fun y=>y=n) w6).setCell (p:=⟨n,5,none⟩) rfl _).setCell (p:=⟨n,6,none⟩) rfl _);have X7:=aA (show W7.heap[n]?=some (iB x (.slice (some ⟨bm,0,none⟩) x.n x.n) (.slice (some ⟨gp,0,none⟩) t.m.n t.m.n) (.slice (some ⟨gq,0,none⟩) t.m.o t.m.o) g b)from by rw[hW7];exact heap_set (heap_set X6.out 5 _) 6 _);clear hW7 z0 z1 z2 z3 z4 z5 z6 z7 z8 y5 y6;have H7:=aA (H6.out.other X6.out NW.out (by unfold Go.Proofs.YtkfmheelhinjdaaGreatDoor.pty;decide) (by decide) (by decide) K7.out);have Z7:=aA (show Kt nO W1 W7 from by
    have q1:=NL.out;have s2:=Z0.out.size;have a1:Kt nO W1 W:=Z0.out.trans K4'.out (fun _ _ e=>e) (fun y hy e=>by omega);have a2:Kt nO W1 w6:=nT a1 TL.out.kp;exact a2.trans K7.out (fun _ _ e=>e) (fun y hy e=>by omega))
   have R7:=aA (show W7.heap[rb]?=some jB from(Z7.out.block _ (lH R1.out) id).trans R1.out);have T7:=aA (show ImT W1.heap.size W7 x t h bm gp gq D g b from by
    have q1:=NL.out;have s2:=Z0.out.size;have s3:=K4'.out.size;have ht:=TL.out;obtain⟨g',e1,g1,g2⟩:=G2.out
    cases e1
    obtain⟨b',e2,b1,b2⟩:=B2.out
    cases e2
    obtain⟨cs,q4,q5,q6⟩:=ht.q;have N2':=N2.out;have nn:∀ y,W.heap.size<=y->y≠n:=fun y hy e=>by omega
    have gn:g≠n:=bR g1 X2.out (by decide);have bn:b≠n:=bR b1 X2.out (by decide);have mb:=M4.out;have mn:bm≠n:=(by have:=mb.1;omega);have g6:=(ht.kp.block _ (Nat.lt_of_lt_of_le (lH g1) s3) id).trans ((K4'.out.block _ (lH g1) gn).trans g1);have b6:=(ht.kp.block _ (Nat.lt_of_lt_of_le (lH b1) s3) id).trans ((K4'.out.block _ (lH b1) bn).trans b1);have m6:=mb.keep ht.kp id;have k7:=K7.out;have p0:=ht.fp;have p1:=ht.fq;have p2:=ht.fd;exact⟨by have:=mb.1;omega,Nat.lt_of_lt_of_le m6.2.1 k7.size,m6.2.2.imp id (fun hB=>⟨hB.1,(k7.block _ (lH hB.2) mn).trans hB.2⟩),by omega,ht.row.kept k7 (nn _ p0),by omega,⟨cs,(k7.block _ (lH q4) (nn _ p1)).trans q4,q5,q6⟩,fun j hj=>by have:=p2 j hj;omega,fun j hj=>(k7.block _ (lH (ht.d j hj)) (nn _ (p2 j hj))).trans (ht.d j hj),g2,(k7.block _ (lH g6) gn).trans g6,b2,(k7.block _ (lH b6) bn).trans b6⟩)
   clear Z0 K4' TL K7 H6 H4 X4 X6 M4 G2 B2 J2 X2;obtain⟨z0,z1,z2,z3,z4,z5,z6,z7,z8,-⟩:=uU X7.out;obtain⟨r0,r1,r2,r3,r4,r5,r6,r7,r8,rf⟩:=vJ R7.out;have f0:=rf 0;have f1:=rf 1;have f2:=rf 2;have f3:=rf 3;have f4:=rf 4;have f5:=rf 5;have f6:=rf 6;have f7:=rf 7;have f8:=rf 8;clear rf;go_wp2_with fail;refine rY (P:=fun W'=>bodyPostD _ _ _ _ _ W') _ ?_;intro W8 hW8;have K8:=aA (show Kt (fun y=>y=rb) W7 W8 from by rw[hW8];exact yH _ _ _ _ _ _ _ _ _);have X8:=aA (show W8.heap[rb]?=some (iB x (.slice (some ⟨bm,0,none⟩) x.n x.n) (.slice (some ⟨gp,0,none⟩) t.m.n t.m.n) (.slice (some ⟨gq,0,none⟩) t.m.o t.m.o) g b)from by
    rw[hW8];exact pG R7.out _ _ _ (.int .i64 ((x.n:Int)/(x.R:Int))) _ _ _ _ _)
   clear hW8 z0 z1 z2 z3 z4 z5 z6 z7 z8 r0 r1 r2 r3 r4 r5 r6 r7 r8 f0 f1 f2 f3 f4 f5 f6 f7 f8;have H8:=aA (H7.out.other R7.out WRB.out (by unfold Go.Proofs.YtkfmheelhinjdaaGreatDoor.pty;decide) (by decide) (by decide) K8.out);have UL:=aA (H8.out.unlock .returning);have L1:=aA (show rb<W1.heap.size/\hb<W1.heap.size from⟨lH R1.out,lH H1.out.bx⟩);have Z8:=aA (show Kt (fun y=>y=rb) (jA Wa hb) W8 from by
    have:=Z7.out;rw[E1.out] at this;exact(this.mono (fun _ _ e=>e.elim)).trans K8.out (fun _ _ e=>e) (fun _ _ e=>e))
   have KF:=aA (show Kt nO Wo (lM W8 hb)from KAR.out _ (H0.out.round (K:=fun y=>y=rb) (fun e=>NRB.out e.symm) Z8.out H8.out rfl rfl rfl));have X9:=aA (show(lM W8 hb).heap[rb]?=some (iB x (.slice (some ⟨bm,0,none⟩) x.n x.n) (.slice (some ⟨gp,0,none⟩) t.m.n t.m.n) (.slice (some ⟨gq,0,none⟩) t.m.o t.m.o) g b)from((H8.out.set 0).2.block _ (lH X8.out) NRB.out).trans X8.out);have T9:=aA (show ImT W1.heap.size (lM W8 hb) x t h bm gp gq D g b from
    (T7.out.keep K8.out (fun y e=>by rw[e];exact L1.out.1)).keep (H8.out.set 0).2 (fun y e=>by rw[show y=hb from e];exact L1.out.2))
   have DD:=aA (BP T9.out H HD8.out may);have RG:=aA (show x.n/x.R=t.m.n/2 ^ x.o from by
    obtain⟨h',o⟩:=H.so;rw[<-o.st,o.sw.pl.bd.hR,Nat.mul_comm 4096 (2 ^ x.o),Nat.mul_div_mul_right _ _ (by decide)])
   obtain⟨u0,u1,u2,u3,u4,u5,u6,u7,u8,-⟩:=uU X9.out;refine leaves_cons (f:=36) (args:=#[.pointer (some ⟨hb,0,none⟩)]) (by simp) (by simp[go_sem]) ?_;refine UL.out.mono ?_;rintro e u' w3 ⟨rfl,rfl,rfl⟩;refine⟨_,?_,pK x t bm gp gq g b,rfl,DD.out,KF.out⟩;have e:(bJ x t S x.lim).reg=((x.n/x.R:Nat):Int):=(by rw[RG.out];rfl);simp[results,results13,go_sem,u0,u1,u2,u3,u4,u5,u6,u7,u8];exact⟨rfl,rfl,rfl,e.symm⟩
end
end Go.Proofs.YtkfmheelhinjdaaGreatDoor
