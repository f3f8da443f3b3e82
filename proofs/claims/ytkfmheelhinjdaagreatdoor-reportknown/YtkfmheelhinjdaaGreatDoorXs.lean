import Derived.Test.YtkfmheelhinjdaaGreatDoorXr
import Derived.Test.YtkfmheelhinjdaaGreatDoorWe
set_option maxRecDepth 1000000
set_option maxHeartbeats 80000000
namespace Go.Proofs.YtkfmheelhinjdaaGreatDoor
open _root_.Go.Proofs.Tryz
open Go.RowKit
set_option linter.unusedVariables false
theorem Pol.from8{w w1 W lw x t}(k:Kt nO w w1)(h:Pol w1 W lw x t):Pol w W lw x t:=⟨h.box,h.bd,fun y hy=>Nat.le_trans k.size (h.nw y hy),nT k h.kp⟩
theorem PO.from8{w w1 W lw x t fr ls}(k:Kt nO w w1)(h:PO w1 W lw x t fr ls):PO w W lw x t fr ls:=⟨h.pl.from8 k,h.sf,h.st,h.bm⟩
theorem lF{w:World}{y b:Nat}{l o:Int}(h:w.heap[y]?=some (dK b l o)):w.cell? ⟨y,0,none⟩=some (.int .u64 b)/\w.cell? ⟨y,1,none⟩=some (.int .i64 l)/\w.cell? ⟨y,2,none⟩=some (.int .i64 o):=by
 refine⟨?_,?_,?_⟩ <;> simp[World.cell?,h]
theorem tC{w:World}{A:Obj}{a:Addr}{v:Value}(h:w.cell? a=some v):(w.alloc A).cell? a=some v:=((Kt.refl nO w).alloc A).cell id h
abbrev CI(o:Nat):Bt:=⟨fun _=>0,bU o,fun _=>0⟩
abbrev qC:Sb:=⟨fun _=>none,fun _=>[],fun _=>[]⟩
def FS(w:World)(bS lim o:Nat)(e:Ending)(w':World):Prop:=∃ hb sb lw x,e=.returned (.tuple #[.pointer (some ⟨hb,0,none⟩),.int .i64 0])/\HW w w' hb sb lw x (CI o) (fun _=>[]) [] qC 0/\x.bS=bS/\x.R=4096*2 ^ o/\x.lim=lim/\x.n=0/\x.o=o
theorem GZ(bS:Nat)(hb64:bS<18446744073709551616)(lim o:Nat)(hl:lim<=64)(ho:o<=8)(hm:M.mayB bS (lim:Int) (o:Int)=true)(hbr:bS%(4096*2 ^ o)=0)(w:World)(hT:iU w):
  Calls prog 11 #[gC bS (lim:Int) (o:Int)] w fun e w'=>FS w bS lim o e w':=by
 have K0:=aA ((Kt.refl nO w).alloc (dK bS (lim:Int) (o:Int)));have X0:=aA (nH w (dK bS (lim:Int) (o:Int)));have NW:=aA (fun W=>FY bS hb64 lim o hl ho hm W);have hb4:bS%4096=0:=Nat.mod_eq_zero_of_dvd (Nat.dvd_trans (Nat.dvd_mul_right _ _) (Nat.dvd_of_mod_eq_zero hbr));have HT:=aA hT;have HB:=aA hbr;have HB4:=aA hb4;obtain⟨x0,x1,x2⟩:=lF X0.out;clear hm hT hbr hb4;go_enter func11,ntmps11;go_wp2_with fail;refine(NW.out _).mono ?_;rintro e w2 ⟨lw,x,rfl,hP,e1,e2,e3,e4,e5,e6⟩;have P2:=aA (PO.from8 K0.out (FW o hP e4 e5 e6 (by rw[e1];exact HB4.out)));have X2:=aA ((hP.kp.block _ (lH X0.out) (fun x=>x)).trans X0.out);have EX:=aA (show x.bS=bS/\x.R=4096*2 ^ o/\x.lim=lim/\x.n=0/\x.o=o/\x.P=fun _=>none from⟨e1,e2,e3,e4,e5,e6⟩);clear hP e1 e2 e3 e4 e5 e6 x0 x1 x2 NW;have KD:=aA ((Kt.refl nO w2).drew);have NS:=aA (vJ (P2.out.keep KD.out) HT.out);obtain⟨x0,x1,x2⟩:=lF X2.out;go_wp2_with fail;obtain⟨y0,y1,y2⟩:=lF ((KD.out.block _ (lH X2.out) (fun x=>x)).trans X2.out);go_region_held3 (fun w'=>w'.cell? ⟨w.heap.size,0,none⟩=some (.int .u64 bS)/\w'.cell? ⟨w.heap.size,1,none⟩=some (.int .i64 lim)/\w'.cell? ⟨w.heap.size,2,none⟩=some (.int .i64 o)) (first|with_reducible exact⟨y0,y1,y2⟩|with_reducible exact⟨z0,z1,z2⟩|with_reducible exact⟨tC z0,tC z1,tC z2⟩) (first
  | (go_at_call 34;(with_reducible refine NS.out.mono ?_);rintro e w3 ⟨sb,rfl,hs,hk,hz⟩;have K3:=aA (nT KD.out hk);have S3:=aA hs;obtain⟨z0,z1,z2⟩:=lF ((K3.out.block _ (lH X2.out) (fun x=>x)).trans X2.out);clear hk hs hz)
  | fail)
 all_goals
  have D:=aA (show HW w (w3.alloc (vE 0 lw sb bS lim o)) w3.heap.size sb lw x (CI o) (fun _=>[]) [] qC 0 from by
   obtain⟨e1,e2,e3,e4,e5,e6⟩:=EX.out;have k:=(Kt.refl nO w3).alloc (vE 0 lw sb bS lim o);have o3:=SO.new (P2.out.keep K3.out) S3.out e6;have h5:=S3.out.pl.kp.size;refine⟨⟨_,o3.keep k⟩,gF.none,?_,h5,by rw[e1,e2];exact HB.out⟩;rw[e1,e3,e5];exact nH w3 _)
  go_wp2_with fail;exact⟨rfl,.tuple #[.pointer (some ⟨w3.heap.size,0,none⟩),.int .i64 0],by simp[results,results11,go_sem],_,sb,lw,x,rfl,D.out,EX.out.1,EX.out.2.1,EX.out.2.2.1,EX.out.2.2.2.1,EX.out.2.2.2.2.1⟩
def KH(w W:World)(hb n:Nat)(f0 f1:List Nat)(ls:List (Nat×Nat))(S:Sb)(v:Bool):Prop:=∃ sb lw x t fr,HW w W hb sb lw x t fr ls S 0/\x.bS=65536/\x.lim=2/\x.o=1/\x.R=8192/\x.n=n/\fr 0=f0/\fr 1=f1/\(v=true->t.f 8=5)
abbrev tE(p e:Int):Ending:=.returned (.tuple #[.int .u64 p,.int .i64 e])
theorem DN{m k:Nat}(h1:m<=2 ^ k)(h2:k=0\/2 ^ (k-1)<m):cl m=k:=by
 have a:=(oM m k).1 h1;rcases h2 with rfl|h2
 ·omega
 ·rcases Nat.lt_or_ge (cl m) k with e|e
  ·have b:=(oM m (k-1)).2 (by omega);omega
  ·omega
section
variable {w W W':World} {hb n:Nat} {f0 f1:List Nat} {ls:List (Nat×Nat)} {S:Sb} {v:Bool}
theorem KH.keep(s:KH w W hb n f0 f1 ls S v)(k:Kt nO W W'):KH w W' hb n f0 f1 ls S v:=by
 obtain⟨sb,lw,x,t,fr,H,r⟩:=s;exact⟨sb,lw,x,t,fr,H.keep k,r⟩
theorem KH.kp(s:KH w W hb n f0 f1 ls S v):Kt nO w W:=by
 obtain⟨sb,lw,x,t,fr,H,r⟩:=s;exact H.po.pl.kp
theorem DM{fr:Nat->List Nat}(h0:fr 0=[])(h1:fr 1=[])(k:Nat):∀ a,k<=a->a<=1->fr a=[]:=fun a _ ha=>by
 rcases (show a=0\/a=1 by omega)with rfl|rfl
 ·exact h0
 ·exact h1
theorem KH.mal{x:Bx}{t:Bt}{fr:Nat->List Nat}{sb lw:Nat}(H:HW w W hb sb lw x t fr ls S 0)(ho:x.o=1)(sz:Nat)(hs:sz<=8192)(d:Bool)(c:Nat)(hc:max sz 16<=2 ^ c)(hc2 : 2 ^ (c-1)<max sz 16):
  Calls prog 12 #[.pointer (some ⟨hb,0,none⟩),.int .u64 sz,.bool d] W fun e w'=>∃ p er,e=.returned (.tuple #[.int .u64 ((p:Nat):Int),.int .i64 er])/\Tq w W hb sb lw x t fr ls S 0 (2 ^ c) d p er w':=by
 have hcl:cl (max sz 16)=c:=DN hc (.inr hc2);refine(TJ H sz (by omega) d _ rfl).mono ?_;rintro e w' ⟨p,er,rfl,hR⟩
 cases hR with
 | ok h1 hT=>rw[hcl] at hT;exact⟨p,er,rfl,hT⟩
 | big h1 hp he kp=>
  exfalso
  have h2:=of_decide_eq_false h1;rw[ho] at h2;have:=(oM (max sz 16) 13).1 (by omega);omega
theorem KH.nx{x x':Bx}{t t':Bt}{fr':Nat->List Nat}{sb lw:Nat}{ls':List (Nat×Nat)}{S':Sb}{n':Nat}{f0' f1':List Nat}(hb0:x.bS=65536)(hl:x.lim=2)(ho:x.o=1)(hR:x.R=8192)(nx:Nx w W W' hb sb lw x t ls S 0 x' t' fr' ls' S')(hn:x'.n=n')(h0:fr' 0=f0')(h1:fr' 1=f1'):KH w W' hb n' f0' f1' ls' S' false:=
 ⟨sb,lw,x',t',fr',nx.H,nx.ch.bS.trans hb0,nx.ch.lim.trans hl,nx.ch.o.trans ho,nx.ch.R.trans hR,hn,h0,h1,fun e=>by cases e⟩
theorem KH.pages{x:Bx}{t:Bt}{fr:Nat->List Nat}{sb lw:Nat}(H:HW w W hb sb lw x t fr ls S 0)(hn:x.n=n):t.m.n*4096=n:=by
 obtain⟨h',o⟩:=H.so;rw[<-hn];exact o.st
theorem KH.mal_grow(s:KH w W hb n [] [] ls S v)(g:Nat)(hg:g*4096=n)(sz:Nat)(hs:sz<=8192)(c:Nat)(hc:max sz 16<=2 ^ c)(hc2 : 2 ^ (c-1)<max sz 16)(k:Nat)(hk:k<8)(hck : 2 ^ c=aE k)(hl:S.pl k=[])(hn:n+8192<=16384):
  Calls prog 12 #[.pointer (some ⟨hb,0,none⟩),.int .u64 sz,.bool false] W fun e w'=>e=tE ((65536 + 4096*g:Nat):Int) 0/\KH w w' hb (n + 8192) [g + 1] [] (ls ++ [(g,0)]) (aP (aW S g k) g k (List.range' 1 (aG k-1))) false:=by
 obtain⟨sb,lw,x,t,fr,H,hb0,hli,ho,hR,hxn,h0,h1,hv⟩:=s;have hpg:=KH.pages H hxn;refine(KH.mal H ho sz hs false c hc hc2).mono ?_;rintro e w' ⟨p,er,rfl,hT⟩;rw[hck] at hT;have hz:∀ a,a<=x.o->fr a=[]:=fun a ha=>DM h0 h1 0 a (Nat.zero_le _) (by omega)
 cases hT with
 | no hp he nf hd2 kp=>
  exfalso
  rcases hd2 with e|e
  ·cases e
  ·rw[hxn,hli,hR] at e;omega
 | yes x' t' fr' ls' S' b he td nx hL hN hn2 hm hb1 hb2=>
  subst he
  cases td with
  | old k2 g2 i l rr hk2 hr hl2=>
   obtain rfl:=oR hr;rw[hl] at hl2
   cases hl2
  | here k2 g2 j l hk2 hr=>exact absurd hr (lO hk)
  | grew k2 hk2 hr=>exact absurd hr (lO hk)
  | new k2 g2 hk2 hr hl2 hp nd e2 e3=>
   obtain rfl:=oR hr
   cases nd with
   | here j l hj hz2 hp2=>rw[hz j hj] at hp2;cases hp2
   | grew hz2 hd2 hle hbt hp2 hfr=>
    obtain rfl:g2=g:=(by omega);subst hbt e2 e3;rw[if_pos rfl] at hn2;refine⟨?_,KH.nx hb0 hli ho hR nx (by rw[hn2,hxn,hR]) ?_ ?_⟩
    ·rw[hp];unfold aQ;rw[hb0,Nat.zero_mul,Nat.add_zero]
    ·rw[hfr,<-hp2,ho];unfold cL;rw[if_pos (by omega),h0]
    ·rw[hfr,ho];unfold cL;rw[if_neg (by omega),h1]
theorem KH.mal_here{g:Nat}{l:List Nat}(s:KH w W hb n (g :: l) f1 ls S v)(sz:Nat)(hs:sz<=8192)(d:Bool)(c:Nat)(hc:max sz 16<=2 ^ c)(hc2 : 2 ^ (c-1)<max sz 16)(k:Nat)(hk:k<8)(hck : 2 ^ c=aE k)(hl:S.pl k=[]):
  Calls prog 12 #[.pointer (some ⟨hb,0,none⟩),.int .u64 sz,.bool d] W fun e w'=>e=tE ((65536 + 4096*g:Nat):Int) 0/\KH w w' hb n (M.dropL (g :: l) g) f1 (ls ++ [(g,0)]) (aP (aW S g k) g k (List.range' 1 (aG k-1))) false:=by
 obtain⟨sb,lw,x,t,fr,H,hb0,hli,ho,hR,hxn,h0,h1,hv⟩:=s;refine(KH.mal H ho sz hs d c hc hc2).mono ?_;rintro e w' ⟨p,er,rfl,hT⟩;rw[hck] at hT;have hnf:¬NF x fr S (aE k):=fun e=>by
  have:=((NF.cell hk).1 e).2 0 (Nat.zero_le _);rw[h0] at this
  cases this
 cases hT with
 | no hp he nf hd2 kp=>exact absurd nf hnf
 | yes x' t' fr' ls' S' b he td nx hL hN hn2 hm hb1 hb2=>
  subst he
  cases td with
  | old k2 g2 i l2 rr hk2 hr hl2=>
   obtain rfl:=oR hr;rw[hl] at hl2
   cases hl2
  | here k2 g2 j l hk2 hr=>exact absurd hr (lO hk)
  | grew k2 hk2 hr=>exact absurd hr (lO hk)
  | new k2 g2 hk2 hr hl2 hp nd e2 e3=>
   obtain rfl:=oR hr
   cases nd with
   | grew hz2 hd2 hle hbt hp2 hfr=>
    have:=hz2 0 (Nat.zero_le _);rw[h0] at this
    cases this
   | here j l2 hj hz2 hp2 hbt hfr=>
    have hj0:j=0:=by
     rcases Nat.eq_zero_or_pos j with e|e
     ·exact e
     ·have:=hz2 0 e;rw[h0] at this
      cases this
    subst hj0 hbt e2 e3;rw[h0] at hp2;injection hp2 with hp2 hp3
    subst hp2;rw[if_neg (by decide)] at hn2;refine⟨?_,KH.nx hb0 hli ho hR nx (hn2.trans hxn) ?_ ?_⟩
    ·rw[hp];unfold aQ;rw[hb0,Nat.zero_mul,Nat.add_zero]
    ·rw[hfr];unfold cL cD;rw[if_neg (by omega),if_pos rfl,h0]
    ·rw[hfr];unfold cL cD;rw[if_neg (by omega),if_neg (by decide)];exact h1
theorem KH.pg_grow(s:KH w W hb n f0 [] ls S v)(g:Nat)(hg:g*4096=n)(sz:Nat)(h1s : 4096<sz)(hs:sz<=8192)(hn:n+8192<=16384):
  Calls prog 12 #[.pointer (some ⟨hb,0,none⟩),.int .u64 sz,.bool false] W fun e w'=>e=tE ((65536 + 4096*g:Nat):Int) 0/\KH w w' hb (n + 8192) f0 [] (ls ++ [(g,1)]) S false:=by
 obtain⟨sb,lw,x,t,fr,H,hb0,hli,ho,hR,hxn,h0,h1,hv⟩:=s;have hpg:=KH.pages H hxn;refine(KH.mal H ho sz hs false 13 (by omega) (by omega)).mono ?_;rintro e w' ⟨p,er,rfl,hT⟩;rw[show(2:Nat) ^ 13=4096*2 ^ 1 from rfl] at hT
 cases hT with
 | no hp he nf hd2 kp=>
  exfalso
  rcases hd2 with e|e
  ·cases e
  ·rw[hxn,hli,hR] at e;omega
 | yes x' t' fr' ls' S' b he td nx hL hN hn2 hm hb1 hb2=>
  subst he
  cases td with
  | old k2 g2 i l rr hk2 hr hl2=>exact absurd hr.symm (lO hk2)
  | new k2 g2 hk2 hr=>exact absurd hr.symm (lO hk2)
  | here k2 g2 j l hk2 hr hkj hj hz hl=>
   obtain rfl:=sT hr;obtain rfl:j=1:=(by omega);rw[h1] at hl
   cases hl
  | grew k2 hk2 hr hz hp hbt e1 e2 e3=>
   obtain rfl:=sT hr;obtain rfl:t.m.n=g:=(by omega);subst hbt e1 e2 e3;rw[if_pos rfl] at hn2;refine⟨?_,KH.nx hb0 hli ho hR nx (by rw[hn2,hxn,hR]) ?_ ?_⟩
   ·rw[hp];unfold ad;rw[hb0]
   ·rw[ho];unfold cL;rw[if_neg (by omega),h0]
   ·rw[ho];unfold cL;rw[if_neg (by omega),h1]
end
def Q1:Sb:=aP (aW qC 0 0) 0 0 (List.range' 1 (aG 0-1))
def Q2:Sb:=aP (aW Q1 1 1) 1 1 (List.range' 1 (aG 1-1))
theorem pY:M.mayB 65536 ((2:Nat):Int) ((1:Nat):Int)=true:=by decide
theorem wB(w:World)(hT:iU w):
  Calls prog 11 #[.agg #[.int .u64 65536,.int .i64 2,.int .i64 1]] w fun e w'=>∃ hb,e=.returned (.tuple #[.pointer (some ⟨hb,0,none⟩),.int .i64 0])/\KH w w' hb 0 [] [] [] qC false:=by
 refine(GZ 65536 (by decide) 2 1 (by decide) (by decide) pY (by decide) w hT).mono ?_;rintro e w' ⟨hb,sb,lw,x,rfl,H,e1,e2,e3,e4,e5⟩;exact⟨hb,rfl,sb,lw,x,_,_,H,e1,e3,e5,e2,e4,rfl,rfl,fun e=>by cases e⟩
open Go.MuLone
section
variable {w W W1 W':World} {hb sb lw:Nat} {x:Bx} {t:Bt} {fr:Nat->List Nat} {ls:List (Nat×Nat)} {S:Sb} {s:Int}
theorem HW.read(H:HW w W hb sb lw x t fr ls S s){p n:Nat}(hn : 0<n)(hin:M.In x.bS x.n p n):
  Calls prog 43 #[.pointer (some ⟨x.s,0,none⟩),.int .u64 p,.int .u64 n] W fun e w'=>e=.returned (.tuple #[.slice (some ⟨W.heap.size+1,0,none⟩) n n,.int .i64 0])/\M.Blk w' (W.heap.size+1) n (fun i=>t.f (p-x.bS+i))/\Kt nO W w':=by
 obtain⟨g,hg,hs⟩:=H.space (by unfold M.In at hin;omega);refine(M.Read_in x.s g x.bS x.R x.lim x.n t.f p n W hs hn hin).mono ?_;rintro e w' ⟨rfl,h2,h3⟩;exact⟨rfl,h2,fP h3⟩
end
def pgL(x:Bx)(t:Bt)(S:Sb)(i:Nat):List (Nat×Nat):=match S.c i with
 | some k=>gD x S i k (aG k)
 | none=>if (t.m.pg i).kd=2 then [(x.bS+4096*i,4096*2 ^ (t.m.pg i).od.toNat)] else []
def lA(x:Bx)(t:Bt)(S:Sb):Nat->List (Nat×Nat)
 | 0=>[]
 | i + 1=>lA x t S i ++ pgL x t S i
inductive Lv8(x:Bx)(S:Sb)(q:Pg)(i:Nat)(l:List (Nat×Nat)):Prop where
 | none (hq:q.kd=0\/q.kd=1\/q.kd=3) (h1:l=[])
 | head (k:Nat) (hk:k<=8) (hq:q.kd=2) (ho:q.od=(k:Int)) (h1:l=[(x.bS+4096*i,4096*2 ^ k)])
 | slab (k:Nat) (hq:q.kd=4) (hc:S.c i=some k) (hl:q.cl=(k:Int)) (h1:l=gD x S i k (aG k))
theorem XG{w0 w1 W W':World}{v:Value}{l:List (Nat×Nat)}(h:GB w0 W v l)(hs:w0.heap.size=w1.heap.size)(k:Kt nO w1 W')(hE:∀ y,v.ownBlock=some y->W'.heap[y]?=W.heap[y]?):GB w1 W' v l:=by
 refine⟨⟨h.own.1,?_⟩,fun g cap e=>by rw[<-hs];exact h.new g cap e,k⟩;rcases h.own.2 with h0|⟨g,cap,cur,rfl,hb,hg,h3⟩
 ·exact .inl h0
 ·exact .inr ⟨g,cap,cur,rfl,hb,(hE g (by simp[Value.ownBlock])).trans hg,h3⟩
theorem YB{ops:Array Oper}{o:Oper}{a:Act}{K:Act->World->Prop}{Q:Exit->Act->World->Prop}{E:Prop}{W w':World}{v u v':Value}
  (hgd:o.guard=none) (s x:Operand) (hop:o.op=.call { callee:=.builtin .append,args:=#[s,x],argTypes:=#[46,46] })
  (hs:a.eval s=v) (hx:a.eval x=u) (hrun:∀ t,(Builtin.append_ #[46,46] t #[v,u]).run prog W=.ok v' w') (h:K (a.put o.dst v') w'):
  if Region.wanted o (yielded ops a.tmps)=true then Oper.wp prog o a W K Q else E:=by
 have hw:Region.wanted o (yielded ops a.tmps)=true:=by simp[Region.wanted,hgd]
 rw[if_pos hw];exact Lib.wp_append_run W s x _ _ hop _ _ hs hx _ _ (hrun _) h
section
variable {w W W':World} {hb sb lw:Nat} {x:Bx} {t:Bt} {fr:Nat->List Nat} {ls:List (Nat×Nat)} {S:Sb} {s:Int}
theorem HW.lk(H:HW w W hb sb lw x t fr ls S s){i:Nat}(hi:i<t.m.n):Lv8 x S (t.m.pg i) i (pgL x t S i):=by
 obtain⟨h,o⟩:=H.so;have n1:=o.po.nums.1
 cases o.kind hi with
 | slab k hc=>
  obtain⟨hk,sp⟩:=o.si.pg i k hc;exact .slab k sp.kd hc sp.cl (by unfold pgL;rw[hc])
 | big q k hm hc hg h1 h2 hp=>
  have hk:k<=8:=Nat.le_trans (o.al hm).1 n1;by_cases e:i=q
  ·rw[if_pos e] at hp;refine .head k hk (by rw[hp];rfl) (by rw[hp];rfl) ?_;unfold pgL;rw[hg,hp];rfl
  ·rw[if_neg e] at hp;refine .none (.inr (.inr (by rw[hp];rfl))) ?_;unfold pgL;rw[hg,hp];rfl
 | free q j hm hj hg h1 h2 hp=>
  by_cases e:i=q
  ·rw[if_pos e] at hp;refine .none (.inl (by rw[hp];rfl)) ?_;unfold pgL;rw[hg,hp];rfl
  ·rw[if_neg e] at hp;refine .none (.inr (.inl (by rw[hp];rfl))) ?_;unfold pgL;rw[hg,hp];rfl
theorem HW.lvb(H:HW w W hb sb lw x t fr ls S s):∀ i,i<=t.m.n->(lA x t S i).length<=i*256
 | 0,_=>Nat.le_refl _
 | i+1,hi=>by
  have h1:=H.lvb i (by omega);have h2:(pgL x t S i).length<=256:=by
   cases H.lk (i:=i) (by omega)with
   | none hq h1=>rw[h1];decide
   | head k hk hq ho h1=>rw[h1];exact(by decide : 1<=256)
   | slab k hq hc hl h1=>
    obtain⟨h,o⟩:=H.so;rw[h1];exact Nat.le_trans (rA x S i k _) (dN (o.si.pg i k hc).1).2.2
  unfold lA;rw[List.length_append];omega
theorem DU(H:HW w W hb sb lw x t fr ls S 0):
  Calls prog 32 #[.pointer (some ⟨hb,0,none⟩)] W fun e w'=>∃ v,e=.returned v/\GB W w' v (lA x t S t.m.n):=by
 have n2:=H.po.nums.2.1;have LK:=aA H.lock;have HI:=aA H.in;have SB:=aA (fun i (hi:i<=t.m.n)=>H.lvb i hi);have SK:=aA (fun i (hi:i<t.m.n)=>H.lk hi);have sL:=aA (fun i=>show lA x t S (i + 1)=lA x t S i ++ pgL x t S i from rfl);have hsz:(jF W hb).heap.size=W.heap.size:=by simp
 obtain⟨n,hn⟩:=xe (t.m.n);have HH:=aA H;have HN:=aA hn;have z0:lA x t S 0=[]:=rfl;rw[<-hn] at n2 SB SK ⊢;obtain⟨f,hf⟩:=xe (lA x t S);rw[<-hf] at SB sL z0 ⊢;have AD:=aA (fun i (hi:i<n) W' (k:Kt nO (jF W hb) W')=>tW (HI.out.keep k) i (by omega));have CH:=aA (fun i k (hc:S.c i=some k) (q:Pg) (hq:q.cl=(k:Int)) W' (kk:Kt nO (jF W hb) W')=>PH (HI.out.keep kk) hc q hq);clear H hn hf;go_enter_defers func32,ntmps32;go_wp2_with fail;refine LK.out.mono ?_;rintro e w1 ⟨rfl,rfl⟩;have MP:=aA (bY HI.out.po.pl);have PGS:=aA (vZ HI.out.po);rw[<-HN.out] at PGS;obtain⟨c0,c2,c3,c4,c5,c6⟩:=HI.out.c;go_wp2_with fail;refine MP.out.mono ?_;rintro e w4 ⟨rfl,h4⟩;replace h4:=h4.symm;subst h4;go_wp2_with fail;refine PGS.out.mono ?_;rintro e w4 ⟨rfl,h4⟩;replace h4:=h4.symm;subst h4;clear MP PGS c0 c2 c3 c4 c5 c6;go_wp2_with fail;go_loopw [3,22] (fun v c V=>∃ i:Nat,i<=n/\c=.int .i64 i/\Hid (GB (jF W hb) V v (f i))) (fun _ c _=>n-(intOf c).toNat)
 case atStart=>exact⟨0,Nat.zero_le _,rfl,aA (by rw[z0];exact GS.nil _ _ _ _ (Kt.refl nO _))⟩
 case round=>
  rename_i v _;clear z0;obtain⟨i,hi,rfl,hG⟩:=hrel;obtain⟨va,vc,rfl⟩:=qZ hG.out.own;have hle:=SB.out i hi;by_cases hlt:i<n
  ·have hii:(i:Int)<n:=(by omega);have hin:i<t.m.n:=(by rw[<-HN.out];exact hlt);have HJ:=aA (HI.out.keep hG.out.kp);have MP:=aA (bY HJ.out.po.pl);have AT:=aA (iZ x.m x.B t.m (i:Int) wr HJ.out.po.pl.bd.mp);rw[show cH t.m (i:Int)=t.m.pg i by unfold cH;rw[if_pos (dH hin),Int.toNat_natCast]] at AT;obtain⟨c0,c2,c3,c4,c5,c6⟩:=HJ.out.c;have sk:=SK.out i hlt;have aL:=sL.out i;have ADi:=aA (AD.out i hlt);obtain⟨m,hm⟩:=xe (x.bS+4096*i);rw[<-hm] at ADi;generalize t.m.pg i=q at *;go_wp2_with fail;refine MP.out.mono ?_;rintro e w4 ⟨rfl,h4⟩;replace h4:=h4.symm;subst h4;go_wp2_with fail;refine AT.out.mono ?_;rintro e w5 ⟨rfl,hk5⟩;have G6:=aA (GS.keep hG.out (hk5.alloc (aI q)));have X5:=aA (nH w5 (aI q));clear MP AT hk5 c0 c2 c3 c4 c5 c6 hG HJ;go_upto_region 8 with fail;generalize w5.alloc (aI q)=w6 at *;generalize w5.heap.size=y5 at *;obtain⟨x0,x1,x2,x3,x4,x5,x6,x7,x8,x9,x10⟩:=kQ X5.out
   cases sk with
   | none hq h1=>
    rw[h1,List.append_nil] at aL;have q2:(q.kd == 2)=false:=(by rw[beq_eq_false_iff_ne];omega);have q4:(q.kd == 4)=false:=(by rw[beq_eq_false_iff_ne];omega);clear hq;go_wp2_with fail;exact⟨⟨i+1,by omega,by simp,aA (by rw[aL];exact G6.out)⟩,by simp[intOf];omega⟩
   | head k hk hq ho h1=>
    have q2:(q.kd == 2)=true:=(by rw[beq_iff_eq];exact hq);have RN:=aA (fun W'=>EC k hk q ho W');obtain⟨z,hz⟩:=xe (4096*2 ^ k);rw[<-hz] at RN h1;rw[<-hm] at h1;rw[h1] at aL;have KD:=aA ((Kt.refl nO w6).drew);have AL:=aA aL;have HLE:=aA hle;have XC:=aA (fun W' (kk:Kt nO w6 W')=>kQ ((kk.block _ (lH X5.out) id).trans X5.out));have XE:=aA (fun W7 W8 (k7:Kt nO w6 W7) (k8:Kt (fun b=>(Value.slice va (f i).length vc).ownBlock=some b) W7 W8)=>kQ ((k8.block _ (Nat.lt_of_lt_of_le (lH X5.out) k7.size) (fun e=>by
     obtain⟨cs,hcs⟩:=sI G6.out.own e;rw[X5.out] at hcs;simp at hcs)).trans ((k7.block _ (lH X5.out) id).trans X5.out)))
    have HL6:=aA (show(f i).length<=4000000 by omega);have A6:=aA (ADi.out _ (nT G6.out.kp KD.out));clear hq ho hk hz h1 aL hm hle hin;go_wp2_with fail;refine wp_region_noPanic ?_;obtain⟨d0,d1,d2,d3,d4,d5,d6,d7,d8,d9,d10⟩:=XC.out _ KD.out;go_region_held3 (fun w'=>w'.cell? ⟨y5,0,none⟩=some (.int .i64 q.kd)/\w'.cell? ⟨y5,1,none⟩=some (.int .i64 q.od)/\w'.cell? ⟨y5,2,none⟩=some (.int .i64 q.cl)/\w'.cell? ⟨y5,3,none⟩=some (.int .i64 q.lv)/\w'.cell? ⟨y5,4,none⟩=some (.int .i64 q.nx)/\w'.cell? ⟨y5,5,none⟩=some (.int .i64 q.pv)/\w'.cell? ⟨y5,6,none⟩=some (.int .i64 q.fs)/\w'.cell? ⟨y5,7,none⟩=some (.int .u64 q.b0)/\w'.cell? ⟨y5,8,none⟩=some (.int .u64 q.b1)/\w'.cell? ⟨y5,9,none⟩=some (.int .u64 q.b2)/\w'.cell? ⟨y5,10,none⟩=some (.int .u64 q.b3)) ((refine⟨?_,?_,?_,?_,?_,?_,?_,?_,?_,?_,?_⟩ <;> with_reducible assumption)) (first
     | (go_at_call 73;(with_reducible refine A6.out.mono ?_);rintro e w7 ⟨rfl,h7⟩;replace h7:=h7.symm;subst h7)
     | (go_at_call 74;(with_reducible refine(RN.out _).mono ?_);rintro e w7 ⟨rfl,hk7⟩;have K7:=aA (nT KD.out hk7);obtain⟨v0,v1,v2,v3,v4,v5,v6,v7,v8,v9,v10⟩:=XC.out _ K7.out;obtain⟨b0,b1,b2,b3,b4,b5,b6,b7,b8,b9,b10⟩:=XC.out _ (K7.out.alloc (cG m z));obtain⟨gg,cap,w8,HAP,G8,K8⟩:=GB.push (GS.keep G6.out K7.out) m z (HL6.out);obtain⟨e0,e1,e2,e3,e4,e5,e6,e7,e8,e9,e10⟩:=XE.out _ _ K7.out K8;clear hk7 K8;have G8:=aA G8;replace HAP:=aA HAP)
     | (refine YB rfl (.tmp 41) (.tmp 48) rfl rfl rfl HAP.out ?_)
     | fail)
    all_goals
     refine NoPanic.normal ?_;go_wp2_with fail;exact⟨⟨i+1,by omega,by simp,aA (by rw[AL.out];exact G8.out)⟩,by simp[intOf];omega⟩
   | slab k hq hc hl h1=>
    have q2:(q.kd == 2)=false:=(by rw[beq_eq_false_iff_ne];omega);have q4:(q.kd == 4)=true:=(by rw[beq_iff_eq];exact hq);rw[h1] at aL;have AL:=aA aL;have HLE:=aA hle;have C6:=aA (CH.out i k hc q hl _ G6.out.kp);have hcl:(gD x S i k (aG k)).length<=256:=by
     obtain⟨h,o⟩:=HI.out.so;exact Nat.le_trans (rA x S i k _) (dN (o.si.pg i k hc).1).2.2
    have HCL:=aA hcl;clear hq hc hl h1 aL hm hle hin hcl;go_wp2_with fail;refine C6.out.mono ?_;rintro e w7 ⟨u,rfl,hu⟩;have G7:=aA (GS.keep G6.out hu.kp);obtain⟨v8,w8,HAP,G8,_⟩:=GB.pushL G7.out hu.own (by have:=HLE.out;omega) (by have:=HCL.out;omega);have HAP:=aA HAP;have G8:=aA G8;clear hu;go_wp2_with (at_builtin;refine Lib.wpList_append_run _ rfl _ _ _ _ rfl _ _ rfl rfl _ _ (HAP.out _) ?_)
    exact⟨⟨i+1,by omega,by simp,aA (by rw[AL.out];exact G8.out)⟩,by simp[intOf];omega⟩
  ·obtain rfl:i=n:=(by omega);have hii:¬(i:Int)<i:=(by omega);have H9:=aA (HI.out.keep hG.out.kp);go_wp2_with fail;have UL:=aA (H9.out.unlock .returning);have D:=aA (show GB W (lT wr hb) (.slice va (f i).length vc) (f i)from by
    refine XG hG.out hsz (HH.out.round (K:=nO) id hG.out.kp H9.out rfl rfl rfl) (fun y hy=>(H9.out.set 0).2.block _ ?_ ?_)
    ·obtain⟨cs,hcs⟩:=sI hG.out.own hy;exact lH hcs
    ·intro e;subst e;obtain⟨cs,hcs⟩:=sI hG.out.own hy;rw[H9.out.bx] at hcs;simp at hcs)
   refine leaves_cons (f:=36) (args:=#[.pointer (some ⟨hb,0,none⟩)]) (by simp) (by simp[go_sem]) ?_;refine UL.out.mono ?_;rintro e u' w3 ⟨rfl,rfl,rfl⟩;exact⟨_,by simp[results,results32,go_sem],_,rfl,D.out⟩
end
section
variable {x:Bx} {t:Bt} {fr:Nat->List Nat} {B:Nat->Nat->Nat->Prop} {S:Sb} {L:Nat}
end
theorem bit_past{w:World}{b c n:Nat}{ws:List Nat}(h:SetAt w b c n ws){j:Nat}(hj:n<=j):aF ws j=false:=by
 unfold aF;by_cases hl:j/64<ws.length
 ·have h1:=h.ok (j/64) hl;have h2 : 2 ^ (min 64 (n-64*(j/64)))<=2 ^ (j%64):=Nat.pow_le_pow_right (by decide) (by omega);rw[Nat.div_eq_of_lt (Nat.lt_of_lt_of_le h1 h2)];rfl
 ·rw[List.getD_eq_getElem?_getD,List.getElem?_eq_none (by omega)];simp
section
variable {w Wo:World} {hb sb lw:Nat} {x:Bx} {t:Bt} {fr:Nat->List Nat} {ls:List (Nat×Nat)} {S:Sb} {s:Int}
theorem HW.st0(H:HW w Wo hb sb lw x t fr ls S s)(may:M.mayB x.bS (x.lim:Int) (x.o:Int)=true):∃ B,St0 x t fr B S x.lim:=by
 obtain⟨h,o⟩:=H.so;have hbd:=o.sw.pl.bd;obtain⟨B,sd,n9,hL⟩:=o.sf;obtain⟨r,hr1,hr2⟩:=hbd.sp.kn;have hR:=hbd.hR;have hst:=o.st;have hP:=Nat.two_pow_pos x.o;have hn:t.m.n=r*2 ^ x.o:=by
  have e:t.m.n*4096=r*2 ^ x.o*4096:=by rw[hst,hr1,hR,Nat.mul_comm 4096,Nat.mul_assoc]
  exact Nat.eq_of_mul_eq_mul_right (by decide) e
 have key:∀ (pin:∀ i,i<t.m.n->W.PgIn (t.m.pg i)),St0 x t fr B S x.lim:=fun pin=>
  ⟨sd,n9,hst,o.si,H.lv,may,by rw[hn,Nat.mul_div_cancel _ hP];exact hr2,fun k hk j hj=>bit_past (hbd.mp.set k (by rw[hbd.mo];exact hk)) hj,pin⟩
 have n1:=sd.n1;have ok:=hbd.mp.ok;refine⟨B,key fun i hi=>?_⟩;obtain⟨q1,q2,q3,q4,q5,q6,q7,q8⟩:=ok i hi;have num:(-9223372036854775808<=(t.m.pg i).kd/\(t.m.pg i).kd<=9223372036854775807)/\(-9223372036854775808<=(t.m.pg i).lv/\(t.m.pg i).lv<=9223372036854775807)/\(-9223372036854775808<=(t.m.pg i).nx/\(t.m.pg i).nx<=9223372036854775807)/\(-9223372036854775808<=(t.m.pg i).pv/\(t.m.pg i).pv<=9223372036854775807)/\(-9223372036854775808<=(t.m.pg i).fs/\(t.m.pg i).fs<=9223372036854775807):=by
  cases e:S.c i with
  | some k=>
   obtain⟨h2,h3⟩:=o.si.pg i k e;have hn:=dN h2;have hm:∀ r,r∈S.pl k->r<t.m.n:=fun r hr=>(o.mem ((o.si.pm k h2 r).1 hr).1).2.1
   have hf:(-1:Int)<=bE (S.fl i)/\bE (S.fl i)<=255:=by
    rcases pB (S.fl i)with e|⟨r,e,hr⟩
    ·omega
    ·have:=(o.si.fl i k (by assumption)).2.1 r hr;omega
   have hx:(-1:Int)<=bD (S.pl k) i/\bD (S.pl k) i<=(t.m.n:Int)-1:=by
    rcases lR (S.pl k) i (o.si.pn k h2)with e|⟨r,e,hr,-⟩
    ·omega
    ·have:=hm r hr;omega
   have hy:(-1:Int)<=bG (S.pl k) i/\bG (S.pl k) i<=(t.m.n:Int)-1:=by
    rcases mL (S.pl k) i (o.si.pn k h2)with e|⟨r,e,hr,-⟩
    ·omega
    ·have:=hm r hr;omega
   rw[h3.kd,h3.lv,h3.nx,h3.pv,h3.fs];refine⟨?_,?_,?_,?_,?_⟩ <;> omega
  | none=>
   obtain⟨g,p,k,hb,h1,h2⟩:=sd.cv i hi;have h9:g≠9:=fun e=>n9 p k (e▸hb)
   have htg:=sd.tg g p k hb;have hp:=sd.pg g p k hb h9 i h1 h2;rw[o.si.eP,iG e,Option.getD_none] at hp;rw[hp];simp only[aN];refine⟨?_,?_,?_,?_,?_⟩ <;> (try split) <;> omega
 obtain⟨m1,m2,m3,m4,m5⟩:=num;exact⟨m1,⟨by omega,by omega⟩,⟨by omega,by omega⟩,m2,m3,m4,m5,q5,q6,q7,q8⟩
end
end Go.Proofs.YtkfmheelhinjdaaGreatDoor
