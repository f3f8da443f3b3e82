import Derived.Test.YtfmgnljlkdmndaaGreatDoorXx
import Derived.Test.YtfmgnljlkdmndaaGreatDoorWm
set_option maxRecDepth 1000000
set_option maxHeartbeats 80000000
namespace Go.Proofs.YtfmgnljlkdmndaaGreatDoor
open Tryz
open Go.RowKit
set_option linter.unusedVariables false
theorem Pol.from8{w w1 W lw x t}(k:Kt nO w w1)(h:Pol w1 W lw x t):Pol w W lw x t:=⟨h.box,h.bd,fun y hy=>an k.size (h.nw y hy),nT k h.kp⟩
theorem PO.from8{w w1 W lw x t fr ls}(k:Kt nO w w1)(h:PO w1 W lw x t fr ls):PO w W lw x t fr ls:=⟨h.pl.from8 k,h.sf,h.st,h.bm⟩
theorem lB{w:World}{y b:Nat}{l o:Int}(h:w.heap[y]?=some (bJ b l o)):w.cell? ⟨y,0,none⟩=some (.int .u64 b)/\w.cell? ⟨y,1,none⟩=some (.int .i64 l)/\w.cell? ⟨y,2,none⟩=some (.int .i64 o):=by refine⟨?_,?_,?_⟩ <;> simp[World.cell?,h]
theorem wK{w:World}{A:Obj}{a:Addr}{v:Value}(h:w.cell? a=some v):(w.alloc A).cell? a=some v:=((Kt.refl nO w).alloc A).cell id h
theorem zkA(bS:Nat)(a:bS<18446744073709551616)(lim ord:Int)(b : -9223372036854775808<=lim)(d:lim<=9223372036854775807)(f : -9223372036854775808<=ord)(c:ord<=9223372036854775807)(h:M.mayB bS lim ord=false)(w:World):
  Calls prog 6 #[dM bS lim ord] w fun e l=>e=.returned (.tuple #[.pointer none,.int .i64 1])/\Kt nO w l:=by
 have i:=aA ((Kt.refl nO w).alloc (bJ bS lim ord));have j:=aA (nH w (bJ bS lim ord));have k:=aA (fun W=>zkY bS a lim ord b d f c h W);obtain⟨p,m,n⟩:=lB j.o;clear h;go_enter func6,ntmps6;go_wp2_with fail;refine(k.o _).mono ?_;rintro e o ⟨rfl,g⟩;have D:=aA (nT i.o g);clear g;go_wp2_with fail;exact⟨rfl,.tuple #[.pointer none,.int .i64 1],by simp[results,results6,go_sem],rfl,D.o⟩
abbrev LZ(o:Nat):Bt:=⟨fun _=>0,aY o,fun _=>0⟩
abbrev MO:Sb:=⟨fun _=>none,fun _=>[],fun _=>[]⟩
def NN(w:World)(bS lim o:Nat)(e:Ending)(w':World):Prop:=∃ hb sb lw x,e=.returned (.tuple #[.pointer (some ⟨hb,0,none⟩),.int .i64 0])/\HW w w' hb sb lw x (LZ o) (fun _=>[]) [] MO 0/\x.bS=bS/\x.R=4096*2 ^ o/\x.lim=lim/\x.n=0/\x.o=o
theorem EG(bS:Nat)(l:bS<18446744073709551616)(lim o:Nat)(hl:lim<=64)(Z:o<=8)(A:M.mayB bS (lim:Int) (o:Int)=true)(a:bS%(4096*2 ^ o)=0)(w:World)(J:iT w):
  Calls prog 6 #[dM bS (lim:Int) (o:Int)] w fun e i=>NN w bS lim o e i:=by
 have K0:=aA ((Kt.refl nO w).alloc (bJ bS (lim:Int) (o:Int)));have u:=aA (nH w (bJ bS (lim:Int) (o:Int)));have K:=aA (fun W=>YI bS l lim o hl Z A W);have d:bS%4096=0:=Nat.mod_eq_zero_of_dvd (Nat.dvd_trans (Nat.dvd_mul_right _ _) (cz a));have HT:=aA J;have HB:=aA a;have v:=aA d;obtain⟨N,z,F⟩:=lB u.o;clear A J a d;go_enter func6,ntmps6;go_wp2_with fail;refine(K.o _).mono ?_;rintro e w2 ⟨lw,x,rfl,y,b,p,m,q,f,h⟩;have T:=aA (PO.from8 K0.o (YH o y q f h (by rw[b];exact v.o)));have g:=aA ((y.kp.block _ (lH u.o) (fun x=>x)).trans u.o);have c:=aA (show x.bS=bS/\x.R=4096*2 ^ o/\x.lim=lim/\x.n=0/\x.o=o/\x.P=fun _=>none from⟨b,p,m,q,f,h⟩);clear y b p m q f h N z F K;have r:=aA ((Kt.refl nO w2).drew);have NS:=aA (zJ (T.o.keep r.o) HT.o);obtain⟨N,z,F⟩:=lB g.o;go_wp2_with fail;obtain⟨Y,V,X⟩:=lB ((r.o.block _ (lH g.o) (fun x=>x)).trans g.o);go_region_held3 (fun i=>i.cell? ⟨w.heap.size,0,none⟩=some (.int .u64 bS)/\i.cell? ⟨w.heap.size,1,none⟩=some (.int .i64 lim)/\i.cell? ⟨w.heap.size,2,none⟩=some (.int .i64 o)) (first|with_reducible exact⟨Y,V,X⟩|with_reducible exact⟨I,G,Q⟩|with_reducible exact⟨wK I,wK G,wK Q⟩) (first
  | (go_at_call 20;(with_reducible refine NS.o.mono ?_);rintro e j ⟨sb,rfl,hs,E,hz⟩;have C:=aA (nT r.o E);have U:=aA hs;obtain⟨I,G,Q⟩:=lB ((C.o.block _ (lH g.o) (fun x=>x)).trans g.o);clear E hs hz)
  | fail)
 all_goals
  have D:=aA (show HW w (j.alloc (rQ 0 lw sb bS lim o)) j.heap.size sb lw x (LZ o) (fun _=>[]) [] MO 0 from by obtain⟨b,p,m,q,f,h⟩:=c.o;have k:=(Kt.refl nO j).alloc (rQ 0 lw sb bS lim o);have o3:=SO.new (T.o.keep C.o) U.o h;have h5:=U.o.pl.kp.size;refine⟨⟨_,o3.keep k⟩,fB.none,?_,h5,by rw[b,p];exact HB.o⟩;rw[b,m,f];exact nH j _)
  go_wp2_with fail;exact⟨rfl,.tuple #[.pointer (some ⟨j.heap.size,0,none⟩),.int .i64 0],by simp[results,results6,go_sem],_,sb,lw,x,rfl,D.o,c.o.1,c.o.2.1,c.o.2.2.1,c.o.2.2.2.1,c.o.2.2.2.2.1⟩
open Go.MuLone
section
variable {w W W1 W':World} {hb sb lw:Nat} {x:Bx} {t:Bt} {fr:Nat->List Nat} {ls:List (Nat×Nat)} {S:Sb} {s:Int}
theorem HW.read(H:HW w W hb sb lw x t fr ls S s){p n:Nat}(h : 0<n)(a:M.In x.bS x.n p n):
  Calls prog 36 #[.pointer (some ⟨x.s,0,none⟩),.int .u64 p,.int .u64 n] W fun e b=>e=.returned (.tuple #[.slice (some ⟨W.heap.size+1,0,none⟩) n n,.int .i64 0])/\M.Blk b (W.heap.size+1) n (fun i=>t.f (p-x.bS+i))/\Kt nO W b:=by
 obtain⟨g,hg,hs⟩:=H.space (by unfold M.In at a;omega);refine(M.Read_in x.s g x.bS x.R x.lim x.n t.f p n W hs h a).mono ?_;rintro e b ⟨rfl,c,d⟩;exact⟨rfl,c,dF d⟩
theorem HW.write(H:HW w W hb sb lw x t fr ls S s){p n:Nat}{v:Value}{c:Nat->Nat}(l : 0<n)(hw:mY x ls S p n true)(m:M.Bytes W v n c):
  Calls prog 69 #[.pointer (some ⟨x.s,0,none⟩),.int .u64 p,v] W fun e h=>e=.returned (.int .i64 0)/\Wr w W hb sb lw x t fr ls S s (M.upd t.f (p-x.bS) n c) h:=by
 obtain⟨a,z,hl,q,o,b⟩:=H.wi hw;obtain⟨g,hg,hs⟩:=H.space (by unfold M.In at b;omega);refine(M.Write_in x.s g x.bS x.R x.lim x.n t.f p n v c W hs l b m).mono ?_;rintro e h ⟨rfl,d,i⟩;rw[<-hg] at d i;refine⟨rfl,H.wrote hl (fun j k=>M.upd_out _ _ _ _ _ (fun e=>k ?_)) d (dF i)⟩;unfold M.In at b;omega
inductive WrP(w W:World)(hb sb lw:Nat)(x:Bx)(t:Bt)(fr:Nat->List Nat)(ls:List (Nat×Nat))(S:Sb)(p n:Nat)(gg:Nat->Nat)(er:Int)(w':World):Prop where
 | nil (hn:n=0) (he:er=0) (kp:Kt nO W w')
 | ok (hn : 0<n) (hw:mY x ls S p n true) (he:er=0) (wr:Wr w W hb sb lw x t fr ls S 0 (M.upd t.f (p-x.bS) n gg) w')
 | bad (hn : 0<n) (hw:mY x ls S p n false) (he:er=4) (kp:Kt nO W w')
theorem YO(H:HW w W hb sb lw x t fr ls S 0)(p n:Nat)(hp:p<18446744073709551616)(Y:n<=9223372036854775807)(o:Option Addr)(m:Nat)(g:Nat->Nat)(z:M.Bytes W (.slice o n m) n g)(v : 0<n->∀ y,(Value.slice o n m).ownBlock=some y->y≠hb):
  Calls prog 28 #[.pointer (some ⟨hb,0,none⟩),.int .u64 p,.slice o n m] W fun e T=>∃ C,e=.returned (.int .i64 C)/\WrP w W hb sb lw x t fr ls S p n g C T:=by
 have A:=aA H.lock;have j:=aA H;by_cases h0:n=0
 ·subst h0;have u:=aA (iK H.in.po.pl);have G:=aA (M.Write_zero x.s (p:Int) o m (eQ W hb));obtain⟨c0,c2,c3,c4,c5,K⟩:=H.in.c;obtain⟨P,l1,l2⟩:=H.in.po.pl.c;clear H z;go_enter_defers func28,ntmps28;go_wp2_with fail;refine A.o.mono ?_;rintro e N ⟨rfl,rfl⟩;go_wp2_with fail;refine u.o.mono ?_;rintro e R ⟨rfl,b⟩;replace b:=b.symm;subst b;go_wp2_with fail;refine G.o.mono ?_;rintro e r ⟨rfl,a⟩;have h:=aA ((j.o.in.keep (dF a)).unlock .returning);have D:=aA (show WrP w W hb sb lw x t fr ls S p 0 g 0 (eS r hb)from .nil rfl rfl (j.o.kout (dF a)));clear a;go_wp2_with fail;refine leaves_cons (f:=30) (args:=#[.pointer (some ⟨hb,0,none⟩)]) (by simp) (by simp[go_sem]) ?_;refine h.o.mono ?_;rintro e E F ⟨rfl,rfl,rfl⟩;exact⟨_,results_tmp rfl _ _ _,0,rfl,D.o⟩
 ·have d : 0<n:=by omega
  have X:(0:Int)<(n:Int):=by omega
  have U:IntKind.u64.wrap (n:Int)=n:=by rw[wrap_u64];omega
  have J:=aA (zlA H.in p n hp (by omega));have Q:=aA (fun W' (k:Kt nO (eQ W hb) W')=>(z.kept (fL (H.set 1).2) (v (by omega))).kept (fL k) (fun _ _ e=>e));clear H h0 z;go_enter_defers func28,ntmps28;go_wp2_with fail;refine A.o.mono ?_;rintro e N ⟨rfl,rfl⟩;go_wp2_with fail;refine J.o.mono ?_;rintro e V ⟨l,rfl,hl,a⟩;have i:=aA (j.o.in.keep a);have q:=aA a;clear a
  cases l with
  | false=>
   have h:=aA (i.o.unlock .returning);have D:=aA (show WrP w W hb sb lw x t fr ls S p n g 4 (eS V hb)from .bad d hl rfl (j.o.kout q.o));clear hl;go_wp2_with fail;refine leaves_cons (f:=30) (args:=#[.pointer (some ⟨hb,0,none⟩)]) (by simp) (by simp[go_sem]) ?_;refine h.o.mono ?_;rintro e E F ⟨rfl,rfl,rfl⟩;exact⟨_,results_tmp rfl _ _ _,4,rfl,D.o⟩
  | true=>
   have u:=aA (iK i.o.po.pl);have I:=aA (i.o.write d hl (Q.o _ q.o));obtain⟨c0,c2,c3,c4,c5,K⟩:=i.o.c;obtain⟨P,l1,l2⟩:=i.o.po.pl.c;have L:=aA hl;clear hl;go_wp2_with fail;refine u.o.mono ?_;rintro e R ⟨rfl,b⟩;replace b:=b.symm;subst b;go_wp2_with fail;refine I.o.mono ?_;rintro e r ⟨rfl,hw⟩;have h:=aA (hw.1.unlock .returning);have D:=aA (show WrP w W hb sb lw x t fr ls S p n g 0 (eS r hb)from .ok d L.o rfl ((hw.from q.o).o j.o));clear hw;go_wp2_with fail;refine leaves_cons (f:=30) (args:=#[.pointer (some ⟨hb,0,none⟩)]) (by simp) (by simp[go_sem]) ?_;refine h.o.mono ?_;rintro e E F ⟨rfl,rfl,rfl⟩;exact⟨_,results_tmp rfl _ _ _,0,rfl,D.o⟩
end
def pgL(x:Bx)(t:Bt)(S:Sb)(i:Nat):List (Nat×Nat):=match S.c i with
 | some k=>iR x S i k (aF k)
 | none=>if (t.m.pg i).kd=2 then [(x.bS+4096*i,4096*2 ^ (t.m.pg i).od.toNat)] else []
def jH(x:Bx)(t:Bt)(S:Sb):Nat->List (Nat×Nat)
 | 0=>[]
 | i + 1=>jH x t S i ++ pgL x t S i
inductive Lv8(x:Bx)(S:Sb)(q:Pg)(i:Nat)(l:List (Nat×Nat)):Prop where
 | none (hq:q.kd=0\/q.kd=1\/q.kd=3) (h1:l=[])
 | head (k:Nat) (hk:k<=8) (hq:q.kd=2) (ho:q.od=(k:Int)) (h1:l=[(x.bS+4096*i,4096*2 ^ k)])
 | slab (k:Nat) (hq:q.kd=4) (hc:S.c i=some k) (hl:q.cl=(k:Int)) (h1:l=iR x S i k (aF k))
theorem zir{c b W W':World}{v:Value}{l:List (Nat×Nat)}(h:GB c W v l)(hs:c.heap.size=b.heap.size)(k:Kt nO b W')(f:∀ y,v.ownBlock=some y->W'.heap[y]?=W.heap[y]?):GB b W' v l:=by
 refine⟨⟨h.own.1,?_⟩,fun g cap e=>by rw[<-hs];exact h.new g cap e,k⟩;rcases h.own.2 with h0|⟨g,cap,a,rfl,hb,hg,d⟩
 ·exact .inl h0
 ·exact .inr ⟨g,cap,a,rfl,hb,(f g (by simp[Value.ownBlock])).trans hg,d⟩
theorem xV{c:Array Oper}{o:Oper}{a:Act}{K:Act->World->Prop}{Q:Exit->Act->World->Prop}{E:Prop}{W g:World}{v u f:Value}
  (d:o.guard=none) (s x:Operand) (e:o.op=.call { callee:=.builtin .append,args:=#[s,x],argTypes:=#[48,48] })
  (hs:a.eval s=v) (hx:a.eval x=u) (b:∀ t,(Builtin.append_ #[48,48] t #[v,u]).run prog W=.ok f g) (h:K (a.put o.dst f) g):
  if Region.wanted o (yielded c a.tmps)=true then Oper.wp prog o a W K Q else E:=by
 have hw:Region.wanted o (yielded c a.tmps)=true:=by simp[Region.wanted,d]
 rw[ae hw];exact Lib.wp_append_run W s x _ _ e _ _ hs hx _ _ (b _) h
section
variable {w W W':World} {hb sb lw:Nat} {x:Bx} {t:Bt} {fr:Nat->List Nat} {ls:List (Nat×Nat)} {S:Sb} {s:Int}
theorem HW.lk(H:HW w W hb sb lw x t fr ls S s){i:Nat}(hi:i<t.m.n):Lv8 x S (t.m.pg i) i (pgL x t S i):=by
 obtain⟨h,o⟩:=H.so;have n1:=o.po.nums.1
 cases o.kind hi with
 | slab k hc=>
  obtain⟨b,sp⟩:=o.si.pg i k hc;exact .slab k sp.kd hc sp.cl (by unfold pgL;rw[hc])
 | big q k a hc hg d c hp=>
  have b:k<=8:=an (o.al a).1 n1;by_cases e:i=q
  ·rw[ae e] at hp;refine .head k b (by rw[hp];rfl) (by rw[hp];rfl) ?_;unfold pgL;rw[hg,hp];rfl
  ·rw[ac e] at hp;refine .none (.inr (.inr (by rw[hp];rfl))) ?_;unfold pgL;rw[hg,hp];rfl
 | free q j a f hg d c hp=>
  by_cases e:i=q
  ·rw[ae e] at hp;refine .none (.inl (by rw[hp];rfl)) ?_;unfold pgL;rw[hg,hp];rfl
  ·rw[ac e] at hp;refine .none (.inr (.inl (by rw[hp];rfl))) ?_;unfold pgL;rw[hg,hp];rfl
theorem HW.lvb(H:HW w W hb sb lw x t fr ls S s):∀ i,i<=t.m.n->(jH x t S i).length<=i*256
 | 0,_=>aj _
 | i+1,hi=>by
  have a:=H.lvb i (by omega);have c:(pgL x t S i).length<=256:=by
   cases H.lk (i:=i) (by omega)with
   | none hq a=>rw[a];decide
   | head k b hq d a=>rw[a];exact(by decide : 1<=256)
   | slab k hq hc hl a=>
    obtain⟨h,o⟩:=H.so;rw[a];exact an (tB x S i k _) (cW (o.si.pg i k hc).1).2.2
  unfold jH;rw[List.length_append];omega
theorem BN(H:HW w W hb sb lw x t fr ls S 0):
  Calls prog 14 #[.pointer (some ⟨hb,0,none⟩)] W fun e g=>∃ v,e=.returned v/\GB W g v (jH x t S t.m.n):=by
 have n2:=H.po.nums.2.1;have LK:=aA H.lock;have E:=aA H.in;have SB:=aA (fun i (hi:i<=t.m.n)=>H.lvb i hi);have SK:=aA (fun i (hi:i<t.m.n)=>H.lk hi);have sL:=aA (fun i=>show jH x t S (i + 1)=jH x t S i ++ pgL x t S i from rfl);have a0:(eQ W hb).heap.size=W.heap.size:=by simp
 obtain⟨n,hn⟩:=xe (t.m.n);have HH:=aA H;have HN:=aA hn;have z0:jH x t S 0=[]:=rfl;rw[<-hn] at n2 SB SK ⊢;obtain⟨f,hf⟩:=xe (jH x t S);rw[<-hf] at SB sL z0 ⊢;have AD:=aA (fun i (hi:i<n) W' (k:Kt nO (eQ W hb) W')=>tT (E.o.keep k) i (by omega));have CH:=aA (fun i k (hc:S.c i=some k) (q:Pg) (hq:q.cl=(k:Int)) W' (kk:Kt nO (eQ W hb) W')=>YA (E.o.keep kk) hc q hq);clear H hn hf;go_enter_defers func14,ntmps14;go_wp2_with fail;refine LK.o.mono ?_;rintro e w1 ⟨rfl,rfl⟩;have X:=aA (bT E.o.po.pl);have J:=aA (CD E.o.po);rw[<-HN.o] at J;obtain⟨c0,c2,c3,c4,c5,c6⟩:=E.o.c;go_wp2_with fail;refine X.o.mono ?_;rintro e w4 ⟨rfl,l⟩;replace l:=l.symm;subst l;go_wp2_with fail;refine J.o.mono ?_;rintro e w4 ⟨rfl,l⟩;replace l:=l.symm;subst l;clear X J c0 c2 c3 c4 c5 c6;go_wp2_with fail;go_loopw [3,22] (fun v c V=>∃ i:Nat,i<=n/\c=.int .i64 i/\Hd (GB (eQ W hb) V v (f i))) (fun _ c _=>n-(intOf c).toNat)
 case atStart=>exact⟨0,az _,rfl,aA (by rw[z0];exact GS.nil _ _ _ _ (Kt.refl nO _))⟩
 case round=>
  rename_i v _;clear z0;obtain⟨i,hi,rfl,p⟩:=hrel;obtain⟨va,vc,rfl⟩:=mQ p.o.own;have r:=SB.o i hi;by_cases G:i<n
  ·have a3:(i:Int)<n:=(by omega);have N:i<t.m.n:=(by rw[<-HN.o];exact G);have HJ:=aA (E.o.keep p.o.kp);have X:=aA (bT HJ.o.po.pl);have AT:=aA (jC x.m x.B t.m (i:Int) wr HJ.o.po.pl.bd.mp);rw[show cM t.m (i:Int)=t.m.pg i by unfold cM;rw[ae (dQ N),aa]] at AT;obtain⟨c0,c2,c3,c4,c5,c6⟩:=HJ.o.c;have sk:=SK.o i G;have C:=sL.o i;have Q:=aA (AD.o i G);obtain⟨m,hm⟩:=xe (x.bS+4096*i);rw[<-hm] at Q;generalize t.m.pg i=q at *;go_wp2_with fail;refine X.o.mono ?_;rintro e w4 ⟨rfl,l⟩;replace l:=l.symm;subst l;go_wp2_with fail;refine AT.o.mono ?_;rintro e w5 ⟨rfl,R⟩;have P:=aA (GS.keep p.o (R.alloc (aN q)));have I:=aA (nH w5 (aN q));clear X AT R c0 c2 c3 c4 c5 c6 p HJ;go_upto_region 8 with fail;generalize w5.alloc (aN q)=w6 at *;generalize w5.heap.size=j at *;obtain⟨x0,x1,x2,x3,x4,x5,x6,x7,x8,x9,a4⟩:=iU I.o
   cases sk with
   | none hq A=>
    rw[A,List.append_nil] at C;have q2:(q.kd == 2)=false:=(by rw[ag];omega);have q4:(q.kd == 4)=false:=(by rw[ag];omega);clear hq;go_wp2_with fail;exact⟨⟨i+1,by omega,by simp,aA (by rw[C];exact P.o)⟩,by simp[intOf];omega⟩
   | head k hk hq ho A=>
    have q2:(q.kd == 2)=true:=(by rw[co];exact hq);have RN:=aA (fun W'=>zN k hk q ho W');obtain⟨z,hz⟩:=xe (4096*2 ^ k);rw[<-hz] at RN A;rw[<-hm] at A;rw[A] at C;have KD:=aA ((Kt.refl nO w6).drew);have AL:=aA C;have U:=aA r;have XC:=aA (fun W' (kk:Kt nO w6 W')=>iU ((kk.block _ (lH I.o) id).trans I.o));have XE:=aA (fun W7 W8 (k7:Kt nO w6 W7) (k8:Kt (fun b=>(Value.slice va (f i).length vc).ownBlock=some b) W7 W8)=>iU ((k8.block _ (bg (lH I.o) k7.size) (fun e=>by obtain⟨cs,d⟩:=vF P.o.own e;rw[I.o] at d;simp at d)).trans ((k7.block _ (lH I.o) id).trans I.o)))
    have a2:=aA (show(f i).length<=4000000 by omega);have A6:=aA (Q.o _ (nT P.o.kp KD.o));clear hq ho hk hz A C hm r N;go_wp2_with fail;refine wp_region_noPanic ?_;obtain⟨d0,d1,d2,d3,d4,d5,d6,d7,d8,d9,a7⟩:=XC.o _ KD.o;go_region_held3 (fun g=>g.cell? ⟨j,0,none⟩=some (.int .i64 q.kd)/\g.cell? ⟨j,1,none⟩=some (.int .i64 q.od)/\g.cell? ⟨j,2,none⟩=some (.int .i64 q.cl)/\g.cell? ⟨j,3,none⟩=some (.int .i64 q.lv)/\g.cell? ⟨j,4,none⟩=some (.int .i64 q.nx)/\g.cell? ⟨j,5,none⟩=some (.int .i64 q.pv)/\g.cell? ⟨j,6,none⟩=some (.int .i64 q.fs)/\g.cell? ⟨j,7,none⟩=some (.int .u64 q.b0)/\g.cell? ⟨j,8,none⟩=some (.int .u64 q.b1)/\g.cell? ⟨j,9,none⟩=some (.int .u64 q.b2)/\g.cell? ⟨j,10,none⟩=some (.int .u64 q.b3)) ((refine⟨?_,?_,?_,?_,?_,?_,?_,?_,?_,?_,?_⟩ <;> with_reducible assumption)) (first
     | (go_at_call 46;(with_reducible refine A6.o.mono ?_);rintro e w7 ⟨rfl,h7⟩;replace h7:=h7.symm;subst h7)
     | (go_at_call 47;(with_reducible refine(RN.o _).mono ?_);rintro e w7 ⟨rfl,T⟩;have Z:=aA (nT KD.o T);obtain⟨v0,v1,v2,v3,v4,v5,v6,v7,v8,v9,v10⟩:=XC.o _ Z.o;obtain⟨b0,b1,b2,b3,b4,b5,b6,b7,b8,b9,a5⟩:=XC.o _ (Z.o.alloc (cA m z));obtain⟨gg,cap,w8,a,F,K8⟩:=GB.push (GS.keep P.o Z.o) m z (a2.o);obtain⟨e0,e1,e2,e3,e4,e5,e6,e7,e8,e9,a6⟩:=XE.o _ _ Z.o K8;clear T K8;have F:=aA F;replace a:=aA a)
     | (refine xV rfl (.tmp 41) (.tmp 48) rfl rfl rfl a.o ?_)
     | fail)
    all_goals
     refine NoPanic.normal ?_;go_wp2_with fail;exact⟨⟨i+1,by omega,by simp,aA (by rw[AL.o];exact F.o)⟩,by simp[intOf];omega⟩
   | slab k hq hc hl A=>
    have q2:(q.kd == 2)=false:=(by rw[ag];omega);have q4:(q.kd == 4)=true:=(by rw[co];exact hq);rw[A] at C;have AL:=aA C;have U:=aA r;have C6:=aA (CH.o i k hc q hl _ P.o.kp);have Y:(iR x S i k (aF k)).length<=256:=by obtain⟨h,o⟩:=E.o.so;exact an (tB x S i k _) (cW (o.si.pg i k hc).1).2.2
    have a1:=aA Y;clear hq hc hl A C hm r N Y;go_wp2_with fail;refine C6.o.mono ?_;rintro e w7 ⟨u,rfl,hu⟩;have G7:=aA (GS.keep P.o hu.kp);obtain⟨v8,w8,a,F,_⟩:=GB.pushL G7.o hu.own (by have:=U.o;omega) (by have:=a1.o;omega);have a:=aA a;have F:=aA F;clear hu;go_wp2_with (at_builtin;refine Lib.wpList_append_run _ rfl _ _ _ _ rfl _ _ rfl rfl _ _ (a.o _) ?_)
    exact⟨⟨i+1,by omega,by simp,aA (by rw[AL.o];exact F.o)⟩,by simp[intOf];omega⟩
  ·obtain rfl:i=n:=(by omega);have a3:¬(i:Int)<i:=(by omega);have H9:=aA (E.o.keep p.o.kp);go_wp2_with fail;have UL:=aA (H9.o.unlock .returning);have D:=aA (show GB W (eS wr hb) (.slice va (f i).length vc) (f i)from by
    refine zir p.o a0 (HH.o.round (K:=nO) id p.o.kp H9.o rfl rfl rfl) (fun y hy=>(H9.o.set 0).2.block _ ?_ ?_)
    ·obtain⟨cs,d⟩:=vF p.o.own hy;exact lH d
    ·intro e;subst e;obtain⟨cs,d⟩:=vF p.o.own hy;rw[H9.o.bx] at d;simp at d)
   refine leaves_cons (f:=30) (args:=#[.pointer (some ⟨hb,0,none⟩)]) (by simp) (by simp[go_sem]) ?_;refine UL.o.mono ?_;rintro e u' w3 ⟨rfl,rfl,rfl⟩;exact⟨_,by simp[results,results14,go_sem],_,rfl,D.o⟩
end
section
variable {x:Bx} {t:Bt} {fr:Nat->List Nat} {B:Nat->Nat->Nat->Prop} {S:Sb} {L:Nat}
theorem St0.ceB(h:St0 x t fr B S L){i k:Nat}(hc:S.c i=some k):∀ j,j<=aF k->W.ceB x.bS i (aB k) (W.wsP (t.m.pg i)) j=iR x S i k j
 | 0,_=>rfl
 | j+1,a=>by
  have b:=cW (h.si.pg i k hc).1;show(if aE (W.wsP (t.m.pg i)) j=true then W.ceB x.bS i (aB k) (W.wsP (t.m.pg i)) j ++ [(x.bS + i*4096 + j*aB k,aB k)] else W.ceB x.bS i (aB k) (W.wsP (t.m.pg i)) j)=(if j∈S.fl i then iR x S i k j else iR x S i k j ++ [(aK x i k j,aB k)])
  rw[h.bits hc j (by omega),h.ceB hc j (by omega)];by_cases e:j∈S.fl i
  ·rw[ae e,ac (by simp[e])]
  ·rw[ac e,ae (af ⟨by omega,e⟩)];unfold aK;rw[aq i 4096]
theorem St0.pgB(h:St0 x t fr B S L){i:Nat}(hi:i<t.m.n):W.pgB (bO x t S L) i=pgL x t S i:=by
 unfold W.pgB;show(if (t.m.pg i).kd=2 then [(x.bS+i*4096,4096*2 ^ (t.m.pg i).od.toNat)] else if (t.m.pg i).kd=4 then W.ceB x.bS i (16*2 ^ (t.m.pg i).cl.toNat) (W.wsP (t.m.pg i)) (W.celN9 (t.m.pg i).cl.toNat) else [])=pgL x t S i
 unfold pgL;rcases h.page hi with ⟨k,a,d,b,f⟩|⟨a,g,p,k,hb,d,b,f,c⟩
 ·rw[a,b.kd,ac (by decide),ae rfl,b.cl,aa];exact h.ceB a (aF k) (aj _)
 ·rw[a];show _=(if (t.m.pg i).kd=2 then [(x.bS+4096*i,4096*2 ^ (t.m.pg i).od.toNat)] else [])
  by_cases e:(t.m.pg i).kd=2
  ·rw[ae e,ae e,aq i 4096]
  ·rw[ac e,ac e,ac];rw[c];show ¬(if i=p then (g:Int) else (g:Int)+1)=4
   split <;> omega
theorem St0.bkL(h:St0 x t fr B S L):∀ j,j<=t.m.n->W.bkL (bO x t S L) j=jH x t S j
 | 0,_=>rfl
 | j+1,a=>by
  show W.bkL (bO x t S L) j ++ W.pgB (bO x t S L) j=jH x t S j ++ pgL x t S j
  rw[h.bkL j (by omega),h.pgB (by omega)]
theorem St0.blks(h:St0 x t fr B S L):W.blks (bO x t S L)=jH x t S t.m.n:=by unfold W.blks;rw[ae (by rw[h.sound])];exact h.bkL _ (aj _)
end
theorem bit_past{w:World}{b c n:Nat}{ws:List Nat}(h:SetAt w b c n ws){j:Nat}(e:n<=j):aE ws j=false:=by
 unfold aE;by_cases hl:j/64<ws.length
 ·have a:=h.ok (j/64) hl;have d : 2 ^ (min 64 (n-64*(j/64)))<=2 ^ (j%64):=bj (by decide) (by omega);rw[Nat.div_eq_of_lt (bg a d)];rfl
 ·rw[ai,dh (by omega)];simp
section
variable {w Wo:World} {hb sb lw:Nat} {x:Bx} {t:Bt} {fr:Nat->List Nat} {ls:List (Nat×Nat)} {S:Sb} {s:Int}
theorem HW.st0(H:HW w Wo hb sb lw x t fr ls S s)(may:M.mayB x.bS (x.lim:Int) (x.o:Int)=true):∃ B,St0 x t fr B S x.lim:=by
 obtain⟨h,o⟩:=H.so;have a:=o.sw.pl.bd;obtain⟨B,sd,n9,hL⟩:=o.sf;obtain⟨r,u,q⟩:=a.sp.kn;have hR:=a.hR;have l:=o.st;have J:=ax x.o;have A:t.m.n=r*2 ^ x.o:=by
  have e:t.m.n*4096=r*2 ^ x.o*4096:=by rw[l,u,hR,aq 4096,cx]
  exact Nat.eq_of_mul_eq_mul_right (by decide) e
 have y:∀ (pin:∀ i,i<t.m.n->W.PgIn (t.m.pg i)),St0 x t fr B S x.lim:=fun pin=>
  ⟨sd,n9,l,o.si,H.lv,may,by rw[A,dg _ J];exact q,fun k F j R=>bit_past (a.mp.set k (by rw[a.mo];exact F)) R,pin⟩
 have n1:=sd.n1;have ok:=a.mp.ok;refine⟨B,y fun i hi=>?_⟩;obtain⟨X,Z,Y,q4,N,P,E,T⟩:=ok i hi;have v:(-9223372036854775808<=(t.m.pg i).kd/\(t.m.pg i).kd<=9223372036854775807)/\(-9223372036854775808<=(t.m.pg i).lv/\(t.m.pg i).lv<=9223372036854775807)/\(-9223372036854775808<=(t.m.pg i).nx/\(t.m.pg i).nx<=9223372036854775807)/\(-9223372036854775808<=(t.m.pg i).pv/\(t.m.pg i).pv<=9223372036854775807)/\(-9223372036854775808<=(t.m.pg i).fs/\(t.m.pg i).fs<=9223372036854775807):=by
  cases e:S.c i with
  | some k=>
   obtain⟨d,f⟩:=o.si.pg i k e;have A:=cW d;have z:∀ r,r∈S.pl k->r<t.m.n:=fun r b=>(o.mem ((o.si.pm k d r).1 b).1).2.1
   have hf:(-1:Int)<=bC (S.fl i)/\bC (S.fl i)<=255:=by
    rcases oV (S.fl i)with e|⟨r,e,b⟩
    ·omega
    ·have:=(o.si.fl i k (by assumption)).2.1 r b;omega
   have hx:(-1:Int)<=bE (S.pl k) i/\bE (S.pl k) i<=(t.m.n:Int)-1:=by
    rcases mA (S.pl k) i (o.si.pn k d)with e|⟨r,e,b,-⟩
    ·omega
    ·have:=z r b;omega
   have hy:(-1:Int)<=bH (S.pl k) i/\bH (S.pl k) i<=(t.m.n:Int)-1:=by
    rcases nQ (S.pl k) i (o.si.pn k d)with e|⟨r,e,b,-⟩
    ·omega
    ·have:=z r b;omega
   rw[f.kd,f.lv,f.nx,f.pv,f.fs];refine⟨?_,?_,?_,?_,?_⟩ <;> omega
  | none=>
   obtain⟨g,p,k,hb,I,d⟩:=sd.cv i hi;have G:g≠9:=fun e=>n9 p k (e▸hb)
   have K:=sd.tg g p k hb;have hp:=sd.pg g p k hb G i I d;rw[o.si.eP,iW e,Option.getD_none] at hp;rw[hp];simp only[aU];refine⟨?_,?_,?_,?_,?_⟩ <;> (try split) <;> omega
 obtain⟨D,U,Q,C,V⟩:=v;exact⟨D,⟨by omega,by omega⟩,⟨by omega,by omega⟩,U,Q,C,V,N,P,E,T⟩
end
theorem ZR{zs:List Nat}{N:Nat}(hl:zs.length=(N+63)/64)(hz:∀ i,zs.getD i 0<2 ^ 64)(hb:∀ j,N<=j->aE zs j=false):dA zs N=zs:=by
 have c:∀ i,i<zs.length->(dA zs N).getD i 0=zs.getD i 0:=fun i hi=>by
  rw[vX zs N i hz (by omega)];refine Nat.mod_eq_of_lt (Nat.lt_pow_two_of_testBit _ fun b d=>?_);rcases Nat.lt_or_ge b 64 with h|h
  ·have a:=hb (64*i+b) (by omega);unfold aE at a;rw[show(64*i+b)/64=i by omega,show(64*i+b)%64=b by omega] at a;rw[Nat.testBit_eq_decide_div_mod_eq];exact ah (fun e=>by rw[e] at a;exact absurd a (by decide))
  ·exact Nat.testBit_lt_two_pow (bg (hz i) (bj (by decide) h))
 refine List.ext_getElem? fun i=>?_
 have f:(dA zs N).length=zs.length:=by rw[sN,hl]
 rcases Nat.lt_or_ge i zs.length with h|h
 ·have:=c i h;rw[ai,ai,bo (by omega),bo h] at this;rw[bo (by omega),bo h];exact congrArg some this
 ·rw[dh (by omega),dh h]
theorem zje{f g:Nat->Nat}{q:Nat}(h:∀ i,i<8->f (q+i)=g (q+i)):M.word f q=M.word g q:=by
 have a:∀ k,k<=8->M.wordTo (fun i=>f (q+i)) k=M.wordTo (fun i=>g (q+i)) k:=by
  intro k;induction k with
  | zero=>intro _;rfl
  | succ k b=>
   intro c;show M.wordTo _ k+f (q+k)*256 ^ k=M.wordTo _ k+g (q+k)*256 ^ k
   rw[b (by omega),h k (by omega)]
 exact a 8 (aj _)
theorem yU{p:Pg}(q:W.PgIn p):PgIn p:=⟨q.kd,q.od,q.cl,q.lv,q.nx,q.pv,q.fs,q.b0,q.b1,q.b2,q.b3⟩
theorem yR{w:World}{a o i:Nat}{p:Pg}(h:W.PgC w a o i p):PgC w a o i p:=
 ⟨h 0 (by decide),h 1 (by decide),h 2 (by decide),h 3 (by decide),h 4 (by decide),h 5 (by decide),h 6 (by decide),h 7 (by decide),h 8 (by decide),h 9 (by decide),h 10 (by decide)⟩
def rN(I:W.Img):Mp:=⟨I.ord.toNat,I.np,I.pg,fun j=>if j<I.ord.toNat then dA (I.pr j) (I.np/2 ^ (j+1)) else (dC (aY I.ord.toNat) I.np).wd j⟩
def Op8(w:World)(I:W.Img)(e:Ending)(w':World):Prop:=∃ hb sb lw x t fr ls S,e=.returned (.tuple #[.pointer (some ⟨hb,0,none⟩),.int .i64 0])/\HW w w' hb sb lw x t fr ls S 0/\Im9 I x t S/\Ls9 I I.ord.toNat fr S/\x.lim=I.lim.toNat/\∀ i,i<I.nm->t.f i=I.mem i
open Classical in
theorem Sf.of9{I:W.Img}{x:Bx}{t:Bt}{fr:Nat->List Nat}{S:Sb}{L:Nat}(h:St0 x t fr (jA I) S L):∃ ls,Sf x t fr ls:=by
 refine⟨((List.range I.np).flatMap fun p=>(List.range (x.o+1)).map fun j=>(p,j)).filter fun z=>decide (jA I 2 z.1 z.2),jA I,h.sd,h.n9,fun q i=>?_⟩;rw[List.mem_filter,List.mem_flatMap];constructor
 ·intro hb;refine⟨⟨q,List.mem_range.2 hb.1,List.mem_map.2 ⟨i,List.mem_range.2 ?_,rfl⟩⟩,af hb⟩;have:=(h.sd.al _ _ _ hb).1;omega
 ·rintro ⟨-,hb⟩;exact bw hb
theorem yW{w:World}{l:List Nat}{v:Value}(h:W.SlIn w v l.length (W.WdC w l))(h0:l≠[]):∃ g q c,v=.slice (some ⟨g,q,none⟩) l.length c/\nD w g q l/\∀ i,l.getD i 0<18446744073709551616:=by
 obtain⟨-,e,a,rfl,d|⟨b,o,rfl,-,hc⟩⟩:=h
 ·exact absurd (List.length_eq_zero_iff.1 d) h0
 ·refine⟨b,o,a,rfl,fun i hi=>(hc i hi).2,fun i=>?_⟩;rcases Nat.lt_or_ge i l.length with h|h
  ·exact(hc i h).1
  ·rw[ai,dh h];decide
theorem TG{w:World}{v:Value}{n:Nat}{f:Nat->Nat}(h:W.SlIn w v n (W.ByC w f)):∃ a c,v=.slice a n c/\M.Bytes w (.slice a n c) n f:=by
 obtain⟨-,d,e,rfl,b⟩:=h;refine⟨d,e,rfl,fun i hi=>?_,d,e,rfl,?_⟩
 ·rcases b with b|⟨k,o,-,-,hc⟩
  ·omega
  ·exact(hc i hi).1
 ·rcases b with b|⟨k,o,rfl,hl,hc⟩
  ·exact .inl b
  ·refine .inr ⟨_,rfl,hl,fun j g=>?_⟩;rw[Addr.add_lit];exact(hc j g).2
theorem yP{w:World}{l:List Int}{v:Value}(h:W.SlIn w v l.length (W.InC w l))(d:l.length=8):∃ a c,v=.slice (some a) 8 c/\pH w a (fun c=>l.getD c 0):=by
 obtain⟨-,e,b,rfl,g|⟨f,o,rfl,-,hc⟩⟩:=h
 ·omega
 ·refine⟨_,b,by rw[d],fun j i=>?_⟩;rw[Addr.add_lit];exact(hc j (by omega)).2
theorem yZ{I:W.Img}{k r:Nat}(hS:W.Sn9 I k r)(d:∀ i,i<I.np->W.PgIn (I.pg i)){i:Nat}(hi:i<I.np)(m:Mp)(mo:m.o=k)(mn:m.n=I.np):lU m (I.pg i)=I.pg i/\PgOk (I.pg i):=by
 obtain⟨kd,od,c,l,u,A,E,C,v,D,F,j,e,g,h,f⟩:=hS.pg i hi;have q:=d i hi;have k8:=hS.k8;refine⟨?_,⟨by omega,by omega,by omega,by omega,q.b0,q.b1,q.b2,q.b3⟩⟩;have c1:∀ a b z:Int,a<=z->z<=b->gB z a b=z:=fun a b z y p=>by unfold gB;omega
 unfold lU;rw[mo,mn,c1 _ _ _ (by omega) (by omega),c1 _ _ _ (by omega) (by omega),c1 _ _ _ (by omega) (by omega),c1 _ _ _ (by omega) (by omega),c1 _ _ _ e.1 (by omega),c1 _ _ _ g.1 (by omega),c1 _ _ _ h f]
section
variable {w W W1 W':World} {hb sb lw:Nat} {x:Bx} {t:Bt} {fr:Nat->List Nat} {ls:List (Nat×Nat)} {S:Sb} {s:Int}
theorem Nx.fill{x':Bx}{g:Bt}{c:Nat->List Nat}{b:List (Nat×Nat)}{d:Sb}{p r:Nat}{f':Nat->Nat}(nx:Nx w W W1 hb sb lw x t ls S s x' g c b d)(hL:∀ a z,aS x ls S a z->aS x' b d a z)(hl:aS x' b d p r)(n:∀ z,¬aS x ls S p z)(wr:Wr w W1 hb sb lw x' g c b d s f' W')(hf:∀ j,¬(p<=x'.bS+j/\x'.bS+j<p+r)->f' j=g.f j):Nx w W W' hb sb lw x t ls S s x' { g with f:=f' } c b d:=by
 refine⟨wr.1,⟨nx.ch.bS,nx.ch.R,nx.ch.lim,nx.ch.o,fun j i l=>?_⟩,nx.kp.trans wr.2 (fun _ _ e=>e) (fun y hy e=>(nx.ns y e).elim id (fun k=>absurd hy (Nat.not_lt.2 k))),nx.ns⟩;refine(hf j (fun e=>?_)).trans (nx.ch.kb j i l);obtain⟨a,z,l1,l2,q⟩:=i;obtain⟨u,m⟩:=nx.H.so;rw[nx.ch.bS] at e;rcases m.two (hL a z l1) hl with ⟨h,k⟩|h|h
 ·subst h;exact n _ l1
 ·omega
 ·omega
theorem HW.fill(H:HW w W hb sb lw x t fr ls S s){p z v:Nat}(hl:aS x ls S p z)(i:v<256):
  Calls prog 62 #[.pointer (some ⟨x.s,0,none⟩),.int .u64 p,.int .u64 z,.int .u8 v] W fun e c=>e=.returned (.int .i64 0)/\Wr w W hb sb lw x t fr ls S s (M.upd t.f (p-x.bS) z fun _=>v) c:=by
 obtain⟨k,o⟩:=H.so;have h0:=(o.span hl).1;have hi:=o.inside hl;have a:M.In x.bS x.n p z:=by unfold M.In;omega
 obtain⟨g,hg,hs⟩:=H.space (by omega);refine(M.Fill_in x.s g x.bS x.R x.lim x.n t.f p z v i W hs h0 a).mono ?_;rintro e c ⟨rfl,b,d⟩;rw[<-hg] at b d;exact⟨rfl,H.wrote hl (fun j h=>M.upd_out _ _ _ _ _ (fun e=>h (by omega))) b (dF d)⟩
inductive Cz(w W:World)(hb sb lw:Nat)(x:Bx)(t:Bt)(fr:Nat->List Nat)(ls:List (Nat×Nat))(S:Sb)(s:Int)(m:Nat)(d:Bool)(p:Nat)(er:Int)(w':World):Prop where
 | big (ho:cY x.o m=false) (hp:p=0) (he:er=3) (kp:Kt nO W w')
 | no (ho:cY x.o m=true) (hp:p=0) (he:er=2) (nf:NF x fr S (2 ^ cl m)) (hd:d=true\/x.n=x.lim*x.R) (kp:Kt nO W w')
 | yes (ho:cY x.o m=true) (x':Bx) (t':Bt) (fr':Nat->List Nat) (ls':List (Nat×Nat)) (S':Sb) (b:Bool) (he:er=0) (td:Td x t fr ls S (2 ^ cl m) d p b fr' ls' S') (nx:Nx w W w' hb sb lw x t ls S s x' t' fr' ls' S') (hL:∀ a z,aS x' ls' S' a z↔aS x ls S a z\/(a=p/\z=2 ^ cl m)) (hN:∀ z,¬aS x ls S p z) (hn:x'.n=(if b=true then x.n+x.R else x.n)) (hm:p%2 ^ cl m=0) (hb1:b=true->NF x fr S (2 ^ cl m)/\d=false/\x.n+x.R<=x.lim*x.R) (hb2:b=false->¬NF x fr S (2 ^ cl m)) (hz:∀ j,p<=x.bS+j->x.bS+j<p+2 ^ cl m->t'.f j=0)
theorem Cz.o{m:Nat}{d:Bool}{p:Nat}{i:Int}(H:HW w W hb sb lw x t fr ls S 0)(h:Cz w (eQ W hb) hb sb lw x t fr ls S 1 m d p i W'):Cz w W hb sb lw x t fr ls S 0 m d p i (eS W' hb):=by
 cases h with
 | big a hp he kp=>exact .big a hp he (H.kout kp)
 | no a hp he r hd kp=>exact .no a hp he r hd (H.kout kp)
 | yes a x' k f c l b he o nx hL n q j g e hz=>exact .yes a x' k f c l b he o (nx.o H) hL n q j g e hz
theorem zgy(H:HW w W hb sb lw x t fr ls S 0)(n sz:Nat)(o:n<18446744073709551616)(hs:sz<18446744073709551616)(d:Bool)(h0:n≠0)(a : 18446744073709551615/n<sz):
  Calls prog 24 #[.pointer (some ⟨hb,0,none⟩),.int .u64 n,.int .u64 sz,.bool d] W fun e h=>e=.returned (.tuple #[.int .u64 0,.int .i64 3])/\Kt nO W h:=by
 have c:=aA H.lock;have b:=aA (H.in.unlock .returning);have D:=aA (H.kout (Kt.refl nO _));obtain⟨q,hq⟩:=xe (18446744073709551615/n);have g:(18446744073709551615:Int)/(n:Int)=q:=by rw[hq];rfl
 have p:((n:Int) != 0)=true:=by rw[cu];omega
 have n1:((n:Int) == 0)=false:=by rw[ag];omega
 have r:¬(n:Int)=0:=by omega
 have j:(q:Int)<sz:=by omega
 have i:q<18446744073709551616:=by omega
 clear H hq a h0;go_enter_defers func24,ntmps24;go_wp2_with fail;refine c.o.mono ?_;rintro e k ⟨rfl,rfl⟩;go_wp2_with fail;refine leaves_cons (f:=30) (args:=#[.pointer (some ⟨hb,0,none⟩)]) (by simp) (by simp[go_sem]) ?_;refine b.o.mono ?_;rintro e l m ⟨rfl,rfl,rfl⟩;exact⟨_,results_tmp2 rfl _ _ _,rfl,D.o⟩
theorem ZF(H:HW w W hb sb lw x t fr ls S s)(d:Bool)(m:Nat)(C : 16<=m)(r:cY x.o m=true):
  Calls prog 61 #[.pointer (some ⟨hb,0,none⟩),.int .u64 ((2 ^ cl m:Nat):Int),.bool d] W fun e n=>∃ p l,e=.returned (.tuple #[.int .u64 ((p:Nat):Int),.int .i64 l])/\((l=2/\p=0/\Cz w W hb sb lw x t fr ls S s m d 0 2 n/\Kt nO W n)\/(l=0/\∃ x' i g c k,HW w n hb sb lw x' i g c k s/\aS x' c k p (2 ^ cl m)/\∀ v,Wr w n hb sb lw x' i g c k s (M.upd i.f (p-x'.bS) (2 ^ cl m) fun _=>0) v->Cz w W hb sb lw x t fr ls S s m d p 0 v)):=by
 refine(uY H (2 ^ cl m) (vV C r) d).mono ?_;rintro e n ⟨p,l,rfl,E⟩;refine⟨p,l,rfl,?_⟩
 cases E with
 | no hp he K hd kp=>exact .inl ⟨he,hp,.no r rfl rfl K hd kp,kp⟩
 | yes x' i g c k b he I nx hL A J q y u=>
  have hl:aS x' c k p (2 ^ cl m):=(hL _ _).2 (.inr ⟨rfl,rfl⟩);refine .inr ⟨he,x',i,g,c,k,nx.H,hl,fun v wr=>?_⟩;have hi:x'.bS<=p:=by obtain⟨Q,D⟩:=nx.H.so;exact(D.inside hl).1
  refine .yes r x' { i with f:=M.upd i.f (p-x'.bS) (2 ^ cl m) fun _=>0 } g c k b rfl I (nx.fill (fun a z h=>(hL a z).2 (.inl h)) hl A wr (fun j G=>M.upd_out _ _ _ _ _ (fun e=>G (by omega)))) hL A J q y u (fun j P N=>?_);have F:=nx.ch.bS;show M.upd i.f (p-x'.bS) (2 ^ cl m) (fun _=>0) j=0
  unfold M.upd;rw[ae (by omega)]
theorem ZD(H:HW w W hb sb lw x t fr ls S 0)(n sz:Nat)(hn:n<18446744073709551616)(hs:sz<18446744073709551616)(d:Bool)(F:n*sz<18446744073709551616)(m:Nat)(P:m=max (n*sz) 16):
  Calls prog 24 #[.pointer (some ⟨hb,0,none⟩),.int .u64 n,.int .u64 sz,.bool d] W fun e Y=>∃ p E,e=.returned (.tuple #[.int .u64 ((p:Nat):Int),.int .i64 E])/\Cz w W hb sb lw x t fr ls S 0 m d p E Y:=by
 have J:=aA H.lock;have HH:=aA H;have k:=aA (xN H.in (n*sz) 1 F (by decide) m (by omega));obtain⟨pr,b⟩:=xe (n*sz);rw[<-b] at k P F;have a2:(n:Int)*(sz:Int)=pr:=by rw[b];simp
 have u : 16<=m:=by omega
 have g:∀ (A:Prop),(((n:Int) != 0)=true->((n:Int) == 0)=false->¬(n:Int)=0->∀ q:Nat,(18446744073709551615:Int)/(n:Int)=q->¬(q:Int)<sz->q<18446744073709551616->A)->((n:Int)=0->A)->A:=by
  intro A a h2;by_cases h0:n=0
  ·exact h2 (by omega)
  ·refine a (by rw[cu];omega) (by rw[ag];omega) (by omega) (18446744073709551615/n) rfl ?_ ?_
   ·have:sz<=18446744073709551615/n:=by
     rw[Nat.le_div_iff_mul_le (by omega),aq];omega
    omega
   ·exact Nat.lt_of_le_of_lt (df _ _) (by decide)
 cases ho:cY x.o m with
 | false=>
  rw[ho] at k;rw[ac (by decide),ac (by decide)] at k;have j:=aA (H.in.unlock .returning);have D:=aA (show Cz w W hb sb lw x t fr ls S 0 m d 0 3 (eS (eQ W hb) hb)from .big ho rfl rfl (H.kout (Kt.refl nO _)));clear H ho P b;refine g _ (fun Z n1 n2 q T a1 a0=>?_) (fun Z=>?_)
  ·clear g;go_enter_defers func24,ntmps24;go_wp2_with fail;refine J.o.mono ?_;rintro e z ⟨rfl,rfl⟩;go_wp2_with fail;refine k.o.mono ?_;rintro e z ⟨rfl,a⟩;replace a:=a.symm;subst a;go_wp2_with fail;refine leaves_cons (f:=30) (args:=#[.pointer (some ⟨hb,0,none⟩)]) (by simp) (by simp[go_sem]) ?_;refine j.o.mono ?_;rintro e I C ⟨rfl,rfl,rfl⟩;exact⟨_,results_tmp2 rfl _ _ _,0,3,rfl,D.o⟩
  ·clear g;obtain rfl:n=0:=(by omega);obtain rfl:pr=0:=(by omega);go_enter_defers func24,ntmps24;go_wp2_with fail;refine J.o.mono ?_;rintro e z ⟨rfl,rfl⟩;go_wp2_with fail;refine k.o.mono ?_;rintro e z ⟨rfl,a⟩;replace a:=a.symm;subst a;go_wp2_with fail;refine leaves_cons (f:=30) (args:=#[.pointer (some ⟨hb,0,none⟩)]) (by simp) (by simp[go_sem]) ?_;refine j.o.mono ?_;rintro e I C ⟨rfl,rfl,rfl⟩;exact⟨_,results_tmp2 rfl _ _ _,0,3,rfl,D.o⟩
 | true=>
  rw[ho] at k;rw[ae rfl,ae rfl] at k;have R:=aA (ZF H.in d m u ho);have K:=aA (fun (p:Nat) (E:Int) (Y:World) (h:Cz w (eQ W hb) hb sb lw x t fr ls S 1 m d p E Y)=>h.o H);clear H ho P b u;obtain⟨r,hr⟩:=xe (2 ^ cl m);rw[<-hr] at k R;clear hr;refine g _ (fun Z n1 n2 q T a1 a0=>?_) (fun Z=>?_)
  ·clear g;go_enter_defers func24,ntmps24;go_wp2_with fail;refine J.o.mono ?_;rintro e z ⟨rfl,rfl⟩;go_wp2_with fail;refine k.o.mono ?_;rintro e z ⟨rfl,a⟩;replace a:=a.symm;subst a;go_wp2_with fail;refine R.o.mono ?_;rintro e w2 ⟨p,E,rfl,V⟩;rcases V with ⟨rfl,rfl,i,G⟩|⟨rfl,x',t',X,Q,S',l,hl,i⟩
   ·have j:=aA ((HH.o.in.keep G).unlock .returning);have D:=aA (K.o _ _ _ i);clear i G;go_wp2_with fail;refine leaves_cons (f:=30) (args:=#[.pointer (some ⟨hb,0,none⟩)]) (by simp) (by simp[go_sem]) ?_;refine j.o.mono ?_;rintro e I C ⟨rfl,rfl,rfl⟩;exact⟨_,results_tmp2 rfl _ _ _,0,2,rfl,D.o⟩
   ·have SP:=aA (iK l.po.pl);have U:=aA (l.fill (v:=0) hl (by decide));obtain⟨c0,c2,c3,c4,c5,c6⟩:=l.c;obtain⟨l0,l1,l2⟩:=l.po.pl.c;have N:=aA i;clear i hl;go_wp2_with fail;refine SP.o.mono ?_;rintro e C ⟨rfl,y⟩;replace y:=y.symm;subst y;go_wp2_with fail;refine U.o.mono ?_;rintro e w4 ⟨rfl,hw⟩;have j:=aA (hw.1.unlock .returning);have D:=aA (K.o _ _ _ (N.o _ hw));clear hw;go_wp2_with fail;refine leaves_cons (f:=30) (args:=#[.pointer (some ⟨hb,0,none⟩)]) (by simp) (by simp[go_sem]) ?_;refine j.o.mono ?_;rintro e I C ⟨rfl,rfl,rfl⟩;exact⟨_,results_tmp2 rfl _ _ _,p,0,rfl,D.o⟩
  ·clear g;obtain rfl:n=0:=(by omega);obtain rfl:pr=0:=(by omega);go_enter_defers func24,ntmps24;go_wp2_with fail;refine J.o.mono ?_;rintro e z ⟨rfl,rfl⟩;go_wp2_with fail;refine k.o.mono ?_;rintro e z ⟨rfl,a⟩;replace a:=a.symm;subst a;go_wp2_with fail;refine R.o.mono ?_;rintro e w2 ⟨p,E,rfl,V⟩;rcases V with ⟨rfl,rfl,i,G⟩|⟨rfl,x',t',X,Q,S',l,hl,i⟩
   ·have j:=aA ((HH.o.in.keep G).unlock .returning);have D:=aA (K.o _ _ _ i);clear i G;go_wp2_with fail;refine leaves_cons (f:=30) (args:=#[.pointer (some ⟨hb,0,none⟩)]) (by simp) (by simp[go_sem]) ?_;refine j.o.mono ?_;rintro e I C ⟨rfl,rfl,rfl⟩;exact⟨_,results_tmp2 rfl _ _ _,0,2,rfl,D.o⟩
   ·have SP:=aA (iK l.po.pl);have U:=aA (l.fill (v:=0) hl (by decide));obtain⟨c0,c2,c3,c4,c5,c6⟩:=l.c;obtain⟨l0,l1,l2⟩:=l.po.pl.c;have N:=aA i;clear i hl;go_wp2_with fail;refine SP.o.mono ?_;rintro e C ⟨rfl,y⟩;replace y:=y.symm;subst y;go_wp2_with fail;refine U.o.mono ?_;rintro e w4 ⟨rfl,hw⟩;have j:=aA (hw.1.unlock .returning);have D:=aA (K.o _ _ _ (N.o _ hw));clear hw;go_wp2_with fail;refine leaves_cons (f:=30) (args:=#[.pointer (some ⟨hb,0,none⟩)]) (by simp) (by simp[go_sem]) ?_;refine j.o.mono ?_;rintro e I C ⟨rfl,rfl,rfl⟩;exact⟨_,results_tmp2 rfl _ _ _,p,0,rfl,D.o⟩
end
end Go.Proofs.YtfmgnljlkdmndaaGreatDoor
namespace Go.Proofs.YtfmgnljlkdmndaaGreatDoor.K
open Tryz
open Go.RowKit
set_option linter.unusedVariables false
theorem Shrink_f(x:Bx)(t:Bt)(fr:Nat->List Nat)(ls:List (Nat×Nat))(s0:Sf x t fr ls)(p k o:Nat)(hl:(p,k)∈ls)(v:x.P p=none)(r:o<=k)(w:World)(h:BdAt w x t):
  Calls prog 65 #[.pointer (some ⟨x.b,0,none⟩),.int .u64 ((ad x p:Nat):Int),.int .i64 k,.int .i64 o] w fun e u=>e=.returned (.int .i64 0)/\DF x t w u ls (dL fr p k o) (dU ls p ++ [(p,o)]):=by
 obtain⟨n1,I,D⟩:=s0.sn.n;obtain⟨E,F,G⟩:=s0.sn.al hl;have hz : 0<2 ^ k:=ap (by decide);have c:=(s0.sn.live_iff p k (by omega)).2 ⟨hl,v⟩;have d:=s0.drop_iff hl;have j:=s0;obtain⟨B,s,C,hL⟩:=s0;obtain⟨f,_⟩:=sY s p (by omega);obtain⟨c1,m,y,c3,c4,c5,A,c7⟩:=s.shrink C ((hL p k).2 hl) v r;refine(zgD x t (ad x p) k o (by unfold ad;omega) c r w h).mono ?_;rintro e u ⟨rfl,l,z⟩;rw[f] at l ⊢;have a:m=dL fr p k o:=by
  funext i
  rw[A];rfl
 subst a;have hs:Sf x (eG x t p k o) (dL fr p k o) (dU ls p ++ [(p,o)]):=⟨y,c3,c4,fun q i=>by rw[c5,hL,pX,d]⟩;exact⟨by rw[c1];rfl,_,l,z,hs,AX _ _ _ _ _,BK.of h l j hs (c7.mono fun g hg=>hg.2)⟩
end Go.Proofs.YtfmgnljlkdmndaaGreatDoor.K
namespace Go.Proofs.YtfmgnljlkdmndaaGreatDoor
open Tryz
open Go.RowKit
open Go.MuLone
set_option linter.unusedVariables false
section
variable {w W W1 W2 W':World} {hb sb lw:Nat} {x:Bx} {t:Bt} {fr:Nat->List Nat} {ls:List (Nat×Nat)} {S:Sb} {s:Int}
theorem WE{W sb lw h}(o:SO w W sb lw x t fr ls S h){q k j:Nat}(b:(q,k)∈ls)(hc:S.c q=none)(a z:Nat):aS x (dU ls q ++ [(q,j)]) S a z↔(aS x ls S a z/\a≠ad x q)\/(a=ad x q/\z=4096*2 ^ j):=by rw[IE hc,DW o b hc]
def Sq(w W:World)(hb sb lw:Nat)(x:Bx)(t:Bt)(fr:Nat->List Nat)(ls:List (Nat×Nat))(S:Sb)(s:Int)(p z r:Nat)(w':World):Prop:=∃ t' q k j,(q,k)∈ls/\S.c q=none/\p=ad x q/\z=4096*2 ^ k/\r=4096*2 ^ j/\j<=k/\Nx w W w' hb sb lw x t ls S s x t' (dL fr q k j) (dU ls q ++ [(q,j)]) S/\(∀ a c,aS x (dU ls q ++ [(q,j)]) S a c↔(aS x ls S a c/\a≠p)\/(a=p/\c=r))/\t'.m.n=t.m.n
theorem Sq.from{p z r:Nat}(k:Kt nO W W1)(h:Sq w W1 hb sb lw x t fr ls S s p z r W'):Sq w W hb sb lw x t fr ls S s p z r W':=by obtain⟨i,q,b,j,c,e,f,g,d,a,nx,l⟩:=h;exact⟨i,q,b,j,c,e,f,g,d,a,nx.from k,l⟩
theorem Sq.o{p z r:Nat}(H:HW w W hb sb lw x t fr ls S 0)(h:Sq w (eQ W hb) hb sb lw x t fr ls S 1 p z r W'):Sq w W hb sb lw x t fr ls S 0 p z r (eS W' hb):=by obtain⟨i,q,b,j,c,e,f,g,d,a,nx,k⟩:=h;exact⟨i,q,b,j,c,e,f,g,d,a,nx.o H,k⟩
theorem HW.shrink(H:HW w W hb sb lw x t fr ls S s){q k j:Nat}(f:(q,k)∈ls)(hc:S.c q=none)(v:j<=k)(p:Nat)(hp:p=ad x q):
  Calls prog 65 #[.pointer (some ⟨x.b,0,none⟩),.int .u64 p,.int .i64 k,.int .i64 j] W fun e d=>e=.returned (.int .i64 0)/\Sq w W hb sb lw x t fr ls S s p (4096*2 ^ k) (4096*2 ^ j) d:=by
 subst hp;obtain⟨h,o⟩:=H.so;refine(K.Shrink_f x t fr ls o.sf q k j f (o.pnone8 hc) v W o.sw.pl.bd).mono ?_;rintro e d ⟨rfl,g,m,l,n,z,bk⟩;have r:PO w d lw x g (dL fr q k j) (dU ls q ++ [(q,j)]):=⟨o.sw.pl.call m l,n,by rw[z];exact o.st,o.bm⟩;have u:=o.pool r (Sm.refl x) bk (fun a c ha=>List.mem_append_left _ (List.mem_filter.2 ⟨(o.mem ha).1,af fun e=>by
  have e:a=q:=e;rw[e,hc] at ha
  cases ha⟩)) l
 have A:Kt (bN x sb) W d:=l.mono (fun _ _ e=>.inl e);have ch:Ch x t ls S x g (dU ls q ++ [(q,j)]) S:=⟨rfl,rfl,rfl,rfl,fun i D C=>bk i (o.byte D) (u.byte C)⟩;exact⟨rfl,g,q,k,j,f,hc,rfl,rfl,rfl,v,⟨H.call u H.lv ch A,ch,A,fun y e=>.inl e⟩,WE o f hc,z⟩
theorem Nx.trans{f:Bx}{q:Bt}{m:Nat->List Nat}{c:List (Nat×Nat)}{h:Sb}{k:Bx}{n:Bt}{d:Nat->List Nat}{b:List (Nat×Nat)}{l:Sb}(n1:Nx w W W1 hb sb lw x t ls S s f q m c h)(a:Nx w W1 W2 hb sb lw f q c h s k n d b l)(p:∀ j,nC x ls S j->nC k b l j->nC f c h j):Nx w W W2 hb sb lw x t ls S s k n d b l:=
 ⟨a.H,⟨a.ch.bS.trans n1.ch.bS,a.ch.R.trans n1.ch.R,a.ch.lim.trans n1.ch.lim,a.ch.o.trans n1.ch.o,fun j i g=>(a.ch.kb j (p j i g) g).trans (n1.ch.kb j i (p j i g))⟩,n1.kp.trans a.kp (fun _ _ e=>e) (fun y hy e=>(n1.ns y e).elim id (fun r=>absurd hy (Nat.not_lt.2 r))),fun y hy=>(a.ns y hy).elim (n1.ns y) (fun e=>.inr (an n1.kp.size e))⟩
theorem HW.copy(H:HW w W hb sb lw x t fr ls S s){p r q z k:Nat}(hl:aS x ls S p r)(a:aS x ls S q z)(l : 0<k)(v:k<=r)(u:k<=z):
  Calls prog 117 #[.pointer (some ⟨x.s,0,none⟩),.int .u64 p,.int .u64 q,.int .u64 k] W fun e c=>e=.returned (.int .i64 0)/\Wr w W hb sb lw x t fr ls S s (M.upd t.f (p-x.bS) k fun i=>t.f (q-x.bS+i)) c:=by
 obtain⟨y,o⟩:=H.so;have hi:=o.inside hl;have h:=o.inside a;obtain⟨g,hg,hs⟩:=H.space (by omega);refine(M.Copy_in x.s g x.bS x.R x.lim x.n t.f p q k W hs l (by unfold M.In;omega) (by unfold M.In;omega)).mono ?_;rintro e c ⟨rfl,b,d⟩;rw[<-hg] at b d;exact⟨rfl,H.wrote hl (fun j m=>M.upd_out _ _ _ _ _ (fun e=>m (by omega))) b (dF d)⟩
inductive Mq(w W:World)(hb sb lw:Nat)(x:Bx)(t:Bt)(fr:Nat->List Nat)(ls:List (Nat×Nat))(S:Sb)(s:Int)(p z r:Nat)(d:Bool)(p':Nat)(er:Int)(w':World):Prop where
 | no (hp:p'=0) (he:er=2) (nf:NF x fr S r) (hd:d=true\/x.n=x.lim*x.R) (kp:Kt nO W w')
 | yes (x':Bx) (t':Bt) (fr':Nat->List Nat) (ls':List (Nat×Nat)) (S':Sb) (b:Bool) (he:er=0) (nx:Nx w W w' hb sb lw x t ls S s x' t' fr' ls' S') (hL:∀ a c,aS x' ls' S' a c↔(aS x ls S a c/\a≠p)\/(a=p'/\c=r)) (hN:∀ c,¬aS x ls S p' c) (hn:x'.n=(if b=true then x.n+x.R else x.n)) (hm:p'%r=0) (hb1:b=true->NF x fr S r/\d=false/\x.n+x.R<=x.lim*x.R) (hb2:b=false->¬NF x fr S r) (cp:∀ i,i<z->i<r->t'.f (p'-x.bS+i)=t.f (p-x.bS+i)) (md:∃ W1 x1 t1 fr1 ls1 S1 s1,HW w W1 hb sb lw x1 t1 fr1 ls1 S1 s1/\x1.bS=x.bS/\x1.lim=x.lim/\x1.o=x.o/\x1.n=x'.n/\∀ a c,aS x1 ls1 S1 a c↔aS x ls S a c\/(a=p'/\c=r))
theorem Mq.from{p z r:Nat}{d:Bool}{i:Nat}{g:Int}(k:Kt nO W W1)(h:Mq w W1 hb sb lw x t fr ls S s p z r d i g W'):Mq w W hb sb lw x t fr ls S s p z r d i g W':=by
 cases h with
 | no hp he q hd kp=>exact .no hp he q hd (nT k kp)
 | yes x' l e a m b he nx hL n o j f c u md=>exact .yes x' l e a m b he (nx.from k) hL n o j f c u md
theorem Mq.o{p z r:Nat}{d:Bool}{i:Nat}{g:Int}(H:HW w W hb sb lw x t fr ls S 0)(h:Mq w (eQ W hb) hb sb lw x t fr ls S 1 p z r d i g W'):Mq w W hb sb lw x t fr ls S 0 p z r d i g (eS W' hb):=by
 cases h with
 | no hp he o hd kp=>exact .no hp he o hd (H.kout kp)
 | yes x' k e a l b he nx hL m n j f c q md=>exact .yes x' k e a l b he (nx.o H) hL m n j f c q md
theorem Mq.st{p z r:Nat}{d:Bool}{i:Nat}{g:Int}(H:HW w W hb sb lw x t fr ls S s)(h:Mq w W hb sb lw x t fr ls S s p z r d i g W'):∃ x' e c a f,HW w W' hb sb lw x' e c a f s:=by
 cases h with
 | no hp he j hd kp=>exact⟨_,_,_,_,_,H.keep kp⟩
 | yes x' e c a f b he nx=>exact⟨_,_,_,_,_,nx.H⟩
theorem SV{m:Bx}{q:Bt}{u:Nat->List Nat}{l:List (Nat×Nat)}{C:Sb}{b d:Bool}{p g z r k:Nat}{P w2 w3:World}(hl:aS x ls S p z)(hk:k=min z r)(n1:Nx w W P hb sb lw x t ls S s m q u l C)(hL:∀ a c,aS m l C a c↔aS x ls S a c\/(a=g/\c=r))(T:∀ c,¬aS x ls S g c)(hn:m.n=(if b=true then x.n+x.R else x.n))(hm:g%r=0)(U:b=true->NF x fr S r/\d=false/\x.n+x.R<=x.lim*x.R)(K:b=false->¬NF x fr S r)(wr:Wr w P hb sb lw m q u l C s (M.upd q.f (g-m.bS) k fun i=>q.f (p-m.bS+i)) w2)(gq:Gq w w2 hb sb lw m { q with f:=M.upd q.f (g-m.bS) k fun i=>q.f (p-m.bS+i) } u l C s p z w3):Mq w W hb sb lw x t fr ls S s p z r d g 0 w3:=by
 obtain⟨J,t2,I,A,Q,gd,G,V,D⟩:=gq;obtain⟨h1,Z⟩:=n1.H.so;have y:aS m l C g r:=(hL _ _).2 (.inr ⟨rfl,rfl⟩);have a1:=Z.inside y;have n2:=n1.fill (fun a c h=>(hL a c).2 (.inl h)) y T wr (fun j hj=>M.upd_out _ _ _ _ _ (fun e=>hj (by omega)));have F:∀ j,nC x ls S j->nC m l C j:=fun j ⟨a,c,l1,l2,l3⟩=>⟨a,c,(hL a c).2 (.inl l1),by rw[n1.ch.bS];exact l2,by rw[n1.ch.bS];exact l3⟩
 have nn:=n2.trans G (fun j h1 _=>F j h1);have N:g≠p:=fun e=>T z (by rw[e];exact hl)
 have E:∀ a c,aS J A Q a c↔(aS x ls S a c/\a≠p)\/(a=g/\c=r):=fun a c=>by
  rw[V,hL];constructor
  ·rintro ⟨e|e,Y⟩
   ·exact .inl ⟨e,Y⟩
   ·exact .inr e
  ·rintro (⟨e,Y⟩|e)
   ·exact⟨.inl e,Y⟩
   ·exact⟨.inr e,by rw[e.1];exact N⟩
 have v:=n1.ch.bS;refine .yes J t2 I A Q b rfl nn E T (D.trans hn) hm U K (fun i i1 i2=>?_) ⟨P,m,q,u,l,C,s,n1.H,v,n1.ch.lim,n1.ch.o,D.symm,hL⟩;have X:aS J A Q g r:=(E _ _).2 (.inr ⟨rfl,rfl⟩);have k3:=G.ch.kb (g-x.bS+i) ⟨g,r,y,by omega,by omega⟩ ⟨g,r,X,by rw[G.ch.bS];omega,by rw[G.ch.bS];omega⟩;rw[k3];show M.upd q.f (g-m.bS) k (fun i=>q.f (p-m.bS+i)) (g-x.bS+i)=_
 unfold M.upd;rw[v,ae (by omega),show g-x.bS+i-(g-x.bS)=i by omega];have a0:=Z.inside ((hL p z).2 (.inl hl));exact n1.ch.kb (p-x.bS+i) ⟨p,z,hl,by omega,by omega⟩ ⟨p,z,(hL p z).2 (.inl hl),by omega,by omega⟩
end
section
variable {w W W1 W2 W':World} {hb sb lw:Nat} {x:Bx} {t:Bt} {fr:Nat->List Nat} {ls:List (Nat×Nat)} {S:Sb} {s:Int}
theorem WH(H:HW w W hb sb lw x t fr ls S s){p z:Nat}(hl:aS x ls S p z)(r:Nat)(T:(∃ k,k<8/\r=aB k)\/(∃ k,k<=x.o/\r=4096*2 ^ k))(d:Bool):
  Calls prog 67 #[.pointer (some ⟨hb,0,none⟩),jK p z,.int .u64 r,.bool d] W fun e a=>∃ m X,e=.returned (.tuple #[.int .u64 ((m:Nat):Int),.int .i64 X])/\Mq w W hb sb lw x t fr ls S s p z r d m X a:=by
 have P:=aA ((Kt.refl nO W).alloc (cA p z));have R:=aA (nH W (cA p z));have Y:=aA (H.keep P.o);have TK:=aA (uY Y.o r T d);have HL:=aA hl;have Q : 16<=r/\r<=1048576:=by
  rcases T with ⟨k,v,rfl⟩|⟨k,v,rfl⟩
  ·have:=cN v;omega
  ·have h8:=H.po.nums.1;have : 2 ^ k<=2 ^ 8:=bj (by decide) (by omega);have : 0<2 ^ k:=ap (by decide);omega
 have N:p<9223372036854775808/\0<z/\z<=9223372036854775808:=by obtain⟨h',o⟩:=H.so;have h1:=o.inside hl;have h2:=(o.span hl).1;have n4:=o.po.nums.2.2.2.1;omega
 obtain⟨a1,a3,a2⟩:=N;obtain⟨a0,a5⟩:=Q;clear H hl T;go_enter func67,ntmps67;go_wp2_with fail;refine TK.o.mono ?_;rintro e u ⟨m,X,rfl,hT⟩
 cases hT with
 | no hp he nf hd kp=>
  subst hp he;have D:=aA (show Mq w W hb sb lw x t fr ls S s p z r d 0 2 u from .no rfl rfl nf hd (nT P.o kp));clear nf hd kp;go_wp2_with fail;exact⟨rfl,.tuple #[.int .u64 ((0:Nat):Int),.int .i64 2],by simp[results,results67,go_sem],0,2,rfl,D.o⟩
 | yes g l q j A b he td nx hL hN Z hm F C=>
  subst he;have X1:=aA (show u.heap[W.heap.size]?=some (cA p z)from by obtain⟨h',o⟩:=Y.o.so;exact(nx.kp.block _ (lH R.o) (o.bty8 R.o)).trans R.o)
  have H1:=aA nx.H;have y:aS g j A m r:=(hL _ _).2 (.inr ⟨rfl,rfl⟩);have n:aS g j A p z:=(hL _ _).2 (.inl HL.o);obtain⟨k,v⟩:=xe (min z r);have KD:=aA ((Kt.refl nO u).drew);have K:=aA (H1.o.keep KD.o);have J:=aA (show u.drew.heap[W.heap.size]?=some (cA p z)from X1.o);have SP:=aA (iK K.o.po.pl);have CP:=aA ((K.o.copy (k:=k) y n (by omega) (by omega) (by omega)).mono fun e a h=>(show e=.returned (.int .i64 0)/\(a.cell? ⟨hb,5,none⟩=some (.pointer (some ⟨lw,0,none⟩))/\a.cell? ⟨W.heap.size,0,none⟩=some (.int .u64 p)/\a.cell? ⟨W.heap.size,1,none⟩=some (.int .u64 z))/\Wr w u hb sb lw g l q j A s (M.upd l.f (m-g.bS) k fun i=>l.f (p-g.bS+i)) a/\a.heap[W.heap.size]?=some (cA p z)from by
   obtain⟨he,hw⟩:=h;have hx:a.heap[W.heap.size]?=some (cA p z):=by obtain⟨h',o⟩:=K.o.so;exact(hw.2.block _ (lH J.o) (o.bty8 J.o)).trans J.o
   exact⟨he,⟨hw.1.c.2.2.2.2.1,(fS hx).1,(fS hx).2.1⟩,hw.from KD.o,hx⟩))
  have MK:=aA (fun (G I:World) (wr:Wr w u hb sb lw g l q j A s (M.upd l.f (m-g.bS) k fun i=>l.f (p-g.bS+i)) G) (gq:Gq w G hb sb lw g { l with f:=M.upd l.f (m-g.bS) k fun i=>l.f (p-g.bS+i) } q j A s p z I)=>SV HL.o v (nx.from P.o) hL hN Z hm F C wr gq);have L2:=aA n;obtain⟨c0,c2,c3,c4,c5,c6⟩:=H1.o.c;obtain⟨d0,d2,d3,d4,d5,d6⟩:=K.o.c;obtain⟨x0,a4,xf⟩:=fS X1.o;obtain⟨y0,y1,yf⟩:=fS J.o;have E:(if r<z then (r:Int) else (z:Int))=(k:Int):=by split <;> omega
  clear td nx hL hN Z hm F C y n v
  all_goals
   go_wp2_with fail;go_region_held3 (fun a=>a.cell? ⟨hb,5,none⟩=some (.pointer (some ⟨lw,0,none⟩))/\a.cell? ⟨W.heap.size,0,none⟩=some (.int .u64 p)/\a.cell? ⟨W.heap.size,1,none⟩=some (.int .u64 z)) (first|with_reducible exact⟨d5,y0,y1⟩|with_reducible exact e6) (first
    | (go_at_call 31;(with_reducible refine(SP.o).mono ?_);rintro e w5 ⟨rfl,V⟩;replace V:=V.symm;subst V)
    | (go_at_call 117;(try rw[E]);(with_reducible refine(CP.o).mono ?_);rintro e G ⟨rfl,e6,hw,hx⟩;have U:=aA hw;have X2:=aA hx;clear hw hx)
    | fail)
   all_goals
    have GV:=aA (AI U.o.1 L2.o);have MM:=aA (fun I=>MK.o G I U.o);obtain⟨v0,v1,vf⟩:=fS X2.o;clear MK CP SP TK U;go_wp2_with fail;refine GV.o.mono ?_;rintro e I ⟨rfl,hG⟩;have D:=aA (MM.o _ hG);clear hG;go_wp2_with fail;exact⟨rfl,.tuple #[.int .u64 ((m:Nat):Int),.int .i64 0],by simp[results,results67,go_sem],m,0,rfl,D.o⟩
inductive Rl(w W:World)(hb sb lw:Nat)(x:Bx)(t:Bt)(fr:Nat->List Nat)(ls:List (Nat×Nat))(S:Sb)(s:Int)(p m:Nat)(d:Bool)(p':Nat)(er:Int)(w':World):Prop where
 | nil (hp:p=0) (h:Rq8 w W hb sb lw x t fr ls S s m d p' er w')
 | bad (hp:p≠0) (hl:∀ c,¬aS x ls S p c) (hp':p'=0) (he:er=1) (kp:Kt nO W w')
 | big (z:Nat) (hp:p≠0) (hl:aS x ls S p z) (ho:cY x.o m=false) (hp':p'=0) (he:er=3) (kp:Kt nO W w')
 | same (hp:p≠0) (ho:cY x.o m=true) (hl:aS x ls S p (2 ^ cl m)) (hp':p'=p) (he:er=0) (kp:Kt nO W w')
 | shr (z:Nat) (hp:p≠0) (ho:cY x.o m=true) (hl:aS x ls S p z) (h1 : 4096<=2 ^ cl m) (h2 : 2 ^ cl m<z) (hp':p'=p) (he:er=0) (hS:Sq w W hb sb lw x t fr ls S s p z (2 ^ cl m) w')
 | mov (z:Nat) (hp:p≠0) (ho:cY x.o m=true) (hl:aS x ls S p z) (hne : 2 ^ cl m≠z) (h1:¬(4096<=2 ^ cl m/\2 ^ cl m<z)) (hM:Mq w W hb sb lw x t fr ls S s p z (2 ^ cl m) d p' er w')
end
end Go.Proofs.YtfmgnljlkdmndaaGreatDoor
