import Derived.Test.YtfmgnljlkdmndaaGreatDoorXk
import Derived.Test.YtfmgnljlkdmndaaGreatDoorWk
set_option maxRecDepth 1000000
set_option maxHeartbeats 0
namespace Go.Proofs.YtfmgnljlkdmndaaGreatDoor
open Tryz RowKit
set_option linter.unusedVariables false
theorem Pol.iy{w w1 W lw x t}(k:Kt nO w w1)(h:Pol w1 W lw x t):Pol w W lw x t:=⟨h.box,h.bd,fun y hy=>an k.size (h.nw y hy),nT k h.kp⟩
theorem PO.iy{w w1 W lw x t fr ls}(k:Kt nO w w1)(h:PO w1 W lw x t fr ls):PO w W lw x t fr ls:=⟨h.pl.iy k,h.sf,h.st,h.bm⟩
theorem mH{w:Wd}{y b:Nat}{l o:Int}(h:w.heap[y]?=some (cK b l o)):w.cell? ⟨y,0,none⟩=some (.int .u64 b)/\w.cell? ⟨y,1,none⟩=some (.int .i64 l)/\w.cell? ⟨y,2,none⟩=some (.int .i64 o):=by refine⟨?_,?_,?_⟩ <;> simp[World.cell?,h]
theorem wS{w:Wd}{A:Obj}{a:Addr}{v:Vl}(h:w.cell? a=some v):(w.alloc A).cell? a=some v:=((kz w).alloc A).cell id h
abbrev NA(o:Nat):Bt:=⟨fun _=>0,aX o,fun _=>0⟩
abbrev NQ:Sb:=⟨fun _=>none,fun _=>[],fun _=>[]⟩
def RJ(w:Wd)(bS dl o:Nat)(e:Ending)(w':Wd):Prop:=∃ hb sb lw x,e=.returned (.tuple #[.pointer (some ⟨hb,0,none⟩),.int .i64 0])/\HW w w' hb sb lw x (NA o) (fun _=>[]) [] NQ 0/\x.bS=bS/\x.R=4096*2 ^ o/\x.dl=dl/\x.n=0/\x.o=o
theorem YP(bS:Nat)(h:bS<18446744073709551616)(dl o:Nat)(hl:dl<=64)(V:o<=8)(B:M.mayB bS (dl:Int) (o:Int)=true)(a:bS%(4096*2 ^ o)=0)(w:Wd)(K:iQ w):Calls prog 6 #[fF bS (dl:Int) (o:Int)] w fun e d=>RJ w bS dl o e d:=by
 have U:=aA ((kz w).alloc (cK bS (dl:Int) (o:Int)));have r:=aA (nH w (cK bS (dl:Int) (o:Int)));have I:=aA (fun W=>VX bS h dl o hl V B W);have g:bS%4096=0:=Nat.mod_eq_zero_of_dvd (Nat.dvd_trans (Nat.dvd_mul_right _ _) (da a));have HT:=aA K;have HB:=aA a;have u:=aA g;obtain⟨E,C,Q⟩:=mH r.o;clear B K a g;go_enter func6,ntmps6;go_wp2_with fail;refine(I.o _).mono ?_;rintro e w2 ⟨lw,x,rfl,v,b,m,q,p,l,i⟩;have N:=aA (PO.iy U.o (VW o v p l i (by rw[b];exact u.o)));have f:=aA ((v.kp.block _ (lH r.o) (fun x=>x)).trans r.o);have c:=aA (show x.bS=bS/\x.R=4096*2 ^ o/\x.dl=dl/\x.n=0/\x.o=o/\x.P=fun _=>none from⟨b,m,q,p,l,i⟩);clear v b m q p l i E C Q I;have y:=aA ((kz w2).drew);have Y:=aA (zO (N.o.dk y.o) HT.o);obtain⟨E,C,Q⟩:=mH f.o;go_wp2_with fail;obtain⟨X,T,y2⟩:=mH ((y.o.block _ (lH f.o) (fun x=>x)).trans f.o);go_region_held3 (fun d=>d.cell? ⟨w.heap.size,0,none⟩=some (.int .u64 bS)/\d.cell? ⟨w.heap.size,1,none⟩=some (.int .i64 dl)/\d.cell? ⟨w.heap.size,2,none⟩=some (.int .i64 o)) (first|with_reducible exact⟨X,T,y2⟩|with_reducible exact⟨G,A,J⟩|with_reducible exact⟨wS G,wS A,wS J⟩) (first
  | (go_at_call 20;(with_reducible refine Y.o.mono ?_);rintro e j ⟨sb,rfl,hs,z,hz⟩;have F:=aA (nT y.o z);have L:=aA hs;obtain⟨G,A,J⟩:=mH ((F.o.block _ (lH f.o) (fun x=>x)).trans f.o);clear z hs hz)
  | fail)
 all_goals
  have D:=aA (show HW w (j.alloc (rP 0 lw sb bS dl o)) j.heap.size sb lw x (NA o) (fun _=>[]) [] NQ 0 from by obtain⟨b,m,q,p,l,i⟩:=c.o;have k:=(kz j).alloc (rP 0 lw sb bS dl o);have o3:=SO.new (N.o.dk F.o) L.o i;have Z:=L.o.pl.kp.size;refine⟨⟨_,o3.dk k⟩,eY.none,?_,Z,by rw[b,m];exact HB.o⟩;rw[b,q,l];exact nH j _)
  go_wp2_with fail;exact⟨rfl,.tuple #[.pointer (some ⟨j.heap.size,0,none⟩),.int .i64 0],by simp[results,results6,go_sem],_,sb,lw,x,rfl,D.o,c.o.1,c.o.2.1,c.o.2.2.1,c.o.2.2.2.1,c.o.2.2.2.2.1⟩
open Go.MuLone
section
variable {w W W1 W':Wd} {hb sb lw:Nat} {x:Bx} {t:Bt} {fr:Nat->List Nat} {ls:List (Nat×Nat)} {S:Sb} {s:Int}
theorem HW.read(H:HW w W hb sb lw x t fr ls S s){p n:Nat}(d : 0<n)(a:M.In x.bS x.n p n):Calls prog 36 #[.pointer (some ⟨x.s,0,none⟩),.int .u64 p,.int .u64 n] W fun e b=>e=.returned (.tuple #[.slice (some ⟨W.heap.size+1,0,none⟩) n n,.int .i64 0])/\M.Blk b (W.heap.size+1) n (fun i=>t.f (p-x.bS+i))/\Kt nO W b:=by
 obtain⟨g,hg,hs⟩:=H.space (by unfold M.In at a;omega);refine(M.Read_in x.s g x.bS x.R x.dl x.n t.f p n W hs d a).mono ?_;rintro e b ⟨rfl,h,c⟩;exact⟨rfl,h,dI c⟩
theorem HW.write(H:HW w W hb sb lw x t fr ls S s){p n:Nat}{v:Vl}{c:Nat->Nat}(l : 0<n)(hw:mX x ls S p n true)(m:M.Bytes W v n c):Calls prog 69 #[.pointer (some ⟨x.s,0,none⟩),.int .u64 p,v] W fun e d=>e=.returned (.int .i64 0)/\Wr w W hb sb lw x t fr ls S s (M.upd t.f (p-x.bS) n c) d:=by
 obtain⟨a,z,hl,o,q,b⟩:=H.wi hw;obtain⟨g,hg,hs⟩:=H.space (by unfold M.In at b;omega);refine(M.Write_in x.s g x.bS x.R x.dl x.n t.f p n v c W hs l b m).mono ?_;rintro e d ⟨rfl,h,i⟩;rw[<-hg] at h i;refine⟨rfl,H.wrote hl (fun j k=>M.upd_out _ _ _ _ _ (fun e=>k ?_)) h (dI i)⟩;unfold M.In at b;omega
inductive WrP(w W:Wd)(hb sb lw:Nat)(x:Bx)(t:Bt)(fr:Nat->List Nat)(ls:List (Nat×Nat))(S:Sb)(p n:Nat)(gg:Nat->Nat)(er:Int)(w':Wd):Prop where
 | nil (hn:n=0) (he:er=0) (kp:Kt nO W w')
 | ok (hn : 0<n) (hw:mX x ls S p n true) (he:er=0) (wr:Wr w W hb sb lw x t fr ls S 0 (M.upd t.f (p-x.bS) n gg) w')
 | bad (hn : 0<n) (hw:mX x ls S p n false) (he:er=4) (kp:Kt nO W w')
theorem WC(H:HW w W hb sb lw x t fr ls S 0)(p n:Nat)(hp:p<18446744073709551616)(X:n<=9223372036854775807)(m:Option Addr)(o:Nat)(g:Nat->Nat)(u:M.Bytes W (.slice m n o) n g)(v : 0<n->∀ y,(Value.slice m n o).ownBlock=some y->y≠hb):Calls prog 28 #[.pointer (some ⟨hb,0,none⟩),.int .u64 p,.slice m n o] W fun e I=>∃ A,e=.returned (.int .i64 A)/\WrP w W hb sb lw x t fr ls S p n g A I:=by
 have C:=aA H.lock;have h:=aA H;by_cases h0:n=0;·subst h0;have z:=aA (iI H.in.po.pl);have T:=aA (M.Write_zero x.s (p:Int) m o (eI W hb));obtain⟨c0,c2,c3,c4,c5,G⟩:=H.in.c;obtain⟨P,l1,l2⟩:=H.in.po.pl.c;clear H u;go_enter_defers func28,ntmps28;go_wp2_with fail;refine C.o.mono ?_;rintro e N ⟨rfl,rfl⟩;go_wp2_with fail;refine z.o.mono ?_;rintro e Q ⟨rfl,a⟩;replace a:=a.symm;subst a;go_wp2_with fail;refine T.o.mono ?_;rintro e q ⟨rfl,d⟩;have i:=aA ((h.o.in.dk (dI d)).unlock .returning);have D:=aA (show WrP w W hb sb lw x t fr ls S p 0 g 0 (eJ q hb)from .nil rfl rfl (h.o.ft (dI d)));clear d;go_wp2_with fail;refine dm (f:=30) (args:=#[.pointer (some ⟨hb,0,none⟩)]) (by simp) (by simp[go_sem]) ?_;refine i.o.mono ?_;rintro e B E ⟨rfl,rfl,rfl⟩;exact⟨_,results_tmp rfl _ _ _,0,rfl,D.o⟩
 ·have b : 0<n:=by omega
  have U:(0:Int)<(n:Int):=by omega
  have J:IntKind.u64.wrap (n:Int)=n:=by rw[wrap_u64];omega
  have K:=aA (zlO H.in p n hp (by omega));have F:=aA (fun W' (k:Kt nO (eI W hb) W')=>(u.kept (fJ (H.set 1).2) (v (by omega))).kept (fJ k) (fun _ _ e=>e));clear H h0 u;go_enter_defers func28,ntmps28;go_wp2_with fail;refine C.o.mono ?_;rintro e N ⟨rfl,rfl⟩;go_wp2_with fail;refine K.o.mono ?_;rintro e R ⟨l,rfl,hl,d⟩;have j:=aA (h.o.in.dk d);have r:=aA d;clear d
  cases l with
  | false=>have i:=aA (j.o.unlock .returning);have D:=aA (show WrP w W hb sb lw x t fr ls S p n g 4 (eJ R hb)from .bad b hl rfl (h.o.ft r.o));clear hl;go_wp2_with fail;refine dm (f:=30) (args:=#[.pointer (some ⟨hb,0,none⟩)]) (by simp) (by simp[go_sem]) ?_;refine i.o.mono ?_;rintro e B E ⟨rfl,rfl,rfl⟩;exact⟨_,results_tmp rfl _ _ _,4,rfl,D.o⟩
  | true=>have z:=aA (iI j.o.po.pl);have V:=aA (j.o.write b hl (F.o _ r.o));obtain⟨c0,c2,c3,c4,c5,G⟩:=j.o.c;obtain⟨P,l1,l2⟩:=j.o.po.pl.c;have L:=aA hl;clear hl;go_wp2_with fail;refine z.o.mono ?_;rintro e Q ⟨rfl,a⟩;replace a:=a.symm;subst a;go_wp2_with fail;refine V.o.mono ?_;rintro e q ⟨rfl,hw⟩;have i:=aA (hw.1.unlock .returning);have D:=aA (show WrP w W hb sb lw x t fr ls S p n g 0 (eJ q hb)from .ok b L.o rfl ((hw.from r.o).o h.o));clear hw;go_wp2_with fail;refine dm (f:=30) (args:=#[.pointer (some ⟨hb,0,none⟩)]) (by simp) (by simp[go_sem]) ?_;refine i.o.mono ?_;rintro e B E ⟨rfl,rfl,rfl⟩;exact⟨_,results_tmp rfl _ _ _,0,rfl,D.o⟩
end
theorem ZU{zs:List Nat}{N:Nat}(hl:zs.length=(N+63)/64)(hz:∀ i,zs.getD i 0<2 ^ 64)(hb:∀ j,N<=j->aE zs j=false):cZ zs N=zs:=by
 have c:∀ i,i<zs.length->(cZ zs N).getD i 0=zs.getD i 0:=fun i hi=>by
  rw[wB zs N i hz (by omega)];refine Nat.mod_eq_of_lt (Nat.lt_pow_two_of_testBit _ fun b d=>?_);rcases du b 64 with h|h
  ·have a:=hb (64*i+b) (by omega);unfold aE at a;rw[show(64*i+b)/64=i by omega,show(64*i+b)%64=b by omega] at a;rw[dn];exact ah (fun e=>by rw[e] at a;exact absurd a (by decide))
  ·exact Nat.testBit_lt_two_pow (bg (hz i) (bj (by decide) h))
 refine List.ext_getElem? fun i=>?_
 have f:(cZ zs N).length=zs.length:=by rw[sN,hl]
 rcases du i zs.length with h|h
 ·have:=c i h;rw[ai,ai,bo (by omega),bo h] at this;rw[bo (by omega),bo h];exact congrArg some this
 ·rw[dj (by omega),dj h]
theorem zjn{f g:Nat->Nat}{q:Nat}(h:∀ i,i<8->f (q+i)=g (q+i)):M.word f q=M.word g q:=by
 have a:∀ k,k<=8->M.wordTo (fun i=>f (q+i)) k=M.wordTo (fun i=>g (q+i)) k:=by
  intro k;induction k with
  | zero=>intro _;rfl
  | succ k b=>
   intro c;show M.wordTo _ k+f (q+k)*256 ^ k=M.wordTo _ k+g (q+k)*256 ^ k
   rw[b (by omega),h k (by omega)]
 exact a 8 (aj _)
theorem yZ{p:Pg}(q:W.PgIn p):PgIn p:=⟨q.kd,q.od,q.cl,q.lv,q.nx,q.pv,q.fs,q.b0,q.b1,q.b2,q.b3⟩
theorem yW{w:Wd}{a o i:Nat}{p:Pg}(h:W.PgC w a o i p):PgC w a o i p:=
 ⟨h 0 (by decide),h 1 (by decide),h 2 (by decide),h 3 (by decide),h 4 (by decide),h 5 (by decide),h 6 (by decide),h 7 (by decide),h 8 (by decide),h 9 (by decide),h 10 (by decide)⟩
def rM(I:W.Img):Mp:=⟨I.ord.toNat,I.np,I.pg,fun j=>if j<I.ord.toNat then cZ (I.pr j) (I.np/2 ^ (j+1)) else (dB (aX I.ord.toNat) I.np).wd j⟩
def Op8(w:Wd)(I:W.Img)(e:Ending)(w':Wd):Prop:=∃ hb sb lw x t fr ls S,e=.returned (.tuple #[.pointer (some ⟨hb,0,none⟩),.int .i64 0])/\HW w w' hb sb lw x t fr ls S 0/\Im9 I x t S/\Ls9 I I.ord.toNat fr S/\x.dl=I.dl.toNat/\∀ i,i<I.nm->t.f i=I.mem i
open Classical in
theorem Sf.oy{I:W.Img}{x:Bx}{t:Bt}{fr:Nat->List Nat}{S:Sb}{L:Nat}(h:St0 x t fr (iZ I) S L):∃ ls,Sf x t fr ls:=by
 refine⟨((List.range I.np).flatMap fun p=>(List.range (x.o+1)).map fun j=>(p,j)).filter fun z=>decide (iZ I 2 z.1 z.2),iZ I,h.sd,h.n9,fun q i=>?_⟩;rw[List.mem_filter,List.mem_flatMap];constructor;·intro hb;refine⟨⟨q,List.mem_range.2 hb.1,List.mem_map.2 ⟨i,List.mem_range.2 ?_,rfl⟩⟩,af hb⟩;have:=(h.sd.al _ _ _ hb).1;omega
 ·rintro ⟨-,hb⟩;exact bw hb
theorem zB{w:Wd}{l:List Nat}{v:Vl}(h:W.SlIn w v l.length (W.WdC w l))(h0:l≠[]):∃ g q c,v=.slice (some ⟨g,q,none⟩) l.length c/\nB w g q l/\∀ i,l.getD i 0<18446744073709551616:=by
 obtain⟨-,e,a,rfl,b|⟨d,o,rfl,-,hc⟩⟩:=h;·exact absurd (List.length_eq_zero_iff.1 b) h0
 ·refine⟨d,o,a,rfl,fun i hi=>(hc i hi).2,fun i=>?_⟩;rcases du i l.length with h|h
  ·exact(hc i h).1
  ·rw[ai,dj h];decide
theorem VH{w:Wd}{v:Vl}{n:Nat}{f:Nat->Nat}(h:W.SlIn w v n (W.ByC w f)):∃ a c,v=.slice a n c/\M.Bytes w (.slice a n c) n f:=by
 obtain⟨-,d,e,rfl,b⟩:=h;refine⟨d,e,rfl,fun i hi=>?_,d,e,rfl,?_⟩
 ·rcases b with b|⟨k,o,-,-,hc⟩
  ·omega
  ·exact(hc i hi).1
 ·rcases b with b|⟨k,o,rfl,hl,hc⟩
  ·exact .inl b
  ·refine .inr ⟨_,rfl,hl,fun j g=>?_⟩;rw[Addr.add_lit];exact(hc j g).2
theorem yU{w:Wd}{l:List Int}{v:Vl}(h:W.SlIn w v l.length (W.InC w l))(d:l.length=8):∃ a c,v=.slice (some a) 8 c/\pI w a (fun c=>l.getD c 0):=by
 obtain⟨-,i,b,rfl,e|⟨g,o,rfl,-,hc⟩⟩:=h;·omega
 ·refine⟨_,b,by rw[d],fun j f=>?_⟩;rw[Addr.add_lit];exact(hc j (by omega)).2
theorem zE{I:W.Img}{k r:Nat}(hS:W.Sn9 I k r)(d:∀ i,i<I.np->W.PgIn (I.pg i)){i:Nat}(hi:i<I.np)(m:Mp)(mo:m.o=k)(mn:m.n=I.np):lT m (I.pg i)=I.pg i/\PgOk (I.pg i):=by
 obtain⟨kd,od,c,l,B,D,p,v,E,C,y,u,f,e,g,h⟩:=hS.pg i hi;have q:=d i hi;have k8:=hS.k8;refine⟨?_,⟨by omega,by omega,by omega,by omega,q.b0,q.b1,q.b2,q.b3⟩⟩;have c1:∀ a b z:Int,a<=z->z<=b->fZ z a b=z:=fun a b z j A=>by unfold fZ;omega
 unfold lT;rw[mo,mn,c1 _ _ _ (by omega) (by omega),c1 _ _ _ (by omega) (by omega),c1 _ _ _ (by omega) (by omega),c1 _ _ _ (by omega) (by omega),c1 _ _ _ f.1 (by omega),c1 _ _ _ e.1 (by omega),c1 _ _ _ g h]
section
variable {w W W1 W':Wd} {hb sb lw:Nat} {x:Bx} {t:Bt} {fr:Nat->List Nat} {ls:List (Nat×Nat)} {S:Sb} {s:Int}
theorem Nx.fill{x':Bx}{g:Bt}{c:Nat->List Nat}{b:List (Nat×Nat)}{d:Sb}{p r:Nat}{f':Nat->Nat}(nx:Nx w W W1 hb sb lw x t ls S s x' g c b d)(hL:∀ a z,aR x ls S a z->aR x' b d a z)(hl:aR x' b d p r)(n:∀ z,¬aR x ls S p z)(wr:Wr w W1 hb sb lw x' g c b d s f' W')(hf:∀ j,¬(p<=x'.bS+j/\x'.bS+j<p+r)->f' j=g.f j):Nx w W W' hb sb lw x t ls S s x' { g with f:=f' } c b d:=by
 refine⟨wr.1,⟨nx.ch.bS,nx.ch.R,nx.ch.dl,nx.ch.o,fun j i m=>?_⟩,nx.kp.trans wr.2 (fun _ _ e=>e) (fun y hy e=>(nx.ns y e).elim id (fun k=>absurd hy (Nat.not_lt.2 k))),nx.ns⟩;refine(hf j (fun e=>?_)).trans (nx.ch.kb j i m);obtain⟨a,z,l1,l2,u⟩:=i;obtain⟨q,l⟩:=nx.H.so;rw[nx.ch.bS] at e;rcases l.two (hL a z l1) hl with ⟨h,k⟩|h|h
 ·subst h;exact n _ l1
 ·omega
 ·omega
theorem HW.fill(H:HW w W hb sb lw x t fr ls S s){p z v:Nat}(hl:aR x ls S p z)(i:v<256):Calls prog 62 #[.pointer (some ⟨x.s,0,none⟩),.int .u64 p,.int .u64 z,.int .u8 v] W fun e b=>e=.returned (.int .i64 0)/\Wr w W hb sb lw x t fr ls S s (M.upd t.f (p-x.bS) z fun _=>v) b:=by
 obtain⟨k,o⟩:=H.so;have h0:=(o.span hl).1;have hi:=o.inside hl;have a:M.In x.bS x.n p z:=by unfold M.In;omega
 obtain⟨g,hg,hs⟩:=H.space (by omega);refine(M.Fill_in x.s g x.bS x.R x.dl x.n t.f p z v i W hs h0 a).mono ?_;rintro e b ⟨rfl,c,d⟩;rw[<-hg] at c d;exact⟨rfl,H.wrote hl (fun j h=>M.upd_out _ _ _ _ _ (fun e=>h (by omega))) c (dI d)⟩
inductive Cz(w W:Wd)(hb sb lw:Nat)(x:Bx)(t:Bt)(fr:Nat->List Nat)(ls:List (Nat×Nat))(S:Sb)(s:Int)(m:Nat)(d:Bool)(p:Nat)(er:Int)(w':Wd):Prop where
 | big (ho:cX x.o m=false) (hp:p=0) (he:er=3) (kp:Kt nO W w')
 | no (ho:cX x.o m=true) (hp:p=0) (he:er=2) (nf:NF x fr S (2 ^ cl m)) (hd:d=true\/x.n=x.dl*x.R) (kp:Kt nO W w')
 | yes (ho:cX x.o m=true) (x':Bx) (t':Bt) (fr':Nat->List Nat) (eF:List (Nat×Nat)) (S':Sb) (b:Bool) (he:er=0) (td:Td x t fr ls S (2 ^ cl m) d p b fr' eF S') (nx:Nx w W w' hb sb lw x t ls S s x' t' fr' eF S') (hL:∀ a z,aR x' eF S' a z↔aR x ls S a z\/(a=p/\z=2 ^ cl m)) (hN:∀ z,¬aR x ls S p z) (hn:x'.n=(if b=true then x.n+x.R else x.n)) (hm:p%2 ^ cl m=0) (hb1:b=true->NF x fr S (2 ^ cl m)/\d=false/\x.n+x.R<=x.dl*x.R) (hb2:b=false->¬NF x fr S (2 ^ cl m)) (hz:∀ j,p<=x.bS+j->x.bS+j<p+2 ^ cl m->t'.f j=0)
theorem Cz.o{m:Nat}{d:Bool}{p:Nat}{i:Int}(H:HW w W hb sb lw x t fr ls S 0)(h:Cz w (eI W hb) hb sb lw x t fr ls S 1 m d p i W'):Cz w W hb sb lw x t fr ls S 0 m d p i (eJ W' hb):=by
 cases h with
 | big a hp he kp=>exact .big a hp he (H.ft kp)
 | no a hp he q hd kp=>exact .no a hp he q hd (H.ft kp)
 | yes a x' l g f r b he j nx hL o n k e c hz=>exact .yes a x' l g f r b he j (nx.o H) hL o n k e c hz
theorem zgC(H:HW w W hb sb lw x t fr ls S 0)(n sz:Nat)(k:n<18446744073709551616)(hs:sz<18446744073709551616)(d:Bool)(h0:n≠0)(a : 18446744073709551615/n<sz):Calls prog 24 #[.pointer (some ⟨hb,0,none⟩),.int .u64 n,.int .u64 sz,.bool d] W fun e b=>e=.returned (.tuple #[.int .u64 0,.int .i64 3])/\Kt nO W b:=by
 have i:=aA H.lock;have c:=aA (H.in.unlock .returning);have D:=aA (H.ft (kz _));obtain⟨q,hq⟩:=xe (18446744073709551615/n);have g:(18446744073709551615:Int)/(n:Int)=q:=by rw[hq];rfl
 have p:((n:Int) != 0)=true:=by rw[cx];omega
 have n1:((n:Int) == 0)=false:=by rw[ag];omega
 have l:¬(n:Int)=0:=by omega
 have j:(q:Int)<sz:=by omega
 have h:q<18446744073709551616:=by omega
 clear H hq a h0;go_enter_defers func24,ntmps24;go_wp2_with fail;refine i.o.mono ?_;rintro e m ⟨rfl,rfl⟩;go_wp2_with fail;refine dm (f:=30) (args:=#[.pointer (some ⟨hb,0,none⟩)]) (by simp) (by simp[go_sem]) ?_;refine c.o.mono ?_;rintro e o r ⟨rfl,rfl,rfl⟩;exact⟨_,results_tmp2 rfl _ _ _,rfl,D.o⟩
theorem zlB(H:HW w W hb sb lw x t fr ls S s)(d:Bool)(m:Nat)(C : 16<=m)(y:cX x.o m=true):Calls prog 61 #[.pointer (some ⟨hb,0,none⟩),.int .u64 ((2 ^ cl m:Nat):Int),.bool d] W fun e n=>∃ p l,e=.returned (.tuple #[.int .u64 ((p:Nat):Int),.int .i64 l])/\((l=2/\p=0/\Cz w W hb sb lw x t fr ls S s m d 0 2 n/\Kt nO W n)\/(l=0/\∃ x' i g c k,HW w n hb sb lw x' i g c k s/\aR x' c k p (2 ^ cl m)/\∀ r,Wr w n hb sb lw x' i g c k s (M.upd i.f (p-x'.bS) (2 ^ cl m) fun _=>0) r->Cz w W hb sb lw x t fr ls S s m d p 0 r)):=by
 refine(vF H (2 ^ cl m) (vY C y) d).mono ?_;rintro e n ⟨p,l,rfl,J⟩;refine⟨p,l,rfl,?_⟩
 cases J with
 | no hp he G hd kp=>exact .inl ⟨he,hp,.no y rfl rfl G hd kp,kp⟩
 | yes x' i g c k b he B nx hL A F q v u=>
  have hl:aR x' c k p (2 ^ cl m):=(hL _ _).2 (.inr ⟨rfl,rfl⟩);refine .inr ⟨he,x',i,g,c,k,nx.H,hl,fun r wr=>?_⟩;have hi:x'.bS<=p:=by obtain⟨N,E⟩:=nx.H.so;exact(E.inside hl).1
  refine .yes y x' { i with f:=M.upd i.f (p-x'.bS) (2 ^ cl m) fun _=>0 } g c k b rfl B (nx.fill (fun a z h=>(hL a z).2 (.inl h)) hl A wr (fun j D=>M.upd_out _ _ _ _ _ (fun e=>D (by omega)))) hL A F q v u (fun j K L=>?_);have I:=nx.ch.bS;show M.upd i.f (p-x'.bS) (2 ^ cl m) (fun _=>0) j=0
  unfold M.upd;rw[ae (by omega)]
theorem zlC(H:HW w W hb sb lw x t fr ls S 0)(n sz:Nat)(hn:n<18446744073709551616)(hs:sz<18446744073709551616)(d:Bool)(F:n*sz<18446744073709551616)(m:Nat)(K:m=max (n*sz) 16):Calls prog 24 #[.pointer (some ⟨hb,0,none⟩),.int .u64 n,.int .u64 sz,.bool d] W fun e N=>∃ p C,e=.returned (.tuple #[.int .u64 ((p:Nat):Int),.int .i64 C])/\Cz w W hb sb lw x t fr ls S 0 m d p C N:=by
 have J:=aA H.lock;have HH:=aA H;have j:=aA (xP H.in (n*sz) 1 F (by decide) m (by omega));obtain⟨pr,b⟩:=xe (n*sz);rw[<-b] at j K F;have a0:(n:Int)*(sz:Int)=pr:=by rw[b];simp
 have u : 16<=m:=by omega
 have g:∀ (A:Prop),(((n:Int) != 0)=true->((n:Int) == 0)=false->¬(n:Int)=0->∀ q:Nat,(18446744073709551615:Int)/(n:Int)=q->¬(q:Int)<sz->q<18446744073709551616->A)->((n:Int)=0->A)->A:=by
  intro A a h2;by_cases h0:n=0;·exact h2 (by omega)
  ·refine a (by rw[cx];omega) (by rw[ag];omega) (by omega) (18446744073709551615/n) rfl ?_ ?_
   ·have:sz<=18446744073709551615/n:=by
     rw[Nat.le_div_iff_mul_le (by omega),aq];omega
    omega
   ·exact Nat.lt_of_le_of_lt (dg _ _) (by decide)
 cases ho:cX x.o m with
 | false=>
  rw[ho] at j;rw[ac (by decide),ac (by decide)] at j;have k:=aA (H.in.unlock .returning);have D:=aA (show Cz w W hb sb lw x t fr ls S 0 m d 0 3 (eJ (eI W hb) hb)from .big ho rfl rfl (H.ft (kz _)));clear H ho K b;refine g _ (fun Q n1 n2 q R Z X=>?_) (fun Q=>?_);·clear g;go_enter_defers func24,ntmps24;go_wp2_with fail;refine J.o.mono ?_;rintro e z ⟨rfl,rfl⟩;go_wp2_with fail;refine j.o.mono ?_;rintro e z ⟨rfl,a⟩;replace a:=a.symm;subst a;go_wp2_with fail;refine dm (f:=30) (args:=#[.pointer (some ⟨hb,0,none⟩)]) (by simp) (by simp[go_sem]) ?_;refine k.o.mono ?_;rintro e E B ⟨rfl,rfl,rfl⟩;exact⟨_,results_tmp2 rfl _ _ _,0,3,rfl,D.o⟩
  ·clear g;obtain rfl:n=0:=(by omega);obtain rfl:pr=0:=(by omega);go_enter_defers func24,ntmps24;go_wp2_with fail;refine J.o.mono ?_;rintro e z ⟨rfl,rfl⟩;go_wp2_with fail;refine j.o.mono ?_;rintro e z ⟨rfl,a⟩;replace a:=a.symm;subst a;go_wp2_with fail;refine dm (f:=30) (args:=#[.pointer (some ⟨hb,0,none⟩)]) (by simp) (by simp[go_sem]) ?_;refine k.o.mono ?_;rintro e E B ⟨rfl,rfl,rfl⟩;exact⟨_,results_tmp2 rfl _ _ _,0,3,rfl,D.o⟩
 | true=>
  rw[ho] at j;rw[ae rfl,ae rfl] at j;have V:=aA (zlB H.in d m u ho);have I:=aA (fun (p:Nat) (C:Int) (N:Wd) (h:Cz w (eI W hb) hb sb lw x t fr ls S 1 m d p C N)=>h.o H);clear H ho K b u;obtain⟨r,hr⟩:=xe (2 ^ cl m);rw[<-hr] at j V;clear hr;refine g _ (fun Q n1 n2 q R Z X=>?_) (fun Q=>?_)
  ·clear g;go_enter_defers func24,ntmps24;go_wp2_with fail;refine J.o.mono ?_;rintro e z ⟨rfl,rfl⟩;go_wp2_with fail;refine j.o.mono ?_;rintro e z ⟨rfl,a⟩;replace a:=a.symm;subst a;go_wp2_with fail;refine V.o.mono ?_;rintro e w2 ⟨p,C,rfl,Y⟩;rcases Y with ⟨rfl,rfl,i,G⟩|⟨rfl,x',t',U,P,S',l,hl,i⟩
   ·have k:=aA ((HH.o.in.dk G).unlock .returning);have D:=aA (I.o _ _ _ i);clear i G;go_wp2_with fail;refine dm (f:=30) (args:=#[.pointer (some ⟨hb,0,none⟩)]) (by simp) (by simp[go_sem]) ?_;refine k.o.mono ?_;rintro e E B ⟨rfl,rfl,rfl⟩;exact⟨_,results_tmp2 rfl _ _ _,0,2,rfl,D.o⟩
   ·have SP:=aA (iI l.po.pl);have L:=aA (l.fill (v:=0) hl (by decide));obtain⟨c0,c2,c3,c4,c5,c6⟩:=l.c;obtain⟨l0,l1,l2⟩:=l.po.pl.c;have T:=aA i;clear i hl;go_wp2_with fail;refine SP.o.mono ?_;rintro e B ⟨rfl,y⟩;replace y:=y.symm;subst y;go_wp2_with fail;refine L.o.mono ?_;rintro e w4 ⟨rfl,hw⟩;have k:=aA (hw.1.unlock .returning);have D:=aA (I.o _ _ _ (T.o _ hw));clear hw;go_wp2_with fail;refine dm (f:=30) (args:=#[.pointer (some ⟨hb,0,none⟩)]) (by simp) (by simp[go_sem]) ?_;refine k.o.mono ?_;rintro e E B ⟨rfl,rfl,rfl⟩;exact⟨_,results_tmp2 rfl _ _ _,p,0,rfl,D.o⟩
  ·clear g;obtain rfl:n=0:=(by omega);obtain rfl:pr=0:=(by omega);go_enter_defers func24,ntmps24;go_wp2_with fail;refine J.o.mono ?_;rintro e z ⟨rfl,rfl⟩;go_wp2_with fail;refine j.o.mono ?_;rintro e z ⟨rfl,a⟩;replace a:=a.symm;subst a;go_wp2_with fail;refine V.o.mono ?_;rintro e w2 ⟨p,C,rfl,Y⟩;rcases Y with ⟨rfl,rfl,i,G⟩|⟨rfl,x',t',U,P,S',l,hl,i⟩
   ·have k:=aA ((HH.o.in.dk G).unlock .returning);have D:=aA (I.o _ _ _ i);clear i G;go_wp2_with fail;refine dm (f:=30) (args:=#[.pointer (some ⟨hb,0,none⟩)]) (by simp) (by simp[go_sem]) ?_;refine k.o.mono ?_;rintro e E B ⟨rfl,rfl,rfl⟩;exact⟨_,results_tmp2 rfl _ _ _,0,2,rfl,D.o⟩
   ·have SP:=aA (iI l.po.pl);have L:=aA (l.fill (v:=0) hl (by decide));obtain⟨c0,c2,c3,c4,c5,c6⟩:=l.c;obtain⟨l0,l1,l2⟩:=l.po.pl.c;have T:=aA i;clear i hl;go_wp2_with fail;refine SP.o.mono ?_;rintro e B ⟨rfl,y⟩;replace y:=y.symm;subst y;go_wp2_with fail;refine L.o.mono ?_;rintro e w4 ⟨rfl,hw⟩;have k:=aA (hw.1.unlock .returning);have D:=aA (I.o _ _ _ (T.o _ hw));clear hw;go_wp2_with fail;refine dm (f:=30) (args:=#[.pointer (some ⟨hb,0,none⟩)]) (by simp) (by simp[go_sem]) ?_;refine k.o.mono ?_;rintro e E B ⟨rfl,rfl,rfl⟩;exact⟨_,results_tmp2 rfl _ _ _,p,0,rfl,D.o⟩
end
namespace K
theorem Shrink_f(x:Bx)(t:Bt)(fr:Nat->List Nat)(ls:List (Nat×Nat))(s0:Sf x t fr ls)(p k o:Nat)(hl:(p,k)∈ls)(r:x.P p=none)(v:o<=k)(w:Wd)(h:BdAt w x t):Calls prog 65 #[.pointer (some ⟨x.b,0,none⟩),.int .u64 ((ad x p:Nat):Int),.int .i64 k,.int .i64 o] w fun e u=>e=.returned (.int .i64 0)/\DF x t w u ls (dJ fr p k o) (dR ls p ++ [(p,o)]):=by
 obtain⟨n1,F,I⟩:=s0.sn.n;obtain⟨G,D,E⟩:=s0.sn.al hl;have hz : 0<2 ^ k:=ap (by decide);have d:=(s0.sn.eT p k (by omega)).2 ⟨hl,r⟩;have l:=s0.ga hl;have m:=s0;obtain⟨B,s,C,hL⟩:=s0;obtain⟨f,_⟩:=sX s p (by omega);obtain⟨c1,j,A,c3,c4,c5,y,c7⟩:=s.shrink C ((hL p k).2 hl) r v;refine(zgH x t (ad x p) k o (by unfold ad;omega) d v w h).mono ?_;rintro e u ⟨rfl,c,z⟩;rw[f] at c ⊢;have a:j=dJ fr p k o:=by
  funext i
  rw[y];rfl
 subst a;have hs:Sf x (eC x t p k o) (dJ fr p k o) (dR ls p ++ [(p,o)]):=⟨A,c3,c4,fun q i=>by rw[c5,hL,pX,l]⟩;exact⟨by rw[c1];rfl,_,c,z,hs,AP _ _ _ _ _,BK.of h c m hs (c7.mono fun g hg=>hg.2)⟩
end K
section
variable {w W W1 W2 W':Wd} {hb sb lw:Nat} {x:Bx} {t:Bt} {fr:Nat->List Nat} {ls:List (Nat×Nat)} {S:Sb} {s:Int}
theorem WW{W sb lw h}(o:SO w W sb lw x t fr ls S h){q k j:Nat}(b:(q,k)∈ls)(hc:S.c q=none)(a z:Nat):aR x (dR ls q ++ [(q,j)]) S a z↔(aR x ls S a z/\a≠ad x q)\/(a=ad x q/\z=4096*2 ^ j):=by rw[JA hc,EJ o b hc]
def Sq(w W:Wd)(hb sb lw:Nat)(x:Bx)(t:Bt)(fr:Nat->List Nat)(ls:List (Nat×Nat))(S:Sb)(s:Int)(p z r:Nat)(w':Wd):Prop:=∃ t' q k j,(q,k)∈ls/\S.c q=none/\p=ad x q/\z=4096*2 ^ k/\r=4096*2 ^ j/\j<=k/\Nx w W w' hb sb lw x t ls S s x t' (dJ fr q k j) (dR ls q ++ [(q,j)]) S/\(∀ a c,aR x (dR ls q ++ [(q,j)]) S a c↔(aR x ls S a c/\a≠p)\/(a=p/\c=r))/\t'.m.n=t.m.n
theorem Sq.from{p z r:Nat}(k:Kt nO W W1)(h:Sq w W1 hb sb lw x t fr ls S s p z r W'):Sq w W hb sb lw x t fr ls S s p z r W':=by obtain⟨e,q,i,j,a,l,b,c,d,f,nx,g⟩:=h;exact⟨e,q,i,j,a,l,b,c,d,f,nx.from k,g⟩
theorem Sq.o{p z r:Nat}(H:HW w W hb sb lw x t fr ls S 0)(h:Sq w (eI W hb) hb sb lw x t fr ls S 1 p z r W'):Sq w W hb sb lw x t fr ls S 0 p z r (eJ W' hb):=by obtain⟨e,q,i,j,a,k,b,c,d,g,nx,f⟩:=h;exact⟨e,q,i,j,a,k,b,c,d,g,nx.o H,f⟩
theorem HW.shrink(H:HW w W hb sb lw x t fr ls S s){q k j:Nat}(g:(q,k)∈ls)(hc:S.c q=none)(u:j<=k)(p:Nat)(hp:p=ad x q):Calls prog 65 #[.pointer (some ⟨x.b,0,none⟩),.int .u64 p,.int .i64 k,.int .i64 j] W fun e d=>e=.returned (.int .i64 0)/\Sq w W hb sb lw x t fr ls S s p (4096*2 ^ k) (4096*2 ^ j) d:=by
 subst hp;obtain⟨h,o⟩:=H.so;refine(K.Shrink_f x t fr ls o.sf q k j g (o.jl hc) u W o.sw.pl.bd).mono ?_;rintro e d ⟨rfl,l,f,r,m,z,bk⟩;have n:PO w d lw x l (dJ fr q k j) (dR ls q ++ [(q,j)]):=⟨o.sw.pl.call f r,m,by rw[z];exact o.st,o.bm⟩;have v:=o.iz n (Sm.refl x) bk (fun a c ha=>List.mem_append_left _ (List.mem_filter.2 ⟨(o.mem ha).1,af fun e=>by
  have e:a=q:=e;rw[e,hc] at ha
  cases ha⟩)) r
 have A:Kt (bM x sb) W d:=r.mono (fun _ _ e=>.inl e);have ch:Ch x t ls S x l (dR ls q ++ [(q,j)]) S:=⟨rfl,rfl,rfl,rfl,fun i B C=>bk i (o.byte B) (v.byte C)⟩;exact⟨rfl,l,q,k,j,g,hc,rfl,rfl,rfl,u,⟨H.call v H.lv ch A,ch,A,fun y e=>.inl e⟩,WW o g hc,z⟩
theorem Nx.trans{h:Bx}{p:Bt}{l:Nat->List Nat}{b:List (Nat×Nat)}{i:Sb}{m:Bx}{q:Bt}{d:Nat->List Nat}{c:List (Nat×Nat)}{k:Sb}(n1:Nx w W W1 hb sb lw x t ls S s h p l b i)(a:Nx w W1 W2 hb sb lw h p b i s m q d c k)(n:∀ j,nA x ls S j->nA m c k j->nA h b i j):Nx w W W2 hb sb lw x t ls S s m q d c k:=
 ⟨a.H,⟨a.ch.bS.trans n1.ch.bS,a.ch.R.trans n1.ch.R,a.ch.dl.trans n1.ch.dl,a.ch.o.trans n1.ch.o,fun j f g=>(a.ch.kb j (n j f g) g).trans (n1.ch.kb j f (n j f g))⟩,n1.kp.trans a.kp (fun _ _ e=>e) (fun y hy e=>(n1.ns y e).elim id (fun r=>absurd hy (Nat.not_lt.2 r))),fun y hy=>(a.ns y hy).elim (n1.ns y) (fun e=>.inr (an n1.kp.size e))⟩
theorem HW.copy(H:HW w W hb sb lw x t fr ls S s){p r q z k:Nat}(hl:aR x ls S p r)(a:aR x ls S q z)(m : 0<k)(u:k<=r)(v:k<=z):Calls prog 117 #[.pointer (some ⟨x.s,0,none⟩),.int .u64 p,.int .u64 q,.int .u64 k] W fun e b=>e=.returned (.int .i64 0)/\Wr w W hb sb lw x t fr ls S s (M.upd t.f (p-x.bS) k fun i=>t.f (q-x.bS+i)) b:=by
 obtain⟨y,o⟩:=H.so;have hi:=o.inside hl;have h:=o.inside a;obtain⟨g,hg,hs⟩:=H.space (by omega);refine(M.Copy_in x.s g x.bS x.R x.dl x.n t.f p q k W hs m (by unfold M.In;omega) (by unfold M.In;omega)).mono ?_;rintro e b ⟨rfl,c,d⟩;rw[<-hg] at c d;exact⟨rfl,H.wrote hl (fun j l=>M.upd_out _ _ _ _ _ (fun e=>l (by omega))) c (dI d)⟩
inductive Mq(w W:Wd)(hb sb lw:Nat)(x:Bx)(t:Bt)(fr:Nat->List Nat)(ls:List (Nat×Nat))(S:Sb)(s:Int)(p z r:Nat)(d:Bool)(p':Nat)(er:Int)(w':Wd):Prop where
 | no (hp:p'=0) (he:er=2) (nf:NF x fr S r) (hd:d=true\/x.n=x.dl*x.R) (kp:Kt nO W w')
 | yes (x':Bx) (t':Bt) (fr':Nat->List Nat) (eF:List (Nat×Nat)) (S':Sb) (b:Bool) (he:er=0) (nx:Nx w W w' hb sb lw x t ls S s x' t' fr' eF S') (hL:∀ a c,aR x' eF S' a c↔(aR x ls S a c/\a≠p)\/(a=p'/\c=r)) (hN:∀ c,¬aR x ls S p' c) (hn:x'.n=(if b=true then x.n+x.R else x.n)) (hm:p'%r=0) (hb1:b=true->NF x fr S r/\d=false/\x.n+x.R<=x.dl*x.R) (hb2:b=false->¬NF x fr S r) (cp:∀ i,i<z->i<r->t'.f (p'-x.bS+i)=t.f (p-x.bS+i)) (md:∃ W1 x1 t1 fr1 ls1 S1 s1,HW w W1 hb sb lw x1 t1 fr1 ls1 S1 s1/\x1.bS=x.bS/\x1.dl=x.dl/\x1.o=x.o/\x1.n=x'.n/\∀ a c,aR x1 ls1 S1 a c↔aR x ls S a c\/(a=p'/\c=r))
theorem Mq.from{p z r:Nat}{d:Bool}{i:Nat}{g:Int}(k:Kt nO W W1)(h:Mq w W1 hb sb lw x t fr ls S s p z r d i g W'):Mq w W hb sb lw x t fr ls S s p z r d i g W':=by
 cases h with
 | no hp he o hd kp=>exact .no hp he o hd (nT k kp)
 | yes x' l f e u b he nx hL n m j c a q md=>exact .yes x' l f e u b he (nx.from k) hL n m j c a q md
theorem Mq.o{p z r:Nat}{d:Bool}{i:Nat}{g:Int}(H:HW w W hb sb lw x t fr ls S 0)(h:Mq w (eI W hb) hb sb lw x t fr ls S 1 p z r d i g W'):Mq w W hb sb lw x t fr ls S 0 p z r d i g (eJ W' hb):=by
 cases h with
 | no hp he n hd kp=>exact .no hp he n hd (H.ft kp)
 | yes x' k f e q b he nx hL m l j c a o md=>exact .yes x' k f e q b he (nx.o H) hL m l j c a o md
theorem Mq.st{p z r:Nat}{d:Bool}{i:Nat}{g:Int}(H:HW w W hb sb lw x t fr ls S s)(h:Mq w W hb sb lw x t fr ls S s p z r d i g W'):∃ x' e c a f,HW w W' hb sb lw x' e c a f s:=by
 cases h with
 | no hp he j hd kp=>exact⟨_,_,_,_,_,H.dk kp⟩
 | yes x' e c a f b he nx=>exact⟨_,_,_,_,_,nx.H⟩
theorem QH{m:Bx}{q:Bt}{u:Nat->List Nat}{l:List (Nat×Nat)}{y:Sb}{b d:Bool}{p g z r k:Nat}{P w2 Z:Wd}(hl:aR x ls S p z)(hk:k=min z r)(n1:Nx w W P hb sb lw x t ls S s m q u l y)(hL:∀ a c,aR m l y a c↔aR x ls S a c\/(a=g/\c=r))(Q:∀ c,¬aR x ls S g c)(hn:m.n=(if b=true then x.n+x.R else x.n))(hm:g%r=0)(L:b=true->NF x fr S r/\d=false/\x.n+x.R<=x.dl*x.R)(K:b=false->¬NF x fr S r)(wr:Wr w P hb sb lw m q u l y s (M.upd q.f (g-m.bS) k fun i=>q.f (p-m.bS+i)) w2)(gq:Gq w w2 hb sb lw m { q with f:=M.upd q.f (g-m.bS) k fun i=>q.f (p-m.bS+i) } u l y s p z Z):Mq w W hb sb lw x t fr ls S s p z r d g 0 Z:=by
 obtain⟨T,t2,N,A,U,gd,F,V,C⟩:=gq;obtain⟨X,Y⟩:=n1.H.so;have B:aR m l y g r:=(hL _ _).2 (.inr ⟨rfl,rfl⟩);have a1:=Y.inside B;have n2:=n1.fill (fun a c h=>(hL a c).2 (.inl h)) B Q wr (fun j hj=>M.upd_out _ _ _ _ _ (fun e=>hj (by omega)));have D:∀ j,nA x ls S j->nA m l y j:=fun j ⟨a,c,l1,l2,l3⟩=>⟨a,c,(hL a c).2 (.inl l1),by rw[n1.ch.bS];exact l2,by rw[n1.ch.bS];exact l3⟩
 have nn:=n2.trans F (fun j X _=>D j X);have I:g≠p:=fun e=>Q z (by rw[e];exact hl)
 have E:∀ a c,aR T A U a c↔(aR x ls S a c/\a≠p)\/(a=g/\c=r):=fun a c=>by
  rw[V,hL];constructor
  ·rintro ⟨e|e,G⟩
   ·exact .inl ⟨e,G⟩
   ·exact .inr e
  ·rintro (⟨e,G⟩|e)
   ·exact⟨.inl e,G⟩
   ·exact⟨.inr e,by rw[e.1];exact I⟩
 have v:=n1.ch.bS;refine .yes T t2 N A U b rfl nn E Q (C.trans hn) hm L K (fun i i1 i2=>?_) ⟨P,m,q,u,l,y,s,n1.H,v,n1.ch.dl,n1.ch.o,C.symm,hL⟩;have J:aR T A U g r:=(E _ _).2 (.inr ⟨rfl,rfl⟩);have k3:=F.ch.kb (g-x.bS+i) ⟨g,r,B,by omega,by omega⟩ ⟨g,r,J,by rw[F.ch.bS];omega,by rw[F.ch.bS];omega⟩;rw[k3];show M.upd q.f (g-m.bS) k (fun i=>q.f (p-m.bS+i)) (g-x.bS+i)=_
 unfold M.upd;rw[v,ae (by omega),show g-x.bS+i-(g-x.bS)=i by omega];have a0:=Y.inside ((hL p z).2 (.inl hl));exact n1.ch.kb (p-x.bS+i) ⟨p,z,hl,by omega,by omega⟩ ⟨p,z,(hL p z).2 (.inl hl),by omega,by omega⟩
end
section
variable {w W W1 W2 W':Wd} {hb sb lw:Nat} {x:Bx} {t:Bt} {fr:Nat->List Nat} {ls:List (Nat×Nat)} {S:Sb} {s:Int}
theorem TM(H:HW w W hb sb lw x t fr ls S s){p z:Nat}(hl:aR x ls S p z)(r:Nat)(T:(∃ k,k<8/\r=aB k)\/(∃ k,k<=x.o/\r=4096*2 ^ k))(d:Bool):Calls prog 67 #[.pointer (some ⟨hb,0,none⟩),jJ p z,.int .u64 r,.bool d] W fun e a=>∃ l N,e=.returned (.tuple #[.int .u64 ((l:Nat):Int),.int .i64 N])/\Mq w W hb sb lw x t fr ls S s p z r d l N a:=by
 have P:=aA ((kz W).alloc (bY p z));have K:=aA (nH W (bY p z));have H0:=aA (H.dk P.o);have TK:=aA (vF H0.o r T d);have Z:=aA hl;have Q : 16<=r/\r<=1048576:=by
  rcases T with ⟨k,E,rfl⟩|⟨k,E,rfl⟩
  ·have:=cM E;omega
  ·have h8:=H.po.en.1;have : 2 ^ k<=2 ^ 8:=bj (by decide) (by omega);have : 0<2 ^ k:=ap (by decide);omega
 have R:p<9223372036854775808/\0<z/\z<=9223372036854775808:=by obtain⟨h',o⟩:=H.so;have h1:=o.inside hl;have h2:=(o.span hl).1;have n4:=o.po.en.2.2.2.1;omega
 obtain⟨a0,a2,a5⟩:=R;obtain⟨a3,a1⟩:=Q;clear H hl T;go_enter func67,ntmps67;go_wp2_with fail;refine TK.o.mono ?_;rintro e u ⟨l,N,rfl,hT⟩
 cases hT with
 | no hp he V hd kp=>subst hp he;have D:=aA (show Mq w W hb sb lw x t fr ls S s p z r d 0 2 u from .no rfl rfl V hd (nT P.o kp));clear V hd kp;go_wp2_with fail;exact⟨rfl,.tuple #[.int .u64 ((0:Nat):Int),.int .i64 2],by simp[results,results67,go_sem],0,2,rfl,D.o⟩
 | yes g m n j y b he td nx hL hN hn Y C B=>
  subst he;have X1:=aA (show u.heap[W.heap.size]?=some (bY p z)from by obtain⟨h',o⟩:=H0.o.so;exact(nx.kp.block _ (lH K.o) (o.jz K.o)).trans K.o)
  have H1:=aA nx.H;have A:aR g j y l r:=(hL _ _).2 (.inr ⟨rfl,rfl⟩);have q:aR g j y p z:=(hL _ _).2 (.inl Z.o);obtain⟨k,E⟩:=xe (min z r);have KD:=aA ((kz u).drew);have I:=aA (H1.o.dk KD.o);have J:=aA (show u.drew.heap[W.heap.size]?=some (bY p z)from X1.o);have SP:=aA (iI I.o.po.pl);have CP:=aA ((I.o.copy (k:=k) A q (by omega) (by omega) (by omega)).mono fun e a h=>(show e=.returned (.int .i64 0)/\(a.cell? ⟨hb,5,none⟩=some (.pointer (some ⟨lw,0,none⟩))/\a.cell? ⟨W.heap.size,0,none⟩=some (.int .u64 p)/\a.cell? ⟨W.heap.size,1,none⟩=some (.int .u64 z))/\Wr w u hb sb lw g m n j y s (M.upd m.f (l-g.bS) k fun i=>m.f (p-g.bS+i)) a/\a.heap[W.heap.size]?=some (bY p z)from by
   obtain⟨he,hw⟩:=h;have hx:a.heap[W.heap.size]?=some (bY p z):=by obtain⟨h',o⟩:=I.o.so;exact(hw.2.block _ (lH J.o) (o.jz J.o)).trans J.o
   exact⟨he,⟨hw.1.c.2.2.2.2.1,(fQ hx).1,(fQ hx).2.1⟩,hw.from KD.o,hx⟩))
  have MK:=aA (fun (G F:Wd) (wr:Wr w u hb sb lw g m n j y s (M.upd m.f (l-g.bS) k fun i=>m.f (p-g.bS+i)) G) (gq:Gq w G hb sb lw g { m with f:=M.upd m.f (l-g.bS) k fun i=>m.f (p-g.bS+i) } n j y s p z F)=>QH Z.o E (nx.from P.o) hL hN hn Y C B wr gq);have L2:=aA q;obtain⟨c0,c2,c3,c4,c5,c6⟩:=H1.o.c;obtain⟨d0,d2,d3,d4,d5,d6⟩:=I.o.c;obtain⟨x0,a4,xf⟩:=fQ X1.o;obtain⟨y0,y1,yf⟩:=fQ J.o;have v:(if r<z then (r:Int) else (z:Int))=(k:Int):=by split <;> omega
  clear td nx hL hN hn Y C B A q E
  all_goals
   go_wp2_with fail;go_region_held3 (fun a=>a.cell? ⟨hb,5,none⟩=some (.pointer (some ⟨lw,0,none⟩))/\a.cell? ⟨W.heap.size,0,none⟩=some (.int .u64 p)/\a.cell? ⟨W.heap.size,1,none⟩=some (.int .u64 z)) (first|with_reducible exact⟨d5,y0,y1⟩|with_reducible exact e6) (first
    | (go_at_call 31;(with_reducible refine(SP.o).mono ?_);rintro e w5 ⟨rfl,U⟩;replace U:=U.symm;subst U)
    | (go_at_call 117;(try rw[v]);(with_reducible refine(CP.o).mono ?_);rintro e G ⟨rfl,e6,hw,hx⟩;have L:=aA hw;have X2:=aA hx;clear hw hx)
    | fail)
   all_goals
    have GV:=aA (CX L.o.1 L2.o);have MM:=aA (fun F=>MK.o G F L.o);obtain⟨v0,v1,vf⟩:=fQ X2.o;clear MK CP SP TK L;go_wp2_with fail;refine GV.o.mono ?_;rintro e F ⟨rfl,X⟩;have D:=aA (MM.o _ X);clear X;go_wp2_with fail;exact⟨rfl,.tuple #[.int .u64 ((l:Nat):Int),.int .i64 0],by simp[results,results67,go_sem],l,0,rfl,D.o⟩
inductive Rl(w W:Wd)(hb sb lw:Nat)(x:Bx)(t:Bt)(fr:Nat->List Nat)(ls:List (Nat×Nat))(S:Sb)(s:Int)(p m:Nat)(d:Bool)(p':Nat)(er:Int)(w':Wd):Prop where
 | nil (hp:p=0) (h:Rq8 w W hb sb lw x t fr ls S s m d p' er w')
 | bad (hp:p≠0) (hl:∀ c,¬aR x ls S p c) (hp':p'=0) (he:er=1) (kp:Kt nO W w')
 | big (z:Nat) (hp:p≠0) (hl:aR x ls S p z) (ho:cX x.o m=false) (hp':p'=0) (he:er=3) (kp:Kt nO W w')
 | same (hp:p≠0) (ho:cX x.o m=true) (hl:aR x ls S p (2 ^ cl m)) (hp':p'=p) (he:er=0) (kp:Kt nO W w')
 | shr (z:Nat) (hp:p≠0) (ho:cX x.o m=true) (hl:aR x ls S p z) (h1 : 4096<=2 ^ cl m) (h2 : 2 ^ cl m<z) (hp':p'=p) (he:er=0) (hS:Sq w W hb sb lw x t fr ls S s p z (2 ^ cl m) w')
 | mov (z:Nat) (hp:p≠0) (ho:cX x.o m=true) (hl:aR x ls S p z) (hne : 2 ^ cl m≠z) (h1:¬(4096<=2 ^ cl m/\2 ^ cl m<z)) (hM:Mq w W hb sb lw x t fr ls S s p z (2 ^ cl m) d p' er w')
end
end Go.Proofs.YtfmgnljlkdmndaaGreatDoor
