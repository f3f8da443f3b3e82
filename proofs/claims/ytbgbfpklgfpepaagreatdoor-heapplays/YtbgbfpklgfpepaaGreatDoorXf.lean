import Derived.ProofKit
import Derived.OpenShut
import Derived.Deep.Slices
import Derived.Deep.Strs
import Derived.Test.YtbgbfpklgfpepaaGreatDoorXo
set_option maxRecDepth 1000000
set_option maxHeartbeats 80000000
namespace Go.Proofs.YtbgbfpklgfpepaaGreatDoor
open Tryz
open Go.ChangeShapes Go.WideShapes Go.ChangeAt Go.RowKit Go.Deep
set_option linter.unusedVariables false
theorem zj3:prog.cellsOf 27=1:=by kernel_rfl
theorem zj4:prog.cellsOf 3=1:=by kernel_rfl
open Go.RowKit
open Go.MuLone
def fV(q:Pg):Nat:=if q.kd=2 then 4096*2 ^ q.od.toNat else if q.kd=4 then q.lv.toNat*aC q.cl.toNat else 0
def fW(q:Pg):Nat:=if q.kd=2 then 1 else if q.kd=4 then q.lv.toNat else 0
def fM(q:Pg):Nat:=if q.kd=0\/q.kd=1 then 1 else 0
def cT(f:Pg->Nat)(m:Mp):Nat->Nat
 | 0=>0
 | i+1=>cT f m i+f (m.pg i)
inductive Sk(q:Pg)(dl db df:Nat):Prop where
 | free (hq:q.kd=0\/q.kd=1) (h1:dl=0) (h2:db=0) (h3:df=1)
 | head (k:Nat) (hk:k<=8) (hq:q.kd=2) (ho:q.od=(k:Int)) (h1:dl=4096*2 ^ k) (h2:db=1) (h3:df=0)
 | rest (hq:q.kd=3) (h1:dl=0) (h2:db=0) (h3:df=0)
 | slab (k l:Nat) (hk:k<8) (hl:l<=256) (hq:q.kd=4) (hc:q.cl=(k:Int)) (hv:q.lv=(l:Int)) (h1:dl=l*aC k) (h2:db=l) (h3:df=0)
abbrev kG(h L B F:Nat):Obj:=.cells #[.int .u64 h,.int .u64 L,.int .i64 B,.int .i64 F] 35
abbrev iR:Obj:=.cells #[.int .u64 0,.int .u64 0,.int .i64 0,.int .i64 0] 35
abbrev yP(h L B F:Nat):Value:=.agg #[.int .u64 h,.int .u64 L,.int .i64 B,.int .i64 F]
theorem nV{W:World}{y h L B F:Nat}(e:W.heap[y]?=some (kG h L B F)):W.cell? ⟨y,0,none⟩=some (.int .u64 h)/\W.cell? ⟨y,1,none⟩=some (.int .u64 L)/\W.cell? ⟨y,2,none⟩=some (.int .i64 B)/\W.cell? ⟨y,3,none⟩=some (.int .i64 F)/\∀ j,W.frozen? ⟨y,j,none⟩=false:=by
 refine⟨?_,?_,?_,?_,fun j=>?_⟩ <;> simp[World.cell?,World.frozen?,e]
section
variable {w W W1 W':World} {hb sb lw:Nat} {x:Bx} {t:Bt} {fr:Nat->List Nat} {ls:List (Nat×Nat)} {S:Sb} {s:Int}
theorem HW.other(H:HW w W hb sb lw x t fr ls S s){y0:Nat}{cs:Array Value}{e:TypeId}{z:Nat×Nat}(hy:W.heap[y0]?=some (.cells cs e z))(hn:w.heap.size<=y0)(h1:¬Go.Proofs.YtbgbfpklgfpepaaGreatDoor.pty e)(h2:e≠135)(h3:e≠91)(k:Kt (fun y=>y=y0) W W'):HW w W' hb sb lw x t fr ls S s:=by
 obtain⟨h,o⟩:=H.so;have hpty:∀ y,(aE x y\/y=x.b\/y=x.l\/y=lw)->y≠y0:=fun y hy2 e=>by
  subst e;exact h1 (o.sw.pl.pty hy hy2)
 have hsb:sb≠y0:=fun e=>by
  subst e;exact h2 (bM hy o.sw.bx)
 have hhb:hb≠y0:=fun e=>by
  subst e;exact h3 (bM hy H.bx)
 refine⟨⟨h,⟨⟨⟨(k.block _ (lH o.sw.pl.box) (hpty _ (.inr (.inr (.inr rfl))))).trans o.sw.pl.box,o.sw.pl.bd.kept k (fun y hy2=>hpty y ?_),o.sw.pl.nw,o.sw.pl.kp.trans k (fun _ _ e=>e) (fun y hy e=>absurd hn (by rw[<-e];exact Nat.not_le.2 hy))⟩,(k.block _ (lH o.sw.bx) hsb).trans o.sw.bx,o.sw.nw,o.sw.tb⟩,o.sf,o.st,o.bm,o.si,o.hd⟩⟩,H.lv,(k.block _ (lH H.bx) hhb).trans H.bx,H.nw,H.br⟩;rcases hy2 with hy2|hy2|hy2
 ·exact .inl hy2
 ·exact .inr (.inl hy2)
 ·exact .inr (.inr (.inl hy2))
theorem HW.sk(H:HW w W hb sb lw x t fr ls S s){i:Nat}(hi:i<t.m.n):Sk (t.m.pg i) (fV (t.m.pg i)) (fW (t.m.pg i)) (fM (t.m.pg i)):=by
 obtain⟨h,o⟩:=H.so;have n1:=o.po.nums.1
 cases o.kind hi with
 | slab k hc=>
  obtain⟨hk,sp⟩:=o.si.pg i k hc;have hnb:=dV hk;refine .slab k (aH k-(S.fl i).length) hk (by omega) sp.kd sp.cl sp.lv ?_ ?_ ?_
  ·unfold fV;rw[sp.kd,if_neg (by decide),if_pos rfl,sp.lv,sp.cl,Int.toNat_natCast,Int.toNat_natCast]
  ·unfold fW;rw[sp.kd,if_neg (by decide),if_pos rfl,sp.lv,Int.toNat_natCast]
  ·unfold fM;rw[sp.kd,if_neg (by decide)]
 | big q k hm hc hg h1 h2 hp=>
  have hk:k<=8:=Nat.le_trans (o.al hm).1 n1;by_cases e:i=q
  ·rw[if_pos e] at hp;rw[hp];exact .head k hk rfl rfl rfl rfl rfl
  ·rw[if_neg e] at hp;rw[hp];exact .rest rfl rfl rfl rfl
 | free q j hm hj hg h1 h2 hp=>
  by_cases e:i=q
  ·rw[if_pos e] at hp;rw[hp];exact .free (.inl rfl) rfl rfl rfl
  ·rw[if_neg e] at hp;rw[hp];exact .free (.inr rfl) rfl rfl rfl
theorem Sk.le{q dl db df}(h:Sk q dl db df):dl<=1048576/\db<=256/\df<=1:=by
 cases h with
 | free hq h1 h2 h3=>omega
 | head k hk hq ho h1 h2 h3=>
  have : 2 ^ k<=2 ^ 8:=Nat.pow_le_pow_right (by decide) hk;omega
 | rest hq h1 h2 h3=>omega
 | slab k l hk hl hq hc hv h1 h2 h3=>
  have:=(bU hk).2;have:l*aC k<=256*2048:=Nat.mul_le_mul hl this;omega
theorem HW.stb(H:HW w W hb sb lw x t fr ls S s):∀ i,i<=t.m.n->cT fV t.m i<=i*1048576/\cT fW t.m i<=i*256/\cT fM t.m i<=i
 | 0,_=>⟨Nat.le_refl _,Nat.le_refl _,Nat.le_refl _⟩
 | i+1,hi=>by
  have h1:=H.stb i (by omega);have h2:=(H.sk (i:=i) (by omega)).le;unfold cT;omega
end
theorem Pol.from8{w w1 W lw x t}(k:Kt nO w w1)(h:Pol w1 W lw x t):Pol w W lw x t:=⟨h.box,h.bd,fun y hy=>Nat.le_trans k.size (h.nw y hy),nT k h.kp⟩
theorem PO.from8{w w1 W lw x t fr ls}(k:Kt nO w w1)(h:PO w1 W lw x t fr ls):PO w W lw x t fr ls:=⟨h.pl.from8 k,h.sf,h.st,h.bm⟩
theorem lQ{w:World}{y b:Nat}{l o:Int}(h:w.heap[y]?=some (dK b l o)):w.cell? ⟨y,0,none⟩=some (.int .u64 b)/\w.cell? ⟨y,1,none⟩=some (.int .i64 l)/\w.cell? ⟨y,2,none⟩=some (.int .i64 o):=by
 refine⟨?_,?_,?_⟩ <;> simp[World.cell?,h]
theorem xH{w:World}{A:Obj}{a:Addr}{v:Value}(h:w.cell? a=some v):(w.alloc A).cell? a=some v:=((Kt.refl nO w).alloc A).cell id h
theorem Pol.lt8{w W lw x t}(h:Pol w W lw x t):∀ y,aE x y\/y=x.b\/y=x.l\/y=lw->y<W.heap.size:=by
 rintro y ((hx|hx|⟨k,hk,rfl⟩)|rfl|rfl|rfl)
 ·obtain⟨cs',t',z',h1,h2⟩:=nK h.bd.sp hx;exact lH h1
 ·rw[<-h.bd.mo] at hx;obtain⟨cs',t',z',h1,h2⟩:=nJ h.bd.mp hx;exact lH h1
 ·exact lH (h.bd.ls k hk).hc
 ·exact lH h.bd.bs
 ·obtain⟨cs',hl,_⟩:=h.bd.lr;exact lH hl
 ·exact lH h.box
theorem WR(bS:Nat)(hb64:bS<18446744073709551616)(lim ord:Int)(hl1 : -9223372036854775808<=lim)(hl2:lim<=9223372036854775807)(ho1 : -9223372036854775808<=ord)(ho2:ord<=9223372036854775807)(h:M.mayB bS lim ord=false)(w:World):
  Calls prog 9 #[cA bS lim ord] w fun e w'=>e=.returned (.tuple #[.pointer none,.int .i64 1])/\Kt nO w w':=by
 have K0:=aA ((Kt.refl nO w).alloc (dK bS lim ord));have X0:=aA (nH w (dK bS lim ord));have NB:=aA (fun W=>ZA bS hb64 lim ord hl1 hl2 ho1 ho2 h W);obtain⟨x0,x1,x2⟩:=lQ X0.out;clear h;go_enter func9,ntmps9;go_wp2_with fail;refine(NB.out _).mono ?_;rintro e w1 ⟨rfl,hk⟩;have D:=aA (nT K0.out hk);clear hk;go_wp2_with fail;exact⟨rfl,.tuple #[.pointer none,.int .i64 1],by simp[results,results9,go_sem],rfl,D.out⟩
abbrev KL(o:Nat):Bt:=⟨fun _=>0,cX o,fun _=>0⟩
abbrev qH:Sb:=⟨fun _=>none,fun _=>[],fun _=>[]⟩
def sT(w:World)(bS lim o:Nat)(e:Ending)(w':World):Prop:=∃ hb sb lw x,e=.returned (.tuple #[.pointer (some ⟨hb,0,none⟩),.int .i64 0])/\HW w w' hb sb lw x (KL o) (fun _=>[]) [] qH 0/\x.bS=bS/\x.R=4096*2 ^ o/\x.lim=lim/\x.n=0/\x.o=o
theorem CN(bS:Nat)(hb64:bS<18446744073709551616)(lim o:Nat)(hl:lim<=64)(ho:o<=8)(hm:M.mayB bS (lim:Int) (o:Int)=true)(hbr:bS%(4096*2 ^ o)=0)(w:World)(hT:lS w):
  Calls prog 9 #[cA bS (lim:Int) (o:Int)] w fun e w'=>sT w bS lim o e w':=by
 have K0:=aA ((Kt.refl nO w).alloc (dK bS (lim:Int) (o:Int)));have X0:=aA (nH w (dK bS (lim:Int) (o:Int)));have NW:=aA (fun W=>SY bS hb64 lim o hl ho hm W);have hb4:bS%4096=0:=Nat.mod_eq_zero_of_dvd (Nat.dvd_trans (Nat.dvd_mul_right _ _) (Nat.dvd_of_mod_eq_zero hbr));have HT:=aA hT;have HB:=aA hbr;have HB4:=aA hb4;obtain⟨x0,x1,x2⟩:=lQ X0.out;clear hm hT hbr hb4;go_enter func9,ntmps9;go_wp2_with fail;refine(NW.out _).mono ?_;rintro e w2 ⟨lw,x,rfl,hP,e1,e2,e3,e4,e5,e6⟩;have P2:=aA (PO.from8 K0.out (SX o hP e4 e5 e6 (by rw[e1];exact HB4.out)));have X2:=aA ((hP.kp.block _ (lH X0.out) (fun x=>x)).trans X0.out);have EX:=aA (show x.bS=bS/\x.R=4096*2 ^ o/\x.lim=lim/\x.n=0/\x.o=o/\x.P=fun _=>none from⟨e1,e2,e3,e4,e5,e6⟩);clear hP e1 e2 e3 e4 e5 e6 x0 x1 x2 NW;have KD:=aA ((Kt.refl nO w2).drew);have NS:=aA (zK (P2.out.keep KD.out) HT.out);obtain⟨x0,x1,x2⟩:=lQ X2.out;go_wp2_with fail;obtain⟨y0,y1,y2⟩:=lQ ((KD.out.block _ (lH X2.out) (fun x=>x)).trans X2.out);go_region_held3 (fun w'=>w'.cell? ⟨w.heap.size,0,none⟩=some (.int .u64 bS)/\w'.cell? ⟨w.heap.size,1,none⟩=some (.int .i64 lim)/\w'.cell? ⟨w.heap.size,2,none⟩=some (.int .i64 o)) (first|with_reducible exact⟨y0,y1,y2⟩|with_reducible exact⟨z0,z1,z2⟩|with_reducible exact⟨xH z0,xH z1,xH z2⟩) (first
  | (go_at_call 34;(with_reducible refine NS.out.mono ?_);rintro e w3 ⟨sb,rfl,hs,hk,hz⟩;have K3:=aA (nT KD.out hk);have S3:=aA hs;obtain⟨z0,z1,z2⟩:=lQ ((K3.out.block _ (lH X2.out) (fun x=>x)).trans X2.out);clear hk hs hz)
  | fail)
 all_goals
  have D:=aA (show HW w (w3.alloc (yY 0 lw sb bS lim o)) w3.heap.size sb lw x (KL o) (fun _=>[]) [] qH 0 from by
   obtain⟨e1,e2,e3,e4,e5,e6⟩:=EX.out;have k:=(Kt.refl nO w3).alloc (yY 0 lw sb bS lim o);have o3:=SO.new (P2.out.keep K3.out) S3.out e6;have h5:=S3.out.pl.kp.size;refine⟨⟨_,o3.keep k⟩,fI.none,?_,h5,by rw[e1,e2];exact HB.out⟩;rw[e1,e3,e5];exact nH w3 _)
  go_wp2_with fail;exact⟨rfl,.tuple #[.pointer (some ⟨w3.heap.size,0,none⟩),.int .i64 0],by simp[results,results9,go_sem],_,sb,lw,x,rfl,D.out,EX.out.1,EX.out.2.1,EX.out.2.2.1,EX.out.2.2.2.1,EX.out.2.2.2.2.1⟩
end Go.Proofs.YtbgbfpklgfpepaaGreatDoor
