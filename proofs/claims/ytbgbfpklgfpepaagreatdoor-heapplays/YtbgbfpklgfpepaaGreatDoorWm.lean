import Derived.Test.YtbgbfpklgfpepaaGreatDoorWl
set_option maxRecDepth 1000000
set_option maxHeartbeats 80000000
namespace Go.Proofs.YtbgbfpklgfpepaaGreatDoor
open Tryz
open Go.RowKit
open Go.MuLone
open Go.Proofs.YtbgbfpklgfpepaaGreatDoor.M (RS gJ mayB bE)
set_option linter.unusedVariables false
theorem zhx{w:World}{bS:Nat}{L:Int}{o n:Nat}(ho:o<=8)(hn:n<=64){va:Option Addr}{vm vc:Nat}{c:Cl8}{s:Sn8}(hop:c.op=11)(l:List He8)(hB:BK8 w (.slice va vm vc) l)(hp:c.p<18446744073709551616)(i:Nat)(h:He8)(hi:l[i]?=some h)(ha0 : 0<c.a)(hI:bI (fG c.p c.a) l 0=(i:Int))(hl1:h.p<=c.p)(hl2:c.p-h.p+c.a<=h.s)(hD:M.Bytes w (.slice s.da s.dn s.dc) c.a (fun j=>h.f (c.p-h.p+j)))(h0:s.e=0)(h3:s.af=n*RS o):
  Calls prog 105 #[aK bS L (o:Int) (n:Int) (.slice va vm vc),bJ c,aU s] w fun e w'=>e=.returned (.tuple #[aK bS L (o:Int) (n:Int) (.slice va vm vc),.bool true])/\Kt nO w w':=by
 obtain⟨op,cp,ca,cb,cd,cv⟩:=c;dsimp only at *;subst hop;have QU:=aA (fun W=>mQ bS L o n ho hn (.slice va vm vc) s h0 h3 W);have hbd:=hB.bd h (List.mem_of_getElem? hi);have HDD:=aA (fun W (k:Kt nO w W)=>hD.keep (cH k));have HCA:=aA (show ca<=9223372036854775807 by omega);have TO:=aA (fun W (k:Kt nO w W)=>IC bS L (o:Int) (n:Int) (.slice va vm vc) l ⟨11,cp,ca,cb,cd,cv⟩ hp ca ha0 W (hB.keep k) i h hi hI hl1 hl2);have hz1:¬(ca:Int)=0:=by omega
 have hz2:((ca:Int) == 0)=false:=by rw[beq_eq_false_iff_ne];exact hz1
 clear hB hI h0 h3 hi hl1 hl2 hD;have X:=aA (eX w bS L (o:Int) (n:Int) (.slice va vm vc) ⟨11,cp,ca,cb,cd,cv⟩ s);obtain⟨b0,b1,b2,b3,b4,bf⟩:=aD X.out.2.b;obtain⟨c0,c1,c2,c3,c4,c5⟩:=bO X.out.2.c;go_enter func105,ntmps105;go_wp2_with fail;refine(TO.out _ X.out.1).mono ?_;rintro e9 w9 ⟨ta,tc,rfl,hby,h9⟩;have X9:=aA (X.out.2.keep h9);have K9:=aA (nT X.out.1 h9);have B9:=aA hby;clear h9 hby b0 b1 b2 b3 b4 bf c0 c1 c2 c3 c4 c5 X TO;go_upto_region 17 with fail;have kd:∀ W:World,Kt nO W W.drew:=fun W=>(Kt.refl nO W).drew
 have XD:=aA (X9.out.keep (kd _));have KD:=aA (nT K9.out (kd _));have BD:=aA (B9.out.keep (cH (kd _)));clear kd X9 K9 B9;obtain⟨db0,db1,db2,db3,db4,dbf⟩:=aD XD.out.b;obtain⟨ds0,ds1,ds2,ds3,ds4,ds5,ds6,ds7,ds8⟩:=aZ XD.out.s;clear dbf;have n1:w.heap.size≠w.heap.size+1+1+1:=by omega
 have n2:w.heap.size+1+1≠w.heap.size+1+1+1:=by omega
 go_region_held3 (fun w'=>w'.cell? ⟨w.heap.size,0,none⟩=some (.int .u64 bS)/\w'.cell? ⟨w.heap.size,1,none⟩=some (.int .i64 L)/\w'.cell? ⟨w.heap.size,2,none⟩=some (.int .i64 o)/\w'.cell? ⟨w.heap.size,3,none⟩=some (.int .i64 n)/\w'.cell? ⟨w.heap.size,4,none⟩=some (.slice va vm vc)/\w'.cell? ⟨w.heap.size+1+1,0,none⟩=some (.int .i64 s.e)/\w'.cell? ⟨w.heap.size+1+1,1,none⟩=some (.int .u64 s.v)/\w'.cell? ⟨w.heap.size+1+1,2,none⟩=some (.slice s.da s.dn s.dc)/\w'.cell? ⟨w.heap.size+1+1,3,none⟩=some (.int .u64 s.H)/\w'.cell? ⟨w.heap.size+1+1,4,none⟩=some (.int .u64 s.L)/\w'.cell? ⟨w.heap.size+1+1,5,none⟩=some (.int .i64 s.B)/\w'.cell? ⟨w.heap.size+1+1,6,none⟩=some (.int .i64 s.F)/\w'.cell? ⟨w.heap.size+1+1,7,none⟩=some (.int .u64 s.af)/\w'.cell? ⟨w.heap.size+1+1,8,none⟩=some (.slice s.fa s.fn s.fc)) (((try dsimp only);(repeat' apply And.intro) <;> first|with_reducible assumption|with_reducible exact gC (by with_reducible assumption) (by with_reducible assumption))) (first
  | (go_at_call 104;(with_reducible refine(QU.out _).mono ?_);rintro e5 w5 ⟨rfl,hk5⟩;have X5:=aA (XD.out.keep hk5);have K5:=aA (nT KD.out hk5);have B5:=aA (BD.out.keep (cH hk5));have W5:=aA (sS _ _ ca HCA.out _ w5 (HDD.out _ K5.out) B5.out);obtain⟨kb0,kb1,kb2,kb3,kb4,kbf⟩:=aD X5.out.b;obtain⟨ks0,ks1,ks2,ks3,ks4,ks5,ks6,ks7,ks8⟩:=aZ X5.out.s;clear kbf;obtain⟨z0,z1,z2,z3,z4,zf⟩:=dE X5.out.rb;clear hk5)
  | (go_at_call 32;(with_reducible refine W5.out.mono ?_);rintro e6 w6 ⟨rfl,hk6⟩;have X6:=aA (X5.out.keep hk6);have K6:=aA (nT K5.out hk6);obtain⟨jb0,jb1,jb2,jb3,jb4,jbf⟩:=aD X6.out.b;obtain⟨js0,js1,js2,js3,js4,js5,js6,js7,js8⟩:=aZ X6.out.s;clear jbf;obtain⟨z0,z1,z2,z3,z4,zf⟩:=dE X6.out.rb;clear hk6)
  | fail)
 all_goals
  obtain⟨r0,r1,r2,r3,r4,rf⟩:=aD (dM (bS:=bS) (lim:=L) (o:=(o:Int)) (n:=(n:Int)) (v:=.slice va vm vc) X6.out.rb);have D:=aA (K6.out.trans (fA (W:=w6) (y:=w.heap.size+1+1+1) (.int .u64 bS) (.int .i64 L) (.int .i64 o) (.int .i64 n) (.slice va vm vc)) (U:=nO) (fun _ _ e=>e) (fun y hy e=>by omega));clear z0 z1 z2 z3 z4 zf;go_wp2_with fail;exact⟨rfl,.tuple #[aK bS L (o:Int) (n:Int) (.slice va vm vc),.bool true],by simp[results,results105,go_sem,r0,r1,r2,r3,r4],rfl,D.out⟩
end Go.Proofs.YtbgbfpklgfpepaaGreatDoor
