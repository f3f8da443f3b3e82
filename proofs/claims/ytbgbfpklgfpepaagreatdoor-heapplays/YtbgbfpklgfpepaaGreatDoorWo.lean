import Derived.Test.YtbgbfpklgfpepaaGreatDoorWl
import Derived.Test.YtbgbfpklgfpepaaGreatDoorXt
set_option maxRecDepth 1000000
set_option maxHeartbeats 80000000
namespace Go.Proofs.YtbgbfpklgfpepaaGreatDoor
open Tryz
open Go.RowKit
open Go.MuLone
open Go.Proofs.YtbgbfpklgfpepaaGreatDoor.M (RS gJ mayB bE)
set_option linter.unusedVariables false
theorem zin{w:World}{bS:Nat}{L:Int}{o n:Nat}(ho:o<=8)(hn:n<=64)(hb:bS+n*RS o<=9223372036854775808){va:Option Addr}{vm vc:Nat}{c:Cl8}{s:Sn8}(hop:c.op=14)(l:List He8)(hB:BK8 w (.slice va vm vc) l)(ht:O.totN (aR l)<=1073741824)(h0:s.e=0)(h1:s.H=n*RS o)(h2:s.L=O.totN (aR l))(h3:s.B=l.length)(h4:s.F=mZ (aR l) bS (n*2 ^ o))(h5:s.af=n*RS o):
  Calls prog 105 #[aK bS L (o:Int) (n:Int) (.slice va vm vc),bJ c,aU s] w fun e w'=>e=.returned (.tuple #[aK bS L (o:Int) (n:Int) (.slice va vm vc),.bool true])/\Kt nO w w':=by
 obtain⟨op,cp,ca,cb,cd,cv⟩:=c;dsimp only at *;subst hop;have hbd:∀ b∈aR l,b.1+b.2<2 ^ 64:=by
  intro b hb';obtain⟨x,hx,rfl⟩:=List.mem_map.1 hb';exact(hB.bd x hx).1
 have QU:=aA (fun W=>mQ bS L o n ho hn (.slice va vm vc) s h0 h5 W);have HH:=aA (fun W=>H8 bS L o n ho hn (.slice va vm vc) W);rw[<-h1] at HH;have TT:=aA (fun v W (k:O.BL W v (aR l))=>O.refTotal v (aR l) W k ht);rw[<-h2] at TT;have FF:=aA (fun v W (k:O.BL W v (aR l))=>ze2 bS L o n ho hn hb v (aR l) hbd W k);rw[<-h4] at FF;have BB:=aA (fun W (k:Kt nO w W)=>uG bS L (o:Int) (n:Int) (.slice va vm vc) l W (hB.keep k));have HBD:=aA (And.intro (fun b hb'=>by have:=hbd b hb';exact⟨by omega,by omega⟩:∀ b∈aR l,b.1<2 ^ 64/\b.2<2 ^ 64) (And.intro hB.ln h3.symm));clear hB h0 h1 h2 h3 h4 h5 ht hbd hb;have X:=aA (eX w bS L (o:Int) (n:Int) (.slice va vm vc) ⟨14,cp,ca,cb,cd,cv⟩ s);obtain⟨b0,b1,b2,b3,b4,bf⟩:=aD X.out.2.b;obtain⟨c0,c1,c2,c3,c4,c5⟩:=bO X.out.2.c;go_enter func105,ntmps105;go_wp2_with fail;refine(BB.out _ X.out.1).mono ?_;rintro e9 w9 ⟨u,rfl,hG,hN⟩;have X9:=aA (X.out.2.keep hG.kp);have K9:=aA (nT X.out.1 hG.kp);have B9:=aA (show O.BL w9 u (aR l)from GS.bl8 (by rw[jG];exact hG) (by rw[jG];have:=HBD.out.2.1;omega) HBD.out.1);obtain⟨ua,uc,hu⟩:∃ ua uc,u=.slice ua s.B uc:=by
  obtain⟨_,_,ua,uc,hu,_⟩:=B9.out;rw[jG,HBD.out.2.2] at hu;exact⟨ua,uc,hu⟩
 subst hu;clear hG hN b0 b1 b2 b3 b4 bf c0 c1 c2 c3 c4 c5 X BB HBD;go_upto_region 28 with fail;have kd:∀ W:World,Kt nO W W.drew:=fun W=>(Kt.refl nO W).drew
 have XD:=aA (X9.out.keep (kd _));have KD:=aA (nT K9.out (kd _));have BD:=aA (B9.out.keep (kd _));clear kd X9 K9 B9;obtain⟨db0,db1,db2,db3,db4,dbf⟩:=aD XD.out.b;obtain⟨ds0,ds1,ds2,ds3,ds4,ds5,ds6,ds7,ds8⟩:=aZ XD.out.s;clear dbf;have n1:w.heap.size≠w.heap.size+1+1+1:=by omega
 have n2:w.heap.size+1+1≠w.heap.size+1+1+1:=by omega
 go_region_held3 (fun w'=>w'.cell? ⟨w.heap.size,0,none⟩=some (.int .u64 bS)/\w'.cell? ⟨w.heap.size,1,none⟩=some (.int .i64 L)/\w'.cell? ⟨w.heap.size,2,none⟩=some (.int .i64 o)/\w'.cell? ⟨w.heap.size,3,none⟩=some (.int .i64 n)/\w'.cell? ⟨w.heap.size,4,none⟩=some (.slice va vm vc)/\w'.cell? ⟨w.heap.size+1+1,0,none⟩=some (.int .i64 s.e)/\w'.cell? ⟨w.heap.size+1+1,1,none⟩=some (.int .u64 s.v)/\w'.cell? ⟨w.heap.size+1+1,2,none⟩=some (.slice s.da s.dn s.dc)/\w'.cell? ⟨w.heap.size+1+1,3,none⟩=some (.int .u64 s.H)/\w'.cell? ⟨w.heap.size+1+1,4,none⟩=some (.int .u64 s.L)/\w'.cell? ⟨w.heap.size+1+1,5,none⟩=some (.int .i64 s.B)/\w'.cell? ⟨w.heap.size+1+1,6,none⟩=some (.int .i64 s.F)/\w'.cell? ⟨w.heap.size+1+1,7,none⟩=some (.int .u64 s.af)/\w'.cell? ⟨w.heap.size+1+1,8,none⟩=some (.slice s.fa s.fn s.fc)) (((try dsimp only);(repeat' apply And.intro) <;> first|with_reducible assumption|with_reducible exact gC (by with_reducible assumption) (by with_reducible assumption))) (first
  | (go_at_call 104;(with_reducible refine(QU.out _).mono ?_);rintro e5 w5 ⟨rfl,hk5⟩;have X5:=aA (XD.out.keep hk5);have K5:=aA (nT KD.out hk5);have B5:=aA (BD.out.keep hk5);obtain⟨kb0,kb1,kb2,kb3,kb4,kbf⟩:=aD X5.out.b;obtain⟨ks0,ks1,ks2,ks3,ks4,ks5,ks6,ks7,ks8⟩:=aZ X5.out.s;clear kbf;obtain⟨z0,z1,z2,z3,z4,zf⟩:=dE X5.out.rb;clear hk5)
  | (go_at_call 108;(with_reducible refine(HH.out _).mono ?_);rintro e6 w6 ⟨rfl,hk6⟩;have X6:=aA (X5.out.keep hk6);have K6:=aA (nT K5.out hk6);have B6:=aA (B5.out.keep hk6);have T6:=aA (TT.out _ _ B6.out);obtain⟨jb0,jb1,jb2,jb3,jb4,jbf⟩:=aD X6.out.b;obtain⟨js0,js1,js2,js3,js4,js5,js6,js7,js8⟩:=aZ X6.out.s;clear jbf;obtain⟨z0,z1,z2,z3,z4,zf⟩:=dE X6.out.rb;clear hk6)
  | (go_at_call 158;(with_reducible refine T6.out.mono ?_);rintro e7 w7 ⟨rfl,hk7⟩;have X7:=aA (X6.out.keep hk7);have K7:=aA (nT K6.out hk7);have B7:=aA (B6.out.keep hk7);have F7:=aA (FF.out _ _ B7.out);obtain⟨mb0,mb1,mb2,mb3,mb4,mbf⟩:=aD X7.out.b;obtain⟨ms0,ms1,ms2,ms3,ms4,ms5,ms6,ms7,ms8⟩:=aZ X7.out.s;clear mbf;obtain⟨z0,z1,z2,z3,z4,zf⟩:=dE X7.out.rb;clear hk7)
  | (go_at_call 159;(with_reducible refine F7.out.mono ?_);rintro e8 w8 ⟨rfl,hk8⟩;have X8:=aA (X7.out.keep hk8);have K8:=aA (nT K7.out hk8);have B8:=aA (B7.out.keep hk8);obtain⟨pb0,pb1,pb2,pb3,pb4,pbf⟩:=aD X8.out.b;obtain⟨ps0,ps1,ps2,ps3,ps4,ps5,ps6,ps7,ps8⟩:=aZ X8.out.s;clear pbf;obtain⟨z0,z1,z2,z3,z4,zf⟩:=dE X8.out.rb;clear hk8)
  | fail)
 all_goals
  obtain⟨r0,r1,r2,r3,r4,rf⟩:=aD (dM (bS:=bS) (lim:=L) (o:=(o:Int)) (n:=(n:Int)) (v:=.slice va vm vc) X8.out.rb);have D:=aA (K8.out.trans (fA (W:=w8) (y:=w.heap.size+1+1+1) (.int .u64 bS) (.int .i64 L) (.int .i64 o) (.int .i64 n) (.slice va vm vc)) (U:=nO) (fun _ _ e=>e) (fun y hy e=>by omega));clear z0 z1 z2 z3 z4 zf;go_wp2_with fail;exact⟨rfl,.tuple #[aK bS L (o:Int) (n:Int) (.slice va vm vc),.bool true],by simp[results,results105,go_sem,r0,r1,r2,r3,r4],rfl,D.out⟩
end Go.Proofs.YtbgbfpklgfpepaaGreatDoor
