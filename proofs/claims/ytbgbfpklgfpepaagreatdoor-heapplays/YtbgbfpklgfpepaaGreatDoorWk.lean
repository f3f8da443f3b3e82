import Derived.Test.YtbgbfpklgfpepaaGreatDoorWj
set_option maxRecDepth 1000000
set_option maxHeartbeats 80000000
namespace Go.Proofs.YtbgbfpklgfpepaaGreatDoor
open Tryz
open Go.RowKit
open Go.MuLone
open Go.Proofs.YtbgbfpklgfpepaaGreatDoor.M (RS gJ mayB bE)
set_option linter.unusedVariables false
theorem VT{w:World}{bS:Nat}{L:Int}{o n:Nat}(ho:o<=8)(hn:n<=64){v:Value}{c:Cl8}{s:Sn8}(hop:c.op=6)(l:List He8)(hB:BK8 w v l)(hp:c.p<18446744073709551616)(i:Nat)(h:He8)(hi:l[i]?=some h)(hI:bI (gD c.p) l 0=(i:Int))(h0:s.e=0)(h1:s.v=h.s)(h3:s.af=n*RS o):
  Calls prog 62 #[aK bS L (o:Int) (n:Int) v,bJ c,aU s] w fun e w'=>e=.returned (.tuple #[aK bS L (o:Int) (n:Int) v,.bool true])/\Kt nO w w':=by
 obtain⟨op,cp,ca,cb,cd,cv⟩:=c;dsimp only at *;subst hop;have ST:=aA (fun W (k:Kt nO w W)=>sY bS L (o:Int) (n:Int) v l cp hp W (hB.keep k));rw[hI] at ST;have QU:=aA (fun W=>mQ bS L o n ho hn v s h0 h3 W);have hil:i<l.length:=(List.getElem?_eq_some_iff.1 hi).1;have hln:=hB.ln;obtain⟨g,vc,ba,bc,rfl,hbv,_⟩:=hB.at hi;have HG:=aA (fun W (k:Kt nO w W)=>show W.cell? ⟨g,i*3+1,none⟩=some (.int .u64 h.s)from by
  obtain⟨g',e,_,c1,_⟩:=(hB.keep k).get rfl hi;injection e with e
  injection e with e
  subst e;exact c1)
 have hi0:¬(i:Int)<0:=by omega
 have hi1:decide ((i:Int)<0)=false:=decide_eq_false hi0;have hii:(i:Int)<l.length:=by omega
 have HSV:=aA h1;have HGL:=aA (show g<w.heap.size from(World.ownsRow.lt hB.own g rfl).2);clear hB hI h0 h1 h3 hi hbv;obtain⟨m,hm⟩:=xe (l.length);rw[<-hm] at ST QU hii hil hln ⊢;clear hm;have X:=aA (eX w bS L (o:Int) (n:Int) (.slice (some ⟨g,0,none⟩) m vc) ⟨6,cp,ca,cb,cd,cv⟩ s);obtain⟨b0,b1,b2,b3,b4,bf⟩:=aD X.out.2.b;obtain⟨c0,c1,c2,c3,c4,c5⟩:=bO X.out.2.c;go_enter func62,ntmps62;go_wp2_with fail;refine(ST.out _ X.out.1).mono ?_;rintro e9 w9 ⟨rfl,h9⟩;have X9:=aA (X.out.2.keep h9);have K9:=aA (nT X.out.1 h9);clear h9 b0 b1 b2 b3 b4 bf c0 c1 c2 c3 c4 c5 X ST;go_upto_region 27 with fail;have kd:∀ W:World,Kt nO W W.drew:=fun W=>(Kt.refl nO W).drew
 have XD:=aA (X9.out.keep (kd _));have KD:=aA (nT K9.out (kd _));have g0:=HG.out _ KD.out;have qv:((s.v:Int) == (h.s:Int))=true:=by rw[HSV.out];simp
 clear kd X9 K9;obtain⟨db0,db1,db2,db3,db4,dbf⟩:=aD XD.out.b;obtain⟨ds0,ds1,ds2,ds3,ds4,ds5,ds6,ds7,ds8⟩:=aZ XD.out.s;clear dbf;have n1:w.heap.size≠w.heap.size+1+1+1:=by omega
 have n2:w.heap.size+1+1≠w.heap.size+1+1+1:=by omega
 have n3:g≠w.heap.size+1+1+1:=by have:=HGL.out;omega
 go_region_held3 (fun w'=>w'.cell? ⟨w.heap.size,0,none⟩=some (.int .u64 bS)/\w'.cell? ⟨w.heap.size,1,none⟩=some (.int .i64 L)/\w'.cell? ⟨w.heap.size,2,none⟩=some (.int .i64 o)/\w'.cell? ⟨w.heap.size,3,none⟩=some (.int .i64 n)/\w'.cell? ⟨w.heap.size,4,none⟩=some (.slice (some ⟨g,0,none⟩) m vc)/\w'.cell? ⟨w.heap.size+1+1,0,none⟩=some (.int .i64 s.e)/\w'.cell? ⟨w.heap.size+1+1,1,none⟩=some (.int .u64 s.v)/\w'.cell? ⟨w.heap.size+1+1,2,none⟩=some (.slice s.da s.dn s.dc)/\w'.cell? ⟨w.heap.size+1+1,3,none⟩=some (.int .u64 s.H)/\w'.cell? ⟨w.heap.size+1+1,4,none⟩=some (.int .u64 s.L)/\w'.cell? ⟨w.heap.size+1+1,5,none⟩=some (.int .i64 s.B)/\w'.cell? ⟨w.heap.size+1+1,6,none⟩=some (.int .i64 s.F)/\w'.cell? ⟨w.heap.size+1+1,7,none⟩=some (.int .u64 s.af)/\w'.cell? ⟨w.heap.size+1+1,8,none⟩=some (.slice s.fa s.fn s.fc)/\w'.cell? ⟨g,i*3+1,none⟩=some (.int .u64 h.s)) (((try dsimp only);(repeat' apply And.intro) <;> first|with_reducible assumption|with_reducible exact gC (by with_reducible assumption) (by with_reducible assumption))) (first
  | (go_at_call 104;(with_reducible refine(QU.out _).mono ?_);rintro e5 w5 ⟨rfl,hk5⟩;have X5:=aA (XD.out.keep hk5);have K5:=aA (nT KD.out hk5);have g1:=HG.out _ K5.out;obtain⟨kb0,kb1,kb2,kb3,kb4,kbf⟩:=aD X5.out.b;obtain⟨ks0,ks1,ks2,ks3,ks4,ks5,ks6,ks7,ks8⟩:=aZ X5.out.s;clear kbf;obtain⟨z0,z1,z2,z3,z4,zf⟩:=dE X5.out.rb;clear hk5)
  | fail)
 all_goals
  obtain⟨r0,r1,r2,r3,r4,rf⟩:=aD (dM (bS:=bS) (lim:=L) (o:=(o:Int)) (n:=(n:Int)) (v:=.slice (some ⟨g,0,none⟩) m vc) X5.out.rb);have D:=aA (K5.out.trans (fA (W:=w5) (y:=w.heap.size+1+1+1) (.int .u64 bS) (.int .i64 L) (.int .i64 o) (.int .i64 n) (.slice (some ⟨g,0,none⟩) m vc)) (U:=nO) (fun _ _ e=>e) (fun y hy e=>by omega));clear z0 z1 z2 z3 z4 zf;go_wp2_with fail;exact⟨rfl,.tuple #[aK bS L (o:Int) (n:Int) (.slice (some ⟨g,0,none⟩) m vc),.bool true],by simp[results,results62,go_sem,r0,r1,r2,r3,r4],rfl,D.out⟩
theorem EO{w:World}{bS:Nat}{L:Int}{o n:Nat}(ho:o<=8)(hn:n<=64){v:Value}{c:Cl8}{s:Sn8}(hop:c.op=5)(l:List He8)(hB:BK8 w v l)(hp:c.p<18446744073709551616)(d:Option Nat)(hI:bI (gD c.p) l 0=qF d)(hd:c.p=0\/d≠none)(h0:s.e=0)(h1:s.v=0)(h3:s.af=n*RS o):
  Calls prog 62 #[aK bS L (o:Int) (n:Int) v,bJ c,aU s] w fun e w'=>∃ u,e=.returned (.tuple #[aK bS L (o:Int) (n:Int) u,.bool true])/\GS w w' 164 3 u (aQ l d).length (dT (aQ l d)):=by
 obtain⟨op,cp,ca,cb,cd,cv⟩:=c;dsimp only at *;subst hop;have ST:=aA (fun W (k:Kt nO w W)=>sY bS L (o:Int) (n:Int) v l cp hp W (hB.keep k));rw[hI] at ST;have QU:=aA (fun W=>mQ bS L o n ho hn v s h0 h3 W);have WO:=aA (fun W (k:Kt nO w W)=>uM bS L (o:Int) (n:Int) v l d W (hB.keep k));have HSV:=aA h1;have hc:(cp:Int)=0\/(¬(cp:Int)=0/\¬qF d<0):=by
  by_cases e:cp=0
  ·exact .inl (by omega)
  ·refine .inr ⟨by omega,?_⟩
   cases d with
   | none=>exact absurd rfl (hd.resolve_left e)
   | some j=>show ¬((j:Nat):Int)<0;omega
 clear hB hI h0 h1 h3 hd;generalize qF d=di at *;have X:=aA (eX w bS L (o:Int) (n:Int) v ⟨5,cp,ca,cb,cd,cv⟩ s);obtain⟨b0,b1,b2,b3,b4,bf⟩:=aD X.out.2.b;obtain⟨c0,c1,c2,c3,c4,c5⟩:=bO X.out.2.c;go_enter func62,ntmps62;go_wp2_with fail;refine(ST.out _ X.out.1).mono ?_;rintro e9 w9 ⟨rfl,h9⟩;have X9:=aA (X.out.2.keep h9);have K9:=aA (nT X.out.1 h9);clear h9 b0 b1 b2 b3 b4 bf c0 c1 c2 c3 c4 c5 X ST;obtain⟨c0,c1,c2,c3,c4,c5⟩:=bO X9.out.c;dsimp only at c0 c1 c2 c3 c4 c5;rcases hc with hc|⟨hc,hc2⟩
 ·rw[hc] at c1;clear c0 c2 c3 c4 c5;go_upto_region 22 with fail;have kd:∀ W:World,Kt nO W W.drew:=fun W=>(Kt.refl nO W).drew
  have XD:=aA (X9.out.keep (kd _));have KD:=aA (nT K9.out (kd _));have WD:=aA (WO.out _ KD.out);have qv:((s.v:Int) == 0)=true:=by rw[HSV.out];rfl
  clear kd X9 K9 WO c1;obtain⟨db0,db1,db2,db3,db4,dbf⟩:=aD XD.out.b;obtain⟨ds0,ds1,ds2,ds3,ds4,ds5,ds6,ds7,ds8⟩:=aZ XD.out.s;clear dbf;have n1:w.heap.size≠w.heap.size+1+1+1:=by omega
  have n2:w.heap.size+1+1≠w.heap.size+1+1+1:=by omega
  go_region_held3 (fun w'=>w'.cell? ⟨w.heap.size,0,none⟩=some (.int .u64 bS)/\w'.cell? ⟨w.heap.size,1,none⟩=some (.int .i64 L)/\w'.cell? ⟨w.heap.size,2,none⟩=some (.int .i64 o)/\w'.cell? ⟨w.heap.size,3,none⟩=some (.int .i64 n)/\w'.cell? ⟨w.heap.size,4,none⟩=some (v)/\w'.cell? ⟨w.heap.size+1+1,0,none⟩=some (.int .i64 s.e)/\w'.cell? ⟨w.heap.size+1+1,1,none⟩=some (.int .u64 s.v)/\w'.cell? ⟨w.heap.size+1+1,2,none⟩=some (.slice s.da s.dn s.dc)/\w'.cell? ⟨w.heap.size+1+1,3,none⟩=some (.int .u64 s.H)/\w'.cell? ⟨w.heap.size+1+1,4,none⟩=some (.int .u64 s.L)/\w'.cell? ⟨w.heap.size+1+1,5,none⟩=some (.int .i64 s.B)/\w'.cell? ⟨w.heap.size+1+1,6,none⟩=some (.int .i64 s.F)/\w'.cell? ⟨w.heap.size+1+1,7,none⟩=some (.int .u64 s.af)/\w'.cell? ⟨w.heap.size+1+1,8,none⟩=some (.slice s.fa s.fn s.fc)) (((try dsimp only);(repeat' apply And.intro) <;> first|with_reducible assumption|with_reducible exact gC (by with_reducible assumption) (by with_reducible assumption))) (first
   | (go_at_call 103;(with_reducible refine WD.out.mono ?_);rintro e4 w4 ⟨u,rfl,hG4⟩;have G4:=aA (hG4.old8 KD.out);have X4:=aA (XD.out.keep hG4.kp);obtain⟨ua,uc,rfl⟩:=eR hG4.own;obtain⟨fb0,fb1,fb2,fb3,fb4,fbf⟩:=aD X4.out.b;obtain⟨fs0,fs1,fs2,fs3,fs4,fs5,fs6,fs7,fs8⟩:=aZ X4.out.s;clear fbf;clear hG4)
   | (go_at_call 104;(with_reducible refine(QU.out _).mono ?_);rintro e5 w5 ⟨rfl,hk5⟩;have X5:=aA (X4.out.keep hk5);have G5:=aA (G4.out.keep hk5);obtain⟨kb0,kb1,kb2,kb3,kb4,kbf⟩:=aD X5.out.b;obtain⟨ks0,ks1,ks2,ks3,ks4,ks5,ks6,ks7,ks8⟩:=aZ X5.out.s;clear kbf;obtain⟨z0,z1,z2,z3,z4,zf⟩:=dE X5.out.rb;clear hk5)
   | fail)
  all_goals
   obtain⟨r0,r1,r2,r3,r4,rf⟩:=aD (dM (bS:=bS) (lim:=L) (o:=(o:Int)) (n:=(n:Int)) (v:=.slice ua (aQ l d).length uc) X5.out.rb);have D:=aA (G5.out.set5 (y:=w.heap.size+1+1+1) (.int .u64 bS) (.int .i64 L) (.int .i64 o) (.int .i64 n) (.slice ua (aQ l d).length uc) (by omega) (fun e=>by
    obtain⟨cs',hcs⟩:=cB G5.out.own e;exact absurd (bM hcs X5.out.rb) (by decide)))
   clear z0 z1 z2 z3 z4 zf;go_wp2_with fail;exact⟨rfl,.tuple #[aK bS L (o:Int) (n:Int) (.slice ua (aQ l d).length uc),.bool true],by simp[results,results62,go_sem,r0,r1,r2,r3,r4],_,rfl,D.out⟩
 ·have hc3:((cp:Int) != 0)=true:=by rw[bne_iff_ne];exact hc
  have hc5:¬di<0:=by omega
  have hc4:decide (di<0)=false:=decide_eq_false hc5;clear c0 c2 c3 c4 c5;go_upto_region 22 with fail;have kd:∀ W:World,Kt nO W W.drew:=fun W=>(Kt.refl nO W).drew
  have XD:=aA (X9.out.keep (kd _));have KD:=aA (nT K9.out (kd _));have WD:=aA (WO.out _ KD.out);have qv:((s.v:Int) == 0)=true:=by rw[HSV.out];rfl
  clear kd X9 K9 WO c1;obtain⟨db0,db1,db2,db3,db4,dbf⟩:=aD XD.out.b;obtain⟨ds0,ds1,ds2,ds3,ds4,ds5,ds6,ds7,ds8⟩:=aZ XD.out.s;clear dbf;have n1:w.heap.size≠w.heap.size+1+1+1:=by omega
  have n2:w.heap.size+1+1≠w.heap.size+1+1+1:=by omega
  go_region_held3 (fun w'=>w'.cell? ⟨w.heap.size,0,none⟩=some (.int .u64 bS)/\w'.cell? ⟨w.heap.size,1,none⟩=some (.int .i64 L)/\w'.cell? ⟨w.heap.size,2,none⟩=some (.int .i64 o)/\w'.cell? ⟨w.heap.size,3,none⟩=some (.int .i64 n)/\w'.cell? ⟨w.heap.size,4,none⟩=some (v)/\w'.cell? ⟨w.heap.size+1+1,0,none⟩=some (.int .i64 s.e)/\w'.cell? ⟨w.heap.size+1+1,1,none⟩=some (.int .u64 s.v)/\w'.cell? ⟨w.heap.size+1+1,2,none⟩=some (.slice s.da s.dn s.dc)/\w'.cell? ⟨w.heap.size+1+1,3,none⟩=some (.int .u64 s.H)/\w'.cell? ⟨w.heap.size+1+1,4,none⟩=some (.int .u64 s.L)/\w'.cell? ⟨w.heap.size+1+1,5,none⟩=some (.int .i64 s.B)/\w'.cell? ⟨w.heap.size+1+1,6,none⟩=some (.int .i64 s.F)/\w'.cell? ⟨w.heap.size+1+1,7,none⟩=some (.int .u64 s.af)/\w'.cell? ⟨w.heap.size+1+1,8,none⟩=some (.slice s.fa s.fn s.fc)) (((try dsimp only);(repeat' apply And.intro) <;> first|with_reducible assumption|with_reducible exact gC (by with_reducible assumption) (by with_reducible assumption))) (first
   | (go_at_call 103;(with_reducible refine WD.out.mono ?_);rintro e4 w4 ⟨u,rfl,hG4⟩;have G4:=aA (hG4.old8 KD.out);have X4:=aA (XD.out.keep hG4.kp);obtain⟨ua,uc,rfl⟩:=eR hG4.own;obtain⟨fb0,fb1,fb2,fb3,fb4,fbf⟩:=aD X4.out.b;obtain⟨fs0,fs1,fs2,fs3,fs4,fs5,fs6,fs7,fs8⟩:=aZ X4.out.s;clear fbf;clear hG4)
   | (go_at_call 104;(with_reducible refine(QU.out _).mono ?_);rintro e5 w5 ⟨rfl,hk5⟩;have X5:=aA (X4.out.keep hk5);have G5:=aA (G4.out.keep hk5);obtain⟨kb0,kb1,kb2,kb3,kb4,kbf⟩:=aD X5.out.b;obtain⟨ks0,ks1,ks2,ks3,ks4,ks5,ks6,ks7,ks8⟩:=aZ X5.out.s;clear kbf;obtain⟨z0,z1,z2,z3,z4,zf⟩:=dE X5.out.rb;clear hk5)
   | fail)
  all_goals
   obtain⟨r0,r1,r2,r3,r4,rf⟩:=aD (dM (bS:=bS) (lim:=L) (o:=(o:Int)) (n:=(n:Int)) (v:=.slice ua (aQ l d).length uc) X5.out.rb);have D:=aA (G5.out.set5 (y:=w.heap.size+1+1+1) (.int .u64 bS) (.int .i64 L) (.int .i64 o) (.int .i64 n) (.slice ua (aQ l d).length uc) (by omega) (fun e=>by
    obtain⟨cs',hcs⟩:=cB G5.out.own e;exact absurd (bM hcs X5.out.rb) (by decide)))
   clear z0 z1 z2 z3 z4 zf;go_wp2_with fail;exact⟨rfl,.tuple #[aK bS L (o:Int) (n:Int) (.slice ua (aQ l d).length uc),.bool true],by simp[results,results62,go_sem,r0,r1,r2,r3,r4],_,rfl,D.out⟩
end Go.Proofs.YtbgbfpklgfpepaaGreatDoor
