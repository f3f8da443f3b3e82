import Derived.Test.YtbgbfpklgfpepaaGreatDoorWg
set_option maxRecDepth 1000000
set_option maxHeartbeats 80000000
namespace Go.Proofs.YtbgbfpklgfpepaaGreatDoor
open Tryz
open Go.RowKit
open Go.MuLone
open Go.Proofs.YtbgbfpklgfpepaaGreatDoor.M (RS gJ mayB bE)
set_option linter.unusedVariables false
theorem nM{l:List He8}{d:Option Nat}{x:He8}(h:x∈aQ l d):x∈l:=by
 cases d with
 | none=>exact h
 | some i=>exact List.mem_of_mem_eraseIdx h
theorem BK8.del{w W:World}{v u:Value}{l:List He8}{d:Option Nat}(hB:BK8 w v l)(h:GS w W 164 3 u (aQ l d).length (dT (aQ l d))):BK8 W u (aQ l d):=
 h.bk8 (fun x hx=>hB.bt x (nM hx)) (fun x hx=>hB.bd x (nM hx)) (by
  have:(aQ l d).length<=l.length:=by
   cases d with
   | none=>exact Nat.le_refl _
   | some j=>exact List.length_eraseIdx_le _ _
  have:=hB.ln;omega) (fun x hx=>hB.cp x (nM hx))
theorem KU{W:World}{y p s:Nat}{v:Value}(h:W.heap[y]?=some (eY p s v)):(∀ z:KW W,z.v.cell? ⟨y,0,none⟩=some (.int .u64 p))/\(∀ z:KW W,z.v.cell? ⟨y,1,none⟩=some (.int .u64 s))/\(∀ z:KW W,z.v.cell? ⟨y,2,none⟩=some v):=
 ⟨fun z=>(bQ (oV h z.k)).1,fun z=>(bQ (oV h z.k)).2.1,fun z=>(bQ (oV h z.k)).2.2⟩
theorem zfB(bS:Nat)(hb64:bS<18446744073709551616)(L o n:Nat)(hL:L<=64)(ho:o<=8)(hn:n<=64)(v:Value)(l:List He8)(i:Nat)(h:He8)(hi:l[i]?=some h)(c:Cl8)(hca:c.a<18446744073709551616)(s:Sn8)(hE:O.rdE bS (L:Int) (o:Int) c.a 1=0)(r:Nat)(hr0 : 0<r)(hr:r<=1048576)(hR:O.rdV bS (L:Int) (o:Int) c.a 1=r)(hne:r=h.s\/(4096<=r/\r<h.s))(h0:s.e=0)(h1:s.v=h.p)(h4:s.fn=r)(h3:s.af=n*RS o)(f:Nat->Nat)(hfe:∀ j,j<r->f j=h.f j)(w:World)(hF:M.Bytes w (.slice s.fa s.fn s.fc) r f)(hB:BK8 w v l):
  Calls prog 102 #[aK bS (L:Int) (o:Int) (n:Int) v,bJ c,aU s,.int .i64 i] w fun e w'=>∃ u xa xc,e=.returned (.tuple #[aK bS (L:Int) (o:Int) (n:Int) u,.bool true])/\GS w w' 164 3 u l.length (dT (aQ l (some i)) ++ [.int .u64 h.p,.int .u64 r,.slice xa r xc])/\GS w w' 5 1 (.slice xa r xc) r (M.byteVs r f)/\∀ g,(Value.slice xa r xc).ownBlock=some g->w.heap.size<=g:=by
 have hil:i<l.length:=(List.getElem?_eq_some_iff.1 hi).1;have hln:=hB.ln;have hbd:=hB.bd h (List.mem_of_getElem? hi);obtain⟨g,vc,ba,bc,rfl,hbv,d0,d1,d2⟩:=hB.at hi;have Z:=(eX w bS (L:Int) (o:Int) (n:Int) (.slice (some ⟨g,0,none⟩) l.length vc) c s);have a0:=Z.1.cell id d0;have a1:=Z.1.cell id d1;have a2:=Z.1.cell id d2;have X:=aA (vF w bS (L:Int) (o:Int) (n:Int) (.slice (some ⟨g,0,none⟩) l.length vc) c s h.p h.s (.slice ba h.s bc));have RD:=aA (fun W=>O.refRound bS hb64 (L:Int) (o:Int) (by omega) (by omega) (by omega) (by omega) c.a 1 (by omega) (by omega) W);rw[hE,hR] at RD;rw[show((1:Nat):Int)=1 from rfl] at RD;have QU:=aA (fun W=>mQ bS (L:Int) o n ho hn (.slice (some ⟨g,0,none⟩) l.length vc) s h0 h3 W);have hrs:r<=h.s:=by omega
 obtain⟨bb,bq,rfl,hpart⟩:=rQ (o:=0) (n:=r) (hB.bt h (List.mem_of_getElem? hi)) hbv (by omega) hr0;have SM:=aA (fun W (k:Kt nO w W)=>show Calls prog 32 #[.slice s.fa s.fn s.fc,.slice (some ⟨bb,bq,none⟩) r bc] W fun e w'=>e=.returned (.bool true)/\Kt nO W w' from sS _ _ r (by omega) f W (hF.keep (cH k)) (by
  have h9:=(hpart bc).keep (cH k);obtain⟨q1,q2⟩:=h9;refine⟨fun j hj=>by rw[hfe j hj];have:=q1 j hj;dsimp only at this;rw[Nat.zero_add] at this;exact this,?_⟩;obtain⟨ao,cap,e,q3⟩:=q2;refine⟨ao,cap,e,q3.imp (fun x=>x) (fun ⟨a,ea,hl,hc⟩=>⟨a,ea,hl,fun j hj=>?_⟩)⟩;have:=hc j hj;dsimp only at this;rw[Nat.zero_add] at this;rw[hfe j hj];exact this))
 have WO:=aA (fun W (k:Kt nO w W)=>show Calls prog 103 #[aK bS (L:Int) (o:Int) (n:Int) (.slice (some ⟨g,0,none⟩) l.length vc),.int .i64 i] W fun e w'=>∃ u,e=.returned (aK bS (L:Int) (o:Int) (n:Int) u)/\GS W w' 164 3 u (aQ l (some i)).length (dT (aQ l (some i)))from uM bS (L:Int) (o:Int) (n:Int) (.slice (some ⟨g,0,none⟩) l.length vc) l (some i) W (hB.keep k));have CP:=aA (fun W (k:Kt nO w W)=>tZ (.slice s.fa s.fn s.fc) r hr f W (hF.keep (cH k)));have hdl:(aQ l (some i)).length=l.length-1:=List.length_eraseIdx_of_lt hil;have WI:=aA (fun u xa xc W W2 (k:Kt nO w W) (hG:GS W W2 164 3 u (aQ l (some i)).length (dT (aQ l (some i)))) W3 (k3:Kt nO W2 W3)=>vN bS (L:Int) (o:Int) (n:Int) u (aQ l (some i)) (by omega) h.p r xa xc W3 (((hB.keep k).del hG).keep k3));rw[show(aQ l (some i)).length+1=l.length by omega] at WI;have HSV:=aA (And.intro h1 h4);have HBC:=aA (show h.s<=bc by
  obtain⟨va',vc',e1,e2⟩:=hB.cp h (List.mem_of_getElem? hi);rw[hbv] at e1;injection e1 with _ _ e3
  omega)
 obtain⟨b0,b1,b2,b3,b4,bf⟩:=aD Z.2.b;have hii:(i:Int)<l.length:=by omega
 clear hE h0 h1 h3 h4 hR hF hpart hfe hB Z d0 d1 d2 hi hbv;obtain⟨m,hm⟩:=xe (l.length);have HMM:=aA hm;rw[<-hm] at X QU WO WI b4 hii a0 a1 a2 b0 b1 b2 b3 bf hil hln ⊢;clear hm;obtain⟨hp,hs,hv,hf⟩:=h;dsimp only at *;go_enter func102,ntmps102;go_wp2_with fail;refine(RD.out _).mono ?_;rintro e1 w1 ⟨rfl,hk1⟩;have X1:=aA (X.out.2.keep hk1);have K1:=aA (nT X.out.1 hk1);clear hk1 RD X b0 b1 b2 b3 b4 bf a0 a1 a2;obtain⟨b0,b1,b2,b3,b4,bf⟩:=aD X1.out.q.b;obtain⟨s0,s1,s2,s3,s4,s5,s6,s7,s8⟩:=aZ X1.out.q.s;obtain⟨c0,c1,c2,c3,c4,c5⟩:=bO X1.out.q.c;obtain⟨h0,h1,h2⟩:=bQ X1.out.h;have hrw:IntKind.i64.wrap (r:Int)=r:=by rw[IntKind.wrap_i64];omega
 have q1:¬(hs:Int)<r:=by omega
 have hbc:=HBC.out;have q5:((r:Int) == (hs:Int))=true\/(((r:Int) == (hs:Int))=false/\(4096:Int)<=(r:Int)/\(r:Int)<hs):=by
  rcases hne with e|e
  ·exact .inl (by rw[beq_iff_eq];omega)
  ·exact .inr ⟨by rw[beq_eq_false_iff_ne];omega,by omega,by omega⟩
 clear hne;rcases q5 with q2|⟨q2,q3,q4⟩
 all_goals
  go_upto_region 9 with fail;clear b0 b1 b2 b3 b4 bf s0 s1 s2 s3 s4 s5 s6 s7 s8 c0 c1 c2 c3 c4 c5 h0 h1 h2;have q6:((s.v:Int) != (hp:Int))=false:=by rw[HSV.out.1];simp
  have q7:((s.v:Int) == (hp:Int))=true:=by rw[HSV.out.1];simp
  obtain⟨b0,b1,b2,b3,b4⟩:=oY X1.out.q.b;obtain⟨s0,s1,s2,s3,s4,s5,s6,s7,s8⟩:=sH X1.out.q.s;obtain⟨h0,h1,h2⟩:=KU X1.out.h;have SM2:=aA (fun z:KW w1=>SM.out z.v (nT K1.out z.k));refine fC (by kernel_rfl) (by kernel_rfl) ?_;repeat (go_big_quiet_step (first|(go_at_call 104;exact Calls.kept_of (QU.out _))|(go_at_call 32;exact Calls.kept_of (SM2.out _))|fail))
  refine wpQuiet_nil ?_;intro zz;have X2:=aA (X1.out.keep zz.k);have K2:=aA (nT K1.out zz.k);clear b0 b1 b2 b3 b4 s0 s1 s2 s3 s4 s5 s6 s7 s8 h0 h1 h2 SM2 QU SM X1 K1 q6 q7;generalize zz.v=w2 at *;go_upto_region 11 with fail;have kd:∀ W:World,Kt nO W W.drew:=fun W=>(Kt.refl nO W).drew
  have XD:=aA (X2.out.keep (kd _));have KD:=aA (nT K2.out (kd _));have WD:=aA (WO.out _ KD.out);clear kd;obtain⟨b0,b1,b2,b3,b4,bf⟩:=aD XD.out.q.b;obtain⟨s0,s1,s2,s3,s4,s5,s6,s7,s8⟩:=aZ XD.out.q.s;obtain⟨h0,h1,h2⟩:=bQ XD.out.h;clear s0 s1 s2 s3 s4 s5 s6 s7 bf h1 h2;have n1:w.heap.size≠w.heap.size+1+1+1:=by omega
  have n2:w.heap.size+1+1≠w.heap.size+1+1+1:=by omega
  have n3:w.heap.size+1+1+1+1≠w.heap.size+1+1+1:=by omega
  go_region_held3 (fun w'=>w'.cell? ⟨w.heap.size,0,none⟩=some (.int .u64 bS)/\w'.cell? ⟨w.heap.size,1,none⟩=some (.int .i64 L)/\w'.cell? ⟨w.heap.size,2,none⟩=some (.int .i64 o)/\w'.cell? ⟨w.heap.size,3,none⟩=some (.int .i64 n)/\w'.cell? ⟨w.heap.size,4,none⟩=some (.slice (some ⟨g,0,none⟩) m vc)/\w'.cell? ⟨w.heap.size+1+1,8,none⟩=some (.slice s.fa s.fn s.fc)/\w'.cell? ⟨w.heap.size+1+1+1+1,0,none⟩=some (.int .u64 hp)) (((try dsimp only);(repeat' apply And.intro) <;> first|with_reducible assumption|with_reducible exact gC (by with_reducible assumption) (by with_reducible assumption))) (first
   | (go_at_call 103;(with_reducible refine WD.out.mono ?_);rintro e4 w4 ⟨u4,rfl,hG4⟩;have G4:=aA hG4;have X4:=aA (XD.out.keep hG4.kp);have K4:=aA (nT KD.out hG4.kp);have C4:=aA (CP.out w4 K4.out);obtain⟨p0,p1,p2,p3,p4,p5,p6,p7,p8⟩:=aZ X4.out.q.s;obtain⟨k0,k1,k2,k3,k4,kf⟩:=aD X4.out.q.b;obtain⟨y0,y1,y2⟩:=bQ X4.out.h;clear hG4 p0 p1 p2 p3 p4 p5 p6 p7 kf y1 y2)
   | (go_at_call 152;(with_reducible refine C4.out.mono ?_);rintro e5 w5 ⟨xa,xc,rfl,hG5,hN5⟩;have NN5:=aA (show ∀ g,(Value.slice xa r xc).ownBlock=some g->w.heap.size<=g from fun g e=>Nat.le_trans K4.out.size (hN5 g e));clear hN5;have G5:=aA (hG5.old8 K4.out);have X5:=aA (X4.out.keep hG5.kp);have K5:=aA (nT K4.out hG5.kp);have W5:=aA (WI.out _ xa xc _ w4 KD.out G4.out w5 hG5.kp);obtain⟨p0,p1,p2,p3,p4,p5,p6,p7,p8⟩:=aZ X5.out.q.s;obtain⟨k0,k1,k2,k3,k4,kf⟩:=aD X5.out.q.b;obtain⟨y0,y1,y2⟩:=bQ X5.out.h;clear hG5 p0 p1 p2 p3 p4 p5 p6 p7 kf y1 y2)
   | (go_at_call 151;(with_reducible refine W5.out.mono ?_);rintro e6 w6 ⟨u,rfl,hG6⟩;have G6:=aA (hG6.old8 K5.out);have G5b:=aA (G5.out.keep hG6.kp);have X6:=aA (X5.out.keep hG6.kp);obtain⟨ua,uc,rfl⟩:=eR hG6.own;obtain⟨p0,p1,p2,p3,p4,p5,p6,p7,p8⟩:=aZ X6.out.q.s;obtain⟨k0,k1,k2,k3,k4,kf⟩:=aD X6.out.q.b;obtain⟨y0,y1,y2⟩:=bQ X6.out.h;obtain⟨z0,z1,z2,z3,z4,zf⟩:=dE X6.out.q.rb;clear hG6 p0 p1 p2 p3 p4 p5 p6 p7 kf y1 y2)
   | fail)
  all_goals
   obtain⟨r0,r1,r2,r3,r4,rf⟩:=aD (dM (bS:=bS) (lim:=(L:Int)) (o:=(o:Int)) (n:=(n:Int)) (v:=.slice ua m uc) X6.out.q.rb);have D:=aA (And.intro (G6.out.set5 (y:=w.heap.size+1+1+1) (.int .u64 bS) (.int .i64 L) (.int .i64 o) (.int .i64 n) (.slice ua m uc) (by omega) (fun e=>by
    obtain⟨cs',hcs⟩:=cB G6.out.own e;exact absurd (bM hcs X6.out.q.rb) (by decide))) (And.intro (G5b.out.set5 (y:=w.heap.size+1+1+1) (.int .u64 bS) (.int .i64 L) (.int .i64 o) (.int .i64 n) (.slice ua m uc) (by omega) (fun e=>by
     obtain⟨cs',hcs⟩:=cB G5b.out.own e;exact absurd (bM hcs X6.out.q.rb) (by decide))) NN5.out))
   clear z0 z1 z2 z3 z4 zf;go_wp2_with fail;exact⟨rfl,.tuple #[aK bS (L:Int) (o:Int) (n:Int) (.slice ua m uc),.bool true],by simp[results,results102,go_sem,r0,r1,r2,r3,r4],_,_,_,rfl,D.out⟩
end Go.Proofs.YtbgbfpklgfpepaaGreatDoor
