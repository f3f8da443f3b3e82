import Derived.Test.YtgjdmkfpmokkaaaGreatDoorYp
set_option maxRecDepth 1000000
set_option maxHeartbeats 80000000
namespace Go.Proofs.YtgjdmkfpmokkaaaGreatDoor
open Go.RowKit
set_option linter.unusedVariables false
theorem zlL(wB wr:World)(wb lw m0 oc j q tc:Nat)(ta:Option Addr)(hq600:q≤j)(hI:PlI wB wb lw j q ta tc wr)(hjm:j<m0)(hj6:j<600)(bl ob:Nat)(op N rf:Int)(dn:Bool)(P:Nat)(hrf : -9223372036854775808≤rf∧rf≤9223372036854775807)(hP64:P<18446744073709551616)(r0:wr.cell? ⟨bl,ob+j*5,none⟩=some (.int .i64 op))(r1:wr.cell? ⟨bl,ob+j*5+1,none⟩=some (.int .i64 N))(r2:wr.cell? ⟨bl,ob+j*5+2,none⟩=some (.int .i64 rf))(r3:wr.cell? ⟨bl,ob+j*5+3,none⟩=some (.bool dn))(r4:wr.cell? ⟨bl,ob+j*5+4,none⟩=some (.int .u64 (P:Int)))(hop:op≠0)(hop3:op≠3)(c0 c2 c3 c24 c25 c26 c27 c28 c29 c30 c31 c192 c193:Value)(u4 u8 u9 u10 u11 u12 u13 u14 u15 u16 u17 u18 u19 u20 u21 u22 u23 u32 u33 u34 u35 u36 u37 u38 u39 u40 u41 u42 u43 u44 u45 u46 u47 u48 u49 u50 u51 u52 u53 u54 u55 u56 u57 u58 u59 u60 u61 u62 u63 u64 u65 u66 u67 u68 u69 u70 u71 u72 u73 u74 u75 u76 u77 u78 u79 u80 u81 u82 u83 u84 u85 u86 u87 u88 u89 u90 u91 u92 u93 u94 u95 u96 u97 u98 u99 u100 u101 u102 u103 u104 u105 u106 u107 u108 u109 u110 u111 u112 u113 u114 u115 u116 u117 u118 u119 u120 u121 u122 u123 u124 u125 u126 u127 u128 u129 u130 u131 u132 u133 u134 u135 u136 u137 u138 u139 u140 u141 u142 u143 u144 u145 u146 u147 u148 u149 u150 u151 u152 u153 u154 u155 u156 u157 u158 u159 u160 u161 u162 u163 u164 u165 u166 u167 u168 u169 u170 u171 u172 u173 u174 u175 u176 u177 u178 u179 u180 u181 u182 u183 u184 u185 u186 u187 u188 u189 u190 u191:Value)(Q0:Exit→Act→World→Prop)(hexit:∀ a' w'',WI wB wb lw (some ⟨bl,ob,none⟩) m0 oc c0 c2 c3 c24 c25 c26 c27 c28 c29 c30 c31 c192 c193 a' w''→Q0 (.exit 0) a' w''):
  Code.wp Tryz.prog zhb (Exit.then (fun a' w''=>WI wB wb lw (some ⟨bl,ob,none⟩) m0 oc c0 c2 c3 c24 c25 c26 c27 c28 c29 c30 c31 c192 c193 a' w''∧Wmu a' w''<600-j) Q0) ⟨#[c0,.slice (some ⟨bl,ob,none⟩) m0 oc,c2,c3,u4,.pointer (some ⟨wb,0,none⟩),(.slice ta q tc),(.int .i64 (j:Int)),u8,u9,u10,u11,u12,u13,u14,u15,u16,u17,u18,u19,u20,u21,u22,u23,c24,c25,c26,c27,c28,c29,c30,c31,u32,u33,u34,u35,u36,u37,u38,u39,u40,u41,u42,u43,u44,u45,u46,u47,u48,u49,u50,u51,u52,u53,u54,u55,u56,u57,u58,u59,u60,u61,u62,u63,u64,u65,u66,u67,u68,u69,u70,u71,u72,u73,u74,u75,u76,u77,u78,u79,u80,u81,u82,u83,u84,u85,u86,u87,u88,u89,u90,u91,u92,u93,u94,u95,u96,u97,u98,u99,u100,u101,u102,u103,u104,u105,u106,u107,u108,u109,u110,u111,u112,u113,u114,u115,u116,u117,u118,u119,u120,u121,u122,u123,u124,u125,u126,u127,u128,u129,u130,u131,u132,u133,u134,u135,u136,u137,u138,u139,u140,u141,u142,u143,u144,u145,u146,u147,u148,u149,u150,u151,u152,u153,u154,u155,u156,u157,u158,u159,u160,u161,u162,u163,u164,u165,u166,u167,u168,u169,u170,u171,u172,u173,u174,u175,u176,u177,u178,u179,u180,u181,u182,u183,u184,u185,u186,u187,u188,u189,u190,u191,c192,c193],[]⟩ wr:=by
 conv=>arg 2;whnf
 obtain⟨sb,x,t,fr,ls,S,al,fa,fc,va,vc,ca,cc,pa,pc,xs,hL,hG⟩:=hI;have hls:ls.length≤900:=by have:=hL.lc;omega
 have hjc:j≤800:=by omega
 have hq2:q≤2000:=by omega
 have hji:(j:Int)<(m0:Int):=by omega
 have hji6:(j:Int)<600:=by omega
 have ka:=(Kt.refl nO wr).alloc (stO op N rf dn (P:Int));have L1:=hid (hL.keep ka);have T1:=hid (hG.keep ka);have X1:=hid (nH wr (stO op N rf dn (P:Int)));clear ka hL hG hexit;go_upto_region 9 with fail;clear r0 r1 r2 r3 r4 hji hji6;generalize wr.heap.size=y1 at *;generalize wr.alloc (stO op N rf dn (P:Int))=w2' at *;obtain⟨s0,s1,s2,s3,s4⟩:=stc X1.out;go_upto_region 10 with fail;go_cut [57] from 32 to 191 (fun sc wx=>wx=w2'∧Hid (sc=.bool (decide (0<rf∧rf≤(q:Int)))))
 case first=>
  rename_i KK hKK J KK2 hJ hM;clear hKK KK;by_cases h1 : 0<rf
  ·have d1:decide (0<rf)=true:=decide_eq_true h1;by_cases h2:rf≤(q:Int)
   ·have d2:decide (rf≤(q:Int))=true:=decide_eq_true h2;go_wp2_with fail;go_meet
    case rel=>exact⟨rfl,hid (by rw[decide_eq_true ⟨h1,h2⟩])⟩
   ·have d2:decide (rf≤(q:Int))=false:=decide_eq_false h2;go_wp2_with fail;go_meet
    case rel=>exact⟨rfl,hid (by rw[decide_eq_false (by omega)])⟩
  ·have d1:decide (0<rf)=false:=decide_eq_false h1;go_wp2_with fail;go_meet
   case rel=>exact⟨rfl,hid (by rw[decide_eq_false (by omega)])⟩
 case rest=>
 obtain⟨hwc,hsc⟩:=hcut;replace hwc:=hwc.symm;subst hwc;go_upto_region 12 with fail;go_cut [9] from 32 to 191 (fun sc wx=>Kt nO w2' wx∧∃ p:Nat,p<18446744073709551616∧sc=.int .u64 (p:Int))
 case first=>
  rename_i KK hKK J KK2 hJ hM;clear hKK KK;have hsc2:=hsc.out;clear hsc;by_cases h1 : 0<rf∧rf≤(q:Int)
  ·rw[decide_eq_true h1] at hsc2;subst hsc2;obtain⟨i,hi⟩:∃ i:Nat,rf=(i:Int)+1:=⟨(rf-1).toNat,by omega⟩;have hiq:i<q:=(by omega);obtain⟨g,y,hg,hc,hy⟩:=T1.out.get hiq;subst hg;have hri:rf-1=(i:Int):=(by omega);have hiq2:(i:Int)<(q:Int):=(by omega);have KQ:=hid (fun r=>show Kt nO w2' (w2'.drewN r)from(Kt.refl nO w2').drewN r);clear hi h1;go_wp2_with fail;go_quiet (fail)
   go_wp2_with fail;go_meet
   case rel=>exact⟨KQ.out _,(IntKind.u64.wrap ((y:Int)+(P:Int))).toNat,by rw[wrap_u64];omega,by rw[Int.toNat_of_nonneg (by rw[wrap_u64];omega)]⟩
  ·rw[decide_eq_false h1] at hsc2;subst hsc2;go_wp2_with fail;go_meet
   case rel=>exact⟨Kt.refl nO _,P,hP64,rfl⟩
 case rest=>
 obtain⟨hk3,p,hp,rfl⟩:=hcut;have L3:=hid (L1.out.keep hk3);have T3:=hid (T1.out.keep hk3);have X3:=hid ((hk3.block _ (lH X1.out) (fun e=>e)).trans X1.out);clear s0 s1 s2 s3 s4 hk3 hsc L1 T1 X1 hP64;generalize wc=w3 at *;obtain⟨s0,s1,s2,s3,s4⟩:=stc X3.out;have b0':(op == 0)=false:=beq_eq_false_iff_ne.2 hop;have b3':(op == 3)=false:=beq_eq_false_iff_ne.2 hop3;have SA:=hid (zjK L3.out hjc op N rf dn (P:Int) p hp);have BXW:=hid L3.out.bx;go_wp2_with fail;refine SA.out.mono ?_;rintro e w4 ⟨rfl,hst⟩;have D:=hid (PlI.step T3.out BXW.out hst);clear hst s0 s1 s2 s3 s4 SA;go_wp2_with fail;refine⟨?_,by simp[Wmu,intOf];omega⟩;unfold WI;(repeat apply Exists.intro)
 refine⟨?_,rfl⟩;exact⟨j+1,q,_,_,by omega,by omega,by omega,rfl,by simp,D.out⟩
theorem zms(wB wr:World)(wb lw m0 oc j q tc:Nat)(ta:Option Addr)(hq600:q≤j)(hI:PlI wB wb lw j q ta tc wr)(oa:Option Addr)(hjm:j≤m0)(hj6:j≤600)(hno:¬(j<m0∧j<600))(c0 c2 c3 c24 c25 c26 c27 c28 c29 c30 c31 c192 c193:Value)(u4 u8 u9 u10 u11 u12 u13 u14 u15 u16 u17 u18 u19 u20 u21 u22 u23 u32 u33 u34 u35 u36 u37 u38 u39 u40 u41 u42 u43 u44 u45 u46 u47 u48 u49 u50 u51 u52 u53 u54 u55 u56 u57 u58 u59 u60 u61 u62 u63 u64 u65 u66 u67 u68 u69 u70 u71 u72 u73 u74 u75 u76 u77 u78 u79 u80 u81 u82 u83 u84 u85 u86 u87 u88 u89 u90 u91 u92 u93 u94 u95 u96 u97 u98 u99 u100 u101 u102 u103 u104 u105 u106 u107 u108 u109 u110 u111 u112 u113 u114 u115 u116 u117 u118 u119 u120 u121 u122 u123 u124 u125 u126 u127 u128 u129 u130 u131 u132 u133 u134 u135 u136 u137 u138 u139 u140 u141 u142 u143 u144 u145 u146 u147 u148 u149 u150 u151 u152 u153 u154 u155 u156 u157 u158 u159 u160 u161 u162 u163 u164 u165 u166 u167 u168 u169 u170 u171 u172 u173 u174 u175 u176 u177 u178 u179 u180 u181 u182 u183 u184 u185 u186 u187 u188 u189 u190 u191:Value)(Q0:Exit→Act→World→Prop)(hexit:∀ a' w'',WI wB wb lw oa m0 oc c0 c2 c3 c24 c25 c26 c27 c28 c29 c30 c31 c192 c193 a' w''→Q0 (.exit 0) a' w''):
  Code.wp Tryz.prog zhb (Exit.then (fun a' w''=>WI wB wb lw oa m0 oc c0 c2 c3 c24 c25 c26 c27 c28 c29 c30 c31 c192 c193 a' w''∧Wmu a' w''<600-j) Q0) ⟨#[c0,.slice oa m0 oc,c2,c3,u4,.pointer (some ⟨wb,0,none⟩),(.slice ta q tc),(.int .i64 (j:Int)),u8,u9,u10,u11,u12,u13,u14,u15,u16,u17,u18,u19,u20,u21,u22,u23,c24,c25,c26,c27,c28,c29,c30,c31,u32,u33,u34,u35,u36,u37,u38,u39,u40,u41,u42,u43,u44,u45,u46,u47,u48,u49,u50,u51,u52,u53,u54,u55,u56,u57,u58,u59,u60,u61,u62,u63,u64,u65,u66,u67,u68,u69,u70,u71,u72,u73,u74,u75,u76,u77,u78,u79,u80,u81,u82,u83,u84,u85,u86,u87,u88,u89,u90,u91,u92,u93,u94,u95,u96,u97,u98,u99,u100,u101,u102,u103,u104,u105,u106,u107,u108,u109,u110,u111,u112,u113,u114,u115,u116,u117,u118,u119,u120,u121,u122,u123,u124,u125,u126,u127,u128,u129,u130,u131,u132,u133,u134,u135,u136,u137,u138,u139,u140,u141,u142,u143,u144,u145,u146,u147,u148,u149,u150,u151,u152,u153,u154,u155,u156,u157,u158,u159,u160,u161,u162,u163,u164,u165,u166,u167,u168,u169,u170,u171,u172,u173,u174,u175,u176,u177,u178,u179,u180,u181,u182,u183,u184,u185,u186,u187,u188,u189,u190,u191,c192,c193],[]⟩ wr:=by
 conv=>arg 2;whnf
 by_cases hc:j<m0
 ·have h1:(j:Int)<(m0:Int):=by omega
  have h2:¬(j:Int)<600:=by omega
  have h3:decide ((j:Int)<(m0:Int))=true:=decide_eq_true h1;have h4:decide (j<m0)=true:=decide_eq_true hc;have h5:decide ((j:Int)<600)=false:=decide_eq_false h2;have h6:decide (j<600)=false:=decide_eq_false (by omega);have D:=hid (show RL wB wb lw m0 (.slice ta q tc) (.int .i64 (j:Int)) wr from⟨j,q,_,_,hjm,hj6,hq600,rfl,rfl,hI⟩);clear hI hno hjm hj6 hq600;go_wp2_with fail;unfold WI;(repeat apply Exists.intro)
  exact⟨D.out,rfl⟩
 ·have h1:¬(j:Int)<(m0:Int):=by omega
  have h2:decide ((j:Int)<(m0:Int))=false:=decide_eq_false h1;have h3:decide (j<m0)=false:=decide_eq_false hc;have D:=hid (show RL wB wb lw m0 (.slice ta q tc) (.int .i64 (j:Int)) wr from⟨j,q,_,_,hjm,hj6,hq600,rfl,rfl,hI⟩);clear hI hno hjm hj6 hq600;go_wp2_with fail;unfold WI;(repeat apply Exists.intro)
  exact⟨D.out,rfl⟩
end Go.Proofs.YtgjdmkfpmokkaaaGreatDoor
