import Derived.Test.YtfmgnljlkdmndaaGreatDoorXk
set_option maxRecDepth 1000000
set_option maxHeartbeats 0
namespace Go.Proofs.YtfmgnljlkdmndaaGreatDoor
open Tryz RowKit
open Go.MuLone
set_option linter.unusedVariables false
theorem GS.il{T W:Wd}{e:TypeId}{size:Nat}{v:Vl}{n:Nat}{C:List Vl}(h:GS T W e size v n C)(t:TypeId)(i:TypeInfo)(z:Vl)(bytes:Nat)(X:prog.underlying t=some (.slice e)) (hi:prog.info? e=some i) (hz:i.zero=some z) (hs:i.size=size) (N:i.bytes=bytes) (D:z.cells.size=size) (F : 0<size)(a:Addr) (c m:Nat) (hm : 0<m) (f:List Vl) (y:f.length=m*size) (o:∀ j u,f[j]?=some u->W.cell? (a.add j)=some u) (Z:∀ u∈f,u.oneCell'=true) (I:n+m<=maxLen) (J:(n+m)*bytes<=140737488355328):∃ g cap l,(∀ Y,(Builtin.append_ #[t,t] Y #[v,.slice (some a) m c]).run prog W=.ok (.slice (some ⟨g,0,none⟩) (n + m) cap) l)/\GS T l e size (.slice (some ⟨g,0,none⟩) (n + m) cap) (n + m) (C ++ f)/\T.heap.size<=g/\Kt (fun b=>v.ownBlock=some b) W l/\(v.ownBlock=some g\/W.heap.size<=g):=by
 have R:=h.own;by_cases hr:∃ g cap,v=.slice (some ⟨g,0,none⟩) n cap/\n+m<=cap
 ·obtain⟨g,cap,rfl,q⟩:=hr;obtain⟨l,k,d,p⟩:=run_append_fits (P:=prog) W 0 t 0 e i size X hi hs g n cap C R a m c f y o Z q;have hg:=(h.new g cap rfl).resolve_left (by omega);have K:=nR p;refine⟨g,cap,l,fun Y=>?_,⟨d,fun g' G e=>?_,h.kp.trans K (fun _ _ x=>x) (fun x hx e=>?_)⟩,hg,K,.inl (by simp[Value.ownBlock])⟩
  ·rw[<-k];simp[Builtin.append_]
  ·simp at e;exact .inr (by omega)
  ·cases e;omega
 ·have U:∃ r l,(Builtin.append_ #[t,t] 0 #[v,.slice (some a) m c]).run prog W=.ok r l/\l.ownsRow W.heap.size e size r (n + m) (C ++ f)/\Kt nO W l:=by
   rcases R.2 with ⟨rfl,h0⟩|⟨g,cap,E,rfl,hb,hg,a1,a2,a0,A⟩
   ·subst h0;have:C=[]:=bq (by rw[R.1,Nat.zero_mul]);subst this;obtain⟨r,l,k,d,p,_⟩:=run_append_own (P:=prog) W W.heap.size t 0 e i z size bytes X hi hz hs N D F (.slice none 0 0) 0 [] (World.ownsRow_nil _ _ _ _) a m c f y o Z I J (aj _);exact⟨r,l,k,d,(nR p).mono (fun _ _ e=>by cases e)⟩
   ·obtain⟨r,l,k,d,p⟩:=run_append_arg_grows (P:=prog) W t 0 e i z size bytes X hi hz hs N D F ⟨g,0,none⟩ n cap C R.1 (fun j u Q=>by
     rw[Addr.add_lit,dz];rw[<-A,dc] at Q;split at Q;·simp only[World.cell?,hg];rw[<-ef,Q];rfl
     ·cases Q) a m c f y o (Nat.lt_of_not_le fun V=>hr ⟨g,cap,rfl,V⟩) I J
    exact⟨r,l,k,d,(nR p).mono (fun _ _ e=>by cases e)⟩
  obtain⟨r,l,k,d,K⟩:=U;rcases d.2 with ⟨_,h0⟩|⟨g,cap,E,rfl,hb,hg,h3⟩
  ·omega
  ·refine⟨g,cap,l,fun Y=>?_,⟨⟨d.1,.inr ⟨g,cap,E,rfl,az _,hg,h3⟩⟩,fun g' G e=>?_,nT h.kp K⟩,an h.kp.size hb,K.mono (fun _ _ e=>e.elim),.inr hb⟩
   ·rw[<-k];simp[Builtin.append_]
   ·simp at e;exact .inr (by have:=h.kp.size;omega)
def blV:List (Nat×Nat)->List Vl
 | []=>[]
 | b :: l=>.int .u64 b.1 :: .int .u64 b.2 :: blV l
theorem nL:∀ l m:List (Nat×Nat),blV (l ++ m)=blV l ++ blV m
 | [],_=>rfl
 | b :: l,m=>by
  show _ :: _ :: blV (l ++ m)=_
  rw[nL l m];rfl
theorem qB:∀ l:List (Nat×Nat),(blV l).length=l.length*2
 | []=>rfl
 | b :: l=>by
  show(blV l).length+1+1=(l.length+1)*2
  rw[qB l];omega
theorem qA:∀ (l:List (Nat×Nat)) (u:Vl),u∈blV l->u.oneCell'=true
 | b :: l,u,h=>by
  rcases eg.1 h with rfl|h
  ·rfl
  ·rcases eg.1 h with rfl|h
   ·rfl
   ·exact qA l u h
theorem qE:(prog.info? 73).map (fun i=>(i.zero,i.size,i.bytes))=some (some (.agg #[.int .u64 0,.int .u64 0]),2,16):=by kernel_rfl
abbrev GB(w0 W:Wd)(v:Vl)(l:List (Nat×Nat)):Prop:=GS w0 W 73 2 v l.length (blV l)
theorem GB.push{f W:Wd}{v:Vl}{l:List (Nat×Nat)}(h:GB f W v l)(a s:Nat)(q:l.length<=4000000):∃ g cap d,(∀ t,(Builtin.append_ #[48,48] t #[v,.slice (some ⟨W.heap.size,0,none⟩) 1 1]).run prog (W.alloc (bY a s))=.ok (.slice (some ⟨g,0,none⟩) (l.length + 1) cap) d)/\GB f d (.slice (some ⟨g,0,none⟩) (l.length + 1) cap) (l ++ [(a,s)])/\Kt (fun b=>v.ownBlock=some b) W d:=by
 obtain⟨i,hi,c⟩:=Option.map_eq_some_iff.1 qE;simp only[Prod.mk.injEq] at c;have k:=(kz W).alloc (bY a s);obtain⟨g,cap,d,m,o,y,p,r⟩:=(GS.dk h k).il 48 i (.agg #[.int .u64 0,.int .u64 0]) 16 Tryz.underlying48 hi c.1 c.2.1 c.2.2 rfl (by decide) ⟨W.heap.size,0,none⟩ 1 1 (by decide) [.int .u64 a,.int .u64 s] rfl (fun j u n=>xI (cs:=#[.int .u64 a,.int .u64 s]) j u n) (by simp[Value.oneCell']) (by simp only[maxLen];omega) (by omega);refine⟨g,cap,d,m,?_,k.trans p (fun _ _ e=>e.elim) (fun _ _ e=>e)⟩;show GS _ _ _ _ _ (l ++ [(a,s)]).length (blV (l ++ [(a,s)]))
 rw[nL,ei];exact o
theorem GB.jn{q W:Wd}{v u:Vl}{l m:List (Nat×Nat)}(h:GB q W v l)(n:W.ownsRow 0 73 2 u m.length (blV m))(Q:l.length<=4000000)(P:m.length<=4000000):∃ r f,(∀ t,(Builtin.append_ #[48,48] t #[v,u]).run prog W=.ok r f)/\GB q f r (l ++ m)/\Kt (fun b=>v.ownBlock=some b) W f:=by
 obtain⟨i,hi,a⟩:=Option.map_eq_some_iff.1 qE;simp only[Prod.mk.injEq] at a;rcases n.2 with ⟨rfl,h0⟩|⟨g,cap,F,rfl,hb,hg,J,K,D,c⟩
 ·obtain rfl:=bq h0;refine⟨v,W,fun t=>?_,by rw[List.append_nil];exact h,Kt.refl _ _⟩;exact run_append_owned_none W 0 48 t 73 i 2 Tryz.underlying48 hi v _ _ h.own
 ·rcases dx m.length with h0|h0
  ·obtain rfl:=bq h0;refine⟨v,W,fun t=>?_,by rw[List.append_nil];exact h,Kt.refl _ _⟩;obtain⟨G,A,rfl⟩:=mQ h.own;have k:l.length<=A:=by
    rcases h.own.2 with ⟨e,_⟩|⟨V,z,o,e,_,I,y,_⟩
    ·simp at e;omega
    ·simp at e;omega
   exact run_append_nothing W 48 48 t 73 i Tryz.underlying48 hi G l.length A k _ (Src.ofSlice W Tryz.underlying48 ⟨g,0,none⟩ 0 cap [] (by simp) (fun j u d=>by simp at d) (fun u n=>by simp at n))
  ·obtain⟨R,p,f,C,E,U,N,T⟩:=GS.il h 48 i (.agg #[.int .u64 0,.int .u64 0]) 16 Tryz.underlying48 hi a.1 a.2.1 a.2.2 rfl (by decide) ⟨g,0,none⟩ cap m.length h0 (blV m) (qB m) (fun j u d=>by
     rw[Addr.add_lit,dz];rw[<-c,dc] at d;split at d;·simp only[World.cell?,hg];rw[<-ef,d];rfl
     ·cases d) (qA m) (by simp only[maxLen];omega) (by omega)
   refine⟨_,f,C,?_,N⟩;show GS _ _ _ _ _ (l ++ m).length (blV (l ++ m))
   rw[nL,ei];exact E
theorem YO(b g:Nat):b+4096*(g+1)=b+4096*g+4096:=by omega
def iP(x:Bx)(S:Sb)(g k:Nat):Nat->List (Nat×Nat)
 | 0=>[]
 | j + 1=>if j∈S.fl g then iP x S g k j else iP x S g k j ++ [(aM x g k j,aB k)]
theorem tA(x:Bx)(S:Sb)(g k:Nat):∀ j,(iP x S g k j).length<=j
 | 0=>aj _
 | j+1=>by
  have:=tA x S g k j;unfold iP;split;·omega
  ·rw[ei];exact Nat.succ_le_succ this
section
variable {w W W':Wd} {hb sb lw:Nat} {x:Bx} {t:Bt} {fr:Nat->List Nat} {ls:List (Nat×Nat)} {S:Sb} {s:Int}
theorem ziJ(H:HW w W hb sb lw x t fr ls S s){g k j:Nat}(hc:S.c g=some k)(f:j<aF k):∃ z:Nat,(j∈S.fl g->z=0)/\(j ∉ S.fl g->16<=z)/\z<=2048/\∀ W',Kt nO W W'->Calls prog 96 #[.pointer (some ⟨sb,0,none⟩),.int .u64 ((aM x g k j:Nat):Int)] W' fun e n=>e=.returned (.int .u64 z)/\Kt nO W' n:=by
 obtain⟨h,o⟩:=H.so;have r:=H.po.en.2.2.2.1;obtain⟨d,sp⟩:=o.si.pg _ k hc;have l:=o.mem hc;have b:=fT (x:=x) (p:=g) d f (by omega);have hz:=cM d;have a:=o.io hc f;by_cases hf:j∈S.fl g;·rw[ah (fun e=>e hf)] at a;refine⟨0,fun _=>rfl,fun e=>absurd hf e,by omega,fun W' kp=>?_⟩;obtain⟨q,i⟩:=(H.dk kp).so;exact EG i.sw _ b.2.2 a
 ·rw[af hf] at a;refine⟨aB k,fun e=>absurd e hf,fun _=>hz.1,hz.2,fun W' kp=>?_⟩;obtain⟨q,i⟩:=(H.dk kp).so;have:=FU i.sw _ b.2.2 a;rw[show dQ x t (aM x g k j)=t.m.pg g from(sO (x:=x) (t:=t) d f (by omega) l.2.1 sp.kd sp.cl).2.2.1,sp.cl,aa] at this;exact this
theorem YN(H:HW w W hb sb lw x t fr ls S s){g k:Nat}(hc:S.c g=some k)(q:Pg)(hq:q.cl=(k:Int)):Calls prog 48 #[.pointer (some ⟨hb,0,none⟩),.int .i64 g,cA q] W fun e w'=>∃ v,e=.returned v/\GB W w' v (iP x S g k (aF k)):=by
 have n4:=H.po.en.2.2.2.1;have n2:=H.po.en.2.1;obtain⟨h,o⟩:=H.so;obtain⟨hk,sp⟩:=o.si.pg _ k hc;have hm:=o.mem hc;have b:=cV hk;have hz:=cM hk;have hg:g+1<=1024:=by omega
 clear o h sp;have K0:=aA ((kz W).alloc (aO q));have X0:=aA (nH W (aO q));have CL:=aA (fun W'=>BW k hk q hq W');have AD:=aA (fun W' (k:Kt nO W W')=>tW (H.dk k) g (by omega));have l:=aA (fun W' (k:Kt nO W W')=>tW (H.dk k) (g+1) hg);have SZ:=aA (fun j (u:j<aF k)=>ziJ H hc u);have CB:=aA (fun W' (k:Kt nO W W')=>(H.dk k).c);have X:=aA (fun j=>And.intro (tA x S g k j) (show iP x S g k (j + 1)=if j∈S.fl g then iP x S g k j else iP x S g k j ++ [(aM x g k j,aB k)] from rfl));have cj:∀ j,aM x g k j=x.bS+4096*g+j*aB k:=fun j=>rfl
 have A:∀ j,j<=aF k->j*aB k<=4096:=fun j u=>by rw[<-b.1];exact ak _ u
 have R:∀ j,(j+1)*aB k=j*aB k+aB k:=fun j=>by rw[av,aL]
 have K:=aA (fun j=>cj j);have D:=aA (fun j (u:j<=aF k)=>A j u);have Y:=aA R;obtain⟨C,y⟩:∃ a,a=x.bS+4096*(g+1):=⟨_,rfl⟩;obtain⟨E,r⟩:∃ a,a=x.bS+4096*g:=⟨_,rfl⟩;rw[<-y] at l;rw[<-r] at AD K;have U:C=E+4096:=by rw[y,r];exact YO x.bS g
 have a6:C<=9223372036854775808:=by omega
 obtain⟨N,hN⟩:=xe (aF k);obtain⟨z,m⟩:=xe (aB k);have NZ:=aA (show N*z=4096 by rw[hN,m];exact b.1);rw[<-hN] at SZ D b ⊢;rw[<-m] at CL X K D Y hz b;have a9:N<=256:=b.2.2;obtain⟨f,hf⟩:=xe (iP x S g k);rw[<-hf] at X ⊢;have f0:f 0=[]:=by rw[hf];rfl
 have HH:=aA H;clear H n4 n2 hm hq hc cj A R r y hN m b hf hk;go_enter func48,ntmps48;obtain⟨x0,x1,x2,x3,x4,x5,x6,x7,x8,x9,a2⟩:=iR X0.o;go_wp2_with fail;refine(CL.o _).mono ?_;rintro e w1 ⟨rfl,I⟩;have K1:=aA (nT K0.o I);clear I x0 x1 x2 x3 x4 x5 x6 x7 x8 x9 a2 X0 K0;go_wp2_with fail;refine(AD.o _ K1.o).mono ?_;rintro e w2 ⟨rfl,h2⟩;replace h2:=h2.symm;subst h2;go_wp2_with fail;have HA:=aA U;clear U;obtain⟨g1,Q⟩:=xe (g+1);rw[<-Q] at l hg;have b1:(g:Int)+1=(g1:Int):=by omega
 clear Q;go_loopw [7,9] (fun c p V=>∃ j:Nat,j<=N/\p=.int .u64 ((E+j*z:Nat):Int)/\Hd (GB W V c (f j))) (fun _ p _=>C-(intOf p).toNat)
 case atStart=>exact⟨0,az _,by rw[Nat.zero_mul,Nat.add_zero],aA (by rw[f0];exact GS.nil _ _ _ _ K1.o)⟩
 case round=>
  clear K1 AD f0;obtain⟨j,u,rfl,J⟩:=hrel;have a7:=(X.o j).1;have A:=D.o j u;have A1:=aA (l.o _ J.o.kp);have U:=HA.o;by_cases i:j<N
  ·have R:=Y.o j;have T:=D.o (j+1) i;obtain⟨zz,z1,z2,z3,d⟩:=SZ.o j i;have d:=aA d;rw[K.o j] at d;have F:=(X.o j).2;rw[K.o j] at F;obtain⟨c0,c2,c3,c4,c5,c6⟩:=CB.o _ J.o.kp;rw[R] at T;obtain⟨p,hp⟩:=xe (E+j*z);obtain⟨Z,G⟩:∃ p,p=E+(j+1)*z:=⟨_,rfl⟩;rw[<-hp] at d F ⊢;have a3:(p:Int)<C:=(by omega);have b0:(p:Int)+(z:Int)=Z:=(by omega);have a5:Z<=C:=(by omega);have a8:p<Z:=(by omega);have PP:=aA (show Z=E+(j+1)*z from G);clear A T R hp G D Y U HA;go_wp2_with fail;refine A1.o.mono ?_;rintro e w3 ⟨rfl,n⟩;replace n:=n.symm;subst n;go_wp2_with fail;refine(d.o _ J.o.kp).mono ?_;rintro e w4 ⟨rfl,P⟩;have G4:=aA (GS.dk J.o P);clear P c0 c2 c3 c4 c5 c6;by_cases hf:j∈S.fl g
   ·rw[ae hf] at F;obtain rfl:=z1 hf;have zn:(((0:Nat):Int) != 0)=false:=rfl;go_wp2_with fail;exact⟨⟨j+1,i,by rw[<-PP.o],aA (by rw[F];exact G4.o)⟩,by simp[intOf];omega⟩
   ·rw[ac hf] at F;have zp:=z2 hf;have zn:((zz:Int) != 0)=true:=(by rw[cx];omega);obtain⟨gg,cap,w5,PU,G5,_⟩:=GB.push G4.o p z (by omega);have G5:=aA G5;have a4:=aA PU;clear PU;go_wp2_with (at_builtin;refine Lib.wpList_append_run _ rfl _ _ _ _ rfl _ (.slice (some ⟨w4.heap.size,0,none⟩) 1 1) rfl rfl _ _ (a4.o _) ?_)
    exact⟨⟨j+1,i,by rw[<-PP.o],aA (by rw[F];exact G5.o)⟩,by simp[intOf];omega⟩
  ·obtain rfl:j=N:=(by omega);rw[NZ.o] at A ⊢;obtain⟨p,hp⟩:=xe (E+4096);rw[<-hp];have a3:¬(p:Int)<C:=(by omega);clear hp U HA A NZ D Y K;go_wp2_with fail;refine A1.o.mono ?_;rintro e w3 ⟨rfl,n⟩;replace n:=n.symm;subst n;go_wp2_with fail;go_ret;exact⟨_,rfl,J.o⟩
end
def pgL(x:Bx)(t:Bt)(S:Sb)(i:Nat):List (Nat×Nat):=match S.c i with
 | some k=>iP x S i k (aF k)
 | none=>if (t.m.pg i).kd=2 then [(x.bS+4096*i,4096*2 ^ (t.m.pg i).od.toNat)] else []
def iX(x:Bx)(t:Bt)(S:Sb):Nat->List (Nat×Nat)
 | 0=>[]
 | i + 1=>iX x t S i ++ pgL x t S i
inductive Lv8(x:Bx)(S:Sb)(q:Pg)(i:Nat)(l:List (Nat×Nat)):Prop where
 | none (hq:q.kd=0\/q.kd=1\/q.kd=3) (h1:l=[])
 | head (k:Nat) (hk:k<=8) (hq:q.kd=2) (ho:q.od=(k:Int)) (h1:l=[(x.bS+4096*i,4096*2 ^ k)])
 | fj (k:Nat) (hq:q.kd=4) (hc:S.c i=some k) (hl:q.cl=(k:Int)) (h1:l=iP x S i k (aF k))
theorem ziz{c b W W':Wd}{v:Vl}{l:List (Nat×Nat)}(h:GB c W v l)(hs:c.heap.size=b.heap.size)(k:Kt nO b W')(d:∀ y,v.ownBlock=some y->W'.heap[y]?=W.heap[y]?):GB b W' v l:=by
 refine⟨⟨h.own.1,?_⟩,fun g cap e=>by rw[<-hs];exact h.new g cap e,k⟩;rcases h.own.2 with h0|⟨g,cap,a,rfl,hb,hg,f⟩
 ·exact .inl h0
 ·exact .inr ⟨g,cap,a,rfl,hb,(d g (by simp[Value.ownBlock])).trans hg,f⟩
theorem xY{b:Array Oper}{o:Oper}{a:Act}{K:Act->Wd->Prop}{Q:Exit->Act->Wd->Prop}{E:Prop}{W f:Wd}{v u g:Vl}(e:o.guard=none) (s x:Operand) (d:o.op=.call { callee:=.builtin .append,args:=#[s,x],argTypes:=#[48,48] })(hs:a.eval s=v) (hx:a.eval x=u) (c:∀ t,(Builtin.append_ #[48,48] t #[v,u]).run prog W=.ok g f) (h:K (a.put o.dst g) f):if Region.wanted o (yielded b a.tmps)=true then Oper.wp prog o a W K Q else E:=by
 have hw:Region.wanted o (yielded b a.tmps)=true:=by simp[Region.wanted,e]
 rw[ae hw];exact Lib.wp_append_run W s x _ _ d _ _ hs hx _ _ (c _) h
section
variable {w W W':Wd} {hb sb lw:Nat} {x:Bx} {t:Bt} {fr:Nat->List Nat} {ls:List (Nat×Nat)} {S:Sb} {s:Int}
theorem HW.lk(H:HW w W hb sb lw x t fr ls S s){i:Nat}(hi:i<t.m.n):Lv8 x S (t.m.pg i) i (pgL x t S i):=by
 obtain⟨h,o⟩:=H.so;have n1:=o.po.en.1
 cases o.kind hi with
 | fj k hc=>obtain⟨b,sp⟩:=o.si.pg i k hc;exact .fj k sp.kd hc sp.cl (by unfold pgL;rw[hc])
 | big q k a hc hg c d hp=>
  have b:k<=8:=an (o.al a).1 n1;by_cases e:i=q;·rw[ae e] at hp;refine .head k b (by rw[hp];rfl) (by rw[hp];rfl) ?_;unfold pgL;rw[hg,hp];rfl
  ·rw[ac e] at hp;refine .none (.inr (.inr (by rw[hp];rfl))) ?_;unfold pgL;rw[hg,hp];rfl
 | free q j a f hg c d hp=>
  by_cases e:i=q;·rw[ae e] at hp;refine .none (.inl (by rw[hp];rfl)) ?_;unfold pgL;rw[hg,hp];rfl
  ·rw[ac e] at hp;refine .none (.inr (.inl (by rw[hp];rfl))) ?_;unfold pgL;rw[hg,hp];rfl
theorem HW.mw(H:HW w W hb sb lw x t fr ls S s):∀ i,i<=t.m.n->(iX x t S i).length<=i*256
 | 0,_=>aj _
 | i+1,hi=>by
  have a:=H.mw i (by omega);have d:(pgL x t S i).length<=256:=by
   cases H.lk (i:=i) (by omega)with
   | none hq a=>rw[a];decide
   | head k c hq b a=>rw[a];exact(by decide : 1<=256)
   | fj k hq hc hl a=>obtain⟨h,o⟩:=H.so;rw[a];exact an (tA x S i k _) (cV (o.si.pg i k hc).1).2.2
  unfold iX;rw[ei];omega
theorem vK(H:HW w W hb sb lw x t fr ls S 0):Calls prog 14 #[.pointer (some ⟨hb,0,none⟩)] W fun e g=>∃ v,e=.returned v/\GB W g v (iX x t S t.m.n):=by
 have n2:=H.po.en.2.1;have LK:=aA H.lock;have C:=aA H.in;have SB:=aA (fun i (hi:i<=t.m.n)=>H.mw i hi);have SK:=aA (fun i (hi:i<t.m.n)=>H.lk hi);have sL:=aA (fun i=>show iX x t S (i + 1)=iX x t S i ++ pgL x t S i from rfl);have a3:(eI W hb).heap.size=W.heap.size:=by simp
 obtain⟨n,hn⟩:=xe (t.m.n);have HH:=aA H;have HN:=aA hn;have z0:iX x t S 0=[]:=rfl;rw[<-hn] at n2 SB SK ⊢;obtain⟨f,hf⟩:=xe (iX x t S);rw[<-hf] at SB sL z0 ⊢;have AD:=aA (fun i (hi:i<n) W' (k:Kt nO (eI W hb) W')=>tW (C.o.dk k) i (by omega));have CH:=aA (fun i k (hc:S.c i=some k) (q:Pg) (hq:q.cl=(k:Int)) W' (kk:Kt nO (eI W hb) W')=>YN (C.o.dk kk) hc q hq);clear H hn hf;go_enter_defers func14,ntmps14;go_wp2_with fail;refine LK.o.mono ?_;rintro e w1 ⟨rfl,rfl⟩;have Q:=aA (bR C.o.po.pl);have N:=aA (BG C.o.po);rw[<-HN.o] at N;obtain⟨c0,c2,c3,c4,c5,c6⟩:=C.o.c;go_wp2_with fail;refine Q.o.mono ?_;rintro e w4 ⟨rfl,j⟩;replace j:=j.symm;subst j;go_wp2_with fail;refine N.o.mono ?_;rintro e w4 ⟨rfl,j⟩;replace j:=j.symm;subst j;clear Q N c0 c2 c3 c4 c5 c6;go_wp2_with fail;go_loopw [3,22] (fun v c V=>∃ i:Nat,i<=n/\c=.int .i64 i/\Hd (GB (eI W hb) V v (f i))) (fun _ c _=>n-(intOf c).toNat)
 case atStart=>exact⟨0,az _,rfl,aA (by rw[z0];exact GS.nil _ _ _ _ (kz _))⟩
 case round=>
  rename_i v _;clear z0;obtain⟨i,hi,rfl,r⟩:=hrel;obtain⟨va,vc,rfl⟩:=mQ r.o.own;have p:=SB.o i hi;by_cases J:i<n
  ·have a2:(i:Int)<n:=(by omega);have G:i<t.m.n:=(by rw[<-HN.o];exact J);have Z:=aA (C.o.dk r.o.kp);have Q:=aA (bR Z.o.po.pl);have AT:=aA (jB x.m x.B t.m (i:Int) wr Z.o.po.pl.bd.mp);rw[show cL t.m (i:Int)=t.m.pg i by unfold cL;rw[ae (dN G),aa]] at AT;obtain⟨c0,c2,c3,c4,c5,c6⟩:=Z.o.c;have sk:=SK.o i J;have E:=sL.o i;have R:=aA (AD.o i J);obtain⟨m,hm⟩:=xe (x.bS+4096*i);rw[<-hm] at R;generalize t.m.pg i=q at *;go_wp2_with fail;refine Q.o.mono ?_;rintro e w4 ⟨rfl,j⟩;replace j:=j.symm;subst j;go_wp2_with fail;refine AT.o.mono ?_;rintro e w5 ⟨rfl,Y⟩;have P:=aA (GS.dk r.o (Y.alloc (aO q)));have I:=aA (nH w5 (aO q));clear Q AT Y c0 c2 c3 c4 c5 c6 r Z;go_upto_region 8 with fail;generalize w5.alloc (aO q)=w6 at *;generalize w5.heap.size=l at *;obtain⟨x0,x1,x2,x3,x4,x5,x6,x7,x8,x9,a5⟩:=iR I.o
   cases sk with
   | none hq A=>rw[A,List.append_nil] at E;have q2:(q.kd == 2)=false:=(by rw[ag];omega);have q4:(q.kd == 4)=false:=(by rw[ag];omega);clear hq;go_wp2_with fail;exact⟨⟨i+1,by omega,by simp,aA (by rw[E];exact P.o)⟩,by simp[intOf];omega⟩
   | head k hk hq ho A=>
    have q2:(q.kd == 2)=true:=(by rw[cu];exact hq);have RN:=aA (fun W'=>AI k hk q ho W');obtain⟨z,hz⟩:=xe (4096*2 ^ k);rw[<-hz] at RN A;rw[<-hm] at A;rw[A] at E;have KD:=aA ((kz w6).drew);have AL:=aA E;have U:=aA p;have XC:=aA (fun W' (kk:Kt nO w6 W')=>iR ((kk.block _ (lH I.o) id).trans I.o));have XE:=aA (fun W7 W8 (k7:Kt nO w6 W7) (k8:Kt (fun b=>(Value.slice va (f i).length vc).ownBlock=some b) W7 W8)=>iR ((k8.block _ (bg (lH I.o) k7.size) (fun e=>by obtain⟨cs,d⟩:=vB P.o.own e;rw[I.o] at d;simp at d)).trans ((k7.block _ (lH I.o) id).trans I.o)))
    have a1:=aA (show(f i).length<=4000000 by omega);have A6:=aA (R.o _ (nT P.o.kp KD.o));clear hq ho hk hz A E hm p G;go_wp2_with fail;refine wp_region_noPanic ?_;obtain⟨d0,d1,d2,d3,d4,d5,d6,d7,d8,d9,a7⟩:=XC.o _ KD.o;go_region_held3 (fun g=>g.cell? ⟨l,0,none⟩=some (.int .i64 q.kd)/\g.cell? ⟨l,1,none⟩=some (.int .i64 q.od)/\g.cell? ⟨l,2,none⟩=some (.int .i64 q.cl)/\g.cell? ⟨l,3,none⟩=some (.int .i64 q.lv)/\g.cell? ⟨l,4,none⟩=some (.int .i64 q.nx)/\g.cell? ⟨l,5,none⟩=some (.int .i64 q.pv)/\g.cell? ⟨l,6,none⟩=some (.int .i64 q.fs)/\g.cell? ⟨l,7,none⟩=some (.int .u64 q.b0)/\g.cell? ⟨l,8,none⟩=some (.int .u64 q.b1)/\g.cell? ⟨l,9,none⟩=some (.int .u64 q.b2)/\g.cell? ⟨l,10,none⟩=some (.int .u64 q.b3)) ((refine⟨?_,?_,?_,?_,?_,?_,?_,?_,?_,?_,?_⟩ <;> with_reducible assumption)) (first
     | (go_at_call 46;(with_reducible refine A6.o.mono ?_);rintro e w7 ⟨rfl,h7⟩;replace h7:=h7.symm;subst h7)
     | (go_at_call 47;(with_reducible refine(RN.o _).mono ?_);rintro e w7 ⟨rfl,T⟩;have K7:=aA (nT KD.o T);obtain⟨v0,v1,v2,v3,v4,v5,v6,v7,v8,v9,v10⟩:=XC.o _ K7.o;obtain⟨b0,b1,b2,b3,b4,b5,b6,b7,b8,b9,a6⟩:=XC.o _ (K7.o.alloc (bY m z));obtain⟨gg,cap,w8,a,F,K8⟩:=GB.push (GS.dk P.o K7.o) m z (a1.o);obtain⟨e0,e1,e2,e3,e4,e5,e6,e7,e8,e9,a4⟩:=XE.o _ _ K7.o K8;clear T K8;have F:=aA F;replace a:=aA a)
     | (refine xY rfl (.tmp 41) (.tmp 48) rfl rfl rfl a.o ?_)
     | fail)
    all_goals
     refine NoPanic.normal ?_;go_wp2_with fail;exact⟨⟨i+1,by omega,by simp,aA (by rw[AL.o];exact F.o)⟩,by simp[intOf];omega⟩
   | fj k hq hc hl A=>
    have q2:(q.kd == 2)=false:=(by rw[ag];omega);have q4:(q.kd == 4)=true:=(by rw[cu];exact hq);rw[A] at E;have AL:=aA E;have U:=aA p;have C6:=aA (CH.o i k hc q hl _ P.o.kp);have X:(iP x S i k (aF k)).length<=256:=by obtain⟨h,o⟩:=C.o.so;exact an (tA x S i k _) (cV (o.si.pg i k hc).1).2.2
    have a0:=aA X;clear hq hc hl A E hm p G X;go_wp2_with fail;refine C6.o.mono ?_;rintro e w7 ⟨u,rfl,hu⟩;have G7:=aA (GS.dk P.o hu.kp);obtain⟨v8,w8,a,F,_⟩:=GB.jn G7.o hu.own (by have:=U.o;omega) (by have:=a0.o;omega);have a:=aA a;have F:=aA F;clear hu;go_wp2_with (at_builtin;refine Lib.wpList_append_run _ rfl _ _ _ _ rfl _ _ rfl rfl _ _ (a.o _) ?_)
    exact⟨⟨i+1,by omega,by simp,aA (by rw[AL.o];exact F.o)⟩,by simp[intOf];omega⟩
  ·obtain rfl:i=n:=(by omega);have a2:¬(i:Int)<i:=(by omega);have H9:=aA (C.o.dk r.o.kp);go_wp2_with fail;have UL:=aA (H9.o.unlock .returning);have D:=aA (show GB W (eJ wr hb) (.slice va (f i).length vc) (f i)from by
    refine ziz r.o a3 (HH.o.round (K:=nO) id r.o.kp H9.o rfl rfl rfl) (fun y hy=>(H9.o.set 0).2.block _ ?_ ?_);·obtain⟨cs,d⟩:=vB r.o.own hy;exact lH d
    ·intro e;subst e;obtain⟨cs,d⟩:=vB r.o.own hy;rw[H9.o.bx] at d;simp at d)
   refine dm (f:=30) (args:=#[.pointer (some ⟨hb,0,none⟩)]) (by simp) (by simp[go_sem]) ?_;refine UL.o.mono ?_;rintro e u' w3 ⟨rfl,rfl,rfl⟩;exact⟨_,by simp[results,results14,go_sem],_,rfl,D.o⟩
end
section
variable {x:Bx} {t:Bt} {fr:Nat->List Nat} {B:Nat->Nat->Nat->Prop} {S:Sb} {L:Nat}
theorem St0.gl(h:St0 x t fr B S L){i k:Nat}(hc:S.c i=some k):∀ j,j<=aF k->W.gl x.bS i (aB k) (W.wsP (t.m.pg i)) j=iP x S i k j
 | 0,_=>rfl
 | j+1,a=>by
  have b:=cV (h.si.pg i k hc).1;show(if aE (W.wsP (t.m.pg i)) j=true then W.gl x.bS i (aB k) (W.wsP (t.m.pg i)) j ++ [(x.bS + i*4096 + j*aB k,aB k)] else W.gl x.bS i (aB k) (W.wsP (t.m.pg i)) j)=(if j∈S.fl i then iP x S i k j else iP x S i k j ++ [(aM x i k j,aB k)])
  rw[h.bits hc j (by omega),h.gl hc j (by omega)];by_cases e:j∈S.fl i;·rw[ae e,ac (by simp[e])]
  ·rw[ac e,ae (af ⟨by omega,e⟩)];unfold aM;rw[aq i 4096]
theorem St0.ig(h:St0 x t fr B S L){i:Nat}(hi:i<t.m.n):W.ig (bN x t S L) i=pgL x t S i:=by
 unfold W.ig;show(if (t.m.pg i).kd=2 then [(x.bS+i*4096,4096*2 ^ (t.m.pg i).od.toNat)] else if (t.m.pg i).kd=4 then W.gl x.bS i (16*2 ^ (t.m.pg i).cl.toNat) (W.wsP (t.m.pg i)) (W.celN9 (t.m.pg i).cl.toNat) else [])=pgL x t S i
 unfold pgL;rcases h.ew hi with ⟨k,a,f,b,c⟩|⟨a,g,p,k,hb,f,b,c,d⟩
 ·rw[a,b.kd,ac (by decide),ae rfl,b.cl,aa];exact h.gl a (aF k) (aj _)
 ·rw[a];show _=(if (t.m.pg i).kd=2 then [(x.bS+4096*i,4096*2 ^ (t.m.pg i).od.toNat)] else [])
  by_cases e:(t.m.pg i).kd=2;·rw[ae e,ae e,aq i 4096]
  ·rw[ac e,ac e,ac];rw[d];show ¬(if i=p then (g:Int) else (g:Int)+1)=4
   split <;> omega
theorem St0.gy(h:St0 x t fr B S L):∀ j,j<=t.m.n->W.gy (bN x t S L) j=iX x t S j
 | 0,_=>rfl
 | j+1,a=>by
  show W.gy (bN x t S L) j ++ W.ig (bN x t S L) j=iX x t S j ++ pgL x t S j
  rw[h.gy j (by omega),h.ig (by omega)]
theorem St0.ey(h:St0 x t fr B S L):W.ey (bN x t S L)=iX x t S t.m.n:=by unfold W.ey;rw[ae (by rw[h.sound])];exact h.gy _ (aj _)
end
theorem gc{w:Wd}{b c n:Nat}{ws:List Nat}(h:SetAt w b c n ws){j:Nat}(e:n<=j):aE ws j=false:=by
 unfold aE;by_cases hl:j/64<ws.length;·have a:=h.ok (j/64) hl;have d : 2 ^ (min 64 (n-64*(j/64)))<=2 ^ (j%64):=bj (by decide) (by omega);rw[Nat.div_eq_of_lt (bg a d)];rfl
 ·rw[ai,dj (by omega)];simp
section
variable {w Wo:Wd} {hb sb lw:Nat} {x:Bx} {t:Bt} {fr:Nat->List Nat} {ls:List (Nat×Nat)} {S:Sb} {s:Int}
theorem HW.mr(H:HW w Wo hb sb lw x t fr ls S s)(may:M.mayB x.bS (x.dl:Int) (x.o:Int)=true):∃ B,St0 x t fr B S x.dl:=by
 obtain⟨h,o⟩:=H.so;have a:=o.sw.pl.bd;obtain⟨B,sd,n9,hL⟩:=o.sf;obtain⟨r,v,y⟩:=a.sp.kn;have hR:=a.hR;have l:=o.st;have Q:=ax x.o;have A:t.m.n=r*2 ^ x.o:=by
  have e:t.m.n*4096=r*2 ^ x.o*4096:=by rw[l,v,hR,aq 4096,cy]
  exact Nat.eq_of_mul_eq_mul_right (by decide) e
 have u:∀ (me:∀ i,i<t.m.n->W.PgIn (t.m.pg i)),St0 x t fr B S x.dl:=fun me=>⟨sd,n9,l,o.si,H.lv,may,by rw[A,dh _ Q];exact y,fun k V j E=>gc (a.mp.set k (by rw[a.mo];exact V)) E,me⟩
 have n1:=sd.n1;have ok:=a.mp.ok;refine⟨B,u fun i hi=>?_⟩;obtain⟨Z,Y,X,q4,P,J,N,F⟩:=ok i hi;have q:(-9223372036854775808<=(t.m.pg i).kd/\(t.m.pg i).kd<=9223372036854775807)/\(-9223372036854775808<=(t.m.pg i).lv/\(t.m.pg i).lv<=9223372036854775807)/\(-9223372036854775808<=(t.m.pg i).nx/\(t.m.pg i).nx<=9223372036854775807)/\(-9223372036854775808<=(t.m.pg i).pv/\(t.m.pg i).pv<=9223372036854775807)/\(-9223372036854775808<=(t.m.pg i).fs/\(t.m.pg i).fs<=9223372036854775807):=by
  cases e:S.c i with
  | some k=>
   obtain⟨d,f⟩:=o.si.pg i k e;have A:=cV d;have z:∀ r,r∈S.pl k->r<t.m.n:=fun r b=>(o.mem ((o.si.pm k d r).1 b).1).2.1
   have hf:(-1:Int)<=bB (S.fl i)/\bB (S.fl i)<=255:=by
    rcases pA (S.fl i)with e|⟨r,e,b⟩
    ·omega
    ·have:=(o.si.fl i k (by assumption)).2.1 r b;omega
   have hx:(-1:Int)<=bE (S.pl k) i/\bE (S.pl k) i<=(t.m.n:Int)-1:=by
    rcases lZ (S.pl k) i (o.si.pn k d)with e|⟨r,e,b,-⟩
    ·omega
    ·have:=z r b;omega
   have hy:(-1:Int)<=bH (S.pl k) i/\bH (S.pl k) i<=(t.m.n:Int)-1:=by
    rcases nN (S.pl k) i (o.si.pn k d)with e|⟨r,e,b,-⟩
    ·omega
    ·have:=z r b;omega
   rw[f.kd,f.lv,f.nx,f.pv,f.fs];refine⟨?_,?_,?_,?_,?_⟩ <;> omega
  | none=>
   obtain⟨g,p,k,hb,C,d⟩:=sd.cv i hi;have K:g≠9:=fun e=>n9 p k (e▸hb)
   have G:=sd.tg g p k hb;have hp:=sd.pg g p k hb K i C d;rw[o.si.eP,iU e,ej] at hp;rw[hp];simp only[aT];refine⟨?_,?_,?_,?_,?_⟩ <;> (try split) <;> omega
 obtain⟨D,R,I,T,U⟩:=q;exact⟨D,⟨by omega,by omega⟩,⟨by omega,by omega⟩,R,I,T,U,P,J,N,F⟩
end
end Go.Proofs.YtfmgnljlkdmndaaGreatDoor
