import Derived.Test.YtfmgnljlkdmndaaGreatDoorXv
set_option maxRecDepth 1000000
set_option maxHeartbeats 0
namespace Go.Proofs.YtfmgnljlkdmndaaGreatDoor
open Tryz RowKit
set_option linter.unusedVariables false
def nB(w:Wd)(g q:Nat)(hs:List Nat):Prop:=∀ i,i<hs.length->w.cell? ⟨g,q+i,none⟩=some (.int .u64 ((hs.getD i 0:Nat):Int))
theorem nB.dk{w W:Wd}{g q:Nat}{hs:List Nat}(h:nB w g q hs)(k:Kt nO w W):nB W g q hs:=fun i hi=>k.cell (fun x=>x) (h i hi)
theorem QL(bS s m N:Nat)(dl o:Int)(hN : 1<=N)(V:N<=9)(hs:List Nat)(hl:hs.length=N)(eN:∀ i,hs.getD i 0<18446744073709551616)(F z t:Nat)(w:Wd)(J:nB w F z hs):Calls prog 103 #[fF bS dl o,.pointer (some ⟨s,0,none⟩),.pointer (some ⟨m,0,none⟩),.slice (some ⟨F,z,none⟩) N t] w fun e T=>∃ b,e=.returned (.pointer (some ⟨b,0,none⟩))/\lC w T b bS s m N (fun i=>hs.getD i 0):=by
 have P:=aA J;have Q:=aA hl;have B:=aA eN;have I:=aA (show Ov w ((w.alloc (cK bS dl o)).alloc (uO bS s m (.slice none 0 0))) (w.heap.size+1) bS s m 0 (.slice none 0 0) (fun _=>0) (fun i=>hs.getD i 0)from
  ⟨mB w _ _,World.ownsRow_nil _ _ _ _,.inl ⟨rfl,rfl⟩,fun j u=>absurd u (by omega),fun i j hi=>absurd hi (by omega),fun j u=>absurd u (by omega),by omega,((kz w).alloc _).alloc _⟩)
 clear J hl eN;go_enter func103,ntmps103;go_wp2_with fail;go_loopw [20] (fun i W=>∃ k:Nat,k<=N/\i=.int .i64 k/\Hd (∃ v L,Ov w W (w.heap.size+1) bS s m k v L (fun i=>hs.getD i 0))) (fun i _=>N-(intOf i).toNat)
 case atStart=>exact⟨0,by omega,rfl,⟨_,_,I.o⟩⟩
 case round=>
  clear I;obtain⟨k,hk,rfl,hR⟩:=hrel;obtain⟨v,L,hR⟩:=hR.o;have d:=aA hR;have c3:wr.cell? ⟨w.heap.size+1,3,none⟩=some v:=by simp[World.cell?,hR.hb]
  have kp:=hR.kp;clear hR;by_cases E:k<N
  ·have y:(k:Int)<N:=(by omega);obtain⟨hd,a⟩:=xe (hs.getD k 0);have S:wr.cell? ⟨F,z+k,none⟩=some (.int .u64 hd):=by
    rw[a];exact kp.cell (fun x=>x) (P.o k (by rw[Q.o];exact E))
   have f:hd<18446744073709551616:=(by rw[a];exact B.o k);have A:=aA a;clear a kp;go_wp2_with fail;go_region_law (first|(refine LZ rfl 29 30 rfl (w.heap.size+1) s hd f v c3 rfl rfl ?_;intro r c G l c3;have l:=aA (nT (kz wr).drew l.o);have C:=((kz r).alloc (.cells #[.pointer (some ⟨c,0,none⟩)] 135)).cell (fun x=>x) c3)|(refine LT rfl (.tmp 28) (.tmp 32) rfl v _ k c (w.heap.size+1) _ _ _ ((d.o.pl.kept l.o (fun _ _ x=>x)).kept ((kz r).alloc _) (fun _ _ x=>x)) (by simp) (by omega) (((l.o.alloc _).block (w.heap.size+1) (lH d.o.hb) (fun x=>x)).trans d.o.hb) ⟨r.heap.size,0,none⟩ 1 rfl rfl (by rw[Addr.add_lit];exact qL _ _ _) ?_;intro X n R p K Y))
   all_goals
    have q:=aA (d.o.next (A.o▸(G.o.1.dk (fJ ((kz r).alloc _)))) G.o.2 (l.o.alloc _) p.o);generalize U:R.setCell ⟨w.heap.size+1,3,none⟩ (.slice (some ⟨X,0,none⟩) (k+1) n)=Z at q;clear U p K Y C c3;go_wp2_with fail;exact⟨⟨k+1,by omega,by simp,⟨_,_,q.o⟩⟩,by simp[intOf];omega⟩
  ·have y:¬(k:Int)<N:=(by omega);have D:=aA (show lC w wr (w.heap.size+1) bS s m N (fun i=>hs.getD i 0)from by
    have e:k=N:=(by omega);have h:=d.o;rw[e] at h;rcases h.vs with ⟨_,h0⟩|⟨g,cap,h0,hg⟩
    ·omega
    ·rw[h0] at h;exact⟨g,cap,L,h,hg⟩)
   clear d kp;go_wp2_with fail;go_ret;exact⟨_,rfl,D.o⟩
theorem XK(bS s m o:Nat)(dl:Int)(D:o<=8)(hs:List Nat)(hl:hs.length=o+1)(eN:∀ i,hs.getD i 0<18446744073709551616)(q g a:Nat)(w:Wd)(z:nB w q g hs):Calls prog 98 #[fF bS dl (o:Int),.pointer (some ⟨s,0,none⟩),.pointer (some ⟨m,0,none⟩),.slice (some ⟨q,g,none⟩) (o+1) a] w fun e C=>∃ b,e=.returned (.tuple #[.pointer (some ⟨b,0,none⟩),.int .i64 0])/\lC w C b bS s m (o+1) (fun i=>hs.getD i 0):=by
 have k:=aA ((kz w).alloc (cK bS dl (o:Int)));have h:=aA (nH w (cK bS dl (o:Int)));have v:=aA (z.dk k.o);have r:=aA hl;have l:=aA eN;clear z hl eN;obtain⟨N,y⟩:=xe (o+1);have c:(o:Int)+1=(N:Int):=by omega
 rw[<-y] at r ⊢;have u:=aA (fun W=>LR bS dl o D W);rw[c] at u;have n:N<=9:=by omega
 have f : 1<=N:=by omega
 clear c y;go_enter func98,ntmps98;go_wp2_with fail;generalize w.alloc (cK bS dl (o:Int))=J at *;refine(u.o _).mono ?_;rintro e p ⟨rfl,d⟩;have B:=aA (nT k.o d);have j:=aA ((d.block _ (lH h.o) (fun x=>x)).trans h.o);have E:=aA (v.o.dk d);clear d h v k;have G:p.cell? ⟨w.heap.size,0,none⟩=some (.int .u64 bS):=by simp[World.cell?,j.o]
 have F:p.cell? ⟨w.heap.size,1,none⟩=some (.int .i64 dl):=by simp[World.cell?,j.o]
 have K:p.cell? ⟨w.heap.size,2,none⟩=some (.int .i64 o):=by simp[World.cell?,j.o]
 go_wp2_with fail;refine(QL bS s m N dl (o:Int) f n hs r.o l.o q g a _ E.o).mono ?_;rintro e I ⟨b,rfl,t⟩;have A:=aA (t.bS B.o);clear t;go_wp2_with fail;exact⟨rfl,.tuple #[.pointer (some ⟨b,0,none⟩),.int .i64 0],by simp[results,results98,go_sem],b,rfl,A.o⟩
end Go.Proofs.YtfmgnljlkdmndaaGreatDoor
