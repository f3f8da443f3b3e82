import Derived.Test.YtfmgnljlkdmndaaGreatDoorXj
set_option maxRecDepth 1000000
set_option maxHeartbeats 80000000
namespace Go.Proofs.YtfmgnljlkdmndaaGreatDoor
open Tryz
open Go.RowKit
set_option linter.unusedVariables false
def nD(w:World)(g q:Nat)(hs:List Nat):Prop:=∀ i,i<hs.length->w.cell? ⟨g,q+i,none⟩=some (.int .u64 ((hs.getD i 0:Nat):Int))
theorem nD.keep{w W:World}{g q:Nat}{hs:List Nat}(h:nD w g q hs)(k:Kt nO w W):nD W g q hs:=fun i hi=>k.cell (fun x=>x) (h i hi)
theorem TD(bS s m N:Nat)(lim o:Int)(Z : 1<=N)(S:N<=9)(hs:List Nat)(hl:hs.length=N)(h64:∀ i,hs.getD i 0<18446744073709551616)(E t F:Nat)(w:World)(I:nD w E t hs):
  Calls prog 103 #[dM bS lim o,.pointer (some ⟨s,0,none⟩),.pointer (some ⟨m,0,none⟩),.slice (some ⟨E,t,none⟩) N F] w fun e Y=>∃ b,e=.returned (.pointer (some ⟨b,0,none⟩))/\lD w Y b bS s m N (fun i=>hs.getD i 0):=by
 have U:=aA I;have T:=aA hl;have B:=aA h64;have J:=aA (show Ov w ((w.alloc (bJ bS lim o)).alloc (uL bS s m (.slice none 0 0))) (w.heap.size+1) bS s m 0 (.slice none 0 0) (fun _=>0) (fun i=>hs.getD i 0)from
  ⟨mU w _ _,World.ownsRow_nil _ _ _ _,.inl ⟨rfl,rfl⟩,fun j z=>absurd z (by omega),fun i j hi=>absurd hi (by omega),fun j z=>absurd z (by omega),by omega,((Kt.refl nO w).alloc _).alloc _⟩)
 clear I hl h64;go_enter func103,ntmps103;go_wp2_with fail;go_loopw [20] (fun i W=>∃ k:Nat,k<=N/\i=.int .i64 k/\Hd (∃ v L,Ov w W (w.heap.size+1) bS s m k v L (fun i=>hs.getD i 0))) (fun i _=>N-(intOf i).toNat)
 case atStart=>exact⟨0,by omega,rfl,⟨_,_,J.o⟩⟩
 case round=>
  clear J;obtain⟨k,hk,rfl,hR⟩:=hrel;obtain⟨v,L,hR⟩:=hR.o;have d:=aA hR;have c3:wr.cell? ⟨w.heap.size+1,3,none⟩=some v:=by simp[World.cell?,hR.hb]
  have kp:=hR.kp;clear hR;by_cases y:k<N
  ·have C:(k:Int)<N:=(by omega);obtain⟨hd,a⟩:=xe (hs.getD k 0);have Q:wr.cell? ⟨E,t+k,none⟩=some (.int .u64 hd):=by
    rw[a];exact kp.cell (fun x=>x) (U.o k (by rw[T.o];exact y))
   have l:hd<18446744073709551616:=(by rw[a];exact B.o k);have u:=aA a;clear a kp;go_wp2_with fail;go_region_law (first|(refine KV rfl 29 30 rfl (w.heap.size+1) s hd l v c3 rfl rfl ?_;intro r c G n c3;have n:=aA (nT (Kt.refl nO wr).drew n.o);have A:=((Kt.refl nO r).alloc (.cells #[.pointer (some ⟨c,0,none⟩)] 135)).cell (fun x=>x) c3)|(refine JZ rfl (.tmp 28) (.tmp 32) rfl v _ k c (w.heap.size+1) _ _ _ ((d.o.pl.kept n.o (fun _ _ x=>x)).kept ((Kt.refl nO r).alloc _) (fun _ _ x=>x)) (by simp) (by omega) (((n.o.alloc _).block (w.heap.size+1) (lH d.o.hb) (fun x=>x)).trans d.o.hb) ⟨r.heap.size,0,none⟩ 1 rfl rfl (by rw[Addr.add_lit];exact qJ _ _ _) ?_;intro P p R f V X))
   all_goals
    have q:=aA (d.o.next (u.o▸(G.o.1.keep (fL ((Kt.refl nO r).alloc _)))) G.o.2 (n.o.alloc _) f.o);generalize K:R.setCell ⟨w.heap.size+1,3,none⟩ (.slice (some ⟨P,0,none⟩) (k+1) p)=W4 at q;clear K f V X A c3;go_wp2_with fail;exact⟨⟨k+1,by omega,by simp,⟨_,_,q.o⟩⟩,by simp[intOf];omega⟩
  ·have C:¬(k:Int)<N:=(by omega);have D:=aA (show lD w wr (w.heap.size+1) bS s m N (fun i=>hs.getD i 0)from by
    have e:k=N:=(by omega);have h:=d.o;rw[e] at h;rcases h.vs with ⟨_,h0⟩|⟨g,cap,h0,hg⟩
    ·omega
    ·rw[h0] at h;exact⟨g,cap,L,h,hg⟩)
   clear d kp;go_wp2_with fail;go_ret;exact⟨_,rfl,D.o⟩
theorem UO(bS s m o:Nat)(lim:Int)(A:o<=8)(hs:List Nat)(hl:hs.length=o+1)(h64:∀ i,hs.getD i 0<18446744073709551616)(q f c:Nat)(w:World)(v:nD w q f hs):
  Calls prog 98 #[dM bS lim (o:Int),.pointer (some ⟨s,0,none⟩),.pointer (some ⟨m,0,none⟩),.slice (some ⟨q,f,none⟩) (o+1) c] w fun e E=>∃ b,e=.returned (.tuple #[.pointer (some ⟨b,0,none⟩),.int .i64 0])/\lD w E b bS s m (o+1) (fun i=>hs.getD i 0):=by
 have p:=aA ((Kt.refl nO w).alloc (bJ bS lim (o:Int)));have n:=aA (nH w (bJ bS lim (o:Int)));have y:=aA (v.keep p.o);have u:=aA hl;have k:=aA h64;clear v hl h64;obtain⟨N,t⟩:=xe (o+1);have a:(o:Int)+1=(N:Int):=by omega
 rw[<-t] at u ⊢;have r:=aA (fun W=>JY bS lim o A W);rw[a] at r;have h:N<=9:=by omega
 have l : 1<=N:=by omega
 clear a t;go_enter func98,ntmps98;go_wp2_with fail;generalize w.alloc (bJ bS lim (o:Int))=F at *;refine(r.o _).mono ?_;rintro e j ⟨rfl,d⟩;have B:=aA (nT p.o d);have g:=aA ((d.block _ (lH n.o) (fun x=>x)).trans n.o);have C:=aA (y.o.keep d);clear d n y p;have G:j.cell? ⟨w.heap.size,0,none⟩=some (.int .u64 bS):=by simp[World.cell?,g.o]
 have J:j.cell? ⟨w.heap.size,1,none⟩=some (.int .i64 lim):=by simp[World.cell?,g.o]
 have I:j.cell? ⟨w.heap.size,2,none⟩=some (.int .i64 o):=by simp[World.cell?,g.o]
 go_wp2_with fail;refine(TD bS s m N lim (o:Int) l h hs u.o k.o q f c _ C.o).mono ?_;rintro e K ⟨b,rfl,z⟩;have D:=aA (z.bS B.o);clear z;go_wp2_with fail;exact⟨rfl,.tuple #[.pointer (some ⟨b,0,none⟩),.int .i64 0],by simp[results,results98,go_sem],b,rfl,D.o⟩
end Go.Proofs.YtfmgnljlkdmndaaGreatDoor
