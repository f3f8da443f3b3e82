import Derived.Test.YtfmgnljlkdmndaaGreatDoorZd
set_option maxRecDepth 1000000
set_option maxHeartbeats 0
namespace Go.Proofs.YtfmgnljlkdmndaaGreatDoor
open Tryz RowKit
set_option linter.unusedVariables false
def fZ(x lo hi:Int):Int:=min (max x lo) hi
theorem zkh(x lo hi:Int)(w:Wd):Calls prog 205 #[.int .i64 x,.int .i64 lo,.int .i64 hi] w fun e a=>e=.returned (.int .i64 (fZ x lo hi))/\a=w:=by
 by_cases c:x<lo
 ·by_cases b:hi<lo
  all_goals
   go_enter func205,ntmps205;go_wp2_with fail;go_ret;exact⟨dX (by unfold fZ;omega),rfl⟩
 ·by_cases b:hi<x
  all_goals
   go_enter func205,ntmps205;go_wp2_with fail;go_ret;exact⟨dX (by unfold fZ;omega),rfl⟩
theorem jP{w:Wd}{z y i:Nat}{v:Vl}(u0 u1 u2 u3 u4 u5 u6 u7 u8 u9 u10:Vl)(hz:z≠y)(h:w.cell? ⟨z,i,none⟩=some v):(((((((((((w.setCell ⟨y,0,none⟩ u0).setCell ⟨y,1,none⟩ u1).setCell ⟨y,2,none⟩ u2).setCell ⟨y,3,none⟩ u3).setCell ⟨y,4,none⟩ u4).setCell ⟨y,5,none⟩ u5).setCell ⟨y,6,none⟩ u6).setCell ⟨y,7,none⟩ u7).setCell ⟨y,8,none⟩ u8).setCell ⟨y,9,none⟩ u9).setCell ⟨y,10,none⟩ u10).drew.cell? ⟨z,i,none⟩=some v:=
 Kt.cell ((((((((((((Kt.refl (fun x=>x=y) w).setCell (p:=⟨y,0,none⟩) rfl _).setCell (p:=⟨y,1,none⟩) rfl _).setCell (p:=⟨y,2,none⟩) rfl _).setCell (p:=⟨y,3,none⟩) rfl _).setCell (p:=⟨y,4,none⟩) rfl _).setCell (p:=⟨y,5,none⟩) rfl _).setCell (p:=⟨y,6,none⟩) rfl _).setCell (p:=⟨y,7,none⟩) rfl _).setCell (p:=⟨y,8,none⟩) rfl _).setCell (p:=⟨y,9,none⟩) rfl _).setCell (p:=⟨y,10,none⟩) rfl _).drew (fun e=>hz e) h
def lT(m:Mp)(p:Pg):Pg:={ p with kd:=fZ p.kd 0 4,od:=fZ p.od 0 m.o,cl:=fZ p.cl 0 7,lv:=fZ p.lv 0 256,nx:=fZ p.nx (-1) ((m.n:Int)-1),pv:=fZ p.pv (-1) ((m.n:Int)-1),fs:=fZ p.fs (-1) 255 }
theorem zgM(b:Nat)(B:Bs)(m:Mp)(p:Pg)(w:Wd)(h:MpA w b B m):Calls prog 153 #[.pointer (some ⟨b,0,none⟩),cA p] w fun e c=>e=.returned (cA (lT m p))/\Kt nO w c:=by
 obtain⟨cq,c0,c1,c2⟩:=h.cb;have E:b<w.heap.size:=h.fa b (.inl rfl);have D:b≠w.heap.size:=by omega
 have A:b≠w.heap.size+1:=by omega
 have U:=h.n1;have T:=aA h;have CP:=aA (show lT m p={ p with kd:=fZ p.kd 0 4,od:=fZ p.od 0 m.o,cl:=fZ p.cl 0 7,lv:=fZ p.lv 0 256,nx:=fZ p.nx (-1) ((m.n:Int)-1),pv:=fZ p.pv (-1) ((m.n:Int)-1),fs:=fZ p.fs (-1) 255 } from rfl);clear h;go_enter func153,ntmps153;go_wp2_with fail;obtain⟨W,s⟩:=xe ((w.alloc (.cells #[.int .i64 p.kd,.int .i64 p.od,.int .i64 p.cl,.int .i64 p.lv,.int .i64 p.nx,.int .i64 p.pv,.int .i64 p.fs,.int .u64 p.b0,.int .u64 p.b1,.int .u64 p.b2,.int .u64 p.b3] 97)).alloc (.cells #[.int .i64 0,.int .i64 0,.int .i64 0,.int .i64 0,.int .i64 0,.int .i64 0,.int .i64 0,.int .u64 0,.int .u64 0,.int .u64 0,.int .u64 0] 97));have KW:=aA (show Kt nO w W by rw[s];exact((kz w).alloc _).alloc _);have XP:=aA (show W.heap[w.heap.size]?=some (aO p)by rw[s];exact(Below.heap_alloc _ _ _ (by simp)).trans (nH w _));have XR:=aA (show W.heap[w.heap.size+1]?=some (aO aU)by rw[s];exact mB w _ _);rw[<-s];clear s E D A c1 c2;have c0:=KW.o.cell (fun x=>x) c0;obtain⟨J,I,Q,R,G,N,P,S,L,K,f⟩:=iR XP.o;obtain⟨y0,Y,y2,V,y4,X,y6,y7,y8,Z,C⟩:=iR XR.o;have z:=oE XR.o;have i:W.drew.cell? ⟨b,0,none⟩=some (.int .i64 m.o):=c0;have k:=show W.drew.cell? ⟨w.heap.size,0,none⟩=_ from J
 have j:=show W.drew.cell? ⟨w.heap.size,1,none⟩=_ from I
 have u:=show W.drew.cell? ⟨w.heap.size,2,none⟩=_ from Q
 have q:=show W.drew.cell? ⟨w.heap.size,3,none⟩=_ from R
 have y:=show W.drew.cell? ⟨w.heap.size,4,none⟩=_ from G
 have v:=show W.drew.cell? ⟨w.heap.size,5,none⟩=_ from N
 have l:=show W.drew.cell? ⟨w.heap.size,6,none⟩=_ from P
 have r:=show W.drew.cell? ⟨w.heap.size,7,none⟩=_ from S
 have g:=show W.drew.cell? ⟨w.heap.size,8,none⟩=_ from L
 have t:=show W.drew.cell? ⟨w.heap.size,9,none⟩=_ from K
 have d:=show W.drew.cell? ⟨w.heap.size,10,none⟩=_ from f
 have F:b≠w.heap.size+1:=by have:=T.o.fa b (.inl rfl);omega
 have a:w.heap.size≠w.heap.size+1:=by omega
 go_region_held3 (fun c=>c.cell? ⟨b,0,none⟩=some (.int .i64 m.o)/\c.cell? ⟨w.heap.size,0,none⟩=some (.int .i64 p.kd)/\c.cell? ⟨w.heap.size,1,none⟩=some (.int .i64 p.od)/\c.cell? ⟨w.heap.size,2,none⟩=some (.int .i64 p.cl)/\c.cell? ⟨w.heap.size,3,none⟩=some (.int .i64 p.lv)/\c.cell? ⟨w.heap.size,4,none⟩=some (.int .i64 p.nx)/\c.cell? ⟨w.heap.size,5,none⟩=some (.int .i64 p.pv)/\c.cell? ⟨w.heap.size,6,none⟩=some (.int .i64 p.fs)/\c.cell? ⟨w.heap.size,7,none⟩=some (.int .u64 p.b0)/\c.cell? ⟨w.heap.size,8,none⟩=some (.int .u64 p.b1)/\c.cell? ⟨w.heap.size,9,none⟩=some (.int .u64 p.b2)/\c.cell? ⟨w.heap.size,10,none⟩=some (.int .u64 p.b3)) (first|with_reducible assumption|with_reducible exact⟨i,k,j,u,q,y,v,l,r,g,t,d⟩|with_reducible exact⟨jP _ _ _ _ _ _ _ _ _ _ _ F c0,jP _ _ _ _ _ _ _ _ _ _ _ a J,jP _ _ _ _ _ _ _ _ _ _ _ a I,jP _ _ _ _ _ _ _ _ _ _ _ a Q,jP _ _ _ _ _ _ _ _ _ _ _ a R,jP _ _ _ _ _ _ _ _ _ _ _ a G,jP _ _ _ _ _ _ _ _ _ _ _ a N,jP _ _ _ _ _ _ _ _ _ _ _ a P,jP _ _ _ _ _ _ _ _ _ _ _ a S,jP _ _ _ _ _ _ _ _ _ _ _ a L,jP _ _ _ _ _ _ _ _ _ _ _ a K,jP _ _ _ _ _ _ _ _ _ _ _ a f⟩) ((go_at_call 205;refine(zkh _ _ _ _).mono ?_;rintro e w1 ⟨rfl,rfl⟩))
 all_goals
  clear i k j u q y v l r g t d;go_wp2_with fail;exact⟨rfl,cA (lT m p),by simp[results,results153,go_sem,lT,y0,Y,y2,V,y4,X,y6,y7,y8,Z,C],rfl,(xD KW.o (w.heap.size+1) (fun h=>absurd h (by omega)) (lT m p)).drew⟩
end Go.Proofs.YtfmgnljlkdmndaaGreatDoor
