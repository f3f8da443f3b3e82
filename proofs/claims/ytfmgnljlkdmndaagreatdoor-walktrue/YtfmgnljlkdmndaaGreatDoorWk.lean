import Derived.Test.YtfmgnljlkdmndaaGreatDoorZb
set_option maxRecDepth 1000000
set_option maxHeartbeats 80000000
namespace Go.Proofs.YtfmgnljlkdmndaaGreatDoor
open Tryz
open Go.RowKit
set_option linter.unusedVariables false
def gB(x lo hi:Int):Int:=min (max x lo) hi
theorem zjZ(x lo hi:Int)(w:World):
  Calls prog 205 #[.int .i64 x,.int .i64 lo,.int .i64 hi] w fun e b=>e=.returned (.int .i64 (gB x lo hi))/\b=w:=by
 by_cases c:x<lo
 ·by_cases a:hi<lo
  all_goals
   go_enter func205,ntmps205;go_wp2_with fail;go_ret;exact⟨dZ (by unfold gB;omega),rfl⟩
 ·by_cases a:hi<x
  all_goals
   go_enter func205,ntmps205;go_wp2_with fail;go_ret;exact⟨dZ (by unfold gB;omega),rfl⟩
theorem jP{w:World}{z y i:Nat}{v:Value}(u0 u1 u2 u3 u4 u5 u6 u7 u8 u9 u10:Value)(hz:z≠y)(h:w.cell? ⟨z,i,none⟩=some v):(((((((((((w.setCell ⟨y,0,none⟩ u0).setCell ⟨y,1,none⟩ u1).setCell ⟨y,2,none⟩ u2).setCell ⟨y,3,none⟩ u3).setCell ⟨y,4,none⟩ u4).setCell ⟨y,5,none⟩ u5).setCell ⟨y,6,none⟩ u6).setCell ⟨y,7,none⟩ u7).setCell ⟨y,8,none⟩ u8).setCell ⟨y,9,none⟩ u9).setCell ⟨y,10,none⟩ u10).drew.cell? ⟨z,i,none⟩=some v:=
 Kt.cell ((((((((((((Kt.refl (fun x=>x=y) w).setCell (p:=⟨y,0,none⟩) rfl _).setCell (p:=⟨y,1,none⟩) rfl _).setCell (p:=⟨y,2,none⟩) rfl _).setCell (p:=⟨y,3,none⟩) rfl _).setCell (p:=⟨y,4,none⟩) rfl _).setCell (p:=⟨y,5,none⟩) rfl _).setCell (p:=⟨y,6,none⟩) rfl _).setCell (p:=⟨y,7,none⟩) rfl _).setCell (p:=⟨y,8,none⟩) rfl _).setCell (p:=⟨y,9,none⟩) rfl _).setCell (p:=⟨y,10,none⟩) rfl _).drew (fun e=>hz e) h
def lU(m:Mp)(p:Pg):Pg:={ p with kd:=gB p.kd 0 4,od:=gB p.od 0 m.o,cl:=gB p.cl 0 7,lv:=gB p.lv 0 256,nx:=gB p.nx (-1) ((m.n:Int)-1),pv:=gB p.pv (-1) ((m.n:Int)-1),fs:=gB p.fs (-1) 255 }
theorem zgI(b:Nat)(B:Bs)(m:Mp)(p:Pg)(w:World)(h:MpA w b B m):
  Calls prog 153 #[.pointer (some ⟨b,0,none⟩),cD p] w fun e c=>e=.returned (cD (lU m p))/\Kt nO w c:=by
 obtain⟨cq,c0,c1,c2⟩:=h.cb;have E:b<w.heap.size:=h.own_lt b (.inl rfl);have D:b≠w.heap.size:=by omega
 have C:b≠w.heap.size+1:=by omega
 have U:=h.n1;have X:=aA h;have CP:=aA (show lU m p={ p with kd:=gB p.kd 0 4,od:=gB p.od 0 m.o,cl:=gB p.cl 0 7,lv:=gB p.lv 0 256,nx:=gB p.nx (-1) ((m.n:Int)-1),pv:=gB p.pv (-1) ((m.n:Int)-1),fs:=gB p.fs (-1) 255 } from rfl);clear h;go_enter func153,ntmps153;go_wp2_with fail;obtain⟨W,l⟩:=xe ((w.alloc (.cells #[.int .i64 p.kd,.int .i64 p.od,.int .i64 p.cl,.int .i64 p.lv,.int .i64 p.nx,.int .i64 p.pv,.int .i64 p.fs,.int .u64 p.b0,.int .u64 p.b1,.int .u64 p.b2,.int .u64 p.b3] 97)).alloc (.cells #[.int .i64 0,.int .i64 0,.int .i64 0,.int .i64 0,.int .i64 0,.int .i64 0,.int .i64 0,.int .u64 0,.int .u64 0,.int .u64 0,.int .u64 0] 97));have KW:=aA (show Kt nO w W by rw[l];exact((Kt.refl nO w).alloc _).alloc _);have Z:=aA (show W.heap[w.heap.size]?=some (aN p)by rw[l];exact(Below.heap_alloc _ _ _ (by simp)).trans (nH w _));have XR:=aA (show W.heap[w.heap.size+1]?=some (aN aV)by rw[l];exact mU w _ _);rw[<-l];clear l E D C c1 c2;have c0:=KW.o.cell (fun x=>x) c0;obtain⟨J,R,K,P,G,N,I,S,Q,L,f⟩:=iU Z.o;obtain⟨V,y1,y2,y3,T,y5,Y,y7,y8,y9,F⟩:=iU XR.o;have z:=oE XR.o;have q:W.drew.cell? ⟨b,0,none⟩=some (.int .i64 m.o):=c0;have u:=show W.drew.cell? ⟨w.heap.size,0,none⟩=_ from J
 have s:=show W.drew.cell? ⟨w.heap.size,1,none⟩=_ from R
 have i:=show W.drew.cell? ⟨w.heap.size,2,none⟩=_ from K
 have y:=show W.drew.cell? ⟨w.heap.size,3,none⟩=_ from P
 have v:=show W.drew.cell? ⟨w.heap.size,4,none⟩=_ from G
 have j:=show W.drew.cell? ⟨w.heap.size,5,none⟩=_ from N
 have t:=show W.drew.cell? ⟨w.heap.size,6,none⟩=_ from I
 have r:=show W.drew.cell? ⟨w.heap.size,7,none⟩=_ from S
 have g:=show W.drew.cell? ⟨w.heap.size,8,none⟩=_ from Q
 have k:=show W.drew.cell? ⟨w.heap.size,9,none⟩=_ from L
 have d:=show W.drew.cell? ⟨w.heap.size,10,none⟩=_ from f
 have A:b≠w.heap.size+1:=by have:=X.o.own_lt b (.inl rfl);omega
 have a:w.heap.size≠w.heap.size+1:=by omega
 go_region_held3 (fun c=>c.cell? ⟨b,0,none⟩=some (.int .i64 m.o)/\c.cell? ⟨w.heap.size,0,none⟩=some (.int .i64 p.kd)/\c.cell? ⟨w.heap.size,1,none⟩=some (.int .i64 p.od)/\c.cell? ⟨w.heap.size,2,none⟩=some (.int .i64 p.cl)/\c.cell? ⟨w.heap.size,3,none⟩=some (.int .i64 p.lv)/\c.cell? ⟨w.heap.size,4,none⟩=some (.int .i64 p.nx)/\c.cell? ⟨w.heap.size,5,none⟩=some (.int .i64 p.pv)/\c.cell? ⟨w.heap.size,6,none⟩=some (.int .i64 p.fs)/\c.cell? ⟨w.heap.size,7,none⟩=some (.int .u64 p.b0)/\c.cell? ⟨w.heap.size,8,none⟩=some (.int .u64 p.b1)/\c.cell? ⟨w.heap.size,9,none⟩=some (.int .u64 p.b2)/\c.cell? ⟨w.heap.size,10,none⟩=some (.int .u64 p.b3)) (first|with_reducible assumption|with_reducible exact⟨q,u,s,i,y,v,j,t,r,g,k,d⟩|with_reducible exact⟨jP _ _ _ _ _ _ _ _ _ _ _ A c0,jP _ _ _ _ _ _ _ _ _ _ _ a J,jP _ _ _ _ _ _ _ _ _ _ _ a R,jP _ _ _ _ _ _ _ _ _ _ _ a K,jP _ _ _ _ _ _ _ _ _ _ _ a P,jP _ _ _ _ _ _ _ _ _ _ _ a G,jP _ _ _ _ _ _ _ _ _ _ _ a N,jP _ _ _ _ _ _ _ _ _ _ _ a I,jP _ _ _ _ _ _ _ _ _ _ _ a S,jP _ _ _ _ _ _ _ _ _ _ _ a Q,jP _ _ _ _ _ _ _ _ _ _ _ a L,jP _ _ _ _ _ _ _ _ _ _ _ a f⟩) ((go_at_call 205;refine(zjZ _ _ _ _).mono ?_;rintro e w1 ⟨rfl,rfl⟩))
 all_goals
  clear q u s i y v j t r g k d;go_wp2_with fail;exact⟨rfl,cD (lU m p),by simp[results,results153,go_sem,lU,V,y1,y2,y3,T,y5,Y,y7,y8,y9,F],rfl,(xA KW.o (w.heap.size+1) (fun h=>absurd h (by omega)) (lU m p)).drew⟩
end Go.Proofs.YtfmgnljlkdmndaaGreatDoor
