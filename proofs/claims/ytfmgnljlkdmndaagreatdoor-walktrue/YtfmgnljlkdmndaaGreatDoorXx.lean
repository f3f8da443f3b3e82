import Derived.Test.YtfmgnljlkdmndaaGreatDoorXw
import Derived.Test.YtfmgnljlkdmndaaGreatDoorWf
import Derived.Test.YtfmgnljlkdmndaaGreatDoorXz
set_option maxRecDepth 1000000
set_option maxHeartbeats 80000000
namespace Go.Proofs.YtfmgnljlkdmndaaGreatDoor.W
open Tryz
open Go.RowKit
set_option linter.unusedVariables false
def XR(s:Nat)(w:World)(v:Value)(n:Nat)(T:TypeId)(N:Nat)(F:Nat->Value):Prop:=∃ b cs,s<b/\v=.slice (some ⟨b,0,none⟩) n n/\w.heap[b]?=some (.cells cs T)/\cs.size=N/\∀ j,j<N->cs[j]?=some (F j)
theorem XR.keepS{s n N:Nat}{w W:World}{v:Value}{T:TypeId}{F:Nat->Value}{S:Nat->Prop}(h:XR s w v n T N F)(d:Kt S w W)(hS:∀ b,v.ownBlock=some b->¬S b):XR s W v n T N F:=by obtain⟨b,cs,c,rfl,a,h4⟩:=h;exact⟨b,cs,c,rfl,(d.block _ (lH a) (hS b rfl)).trans a,h4⟩
theorem XR.keep{s n N:Nat}{w W:World}{v:Value}{T:TypeId}{F:Nat->Value}(h:XR s w v n T N F)(a:Kt nO w W):XR s W v n T N F:=h.keepS a fun _ _ x=>x
theorem XR.ty{s n N:Nat}{w:World}{v:Value}{T:TypeId}{F:Nat->Value}(h:XR s w v n T N F){b:Nat}(hb:v.ownBlock=some b):∃ cs,w.heap[b]?=some (.cells cs T):=by obtain⟨b,cs,c,rfl,a,h4⟩:=h;simp[Value.ownBlock] at hb;subst hb;exact⟨cs,a⟩
theorem XR.own{s n N:Nat}{w:World}{v:Value}{T:TypeId}{F:Nat->Value}(h:XR s w v n T N F){b:Nat}(hb:v.ownBlock=some b):s<b:=by obtain⟨b,cs,a,rfl,c,h4⟩:=h;simp[Value.ownBlock] at hb;subst hb;exact a
theorem XR.apart{s e n n' N g:Nat}{w:World}{v u:Value}{T U:TypeId}{F G:Nat->Value}(h:XR s w v n T N F)(k:XR e w u n' U g G)(f:T≠U){b:Nat}(hb:u.ownBlock=some b):∀ c,v.ownBlock=some c->¬c=b:=by
 rintro c hc rfl;obtain⟨c1,d⟩:=h.ty hc;obtain⟨c2,a⟩:=k.ty hb;rw[d] at a
 cases a
 exact f rfl
theorem XR.cell{s n N:Nat}{w:World}{b:Nat}{T:TypeId}{F:Nat->Value}{m c:Nat}(h:XR s w (.slice (some ⟨b,0,none⟩) m c) n T N F){j:Nat}(d:j<N):w.cell? ⟨b,j,none⟩=some (F j):=by
 obtain⟨i,cs,g,e,a,h4,f⟩:=h
 cases e
 simp[World.cell?,a,f j d]
theorem XR.frz{s n N:Nat}{w:World}{b:Nat}{T:TypeId}{F:Nat->Value}{m c:Nat}(h:XR s w (.slice (some ⟨b,0,none⟩) m c) n T N F)(j:Nat):w.frozen? ⟨b,j,none⟩=false:=by
 obtain⟨f,cs,d,e,a,h4,g⟩:=h
 cases e
 simp[World.frozen?,a]
theorem XR.put{s n N:Nat}{w:World}{b:Nat}{T:TypeId}{F:Nat->Value}{m c:Nat}(h:XR s w (.slice (some ⟨b,0,none⟩) m c) n T N F){k:Nat}(i:k<N)(x:Value):XR s (w.setCell ⟨b,k,none⟩ x) (.slice (some ⟨b,0,none⟩) m c) n T N fun j=>if j=k then x else F j:=by
 obtain⟨l,cs,d,e,f,h4,g⟩:=h
 cases e
 refine⟨_,cs.setIfInBounds k x,d,rfl,lG f x,by simpa using h4,fun j a=>?_⟩;by_cases e:j=k
 ·subst e;simp[h4,a]
 ·show _=some (if j=k then x else F j)
  rw[ac e,Array.getElem?_setIfInBounds_ne (Ne.symm e)];exact g j a
theorem XR.congr{s n N:Nat}{w:World}{v:Value}{T:TypeId}{F G:Nat->Value}(h:XR s w v n T N F)(e:∀ j,j<N->F j=G j):XR s w v n T N G:=by obtain⟨b,cs,d,c,f,h4,g⟩:=h;exact⟨b,cs,d,c,f,h4,fun j a=>(g j a).trans (by rw[e j a])⟩
structure ImOk(I:Img):Prop where
 b64:I.bS<18446744073709551616
 lim:N64 I.lim
 ord:N64 I.ord
 reg:N64 I.reg
 nm:I.nm<=9223372036854775807
 np:I.np<=9223372036854775807
 no:I.no<=9223372036854775807
 nh:I.hd.length<=9223372036854775807
 nt:I.pt.length<=9223372036854775807
 mem:∀ i,i<I.nm->I.mem i<256
 pg:∀ i,i<I.np->PgIn (I.pg i)
 pr:∀ i,i<I.no->∀ j,(I.pr i).getD j 0<2 ^ 64
 hd:∀ i,i<I.hd.length->I.hd.getD i 0<18446744073709551616
 pt:∀ i,i<I.pt.length->N64 (I.pt.getD i 0)
structure ImX(s:Nat)(w:World)(I:Img)(V:ImV)(ws:Nat->Value):Prop where
 ok:ImOk I
 m:XR s w V.m I.nm 5 I.nm fun j=>.int .u8 (I.mem j:Int)
 p:XR s w V.p I.np 97 (I.np*11) fun j=>(I.pg (j/11)).fld (j%11)
 r:XR s w V.r I.no 39 I.no ws
 u:∀ i,i<I.no->XR s w (ws i) (I.pr i).length 22 (I.pr i).length fun j=>.int .u64 (((I.pr i).getD j 0:Nat):Int)
 h:XR s w V.h I.hd.length 22 I.hd.length fun j=>.int .u64 ((I.hd.getD j 0:Nat):Int)
 t:XR s w V.t I.pt.length 3 I.pt.length fun j=>.int .i64 (I.pt.getD j 0)
theorem XR.le{s a n N:Nat}{w:World}{v:Value}{T:TypeId}{F:Nat->Value}(h:XR s w v n T N F)(e:a<=s):XR a w v n T N F:=by obtain⟨b,cs,f,c,d⟩:=h;exact⟨b,cs,by omega,c,d⟩
theorem ImX.le{s a:Nat}{w:World}{I:Img}{V:ImV}{ws:Nat->Value}(h:ImX s w I V ws)(e:a<=s):ImX a w I V ws:=
 ⟨h.ok,h.m.le e,h.p.le e,h.r.le e,fun i hi=>(h.u i hi).le e,h.h.le e,h.t.le e⟩
theorem ImX.d{s:Nat}{w:World}{I:Img}{V:ImV}{ws:Nat->Value}(h:ImX s w I V ws):ImD w I V:=by
 obtain⟨ok,z,hp,D,u,E,C⟩:=h;obtain⟨m,p,r,q,t⟩:=V;obtain⟨bm,cm,P,rfl,l,Z,v⟩:=z;obtain⟨N,cp,b1,rfl,b2,b3,y⟩:=hp;obtain⟨br,Q,c1,rfl,c2,c3,c4⟩:=D;obtain⟨U,ch,T,rfl,d,Y,A⟩:=E;obtain⟨bt,G,J,rfl,o,K,F⟩:=C;refine⟨ok.b64,ok.lim,ok.ord,ok.reg,⟨ok.nm,_,_,rfl,.inr ⟨_,_,rfl,lH l,fun i hi=>⟨ok.mem i hi,?_⟩⟩⟩,?_,⟨ok.np,_,_,rfl,.inr ⟨_,_,rfl,lH b2,fun i hi=>⟨ok.pg i hi,fun j g=>?_⟩⟩⟩,⟨ws,ok.no,_,_,rfl,.inr ⟨_,_,rfl,lH c2,fun i hi=>⟨?_,?_⟩⟩⟩,⟨ok.nh,_,_,rfl,.inr ⟨_,_,rfl,lH d,fun i hi=>⟨ok.hd i hi,?_⟩⟩⟩,⟨ok.nt,_,_,rfl,.inr ⟨_,_,rfl,lH o,fun i hi=>⟨ok.pt i hi,?_⟩⟩⟩⟩
 ·simp[World.cell?,l,v i hi]
 ·intro a n c e
  cases e
  exact aj _
 ·have:=y (i*11+j) (by omega);dsimp only at this;rw[show(i*11+j)/11=i by omega,show(i*11+j)%11=j by omega] at this;simp[World.cell?,b2,this]
 ·simp[World.cell?,c2,c4 i hi]
 ·have hx:=u i hi;obtain⟨b,cs,X,f,B,R,L⟩:=u i hi;rw[f] at hx;refine⟨ok.pr i hi,_,_,f,.inr ⟨_,rfl,lH B,fun j g=>?_⟩⟩;rw[show(⟨b,0,none⟩:Addr).add j=⟨b,j,none⟩by(unfold Addr.add;simp;intro e;exact e.symm)];exact hx.cell g
 ·simp[World.cell?,d,A i hi]
 ·simp[World.cell?,o,F i hi]
theorem mX.xr{s n N:Nat}{w:World}{v:Value}{T:TypeId}{cs:Array Value}{F:Nat->Value}(h:mX s w v n T cs)(c:cs.size=N)(e:∀ j,j<N->cs[j]?=some (F j)):XR s w v n T N F:=by obtain⟨b,a,d,f⟩:=h;exact⟨b,cs,a,d,f,c,e⟩
theorem zW:ImOk bM:=by
 refine⟨by decide,by decide,by decide,by decide,by decide,by decide,by decide,by decide,by decide,fun _ _=>Nat.zero_lt_succ _,fun i hi=>?_,fun i hi j=>?_,?_,?_⟩
 ·have:i=0\/i=1:=by have:bM.np=2:=rfl;omega
  rcases this with rfl|rfl <;> exact⟨by decide,by decide,by decide,by decide,by decide,by decide,by decide,by decide,by decide,by decide,by decide⟩
 ·show([0] : List Nat).getD j 0<_
  match j with
  | 0=>decide
  | j+1=>simp
 ·decide
 ·decide
theorem UW(n:Nat):(zb n).size=n:=by unfold zb madeCells;simp
theorem VoK.x{s:Nat}{w:World}{V:ImV}(h:VoK s w V):∃ ws,ImX s w bM V ws:=by
 obtain⟨u,b,c⟩:=h.r.2;refine⟨fun _=>u,zW,h.m.2.xr (UW 8192) fun j a=>BI 8192 j a,h.p.2.xr rfl fun j a=>?_,b.xr rfl fun j a=>?_,fun i hi=>c.2.xr rfl fun j a=>?_,h.h.2.xr rfl fun j a=>?_,h.t.2.xr rfl fun j a=>?_⟩
 ·have a:j<22:=a;rcases j with _|_|_|_|_|_|_|_|_|_|_|_|_|_|_|_|_|_|_|_|_|_|j
  all_goals first|rfl|omega
 ·have a:j<1:=a;obtain rfl:j=0:=by omega
  rfl
 ·have a:j<1:=a;obtain rfl:j=0:=by omega
  rfl
 ·have a:j<2:=a;rcases j with _|_|j
  all_goals first|rfl|omega
 ·have a:j<8:=a;rcases j with _|_|_|_|_|_|_|_|j
  all_goals first|rfl|omega
end Go.Proofs.YtfmgnljlkdmndaaGreatDoor.W
namespace Go.Proofs.YtfmgnljlkdmndaaGreatDoor
open Tryz
open Go.RowKit
set_option linter.unusedVariables false
def uM(x:Bx)(ls:List (Nat×Nat))(S:Sb)(p a z:Nat)(l:Bool):Prop:=(l=true/\a=p/\aS x ls S p z)\/(l=false/\∀ c,¬aS x ls S p c)
theorem VP(n m k:Nat)(W:World)(c:(n:Int)/16=(m:Int))(d:n<=1048576)(b:Calls prog 116 #[.int .u64 m] W fun e a=>e=.returned (.int .i64 k)/\a=W):Calls prog 108 #[.int .u64 n] W fun e a=>e=.returned (.int .i64 k)/\a=W:=by have L:=aA b;clear b;go_enter func108,ntmps108;go_wp2_with fail;refine L.o.mono ?_;rintro e f ⟨rfl,rfl⟩;go_wp2_with fail;go_ret;exact⟨rfl,rfl⟩
theorem VO(k:Nat)(c:k<8)(W:World):Calls prog 108 #[.int .u64 ((aB k:Nat):Int)] W fun e b=>e=.returned (.int .i64 k)/\b=W:=by have hp : 2 ^ k<=2 ^ 8:=bj (by decide) (by omega);have a:=pS (2 ^ k) (by omega) W;rw[oN _ (Nat.ne_of_gt (ap (by decide))),Nat.log2_two_pow] at a;exact VP _ (2 ^ k) k W (by unfold aB;omega) (by unfold aB;omega) a
theorem VN(n m k:Nat)(W:World)(c:(n:Int)/4096=(m:Int))(d:n<=1048576)(b:Calls prog 116 #[.int .u64 m] W fun e a=>e=.returned (.int .i64 k)/\a=W):Calls prog 66 #[.int .u64 n] W fun e a=>e=.returned (.int .i64 k)/\a=W:=by have L:=aA b;clear b;go_enter func66,ntmps66;go_wp2_with fail;refine L.o.mono ?_;rintro e f ⟨rfl,rfl⟩;go_wp2_with fail;go_ret;exact⟨rfl,rfl⟩
theorem sS(k:Nat)(c:k<=8)(W:World):Calls prog 66 #[.int .u64 ((4096*2 ^ k:Nat):Int)] W fun e b=>e=.returned (.int .i64 k)/\b=W:=by have hp : 2 ^ k<=2 ^ 8:=bj (by decide) (by omega);have a:=pS (2 ^ k) (by omega) W;rw[oN _ (Nat.ne_of_gt (ap (by decide))),Nat.log2_two_pow] at a;exact VN _ (2 ^ k) k W (by skip;omega) (by skip;omega) a
section
variable {w W W':World} {hb sb lw:Nat} {x:Bx} {t:Bt} {fr:Nat->List Nat} {ls:List (Nat×Nat)} {S:Sb} {s:Int}
theorem jB.st(H:HW w W hb sb lw x t fr ls S s){p a z:Nat}(h:jB x ls S p a z true):(a=p/\aS x ls S p z)\/(a≠p/\∀ c,¬aS x ls S p c):=by
 obtain⟨i,o⟩:=H.so;rcases h with ⟨_,b,f,g⟩|⟨b,_⟩
 ·by_cases e:a=p
  ·subst e;exact .inl ⟨rfl,b⟩
  ·refine .inr ⟨e,fun c hc=>?_⟩;have:=(o.span hc).1;rcases o.two b hc with ⟨d,_⟩|d|d <;> omega
 ·cases b
theorem jB.no(H:HW w W hb sb lw x t fr ls S s){p a z:Nat}(h:jB x ls S p a z false):∀ c,¬aS x ls S p c:=by
 obtain⟨d,o⟩:=H.so;rcases h with ⟨b,_⟩|⟨_,b⟩
 ·cases b
 ·intro c hc;have:=(o.span hc).1;exact b p c hc ⟨aj _,by omega⟩
theorem GK(H:HW w W hb sb lw x t fr ls S s)(p:Nat)(hp:p<18446744073709551616):
  Calls prog 63 #[.pointer (some ⟨hb,0,none⟩),.int .u64 p] W fun e F=>∃ a z l,e=.returned (.tuple #[jK a z,.bool l])/\uM x ls S p a z l/\Kt nO W F:=by
 have d:=aA ((Kt.refl nO W).alloc pF);have f:=aA (show(W.alloc pF).heap[W.heap.size]?=some (cA 0 0)from nH W pF);have j:=aA (GU (H.keep d.o) p hp);have v:=aA H;clear H;go_enter func63,ntmps63;go_wp2_with fail;refine j.o.mono ?_;rintro e q ⟨a,z,l,rfl,g,b⟩;have A:=aA (nT d.o (b.alloc (cA a z)));have C:=aA (nH q (cA a z));have G:=aA (show(q.alloc (cA a z)).heap[W.heap.size]?=some (cA 0 0)from((b.alloc (cA a z)).block _ (lH f.o) id).trans f.o);have D:=aA (fun m=>pL (A.o.drewN m) (y:=W.heap.size) (fun e=>absurd e (dc _)) (.int .u64 a) (.int .u64 z));have u:q.heap.size≠W.heap.size:=by have B:=b.size;rw[World.size_alloc] at B;omega
 obtain⟨o,n,K⟩:=fS G.o;obtain⟨L,J,N⟩:=fS C.o
 cases l with
 | true=>
  rcases jB.st v.o g with ⟨c,i⟩|⟨c,i⟩
  ·have ST:=aA (show uM x ls S p a z true from .inl ⟨rfl,c,i⟩);have E:((a:Int) == (p:Int))=true:=(by rw[co,c]);clear g c i b j d f;go_wp2_with fail;go_region
   all_goals
    go_wp2_with fail;exact⟨rfl,.tuple #[jK a z,.bool true],by simp[results,results63,go_sem,o,n],a,z,true,rfl,ST.o,D.o _⟩
  ·have ST:=aA (show uM x ls S p a z false from .inr ⟨rfl,i⟩);have E:((a:Int) == (p:Int))=false:=(by rw[ag];omega);clear g c i b j d f;go_wp2_with fail;go_region
   all_goals
    go_wp2_with fail;exact⟨rfl,.tuple #[jK a z,.bool false],by simp[results,results63,go_sem,o,n],a,z,false,rfl,ST.o,D.o _⟩
 | false=>
  have ST:=aA (show uM x ls S p a z false from .inr ⟨rfl,jB.no v.o g⟩);clear g b j d f;go_wp2_with fail;go_region
  all_goals
   go_wp2_with fail;exact⟨rfl,.tuple #[jK a z,.bool false],by simp[results,results63,go_sem,o,n],a,z,false,rfl,ST.o,D.o _⟩
def cY(o m:Nat):Bool:=decide (cl m<=12+o)
theorem vV{o m:Nat}(c : 16<=m)(h:cY o m=true):(∃ k,k<8/\2 ^ cl m=aB k)\/(∃ k,k<=o/\2 ^ cl m=4096*2 ^ k):=by
 have h:=bw h;have h4 : 4<=cl m:=by
  refine Nat.le_of_not_lt fun b=>?_
  have:=(DO m 3).2 (by omega);omega
 by_cases a:cl m<12
 ·refine .inl ⟨cl m-4,by omega,?_⟩;unfold aB;rw[show(16:Nat)=2 ^ 4 from rfl,<-Nat.pow_add];congr 1
  omega
 ·refine .inr ⟨cl m-12,by omega,?_⟩;rw[show(4096:Nat)=2 ^ 12 from rfl,<-Nat.pow_add];congr 1
  omega
end
theorem xO(W:World)(hb sz al l r L:Nat)(hs:sz<18446744073709551616)(ha:al<18446744073709551616)(m:Nat)(p:m=max (max sz al) 16)(cv c b:Int)(d:Bool)(hz:(cv=(r:Int)/\d=true/\r<18446744073709551616/\¬(L:Int)<r/\c=(r:Int)/\b=0)\/(cv=(r:Int)/\d=true/\r<18446744073709551616/\(L:Int)<r/\c=0/\b=3)\/(cv=0/\d=false/\c=0/\b=3))(c4:W.cell? ⟨hb,4,none⟩=some (.int .i64 l))(n:Hd (Calls prog 106 #[.int .u64 m] W fun e j=>e=.returned (.tuple #[.int .u64 cv,.bool d])/\j=W))(o:l<=8)(hL:(4096:Int)*2 ^ l=(L:Int))(q:L<=1048576):
  Calls prog 60 #[.pointer (some ⟨hb,0,none⟩),.int .u64 sz,.int .u64 al] W fun e j=>e=.returned (.tuple #[.int .u64 c,.int .i64 b])/\j=W:=by
 have u:((sz:Int)<al/\(al:Int)<16/\(m:Int)=16)\/((sz:Int)<al/\¬(al:Int)<16/\(m:Int)=al)\/(¬(sz:Int)<al/\(sz:Int)<16/\(m:Int)=16)\/(¬(sz:Int)<al/\¬(sz:Int)<16/\(m:Int)=sz):=by omega
 rcases u with ⟨g,f,a⟩|⟨g,f,a⟩|⟨g,f,a⟩|⟨g,f,a⟩
 all_goals
  rw[a] at n;clear a p;rcases hz with ⟨rfl,rfl,v,i,rfl,rfl⟩|⟨rfl,rfl,v,i,rfl,rfl⟩|⟨rfl,rfl,rfl,rfl⟩
  all_goals
   go_enter func60,ntmps60;go_wp2_with fail;refine n.o.mono ?_;rintro e y ⟨rfl,rfl⟩;go_wp2_with fail;go_ret2;exact⟨rfl,rfl⟩
section
variable {w W W':World} {hb sb lw:Nat} {x:Bx} {t:Bt} {fr:Nat->List Nat} {ls:List (Nat×Nat)} {S:Sb} {s:Int}
theorem xN(H:HW w W hb sb lw x t fr ls S s)(sz al:Nat)(hs:sz<18446744073709551616)(ha:al<18446744073709551616)(m:Nat)(u:m=max (max sz al) 16):
  Calls prog 60 #[.pointer (some ⟨hb,0,none⟩),.int .u64 sz,.int .u64 al] W fun e y=>e=.returned (.tuple #[.int .u64 ((if cY x.o m=true then 2 ^ cl m else 0:Nat):Int),.int .i64 (if cY x.o m=true then 0 else 3)])/\y=W:=by
 have n1:=H.po.nums.1;have c4:=H.c.2.2.2.1;have v:m<18446744073709551616:=by omega
 have l:=UE m v W;obtain⟨L,hL⟩:=xe (4096*2 ^ x.o);have i:(4096:Int)*2 ^ x.o=(L:Int):=by rw[hL];simp
 have j:L<=1048576:=by have : 2 ^ x.o<=2 ^ 8:=bj (by decide) n1;omega
 have g:L=2 ^ (12+x.o):=by rw[hL,Nat.pow_add]
 by_cases h64:cl m<64
 ·have q:lE 64 m=2 ^ cl m:=by unfold lE;rw[ae h64]
  have a:pI 64 m=true:=af h64;have f : 2 ^ cl m<18446744073709551616:=by have:=(iI (cl m) 64).2 h64;omega
  rw[q,a] at l;have b:=mM (cl m) (12+x.o);rw[<-g] at b
  cases n:cY x.o m with
  | true=>
   have d:=b.2 (bw n);rw[ae rfl,ae rfl];obtain⟨r,p⟩:=xe (2 ^ cl m);rw[<-p] at l d f ⊢;clear b q a g p n h64;exact xO W hb sz al x.o r L hs ha m u _ _ _ _ (.inl ⟨rfl,rfl,f,by omega,rfl,rfl⟩) c4 l n1 i j
  | false=>
   have d:=fun e=>of_decide_eq_false n (b.1 e)
   rw[ac (by decide),ac (by decide)];obtain⟨r,p⟩:=xe (2 ^ cl m);rw[<-p] at l d f;clear b q a g p n h64;exact xO W hb sz al x.o r L hs ha m u _ _ _ _ (.inr (.inl ⟨rfl,rfl,f,by have:=Nat.lt_of_not_le d;omega,rfl,rfl⟩)) c4 l n1 i j
 ·have q:lE 64 m=0:=by unfold lE;rw[ac h64]
  have a:pI 64 m=false:=ah h64;rw[q,a] at l;have n:cY x.o m=false:=ah (by omega);rw[n,ac (by decide),ac (by decide)];exact xO W hb sz al x.o 0 L hs ha m u _ _ _ _ (.inr (.inr ⟨rfl,rfl,rfl,rfl⟩)) c4 l n1 i j
end
theorem SO.bty8{w W sb lw x t fr ls S h}(s:SO w W sb lw x t fr ls S h){y:Nat}{cs:Array Value}{z:Nat×Nat}(hy:W.heap[y]?=some (.cells cs 73 z)):¬bN x sb y:=by
 rintro (e|e)
 ·exact absurd (s.sw.pl.pty hy (.inl e)) (by unfold Go.Proofs.YtfmgnljlkdmndaaGreatDoor.pty;decide)
 ·subst e;exact absurd (kN hy s.sw.bx) (by decide)
section
variable {w W W1 W':World} {hb sb lw:Nat} {x:Bx} {t:Bt} {fr:Nat->List Nat} {ls:List (Nat×Nat)} {S:Sb} {s:Int}
theorem Nx.from{x' t' fr' ls' S'}(k:Kt nO W W1)(h:Nx w W1 W' hb sb lw x t ls S s x' t' fr' ls' S'):Nx w W W' hb sb lw x t ls S s x' t' fr' ls' S':=
 ⟨h.H,h.ch,(k.mono (fun _ _ e=>e.elim)).trans h.kp (fun _ _ e=>e) (fun _ _ e=>e),fun y hy=>(h.ns y hy).imp id (an k.size)⟩
theorem Tq.from{r:Nat}{d:Bool}{p:Nat}{g:Int}(k:Kt nO W W1)(h:Tq w W1 hb sb lw x t fr ls S s r d p g W'):Tq w W hb sb lw x t fr ls S s r d p g W':=by
 cases h with
 | no hp he q hd kp=>exact .no hp he q hd (nT k kp)
 | yes x' j e a l b he n nx hL m o i f c=>exact .yes x' j e a l b he n (nx.from k) hL m o i f c
theorem Gq.from{p z:Nat}(k:Kt nO W W1)(h:Gq w W1 hb sb lw x t fr ls S s p z W'):Gq w W hb sb lw x t fr ls S s p z W':=by obtain⟨x',f,b,a,e,d,nx,hL,c⟩:=h;exact⟨x',f,b,a,e,d,nx.from k,hL,c⟩
theorem Tq.st{r:Nat}{d:Bool}{p:Nat}{g:Int}(H:HW w W hb sb lw x t fr ls S s)(h:Tq w W hb sb lw x t fr ls S s r d p g W'):∃ x' e c a f,HW w W' hb sb lw x' e c a f s:=by
 cases h with
 | no hp he j hd kp=>exact⟨_,_,_,_,_,H.keep kp⟩
 | yes x' e c a f b he i nx=>exact⟨_,_,_,_,_,nx.H⟩
theorem Tq.c{r:Nat}{d:Bool}{p:Nat}{e:Int}(H:HW w W hb sb lw x t fr ls S s)(h:Tq w W hb sb lw x t fr ls S s r d p e W'):W'.cell? ⟨hb,5,none⟩=some (.pointer (some ⟨lw,0,none⟩))/\W'.cell? ⟨hb,6,none⟩=some (.pointer (some ⟨sb,0,none⟩)):=by obtain⟨x',i,f,b,g,a⟩:=h.st H;exact⟨a.c.2.2.2.2.1,a.c.2.2.2.2.2⟩
theorem zf7(H:HW w W hb sb lw x t fr ls S s){k:Nat}(i:k<8)(d:Bool):
  Calls prog 61 #[.pointer (some ⟨hb,0,none⟩),.int .u64 ((aB k:Nat):Int),.bool d] W fun e b=>∃ p a,e=.returned (.tuple #[.int .u64 ((p:Nat):Int),.int .i64 a])/\Tq w W hb sb lw x t fr ls S s (aB k) d p a b:=by
 have hz:=cN i;obtain⟨c0,c2,c3,c4,c5,v⟩:=H.c;have l:=aA ((Kt.refl nO W).drew);have q:=aA (VO k i);have m:=aA (((H.keep l.o).take_small i d).mono fun e b h=>(show ∃ p g a,e=rE p g a/\Tq w W hb sb lw x t fr ls S s (aB k) d p a b from by obtain⟨p,g,a,he,f⟩:=h;exact⟨p,g,a,he,f.from l.o⟩))
 have n:=aA (fun (b:World) (p:Nat) (a:Int) (h:Tq w W hb sb lw x t fr ls S s (aB k) d p a b)=>h.c H);obtain⟨r,o⟩:=xe (aB k);rw[<-o] at hz q m n ⊢;have z:(r:Int)<4096:=by omega
 have B:W.drew.cell? ⟨hb,5,none⟩=some (.pointer (some ⟨lw,0,none⟩)):=c5;have u:W.drew.cell? ⟨hb,6,none⟩=some (.pointer (some ⟨sb,0,none⟩)):=v;clear H o i hz;go_enter func61,ntmps61;go_wp2_with fail;go_region_held3 (fun b=>b.cell? ⟨hb,6,none⟩=some (.pointer (some ⟨sb,0,none⟩))) (first|with_reducible exact u|with_reducible exact y) (first
  | (go_at_call 108;(with_reducible refine(q.o _).mono ?_);rintro e A ⟨rfl,j⟩;replace j:=j.symm;subst j)
  | (go_at_call 107;(with_reducible refine(m.o).mono ?_);rintro e C ⟨p,g,a,rfl,f⟩;have y:=(n.o _ _ _ f).2;have D:=aA f;clear f)
  | fail)
 all_goals
  go_wp2_with fail;exact⟨rfl,.tuple #[.int .u64 ((p:Nat):Int),.int .i64 a],by simp[results,results61,go_sem],p,a,rfl,D.o⟩
theorem zid(H:HW w W hb sb lw x t fr ls S s){k:Nat}(j:k<=x.o)(d:Bool):
  Calls prog 61 #[.pointer (some ⟨hb,0,none⟩),.int .u64 ((4096*2 ^ k:Nat):Int),.bool d] W fun e b=>∃ p a,e=.returned (.tuple #[.int .u64 ((p:Nat):Int),.int .i64 a])/\Tq w W hb sb lw x t fr ls S s (4096*2 ^ k) d p a b:=by
 have hz : 0<2 ^ k:=ap (by decide);have i:k<=8:=an j H.po.nums.1;obtain⟨c0,c2,c3,c4,c5,E⟩:=H.c;have m:=aA ((Kt.refl nO W).drew);have v:=aA (sS k i);have n:=aA (((H.keep m.o).need_big j d).mono fun e b h=>(show ∃ p g a,e=rE p g a/\Tq w W hb sb lw x t fr ls S s (4096*2 ^ k) d p a b from by obtain⟨p,g,a,he,f⟩:=h;exact⟨p,g,a,he,f.from m.o⟩))
 have q:=aA (fun (b:World) (p:Nat) (a:Int) (h:Tq w W hb sb lw x t fr ls S s (4096*2 ^ k) d p a b)=>h.c H);obtain⟨r,u⟩:=xe (4096*2 ^ k);have y:¬r<4096:=by omega
 rw[<-u] at v n q ⊢;have B:¬(r:Int)<4096:=by omega
 have A:W.drew.cell? ⟨hb,5,none⟩=some (.pointer (some ⟨lw,0,none⟩)):=c5;clear H u j hz i;go_enter func61,ntmps61;go_wp2_with fail;go_region_held3 (fun b=>b.cell? ⟨hb,5,none⟩=some (.pointer (some ⟨lw,0,none⟩))) (first|with_reducible exact A|with_reducible exact z) (first
  | (go_at_call 66;(with_reducible refine(v.o _).mono ?_);rintro e C ⟨rfl,l⟩;replace l:=l.symm;subst l)
  | (go_at_call 109;(with_reducible refine(n.o).mono ?_);rintro e F ⟨p,g,a,rfl,f⟩;have z:=(q.o _ _ _ f).1;have D:=aA f;clear f)
  | fail)
 all_goals
  go_wp2_with fail;exact⟨rfl,.tuple #[.int .u64 ((p:Nat):Int),.int .i64 a],by simp[results,results61,go_sem],p,a,rfl,D.o⟩
theorem uY(H:HW w W hb sb lw x t fr ls S s)(r:Nat)(c:(∃ k,k<8/\r=aB k)\/(∃ k,k<=x.o/\r=4096*2 ^ k))(d:Bool):
  Calls prog 61 #[.pointer (some ⟨hb,0,none⟩),.int .u64 r,.bool d] W fun e f=>∃ p b,e=.returned (.tuple #[.int .u64 ((p:Nat):Int),.int .i64 b])/\Tq w W hb sb lw x t fr ls S s r d p b f:=by
 rcases c with ⟨k,a,rfl⟩|⟨k,a,rfl⟩
 ·exact zf7 H a d
 ·exact zid H a d
theorem Gq.c{p z:Nat}(h:Gq w W hb sb lw x t fr ls S s p z W'):W'.cell? ⟨hb,5,none⟩=some (.pointer (some ⟨lw,0,none⟩))/\W'.cell? ⟨hb,6,none⟩=some (.pointer (some ⟨sb,0,none⟩)):=by obtain⟨x',g,b,a,f,e,nx,hL,d⟩:=h;exact⟨nx.H.c.2.2.2.2.1,nx.H.c.2.2.2.2.2⟩
theorem Gq.box{p z y a c:Nat}(H:HW w W hb sb lw x t fr ls S s)(h:Gq w W hb sb lw x t fr ls S s p z W')(hy:W.heap[y]?=some (cA a c)):W'.heap[y]?=some (cA a c):=by obtain⟨g,o⟩:=H.so;obtain⟨x',e,d,b,f,i,nx,hL,j⟩:=h;exact(nx.kp.block _ (lH hy) (o.bty8 hy)).trans hy
theorem zgG(H:HW w W hb sb lw x t fr ls S s){p g k i:Nat}(j:iZ x S p g k i):
  Calls prog 64 #[.pointer (some ⟨hb,0,none⟩),jK p (aB k)] W fun e a=>e=.returned (.int .i64 0)/\Gq w W hb sb lw x t fr ls S s p (aB k) a:=by
 have m:k<8:=by obtain⟨J,o⟩:=H.so;exact(o.si.pg g k j.1).1
 have hz:=cN m;have d:=aA ((Kt.refl nO W).alloc (cA p (aB k)));have b:=aA (nT d.o (Kt.refl nO _).drew);have f:=aA (show(W.alloc (cA p (aB k))).drew.heap[W.heap.size]?=some (cA p (aB k))from nH W (cA p (aB k)));obtain⟨c0,c2,c3,c4,c5,A⟩:=(H.keep d.o).c;obtain⟨k0,P,K,L,E,v⟩:=(H.keep b.o).c;obtain⟨l,y,G⟩:=fS f.o;obtain⟨C,z,N⟩:=fS (show(W.alloc (cA p (aB k))).heap[W.heap.size]?=some (cA p (aB k))from nH W (cA p (aB k)));have n:=aA (((H.keep b.o).give_cell j).mono fun e a h=>(show e=.returned (.int .i64 0)/\Gq w W hb sb lw x t fr ls S s p (aB k) a/\(a.cell? ⟨hb,6,none⟩=some (.pointer (some ⟨sb,0,none⟩))/\a.cell? ⟨W.heap.size,0,none⟩=some (.int .u64 p))from
  ⟨h.1,h.2.from b.o,h.2.c.2,(fS (h.2.box (H.keep b.o) f.o)).1⟩))
 obtain⟨r,u⟩:=xe (aB k);rw[<-u] at hz d b f c5 A E v l y C z n ⊢;have F:(r:Int)<4096:=by omega
 clear H u m hz j;go_enter func64,ntmps64;go_wp2_with fail;go_region_held3 (fun a=>a.cell? ⟨hb,6,none⟩=some (.pointer (some ⟨sb,0,none⟩))/\a.cell? ⟨W.heap.size,0,none⟩=some (.int .u64 p)) (first|with_reducible exact⟨v,l⟩|with_reducible exact B) (first
  | (go_at_call 112;(with_reducible refine(n.o).mono ?_);rintro e Q ⟨rfl,q,B⟩;have D:=aA q;clear q)
  | fail)
 all_goals
  go_wp2_with fail;go_ret;exact⟨rfl,D.o⟩
theorem zf8(H:HW w W hb sb lw x t fr ls S s){p q k:Nat}(g:(q,k)∈ls)(hc:S.c q=none)(hp:p=ad x q):
  Calls prog 64 #[.pointer (some ⟨hb,0,none⟩),jK p (4096*2 ^ k)] W fun e a=>e=.returned (.int .i64 0)/\Gq w W hb sb lw x t fr ls S s p (4096*2 ^ k) a:=by
 have d:k<=8:=by obtain⟨N,o⟩:=H.so;exact an (o.al g).1 o.po.nums.1
 have hz : 0<2 ^ k:=ap (by decide);have y:=aA (sS k d);have i:=aA ((Kt.refl nO W).alloc (cA p (4096*2 ^ k)));have b:=aA (nT i.o (Kt.refl nO _).drew);have f:=aA (show(W.alloc (cA p (4096*2 ^ k))).drew.heap[W.heap.size]?=some (cA p (4096*2 ^ k))from nH W (cA p (4096*2 ^ k)));obtain⟨c0,c2,c3,c4,c5,C⟩:=(H.keep i.o).c;obtain⟨k0,T,P,Q,v,G⟩:=(H.keep b.o).c;obtain⟨m,l,L⟩:=fS f.o;obtain⟨F,B,R⟩:=fS (show(W.alloc (cA p (4096*2 ^ k))).heap[W.heap.size]?=some (cA p (4096*2 ^ k))from nH W (cA p (4096*2 ^ k)));have z:=aA (((H.keep b.o).give_pages g hc hp).mono fun e a h=>(show e=.returned (.int .i64 0)/\Gq w W hb sb lw x t fr ls S s p (4096*2 ^ k) a/\(a.cell? ⟨hb,5,none⟩=some (.pointer (some ⟨lw,0,none⟩))/\a.cell? ⟨W.heap.size,0,none⟩=some (.int .u64 p)/\a.cell? ⟨W.heap.size,1,none⟩=some (.int .u64 ((4096*2 ^ k:Nat):Int)))from
  ⟨h.1,h.2.from b.o,h.2.c.1,(fS (h.2.box (H.keep b.o) f.o)).1,(fS (h.2.box (H.keep b.o) f.o)).2.1⟩))
 obtain⟨r,u⟩:=xe (4096*2 ^ k);have A:¬r<4096:=by omega
 rw[<-u] at y i b f c5 C v G m l F B z ⊢;have J:¬(r:Int)<4096:=by omega
 clear H u hz g hc hp d;go_enter func64,ntmps64;go_wp2_with fail;go_region_held3 (fun a=>a.cell? ⟨hb,5,none⟩=some (.pointer (some ⟨lw,0,none⟩))/\a.cell? ⟨W.heap.size,0,none⟩=some (.int .u64 p)/\a.cell? ⟨W.heap.size,1,none⟩=some (.int .u64 r)) (first|with_reducible exact⟨v,m,l⟩|with_reducible exact E) (first
  | (go_at_call 66;(with_reducible refine(y.o _).mono ?_);rintro e K ⟨rfl,j⟩;replace j:=j.symm;subst j)
  | (go_at_call 113;(with_reducible refine(z.o).mono ?_);rintro e U ⟨rfl,n,E⟩;have D:=aA n;clear n)
  | fail)
 all_goals
  go_wp2_with fail;go_ret;exact⟨rfl,D.o⟩
theorem AI(H:HW w W hb sb lw x t fr ls S s){p z:Nat}(hl:aS x ls S p z):
  Calls prog 64 #[.pointer (some ⟨hb,0,none⟩),jK p z] W fun e b=>e=.returned (.int .i64 0)/\Gq w W hb sb lw x t fr ls S s p z b:=by
 rcases hl with ⟨g,k,i,c,rfl⟩|⟨q,k,a,hc,hp,rfl⟩
 ·exact zgG H c
 ·exact zf8 H a hc hp
inductive Rq8(w W:World)(hb sb lw:Nat)(x:Bx)(t:Bt)(fr:Nat->List Nat)(ls:List (Nat×Nat))(S:Sb)(s:Int)(m:Nat)(d:Bool)(p:Nat)(er:Int)(w':World):Prop where
 | big (ho:cY x.o m=false) (hp:p=0) (he:er=3) (kp:Kt nO W w')
 | ok (ho:cY x.o m=true) (hT:Tq w W hb sb lw x t fr ls S s (2 ^ cl m) d p er w')
theorem Rq8.st{m d p er}(H:HW w W hb sb lw x t fr ls S s)(h:Rq8 w W hb sb lw x t fr ls S s m d p er W'):∃ x' f b a e,HW w W' hb sb lw x' f b a e s:=by
 cases h with
 | big g hp he kp=>exact⟨_,_,_,_,_,H.keep kp⟩
 | ok g c=>exact c.st H
theorem xK(H:HW w W hb sb lw x t fr ls S s)(sz al:Nat)(hs:sz<18446744073709551616)(ha:al<18446744073709551616)(d:Bool)(m:Nat)(g:m=max (max sz al) 16):
  Calls prog 57 #[.pointer (some ⟨hb,0,none⟩),.int .u64 sz,.int .u64 al,.bool d] W fun e i=>∃ p a,e=.returned (.tuple #[.int .u64 ((p:Nat):Int),.int .i64 a])/\Rq8 w W hb sb lw x t fr ls S s m d p a i:=by
 have c:=aA (xN H sz al hs ha m g);have q:=aA H
 cases ho:cY x.o m with
 | false=>
  rw[ho] at c;rw[ac (by decide),ac (by decide)] at c;have D:=aA (show Rq8 w W hb sb lw x t fr ls S s m d 0 3 W from .big ho rfl rfl (Kt.refl _ _));clear H ho g;go_enter func57,ntmps57;go_wp2_with fail;refine c.o.mono ?_;rintro e l ⟨rfl,b⟩;replace b:=b.symm;subst b;go_wp2_with fail;exact⟨rfl,.tuple #[.int .u64 ((0:Nat):Int),.int .i64 3],by simp[results,results57,go_sem],0,3,rfl,D.o⟩
 | true=>
  rw[ho] at c;rw[ae rfl,ae rfl] at c;have j:=aA ((uY H (2 ^ cl m) (vV (by omega) ho) d).mono fun e i h=>(show ∃ p a,e=.returned (.tuple #[.int .u64 ((p:Nat):Int),.int .i64 a])/\Rq8 w W hb sb lw x t fr ls S s m d p a i from by obtain⟨p,a,he,f⟩:=h;exact⟨p,a,he,.ok ho f⟩))
  generalize 2 ^ cl m=r at *;clear H ho g;go_enter func57,ntmps57;go_wp2_with fail;refine c.o.mono ?_;rintro e l ⟨rfl,b⟩;replace b:=b.symm;subst b;go_wp2_with fail;refine j.o.mono ?_;rintro e n ⟨p,a,rfl,f⟩;have D:=aA f;clear f;go_wp2_with fail;exact⟨rfl,.tuple #[.int .u64 ((p:Nat):Int),.int .i64 a],by simp[results,results57,go_sem],p,a,rfl,D.o⟩
end
open Go.MuLone
abbrev eQ(W:World)(hb:Nat):World:=W.setCell ⟨hb,0,none⟩ (.int .i32 1)
abbrev eS(W:World)(hb:Nat):World:=W.setCell ⟨hb,0,none⟩ (.int .i32 0)
section
variable {w W W1 W':World} {hb sb lw:Nat} {x:Bx} {t:Bt} {fr:Nat->List Nat} {ls:List (Nat×Nat)} {S:Sb} {s:Int}
theorem HW.in(H:HW w W hb sb lw x t fr ls S 0):HW w (eQ W hb) hb sb lw x t fr ls S 1:=(H.set 1).1
theorem HW.kout(H:HW w W hb sb lw x t fr ls S 0)(k:Kt nO (eQ W hb) W'):Kt nO W (eS W' hb):=H.round id k (H.in.keep k) rfl rfl rfl
theorem Nx.o{x' t' fr' ls' S'}(H:HW w W hb sb lw x t fr ls S 0)(n:Nx w (eQ W hb) W' hb sb lw x t ls S 1 x' t' fr' ls' S'):Nx w W (eS W' hb) hb sb lw x t ls S 0 x' t' fr' ls' S':=
 ⟨(n.H.set 0).1,n.ch,H.round H.nhb n.kp n.H n.ch.bS n.ch.lim n.ch.o,fun y hy=>(n.ns y hy).imp id (fun e=>by simpa using e)⟩
theorem Tq.o{r d p er}(H:HW w W hb sb lw x t fr ls S 0)(h:Tq w (eQ W hb) hb sb lw x t fr ls S 1 r d p er W'):Tq w W hb sb lw x t fr ls S 0 r d p er (eS W' hb):=by
 cases h with
 | no hp he o hd kp=>exact .no hp he o hd (H.kout kp)
 | yes x' i e a j b he m nx hL l n g f c=>exact .yes x' i e a j b he m (nx.o H) hL l n g f c
theorem Gq.o{p z}(H:HW w W hb sb lw x t fr ls S 0)(h:Gq w (eQ W hb) hb sb lw x t fr ls S 1 p z W'):Gq w W hb sb lw x t fr ls S 0 p z (eS W' hb):=by obtain⟨x',f,b,a,e,d,nx,hL,c⟩:=h;exact⟨x',f,b,a,e,d,nx.o H,hL,c⟩
theorem Rq8.o{m d p er}(H:HW w W hb sb lw x t fr ls S 0)(h:Rq8 w (eQ W hb) hb sb lw x t fr ls S 1 m d p er W'):Rq8 w W hb sb lw x t fr ls S 0 m d p er (eS W' hb):=by
 cases h with
 | big a hp he kp=>exact .big a hp he (H.kout kp)
 | ok a b=>exact .ok a (b.o H)
theorem zkp(H:HW w W hb sb lw x t fr ls S 0)(sz:Nat)(hs:sz<18446744073709551616)(d:Bool)(m:Nat)(g:m=max sz 16):
  Calls prog 21 #[.pointer (some ⟨hb,0,none⟩),.int .u64 sz,.bool d] W fun e o=>∃ p a,e=.returned (.tuple #[.int .u64 ((p:Nat):Int),.int .i64 a])/\Rq8 w W hb sb lw x t fr ls S 0 m d p a o:=by
 have j:=aA H.lock;have RQ:=aA (xK H.in sz 1 hs (by decide) d m (by omega));have ST:=aA (fun (c:World) (p:Nat) (a:Int) (h:Rq8 w (eQ W hb) hb sb lw x t fr ls S 1 m d p a c)=>And.intro (h.st H.in) (h.o H));clear H g;go_enter_defers func21,ntmps21;go_wp2_with fail;refine j.o.mono ?_;rintro e v ⟨rfl,rfl⟩;go_wp2_with fail;refine RQ.o.mono ?_;rintro e c ⟨p,a,rfl,hq⟩;obtain⟨⟨x',q,n,l,u,b⟩,hD⟩:=ST.o _ _ _ hq;have i:=aA (b.unlock .returning);have D:=aA hD;clear hD b hq;go_wp2_with fail;refine leaves_cons (f:=30) (args:=#[.pointer (some ⟨hb,0,none⟩)]) (by simp) (by simp[go_sem]) ?_;refine i.o.mono ?_;rintro e y z ⟨rfl,rfl,rfl⟩;exact⟨_,results_tmp2 rfl _ _ _,p,a,rfl,D.o⟩
theorem zgk(H:HW w W hb sb lw x t fr ls S 0)(al sz:Nat)(ha:al<18446744073709551616)(hs:sz<18446744073709551616)(d:Bool)(hp:gJ al=false):
  Calls prog 22 #[.pointer (some ⟨hb,0,none⟩),.int .u64 al,.int .u64 sz,.bool d] W fun e i=>e=.returned (.tuple #[.int .u64 0,.int .i64 1])/\Kt nO W i:=by
 have g:=aA H.lock;have b:=aA (tX al ha (eQ W hb));rw[hp] at b;have c:=aA (H.in.unlock .returning);have D:=aA (H.kout (Kt.refl nO _));clear H hp;go_enter_defers func22,ntmps22;go_wp2_with fail;refine g.o.mono ?_;rintro e j ⟨rfl,rfl⟩;go_wp2_with fail;refine b.o.mono ?_;rintro e n ⟨rfl,a⟩;replace a:=a.symm;subst a;go_wp2_with fail;refine leaves_cons (f:=30) (args:=#[.pointer (some ⟨hb,0,none⟩)]) (by simp) (by simp[go_sem]) ?_;refine c.o.mono ?_;rintro e l m ⟨rfl,rfl,rfl⟩;exact⟨_,results_tmp2 rfl _ _ _,rfl,D.o⟩
theorem zin(H:HW w W hb sb lw x t fr ls S 0)(al sz:Nat)(ha:al<18446744073709551616)(hs:sz<18446744073709551616)(d:Bool)(hp:gJ al=true)(m:Nat)(g:m=max (max sz al) 16):
  Calls prog 22 #[.pointer (some ⟨hb,0,none⟩),.int .u64 al,.int .u64 sz,.bool d] W fun e u=>∃ p a,e=.returned (.tuple #[.int .u64 ((p:Nat):Int),.int .i64 a])/\Rq8 w W hb sb lw x t fr ls S 0 m d p a u:=by
 have n:=aA H.lock;have j:=aA (tX al ha (eQ W hb));rw[hp] at j;have RQ:=aA (xK H.in sz al hs ha d m g);have ST:=aA (fun (c:World) (p:Nat) (a:Int) (h:Rq8 w (eQ W hb) hb sb lw x t fr ls S 1 m d p a c)=>And.intro (h.st H.in) (h.o H));clear H hp g;go_enter_defers func22,ntmps22;go_wp2_with fail;refine n.o.mono ?_;rintro e z ⟨rfl,rfl⟩;go_wp2_with fail;refine j.o.mono ?_;rintro e c ⟨rfl,b⟩;replace b:=b.symm;subst b;go_wp2_with fail;refine RQ.o.mono ?_;rintro e c ⟨p,a,rfl,hq⟩;obtain⟨⟨x',v,q,o,y,i⟩,hD⟩:=ST.o _ _ _ hq;have l:=aA (i.unlock .returning);have D:=aA hD;clear hD i hq;go_wp2_with fail;refine leaves_cons (f:=30) (args:=#[.pointer (some ⟨hb,0,none⟩)]) (by simp) (by simp[go_sem]) ?_;refine l.o.mono ?_;rintro e A B ⟨rfl,rfl,rfl⟩;exact⟨_,results_tmp2 rfl _ _ _,p,a,rfl,D.o⟩
inductive Fq(w W:World)(hb sb lw:Nat)(x:Bx)(t:Bt)(fr:Nat->List Nat)(ls:List (Nat×Nat))(S:Sb)(s:Int)(p:Nat)(er:Int)(w':World):Prop where
 | nil (hp:p=0) (he:er=0) (kp:Kt nO W w')
 | bad (hp:p≠0) (hl:∀ c,¬aS x ls S p c) (he:er=1) (kp:Kt nO W w')
 | ok (z:Nat) (hp:p≠0) (hl:aS x ls S p z) (he:er=0) (hG:Gq w W hb sb lw x t fr ls S s p z w')
theorem SA(H:HW w W hb sb lw x t fr ls S 0)(p:Nat)(hp:p<18446744073709551616):
  Calls prog 26 #[.pointer (some ⟨hb,0,none⟩),.int .u64 p] W fun e K=>∃ A,e=.returned (.int .i64 A)/\Fq w W hb sb lw x t fr ls S 0 p A K:=by
 have y:=aA H.lock;have j:=aA H;by_cases h0:p=0
 ·subst h0;have d:=aA (H.in.unlock .returning);have D:=aA (show Fq w W hb sb lw x t fr ls S 0 0 0 (eS (eQ W hb) hb)from .nil rfl rfl (H.kout (Kt.refl nO _)));clear H;go_enter_defers func26,ntmps26;go_wp2_with fail;refine y.o.mono ?_;rintro e J ⟨rfl,rfl⟩;go_wp2_with fail;refine leaves_cons (f:=30) (args:=#[.pointer (some ⟨hb,0,none⟩)]) (by simp) (by simp[go_sem]) ?_;refine d.o.mono ?_;rintro e C E ⟨rfl,rfl,rfl⟩;exact⟨_,results_tmp rfl _ _ _,0,rfl,D.o⟩
 ·have N:((p:Int) == 0)=false:=by rw[ag];omega
  have P:=aA (GK H.in p hp);have F:=aA h0;clear H h0;go_enter_defers func26,ntmps26;go_wp2_with fail;refine y.o.mono ?_;rintro e J ⟨rfl,rfl⟩;go_wp2_with fail;refine P.o.mono ?_;rintro e q ⟨a,z,l,rfl,u,n⟩;have g:=aA (n.alloc (cA a z));have G:=aA (nH q (cA a z));obtain⟨U,R,V⟩:=fS G.o;rcases u with ⟨rfl,rfl,hl⟩|⟨rfl,hl⟩
  ·have Q:=aA (AI (j.o.in.keep g.o) hl);have L:=aA (fun (i:World) (h:Gq w (q.alloc (cA a z)) hb sb lw x t fr ls S 1 a z i)=>show(∃ x' m c b o,HW w i hb sb lw x' m c b o 1)/\Fq w W hb sb lw x t fr ls S 0 a 0 (eS i hb)from by
    refine⟨?_,.ok z F.o hl rfl ((h.from g.o).o j.o)⟩;obtain⟨x',m,c,b,o,T,nx,_⟩:=h;exact⟨_,_,_,_,_,nx.H⟩)
   clear hl n;go_wp2_with fail;refine Q.o.mono ?_;rintro e i ⟨rfl,v⟩;obtain⟨⟨x',m,c,b,o,B⟩,hD⟩:=L.o _ v;have d:=aA (B.unlock .returning);have D:=aA hD;clear hD B v;go_wp2_with fail;refine leaves_cons (f:=30) (args:=#[.pointer (some ⟨hb,0,none⟩)]) (by simp) (by simp[go_sem]) ?_;refine d.o.mono ?_;rintro e C E ⟨rfl,rfl,rfl⟩;exact⟨_,results_tmp rfl _ _ _,0,rfl,D.o⟩
  ·have d:=aA ((j.o.in.keep g.o).unlock .returning);have D:=aA (show Fq w W hb sb lw x t fr ls S 0 p 1 (eS (q.alloc (cA a z)) hb)from .bad F.o hl rfl (j.o.kout g.o));clear hl n;go_wp2_with fail;refine leaves_cons (f:=30) (args:=#[.pointer (some ⟨hb,0,none⟩)]) (by simp) (by simp[go_sem]) ?_;refine d.o.mono ?_;rintro e C E ⟨rfl,rfl,rfl⟩;exact⟨_,results_tmp rfl _ _ _,1,rfl,D.o⟩
end
section
variable {w W W1 W':World} {hb sb lw:Nat} {x:Bx} {t:Bt} {fr:Nat->List Nat} {ls:List (Nat×Nat)} {S:Sb} {s:Int}
theorem HW.other(H:HW w W hb sb lw x t fr ls S s){d:Nat}{cs:Array Value}{e:TypeId}{z:Nat×Nat}(hy:W.heap[d]?=some (.cells cs e z))(n:w.heap.size<=d)(j:¬Go.Proofs.YtfmgnljlkdmndaaGreatDoor.pty e)(i:e≠117)(m:e≠68)(k:Kt (fun y=>y=d) W W'):HW w W' hb sb lw x t fr ls S s:=by
 obtain⟨h,o⟩:=H.so;have c:∀ y,(aC x y\/y=x.b\/y=x.l\/y=lw)->y≠d:=fun y a e=>by subst e;exact j (o.sw.pl.pty hy a)
 have f:sb≠d:=fun e=>by subst e;exact i (kN hy o.sw.bx)
 have g:hb≠d:=fun e=>by subst e;exact m (kN hy H.bx)
 refine⟨⟨h,⟨⟨⟨(k.block _ (lH o.sw.pl.box) (c _ (.inr (.inr (.inr rfl))))).trans o.sw.pl.box,o.sw.pl.bd.kept k (fun y a=>c y ?_),o.sw.pl.nw,o.sw.pl.kp.trans k (fun _ _ e=>e) (fun y hy e=>absurd n (by rw[<-e];exact Nat.not_le.2 hy))⟩,(k.block _ (lH o.sw.bx) f).trans o.sw.bx,o.sw.nw,o.sw.tb⟩,o.sf,o.st,o.bm,o.si,o.hd⟩⟩,H.lv,(k.block _ (lH H.bx) g).trans H.bx,H.nw,H.br⟩;rcases a with a|a|a
 ·exact .inl a
 ·exact .inr (.inl a)
 ·exact .inr (.inr (.inl a))
end
section
variable {w W:World} {wb sb lw:Nat} {x:Bx} {t:Bt} {fr:Nat->List Nat} {ls:List (Nat×Nat)} {S:Sb} {h:Nat->Int}
theorem SO.wroteP{W':World}(o:SO w W sb lw x t fr ls S h){p s:Nat}(hl:aS x ls S p s){f':Nat->Nat}(hf:∀ j,¬(p<=x.bS+j/\x.bS+j<p+s)->f' j=t.f j)(hs:M.SpA W' x.s x.a x.bS x.R x.lim x.n f')(k:Kt (M.own x.s x.a) W W'):SO w W' sb lw x { t with f:=f' } fr ls S h:=by
 have kb:Kt (aC x) W W':=k.mono (fun _ _ e=>.inl e);obtain⟨_,q,j,N,L,P⟩:=o.span hl;unfold ad at L P;refine⟨⟨o.sw.pl.space0 k hs,(kb.block _ (lH o.sw.bx) (fun e=>o.sw.nsb (.inl e))).trans o.sw.bx,o.sw.nw,o.sw.tb⟩,o.sf.fill N (fun i hi=>hf i (fun e=>?_)),o.st,o.bm,⟨o.si.eP,o.si.pg,fun g c hg=>?_,o.si.lv,o.si.pn,o.si.pm⟩,o.hd⟩
 ·omega
 ·obtain⟨n1,D,J⟩:=o.si.fl g c hg;have z:=(o.si.pg g c hg).1;have hz:=cN z;have K:=o.mem hg;have V:=o.po.nums.2.2.2.1;refine⟨n1,D,oQ rfl (fun i hi=>xX fun b hb=>hf _ (fun e=>?_)) J⟩;have y:=D i hi;have T:=fV (x:=x) (p:=g) z y (by omega)
  have U:aK x g c i=x.bS+4096*g+i*aB c:=rfl;rcases hl with ⟨m,v,l,⟨l1,l2,F,rfl⟩,rfl⟩|⟨B,X,l1,l2,rfl,rfl⟩
  ·have u:=(o.si.pg m v l1).1;have Q:=o.mem l1;have C:=fV (x:=x) (p:=m) u l2 (by omega);have A:aK x m v l=x.bS+4096*m+l*aB v:=rfl;have G:m=g:=(by omega);subst G;rw[hg] at l1;injection l1 with l1
   subst l1;rcases Nat.lt_trichotomy i l with d|rfl|d
   ·have:(i+1)*aB c<=l*aB c:=ak _ d;rw[av,aL] at this;omega
   ·exact F hi
   ·have:(l+1)*aB c<=i*aB c:=ak _ d;rw[av,aL] at this;omega
  ·have E:ad x B=x.bS+4096*B:=rfl;rcases o.apart K.1 l1 with ⟨d,_⟩|d|d
   ·rw[<-d,hg] at l2;cases l2
   ·rw[Nat.pow_zero] at d;omega
   ·omega
end
section
variable {w W W1 W':World} {hb sb lw:Nat} {x:Bx} {t:Bt} {fr:Nat->List Nat} {ls:List (Nat×Nat)} {S:Sb} {s:Int}
def Wr(w W:World)(hb sb lw:Nat)(x:Bx)(t:Bt)(fr:Nat->List Nat)(ls:List (Nat×Nat))(S:Sb)(s:Int)(f':Nat->Nat)(w':World):Prop:=HW w w' hb sb lw x { t with f:=f' } fr ls S s/\Kt (bN x sb) W w'
theorem HW.wrote(H:HW w W hb sb lw x t fr ls S s){p z:Nat}(hl:aS x ls S p z){f':Nat->Nat}(hf:∀ j,¬(p<=x.bS+j/\x.bS+j<p+z)->f' j=t.f j)(hs:M.SpA W' x.s x.a x.bS x.R x.lim x.n f')(k:Kt (M.own x.s x.a) W W'):Wr w W hb sb lw x t fr ls S s f' W':=by obtain⟨h,o⟩:=H.so;have c:=o.wroteP hl hf hs k;have b:Kt (bN x sb) W W':=k.mono (fun _ _ e=>.inl (.inl e));exact⟨⟨⟨h,c⟩,H.lv,(b.block _ (lH H.bx) H.nhb).trans H.bx,H.nw,H.br⟩,b⟩
theorem Wr.from{f':Nat->Nat}(k:Kt nO W W1)(h:Wr w W1 hb sb lw x t fr ls S s f' W'):Wr w W hb sb lw x t fr ls S s f' W':=
 ⟨h.1,(k.mono (fun _ _ e=>e.elim)).trans h.2 (fun _ _ e=>e) (fun _ _ e=>e)⟩
theorem Wr.o{f':Nat->Nat}(H:HW w W hb sb lw x t fr ls S 0)(h:Wr w (eQ W hb) hb sb lw x t fr ls S 1 f' W'):Wr w W hb sb lw x t fr ls S 0 f' (eS W' hb):=
 ⟨(h.1.set 0).1,H.round H.nhb h.2 h.1 rfl rfl rfl⟩
def mY(x:Bx)(ls:List (Nat×Nat))(S:Sb)(p n:Nat)(l:Bool):Prop:=(l=true/\∃ a z,aS x ls S a z/\a<=p/\p<a+z/\p+n<=a+z)\/(l=false/\∀ a z,aS x ls S a z->¬(a<=p/\p<a+z/\p+n<=a+z))
theorem zlA(H:HW w W hb sb lw x t fr ls S s)(p n:Nat)(hp:p<18446744073709551616)(X:n<18446744073709551616):
  Calls prog 68 #[.pointer (some ⟨hb,0,none⟩),.int .u64 p,.int .u64 n] W fun e K=>∃ l,e=.returned (.bool l)/\mY x ls S p n l/\Kt nO W K:=by
 have E:=aA (GU H p hp);have Q:=aA H;clear H;go_enter func68,ntmps68;go_wp2_with fail;refine E.o.mono ?_;rintro e N ⟨a,z,l,rfl,J,g⟩;have m:=aA (g.alloc (cA a z));have F:=aA (nH N (cA a z));obtain⟨V,R,Y⟩:=fS F.o;rcases J with ⟨rfl,hl,u,j⟩|⟨rfl,hl⟩
 ·obtain⟨U,o⟩:=Q.o.so;have hi:=o.inside hl;have v:=o.po.nums.2.2.2.1;obtain⟨c,hc⟩:=xe (a+z-p);have C:(a:Int)+(z:Int)-(p:Int)=c:=by omega
  have P:IntKind.u64.wrap ((a:Int)+(z:Int))=(a:Int)+(z:Int):=by rw[wrap_u64];omega
  have T:((a:Int)+(z:Int))%18446744073709551616=(a:Int)+(z:Int):=by omega
  have B:c<18446744073709551616:=by omega
  by_cases d:n<=c
  ·have D:=aA (show mY x ls S p n true from .inl ⟨rfl,a,z,hl,u,j,by omega⟩);have G:decide ((n:Int)<=c)=true:=af (by omega);have L:decide (n<=c)=true:=af d;have q:a<9223372036854775808:=(by omega);have i:z<=9223372036854775808:=(by omega);clear hl u j o v hc hi d g;go_wp2_with fail;go_ret;exact⟨true,by simp,D.o,m.o⟩
  ·have D:=aA (show mY x ls S p n false from .inr ⟨rfl,fun b y f ⟨A,g2,g3⟩=>by
    rcases o.two hl f with ⟨C,P⟩|e|e <;> omega⟩)
   have G:decide ((n:Int)<=c)=false:=ah (by omega);have L:decide (n<=c)=false:=ah d;have q:a<9223372036854775808:=(by omega);have i:z<=9223372036854775808:=(by omega);clear hl u j o v hc hi d g;go_wp2_with fail;go_ret;exact⟨false,by simp,D.o,m.o⟩
 ·have D:=aA (show mY x ls S p n false from .inr ⟨rfl,fun b y f ⟨A,g2,g3⟩=>hl b y f ⟨A,g2⟩⟩);clear hl g;go_wp2_with fail;go_ret;exact⟨false,rfl,D.o,m.o⟩
theorem HW.wi(H:HW w W hb sb lw x t fr ls S s){p n:Nat}(h:mY x ls S p n true):∃ a z,aS x ls S a z/\a<=p/\p+n<=a+z/\M.In x.bS x.n p n:=by
 obtain⟨f,o⟩:=H.so;rcases h with ⟨_,a,z,hl,b,e,c⟩|⟨b,_⟩
 ·have hi:=o.inside hl;have d:=o.po.nums.2.2.2.1;exact⟨a,z,hl,b,c,by unfold M.In;omega⟩
 ·cases b
theorem HW.space(H:HW w W hb sb lw x t fr ls S s)(b : 0<x.n):∃ g,x.a=some g/\M.SpA W x.s (some g) x.bS x.R x.lim x.n t.f:=by have hs:=H.po.pl.bd.sp;obtain⟨g,hg⟩:=xR hs b;exact⟨g,hg,by rw[hg] at hs;exact hs⟩
theorem HW.trim(H:HW w W hb sb lw x t fr ls S s){r:Nat}(v:t.m.n=r*2 ^ x.o):
  Calls prog 59 #[.pointer (some ⟨lw,0,none⟩)] W fun e f=>e=.returned (.int .i64 ((fY x.o r fr).1:Int))/\∃ x' b,Nx w W f hb sb lw x t ls S s x' b (fY x.o r fr).2 ls S/\b.m.n=(r-(fY x.o r fr).1)*2 ^ x.o:=by
 obtain⟨h,o⟩:=H.so;refine(K.Trim_any o.po r v).mono ?_;rintro e f ⟨rfl,x',b,i,d,g,kp,nb,bk⟩;have l:=o.pool i d bk (fun a c ha=>(o.mem ha).1) kp;have p:Kt (bN x sb) W f:=kp.mono (fun _ _ e=>.inl e);have ch:Ch x t ls S x' b ls S:=⟨d.bS,d.R,d.lim,d.o,fun j u q=>bk j (o.byte u) (l.byte q)⟩;exact⟨rfl,x',b,⟨H.call l H.lv ch p,ch,p,fun y e=>e.elim (fun e=>(nb y e).imp (fun e=>.inl e) id) (fun e=>.inl (.inr e))⟩,g⟩
theorem SJ(H:HW w W hb sb lw x t fr ls S 0){r:Nat}(d:t.m.n=r*2 ^ x.o):
  Calls prog 23 #[.pointer (some ⟨hb,0,none⟩)] W fun e p=>e=.returned (.int .i64 ((fY x.o r fr).1:Int))/\∃ x' b,Nx w W p hb sb lw x t ls S 0 x' b (fY x.o r fr).2 ls S/\b.m.n=(r-(fY x.o r fr).1)*2 ^ x.o:=by
 have l:=aA H.lock;have q:=aA H;have i:=aA (H.in.trim d);obtain⟨c0,c2,c3,c4,c5,u⟩:=H.in.c;obtain⟨n,g⟩:=xe ((fY x.o r fr).1);rw[<-g] at i ⊢;clear H d g;go_enter_defers func23,ntmps23;go_wp2_with fail;refine l.o.mono ?_;rintro e v ⟨rfl,rfl⟩;go_wp2_with fail;refine i.o.mono ?_;rintro e A ⟨rfl,x',b,nx,a⟩;have j:=aA (nx.H.unlock .returning);have D:=aA (And.intro (nx.o q.o) a);clear nx a;go_wp2_with fail;refine leaves_cons (f:=30) (args:=#[.pointer (some ⟨hb,0,none⟩)]) (by simp) (by simp[go_sem]) ?_;refine j.o.mono ?_;rintro e y z ⟨rfl,rfl,rfl⟩;exact⟨_,results_tmp rfl _ _ _,rfl,x',b,D.o.1,D.o.2⟩
end
theorem GS.pushM{X W:World}{e:TypeId}{size:Nat}{v:Value}{n:Nat}{D:List Value}(h:GS X W e size v n D)(t:TypeId)(i:TypeInfo)(z:Value)(bytes:Nat)
  (Y:prog.underlying t=some (.slice e)) (hi:prog.info? e=some i) (hz:i.zero=some z) (hs:i.size=size) (L:i.bytes=bytes) (Q:z.cells.size=size) (E : 0<size)
  (a:Addr) (c m:Nat) (hm : 0<m) (d:List Value) (B:d.length=m*size) (o:∀ j u,d[j]?=some u->W.cell? (a.add j)=some u) (h1:∀ u∈d,u.oneCell'=true) (G:n+m<=maxLen) (N:(n+m)*bytes<=140737488355328):
  ∃ g cap p,(∀ U,(Builtin.append_ #[t,t] U #[v,.slice (some a) m c]).run prog W=.ok (.slice (some ⟨g,0,none⟩) (n + m) cap) p)/\GS X p e size (.slice (some ⟨g,0,none⟩) (n + m) cap) (n + m) (D ++ d)/\X.heap.size<=g/\Kt (fun b=>v.ownBlock=some b) W p/\(v.ownBlock=some g\/W.heap.size<=g):=by
 have R:=h.own;by_cases hr:∃ g cap,v=.slice (some ⟨g,0,none⟩) n cap/\n+m<=cap
 ·obtain⟨g,cap,rfl,A⟩:=hr;obtain⟨p,l,f,q⟩:=run_append_fits (P:=prog) W 0 t 0 e i size Y hi hs g n cap D R a m c d B o h1 A;have hg:=(h.new g cap rfl).resolve_left (by omega);have K:=nW q;refine⟨g,cap,p,fun U=>?_,⟨f,fun g' J e=>?_,h.kp.trans K (fun _ _ x=>x) (fun x hx e=>?_)⟩,hg,K,.inl (by simp[Value.ownBlock])⟩
  ·rw[<-l];simp[Builtin.append_]
  ·simp at e;exact .inr (by omega)
  ·cases e;omega
 ·have Z:∃ y p,(Builtin.append_ #[t,t] 0 #[v,.slice (some a) m c]).run prog W=.ok y p/\p.ownsRow W.heap.size e size y (n + m) (D ++ d)/\Kt nO W p:=by
   rcases R.2 with ⟨rfl,h0⟩|⟨g,cap,F,rfl,hb,hg,a0,a1,a2,C⟩
   ·subst h0;have:D=[]:=bq (by rw[R.1,Nat.zero_mul]);subst this;obtain⟨y,p,l,f,q,_⟩:=run_append_own (P:=prog) W W.heap.size t 0 e i z size bytes Y hi hz hs L Q E (.slice none 0 0) 0 [] (World.ownsRow_nil _ _ _ _) a m c d B o h1 G N (aj _);exact⟨y,p,l,f,(nW q).mono (fun _ _ e=>by cases e)⟩
   ·obtain⟨y,p,l,f,q⟩:=run_append_arg_grows (P:=prog) W t 0 e i z size bytes Y hi hz hs L Q E ⟨g,0,none⟩ n cap D R.1 (fun j u T=>by
     rw[Addr.add_lit,Nat.zero_add];rw[<-C,List.getElem?_take] at T;split at T
     ·simp only[World.cell?,hg];rw[<-Array.getElem?_toList,T];rfl
     ·cases T) a m c d B o (Nat.lt_of_not_le fun V=>hr ⟨g,cap,rfl,V⟩) G N
    exact⟨y,p,l,f,(nW q).mono (fun _ _ e=>by cases e)⟩
  obtain⟨y,p,l,f,K⟩:=Z;rcases f.2 with ⟨_,h0⟩|⟨g,cap,F,rfl,hb,hg,h3⟩
  ·omega
  ·refine⟨g,cap,p,fun U=>?_,⟨⟨f.1,.inr ⟨g,cap,F,rfl,az _,hg,h3⟩⟩,fun g' J e=>?_,nT h.kp K⟩,an h.kp.size hb,K.mono (fun _ _ e=>e.elim),.inr hb⟩
   ·rw[<-l];simp[Builtin.append_]
   ·simp at e;exact .inr (by have:=h.kp.size;omega)
def blV:List (Nat×Nat)->List Value
 | []=>[]
 | b :: l=>.int .u64 b.1 :: .int .u64 b.2 :: blV l
theorem nN:∀ l m:List (Nat×Nat),blV (l ++ m)=blV l ++ blV m
 | [],_=>rfl
 | b :: l,m=>by
  show _ :: _ :: blV (l ++ m)=_
  rw[nN l m];rfl
theorem qB:∀ l:List (Nat×Nat),(blV l).length=l.length*2
 | []=>rfl
 | b :: l=>by
  show(blV l).length+1+1=(l.length+1)*2
  rw[qB l];omega
theorem qA:∀ (l:List (Nat×Nat)) (u:Value),u∈blV l->u.oneCell'=true
 | b :: l,u,h=>by
  rcases List.mem_cons.1 h with rfl|h
  ·rfl
  ·rcases List.mem_cons.1 h with rfl|h
   ·rfl
   ·exact qA l u h
theorem qC:(prog.info? 73).map (fun i=>(i.zero,i.size,i.bytes))=some (some (.agg #[.int .u64 0,.int .u64 0]),2,16):=by kernel_rfl
abbrev GB(w0 W:World)(v:Value)(l:List (Nat×Nat)):Prop:=GS w0 W 73 2 v l.length (blV l)
theorem GB.push{m W:World}{v:Value}{l:List (Nat×Nat)}(h:GB m W v l)(a s:Nat)(y:l.length<=4000000):
  ∃ g cap d,(∀ t,(Builtin.append_ #[48,48] t #[v,.slice (some ⟨W.heap.size,0,none⟩) 1 1]).run prog (W.alloc (cA a s))=.ok (.slice (some ⟨g,0,none⟩) (l.length + 1) cap) d)/\GB m d (.slice (some ⟨g,0,none⟩) (l.length + 1) cap) (l ++ [(a,s)])/\Kt (fun b=>v.ownBlock=some b) W d:=by
 obtain⟨i,hi,c⟩:=Option.map_eq_some_iff.1 qC;simp only[Prod.mk.injEq] at c;have f:=(Kt.refl nO W).alloc (cA a s);obtain⟨g,cap,d,o,n,A,p,z⟩:=(GS.keep h f).pushM 48 i (.agg #[.int .u64 0,.int .u64 0]) 16 Tryz.underlying48 hi c.1 c.2.1 c.2.2 rfl (by decide) ⟨W.heap.size,0,none⟩ 1 1 (by decide) [.int .u64 a,.int .u64 s] rfl (fun j u q=>xH (cs:=#[.int .u64 a,.int .u64 s]) j u q) (by simp[Value.oneCell']) (by simp only[maxLen];omega) (by omega);refine⟨g,cap,d,o,?_,f.trans p (fun _ _ e=>e.elim) (fun _ _ e=>e)⟩;show GS _ _ _ _ _ (l ++ [(a,s)]).length (blV (l ++ [(a,s)]))
 rw[nN,List.length_append];exact n
theorem GB.pushL{B W:World}{v u:Value}{l m:List (Nat×Nat)}(h:GB B W v l)(o:W.ownsRow 0 73 2 u m.length (blV m))(T:l.length<=4000000)(R:m.length<=4000000):
  ∃ y f,(∀ t,(Builtin.append_ #[48,48] t #[v,u]).run prog W=.ok y f)/\GB B f y (l ++ m)/\Kt (fun b=>v.ownBlock=some b) W f:=by
 obtain⟨i,hi,a⟩:=Option.map_eq_some_iff.1 qC;simp only[Prod.mk.injEq] at a;rcases o.2 with ⟨rfl,h0⟩|⟨g,cap,D,rfl,hb,hg,F,N,P,c⟩
 ·obtain rfl:=bq h0;refine⟨v,W,fun t=>?_,by rw[List.append_nil];exact h,Kt.refl _ _⟩;exact run_append_owned_none W 0 48 t 73 i 2 Tryz.underlying48 hi v _ _ h.own
 ·rcases Nat.eq_zero_or_pos m.length with h0|h0
  ·obtain rfl:=bq h0;refine⟨v,W,fun t=>?_,by rw[List.append_nil];exact h,Kt.refl _ _⟩;obtain⟨K,p,rfl⟩:=mQ h.own;have n:l.length<=p:=by
    rcases h.own.2 with ⟨e,_⟩|⟨X,z,C,e,_,L,q,_⟩
    ·simp at e;omega
    ·simp at e;omega
   exact run_append_nothing W 48 48 t 73 i Tryz.underlying48 hi K l.length p n _ (Src.ofSlice W Tryz.underlying48 ⟨g,0,none⟩ 0 cap [] (by simp) (fun j u d=>by simp at d) (fun u o=>by simp at o))
  ·obtain⟨Q,A,f,G,E,V,J,U⟩:=GS.pushM h 48 i (.agg #[.int .u64 0,.int .u64 0]) 16 Tryz.underlying48 hi a.1 a.2.1 a.2.2 rfl (by decide) ⟨g,0,none⟩ cap m.length h0 (blV m) (qB m) (fun j u d=>by
     rw[Addr.add_lit,Nat.zero_add];rw[<-c,List.getElem?_take] at d;split at d
     ·simp only[World.cell?,hg];rw[<-Array.getElem?_toList,d];rfl
     ·cases d) (qA m) (by simp only[maxLen];omega) (by omega)
   refine⟨_,f,G,?_,J⟩;show GS _ _ _ _ _ (l ++ m).length (blV (l ++ m))
   rw[nN,List.length_append];exact E
theorem YB(b g:Nat):b+4096*(g+1)=b+4096*g+4096:=by omega
def iR(x:Bx)(S:Sb)(g k:Nat):Nat->List (Nat×Nat)
 | 0=>[]
 | j + 1=>if j∈S.fl g then iR x S g k j else iR x S g k j ++ [(aK x g k j,aB k)]
theorem tB(x:Bx)(S:Sb)(g k:Nat):∀ j,(iR x S g k j).length<=j
 | 0=>aj _
 | j+1=>by
  have:=tB x S g k j;unfold iR;split
  ·omega
  ·rw[List.length_append];exact Nat.succ_le_succ this
section
variable {w W W':World} {hb sb lw:Nat} {x:Bx} {t:Bt} {fr:Nat->List Nat} {ls:List (Nat×Nat)} {S:Sb} {s:Int}
theorem ziB(H:HW w W hb sb lw x t fr ls S s){g k j:Nat}(hc:S.c g=some k)(i:j<aF k):∃ z:Nat,(j∈S.fl g->z=0)/\(j ∉ S.fl g->16<=z)/\z<=2048/\∀ W',Kt nO W W'->Calls prog 96 #[.pointer (some ⟨sb,0,none⟩),.int .u64 ((aK x g k j:Nat):Int)] W' fun e q=>e=.returned (.int .u64 z)/\Kt nO W' q:=by
 obtain⟨h,o⟩:=H.so;have u:=H.po.nums.2.2.2.1;obtain⟨f,sp⟩:=o.si.pg _ k hc;have l:=o.mem hc;have b:=fV (x:=x) (p:=g) f i (by omega);have hz:=cN f;have a:=o.cell_liv hc i;by_cases hf:j∈S.fl g
 ·rw[ah (fun e=>e hf)] at a;refine⟨0,fun _=>rfl,fun e=>absurd hf e,by omega,fun W' kp=>?_⟩;obtain⟨n,d⟩:=(H.keep kp).so;exact CZ d.sw _ b.2.2 a
 ·rw[af hf] at a;refine⟨aB k,fun e=>absurd e hf,fun _=>hz.1,hz.2,fun W' kp=>?_⟩;obtain⟨n,d⟩:=(H.keep kp).so;have:=FJ d.sw _ b.2.2 a;rw[show dT x t (aK x g k j)=t.m.pg g from(sO (x:=x) (t:=t) f i (by omega) l.2.1 sp.kd sp.cl).2.2.1,sp.cl,aa] at this;exact this
theorem YA(H:HW w W hb sb lw x t fr ls S s){g k:Nat}(hc:S.c g=some k)(q:Pg)(hq:q.cl=(k:Int)):
  Calls prog 48 #[.pointer (some ⟨hb,0,none⟩),.int .i64 g,cD q] W fun e w'=>∃ v,e=.returned v/\GB W w' v (iR x S g k (aF k)):=by
 have n4:=H.po.nums.2.2.2.1;have n2:=H.po.nums.2.1;obtain⟨h,o⟩:=H.so;obtain⟨X,sp⟩:=o.si.pg _ k hc;have hm:=o.mem hc;have b:=cW X;have hz:=cN X;have hg:g+1<=1024:=by omega
 clear o h sp;have K0:=aA ((Kt.refl nO W).alloc (aN q));have X0:=aA (nH W (aN q));have CL:=aA (fun W'=>BF k X q hq W');have AD:=aA (fun W' (k:Kt nO W W')=>tT (H.keep k) g (by omega));have A:=aA (fun W' (k:Kt nO W W')=>tT (H.keep k) (g+1) hg);have SZ:=aA (fun j (m:j<aF k)=>ziB H hc m);have CB:=aA (fun W' (k:Kt nO W W')=>(H.keep k).c);have CE:=aA (fun j=>And.intro (tB x S g k j) (show iR x S g k (j + 1)=if j∈S.fl g then iR x S g k j else iR x S g k j ++ [(aK x g k j,aB k)] from rfl));have cj:∀ j,aK x g k j=x.bS+4096*g+j*aB k:=fun j=>rfl
 have B:∀ j,j<=aF k->j*aB k<=4096:=fun j m=>by rw[<-b.1];exact ak _ m
 have J:∀ j,(j+1)*aB k=j*aB k+aB k:=fun j=>by rw[av,aL]
 have R:=aA (fun j=>cj j);have E:=aA (fun j (m:j<=aF k)=>B j m);have Z:=aA J;obtain⟨C,n⟩:∃ a,a=x.bS+4096*(g+1):=⟨_,rfl⟩;obtain⟨D,y⟩:∃ a,a=x.bS+4096*g:=⟨_,rfl⟩;rw[<-n] at A;rw[<-y] at AD R;have G:C=D+4096:=by rw[n,y];exact YB x.bS g
 have a8:C<=9223372036854775808:=by omega
 obtain⟨N,hN⟩:=xe (aF k);obtain⟨z,l⟩:=xe (aB k);have NZ:=aA (show N*z=4096 by rw[hN,l];exact b.1);rw[<-hN] at SZ E b ⊢;rw[<-l] at CL CE R E Z hz b;have b1:N<=256:=b.2.2;obtain⟨f,hf⟩:=xe (iR x S g k);rw[<-hf] at CE ⊢;have f0:f 0=[]:=by rw[hf];rfl
 have HH:=aA H;clear H n4 n2 hm hq hc cj B J y n hN l b hf X;go_enter func48,ntmps48;obtain⟨x0,x1,x2,x3,x4,x5,x6,x7,x8,x9,a2⟩:=iU X0.o;go_wp2_with fail;refine(CL.o _).mono ?_;rintro e w1 ⟨rfl,Q⟩;have K1:=aA (nT K0.o Q);clear Q x0 x1 x2 x3 x4 x5 x6 x7 x8 x9 a2 X0 K0;go_wp2_with fail;refine(AD.o _ K1.o).mono ?_;rintro e w2 ⟨rfl,h2⟩;replace h2:=h2.symm;subst h2;go_wp2_with fail;have HA:=aA G;clear G;obtain⟨g1,P⟩:=xe (g+1);rw[<-P] at A hg;have a9:(g:Int)+1=(g1:Int):=by omega
 clear P;go_loopw [7,9] (fun c p V=>∃ j:Nat,j<=N/\p=.int .u64 ((D+j*z:Nat):Int)/\Hd (GB W V c (f j))) (fun _ p _=>C-(intOf p).toNat)
 case atStart=>exact⟨0,az _,by rw[Nat.zero_mul,Nat.add_zero],aA (by rw[f0];exact GS.nil _ _ _ _ K1.o)⟩
 case round=>
  clear K1 AD f0;obtain⟨j,m,rfl,K⟩:=hrel;have b0:=(CE.o j).1;have B:=E.o j m;have A1:=aA (A.o _ K.o.kp);have G:=HA.o;by_cases i:j<N
  ·have J:=Z.o j;have U:=E.o (j+1) i;obtain⟨zz,z1,z2,z3,d⟩:=SZ.o j i;have d:=aA d;rw[R.o j] at d;have F:=(CE.o j).2;rw[R.o j] at F;obtain⟨c0,c2,c3,c4,c5,c6⟩:=CB.o _ K.o.kp;rw[J] at U;obtain⟨p,hp⟩:=xe (D+j*z);obtain⟨Y,L⟩:∃ p,p=D+(j+1)*z:=⟨_,rfl⟩;rw[<-hp] at d F ⊢;have a4:(p:Int)<C:=(by omega);have a7:(p:Int)+(z:Int)=Y:=(by omega);have a5:Y<=C:=(by omega);have a6:p<Y:=(by omega);have PP:=aA (show Y=D+(j+1)*z from L);clear B U J hp L E Z G HA;go_wp2_with fail;refine A1.o.mono ?_;rintro e w3 ⟨rfl,u⟩;replace u:=u.symm;subst u;go_wp2_with fail;refine(d.o _ K.o.kp).mono ?_;rintro e w4 ⟨rfl,T⟩;have G4:=aA (GS.keep K.o T);clear T c0 c2 c3 c4 c5 c6;by_cases hf:j∈S.fl g
   ·rw[ae hf] at F;obtain rfl:=z1 hf;have zn:(((0:Nat):Int) != 0)=false:=rfl;go_wp2_with fail;exact⟨⟨j+1,i,by rw[<-PP.o],aA (by rw[F];exact G4.o)⟩,by simp[intOf];omega⟩
   ·rw[ac hf] at F;have zp:=z2 hf;have zn:((zz:Int) != 0)=true:=(by rw[cu];omega);obtain⟨gg,cap,w5,PU,G5,_⟩:=GB.push G4.o p z (by omega);have G5:=aA G5;have a3:=aA PU;clear PU;go_wp2_with (at_builtin;refine Lib.wpList_append_run _ rfl _ _ _ _ rfl _ (.slice (some ⟨w4.heap.size,0,none⟩) 1 1) rfl rfl _ _ (a3.o _) ?_)
    exact⟨⟨j+1,i,by rw[<-PP.o],aA (by rw[F];exact G5.o)⟩,by simp[intOf];omega⟩
  ·obtain rfl:j=N:=(by omega);rw[NZ.o] at B ⊢;obtain⟨p,hp⟩:=xe (D+4096);rw[<-hp];have a4:¬(p:Int)<C:=(by omega);clear hp G HA B NZ E Z R;go_wp2_with fail;refine A1.o.mono ?_;rintro e w3 ⟨rfl,u⟩;replace u:=u.symm;subst u;go_wp2_with fail;go_ret;exact⟨_,rfl,K.o⟩
end
section
variable {α : Type} [DecidableEq α] {dec : α->Option Nat} {nil : α} {nxt bk:Nat->α}
def jY(dec : α->Option Nat)(nil : α)(nxt bk:Nat->α):List Nat->α->α->Prop
 | [],p,_=>p=nil
 | i :: r,p,b=>p≠nil/\dec p=some i/\bk i=b/\jY dec nil nxt bk r (nxt i) p
theorem JT:∀ (n:Nat) (l:List Nat) (p b : α),l.length=n->l.Nodup->W.prgL dec nil nxt bk (n+1) l p b=true->∃ a:List Nat,a.Perm l/\jY dec nil nxt bk a p b:=by
 intro n;induction n with
 | zero=>
  intro l p b hl _ h;have:l=[]:=bq hl;subst this;refine⟨[],.refl _,?_⟩;by_cases hp:p=nil
  ·exact hp
  ·rw[W.prgL,ac hp] at h
   cases e:dec p <;> rw[e] at h <;> simp at h
 | succ n d=>
  intro l p b hl hd h;by_cases hp:p=nil
  ·rw[W.prgL,ae hp] at h;have:l=[]:=List.isEmpty_iff.1 h;rw[this] at hl;cases hl
  ·rw[W.prgL,ac hp] at h
   cases e:dec p with
   | none=>rw[e] at h;cases h
   | some i=>
    rw[e] at h;simp only[bu,bW] at h;obtain⟨c,g,j⟩:=h;obtain⟨a,h4,f⟩:=d (l.erase i) (nxt i) p (by rw[List.length_erase_of_mem c,hl];rfl) (hd.erase i) j;exact⟨i :: a,(h4.cons i).trans (List.perm_cons_erase c).symm,hp,e,g,f⟩
omit [DecidableEq α] in
theorem jY.at{cod:Nat->α}(c:∀ p i,dec p=some i->p=cod i):∀ (a:List Nat) (p b : α),jY dec nil nxt bk a p b->
  p=(if 0<a.length then cod (a.getD 0 0) else nil)/\∀ j,j<a.length->nxt (a.getD j 0)=(if j+1<a.length then cod (a.getD (j+1) 0) else nil)/\bk (a.getD j 0)=(if j=0 then b else cod (a.getD (j-1) 0))
 | [],p,b,h=>⟨by rw[ac (by simp)];exact h,fun j d=>by simp at d⟩
 | i :: r,p,b,h=>by
  obtain⟨q,g,m,h4⟩:=h;have hp:=c p i g;obtain⟨o,f⟩:=jY.at c r (nxt i) p h4;refine⟨by rw[ae (by simp)];exact hp,fun j d=>?_⟩
  cases j with
  | zero=>
   refine⟨?_,m⟩;show nxt i=_
   rw[o];by_cases e : 0<r.length
   ·rw[ae e,ae (by simpa using e)];rfl
   ·rw[ac e,ac (by simpa using e)]
  | succ j=>
   have d:j<r.length:=(by simpa using d);obtain⟨l,n⟩:=f j d;refine⟨?_,?_⟩
   ·show nxt (r.getD j 0)=_
    rw[l];by_cases e:j+1<r.length
    ·rw[ae e,ae (by simpa using e)];rfl
    ·rw[ac e,ac (by simpa using e)]
   ·show bk (r.getD j 0)=_
    rw[n,ac (by omega:¬j+1=0),Nat.add_sub_cancel]
    cases j with
    | zero=>rw[ae rfl];exact hp
    | succ j=>rw[ac (by omega),Nat.add_sub_cancel];rfl
end
theorem zjT{nx:Nat->Option Int} : ∀ (n:Nat) (l:List Nat) (p:Int),l.length=n->l.Nodup->W.prg9 nx (n+1) l p=true->∃ a:List Nat,a.Perm l/\p=bC a/\oH nx a:=by
 intro n;induction n with
 | zero=>
  intro l p hl _ h;have:l=[]:=bq hl;subst this;refine⟨[],.refl _,?_,trivial⟩;by_cases hp:p = -1
  ·exact hp
  ·rw[W.prg9,ac hp,ac (by simp)] at h;cases h
 | succ n c=>
  intro l p hl hd h;by_cases hp:p = -1
  ·rw[W.prg9,ae hp] at h;have:l=[]:=List.isEmpty_iff.1 h;rw[this] at hl;cases hl
  ·rw[W.prg9,ac hp] at h;by_cases hm : 0<=p/\p.toNat∈l
   ·rw[ae hm] at h
    cases e:nx p.toNat with
    | none=>rw[e] at h;cases h
    | some q=>
     rw[e] at h;obtain⟨a,h4,d,b⟩:=c (l.erase p.toNat) q (by rw[List.length_erase_of_mem hm.2,hl];rfl) (hd.erase _) h;exact⟨p.toNat :: a,(h4.cons _).trans (List.perm_cons_erase hm.2).symm,by show p=((p.toNat:Nat):Int);omega,by rw[e,d],b⟩
   ·rw[ac hm] at h;cases h
theorem uX{I:W.Img} : ∀ n a,W.r4F I n a=none->I.np<=a+n->∀ i,a<=i->i<I.np->∃ p,p<=i/\i<p+2 ^ (I.pg p).od.toNat/\p<I.np/\W.hdOk (I.pg p) p=true/\∀ y,y<2 ^ (I.pg p).od.toNat-1->W.rsOk (I.pg p) (I.pg (p+1+y))=true
 | 0,a,_,f,i,d,c=>absurd c (by omega)
 | n+1,a,h,f,i,d,c=>by
  unfold W.r4F at h;rw[ac (by omega)] at h;by_cases b:W.hdOk (I.pg a) a=false
  ·rw[ae b] at h;cases h
  rw[ac b] at h;have b:W.hdOk (I.pg a) a=true:=by simpa using b
  cases e:W.fst1 (2 ^ (I.pg a).od.toNat-1) (fun i=>W.rsOk (I.pg a) (I.pg (a+1+i)))with
  | some i=>rw[e] at h;cases h
  | none=>
   rw[e] at h;have hp : 0<2 ^ (I.pg a).od.toNat:=ax _;by_cases g:i<a+2 ^ (I.pg a).od.toNat
   ·exact⟨a,d,g,by omega,b,W.fst1_none e⟩
   ·exact uX n _ h (by omega) i (by omega) c
theorem sB{p:Pg}{a:Nat}(h:W.hdOk p a=true)(h4:¬p.kd=4):(p.kd=0\/p.kd=2)/\a%2 ^ p.od.toNat=0/\p=aU p.kd p.od:=by
 unfold W.hdOk at h;rw[ac h4] at h;by_cases e:p.kd=0\/p.kd=2
 ·rw[ae e,bu,bW] at h;exact⟨e,h.1,bw h.2⟩
 ·rw[ac e] at h;cases h
theorem uW{p:Pg}{a:Nat}(h:W.hdOk p a=true)(h4:p.kd=4):p.od=0:=by unfold W.hdOk at h;rw[ae h4] at h;exact bw h
theorem uP{p q:Pg}(h:W.rsOk p q=true):q=aU (p.kd+1) p.od:=bw h
def jA(I:W.Img)(g p k:Nat):Prop:=p<I.np/\((g=2/\k=0/\(I.pg p).kd=4)\/((g=0\/g=2)/\(I.pg p).kd=(g:Int)/\(I.pg p).od=(k:Int)))
section
variable {I:W.Img} {k r:Nat} (hS:W.Sn9 I k r) (h4:W.rl I 3=none)
include hS h4
omit hS in
theorem sA{g p j:Nat}(hb:jA I g p j):W.hdOk (I.pg p) p=true/\(∀ y,y<2 ^ j-1->W.rsOk (I.pg p) (I.pg (p+1+y))=true)/\(I.pg p).od=(j:Int):=by
 obtain⟨hp,hb⟩:=hb;obtain⟨q,o,i,u,b,d⟩:=uX _ _ h4 (by omega) p (by omega) hp;have e:q=p:=by
  by_cases e:q=p
  ·exact e
  exfalso
  have l:=uP (d (p-q-1) (by omega));rw[show q+1+(p-q-1)=p by omega] at l;have v:(I.pg p).kd=(I.pg q).kd+1:=by rw[l];rfl
  by_cases m:(I.pg q).kd=4
  ·rw[uW b m] at i;simp at i;omega
  ·have:=(sB b m).1;rcases hb with ⟨-,-,c⟩|⟨hg,c,-⟩
   ·omega
   ·omega
 subst e;rcases hb with ⟨-,n,c⟩|⟨hg,c,a⟩
 ·subst n;have f:=uW b c;exact⟨b,fun y hy=>by simp at hy,f⟩
 ·rw[a,aa] at d;exact⟨b,d,a⟩
theorem zU{g p j:Nat}(hb:jA I g p j):j<=k/\p%2 ^ j=0/\p+2 ^ j<=I.np:=by
 obtain⟨d,q,f⟩:=sA h4 hb;obtain⟨hp,hb⟩:=hb;obtain⟨kd,o,c,l,n,v,u,y,-⟩:=hS.pg p hp;have b:j<=k:=by omega
 have a:p%2 ^ j=0:=by
  rcases hb with ⟨-,m,e⟩|⟨hg,e,i⟩
  ·subst m;simp[Nat.mod_one]
  ·have:=(sB d (by omega)).2.1;rwa [f,aa] at this
 exact⟨b,a,W.mul_fits (hS.dvd j b) a hp⟩
theorem OQ(i:Nat)(hi:i<I.np):∃ g p j,jA I g p j/\p<=i/\i<p+2 ^ j:=by
 obtain⟨q,f,a,b,n,v⟩:=uX _ _ h4 (by omega) i (by omega) hi;by_cases d:(I.pg q).kd=4
 ·have m:=uW n d;rw[m] at a;exact⟨2,q,0,⟨b,.inl ⟨rfl,rfl,d⟩⟩,f,a⟩
 ·obtain⟨kd,o,c,l,u,y,e,z,-⟩:=hS.pg q b;have m:=(sB n d).1;rw[e,aa] at a;exact⟨kd,q,o,⟨b,.inr ⟨by omega,u,e⟩⟩,f,a⟩
omit hS in
theorem OO{g p j:Nat}(hb:jA I g p j)(i:Nat)(q:p<=i)(o:i<p+2 ^ j)(f:¬(I.pg i).kd=4):I.pg i=aU (if i=p then (g:Int) else (g:Int)+1) (j:Int):=by
 obtain⟨l,m,n⟩:=sA h4 hb;obtain⟨hp,hb⟩:=hb;by_cases e:i=p
 ·subst e;rw[ae rfl];rcases hb with ⟨-,d,a⟩|⟨hg,a,b⟩
  ·exact absurd a f
  ·have:=(sB l f).2.2;rw[a,b] at this;exact this
 ·rw[ac e];have c:=uP (m (i-p-1) (by omega));rw[show p+1+(i-p-1)=i by omega,n] at c;rcases hb with ⟨-,d,a⟩|⟨hg,a,b⟩
  ·subst d;simp at o;omega
  ·rw[a] at c;exact c
omit hS in
theorem DI{g p j:Nat}(hb:jA I g p j)(i:Nat)(m:p<i)(f:i<p+2 ^ j):(I.pg i).kd=1\/(I.pg i).kd=3:=by
 obtain⟨l,c,n⟩:=sA h4 hb;have a:=uP (c (i-p-1) (by omega));rw[show p+1+(i-p-1)=i by omega] at a;have o:(I.pg i).kd=(I.pg p).kd+1:=by rw[a];rfl
 rcases hb.2 with ⟨-,e,d⟩|⟨hg,d,b⟩
 ·subst e;simp at f;omega
 ·omega
omit hS in
theorem QP{g p j f q i:Nat}(b:jA I g p j)(a:jA I f q i):(g=f/\p=q/\j=i)\/p+2 ^ j<=q\/q+2 ^ i<=p:=by
 have d:∀ {g p j:Nat},jA I g p j->(I.pg p).kd=4\/(I.pg p).kd=0\/(I.pg p).kd=2:=fun h=>by
  rcases h.2 with ⟨-,-,e⟩|⟨u,v,-⟩
  ·exact .inl e
  ·omega
 by_cases e:p=q
 ·subst e;left
  rcases b.2 with ⟨l,m,n⟩|⟨l,m,n⟩ <;> rcases a.2 with ⟨b1,b2,b3⟩|⟨b1,b2,b3⟩ <;> (refine⟨?_,rfl,?_⟩ <;> omega)
 ·right
  by_cases o:p<q
  ·left
   refine Nat.le_of_not_lt fun c=>?_
   have:=DI h4 b q o c;have:=d a;omega
  ·right
   refine Nat.le_of_not_lt fun c=>?_
   have:=DI h4 a p (by omega) c;have:=d b;omega
end
theorem UF{ws:List Nat}{j:Nat}(h : 64*ws.length<=j):aE ws j=false:=by unfold aE;rw[ai,dh (by omega)];simp
theorem wA{I:W.Img}{a:Nat}(h:W.r7k I a=none):(∀ i,i<I.np/2 ^ (a+1)->aE (I.pr a) i=W.onF I a i)/\∀ j,I.np/2 ^ (a+1)<=j->aE (I.pr a) j=false:=by
 unfold W.r7k at h
 cases e:W.fst1 (I.np/2 ^ (a+1)) (fun i=>aE (I.pr a) i == W.onF I a i)with
 | some i=>rw[e] at h;cases h
 | none=>
  rw[e] at h;refine⟨fun i hi=>by simpa using W.fst1_none e i hi,fun j d=>?_⟩;by_cases hl:j<64*(I.pr a).length
  ·rcases W.nxtN_of (n:=64*(I.pr a).length) (ws:=I.pr a) (k:=I.np/2 ^ (a+1))with ⟨-,c⟩|⟨q,b,-⟩
   ·exact c j d hl
   ·have h:(if bI (64*(I.pr a).length) (I.pr a) (I.np/2 ^ (a+1)) = -1 then none else some I.np)=none:=h;rw[ac (by rw[b];omega)] at h
    cases h
  ·exact UF (by omega)
theorem AP{I:W.Img}{k:Nat}(h:W.r2 I k=none):I.reg.toNat*2 ^ k=I.np/\0<=I.reg/\I.reg<=I.lim:=by
 unfold W.r2 at h;by_cases c1:W.wiB I.reg 0 I.lim=false
 ·rw[ae c1] at h;cases h
 rw[ac c1] at h;by_cases c2:I.nm≠I.reg.toNat*2 ^ k*4096
 ·rw[ae c2] at h;cases h
 rw[ac c2] at h;by_cases c3:I.np≠I.reg.toNat*2 ^ k
 ·rw[ae c3] at h;cases h
 have a:W.wiB I.reg 0 I.lim=true:=by simpa using c1
 unfold W.wiB at a;exact⟨(Decidable.not_not.1 c3).symm,bw a⟩
theorem JC{n:Nat}{f:Nat->Option Nat}(h:W.fstO n f=none)(a:Nat)(ha:a<n):f a=none:=by unfold W.fstO at h;exact List.findSome?_eq_none_iff.1 h a (List.mem_range.2 ha)
theorem rI(I:W.Img):W.rl I 1=W.r2 I I.ord.toNat:=by rw[W.rl]
theorem yO(I:W.Img):W.rl I 4=W.fst1 I.np fun i=>W.ok5 (I.pg i):=by rw[W.rl]
theorem yN(I:W.Img):W.rl I 5=W.fst1 I.np (W.ok6 I I.ord.toNat):=by rw[W.rl]
theorem rH(I:W.Img):W.rl I 6=W.r7 I:=by rw[W.rl]
theorem yM(I:W.Img):W.rl I 7=W.fst1 (I.ord.toNat+1) (W.ok8 I):=by rw[W.rl]
theorem yL(I:W.Img):W.rl I 8=W.fst1 I.np (W.ok9 I):=by rw[W.rl]
theorem yK(I:W.Img):W.rl I 9=W.fst1 8 (W.ok10 I):=by rw[W.rl]
theorem PF(I:W.Img):W.rl I 10=W.fst1 I.np (W.ok11 I):=by rw[W.rl]
def iE(I:W.Img)(p:Nat):Option Nat:=if p<I.np/\(I.pg p).kd=4 then some (I.pg p).cl.toNat else none
structure Ls9(I:W.Img)(k:Nat)(fr:Nat->List Nat)(S:Sb):Prop where
 c:∀ p,S.c p=iE I p
 fr:∀ j,j<=k->(fr j).Perm (W.pgL I fun p=>W.isF p (j:Int))/\jY (W.decP I) 0 (fun i=>M.word I.mem (4096*i)) (fun i=>M.word I.mem (4096*i+8)) (fr j) (I.hd.getD j 0) 0
 pl:∀ c,c<8->(S.pl c).Perm (W.pgL I (W.prS (c:Int)))/\jY (W.dec10 I) (-1) (fun i=>(I.pg i).nx) (fun i=>(I.pg i).pv) (S.pl c) (I.pt.getD c 0) (-1)
 fl:∀ p c,iE I p=some c->(S.fl p).Perm (W.frL (I.pg p) (W.celN9 c))/\(I.pg p).fs=bC (S.fl p)/\oH (W.nx9 I p c) (S.fl p)
theorem SX{I:W.Img}(hc:(W.chk I).1=0):∃ fr S,Ls9 I I.ord.toNat fr S:=by
 have q:∀ j:Nat,∃ a:List Nat,j<=I.ord.toNat->a.Perm (W.pgL I fun p=>W.isF p (j:Int))/\jY (W.decP I) 0 (fun i=>M.word I.mem (4096*i)) (fun i=>M.word I.mem (4096*i+8)) a (I.hd.getD j 0) 0:=fun j=>by
  by_cases f:j<=I.ord.toNat
  ·have h:=W.fst1_none ((yM I).symm.trans (W.chk_zero hc 7 (by decide))) j (by omega);rw[W.ok8] at h;obtain⟨a,d,b⟩:=JT _ _ _ _ rfl (W.pgL_nodup I _) h;exact⟨a,fun _=>⟨d,b⟩⟩
  ·exact⟨[],fun h=>absurd h f⟩
 have n:∀ c:Nat,∃ a:List Nat,c<8->a.Perm (W.pgL I (W.prS (c:Int)))/\jY (W.dec10 I) (-1) (fun i=>(I.pg i).nx) (fun i=>(I.pg i).pv) a (I.pt.getD c 0) (-1):=fun c=>by
  by_cases f:c<8
  ·have h:=W.fst1_none ((yK I).symm.trans (W.chk_zero hc 9 (by decide))) c f;rw[W.ok10] at h;obtain⟨a,d,b⟩:=JT _ _ _ _ rfl (W.pgL_nodup I _) h;exact⟨a,fun _=>⟨d,b⟩⟩
  ·exact⟨[],fun h=>absurd h f⟩
 have u:∀ p:Nat,∃ a:List Nat,∀ c,iE I p=some c->a.Perm (W.frL (I.pg p) (W.celN9 c))/\(I.pg p).fs=bC a/\oH (W.nx9 I p c) a:=fun p=>by
  by_cases hp:p<I.np/\(I.pg p).kd=4
  ·have h:=W.fst1_none ((yL I).symm.trans (W.chk_zero hc 8 (by decide))) p hp.1;rw[W.ok9,af hp.2,Bool.not_true,Bool.false_or,W.ok9c] at h;obtain⟨a,d,b,o⟩:=zjT _ _ _ rfl (List.nodup_range.filter _) h;refine⟨a,fun c e=>?_⟩;unfold iE at e;rw[ae hp] at e;injection e with e
   subst e;exact⟨d,b,o⟩
  ·refine⟨[],fun c e=>?_⟩;unfold iE at e;rw[ac hp] at e
   cases e
 obtain⟨fr,m⟩:=Classical.axiomOfChoice q;obtain⟨pl,l⟩:=Classical.axiomOfChoice n;obtain⟨fl,g⟩:=Classical.axiomOfChoice u;exact⟨fr,⟨iE I,fl,pl⟩,⟨fun _=>rfl,m,l,g⟩⟩
theorem qI{I:W.Img}{p c:Nat}(h:iE I p=some c):p<I.np/\(I.pg p).kd=4/\(I.pg p).cl.toNat=c:=by
 unfold iE at h;by_cases hp:p<I.np/\(I.pg p).kd=4
 ·rw[ae hp] at h;injection h with h
  exact⟨hp.1,hp.2,h⟩
 ·rw[ac hp] at h;cases h
theorem ZA{I:W.Img}{p:Nat}(h:iE I p=none)(hp:p<I.np):¬(I.pg p).kd=4:=fun e=>by unfold iE at h;rw[ae ⟨hp,e⟩] at h;cases h
structure Im9(I:W.Img)(x:Bx)(t:Bt)(S:Sb):Prop where
 bS:x.bS=I.bS
 n:x.n=I.nm
 o:x.o=I.ord.toNat
 P:x.P=fK S t.m
 w:∀ q,q+8<=I.nm->M.word t.f q=M.word I.mem q
 mo:t.m.o=x.o
 mn:t.m.n=I.np
 pg:∀ i,i<I.np->t.m.pg i=I.pg i
 wd:∀ j,j<x.o->t.m.wd j=I.pr j
 hd:∀ j,j<=x.o->t.hd j=I.hd.getD j 0
section
variable {I:W.Img} {fr:Nat->List Nat} {S:Sb} {x:Bx} {t:Bt}
theorem pC(hc:(W.chk I).1=0)(d:∀ i,i<I.np->W.PgIn (I.pg i))(hl:Ls9 I I.ord.toNat fr S){p c:Nat}(h:iE I p=some c):
  c<8/\(I.pg p).od=0/\(I.pg p).cl=(c:Int)/\(S.fl p).Nodup/\(∀ i,i∈S.fl p↔i<aF c/\aE (W.wsP (I.pg p)) i=false)/\(I.pg p).lv=((aF c-(S.fl p).length:Nat):Int)/\(S.fl p).length<aF c/\∀ i,i<256->aI (I.pg p) i=decide (i<aF c/\i ∉ S.fl p):=by
 obtain⟨hp,h4,z⟩:=qI h;obtain⟨r,hS⟩:=W.sn9_chk hc;obtain⟨kd,o,a,l,J,P,K,Q,g,C,-⟩:=hS.pg p hp;have m:a=c:=by omega
 subst m;have hb:jA I 2 p 0:=⟨hp,.inl ⟨rfl,rfl,h4⟩⟩;have hd:=(sA (W.chk_zero hc 3 (by decide)) hb).2.2;have y:=W.fst1_none ((yO I).symm.trans (W.chk_zero hc 4 (by decide))) p hp;obtain⟨lv,E,F,A,D⟩:=W.ok5_lv (d p hp) g C h4 y;have u:=((W.ok5_iff (I.pg p) (d p hp) a g h4).1 y).2;obtain⟨f,G,N⟩:=hl.fl p a h;have fn:(S.fl p).Nodup:=f.nodup_iff.2 (List.nodup_range.filter _);have q:∀ i,i∈S.fl p↔i<aF a/\aE (W.wsP (I.pg p)) i=false:=fun i=>by rw[f.mem_iff];simp only[W.frL,List.mem_filter,List.mem_range,Bool.not_eq_true'];exact Iff.rfl
 have B:(S.fl p).length+aH (aE (W.wsP (I.pg p))) (W.celN9 a)=W.celN9 a:=by rw[f.length_eq];exact W.frL_len _ _
 have v:a<8:=by omega
 have L:=cW v;have n:W.celN9 a=aF a:=rfl;rw[n] at B A D u;refine⟨v,hd,g,fn,q,?_,by omega,fun i hi=>?_⟩
 ·rw[E];congr 1;omega
 ·rw[<-DP _ hi];by_cases j:i<aF a
  ·cases e:aE (W.wsP (I.pg p)) i with
   | false=>exact(ah fun b=>b.2 ((q i).2 ⟨j,e⟩)).symm
   | true=>exact(af ⟨j,fun b=>by have:=((q i).1 b).2;rw[e] at this;cases this⟩).symm
  ·rw[u i (by omega) hi];exact(ah fun b=>j b.1).symm
end
section
variable {I:W.Img} {fr:Nat->List Nat} {S:Sb} {x:Bx} {t:Bt}
theorem yX(hc:(W.chk I).1=0)(hl:Ls9 I I.ord.toNat fr S){p j:Nat} : jA I 0 p j↔(j<=I.ord.toNat/\p∈fr j):=by
 obtain⟨r,hS⟩:=W.sn9_chk hc;constructor
 ·rintro ⟨hp,⟨e,-⟩|⟨-,c,b⟩⟩
  ·cases e
  ·obtain⟨kd,o,i,l,f,m,g,n,-⟩:=hS.pg p hp;have a:j<=I.ord.toNat:=(by omega);refine⟨a,(hl.fr j a).1.mem_iff.2 (W.pgL_mem.2 ⟨hp,?_⟩)⟩;unfold W.isF;rw[c,b];simp
 ·rintro ⟨a,d⟩;obtain⟨hp,hf⟩:=W.pgL_mem.1 ((hl.fr j a).1.mem_iff.1 d);obtain⟨c,b⟩:=W.isF_od hf;exact⟨hp,.inr ⟨.inl rfl,c,b⟩⟩
theorem mE(hc:(W.chk I).1=0)(hl:Ls9 I I.ord.toNat fr S){p j:Nat}(hp:p<I.np)(a:j<=I.ord.toNat):W.isF (I.pg p) (j:Int)=decide (p∈fr j):=by
 rw[Bool.eq_iff_iff,bW];constructor
 ·intro h;exact(hl.fr j a).1.mem_iff.2 (W.pgL_mem.2 ⟨hp,h⟩)
 ·intro h;exact(W.pgL_mem.1 ((hl.fr j a).1.mem_iff.1 h)).2
theorem MH(hc:(W.chk I).1=0)(b:∀ i,i<I.np->W.PgIn (I.pg i))(hl:Ls9 I I.ord.toNat fr S){p c:Nat}(j:c<8):p∈S.pl c↔(iE I p=some c/\S.fl p≠[]):=by
 rw[(hl.pl c j).1.mem_iff,W.pgL_mem];unfold W.prS;constructor
 ·rintro ⟨hp,h⟩;simp only[bu,bW,Bool.not_eq_true'] at h;obtain⟨d,f,m⟩:=h;have a:iE I p=some c:=by
   unfold iE;rw[ae ⟨hp,d⟩,f,aa]
  obtain⟨-,-,-,-,-,g,n,-⟩:=pC hc b hl a;refine⟨a,fun e=>?_⟩;rw[f,aa,g,e] at m;exact of_decide_eq_false m rfl
 ·rintro ⟨d,f⟩;obtain⟨hp,h4,-⟩:=qI d;obtain⟨-,-,a,-,-,g,n,-⟩:=pC hc b hl d;have l : 0<(S.fl p).length:=List.length_pos_iff.2 f;refine⟨hp,?_⟩;rw[h4,a,g,aa,ah (show ¬((aF c-(S.fl p).length:Nat):Int)=((W.celN9 c:Nat):Int)from fun e=>by
   have e:aF c-(S.fl p).length=aF c:=Int.ofNat.inj e;omega)]
  simp
theorem ch9(hc:(W.chk I).1=0)(hl:Ls9 I I.ord.toNat fr S)(hx:Im9 I x t S){j:Nat}(z:j<=x.o):M.Chn x.bS x.n t.f (t.hd j) ((fr j).map (ad x)):=by
 obtain⟨r,hS⟩:=W.sn9_chk hc;have l:j<=I.ord.toNat:=by rw[<-hx.o];exact z
 obtain⟨v,C⟩:=hl.fr j l;have A:=hS.b0;have B:=hS.be;have E:=hS.nm;have g:∀ i∈fr j,i<I.np:=fun i hi=>(W.pgL_mem.1 (v.mem_iff.1 hi)).1
 obtain⟨D,u⟩:=jY.at (cod:=ad x) (fun p i h=>by have:=(W.decP_lt hS h).2.1;unfold ad;rw[hx.bS];exact this) _ _ _ C;have c:∀ i,i<(fr j).length->(fr j).getD i 0<I.np:=fun i hi=>g _ (by rw[ai,bo hi];exact List.getElem_mem _)
 have m:(fr j).Nodup:=v.nodup_iff.2 (W.pgL_nodup I _);have b:((fr j).map (ad x)).length=(fr j).length:=List.length_map _;have a:∀ i,i<(fr j).length->((fr j).map (ad x)).getD i 0=ad x ((fr j).getD i 0):=fun i hi=>oY _ _ _ hi
 have d:∀ i,(fr j).length<=i->((fr j).map (ad x)).getD i 0=0:=fun i hi=>by rw[ai,dh (by rw[b];exact hi)];rfl
 refine⟨?_,?_,?_,?_,?_⟩
 ·intro y hy;obtain⟨i,hi,rfl⟩:=List.mem_map.1 hy;have:=g i hi;unfold M.IsCell ad;rw[hx.bS,hx.n];omega
 ·exact List.pairwise_map.2 (m.imp fun q e=>q (by unfold ad at e;omega))
 ·rw[hx.hd j z,D];by_cases e : 0<(fr j).length
  ·rw[ae e,a 0 e]
  ·rw[ac e,d 0 (by omega)]
 ·intro i hi;rw[b] at hi;have:=c i hi;rw[a i hi];unfold M.nx ad;rw[Nat.add_sub_cancel_left,hx.w _ (by omega),(u i hi).1];by_cases e:i+1<(fr j).length
  ·rw[ae e];exact(a _ e).symm
  ·rw[ac e];exact(d _ (by omega)).symm
 ·intro i hi;rw[b] at hi;have:=c i hi;rw[a i hi];unfold M.pv ad;rw[show x.bS+4096*(fr j).getD i 0+8-x.bS=4096*(fr j).getD i 0+8 by omega,hx.w _ (by omega),(u i hi).2];by_cases e:i=0
  ·rw[ae e,ae e]
  ·rw[ac e,ac e];exact(a _ (by omega)).symm
theorem rO(hc:(W.chk I).1=0)(hx:Im9 I x t S){p c:Nat}(hp:p<I.np)(a:c<8):∀ l:List Nat,(∀ i∈l,i<aF c)->oH (W.nx9 I p c) l->mI x t.f p c l
 | [],_,_=>trivial
 | i :: r,hl,g=>by
  refine⟨?_,rO hc hx hp a r (fun j u=>hl j (List.mem_cons_of_mem _ u)) g.2⟩;obtain⟨A,hS⟩:=W.sn9_chk hc;have y:=hS.nm;have m:=hS.b0;have b:=cW a;have hi:=hl i aw;have o:(i+1)*aB c<=aF c*aB c:=ak _ hi;rw[b.1,av,aL] at o;have hs : 16<=aB c:=by unfold aB;have:=ax c;omega
  rw[hx.w _ (by omega)];have e:=g.1;unfold W.nx9 at e;change (if M.word I.mem (4096*p+i*aB c)=0 then some (-1) else if I.bS+p*4096<=M.word I.mem (4096*p+i*aB c)/\M.word I.mem (4096*p+i*aB c)-(I.bS+p*4096)<4096/\(M.word I.mem (4096*p+i*aB c)-(I.bS+p*4096))%aB c=0 then some (((M.word I.mem (4096*p+i*aB c)-(I.bS+p*4096))/aB c:Nat):Int) else none)=some (bC r)at e
  generalize M.word I.mem (4096*p+i*aB c)=v at e;by_cases h0:v=0
  ·rw[ae h0] at e;injection e with e
   cases r with
   | nil=>exact h0
   | cons j n=>
    have e:(-1:Int)=(j:Int):=e;omega
  ·rw[ac h0] at e;by_cases d:I.bS+p*4096<=v/\v-(I.bS+p*4096)<4096/\(v-(I.bS+p*4096))%aB c=0
   ·rw[ae d] at e;injection e with e
    cases r with
    | nil=>
     have e:(((v-(I.bS+p*4096))/aB c:Nat):Int) = -1:=e;generalize (v-(I.bS+p*4096))/aB c=z at e;omega
    | cons j n=>
     have e:(((v-(I.bS+p*4096))/aB c:Nat):Int)=(j:Int):=e;have e:(v-(I.bS+p*4096))/aB c=j:=Int.ofNat.inj e;have q:=Nat.div_add_mod (v-(I.bS+p*4096)) (aB c);rw[d.2.2,e,Nat.add_zero,aq] at q;show v=aK x p c j
     unfold aK;rw[hx.bS];omega
   ·rw[ac d] at e;cases e
theorem OE(hc:(W.chk I).1=0)(u:∀ i,i<I.np->W.PgIn (I.pg i))(hl:Ls9 I I.ord.toNat fr S)(hx:Im9 I x t S):St0 x t fr (jA I) S I.lim.toNat/\I.lim=(I.lim.toNat:Int)/\∀ c,c<8->I.pt.getD c 0=bC (S.pl c):=by
 obtain⟨r,hS⟩:=W.sn9_chk hc;have D:=W.chk_zero hc 3 (by decide);have z:=W.may_of (W.chk_zero hc 0 (by decide));obtain⟨kk,LL,f1,f2,f3,f4,-⟩:=W.may_facts z;have R:=(rI I).symm.trans (W.chk_zero hc 1 (by decide));obtain⟨q1,q2,q3⟩:=AP R;have b:x.o=I.ord.toNat:=hx.o;have h7:∀ a,a<I.ord.toNat->W.r7k I a=none:=fun a ha=>JC ((rH I).symm.trans (W.chk_zero hc 6 (by decide))) a (by rw[hS.no];exact ha)
 have E:∀ p,x.P p=(iE I p).map fun _=>t.m.pg p:=fun p=>by rw[hx.P];unfold fK;rw[hl.c p]
 have U:∀ c,c<8->∀ j,j<(S.pl c).length->(I.pg ((S.pl c).getD j 0)).nx=(if j+1<(S.pl c).length then (((S.pl c).getD (j+1) 0:Nat):Int) else -1)/\(I.pg ((S.pl c).getD j 0)).pv=(if j=0 then -1 else (((S.pl c).getD (j-1) 0:Nat):Int)):=fun c f=>
  (jY.at (cod:=fun i=>(i:Int)) (fun p i h=>(W.dec10_i h).2.1) _ _ _ (hl.pl c f).2).2
 have A:∀ c,c<8->(S.pl c).Nodup:=fun c f=>(hl.pl c f).1.nodup_iff.2 (W.pgL_nodup I _)
 refine⟨⟨⟨hx.mo,by rw[b];exact hS.k8,⟨r,by rw[hx.mn,b];exact hS.np⟩,by rw[hx.mn,hx.n,hS.nm];exact aj _,by rw[hx.mn];exact hS.np1,by rw[hx.bS];have:=hS.b0;omega,by rw[hx.bS,hx.n];exact hS.be,?_,fun p j=>by rw[b];exact yX hc hl,?_,fun g p j g' q i=>QP D,?_,?_,fun j d=>ch9 hc hl hx d,?_,?_,?_,?_⟩,?_,by rw[hx.mn,hx.n,hS.nm],⟨hx.P,?_,?_,?_,A,fun c f p=>by rw[hl.c p];exact MH hc u hl f⟩,?_,?_,?_,?_,?_⟩,by omega,?_⟩
 ·rintro g p j ⟨-,⟨e,-⟩|⟨e|e,-⟩⟩
  ·exact .inr (.inl e)
  ·exact .inl e
  ·exact .inr (.inl e)
 ·intro g p j hb;rw[b,hx.mn];exact zU hS D hb
 ·intro i hi;rw[hx.mn] at hi;exact OQ hS D i hi
 ·intro g p j hb h9 i h1 h2;have ha:=zU hS D hb;have hi:i<I.np:=by omega
  rw[E i]
  cases e:iE I i with
  | some c=>rfl
  | none=>
   show t.m.pg i=aU _ _
   rw[hx.pg i hi];exact OO D hb i h1 h2 (ZA e hi)
 ·intro j d;rw[hx.wd j d,hx.mn];exact hS.pl j (by rw[<-b];exact d)
 ·intro j d i hi;rw[hx.mn] at hi;rw[b] at d;rw[hx.wd j (by rw[b];exact d),(wA (h7 j d)).1 i hi];unfold W.onF;have V:=W.half_lt hi;have hp:=ax j;rw[mE hc hl (by omega) (by omega),mE hc hl V (by omega)];rw[show i*2 ^ (j+1)=2*i*2 ^ j by rw[ci,aq 2 i,cx,aq 2],show(2*i+1)*2 ^ j=2*i*2 ^ j+2 ^ j by rw[av,aL]]
 ·rintro j d i ⟨X,m2⟩;rw[b] at d;have b1:=(yX hc hl).2 ⟨Nat.le_of_lt d,X⟩;have b2:=(yX hc hl).2 ⟨Nat.le_of_lt d,m2⟩;have Z:=W.fst1_none ((yN I).symm.trans (W.chk_zero hc 5 (by decide))) (2*i*2 ^ j) b1.1;have d1:W.isF (I.pg (2*i*2 ^ j)) (j:Int)=true:=by rw[mE hc hl b1.1 (by omega)];exact af X
  have d2:W.isF (I.pg (2*i*2 ^ j+2 ^ j)) (j:Int)=true:=by rw[mE hc hl (by have:=b2.1;rw[av,aL] at this;exact this) (by omega),show 2*i*2 ^ j+2 ^ j=(2*i+1)*2 ^ j by rw[av,aL]];exact af m2
  rw[W.ok6_bad d (by rw[Nat.mul_right_comm];exact Nat.mul_mod_right _ _) d1 d2] at Z
  cases Z
 ·intro p q h;rw[E p] at h
  cases e:iE I p with
  | none=>rw[e] at h;cases h
  | some c=>
   rw[e] at h;injection h with h
   obtain⟨hp,h4,-⟩:=qI e;exact⟨⟨hp,.inl ⟨rfl,rfl,h4⟩⟩,by rw[<-h,hx.pg p hp];exact h4⟩
 ·rintro p j ⟨-,⟨e,-⟩|⟨e|e,-⟩⟩ <;> omega
 ·intro p c h;rw[hl.c p] at h;obtain⟨hp,h4,-⟩:=qI h;obtain⟨y,J,C,Q,B,F,K,N⟩:=pC hc u hl h;refine⟨y,?_⟩;rw[hx.pg p hp];have G:(I.pg p).nx=bE (S.pl c) p/\(I.pg p).pv=bH (S.pl c) p:=by
   by_cases L:p∈S.pl c
   ·obtain⟨j,d,e⟩:=List.mem_iff_getElem.1 L;have e:(S.pl c).getD j 0=p:=(by rw[ai,bo d];exact e);obtain⟨k1,k2⟩:=U c y j d;have n1:=vD _ (A c y) j d;have Y:=vC _ (A c y) j d;rw[e] at k1 k2 n1 Y;exact⟨k1.trans n1.symm,k2.trans Y.symm⟩
   ·have hf:S.fl p=[]:=Decidable.not_not.1 fun T=>L ((MH hc u hl y).2 ⟨h,T⟩)
    have v:=W.fst1_none ((PF I).symm.trans (W.chk_zero hc 10 (by decide))) p hp;unfold W.ok11 at v;rw[h4,F,C,hf,aa] at v;have e:((aF c-([] : List Nat).length:Nat):Int)=((W.celN9 c:Nat):Int):=rfl;rw[e] at v;simp only[decide_true,Bool.and_self,Bool.not_true,Bool.false_or,bu,bW] at v;rw[sT L,oU L];exact v
  exact⟨h4,J,C,F,G.1,G.2,(hl.fl p c h).2.1,N⟩
 ·intro p c h;rw[hl.c p] at h;obtain⟨hp,-⟩:=qI h;obtain⟨y,J,C,Q,B,F,K,N⟩:=pC hc u hl h;exact⟨Q,fun i hi=>((B i).1 hi).1,rO hc hx hp y _ (fun i hi=>((B i).1 hi).1) (hl.fl p c h).2.2⟩
 ·intro p c h;rw[hl.c p] at h;obtain⟨y,J,C,Q,B,F,K,N⟩:=pC hc u hl h;omega
 ·intro p c h;rw[hl.c p] at h;obtain⟨y,J,C,Q,B,F,K,N⟩:=pC hc u hl h;exact K
 ·rw[hx.bS,b,show((I.lim.toNat:Nat):Int)=I.lim by omega,show((I.ord.toNat:Nat):Int)=I.ord by omega];exact z
 ·rw[hx.mn,b,<-q1,dg _ (ax _)];omega
 ·intro j d i hi;rw[hx.mn] at hi;rw[hx.wd j d];exact(wA (h7 j (by rw[<-b];exact d))).2 i hi
 ·intro i hi;rw[hx.mn] at hi;rw[hx.pg i hi];exact u i hi
 ·intro c f;rw[(jY.at (cod:=fun i=>(i:Int)) (fun p i h=>(W.dec10_i h).2.1) _ _ _ (hl.pl c f).2).1]
  cases S.pl c with
  | nil=>rfl
  | cons a l=>rw[ae (by simp)];rfl
end
end Go.Proofs.YtfmgnljlkdmndaaGreatDoor
