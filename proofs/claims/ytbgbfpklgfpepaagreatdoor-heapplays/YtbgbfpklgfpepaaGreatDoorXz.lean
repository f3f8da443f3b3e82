import Derived.Test.YtbgbfpklgfpepaaGreatDoorXy
set_option maxRecDepth 1000000
set_option maxHeartbeats 80000000
namespace Go.Proofs.YtbgbfpklgfpepaaGreatDoor
open Tryz
open Go.RowKit
set_option linter.unusedVariables false
def Q1:Sb:=bC (bL qH 0 0) 0 0 (List.range' 1 (aH 0-1))
def Q2:Sb:=bC (bL Q1 1 1) 1 1 (List.range' 1 (aH 1-1))
theorem fd1(h L B F:Int)(w:World):Sem.run prog (Instr.field 35 (.agg #[.int .u64 h,.int .u64 L,.int .i64 B,.int .i64 F]) 1) w=.ok (.int .u64 L) w:=by kernel_rfl
theorem yX:M.mayB 65536 ((2:Nat):Int) ((1:Nat):Int)=true:=by decide
theorem QR(w:World)(hT:lS w):
  Calls prog 9 #[.agg #[.int .u64 65536,.int .i64 2,.int .i64 1]] w fun e w'=>∃ hb,e=.returned (.tuple #[.pointer (some ⟨hb,0,none⟩),.int .i64 0])/\KH w w' hb 0 [] [] [] qH false:=by
 refine(CN 65536 (by decide) 2 1 (by decide) (by decide) yX (by decide) w hT).mono ?_;rintro e w' ⟨hb,sb,lw,x,rfl,H,e1,e2,e3,e4,e5⟩;exact⟨hb,rfl,sb,lw,x,_,_,H,e1,e3,e5,e2,e4,rfl,rfl,fun e=>by cases e⟩
theorem NM{w1 W:World}{hb:Nat}(s:KH w1 W hb 0 [] [] [] qH false):Calls prog 10 #[.pointer (some ⟨hb,0,none⟩),.int .u64 0,.bool false] W fun e w'=>e=tE 65536 0/\KH w1 w' hb 8192 [1] [] [(0,0)] Q1 false:=s.mal_grow 0 rfl 0 (by decide) 4 (by decide) (by decide) 0 (by decide) rfl rfl (by decide)
theorem NL{w1 W:World}{hb:Nat}(s:KH w1 W hb 8192 [1] [] [(0,0)] Q1 false):Calls prog 10 #[.pointer (some ⟨hb,0,none⟩),.int .u64 17,.bool true] W fun e w'=>e=tE 69632 0/\KH w1 w' hb 8192 [] [] [(0,0),(1,0)] Q2 false:=s.mal_here 17 (by decide) true 5 (by decide) (by decide) 1 (by decide) rfl rfl
theorem NK{w1 W:World}{hb:Nat}(s:KH w1 W hb 8192 [] [] [(0,0),(1,0)] Q2 false):Calls prog 10 #[.pointer (some ⟨hb,0,none⟩),.int .u64 4097,.bool true] W fun e w'=>e=tE 0 2/\KH w1 w' hb 8192 [] [] [(0,0),(1,0)] Q2 false:=s.mal_stuck 4097 (by decide) true 13 (by decide) (by decide) (.inl rfl) (.inr ⟨1,by decide,rfl⟩)
theorem NJ{w1 W:World}{hb:Nat}(s:KH w1 W hb 8192 [] [] [(0,0),(1,0)] Q2 false):Calls prog 13 #[.pointer (some ⟨hb,0,none⟩)] W fun e w'=>e=.returned (.agg #[.int .u64 8192,.int .u64 48,.int .i64 2,.int .i64 0])/\KH w1 w' hb 8192 [] [] [(0,0),(1,0)] Q2 false:=s.stats2 0 1 rfl rfl 48 2 (by decide +kernel) (by decide +kernel)
theorem QQ(w:World)(hT:lS w):Calls prog 8 #[] w fun e w'=>e=.returned (.bool true)/\Kt nO w w':=by
 have NW:=aA (QR w hT);clear hT;go_enter func8,ntmps8;go_wp2_with fail;refine NW.out.mono ?_;rintro e W0 ⟨hb,rfl,hs⟩;have S0:=aA hs;clear hs NW;go_wp2_with fail;refine(NM S0.out).mono ?_;rintro e W1 ⟨rfl,hs⟩;have S1:=aA hs;clear hs S0;go_wp2_with fail;refine(NL S1.out).mono ?_;rintro e W2 ⟨rfl,hs⟩;have S2:=aA hs;clear hs S1;go_wp2_with fail;refine(NK S2.out).mono ?_;rintro e W3 ⟨rfl,hs⟩;have S3:=aA hs;clear hs S2;go_wp2_with fail;refine(NJ S3.out).mono ?_;rintro e W4 ⟨rfl,hs⟩;have S4:=aA hs;clear hs S3;go_wp2_with fail;rw[fd1];go_wp2_with fail;go_ret;exact⟨rfl,S4.out.kp⟩
end Go.Proofs.YtbgbfpklgfpepaaGreatDoor
