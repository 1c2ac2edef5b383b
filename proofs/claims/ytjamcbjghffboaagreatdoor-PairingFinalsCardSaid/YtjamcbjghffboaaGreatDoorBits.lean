/-
  Own text.
-/
import Derived.Test.YtjamcbjghffboaaGreatDoorMReg
import Derived.Laws.MathBits
import Derived.Shelf.Spec.BitsCarry
set_option maxRecDepth 100000
namespace Go.Proofs.YtjamcbjghffboaaGreatDoor
namespace Bits
open Go Go.RowKit Reg Base
theorem addc_run (x y c:Int)(hx:0<=x)(hy:0<=y)(hc0:0<=c)(hc:c<=1)(w:World) :
  (callFunc 130 #[.int .u64 x,.int .u64 y,.int .u64 c]).run Tryz.prog w =
   .ok (.value (.tuple #[.int .u64 ((x+y+c)%18446744073709551616),.int .u64 ((x+y+c)/18446744073709551616)])) w:=by
 rw[run_callFunc_extern Tryz.func130 (by kernel_rfl) (by kernel_rfl) (by kernel_rfl) (e:=add64Entry) (by kernel_rfl),run_add64 x y c hx hy hc0 hc]
 rfl
theorem subc_run (x y c:Int)(hx:0<=x)(hy:0<=y)(hy1:y<=18446744073709551615)(hc0:0<=c)(hc:c<=1)(w:World) :
  (callFunc 157 #[.int .u64 x,.int .u64 y,.int .u64 c]).run Tryz.prog w =
   .ok (.value (.tuple #[.int .u64 ((x-y-c)%18446744073709551616),.int .u64 (if x<y+c then 1 else 0)])) w:=by
 obtain⟨X,rfl⟩:=Int.eq_ofNat_of_zero_le hx
 obtain⟨Y,rfl⟩:=Int.eq_ofNat_of_zero_le hy
 obtain⟨C,rfl⟩:=Int.eq_ofNat_of_zero_le hc0
 rw[run_callFunc_extern Tryz.func157 (by kernel_rfl) (by kernel_rfl) (by kernel_rfl) (e:=sub64Entry) (by kernel_rfl),run_sub64 X Y C (by omega)]
 simp only[Result.andThen]
 have e2:(((X+18446744073709551616-Y-C)%18446744073709551616:Nat):Int)=((X:Int)-Y-C)%18446744073709551616:=by omega
 have e3:((if X<Y+C then 1 else 0:Nat):Int)=if (X:Int)<Y+C then 1 else 0:=by
  by_cases h:X<Y+C
  ·rw[if_pos h,if_pos (by omega)];rfl
  ·rw[if_neg h,if_neg (by omega)];rfl
 rw[e2,e3]
set_option maxHeartbeats 1000000 in
theorem mul64_c (x y:Int)(hx:0<=x)(hx1:x<=18446744073709551615)(hy:0<=y)(hy1:y<=18446744073709551615)(w:World) :
  Calls Tryz.prog 129 #[.int .u64 x,.int .u64 y] w fun e w'=>e=.returned (.tuple #[.int .u64 (x*y/18446744073709551616),.int .u64 (x*y%18446744073709551616)])/\w=w':=by
 have ar:=mul64_arith x y hx (by omega) hy (by omega)
 have AR:Keep _:=⟨ar⟩
 clear ar
 go_enter Tryz.func129,Tryz.ntmps129
 go_wp2
 go_ret2
 refine⟨?_,rfl⟩
 have m1:bits .and .u64 x 4294967295=x%4294967296:=and_low32 x hx (by omega)
 have m2:bits .and .u64 y 4294967295=y%4294967296:=and_low32 y hy (by omega)
 have mm:∀z:Int,bits .and .u64 (z%18446744073709551616) 4294967295=z%18446744073709551616%4294967296:=fun z=>and_low32 _ (by omega) (by omega)
 simp only[m1,m2,IntKind.wrap_u64,mm]
 rw[AR.out]
 rfl
end Bits
end Go.Proofs.YtjamcbjghffboaaGreatDoor
