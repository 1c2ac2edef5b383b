/-
  Own text. '==' on numbers with u.
-/
import Derived.Test.YtmohopjblhgdiaaGreatDoorMRegT
import Derived.Test.YtmohopjblhgdiaaGreatDoorFp2Spec
namespace Go.Proofs.YtmohopjblhgdiaaGreatDoor.Fp2
set_option maxRecDepth 100000
open Go Go.RowKit Go.Proofs.YtmohopjblhgdiaaGreatDoor.Reg
theorem eqok6 : EqOK Tryz.prog 9999 24 6 := eqok_arr (d := 9997) Tryz.underlying24 Tryz.underlying22 (by kernel_rfl) (by kernel_rfl)
theorem eqok2 : EqOK Tryz.prog 10000 26 12 := eqok_two (n := 6) eqok6 Tryz.underlying24 rfl (by kernel_rfl) Tryz.underlying26 (by kernel_rfl) (by kernel_rfl)
theorem gd2 : Tryz.prog.eqGuardType Tryz.prog.depth 26 = false := by kernel_rfl
end Go.Proofs.YtmohopjblhgdiaaGreatDoor.Fp2
