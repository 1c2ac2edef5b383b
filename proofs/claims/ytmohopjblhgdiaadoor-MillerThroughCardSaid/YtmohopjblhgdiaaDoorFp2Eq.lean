/-
  Own text. '==' on numbers with u.
-/
import Derived.Test.YtmohopjblhgdiaaDoorMRegT
import Derived.Test.YtmohopjblhgdiaaDoorFp2Spec
namespace Go.Proofs.YtmohopjblhgdiaaDoor.Fp2
set_option maxRecDepth 100000
open Go Go.RowKit Go.Proofs.YtmohopjblhgdiaaDoor.Reg
theorem eqok6 : EqOK Tryd.prog 9999 24 6 := eqok_arr (d := 9997) Tryd.underlying24 Tryd.underlying22 (by kernel_rfl) (by kernel_rfl)
theorem eqok2 : EqOK Tryd.prog 10000 26 12 := eqok_two (n := 6) eqok6 Tryd.underlying24 rfl (by kernel_rfl) Tryd.underlying26 (by kernel_rfl) (by kernel_rfl)
theorem gd2 : Tryd.prog.eqGuardType Tryd.prog.depth 26 = false := by kernel_rfl
end Go.Proofs.YtmohopjblhgdiaaDoor.Fp2
