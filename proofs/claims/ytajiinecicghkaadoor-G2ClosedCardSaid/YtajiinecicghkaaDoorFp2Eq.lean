/-
  Own text. '==' on numbers with u.
-/
import Derived.Test.YtajiinecicghkaaDoorMRegT
import Derived.Test.YtajiinecicghkaaDoorFp2Spec
namespace Go.Proofs.YtajiinecicghkaaDoor.Fp2
set_option maxRecDepth 100000
open Go Go.RowKit Go.Proofs.YtajiinecicghkaaDoor.Reg
theorem eqok6 : EqOK Tryd.prog 9999 25 6 := eqok_arr (d := 9997) Tryd.underlying25 Tryd.underlying23 (by kernel_rfl) (by kernel_rfl)
theorem eqok2 : EqOK Tryd.prog 10000 27 12 := eqok_two (n := 6) eqok6 Tryd.underlying25 rfl (by kernel_rfl) Tryd.underlying27 (by kernel_rfl) (by kernel_rfl)
theorem gd2 : Tryd.prog.eqGuardType Tryd.prog.depth 27 = false := by kernel_rfl
end Go.Proofs.YtajiinecicghkaaDoor.Fp2
