/-
  Own text. '==' on numbers with v.
-/
import Derived.Test.YtpkbbdhpdplkeaaDoorMRegT
import Derived.Test.YtpkbbdhpdplkeaaDoorFp6Ref
namespace Go.Proofs.YtpkbbdhpdplkeaaDoor.Fp6
open Go Go.RowKit Go.Proofs.YtpkbbdhpdplkeaaDoor.Reg
theorem eqok6_ : EqOK Tryd.prog 9998 24 6 := eqok_arr (d := 9996) Tryd.underlying24 Tryd.underlying22 (by kernel_rfl) (by kernel_rfl)
theorem eqok2_ : EqOK Tryd.prog 9999 26 12 := eqok_parts (n := 6) (m := 2) eqok6_ Tryd.underlying24 rfl (by kernel_rfl) Tryd.underlying26 (by kernel_rfl) (by kernel_rfl)
theorem eqokh : EqOK Tryd.prog 10000 28 36 := eqok_parts (n := 12) (m := 3) eqok2_ Tryd.underlying26 rfl (by kernel_rfl) Tryd.underlying28 (by kernel_rfl) (by kernel_rfl)
theorem gdh : Tryd.prog.eqGuardType Tryd.prog.depth 28 = false := by kernel_rfl
end Go.Proofs.YtpkbbdhpdplkeaaDoor.Fp6
