/-
  Own text. '==' on numbers with w.
-/
import Derived.Test.YtpnpiiocpjbffaaDoorMRegT
import Derived.Test.YtpnpiiocpjbffaaDoorFp2Spec
namespace Go.Proofs.YtpnpiiocpjbffaaDoor.Fp12
open Go Go.RowKit Go.Proofs.YtpnpiiocpjbffaaDoor.Reg
theorem eqok6__ : EqOK Tryd.prog 9997 24 6 := eqok_arr (d := 9995) Tryd.underlying24 Tryd.underlying22 (by kernel_rfl) (by kernel_rfl)
theorem eqok2__ : EqOK Tryd.prog 9998 26 12 := eqok_parts (n := 6) (m := 2) eqok6__ Tryd.underlying24 rfl (by kernel_rfl) Tryd.underlying26 (by kernel_rfl) (by kernel_rfl)
theorem eqokh__ : EqOK Tryd.prog 9999 28 36 := eqok_parts (n := 12) (m := 3) eqok2__ Tryd.underlying26 rfl (by kernel_rfl) Tryd.underlying28 (by kernel_rfl) (by kernel_rfl)
theorem eqokk : EqOK Tryd.prog 10000 30 72 := eqok_parts (n := 36) (m := 2) eqokh__ Tryd.underlying28 rfl (by kernel_rfl) Tryd.underlying30 (by kernel_rfl) (by kernel_rfl)
theorem gdk : Tryd.prog.eqGuardType Tryd.prog.depth 30 = false := by kernel_rfl
end Go.Proofs.YtpnpiiocpjbffaaDoor.Fp12
