/-
  Own text. Lemmas on conjugates and parts of numbers with u. Speaks of no landed body.
-/
import Derived.Test.YtajiinecicghkaaDoorFp2Eq
import Derived.Test.YtajiinecicghkaaDoorMFp2M
namespace Go.Proofs.YtajiinecicghkaaDoor.Fp2
set_option linter.unusedVariables false
open Go Go.RowKit Go.Proofs.YtajiinecicghkaaDoor.Reg Go.Proofs.YtajiinecicghkaaDoor.Base Go.Proofs.YtajiinecicghkaaDoor.Limb Go.Proofs.YtajiinecicghkaaDoor.Fp
theorem gdF : Tryd.prog.eqGuardType Tryd.prog.depth 25 = false := by kernel_rfl
section
variable (p q : G)
end
end Go.Proofs.YtajiinecicghkaaDoor.Fp2
