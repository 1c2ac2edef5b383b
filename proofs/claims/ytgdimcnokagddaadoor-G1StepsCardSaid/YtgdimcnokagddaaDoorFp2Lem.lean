/-
  Own text. Lemmas on conjugates and parts of numbers with u. Speaks of no landed body.
-/
import Derived.Test.YtgdimcnokagddaaDoorFp2Eq
import Derived.Test.YtgdimcnokagddaaDoorMFp2M
namespace Go.Proofs.YtgdimcnokagddaaDoor.Fp2
set_option linter.unusedVariables false
open Go Go.RowKit Go.Proofs.YtgdimcnokagddaaDoor.Reg Go.Proofs.YtgdimcnokagddaaDoor.Base Go.Proofs.YtgdimcnokagddaaDoor.Limb Go.Proofs.YtgdimcnokagddaaDoor.Fp
theorem gdF : Tryd.prog.eqGuardType Tryd.prog.depth 25 = false := by kernel_rfl
section
variable (p q : G)
end
end Go.Proofs.YtgdimcnokagddaaDoor.Fp2
