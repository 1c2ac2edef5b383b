/-
  Own text. Lemmas on conjugates and parts of numbers with u. Speaks of no landed body.
-/
import Derived.Test.YtmohopjblhgdiaaDoorFp2Eq
import Derived.Test.YtmohopjblhgdiaaDoorMFp2M
namespace Go.Proofs.YtmohopjblhgdiaaDoor.Fp2
set_option linter.unusedVariables false
open Go Go.RowKit Go.Proofs.YtmohopjblhgdiaaDoor.Reg Go.Proofs.YtmohopjblhgdiaaDoor.Base Go.Proofs.YtmohopjblhgdiaaDoor.Limb Go.Proofs.YtmohopjblhgdiaaDoor.Fp
theorem gdF : Tryd.prog.eqGuardType Tryd.prog.depth 24 = false := by kernel_rfl
section
variable (p q : G)
end
end Go.Proofs.YtmohopjblhgdiaaDoor.Fp2
