/-
  Own text. Lemmas on conjugates and parts of numbers with u. Speaks of no landed body.
-/
import Derived.Test.YtmohopjblhgdiaaGreatDoorFp2Eq
import Derived.Test.YtmohopjblhgdiaaGreatDoorMFp2M
namespace Go.Proofs.YtmohopjblhgdiaaGreatDoor.Fp2
set_option linter.unusedVariables false
open Go Go.RowKit Go.Proofs.YtmohopjblhgdiaaGreatDoor.Reg Go.Proofs.YtmohopjblhgdiaaGreatDoor.Base Go.Proofs.YtmohopjblhgdiaaGreatDoor.Limb Go.Proofs.YtmohopjblhgdiaaGreatDoor.Fp
theorem gdF : Tryz.prog.eqGuardType Tryz.prog.depth 24 = false := by kernel_rfl
section
variable (p q : G)
end
end Go.Proofs.YtmohopjblhgdiaaGreatDoor.Fp2
