/-
  Own text. Lemmas on conjugates and parts of numbers with u. Speaks of no landed body.
-/
import Derived.Test.YtpgphhinelljoaaGreatDoorFp2Eq
import Derived.Test.YtpgphhinelljoaaGreatDoorMFp2M
namespace Go.Proofs.YtpgphhinelljoaaGreatDoor.Fp2
set_option linter.unusedVariables false
open Go Go.RowKit Go.Proofs.YtpgphhinelljoaaGreatDoor.Reg Go.Proofs.YtpgphhinelljoaaGreatDoor.Base Go.Proofs.YtpgphhinelljoaaGreatDoor.Limb Go.Proofs.YtpgphhinelljoaaGreatDoor.Fp
theorem gdF : Tryz.prog.eqGuardType Tryz.prog.depth 24 = false := by kernel_rfl
section
variable (p q : G)
end
end Go.Proofs.YtpgphhinelljoaaGreatDoor.Fp2
