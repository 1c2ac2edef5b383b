/-
  Own text. Lemmas on conjugates and parts of numbers with u. Speaks of no landed body.
-/
import Derived.Test.YtpgphhinelljoaaDoorFp2Eq
import Derived.Test.YtpgphhinelljoaaDoorMFp2M
namespace Go.Proofs.YtpgphhinelljoaaDoor.Fp2
set_option linter.unusedVariables false
open Go Go.RowKit Go.Proofs.YtpgphhinelljoaaDoor.Reg Go.Proofs.YtpgphhinelljoaaDoor.Base Go.Proofs.YtpgphhinelljoaaDoor.Limb Go.Proofs.YtpgphhinelljoaaDoor.Fp
theorem gdF : Tryd.prog.eqGuardType Tryd.prog.depth 24 = false := by kernel_rfl
section
variable (p q : G)
end
end Go.Proofs.YtpgphhinelljoaaDoor.Fp2
