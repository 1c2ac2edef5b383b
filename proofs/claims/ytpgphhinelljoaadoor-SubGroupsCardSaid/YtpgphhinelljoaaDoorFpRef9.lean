/-
  Own text. The contracts of layer 4's reference: Bytes.
-/
import Derived.Test.YtpgphhinelljoaaDoorMFpR
namespace Go.Proofs.YtpgphhinelljoaaDoor.Fp
set_option linter.unusedVariables false
open Go Go.RowKit Go.Proofs.YtpgphhinelljoaaDoor.Reg Go.Proofs.YtpgphhinelljoaaDoor.Base Go.Proofs.YtpgphhinelljoaaDoor.Limb Go.Proofs.YtpgphhinelljoaaDoor.Bits

end Go.Proofs.YtpgphhinelljoaaDoor.Fp
