/-
  Own text. The contracts of layer 4's reference: Bytes.
-/
import Derived.Test.YtpgphhinelljoaaGreatDoorMFpR
namespace Go.Proofs.YtpgphhinelljoaaGreatDoor.Fp
set_option linter.unusedVariables false
open Go Go.RowKit Go.Proofs.YtpgphhinelljoaaGreatDoor.Reg Go.Proofs.YtpgphhinelljoaaGreatDoor.Base Go.Proofs.YtpgphhinelljoaaGreatDoor.Limb Go.Proofs.YtpgphhinelljoaaGreatDoor.Bits

end Go.Proofs.YtpgphhinelljoaaGreatDoor.Fp
