/-
  Own text. The contracts of layer 4's reference: Bytes.
-/
import Derived.Test.YtmohopjblhgdiaaGreatDoorMFpR
namespace Go.Proofs.YtmohopjblhgdiaaGreatDoor.Fp
set_option linter.unusedVariables false
open Go Go.RowKit Go.Proofs.YtmohopjblhgdiaaGreatDoor.Reg Go.Proofs.YtmohopjblhgdiaaGreatDoor.Base Go.Proofs.YtmohopjblhgdiaaGreatDoor.Limb Go.Proofs.YtmohopjblhgdiaaGreatDoor.Bits

end Go.Proofs.YtmohopjblhgdiaaGreatDoor.Fp
