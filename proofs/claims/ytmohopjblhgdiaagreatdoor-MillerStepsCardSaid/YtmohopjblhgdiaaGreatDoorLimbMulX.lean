/-
  Own text. The contract of package limb: Mul, its block told whole.
-/
import Derived.Test.YtmohopjblhgdiaaGreatDoorLimbOwnE
namespace Go.Proofs.YtmohopjblhgdiaaGreatDoor.Limb
open Go Go.RowKit Go.Proofs.YtmohopjblhgdiaaGreatDoor.Reg Go.Proofs.YtmohopjblhgdiaaGreatDoor.Base Go.Proofs.YtmohopjblhgdiaaGreatDoor.Bits

end Go.Proofs.YtmohopjblhgdiaaGreatDoor.Limb
