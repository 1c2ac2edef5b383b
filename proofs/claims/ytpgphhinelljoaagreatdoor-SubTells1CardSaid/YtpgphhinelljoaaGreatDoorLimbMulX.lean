/-
  Own text. The contract of package limb: Mul, its block told whole.
-/
import Derived.Test.YtpgphhinelljoaaGreatDoorLimbOwnE
namespace Go.Proofs.YtpgphhinelljoaaGreatDoor.Limb
open Go Go.RowKit Go.Proofs.YtpgphhinelljoaaGreatDoor.Reg Go.Proofs.YtpgphhinelljoaaGreatDoor.Base Go.Proofs.YtpgphhinelljoaaGreatDoor.Bits

end Go.Proofs.YtpgphhinelljoaaGreatDoor.Limb
