/-
  Own text. The contract of package limb: Mul.
-/
import Derived.Test.YtpgphhinelljoaaGreatDoorLimbOwnD
namespace Go.Proofs.YtpgphhinelljoaaGreatDoor.Limb
open Go Go.RowKit Go.Proofs.YtpgphhinelljoaaGreatDoor.Reg Go.Proofs.YtpgphhinelljoaaGreatDoor.Base Go.Proofs.YtpgphhinelljoaaGreatDoor.Bits

end Go.Proofs.YtpgphhinelljoaaGreatDoor.Limb
