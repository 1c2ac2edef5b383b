/-
  Own text.
-/
import Derived.Test.YtjamcbjghffboaaGreatDoorLimbOwnE
namespace Go.Proofs.YtjamcbjghffboaaGreatDoor
namespace Limb
open Go Go.RowKit Reg Base Bits
end Limb
end Go.Proofs.YtjamcbjghffboaaGreatDoor
