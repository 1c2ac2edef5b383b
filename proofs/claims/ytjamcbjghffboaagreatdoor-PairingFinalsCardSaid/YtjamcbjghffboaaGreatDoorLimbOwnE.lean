/-
  Own text.
-/
import Derived.Test.YtjamcbjghffboaaGreatDoorLimbOwnD
namespace Go.Proofs.YtjamcbjghffboaaGreatDoor
namespace Limb
open Go Go.RowKit Reg Base Bits
end Limb
end Go.Proofs.YtjamcbjghffboaaGreatDoor
