/-
  Own text.
-/
import Derived.Test.YtfjiinaekcibhaaGreatDoorLimbOwnD
namespace Go.Proofs.YtfjiinaekcibhaaGreatDoor
namespace Limb
open Go Go.RowKit Reg Base Bits
end Limb
end Go.Proofs.YtfjiinaekcibhaaGreatDoor
