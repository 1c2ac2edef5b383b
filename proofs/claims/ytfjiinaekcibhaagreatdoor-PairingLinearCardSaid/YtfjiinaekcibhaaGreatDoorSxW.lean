/-
  Own text.
-/
import Derived.Test.YtfjiinaekcibhaaGreatDoorSxV
set_option linter.unusedVariables false
set_option linter.unusedSimpArgs false
namespace Go.Proofs.YtfjiinaekcibhaaGreatDoor
namespace SxV
open Go Go.RowKit Reg Base Sx SxR
section
variable {P:Program} {ops:Array Oper} {Q:Exit→Act→World→Prop}
end
end SxV
end Go.Proofs.YtfjiinaekcibhaaGreatDoor
