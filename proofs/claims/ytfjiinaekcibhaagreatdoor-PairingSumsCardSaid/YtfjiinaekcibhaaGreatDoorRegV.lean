/-
  Own text.
-/
import Derived.Test.YtfjiinaekcibhaaGreatDoorMRegT
import Derived.Test.YtfjiinaekcibhaaGreatDoorMReg
import Derived.Great.Frames
set_option linter.unusedVariables false
set_option linter.unusedSimpArgs false
namespace Go.Proofs.YtfjiinaekcibhaaGreatDoor
namespace Reg
open Go Go.RowKit Base
section
variable {P:Program} {ops:Array Oper} {md:Region.Mode} {Q:Exit→Act→World→Prop}
def kpE (B:Nat)(t:TypeId)(z:Array Value)(y:World):Option Nat→Prop
 |none=>True
 |some g=>Has y g t z∧B≤g
end
end Reg
end Go.Proofs.YtfjiinaekcibhaaGreatDoor
