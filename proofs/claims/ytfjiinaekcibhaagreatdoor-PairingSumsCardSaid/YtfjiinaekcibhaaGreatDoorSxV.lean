/-
  Own text.
-/
import Derived.Test.YtfjiinaekcibhaaGreatDoorSxR
import Derived.Test.YtfjiinaekcibhaaGreatDoorRegV
set_option linter.unusedVariables false
set_option linter.unusedSimpArgs false
namespace Go.Proofs.YtfjiinaekcibhaaGreatDoor
namespace SxV
open Go Go.RowKit Reg Base Sx SxR
section
variable {P:Program} {C:Cx} {G:World→Prop} {m N f S:Nat} {fn:Func} {R:Code} {ops:Array Oper} {L:Array Bool} {sl:List AV} {bs:List Bk} {q:List Bool} {gs:List Nat} {a:Act} {w y:World} {obs:List Ob} {vs:List AV} {Q:Ending→World→Prop}
end
end SxV
end Go.Proofs.YtfjiinaekcibhaaGreatDoor
