/-
  Own text. In a drawn region: a call whose answer is not known ahead (a slice of its own memory). Speaks of no program.
-/
import Derived.Test.YtmohopjblhgdiaaDoorSxV
namespace Go.Proofs.YtmohopjblhgdiaaDoor.SxV
set_option linter.unusedVariables false
set_option linter.unusedSimpArgs false
open Go Go.RowKit Go.Proofs.YtmohopjblhgdiaaDoor.Reg Go.Proofs.YtmohopjblhgdiaaDoor.Base Go.Proofs.YtmohopjblhgdiaaDoor.Sx Go.Proofs.YtmohopjblhgdiaaDoor.SxR
section
variable {P : Program} {ops : Array Oper} {Q : Exit → Act → World → Prop}
end
end Go.Proofs.YtmohopjblhgdiaaDoor.SxV
