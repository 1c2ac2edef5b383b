/-
  Own text. In a drawn region: a call whose answer is not known ahead (a slice of its own memory). Speaks of no program.
-/
import Derived.Test.YtmohopjblhgdiaaGreatDoorSxV
namespace Go.Proofs.YtmohopjblhgdiaaGreatDoor.SxV
set_option linter.unusedVariables false
set_option linter.unusedSimpArgs false
open Go Go.RowKit Go.Proofs.YtmohopjblhgdiaaGreatDoor.Reg Go.Proofs.YtmohopjblhgdiaaGreatDoor.Base Go.Proofs.YtmohopjblhgdiaaGreatDoor.Sx Go.Proofs.YtmohopjblhgdiaaGreatDoor.SxR
section
variable {P : Program} {ops : Array Oper} {Q : Exit → Act → World → Prop}
end
end Go.Proofs.YtmohopjblhgdiaaGreatDoor.SxV
