/-
  Own text.
-/
import Derived.Test.YtfjiinaekcibhaaGreatDoorMCu
import Derived.Test.YtfjiinaekcibhaaGreatDoorArr3
import Derived.Test.YtfjiinaekcibhaaGreatDoorMLay
set_option linter.unusedVariables false
namespace Go.Proofs.YtfjiinaekcibhaaGreatDoor
namespace S13C
open Go Go.ChangeShapes Go.WideShapes Go.ChangeAt Go.RowKit Reg Base Limb Sx Fp2 S13R
section
variable {H:Type} {enc:TypeId×Value→H} {w:World} {base:Nat} {spare:Nat→Bool} {held:Bool}
set_option maxRecDepth 100000 in
theorem flat_g2:FlatB enc Tryz.prog w base spare held .u64 43 24:=
 flatb_two (n:=12) Fp2.flat_fp2 Tryz.underlying4 Tryz.underlying43 (by kernel_rfl) (by kernel_rfl) (by kernel_rfl) (by kernel_rfl)
end
end S13C
end Go.Proofs.YtfjiinaekcibhaaGreatDoor
